import PyProof.Rows.All
import Wide.All
import OpenK.AllK
import Wide.FinOn
import Lean
import PyProof.EqAt
import PyProof.EqKinds
import PyProof.TupleCall
import PySem.Challenge.RW_stallyard_k15_read
set_option Elab.async false
set_option linter.all false
set_option maxRecDepth 100000
namespace L2
open PySem PySem.Spec PyProof.Rows

abbrev Key := Sum Int Str
def keyIs : Key → Value → Bool
  | .inl k, v => Value.isInt k v
  | .inr x, v => Value.isStrOf x v
def keyH (w : World) : Key → Int
  | .inl k => hashInt k
  | .inr x => hashStr w x
theorem keyIs_shape : ∀ {k : Key} {v : Value}, keyIs k v = true → (∃ i t, k = Sum.inl i ∧ v = Value.int i t) ∨ (∃ x t, k = Sum.inr x ∧ v = Value.str x t)
  | .inl i, v, h => by
    obtain ⟨t, e⟩ := Value.isInt_shape (k := i) (v := v) h
    exact .inl ⟨i, t, rfl, e⟩
  | .inr x, v, h => by
    obtain ⟨t, e⟩ := Value.isStrOf_shape (x := x) (v := v) h
    exact .inr ⟨x, t, rfl, e⟩
theorem key_ll (a b : Int) : decide ((Sum.inl a : Key) = Sum.inl b) = (a == b) := by
  by_cases e : a = b
  · subst e; simp
  · have h : ¬ (Sum.inl a : Key) = Sum.inl b := fun q => e (Sum.inl.inj q)
    rw [decide_eq_false h]
    exact (beq_eq_false_iff_ne.mpr e).symm
theorem key_rr (a b : Str) : decide ((Sum.inr a : Key) = Sum.inr b) = decide (a = b) := by
  by_cases e : a = b
  · subst e; simp
  · have h : ¬ (Sum.inr a : Key) = Sum.inr b := fun q => e (Sum.inr.inj q)
    rw [decide_eq_false h, decide_eq_false e]
theorem key_lr (a : Int) (b : Str) : decide ((Sum.inl a : Key) = Sum.inr b) = false := decide_eq_false (fun q => nomatch q)
theorem key_rl (a : Str) (b : Int) : decide ((Sum.inr a : Key) = Sum.inl b) = false := decide_eq_false (fun q => nomatch q)

def mixKind (prog : Program) (w : World) : PySem.KeyKind prog w Key where
  is := keyIs
  hash := keyH w
  inj := fun v a b ha hb => by
    rcases keyIs_shape ha with ⟨i, t, rfl, rfl⟩ | ⟨x, t, rfl, rfl⟩
    · rcases keyIs_shape hb with ⟨j, u, rfl, e⟩ | ⟨y, u, rfl, e⟩
      · injection e with e1 _; rw [e1]
      · exact nomatch e
    · rcases keyIs_shape hb with ⟨j, u, rfl, e⟩ | ⟨y, u, rfl, e⟩
      · exact nomatch e
      · injection e with e1 _; rw [e1]
  byValue := fun k v h => by
    rcases keyIs_shape h with ⟨i, t, rfl, rfl⟩ | ⟨x, t, rfl, rfl⟩ <;> rfl
  pyHash := fun hv h => by
    rcases keyIs_shape hv with ⟨i, t, rfl, rfl⟩ | ⟨x, t, rfl, rfl⟩
    · exact wpAny_pyHash_int h
    · exact wpAny_pyHash_str h
  eqBool := fun hu hv h => by
    rcases keyIs_shape hu with ⟨i, t, rfl, rfl⟩ | ⟨x, t, rfl, rfl⟩
    · rcases keyIs_shape hv with ⟨j, u, rfl, rfl⟩ | ⟨y, u, rfl, rfl⟩
      · rw [key_ll] at h; exact wpAny_eqBool_int h
      · rw [key_lr] at h; exact SeqAt.EqAt.int_str i t y u _ _ _ _ h
    · rcases keyIs_shape hv with ⟨j, u, rfl, rfl⟩ | ⟨y, u, rfl, rfl⟩
      · rw [key_rl] at h; exact SeqAt.EqAt.str_int x t j u _ _ _ _ h
      · rw [key_rr] at h; exact wpAny_eqBool_str h
  «strs» := fun k x t v h => by
    rcases keyIs_shape h with ⟨i, u, rfl, e⟩ | ⟨y, u, rfl, e⟩
    · exact nomatch e
    · injection e with e1 _
      subst e1
      cases v <;> rfl

end L2

namespace L2
open PySem PySem.Spec PyProof.Rows

inductive V where
  | non | bl (b : Bool) | int (i : Int) | str (x : Str) | byt (b : Array UInt8) | flt (b : UInt64) | ref (a : Addr) | ty (n : String)
  deriving DecidableEq

def RelV : V → Value → Prop
  | .non, u => u = Value.none
  | .bl b, u => u = Value.bool b
  | .int i, u => ∃ t, u = Value.int i t
  | .str x, u => ∃ t, u = Value.str x t
  | .byt b, u => ∃ t, u = Value.bytes b t
  | .flt b, u => ∃ t, u = Value.float b t
  | .ref a, u => u = Value.ref a
  | .ty n, u => u = Value.type n

abbrev Vals : List V → List Value → Prop := Paired RelV
theorem Vals.length {xs : List V} {us : List Value} (r : Vals xs us) : xs.length = us.length := Paired.length r
theorem Vals.get : ∀ {xs : List V} {us : List Value} {i : Nat} {x : V}, Vals xs us → xs[i]? = some x → ∃ u, us[i]? = some u ∧ RelV x u
  | _, _, _, _, .nil, e => by simp at e
  | _, _, 0, _, .cons r _, e => by simp at e; subst e; exact ⟨_, rfl, r⟩
  | _, _, i + 1, x, .cons _ t, e => by
    obtain ⟨u, h1, h2⟩ := Vals.get (i := i) (x := x) t (by simpa using e)
    exact ⟨u, by simpa using h1, h2⟩
theorem Vals.set {x : V} {u : Value} (r : RelV x u) : ∀ {xs : List V} {us : List Value} (i : Nat), Vals xs us → Vals (xs.set i x) (us.set i u)
  | _, _, _, .nil => .nil
  | _, _, 0, .cons _ t => .cons r t
  | _, _, i + 1, .cons q t => .cons q (Vals.set r i t)
theorem Vals.append : ∀ {xs ys : List V} {us ws : List Value}, Vals xs us → Vals ys ws → Vals (xs ++ ys) (us ++ ws)
  | _, _, _, _, .nil, s => s
  | _, _, _, _, .cons r t, s => .cons r (Vals.append t s)
theorem Vals.take : ∀ {xs : List V} {us : List Value} (n : Nat), Vals xs us → Vals (xs.take n) (us.take n)
  | _, _, 0, _ => .nil
  | _, _, _ + 1, .nil => .nil
  | _, _, n + 1, .cons r t => .cons r (Vals.take n t)
theorem Vals.drop : ∀ {xs : List V} {us : List Value} (n : Nat), Vals xs us → Vals (xs.drop n) (us.drop n)
  | _, _, 0, r => r
  | _, _, _ + 1, .nil => .nil
  | _, _, n + 1, .cons _ t => Vals.drop n t
def RelO : Option V → Option Value → Prop
  | some v, some u => RelV v u
  | none, none => True
  | _, _ => False
def KV {κ : Type} : List (κ × V) → List (κ × Value) → Prop := Paired fun (p : κ × V) (q : κ × Value) => p.1 = q.1 ∧ RelV p.2 q.2

def kV : Key → V
  | .inl i => .int i
  | .inr x => .str x

inductive HO where
  /-- a list -/
  | lst (xs : List V)
  /-- a tuple (never changes) -/
  | tup (xs : List V)
  /-- a dict whose keys are ints and texts; one whose keys are tuples of ints and texts (the empty one is both) -/
  | dK (kvs : List (Key × V)) | dT (kvs : List (List Key × V))
  /-- a set of ints: its members, its size -/
  | set (S : Int → Bool) (n : Nat)
  /-- an instance of the class at C, its dict at dx, its attributes -/
  | ins (C dx : Addr) (fs : List (Str × V))
  /-- the dict of the instance at x -/
  | own (x : Addr)
  /-- the dict of an exception -/
  | xd (fs : List (Str × V))
  /-- a bound method, f of x -/
  | met (f x : Addr)
  /-- a range object lo, lo + 1, .. below hi -/
  | rng (lo hi : Int)
  /-- a thing that is known to the object (the script; a dict while a loop walks it): read, never written while it is so -/
  | frz (o : Obj) (u : HO)
  /-- a code object's table -/
  | tbl (ps : Array Value)
  /-- any other thing, by what is true of its one object (a def of one's own: SetO a S n := HO.ext fun h => ..) -/
  | ext (φ : Heap → Prop)

abbrev Hp := Addr → Option HO
def upd (H : Hp) (a : Addr) (o : HO) : Hp := fun b => if b = a then some o else H b
theorem upd_same {H : Hp} {a : Addr} {o : HO} : upd H a o a = some o := by unfold upd; rw [if_pos rfl]
theorem upd_ne {H : Hp} {a b : Addr} {o : HO} (h : b ≠ a) : upd H a o b = H b := by unfold upd; rw [if_neg h]
theorem upd_upd {H : Hp} {a : Addr} {o u : HO} : upd (upd H a o) a u = upd H a u := by
  funext b; unfold upd; split <;> rfl
theorem ne_of {H : Hp} {a b : Addr} {o u : HO} (h : H a = some o) (h' : H b = some u) (d : o ≠ u) : a ≠ b := by
  intro e; subst e; rw [h] at h'; exact d (Option.some.inj h')
theorem ne_of_none {H : Hp} {a b : Addr} {o : HO} (h : H a = some o) (h' : H b = none) : a ≠ b := by
  intro e; subst e; rw [h] at h'; cases h'

section
variable (P : Program) (w : World)
def ObjOk (H : Hp) (h : Heap) (a : Addr) : HO → Prop
  | .lst xs => xs.length ≤ sizeLine ∧ ∃ (its : List Value) (n : Nat), Vals xs its ∧ h.get? a = some { cls := .type "list", data := .seq its.toArray n }
  | .tup xs => xs.length ≤ sizeLine ∧ ∃ its : List Value, Vals xs its ∧ IsTup h a its.toArray
  | .dK kvs => kvs.length ≤ sizeLine ∧ (a == sysModules) = false ∧ ∃ vs, KV kvs vs ∧ h.DictOf (mixKind P w) a vs
  | .dT kvs => kvs.length ≤ sizeLine ∧ (a == sysModules) = false ∧ ∃ xs : List (List Key × Addr × Value),
      Paired (fun (p : List Key × V) (q : List Key × Addr × Value) => p.1 = q.1 ∧ H q.2.1 = some (.tup (p.1.map kV)) ∧ RelV p.2 q.2.2) kvs xs ∧
      ∃ o es ep, h.get? a = some o ∧ o.ExactDict ∧ o.data = .dict es ep ∧ es.toList = xs.map (entryOfKey (tupleKind (mixKind P w))) ∧ (xs.map (·.1)).Nodup
  | .set S n => h.SetOf (intKind P w) a S n
  | .ins C dx fs => H dx = some (.own a) ∧ fs.length ≤ 1000 ∧ dx ≠ a ∧ h.get? a = some (PySem.W.instObj C dx) ∧
      ∃ mA, h.Ns1 dx mA ∧ (∀ f, RelO (fs.lookup f) (mA f)) ∧ PySem.Within mA (fs.map (·.1))
  | .own _ => ∃ o, h.get? a = some o
  | .xd fs => ∃ mA, h.Ns1 a mA ∧ ∀ f, RelO (fs.lookup f) (mA f)
  | .rng lo hi => ∃ t u v, h.get? a = some { cls := .type "range", data := .fields #[.int lo t, .int hi u, .int 1 v] }
  | .frz o u => h.get? a = some o ∧ ObjOk H h a u
  | .tbl ps => h.get? a = some { cls := .none, data := .fields ps }
  | .met f x => h.get? a = some (PySem.W.methodObj (.ref f) (.ref x))
  | .ext φ => φ h ∧ (∃ o, h.get? a = some o) ∧ ∀ h1 h2 : Heap, φ h1 → (∀ o, h1.get? a = some o → h2.get? a = some o) → φ h2
def HOk (H : Hp) (h : Heap) : Prop := ∀ a o, H a = some o → ObjOk P w H h a o
end

section
variable {P : Program} {w : World} {H H' : Hp} {h h' : Heap} {a : Addr} {o : HO}
theorem ObjOk.lt (x : ObjOk P w H h a o) : a < h.objs.size := by
  cases o with
  | lst xs => obtain ⟨_, _, _, _, e⟩ := x; exact Heap.lt_size e
  | tup xs => obtain ⟨_, _, _, p⟩ := x; exact p.lt
  | dK kvs => obtain ⟨_, _, _, _, o, _, _, e, _⟩ := x; exact Heap.lt_size e
  | dT kvs => obtain ⟨_, _, _, _, o, _, _, e, _⟩ := x; exact Heap.lt_size e
  | set S n => obtain ⟨o, _, _, _, e, _⟩ := x; exact Heap.lt_size e
  | ins C dx fs => obtain ⟨_, _, _, e, _⟩ := x; exact Heap.lt_size e
  | own y => obtain ⟨_, e⟩ := x; exact Heap.lt_size e
  | xd fs => obtain ⟨_, ⟨_, _, _, e, _⟩, _⟩ := x; exact Heap.lt_size e
  | rng lo hi => obtain ⟨_, _, _, e⟩ := x; exact Heap.lt_size e
  | frz ob u => obtain ⟨e, _⟩ := x; exact Heap.lt_size e
  | tbl ps => exact Heap.lt_size (show h.get? a = some _ from x)
  | met f y => exact Heap.lt_size (show h.get? a = some _ from x)
  | ext φ => obtain ⟨_, ⟨_, e⟩, _⟩ := x; exact Heap.lt_size e
theorem Paired.mapP {α β : Type} {F G : α → β → Prop} : ∀ {l₁ : List α} {l₂ : List β}, Paired F l₁ l₂ → (∀ a b, F a b → G a b) → Paired G l₁ l₂
  | _, _, .nil, _ => .nil
  | _, _, .cons r t, f => .cons (f _ _ r) (Paired.mapP t f)
theorem ObjOk.stay (x : ObjOk P w H h a o) (k : ∀ b u, (b = a ∨ H b = some (.own a)) → h.get? b = some u → h'.get? b = some u)
    (ho : ∀ b, H b = some (.own a) → H' b = some (.own a)) (ht : ∀ b xs, H b = some (.tup xs) → H' b = some (.tup xs)) : ObjOk P w H' h' a o := by
  induction o with
  | lst xs => obtain ⟨z, its, n, r, e⟩ := x; exact ⟨z, its, n, r, k _ _ (.inl rfl) e⟩
  | tup xs => obtain ⟨z, its, r, ob, e, c⟩ := x; exact ⟨z, its, r, ob, k _ _ (.inl rfl) e, c⟩
  | dK kvs => obtain ⟨z, y, vs, r, ob, es, ep, e, c⟩ := x; exact ⟨z, y, vs, r, ob, es, ep, k _ _ (.inl rfl) e, c⟩
  | dT kvs =>
    obtain ⟨z, y, xs, r, ob, es, ep, e, c⟩ := x
    exact ⟨z, y, xs, Paired.mapP r fun p q z => ⟨z.1, ht _ _ z.2.1, z.2.2⟩, ob, es, ep, k _ _ (.inl rfl) e, c⟩
  | set S n => obtain ⟨ob, es, ep, t, e, c⟩ := x; exact ⟨ob, es, ep, t, k _ _ (.inl rfl) e, c⟩
  | ins C dx fs =>
    obtain ⟨d, z, ne, e, mA, ⟨od, es, ep, e2, c⟩, r⟩ := x
    exact ⟨ho _ d, z, ne, k _ _ (.inl rfl) e, mA, ⟨od, es, ep, k _ _ (.inr d) e2, c⟩, r⟩
  | own y => obtain ⟨ob, e⟩ := x; exact ⟨ob, k _ _ (.inl rfl) e⟩
  | xd fs => obtain ⟨mA, ⟨od, es, ep, e, c⟩, r⟩ := x; exact ⟨mA, ⟨od, es, ep, k _ _ (.inl rfl) e, c⟩, r⟩
  | rng lo hi => obtain ⟨t, u, v, e⟩ := x; exact ⟨t, u, v, k _ _ (.inl rfl) e⟩
  | frz ob u ih => obtain ⟨e, q⟩ := x; exact ⟨k _ _ (.inl rfl) e, ih q⟩
  | tbl ps =>
    have e : h.get? a = some { cls := .none, data := .fields ps } := x
    show h'.get? a = some { cls := .none, data := .fields ps }
    exact k a _ (.inl rfl) e
  | met f y =>
    have e : h.get? a = some (PySem.W.methodObj (.ref f) (.ref y)) := x
    show h'.get? a = some (PySem.W.methodObj (.ref f) (.ref y))
    exact k a _ (.inl rfl) e
  | ext φ => obtain ⟨p, ⟨o, e⟩, st⟩ := x; exact ⟨st _ _ p fun o q => k _ _ (.inl rfl) q, ⟨o, k _ _ (.inl rfl) e⟩, st⟩
theorem HOk.lt (x : HOk P w H h) (e : H a = some o) : a < h.objs.size := (x a o e).lt
theorem HOk.fresh (x : HOk P w H h) (e : h.objs.size ≤ a) : H a = none := by
  cases q : H a with
  | none => rfl
  | some u => exact absurd (Nat.lt_of_lt_of_le (x.lt q) e) (Nat.lt_irrefl _)
theorem HOk.kept (x : HOk P w H h) (k : ∀ b u, h.get? b = some u → h'.get? b = some u) : HOk P w H h' := fun a o e =>
  (x a o e).stay (fun b u _ q => k b u q) (fun _ q => q) fun _ _ q => q
theorem HOk.laid (x : HOk P w H h) (k : ∀ b u, h.get? b = some u → h'.get? b = some u) (hp : h.objs.size ≤ a) (new : ObjOk P w (upd H a o) h' a o) : HOk P w (upd H a o) h' := fun b u e => by
  have hn := x.fresh hp
  by_cases hb : b = a
  · subst hb; rw [upd_same] at e; cases e; exact new
  · rw [upd_ne hb] at e
    exact (x b u e).stay (fun c v _ q => k c v q) (fun c q => by rw [upd_ne (ne_of_none q hn)]; exact q) fun c xs q => by rw [upd_ne (ne_of_none q hn)]; exact q
end

def Rd (H : Hp) (a : Addr) (u : HO) : Prop := H a = some u ∨ ∃ o, H a = some (.frz o u)
theorem Rd.ok {P : Program} {w : World} {H : Hp} {h : Heap} {a : Addr} {u : HO} (r : Rd H a u) (x : HOk P w H h) : ObjOk P w H h a u := by
  rcases r with r | ⟨o, r⟩
  · exact x a u r
  · obtain ⟨_, q⟩ := x a _ r
    exact q
def Mut : Option HO → Prop
  | some (.lst _) => True
  | some (.dK _) => True
  | some (.dT _) => True
  | some (.set _ _) => True
  | some (.ins _ _ _) => True
  | some (.ext _) => True
  | _ => False
section
variable {P : Program} {w : World} {H : Hp} {h h' : Heap} {x e : Addr} {o' : HO}
theorem HOk.write (ok : HOk P w H h) (mu : Mut (H x)) (he : e = x ∨ H e = some (.own x)) (k : ∀ b u, b ≠ e → h.get? b = some u → h'.get? b = some u) (heo : ∃ u, h'.get? e = some u)
    (new : ObjOk P w (upd H x o') h' x o') : HOk P w (upd H x o') h' := fun b u q => by
  have nown : ∀ c y, H c = some (.own y) → c ≠ x := fun c y r z => by subst z; rw [r] at mu; exact mu
  have ntup : ∀ c xs, H c = some (.tup xs) → c ≠ x := fun c xs r z => by subst z; rw [r] at mu; exact mu
  by_cases hb : b = x
  · subst hb; rw [upd_same] at q; cases q; exact new
  · rw [upd_ne hb] at q
    by_cases hbe : b = e
    · have q' : H b = some (.own x) := by
        rcases he with z | z
        · exact absurd (hbe.trans z) hb
        · rw [hbe]; exact z
      rw [q] at q'; cases q'
      obtain ⟨v, hv⟩ := heo
      exact ⟨v, by rw [hbe]; exact hv⟩
    · refine (ok b u q).stay (fun c v hc r => k c v ?_ r) (fun c r => by rw [upd_ne (nown c b r)]; exact r) fun c xs r => by rw [upd_ne (ntup c xs r)]; exact r
      rcases hc with rfl | hc
      · exact hbe
      · rintro rfl
        rcases he with z | z
        · exact nown c b hc z
        · rw [hc] at z; cases z; exact hb rfl
end

structure Un (fs ex : List Addr) (H H' : Hp) (h h' : Heap) : Prop where
  keep : ∀ b o, h.get? b = some o → H b = none → b ∉ fs → b ∉ ex → h'.get? b = some o
  slot : ∀ b o, h.get? b = some o → H b = none → b ∈ fs → b ∉ ex → ∃ sl, h'.get? b = some { o with slots := sl }
  free : ∀ b o, h.get? b = some o → H b = none → b ∉ ex → H' b = none
  there : ∀ b o, h.get? b = some o → b ∉ ex → ∃ o', h'.get? b = some o'
  tups : ∀ b xs, H b = some (.tup xs) → H' b = some (.tup xs)
  frzs : ∀ b o u, H b = some (.frz o u) → H' b = some (.frz o u)
  tbls : ∀ b ps, H b = some (.tbl ps) → ∃ more, H' b = some (.tbl (ps ++ more))
section
variable {fs fs' ex ex' : List Addr} {H H1 H2 : Hp} {h h1 h2 h' : Heap} {a x e : Addr} {o : HO}
theorem Un.any (u : Un fs ex H H1 h h1) {b : Addr} {ob : Obj} (q : h.get? b = some ob) (n : H b = none) (hx : b ∉ ex) : ∃ sl, h1.get? b = some { ob with slots := sl } := by
  by_cases hb : b ∈ fs
  · exact u.slot b ob q n hb hx
  · exact ⟨ob.slots, u.keep b ob q n hb hx⟩
theorem Un.kept (k : ∀ b u, h.get? b = some u → h'.get? b = some u) : Un fs ex H H h h' :=
  ⟨fun b ob q _ _ _ => k b ob q, fun b ob q _ _ _ => ⟨ob.slots, k b ob q⟩, fun _ _ _ n _ => n, fun b ob q _ => ⟨ob, k b ob q⟩, fun _ _ q => q, fun _ _ _ q => q, fun _ ps q => ⟨#[], by rw [q]; simp⟩⟩
theorem Un.refl : Un fs ex H H h h := Un.kept fun _ _ q => q
theorem Un.laid (k : ∀ b u, h.get? b = some u → h'.get? b = some u) (hp : h.objs.size ≤ a) (hn : H a = none) : Un fs ex H (upd H a o) h h' where
  keep := fun b u q _ _ _ => k b u q
  slot := fun b u q _ _ _ => ⟨u.slots, k b u q⟩
  free := fun b u q n _ => by rw [upd_ne (Nat.ne_of_lt (Nat.lt_of_lt_of_le (Heap.lt_size q) hp))]; exact n
  there := fun b u q _ => ⟨u, k b u q⟩
  tups := fun b xs q => by rw [upd_ne (ne_of_none q hn)]; exact q
  frzs := fun b u xs q => by rw [upd_ne (ne_of_none q hn)]; exact q
  tbls := fun b ps q => ⟨#[], by rw [upd_ne (ne_of_none q hn), q]; simp⟩
theorem Un.write (mu : Mut (H x)) (he : e = x ∨ H e = some (.own x)) (k : ∀ b u, b ≠ e → h.get? b = some u → h'.get? b = some u) (heo : ∃ u, h'.get? e = some u) : Un fs ex H (upd H x o) h h' := by
  have hx : ∀ b, H b = none → b ≠ x := fun b n z => by subst z; rw [n] at mu; exact mu
  have hb : ∀ b, H b = none → b ≠ e := fun b n z => by
    subst z
    rcases he with r | r
    · exact hx b n r
    · rw [n] at r; cases r
  have hm : ∀ b u, H b = some u → ¬ Mut (some u) → b ≠ x := fun b u q nm z => by subst z; rw [q] at mu; exact nm mu
  refine ⟨fun b u q n _ _ => k b u (hb b n) q, fun b u q n _ _ => ⟨u.slots, k b u (hb b n) q⟩, fun b u q n _ => by rw [upd_ne (hx b n)]; exact n, fun b u q _ => ?_,
    fun b xs q => by rw [upd_ne (hm b _ q fun z => z)]; exact q, fun b u xs q => by rw [upd_ne (hm b _ q fun z => z)]; exact q, fun b ps q => ⟨#[], by rw [upd_ne (hm b _ q fun z => z), q]; simp⟩⟩
  by_cases hbe : b = e
  · subst hbe; exact heo
  · exact ⟨u, k b u hbe q⟩
end

def trk (h : Heap) (H : Hp) : List Addr := (List.range h.objs.size).filter fun a => (H a).isSome
def hidT (h : Heap) (H : Hp) : Heap := PySem.W.hideAll h (trk h H)
theorem hidT_size (h : Heap) (H : Hp) : (hidT h H).objs.size = h.objs.size := PySem.W.hideAll_size _ _
theorem hidT_get {h : Heap} {H : Hp} {b : Addr} {o : Obj} (e : h.get? b = some o) (n : H b = none) : (hidT h H).get? b = some o :=
  PySem.W.hideAll_get _ e fun hm => by
    have q : (H b).isSome = true := (List.mem_filter.mp hm).2
    rw [n] at q; simp at q
theorem of_hidT {h : Heap} {H : Hp} {b : Addr} {o : Obj} (e : (hidT h H).get? b = some o) : h.get? b = some o ∧ H b = none := by
  have e' : h.get? b = some o := PySem.W.of_hideAll (trk h H) e
  refine ⟨e', ?_⟩
  cases q : H b with
  | none => rfl
  | some x =>
    have hm : b ∈ trk h H := List.mem_filter.mpr ⟨List.mem_range.mpr (Heap.lt_size e'), by simp [q]⟩
    have z : (hidT h H).get? b = none := PySem.W.hideAll_none (trk h H) hm
    rw [z] at e; cases e

end L2

namespace L2
open PySem PySem.Spec PyProof.Rows

structure Mod (K : PySem.W.Frag) (mg : Str → Option Value) (base : Heap) : Prop where
  kin : K.In base
  glob : base.Ns mainGlobals mg
  blt : ∃ mb, base.Ns builtinsNs mb ∧ ∀ x : Str, x ≠ "__name__" → mb x = bootBuiltins x
  nolimit : base.NoLimit

/-- the context: a def's body (or a comprehension's block) running. base: fixed through the whole law; s₀, H₀: the entry; outer: the frames whose slots others may change (a def's callers); stack: all frames that run;
   ex: iterators that were made ahead of the entry and are walked here (a comprehension's); fn: the names whose cells were made at the entry (a def: all; a comprehension's block: its own); calm: not within an except suite; pn: pins that every state bears; xe: what is wanted of an exception that leaves the code -/
structure Cx where
  prog : Program
  w : World
  K : PySem.W.Frag
  mg : Str → Option Value
  base : Heap
  A : Around
  N : List Str
  s₀ : Shared
  H₀ : Hp
  env : Env
  outer : List Env
  stack : List Env
  ex : List Addr
  fn : Str → Bool
  calm : Bool
  pn : List (Addr × Obj)
  xe : Value → Shared → Prop
def frs (l : List Env) : List Addr := l.filterMap (·.frame)
abbrev Cx.fs (X : Cx) : List Addr := frs X.outer

def Vis (sc : Scope) (x : Str) : Prop := sc.names.lookup x = some .local ∨ sc.names.lookup x = some .cell ∨ sc.names.lookup x = some .free
def Loc (sc : Scope) (x : Str) : Prop := sc.names.lookup x = some .local ∨ sc.names.lookup x = some .cell
def Look (env : Env) (h : Heap) (m : Str → Option Value) (x : Str) (u : Value) : Prop :=
  (env.kindOf x = some .local ∧ m x = some u) ∨ ((env.kindOf x = some .cell ∨ env.kindOf x = some .free) ∧ ∃ c, env.cells.lookup x = some c ∧ h.IsCell c (some u))

structure Cx.Ok (X : Cx) : Prop where
  mod : Mod X.K X.mg X.base
  kind : X.env.scope.kind = .function
  glob : X.env.globals = mainGlobals
  blt : X.env.builtins = builtinsNs
  above : X.s₀.heap.objs.size ≤ X.env.locals
  inj : ∀ x y c, X.env.cells.lookup x = some c → X.env.cells.lookup y = some c → x = y
  has : ∀ x, (X.env.kindOf x = some .cell ∨ X.env.kindOf x = some .free) → ∃ c, X.env.cells.lookup x = some c
  cab : ∀ x c, X.fn x = true → X.env.cells.lookup x = some c → X.s₀.heap.objs.size ≤ c
  hd : X.calm = true → X.A.handled = none
  frames : X.A.frames = some X.stack
  stk : X.stack = X.outer ∨ (X.stack = X.env :: X.outer ∧ X.env.frame = some X.env.locals)
  exf : ∀ b ∈ X.ex, b ≠ X.env.locals ∧ ∀ x c, X.env.cells.lookup x = some c → c ≠ b
  bs : ∀ b o, X.base.get? b = some o → X.s₀.heap.get? b = some o ∧ X.H₀ b = none
  bsz : X.base.objs.size ≤ X.s₀.heap.objs.size
  noex : ∀ b o, X.base.get? b = some o → b ∉ X.ex
  exfs : ∀ b ∈ X.ex, b ∉ X.fs
  funs : X.s₀.heap.FunFrames X.base X.outer
  frf : ∀ b ∈ X.fs, X.H₀ b = none

structure Inv (X : Cx) (pins : List (Addr × Obj)) (σ : List (Option V)) (H : Hp) (s : Shared) : Prop where
  ok : X.Ok
  os : s.os = X.s₀.os
  bare : AllBare s.gens
  base : Un X.fs X.ex X.H₀ H X.s₀.heap s.heap
  loc : ∃ m, s.heap.Ns X.env.locals m ∧ ∀ (i : Nat) (x : Str) (v : V), X.N[i]? = some x → σ[i]? = some (some v) → Vis X.env.scope x → ∃ u, RelV v u ∧ Look X.env s.heap m x u
  cell : ∀ x c, X.env.cells.lookup x = some c → ∃ v, s.heap.IsCell c v
  free : H X.env.locals = none
  freeC : ∀ x c, X.env.cells.lookup x = some c → H c = none
  pin : ∀ p ∈ X.pn ++ pins, s.heap.get? p.1 = some p.2 ∧ H p.1 = none ∧ p.1 ≠ X.env.locals ∧ p.1 ∉ X.fs ∧ ∀ v, p.2.data ≠ .cell v
  hok : HOk X.prog X.w H s.heap
  len : σ.length = X.N.length

section
variable {X : Cx} {pins : List (Addr × Obj)} {σ : List (Option V)} {H H' : Hp} {s : Shared} {h' : Heap}

theorem Cx.Ok.nofr (ok : X.Ok) {b : Addr} {o : Obj} (e : X.base.get? b = some o) : b ∉ X.fs := fun hb => by
  have := (ok.funs.mem hb).1
  rw [e] at this; cases this
theorem Inv.bs (I : Inv X pins σ H s) : ∀ b o, X.base.get? b = some o → s.heap.get? b = some o ∧ H b = none := fun b o e =>
  ⟨I.base.keep b o (I.ok.bs b o e).1 (I.ok.bs b o e).2 (I.ok.nofr e) (I.ok.noex b o e), I.base.free b o (I.ok.bs b o e).1 (I.ok.bs b o e).2 (I.ok.noex b o e)⟩
theorem Inv.bk (I : Inv X pins σ H s) : ∀ b o, X.base.get? b = some o → s.heap.get? b = some o := fun b o e => (I.bs b o e).1
theorem Inv.mod (I : Inv X pins σ H s) : Mod X.K X.mg X.base := I.ok.mod
theorem Inv.kIn (I : Inv X pins σ H s) : X.K.In s.heap := I.ok.mod.kin.keeps I.bk
theorem Inv.lt (I : Inv X pins σ H s) : X.env.locals < s.heap.objs.size := let ⟨_, hn, _⟩ := I.loc; hn.lt
theorem Inv.sz (I : Inv X pins σ H s) : X.s₀.heap.objs.size ≤ s.heap.objs.size := Nat.le_trans I.ok.above (Nat.le_of_lt I.lt)
theorem Inv.nofs (I : Inv X pins σ H s) {a : Addr} (h : s.heap.objs.size ≤ a) : a ∉ X.fs := fun hb => by
  obtain ⟨_, o, ho, _⟩ := I.ok.funs.mem hb
  exact absurd (Nat.lt_of_lt_of_le (Heap.lt_size ho) (Nat.le_trans I.sz h)) (Nat.lt_irrefl _)
theorem Inv.cne (I : Inv X pins σ H s) : ∀ x c, X.env.cells.lookup x = some c → c ≠ X.env.locals := fun x c e z => by
  obtain ⟨v, o, ho, hd⟩ := I.cell x c e
  obtain ⟨m, ⟨o', es, ep, ho', hd', _⟩, _⟩ := I.loc
  rw [z, ho'] at ho; cases ho; rw [hd'] at hd; cases hd
theorem Inv.funs (I : Inv X pins σ H s) : s.heap.FunFrames X.base X.outer := by
  have all : ∀ (l : List Env), (∀ b ∈ frs l, b ∈ X.fs) → X.s₀.heap.FunFrames X.base l → s.heap.FunFrames X.base l := by
    intro l
    induction l with
    | nil => intro _ _; trivial
    | cons env r ih =>
      intro hs hl
      obtain ⟨hk, ⟨L, o, hf, hn, ho, hd⟩, hr⟩ := hl
      have hL : L ∈ X.fs := hs L (by unfold frs; rw [List.filterMap_cons, hf]; exact List.mem_cons_self)
      obtain ⟨sl, e⟩ := I.base.slot L o ho (I.ok.frf L hL) hL fun z => I.ok.exfs L z hL
      exact ⟨hk, ⟨L, _, hf, hn, e, hd⟩, ih (fun b hb => hs b (by unfold frs; rw [List.filterMap_cons, hf]; exact List.mem_cons_of_mem _ hb)) hr⟩
  exact all X.outer (fun _ hb => hb) I.ok.funs

theorem Inv.stack (I : Inv X pins σ H s) : s.heap.FunFrames X.base X.stack := by
  rcases I.ok.stk with e | ⟨e, hf⟩
  · rw [e]; exact I.funs
  · rw [e]
    obtain ⟨m, hn, _⟩ := I.loc
    refine .cons (by rw [I.ok.kind]; decide) hf hn ?_ I.funs
    exact Heap.get?_none_of_le (Nat.le_trans I.ok.bsz I.ok.above)
theorem Inv.stkSub (I : Inv X pins σ H s) : ∀ b ∈ frs X.stack, b ∈ X.env.locals :: X.fs := fun b hb => by
  rcases I.ok.stk with e | ⟨e, hf⟩
  · rw [e] at hb; exact List.mem_cons_of_mem _ hb
  · rw [e] at hb
    unfold frs at hb
    rw [List.filterMap_cons, hf] at hb
    exact hb
theorem Inv.stkFree (I : Inv X pins σ H s) : ∀ b ∈ frs X.stack, H b = none := fun b hb => by
  rcases List.mem_cons.mp (I.stkSub b hb) with e | hb
  · rw [e]; exact I.free
  · obtain ⟨_, o, ho, _⟩ := I.ok.funs.mem hb
    exact I.base.free b o ho (I.ok.frf b hb) fun z => I.ok.exfs b z hb

theorem Inv.step {g' : Array GenState} {t' : Nat} {d' : Drawn} {ch : List Addr} (I : Inv X pins σ H s)
    (hch : ∀ b ∈ ch, (b ∈ X.ex ∨ X.s₀.heap.objs.size ≤ b) ∧ b ≠ X.env.locals ∧ (∀ x c, X.env.cells.lookup x = some c → c ≠ b) ∧ ∀ p ∈ X.pn ++ pins, p.1 ≠ b)
    (keep : ∀ b o, b ≠ X.env.locals → b ∉ X.fs → b ∉ ch → s.heap.get? b = some o → H b = none → h'.get? b = some o)
    (slot : ∀ b o, b ≠ X.env.locals → b ∈ X.fs → b ∉ ch → s.heap.get? b = some o → H b = none → ∃ sl, h'.get? b = some { o with slots := sl }) (free : ∀ b o, b ∉ ch → s.heap.get? b = some o → H b = none → H' b = none)
    (there : ∀ b o, b ∉ ch → s.heap.get? b = some o → ∃ o', h'.get? b = some o')
    (tups : ∀ b xs, H b = some (.tup xs) → H' b = some (.tup xs)) (frzs : ∀ b o u, H b = some (.frz o u) → H' b = some (.frz o u)) (tbls : ∀ b ps, H b = some (.tbl ps) → ∃ more, H' b = some (.tbl (ps ++ more)))
    (ns : ∀ m, s.heap.Ns X.env.locals m → h'.Ns X.env.locals m) (hok : HOk X.prog X.w H' h') (hg : AllBare g') :
    Inv X pins σ H' { s with heap := h', gens := g', drawn := d', toks := t' } := by
  have neL : ∀ b o, X.s₀.heap.get? b = some o → b ≠ X.env.locals := fun b o e => Nat.ne_of_lt (Nat.lt_of_lt_of_le (Heap.lt_size e) I.ok.above)
  have neC : ∀ b o, X.s₀.heap.get? b = some o → b ∉ X.ex → b ∉ ch := fun b o e hx hb => by
    rcases (hch b hb).1 with z | z
    · exact hx z
    · exact absurd (Nat.lt_of_lt_of_le (Heap.lt_size e) z) (Nat.lt_irrefl _)
  have cellK : ∀ x c, X.env.cells.lookup x = some c → ∀ v, s.heap.IsCell c v → h'.IsCell c v := fun x c e v ⟨o, ho, hd⟩ => by
    have nch : c ∉ ch := fun z => (hch c z).2.2.1 x c e rfl
    by_cases hc : c ∈ X.fs
    · obtain ⟨sl, q⟩ := slot c o (I.cne x c e) hc nch ho (I.freeC x c e)
      exact ⟨_, q, hd⟩
    · exact ⟨o, keep c o (I.cne x c e) hc nch ho (I.freeC x c e), hd⟩
  refine ⟨I.ok, I.os, hg, ⟨fun b o e n hb hx => ?_, fun b o e n hb hx => ?_, fun b o e n hx => ?_, fun b o e hx => ?_, fun b xs e => tups b xs (I.base.tups b xs e), fun b o xs e => frzs b o xs (I.base.frzs b o xs e), fun b ps e => ?_⟩, ?_, fun x c e => ?_, ?_, fun x c e => ?_, fun p hp => ?_, hok, I.len⟩
  · exact keep b o (neL b o e) hb (neC b o e hx) (I.base.keep b o e n hb hx) (I.base.free b o e n hx)
  · obtain ⟨sl, e1⟩ := I.base.slot b o e n hb hx
    obtain ⟨sl', e2⟩ := slot b _ (neL b o e) hb (neC b o e hx) e1 (I.base.free b o e n hx)
    exact ⟨sl', e2⟩
  · obtain ⟨o', e1⟩ := I.base.there b o e hx
    exact free b o' (neC b o e hx) e1 (I.base.free b o e n hx)
  · obtain ⟨o', e1⟩ := I.base.there b o e hx
    exact there b o' (neC b o e hx) e1
  · obtain ⟨m1, e1⟩ := I.base.tbls b ps e
    obtain ⟨m2, e2⟩ := tbls b _ e1
    exact ⟨m1 ++ m2, by rw [e2, Array.append_assoc]⟩
  · obtain ⟨m, hn, hl⟩ := I.loc
    refine ⟨m, ns m hn, fun i x v e1 e2 e3 => ?_⟩
    obtain ⟨u, r, l⟩ := hl i x v e1 e2 e3
    refine ⟨u, r, ?_⟩
    rcases l with l | ⟨k, c, e, z⟩
    · exact .inl l
    · exact .inr ⟨k, c, e, cellK x c e _ z⟩
  · obtain ⟨v, z⟩ := I.cell x c e
    exact ⟨v, cellK x c e v z⟩
  · obtain ⟨m, ⟨o, _, _, ho, _⟩, _⟩ := I.loc
    exact free _ o (fun z => (hch _ z).2.1 rfl) ho I.free
  · obtain ⟨v, o, ho, hd⟩ := I.cell x c e
    exact free c o (fun z => (hch c z).2.2.1 x c e rfl) ho (I.freeC x c e)
  · obtain ⟨e, n, ne, nf, d⟩ := I.pin p hp
    have nch : p.1 ∉ ch := fun z => (hch p.1 z).2.2.2 p hp rfl
    exact ⟨keep p.1 p.2 ne nf nch e n, free p.1 p.2 nch e n, ne, nf, d⟩
theorem Inv.un {t' : Nat} (I : Inv X pins σ H s) (u : Un X.fs [] H H' s.heap h') (hok : HOk X.prog X.w H' h') : Inv X pins σ H' { s with heap := h', toks := t' } := by
  obtain ⟨m, ⟨o, es, ep, ho, r⟩, _⟩ := id I.loc
  obtain ⟨sl, hL⟩ := u.any ho I.free (by simp)
  exact I.step (g' := s.gens) (d' := s.drawn) (ch := []) (fun _ z => nomatch z) (fun b o _ hb _ e n => u.keep b o e n hb (by simp)) (fun b o _ hb _ e n => u.slot b o e n hb (by simp)) (fun b o _ e n => u.free b o e n (by simp)) (fun b o _ e => u.there b o e (by simp)) u.tups u.frzs u.tbls (fun m' hm => by
    obtain ⟨o', es', ep', ho', r'⟩ := hm
    rw [ho] at ho'; cases ho'
    exact ⟨_, es', ep', hL, r'⟩) hok I.bare
theorem Inv.call {g' : Array GenState} {t' : Nat} {d' : Drawn} {ch : List Addr} (I : Inv X pins σ H s) (u : Un (frs X.stack) ch H H' s.heap h') (hok : HOk X.prog X.w H' h') (hg : AllBare g')
    (hch : ∀ b ∈ ch, (b ∈ X.ex ∨ X.s₀.heap.objs.size ≤ b) ∧ b ≠ X.env.locals ∧ (∀ x c, X.env.cells.lookup x = some c → c ≠ b) ∧ ∀ p ∈ X.pn ++ pins, p.1 ≠ b) :
    Inv X pins σ H' { s with heap := h', gens := g', drawn := d', toks := t' } := by
  obtain ⟨m, ⟨o, es, ep, ho, r⟩, _⟩ := id I.loc
  obtain ⟨sl, hL⟩ := u.any ho I.free fun z => (hch _ z).2.1 rfl
  exact I.step (ch := ch) hch (fun b o hL hb hc e n => u.keep b o e n (fun z => (List.mem_cons.mp (I.stkSub b z)).elim hL hb) hc) (fun b o _ _ hc e n => u.any e n hc) (fun b o hc e n => u.free b o e n hc) (fun b o hc e => u.there b o e hc) u.tups u.frzs u.tbls (fun m' hm => by
    obtain ⟨o', es', ep', ho', r'⟩ := hm
    rw [ho] at ho'; cases ho'
    exact ⟨_, es', ep', hL, r'⟩) hok hg
theorem Inv.turned {t' : Nat} {it : Addr} (I : Inv X pins σ H s) (k : ∀ b o, b ≠ it → s.heap.get? b = some o → h'.get? b = some o) (hn : H it = none) (hL : it ≠ X.env.locals)
    (h1 : it ∈ X.ex ∨ X.s₀.heap.objs.size ≤ it) (h2 : ∀ x c, X.env.cells.lookup x = some c → c ≠ it) (h3 : ∀ p ∈ X.pn ++ pins, p.1 ≠ it) : Inv X pins σ H { s with heap := h', toks := t' } := by
  have nit : ∀ b u, H b = some u → b ≠ it := fun b u e z => by rw [z, hn] at e; cases e
  refine I.step (g' := s.gens) (d' := s.drawn) (ch := [it]) (fun b hb => ?_) (fun b o _ _ hc e _ => k b o (fun z => hc (by simp [z])) e) (fun b o _ _ hc e _ => ⟨o.slots, k b o (fun z => hc (by simp [z])) e⟩) (fun _ _ _ _ n => n)
    (fun b o hc e => ⟨o, k b o (fun z => hc (by simp [z])) e⟩) (fun _ _ e => e) (fun _ _ _ e => e) (fun b ps e => ⟨#[], by rw [e]; simp⟩) (fun m hm => ?_) (fun b u e => ?_) I.bare
  · have e : b = it := by simpa using hb
    subst e
    exact ⟨h1, hL, h2, h3⟩
  · obtain ⟨o, es, ep, ho, r⟩ := hm
    exact ⟨o, es, ep, k _ o (Ne.symm hL) ho, r⟩
  · refine (I.hok b u e).stay (fun c v hc q => k c v ?_ q) (fun _ q => q) fun _ _ q => q
    rcases hc with z | z
    · rw [z]; exact nit b u e
    · exact nit c _ z
theorem Inv.tok (I : Inv X pins σ H s) (t : Nat) : Inv X pins σ H { s with toks := t } := I.un (h' := s.heap) (t' := t) Un.refl I.hok
theorem Inv.kept {t' : Nat} (I : Inv X pins σ H s) (k : ∀ b u, s.heap.get? b = some u → h'.get? b = some u) : Inv X pins σ H { s with heap := h', toks := t' } := I.un (Un.kept k) (I.hok.kept k)
theorem Inv.laid {a : Addr} {o : HO} {t' : Nat} (I : Inv X pins σ H s) (k : ∀ b u, s.heap.get? b = some u → h'.get? b = some u) (hp : s.heap.objs.size ≤ a) (new : ObjOk X.prog X.w (upd H a o) h' a o) :
    Inv X pins σ (upd H a o) { s with heap := h', toks := t' } := I.un (Un.laid k hp (I.hok.fresh hp)) (I.hok.laid k hp new)
theorem Inv.write {x e : Addr} {o : HO} {t' : Nat} (I : Inv X pins σ H s) (mu : Mut (H x)) (he : e = x ∨ H e = some (.own x)) (k : ∀ b u, b ≠ e → s.heap.get? b = some u → h'.get? b = some u) (heo : ∃ u, h'.get? e = some u)
    (new : ObjOk X.prog X.w (upd H x o) h' x o) : Inv X pins σ (upd H x o) { s with heap := h', toks := t' } := I.un (Un.write mu he k heo) (I.hok.write mu he k heo new)
theorem Inv.pins_of {pins' : List (Addr × Obj)} (I : Inv X pins σ H s) (h : ∀ p ∈ pins', s.heap.get? p.1 = some p.2 ∧ H p.1 = none ∧ p.1 ≠ X.env.locals ∧ p.1 ∉ X.fs ∧ ∀ v, p.2.data ≠ .cell v) : Inv X pins' σ H s :=
  ⟨I.ok, I.os, I.bare, I.base, I.loc, I.cell, I.free, I.freeC, fun p hp => (List.mem_append.mp hp).elim (fun z => I.pin p (List.mem_append_left _ z)) (h p), I.hok, I.len⟩

theorem nodup_ix {N : List Str} (hN : N.Nodup) {i j : Nat} {x : Str} (a : N[i]? = some x) (b : N[j]? = some x) : i = j := by
  obtain ⟨h1, e1⟩ := List.getElem?_eq_some_iff.mp a
  obtain ⟨h2, e2⟩ := List.getElem?_eq_some_iff.mp b
  exact (List.getElem_inj hN).mp (e1.trans e2.symm)

theorem store_ok2 {M : Model} {A : Around} {E : Value → Shared → Prop} {i : Nat} {x : Str} {v : V} {u : Value} {Q : Unit → Shared → Prop} (I : Inv X pins σ H s) (hN : X.N.Nodup) (hi : X.N[i]? = some x) (hx : Loc X.env.scope x) (r : RelV v u)
    (h : ∀ s', Inv X pins (σ.set i (some v)) H s' → (∃ a, Heap.SameBut a s.heap s'.heap ∧ (a = X.env.locals ∨ X.env.cells.lookup x = some a)) → Q () s') (hf : X.fn x = true ∨ X.env.scope.names.lookup x = some .local := by first | exact .inl rfl | exact .inr rfl | assumption) : wpAny M A (storeName X.env x u) Q E s := by
  obtain ⟨m, hn, hl⟩ := id I.loc
  have hcls : (X.env.scope.kind == .class || (X.env.scope.kind == .module && X.env.locals != X.env.globals)) = false := by rw [I.ok.kind]; rfl
  have hiσ : i < σ.length := by rw [I.len]; exact (List.getElem?_eq_some_iff.mp hi).1
  have cne := I.cne
  have tracked : ∀ {a : Addr} {h' : Heap}, (∃ o, s.heap.get? a = some o ∧ H a = none) → Heap.SameBut a s.heap h' → HOk X.prog X.w H h' := fun {a h'} ha hs b ob e => by
    obtain ⟨_, _, hfree⟩ := ha
    refine (I.hok b ob e).stay (fun c w' hc q => (hs.2 c ?_).trans q) (fun _ q => q) fun _ _ q => q
    rintro rfl
    rcases hc with rfl | hc
    · rw [hfree] at e; cases e
    · rw [hfree] at hc; cases hc
  rcases hx with hk | hk
  · refine wpAny_storeName_local hk hn (fun h' hn' hs => ?_) hcls
    obtain ⟨oL, _, _, hoL, _⟩ := id hn
    refine h _ ⟨I.ok, I.os, I.bare, ⟨fun b o e n hb hx => ?_, fun b o e n hb hx => ?_, I.base.free, fun b o e hx => ?_, I.base.tups, I.base.frzs, I.base.tbls⟩, ⟨_, hn', fun j y v' e1 e2 e3 => ?_⟩, fun y c e => ?_, I.free, I.freeC, fun p hp => ?_, tracked ⟨oL, hoL, I.free⟩ hs, by simpa using I.len⟩ ⟨_, hs, .inl rfl⟩
    · exact (hs.2 b (Nat.ne_of_lt (Nat.lt_of_lt_of_le (Heap.lt_size e) I.ok.above))).trans (I.base.keep b o e n hb hx)
    · obtain ⟨sl, e1⟩ := I.base.slot b o e n hb hx
      exact ⟨sl, (hs.2 b (Nat.ne_of_lt (Nat.lt_of_lt_of_le (Heap.lt_size e) I.ok.above))).trans e1⟩
    · obtain ⟨o', e1⟩ := I.base.there b o e hx
      exact ⟨o', (hs.2 b (Nat.ne_of_lt (Nat.lt_of_lt_of_le (Heap.lt_size e) I.ok.above))).trans e1⟩
    · by_cases hj : j = i
      · subst hj
        rw [hi] at e1; cases e1
        rw [List.getElem?_set_self hiσ] at e2
        cases e2
        exact ⟨u, r, .inl ⟨hk, by simp⟩⟩
      · rw [List.getElem?_set_ne (Ne.symm hj)] at e2
        obtain ⟨u', r', q⟩ := hl j y v' e1 e2 e3
        refine ⟨u', r', ?_⟩
        rcases q with ⟨k, e⟩ | ⟨k, c, e, z⟩
        · refine .inl ⟨k, ?_⟩
          have : y ≠ x := fun e => hj (nodup_ix hN e1 (e ▸ hi))
          simp [this, e]
        · exact .inr ⟨k, c, e, z.sameBut hs (cne y c e)⟩
    · obtain ⟨w', z⟩ := I.cell y c e
      exact ⟨w', z.sameBut hs (cne y c e)⟩
    · obtain ⟨e, n, ne, nf, d⟩ := I.pin p hp
      exact ⟨(hs.2 p.1 ne).trans e, n, ne, nf, d⟩
  · have hfn : X.fn x = true := by
      rcases hf with z | z
      · exact z
      · rw [z] at hk; cases hk
    obtain ⟨c, hc⟩ := I.ok.has x (.inl hk)
    obtain ⟨w', z⟩ := I.cell x c hc
    refine wpAny_storeName_cell I.ok.kind hk hc z (fun h' hc' hs => ?_)
    obtain ⟨oc, hoc, hocd⟩ := id z
    refine h { s with heap := h' } ⟨I.ok, I.os, I.bare, ⟨fun b o e n hb hx => ?_, fun b o e n hb hx => ?_, I.base.free, fun b o e hx => ?_, I.base.tups, I.base.frzs, I.base.tbls⟩, ⟨m, hn.sameBut hs (Ne.symm (cne x c hc)), fun j y v' e1 e2 e3 => ?_⟩, fun y c' e => ?_, I.free, I.freeC, fun p hp => ?_, tracked ⟨oc, hoc, I.freeC x c hc⟩ hs, by simpa using I.len⟩ ⟨c, hs, .inr hc⟩
    · exact (hs.2 b (Nat.ne_of_lt (Nat.lt_of_lt_of_le (Heap.lt_size e) (I.ok.cab x c hfn hc)))).trans (I.base.keep b o e n hb hx)
    · obtain ⟨sl, e1⟩ := I.base.slot b o e n hb hx
      exact ⟨sl, (hs.2 b (Nat.ne_of_lt (Nat.lt_of_lt_of_le (Heap.lt_size e) (I.ok.cab x c hfn hc)))).trans e1⟩
    · obtain ⟨o', e1⟩ := I.base.there b o e hx
      exact ⟨o', (hs.2 b (Nat.ne_of_lt (Nat.lt_of_lt_of_le (Heap.lt_size e) (I.ok.cab x c hfn hc)))).trans e1⟩
    · by_cases hj : j = i
      · subst hj
        rw [hi] at e1; cases e1
        rw [List.getElem?_set_self hiσ] at e2
        cases e2
        exact ⟨u, r, .inr ⟨.inl hk, c, hc, hc'⟩⟩
      · rw [List.getElem?_set_ne (Ne.symm hj)] at e2
        obtain ⟨u', r', q⟩ := hl j y v' e1 e2 e3
        refine ⟨u', r', ?_⟩
        rcases q with q | ⟨k, c', e, z'⟩
        · exact .inl q
        · refine .inr ⟨k, c', e, z'.sameBut hs ?_⟩
          rintro rfl
          exact hj (nodup_ix hN e1 (I.ok.inj _ _ _ e hc ▸ hi))
    · by_cases hcc : c' = c
      · subst hcc; exact ⟨_, hc'⟩
      · obtain ⟨w2, z2⟩ := I.cell y c' e
        exact ⟨w2, z2.sameBut hs hcc⟩
    · obtain ⟨e, n, ne, nf, d⟩ := I.pin p hp
      refine ⟨(hs.2 p.1 ?_).trans e, n, ne, nf, d⟩
      intro q
      rw [q, hoc] at e
      have q' : oc = p.2 := Option.some.inj e
      exact d w' (by rw [← q']; exact hocd)
theorem store_ok {M : Model} {A : Around} {E : Value → Shared → Prop} {i : Nat} {x : Str} {v : V} {u : Value} {Q : Unit → Shared → Prop} (I : Inv X pins σ H s) (hN : X.N.Nodup) (hi : X.N[i]? = some x) (hx : Loc X.env.scope x) (r : RelV v u)
    (h : ∀ s', Inv X pins (σ.set i (some v)) H s' → Q () s') (hf : X.fn x = true ∨ X.env.scope.names.lookup x = some .local := by first | exact .inl rfl | exact .inr rfl | assumption) : wpAny M A (storeName X.env x u) Q E s :=
  store_ok2 I hN hi hx r (fun s' I' _ => h s' I') hf
theorem Inv.call' {s' : Shared} {ch : List Addr} (I : Inv X pins σ H s) (ho : s'.os = s.os) (u : Un (frs X.stack) ch H H' s.heap s'.heap) (hok : HOk X.prog X.w H' s'.heap) (hg : AllBare s'.gens)
    (hch : ∀ b ∈ ch, (b ∈ X.ex ∨ X.s₀.heap.objs.size ≤ b) ∧ b ≠ X.env.locals ∧ (∀ x c, X.env.cells.lookup x = some c → c ≠ b) ∧ ∀ p ∈ X.pn ++ pins, p.1 ≠ b) : Inv X pins σ H' s' := by
  obtain ⟨h', g', d', t', o'⟩ := s'
  have e : o' = s.os := ho
  subst e
  exact I.call (g' := g') (t' := t') (d' := d') u hok hg hch
end

abbrev XK := Value → Option Addr → Hp → Prop
abbrev St := List (Option V)
abbrev VK := V → Hp → Prop
abbrev TE := St → Hp → VK → Prop
abbrev TT := St → Hp → (Bool → Hp → Prop) → Prop
abbrev TA := St → Hp → (List V → Hp → Prop) → Prop
structure Ends where
  nx : St → Hp → Prop
  rt : VK
  bk : St → Hp → Prop := fun _ _ => False
  ct : St → Hp → Prop := fun _ _ => False
abbrev TS := Ends → St → Hp → Prop

def EP (X : Cx) (pins : List (Addr × Obj)) (σ : St) (Q : VK) (u : Value) (s' : Shared) : Prop := ∃ v H', Inv X pins σ H' s' ∧ RelV v u ∧ Q v H'
def TP (X : Cx) (pins : List (Addr × Obj)) (σ : St) (Q : Bool → Hp → Prop) (b : Bool) (s' : Shared) : Prop := ∃ H', Inv X pins σ H' s' ∧ Q b H'
def AP (X : Cx) (pins : List (Addr × Obj)) (σ : St) (Q : List V → Hp → Prop) (us : List Value) (s' : Shared) : Prop := ∃ vs H', Inv X pins σ H' s' ∧ Vals vs us ∧ Q vs H'
def SP (X : Cx) (pins : List (Addr × Obj)) (D : Ends) (f : Flow) (s' : Shared) : Prop :=
  match f with
  | .next => ∃ σ' H', Inv X pins σ' H' s' ∧ D.nx σ' H'
  | .brk => ∃ σ' H', Inv X pins σ' H' s' ∧ D.bk σ' H'
  | .cont => ∃ σ' H', Inv X pins σ' H' s' ∧ D.ct σ' H'
  | .ret u => ∃ v σ' H', Inv X pins σ' H' s' ∧ RelV v u ∧ D.rt v H'

def PE (X : Cx) (e : Expr) (t : TE) : Prop :=
  ∀ (pins : List (Addr × Obj)) (s : Shared) (σ : St) (H : Hp) (Q : VK), Inv X pins σ H s → t σ H Q → wpAny (model X.prog X.w) X.A (eval e X.env) (EP X pins σ Q) X.xe s
def PT (X : Cx) (e : Expr) (t : TT) : Prop :=
  ∀ (pins : List (Addr × Obj)) (s : Shared) (σ : St) (H : Hp) (Q : Bool → Hp → Prop), Inv X pins σ H s → t σ H Q → wpAny (model X.prog X.w) X.A (isTrue e X.env (eval e X.env)) (TP X pins σ Q) X.xe s
def PW (X : Cx) (e : Expr) (t : TT) : Prop :=
  ∀ (whole : Sem Value) (pins : List (Addr × Obj)) (s : Shared) (σ : St) (H : Hp) (Q : Bool → Hp → Prop), Inv X pins σ H s → t σ H Q → wpAny (model X.prog X.w) X.A (isTrue e X.env whole) (TP X pins σ Q) X.xe s
theorem PW.pt {X : Cx} {e : Expr} {t : TT} (h : PW X e t) : PT X e t := h _
def PA (X : Cx) (es : List Expr) (t : TA) : Prop :=
  ∀ (pos : Pos) (pins : List (Addr × Obj)) (s : Shared) (σ : St) (H : Hp) (Q : List V → Hp → Prop), Inv X pins σ H s → t σ H Q → wpAny (model X.prog X.w) X.A (spliced (backTo pos (starEach es X.env))) (AP X pins σ Q) X.xe s
def PS (X : Cx) (st : Stmt) (t : TS) : Prop :=
  ∀ (pins : List (Addr × Obj)) (s : Shared) (σ : St) (H : Hp) (D : Ends), Inv X pins σ H s → t D σ H → wpAny (model X.prog X.w) X.A (exec st X.env) (SP X pins D) X.xe s
def PSs (X : Cx) (st : List Stmt) (t : TS) : Prop :=
  ∀ (pins : List (Addr × Obj)) (s : Shared) (σ : St) (H : Hp) (D : Ends), Inv X pins σ H s → t D σ H → wpAny (model X.prog X.w) X.A (execs st X.env) (SP X pins D) X.xe s
theorem thn {α : Type} {t : Sem α} {Q Q' : α → Shared → Prop} {M : Model} {A : Around} {E : Value → Shared → Prop} {s : Shared} (h : wpAny M A t Q E s) (hQ : ∀ a s, Q a s → Q' a s) : wpAny M A t Q' E s := wpAny_mono h hQ fun _ _ x => x
end L2

namespace L2
open PySem PySem.Spec PyProof.Rows
section
variable {X : Cx}

theorem bin {a b : Expr} {ta tb : TE} (ha : PE X a ta) (hb : PE X b tb) {pins : List (Addr × Obj)} {s : Shared} {σ : St} {H : Hp} {R : V → V → Hp → Prop} (I : Inv X pins σ H s) (h : ta σ H fun x H1 => tb σ H1 fun y H2 => R x y H2)
    {α : Type} {Q : α → Shared → Prop} {f : Value → Value → Sem α}
    (hf : ∀ v u s2 x y H2, Inv X pins σ H2 s2 → RelV x v → RelV y u → R x y H2 → wpAny (model X.prog X.w) X.A (f v u) Q X.xe s2) :
    wpAny (model X.prog X.w) X.A (eval a X.env) (fun v s₁ => wpAny (model X.prog X.w) X.A (eval b X.env) (fun u s₂ => wpAny (model X.prog X.w) X.A (f v u) Q X.xe s₂) X.xe s₁) X.xe s := by
  refine thn (ha pins s σ H _ I h) fun v s1 ⟨x, H1, I1, r1, q1⟩ => ?_
  refine thn (hb pins s1 σ H1 _ I1 q1) fun u s2 ⟨y, H2, I2, r2, q2⟩ => ?_
  exact hf v u s2 x y H2 I2 r1 r2 q2

def tVar (i : Nat) : TE := fun σ H Q => ∃ v, σ[i]? = some (some v) ∧ Q v H
def tC (v : V) : TE := fun _ H Q => Q v H
theorem pe_var {i : Nat} {x : Str} {pos : Pos} (hN : X.N[i]? = some x) (hv : Vis X.env.scope x) (hd : (x == ("__debug__" : Str)) = false := by decide) (hcd : (x == ("__classdict__" : Str)) = false := by decide) : PE X (.Name x pos) (tVar i) := by
  intro pins s σ H Q I h
  obtain ⟨v, e, h⟩ := h
  obtain ⟨m, hn, hl⟩ := I.loc
  obtain ⟨u, r, l⟩ := hl i x v hN e hv
  have fin : EP X pins σ Q u s := ⟨v, H, I, r, h⟩
  rcases l with ⟨hk, hm⟩ | ⟨hk, c, hc, hcell⟩
  · exact wpAny_Name (wpAny_loadName_local I.ok.kind hk hn hm fin) hd
  · rcases hk with hk | hk
    · exact wpAny_Name (wpAny_loadName_cell I.ok.kind hk hc hcell fin) hd
    · exact wpAny_Name (wpAny_loadName_free I.ok.kind hk hc hcell fin hcd) hd
theorem pe_int {i j pos} : PE X (.Constant (.int i) j pos) (tC (.int i)) := fun _ _ _ H _ I h => wpAny_Constant_int ⟨.int i, H, I.tok _, ⟨_, rfl⟩, h⟩
theorem pe_bl {b j pos} : PE X (.Constant (.bool b) j pos) (tC (.bl b)) := fun _ _ _ H _ I h => Constant_bool ⟨.bl b, H, I, rfl, h⟩
theorem pe_non {j pos} : PE X (.Constant .none j pos) (tC .non) := fun _ _ _ H _ I h => Constant_none ⟨.non, H, I, rfl, h⟩
theorem pe_str {x j pos} : PE X (.Constant (.str x) j pos) (tC (.str x)) := fun _ _ _ H _ I h => Calls.Constant_str ⟨.str x, H, I.tok _, ⟨_, rfl⟩, h⟩

def Gl (X : Cx) (x : Str) : Prop := X.env.kindOf x = some .globalImplicit
theorem ld_glob {E : Value → Shared → Prop} {pins : List (Addr × Obj)} {s : Shared} {σ : St} {H : Hp} {x : Str} {u : Value} {pos : Pos} {Q : Value → Shared → Prop} (I : Inv X pins σ H s) (hg : Gl X x) (hm : X.mg x = some u) (h : Q u s)
    (hd : (x == ("__debug__" : Str)) = false := by decide) : wpAny (model X.prog X.w) X.A (eval (.Name x pos) X.env) Q E s :=
  Calls.Name_function_global I.ok.kind hg (Calls.loadGlobal_global (by rw [I.ok.glob]; exact I.mod.glob.keeps I.bk) hm h) hd
theorem ld_blt {E : Value → Shared → Prop} {pins : List (Addr × Obj)} {s : Shared} {σ : St} {H : Hp} {x : Str} {u : Value} {pos : Pos} {Q : Value → Shared → Prop} (I : Inv X pins σ H s) (hg : Gl X x) (hm : X.mg x = none) (hv : bootBuiltins x = some u) (h : Q u s)
    (hn : x ≠ "__name__" := by decide) (hd : (x == ("__debug__" : Str)) = false := by decide) : wpAny (model X.prog X.w) X.A (eval (.Name x pos) X.env) Q E s := by
  obtain ⟨mb, h1, h2⟩ := I.mod.blt
  exact Calls.Name_function_global I.ok.kind hg (Calls.loadGlobal_builtin (by rw [I.ok.glob]; exact I.mod.glob.keeps I.bk) hm (by rw [I.ok.blt]; exact h1.keeps I.bk) ((h2 x hn).trans hv) h) hd
theorem pe_glob {x : Str} {v : V} {u : Value} {pos : Pos} (hg : Gl X x) (hm : X.mg x = some u) (r : RelV v u) (hd : (x == ("__debug__" : Str)) = false := by decide) : PE X (.Name x pos) (tC v) :=
  fun _ _ _ H _ I h => ld_glob I hg hm ⟨v, H, I, r, h⟩ hd
theorem pe_bltn {x : Str} {v : V} {u : Value} {pos : Pos} (hg : Gl X x) (hm : X.mg x = none) (hv : bootBuiltins x = some u) (r : RelV v u) (hn : x ≠ "__name__" := by decide) (hd : (x == ("__debug__" : Str)) = false := by decide) : PE X (.Name x pos) (tC v) :=
  fun _ _ _ H _ I h => ld_blt I hg hm hv ⟨v, H, I, r, h⟩ hn hd

variable {a b : Expr} {ta tb : TE} {pos : Pos}
def PC (X : Cx) (op : CmpOp) (a b : Expr) (t : TE) : Prop :=
  ∀ (pins : List (Addr × Obj)) (s : Shared) (σ : St) (H : Hp) (Q : VK), Inv X pins σ H s → t σ H Q →
    wpAny (model X.prog X.w) X.A (eval a X.env) (fun v s₁ => wpAny (model X.prog X.w) X.A (eval b X.env) (fun u s₂ => wpAny (model X.prog X.w) X.A (compareOp op v u) (EP X pins σ Q) X.xe s₂) X.xe s₁) X.xe s
theorem nobehind (b : Expr) {op : CmpOp} (h : op ≠ .In) (h2 : op ≠ .NotIn) : behindInMarks op b = false := by
  have e1 : (op == CmpOp.In) = false := by cases op <;> first | rfl | exact absurd rfl h
  have e2 : (op == CmpOp.NotIn) = false := by cases op <;> first | rfl | exact absurd rfl h2
  cases b <;> simp [behindInMarks, e1, e2]
def tIsN (ta : TE) : TE := fun σ H Q => ta σ H fun x H1 => Q (.bl (decide (x = .non))) H1
def tNotN (ta : TE) : TE := fun σ H Q => ta σ H fun x H1 => Q (.bl (!decide (x = .non))) H1
theorem RelV.none_iff {x : V} {v : Value} (r : RelV x v) : (v == Value.none) = decide (x = .non) := by
  cases x with
  | non => cases r; rfl
  | bl _ => cases r; rfl
  | int _ => obtain ⟨t, rfl⟩ := r; rfl
  | str _ => obtain ⟨t, rfl⟩ := r; rfl
  | byt _ => obtain ⟨t, rfl⟩ := r; rfl
  | flt _ => obtain ⟨t, rfl⟩ := r; rfl
  | ref _ => cases r; rfl
  | ty _ => cases r; rfl
theorem pc_isN {j pos'} (ha : PE X a ta) : PC X .Is a (.Constant .none j pos') (tIsN ta) := by
  intro pins s σ H Q I h
  refine thn (ha pins s σ H _ I h) fun v s1 ⟨x, H1, I1, r1, q1⟩ => ?_
  exact Constant_none (is_none_gen ⟨.bl _, H1, I1, by rw [r1.none_iff]; rfl, q1⟩)
theorem pc_notN {j pos'} (ha : PE X a ta) : PC X .IsNot a (.Constant .none j pos') (tNotN ta) := by
  intro pins s σ H Q I h
  refine thn (ha pins s σ H _ I h) fun v s1 ⟨x, H1, I1, r1, q1⟩ => ?_
  exact Constant_none (isnot_none_gen ⟨.bl _, H1, I1, by rw [r1.none_iff]; rfl, q1⟩)
def tB (t : TE) : TT := fun σ H Q => t σ H fun x H1 => ∃ c, x = .bl c ∧ Q c H1
theorem pt_cmp {op : CmpOp} {t : TE} (h : PC X op a b t) (h1 : behindInMarks op b = false := by first | exact nobehind _ (by decide) (by decide) | rfl) : PT X (.Compare a [op] [b] pos) (tB t) := by
  intro pins s σ H Q I hw
  refine wpAny_isTrue_Compare1 (thn (h pins s σ H _ I hw) fun v s1 h1 => thn h1 fun u s2 h2 => thn h2 fun c s3 ⟨x, H1, I1, r1, q1⟩ => ?_) h1
  obtain ⟨d, rfl, q⟩ := q1
  cases r1
  exact wpAny_truthy_bool ⟨H1, I1, q⟩
theorem pt_val {e : Expr} {t : TE} (h : PE X e t) (he : ∀ whole, isTrue e X.env whole = (do let v ← whole; standAt e.pos; holding [v] (truthy v)) := by intro _; rfl) : PT X e (tB t) := by
  intro pins s σ H Q I hw
  refine isTrue_plain (thn (h pins s σ H _ I hw) fun v s1 ⟨x, H1, I1, r1, q1⟩ => ?_) (he _)
  obtain ⟨d, rfl, q⟩ := q1
  cases r1
  exact wpAny_truthy_bool ⟨H1, I1, q⟩

variable {tA tB' : TT} {rest : List Expr}
def tAnd (t u : TT) : TT := fun σ H Q => t σ H fun c H1 => if c = true then u σ H1 Q else Q false H1
def tOr (t u : TT) : TT := fun σ H Q => t σ H fun c H1 => if c = true then Q true H1 else u σ H1 Q
def tNot (t : TT) : TT := fun σ H Q => t σ H fun c H1 => Q (!c) H1
theorem pw_and1 (ha : PT X a tA) : PW X (.BoolOp .And [a] pos) tA := by
  intro wh pins s σ H Q I h
  refine isTrue_and (thn (ha pins s σ H Q I h) fun c s1 e => ?_)
  cases c with
  | true => exact isTrue_and_nil e
  | false => exact e
theorem pw_or1 (ha : PT X a tA) : PW X (.BoolOp .Or [a] pos) tA := by
  intro wh pins s σ H Q I h
  refine isTrue_or (thn (ha pins s σ H Q I h) fun c s1 e => ?_)
  cases c with
  | false => exact isTrue_or_nil e
  | true => exact e
theorem pw_and (ha : PT X a tA) (hb : PW X (.BoolOp .And (b :: rest) pos) tB') : PW X (.BoolOp .And (a :: b :: rest) pos) (tAnd tA tB') := by
  intro wh pins s σ H Q I h
  refine isTrue_and (thn (ha pins s σ H _ I h) fun c s1 ⟨H1, I1, q1⟩ => ?_)
  cases c with
  | true => exact hb wh pins s1 σ H1 Q I1 q1
  | false => exact ⟨H1, I1, q1⟩
theorem pw_or (ha : PT X a tA) (hb : PW X (.BoolOp .Or (b :: rest) pos) tB') : PW X (.BoolOp .Or (a :: b :: rest) pos) (tOr tA tB') := by
  intro wh pins s σ H Q I h
  refine isTrue_or (thn (ha pins s σ H _ I h) fun c s1 ⟨H1, I1, q1⟩ => ?_)
  cases c with
  | true => exact ⟨H1, I1, q1⟩
  | false => exact hb wh pins s1 σ H1 Q I1 q1
theorem pt_not (ha : PT X a tA) : PT X (.UnaryOp .Not a pos) (tNot tA) := by
  intro pins s σ H Q I h
  exact isTrue_not (ha pins s σ H (fun c H1 => Q (!c) H1) I h)
def tAndV (ta tb : TE) : TE := fun σ H Q => ta σ H fun x H1 => ∃ c, x = .bl c ∧ if c = true then tb σ H1 Q else Q (.bl false) H1
def tNotV (ta : TE) : TE := fun σ H Q => ta σ H fun x H1 => ∃ c, x = .bl c ∧ Q (.bl (!c)) H1
theorem pe_one {op} {t : TE} (h : PE X a t) : PE X (.BoolOp op [a] pos) t := fun pins s σ H Q I hw => BoolOp_one (h pins s σ H Q I hw)
theorem pe_and (ha : PE X a ta) (hb : PE X (.BoolOp .And (b :: rest) pos) tb) : PE X (.BoolOp .And (a :: b :: rest) pos) (tAndV ta tb) := by
  intro pins s σ H Q I h
  refine BoolOp_and (thn (ha pins s σ H _ I h) fun v s1 ⟨x, H1, I1, r1, q1⟩ => ?_)
  obtain ⟨c, rfl, q1⟩ := q1
  cases r1
  refine wpAny_truthy_bool ?_
  cases c with
  | true => exact hb pins s1 σ H1 Q I1 q1
  | false => exact ⟨.bl false, H1, I1, rfl, q1⟩
theorem pe_not (ha : PE X a ta) : PE X (.UnaryOp .Not a pos) (tNotV ta) := by
  intro pins s σ H Q I h
  refine UnaryOp_ (thn (ha pins s σ H _ I h) fun v s1 ⟨x, H1, I1, r1, q1⟩ => ?_)
  obtain ⟨c, rfl, q1⟩ := q1
  cases r1
  exact not_of (wpAny_truthy_bool ⟨.bl (!c), H1, I1, rfl, q1⟩)
def tIf (t : TT) (ta tb : TE) : TE := fun σ H Q => t σ H fun c H1 => if c = true then ta σ H1 Q else tb σ H1 Q
theorem pe_ifExp {c : Expr} (hc : PT X c tA) (ha : PE X a ta) (hb : PE X b tb) : PE X (.IfExp c a b pos) (tIf tA ta tb) := by
  intro pins s σ H Q I h
  refine wpAny_IfExp (thn (hc pins s σ H _ I h) fun d s1 ⟨H1, I1, q1⟩ => ?_)
  cases d with
  | true => exact ha pins s1 σ H1 Q I1 q1
  | false => exact hb pins s1 σ H1 Q I1 q1
end
end L2

namespace L2
open PySem PySem.Spec PyProof.Rows

def SqL (K : PySem.W.Frag) (H : Hp) (a : Addr) (xs : List V) : Prop :=
  Rd H a (.lst xs) ∨
    ∃ (o : Obj) (its : Array Value) (n : Nat), K.lookup a = some o ∧ o.cls = .type "list" ∧ o.dict = none ∧ o.data = .seq its n ∧ its.size ≤ sizeLine ∧ Vals xs its.toList
def SqT (K : PySem.W.Frag) (H : Hp) (a : Addr) (xs : List V) : Prop :=
  Rd H a (.tup xs) ∨
    ∃ (o : Obj) (its : Array Value) (n : Nat), K.lookup a = some o ∧ o.cls = .type "tuple" ∧ o.data = .seq its n ∧ its.size ≤ sizeLine ∧ Vals xs its.toList
def absV : Value → Option V
  | .none => some .non
  | .bool b => some (.bl b)
  | .int i _ => some (.int i)
  | .str x _ => some (.str x)
  | .bytes b _ => some (.byt b)
  | .float b _ => some (.flt b)
  | .ref a => some (.ref a)
  | .type n => some (.ty n)
  | _ => none
theorem RelV.abs {x : V} {u : Value} (r : RelV x u) : absV u = some x := by
  cases x with
  | non => cases r; rfl
  | bl _ => cases r; rfl
  | int _ => obtain ⟨t, rfl⟩ := r; rfl
  | str _ => obtain ⟨t, rfl⟩ := r; rfl
  | byt _ => obtain ⟨t, rfl⟩ := r; rfl
  | flt _ => obtain ⟨t, rfl⟩ := r; rfl
  | ref _ => cases r; rfl
  | ty _ => cases r; rfl
theorem RelV.inj {x y : V} {u : Value} (r : RelV x u) (q : RelV y u) : x = y := Option.some.inj (r.abs.symm.trans q.abs)
theorem Vals.inj : ∀ {xs ys : List V} {us : List Value}, Vals xs us → Vals ys us → xs = ys
  | _, _, _, .nil, .nil => rfl
  | _, _, _, .cons r t, .cons r' t' => by rw [r.inj r', Vals.inj t t']
section
variable {X : Cx} {pins : List (Addr × Obj)} {σ : St} {H : Hp} {s : Shared} {a : Addr} {xs ys : List V}
theorem SqL.of {K : PySem.W.Frag} (h : H a = some (.lst xs)) : SqL K H a xs := .inl (.inl h)
theorem SqT.of {K : PySem.W.Frag} (h : H a = some (.tup xs)) : SqT K H a xs := .inl (.inl h)
theorem Inv.list (I : Inv X pins σ H s) (h : SqL X.K H a xs) : ∃ its : List Value, Vals xs its ∧ PlainL s.heap a its.toArray ∧ xs.length ≤ sizeLine := by
  rcases h with h | ⟨o, its, n, hk, hc, hd, hs, hz, r⟩
  · obtain ⟨z, its, n, r, e⟩ := h.ok I.hok
    exact ⟨its, r, ⟨_, n, e, rfl, rfl, rfl⟩, z⟩
  · refine ⟨its.toList, r, ⟨o, n, I.kIn a o hk, hc, hd, by simpa using hs⟩, ?_⟩
    have e := r.length
    simp only [Array.length_toList] at e
    omega
theorem Inv.tuple (I : Inv X pins σ H s) (h : SqT X.K H a xs) : ∃ its : List Value, Vals xs its ∧ IsTup s.heap a its.toArray ∧ xs.length ≤ sizeLine := by
  rcases h with h | ⟨o, its, n, hk, hc, hs, hz, r⟩
  · obtain ⟨z, its, r, p⟩ := h.ok I.hok
    exact ⟨its, r, p, z⟩
  · refine ⟨its.toList, r, ⟨o, I.kIn a o hk, hc, n, by simpa using hs⟩, ?_⟩
    have e := r.length
    simp only [Array.length_toList] at e
    omega
theorem Inv.list_inj (I : Inv X pins σ H s) (h : SqL X.K H a xs) (h' : SqL X.K H a ys) : xs = ys := by
  obtain ⟨its, r, ⟨o, n, e, _, _, d⟩, _⟩ := I.list h
  obtain ⟨its', r', ⟨o', n', e', _, _, d'⟩, _⟩ := I.list h'
  rw [e] at e'; cases e'
  rw [d] at d'
  injection d' with d1 _
  have : its = its' := by simpa using congrArg Array.toList d1
  subst this
  exact r.inj r'
theorem Inv.tuple_inj (I : Inv X pins σ H s) (h : SqT X.K H a xs) (h' : SqT X.K H a ys) : xs = ys := by
  obtain ⟨its, r, ⟨o, e, _, n, d⟩, _⟩ := I.tuple h
  obtain ⟨its', r', ⟨o', e', _, n', d'⟩, _⟩ := I.tuple h'
  rw [e] at e'; cases e'
  rw [d] at d'
  injection d' with d1 _
  have : its = its' := by simpa using congrArg Array.toList d1
  subst this
  exact r.inj r'
end

abbrev Cx.wish (X : Cx) (E : Value → Shared → Prop) : Cx := { X with xe := E }
abbrev Cx.nox (X : Cx) : Cx := X.wish fun _ _ => False
theorem Cx.Ok.wish {X : Cx} (ok : X.Ok) (E : Value → Shared → Prop) : (X.wish E).Ok :=
  ⟨ok.mod, ok.kind, ok.glob, ok.blt, ok.above, ok.inj, ok.has, ok.cab, ok.hd, ok.frames, ok.stk, ok.exf, ok.bs, ok.bsz, ok.noex, ok.exfs, ok.funs, ok.frf⟩
theorem Cx.Ok.unwish {X : Cx} {E : Value → Shared → Prop} (ok : (X.wish E).Ok) : X.Ok :=
  ⟨ok.mod, ok.kind, ok.glob, ok.blt, ok.above, ok.inj, ok.has, ok.cab, ok.hd, ok.frames, ok.stk, ok.exf, ok.bs, ok.bsz, ok.noex, ok.exfs, ok.funs, ok.frf⟩
section
variable {X : Cx} {pins : List (Addr × Obj)} {σ : St} {H : Hp} {s : Shared} {E : Value → Shared → Prop}
theorem Inv.wish (I : Inv X pins σ H s) (E : Value → Shared → Prop) : Inv (X.wish E) pins σ H s := ⟨I.ok.wish E, I.os, I.bare, I.base, I.loc, I.cell, I.free, I.freeC, I.pin, I.hok, I.len⟩
theorem Inv.unwish (I : Inv (X.wish E) pins σ H s) : Inv X pins σ H s := ⟨I.ok.unwish, I.os, I.bare, I.base, I.loc, I.cell, I.free, I.freeC, I.pin, I.hok, I.len⟩
theorem SP.unwish {D : Ends} {f : Flow} {s' : Shared} (h : SP (X.wish E) pins D f s') : SP X pins D f s' := by
  cases f with
  | next => obtain ⟨σ', H', I, q⟩ := h; exact ⟨σ', H', I.unwish, q⟩
  | brk => obtain ⟨σ', H', I, q⟩ := h; exact ⟨σ', H', I.unwish, q⟩
  | cont => obtain ⟨σ', H', I, q⟩ := h; exact ⟨σ', H', I.unwish, q⟩
  | ret u => obtain ⟨v, σ', H', I, r, q⟩ := h; exact ⟨v, σ', H', I.unwish, r, q⟩
theorem PSs.nox {st : List Stmt} {t : TS} (h : PSs X.nox st t) : PSs X st t := fun pins s σ H D I hw =>
  wpAny_mono (h pins s σ H D (I.wish _) hw) (fun _ _ q => q.unwish) fun _ _ z => False.elim z
end

section
variable {X : Cx} {st : Stmt} {rest : List Stmt} {t u : TS} {e : Expr} {te : TE} {pos : Pos}
def tNext : TS := fun D σ H => D.nx σ H
def tSeq (t u : TS) : TS := fun D σ H => t { D with nx := u D } σ H
theorem pss_nil : PSs X [] tNext := fun _ _ σ H _ I h => wpAny_execs_nil ⟨σ, H, I, h⟩
theorem pss_cons (h1 : PS X st t) (h2 : PSs X rest u) : PSs X (st :: rest) (tSeq t u) := by
  intro pins s σ H D I h
  refine wpAny_execs_cons (thn (h1 pins s σ H { D with nx := u D } I h) fun f s1 q => ?_)
  cases f with
  | next =>
    obtain ⟨σ', H', I', q⟩ := q
    exact h2 pins s1 σ' H' D I' q
  | ret v => exact q
  | brk => exact q
  | cont => exact q
theorem pss_one (h1 : PS X st t) : PSs X [st] t := by
  intro pins s σ H D I h
  refine wpAny_execs_cons (thn (h1 pins s σ H D I h) fun f s1 q => ?_)
  cases f with
  | next => exact wpAny_execs_nil q
  | ret v => exact q
  | brk => exact q
  | cont => exact q
theorem Inv.quiet {pins : List (Addr × Obj)} {σ : St} {H : Hp} {s : Shared} (I : Inv X pins σ H s) : interactive X.env = false := by simp [interactive, I.ok.kind]
def tDrop (te : TE) : TS := fun D σ H => te σ H fun _ H1 => D.nx σ H1
theorem ps_expr (he : PE X e te) (hs : swapsWith e none pos.line X.env = pure false := by rfl) : PS X (.Expr e pos) (tDrop te) := by
  intro pins s σ H D I h
  exact wpAny_Expr_any (thn (he pins s σ H _ I h) fun v s1 ⟨x, H1, I1, r1, q1⟩ => ⟨σ, H1, I1, q1⟩) I.quiet hs
def tRet (te : TE) : TS := fun D σ H => te σ H D.rt
theorem ps_ret (he : PE X e te) : PS X (.Return (some e) pos) (tRet te) := by
  intro pins s σ H D I h
  exact wpAny_Return_some (thn (he pins s σ H _ I h) fun v s1 ⟨x, H1, I1, r1, q1⟩ => ⟨x, σ, H1, I1, r1, q1⟩)
def tIfS (c : TT) (t u : TS) : TS := fun D σ H => c σ H fun b H1 => if b = true then t D σ H1 else u D σ H1
theorem ps_if {c : Expr} {a b : List Stmt} {tc : TT} (hc : PT X c tc) (ha : PSs X a t) (hb : PSs X b u) : PS X (.If c a b pos) (tIfS tc t u) := by
  intro pins s σ H D I h
  refine wpAny_If (thn (hc pins s σ H _ I h) fun d s1 ⟨H1, I1, q1⟩ => ?_)
  cases d with
  | true => exact ha pins s1 σ H1 D I1 q1
  | false => exact hb pins s1 σ H1 D I1 q1
def tNever : TS := fun _ _ _ => False
theorem pss_never {sts : List Stmt} : PSs X sts tNever := fun _ _ _ _ _ _ h => h.elim
end

abbrev TG := V → St → Hp → (St → Hp → Prop) → Prop
abbrev TGs := List V → St → Hp → (St → Hp → Prop) → Prop
def PG (X : Cx) (target : Expr) (t : TG) : Prop :=
  ∀ (pins : List (Addr × Obj)) (s : Shared) (σ : St) (H : Hp) (v : V) (u : Value) (Q : St → Hp → Prop), Inv X pins σ H s → RelV v u → t v σ H Q →
    wpAny (model X.prog X.w) X.A (assign target X.env u) (fun _ s' => ∃ σ' H', Inv X pins σ' H' s' ∧ Q σ' H') X.xe s
def PGs (X : Cx) (ts : List Expr) (t : TGs) : Prop :=
  ∀ (pins : List (Addr × Obj)) (s : Shared) (σ : St) (H : Hp) (vs : List V) (us : List Value) (Q : St → Hp → Prop), Inv X pins σ H s → Vals vs us → t vs σ H Q →
    wpAny (model X.prog X.w) X.A (assignInOrder ((assignEach ts X.env).map (·.2)) us) (fun _ s' => ∃ σ' H', Inv X pins σ' H' s' ∧ Q σ' H') X.xe s
abbrev TSet := V → V → V → Hp → (Hp → Prop) → Prop
def PSet (X : Cx) (t : TSet) : Prop :=
  ∀ (pins : List (Addr × Obj)) (s : Shared) (σ : St) (H : Hp) (o i v : V) (ov iv u : Value) (Q : Hp → Prop), Inv X pins σ H s → RelV o ov → RelV i iv → RelV v u → t o i v H Q →
    wpAny (model X.prog X.w) X.A (setItem ov iv u) (fun _ s' => ∃ H', Inv X pins σ H' s' ∧ Q H') X.xe s
section
variable {X : Cx} {pos : Pos}
def gName (i : Nat) : TG := fun v σ H Q => Q (σ.set i (some v)) H
theorem pg_name {i : Nat} {x : Str} (hN : X.N.Nodup) (hi : X.N[i]? = some x) (hx : Loc X.env.scope x) (hf : X.fn x = true ∨ X.env.scope.names.lookup x = some .local := by first | exact .inl rfl | exact .inr rfl | assumption) : PG X (.Name x pos) (gName i) := by
  intro pins s σ H v u Q I r h
  exact wpAny_assign_Name (store_ok I hN hi hx r (fun s' I' => ⟨_, H, I', h⟩) hf)
def gNil : TGs := fun vs σ H Q => vs = [] ∧ Q σ H
def gCons (t : TG) (u : TGs) : TGs := fun vs σ H Q => ∃ v r, vs = v :: r ∧ t v σ H fun σ' H' => u r σ' H' Q
theorem pgs_nil : PGs X [] gNil := by
  intro pins s σ H vs us Q I r h
  obtain ⟨e, h⟩ := h
  subst e
  cases r
  exact assignInOrder_nil ⟨σ, H, I, h⟩
theorem pgs_cons {e : Expr} {es : List Expr} {t : TG} {u : TGs} (h1 : PG X e t) (h2 : PGs X es u)
    (hs : (assignEach (e :: es) X.env).map (·.2) = assign e X.env :: (assignEach es X.env).map (·.2) := by rfl) : PGs X (e :: es) (gCons t u) := by
  intro pins s σ H vs us Q I r h
  obtain ⟨v, vr, e1, h⟩ := h
  subst e1
  cases r with
  | cons r rr =>
    rw [hs]
    refine assignInOrder_cons (thn (h1 pins s σ H _ _ _ I r h) fun _ s1 ⟨σ1, H1, I1, q1⟩ => ?_)
    exact h2 pins s1 σ1 H1 _ _ Q I1 rr q1
def gTup (K : PySem.W.Frag) (n : Nat) (t : TGs) : TG := fun v σ H Q => ∃ a xs, v = .ref a ∧ SqT K H a xs ∧ xs.length = n ∧ t xs σ H Q
theorem pg_tup {es : List Expr} {k : Nat} {t : TGs} {n : Nat} (hc : X.calm = true) (h : PGs X es t)
    (hn : (assignEach es X.env).length = n := by rfl) (hst : (assignEach es X.env).findIdx? (·.1) = none := by rfl) : PG X (.Tuple es k pos) (gTup X.K n t) := by
  intro pins s σ H v u Q I r hw
  obtain ⟨a, xs, e1, hq, hl, hw⟩ := hw
  subst e1
  cases r
  obtain ⟨its, rv, ht, hz⟩ := I.tuple hq
  refine assign_Tuple_tuple (I.ok.hd hc) ht (by simp [hn, ← hl, rv.length]) hst fun h' hx => ?_
  have I1 : Inv X pins σ H { s with heap := h' } := I.kept (t' := s.toks) fun b o e => hx b o (Nat.ne_of_lt (Heap.lt_size e)) e
  exact h pins _ σ H xs _ Q I1 (by simpa using rv) hw
def gSub (to ti : TE) (t : TSet) : TG := fun v σ H Q => to σ H fun o H1 => ti σ H1 fun i H2 => t o i v H2 fun H3 => Q σ H3
theorem pg_sub {o i : Expr} {to ti : TE} {t : TSet} (ho : PE X o to) (hi : PE X i ti) (hs : PSet X t)
    (ha : ∀ v, assign (.Subscript o i pos) X.env v = (do
      let ov ← holding [v] (eval o X.env)
      let iv ← holding [v, ov] (eval i X.env)
      standAt pos
      holding [v, ov, iv] (setItem ov iv v)
      release [v, ov, iv] []) := by intro _; rfl) : PG X (.Subscript o i pos) (gSub to ti t) := by
  intro pins s σ H v u Q I r h
  rw [ha]
  refine wpAny_bind (wpAny_holding (thn (ho pins s σ H _ I h) fun ov s1 ⟨x, H1, I1, r1, q1⟩ => ?_))
  refine wpAny_bind (wpAny_holding (thn (hi pins s1 σ H1 _ I1 q1) fun iv s2 ⟨y, H2, I2, r2, q2⟩ => ?_))
  refine wpAny_bind (wpAny_standAt (wpAny_bind (wpAny_holding (thn (hs pins s2 σ H2 x y v ov iv u _ I2 r1 r2 r q2) fun _ s3 ⟨H3, I3, q3⟩ => ?_))))
  exact wpAny_release ⟨σ, H3, I3, q3⟩
def tAsg (te : TE) (g : TG) : TS := fun D σ H => te σ H fun x H1 => g x σ H1 D.nx
theorem ps_asg {tg e : Expr} {te : TE} {g : TG} (he : PE X e te) (hg : PG X tg g) (hs : swapsWithSole [tg] e pos.line X.env = pure false := by rfl) (hw : swappedStores [tg] e X.env = pure none := by rfl)
    (h1 : (assignEach [tg] X.env).map (·.2) = [assign tg X.env] := by rfl) : PS X (.Assign [tg] e pos) (tAsg te g) := by
  intro pins s σ H D I h
  refine wpAny_Assign_stores (thn (he pins s σ H _ I h) fun v s1 ⟨x, H1, I1, r1, q1⟩ => ?_) hs hw
  rw [h1]
  exact thn (hg pins s1 σ H1 x v _ I1 r1 q1) fun _ s2 q => q
theorem ps_set {i : Nat} {x : Str} {e : Expr} {te : TE} {pos' : Pos} (hN : X.N.Nodup) (hi : X.N[i]? = some x) (hx : Loc X.env.scope x) (he : PE X e te) (hs : swapsWith e (some (.Name x pos')) pos.line X.env = pure false := by rfl) (hf : X.fn x = true ∨ X.env.scope.names.lookup x = some .local := by first | exact .inl rfl | exact .inr rfl | assumption) :
    PS X (.Assign [.Name x pos'] e pos) (tAsg te (gName i)) := by
  intro pins s σ H D I h
  refine wpAny_Assign_Name (thn (he pins s σ H _ I h) fun v s1 ⟨y, H1, I1, r1, q1⟩ => ?_) hs
  exact store_ok I1 hN hi hx r1 (fun s2 I2 => ⟨_, H1, I2, q1⟩) hf
end

section
variable {X : Cx} {pos : Pos}
def tWhile (c : TT) (tb : TS) : TS := fun D σ H => ∃ W : Nat → St → Hp → Prop, (∃ m, W m σ H) ∧ ∀ m σ H, W m σ H →
  c σ H fun b H1 => if b = true then ∃ N : St → Hp → Prop, (∀ σ' H', N σ' H' → ∃ m', m' < m ∧ W m' σ' H') ∧ tb { D with nx := N, ct := N, bk := D.nx } σ H1 else D.nx σ H1
theorem ps_while {c : Expr} {body : List Stmt} {tc : TT} {tb : TS} (hp : PassesOwn (model X.prog X.w) X.A X.env X.xe) (hc : PT X c tc) (hb : PSs X body tb) : PS X (.While c body [] pos) (tWhile tc tb) := by
  intro pins s σ H D I h
  obtain ⟨W, ⟨m0, w0⟩, turn⟩ := h
  refine wpAny_While (codeAny_whileLoop (fun n s' => ∃ σ' H', Inv X pins σ' H' s' ∧ W n σ' H') ?_ m0 ⟨σ, H, I, w0⟩)
  rintro n s1 ⟨σ1, H1, I1, w1⟩
  refine wpAny_passesOwn hp (thn (hc pins s1 σ1 H1 _ I1 (turn n σ1 H1 w1)) fun b s2 ⟨H2, I2, q2⟩ => ?_)
  cases b with
  | true =>
    obtain ⟨N, hN, q2⟩ := q2
    rw [if_pos rfl]
    refine wpAny_passesOwn hp (thn (hb pins s2 σ1 H2 _ I2 q2) fun f s3 q3 => ?_)
    cases f with
    | next =>
      obtain ⟨σ3, H3, I3, n3⟩ := q3
      obtain ⟨m', hm, w3⟩ := hN σ3 H3 n3
      exact ⟨m', hm, σ3, H3, I3, w3⟩
    | cont =>
      obtain ⟨σ3, H3, I3, n3⟩ := q3
      obtain ⟨m', hm, w3⟩ := hN σ3 H3 n3
      exact ⟨m', hm, σ3, H3, I3, w3⟩
    | brk => exact q3
    | ret v => exact q3
  | false =>
    rw [if_neg Bool.false_ne_true]
    exact wpAny_execs_nil ⟨σ1, H2, I2, q2⟩
end

structure It where
  go : Nat → Hp → Prop
  yld : Nat → Hp → V → Hp → Prop
  stop : Nat → Hp → Prop
def FpOk (X : Cx) (pins : List (Addr × Obj)) (H : Hp) (b : Addr) : Prop :=
  H b = none ∧ b ≠ X.env.locals ∧ b ∉ X.fs ∧ (b ∈ X.ex ∨ X.s₀.heap.objs.size ≤ b) ∧ (∀ x c, X.env.cells.lookup x = some c → c ≠ b) ∧ ∀ p ∈ X.pn ++ pins, p.1 ≠ b
theorem Inv.fpOk {X : Cx} {pins : List (Addr × Obj)} {σ : St} {H H' : Hp} {s : Shared} {b : Addr} (I : Inv X pins σ H s) (hb : s.heap.objs.size ≤ b) (hn : H' b = none) : FpOk X pins H' b := by
  refine ⟨hn, Nat.ne_of_gt (Nat.lt_of_lt_of_le I.lt hb), I.nofs hb, .inr (Nat.le_trans I.sz hb), fun x c e z => ?_, fun p hp z => ?_⟩
  · obtain ⟨v, q⟩ := I.cell x c e
    exact absurd (Nat.lt_of_lt_of_le q.lt (by rw [z]; exact hb)) (Nat.lt_irrefl _)
  · exact absurd (Nat.lt_of_lt_of_le (Heap.lt_size (I.pin p hp).1) (by rw [z]; exact hb)) (Nat.lt_irrefl _)
structure Turn (P : Program) (w : World) (K : PySem.W.Frag) (tg : Expr) (J : It) (fp : List Addr) (it : Addr) (tn : Nat → Heap → Prop) : Prop where
  mem : it ∈ fp
  obj : ∀ i h, tn i h → ∀ b ∈ fp, ∃ o, h.get? b = some o ∧ ∀ v, o.data ≠ .cell v
  keep : ∀ i h h', tn i h → (∀ b ∈ fp, ∀ o, h.get? b = some o → h'.get? b = some o) → tn i h'
  item : ∀ (X : Cx), X.prog = P → X.w = w → X.K = K → X.calm = true → ∀ (i : Nat) (pins : List (Addr × Obj)) (s : Shared) (σ : St) (H : Hp) (E : Value → Shared → Prop), Inv X pins σ H s → (∀ b ∈ fp, FpOk X pins H b) → tn i s.heap → J.go i H →
    wpAny (model P w) X.A (pyNext (.ref it)) (fun r s1 => ∃ u, r = some u ∧
      wpAny (model P w) X.A (letOwnedTupleGo tg (.ref it) u) (fun _ s2 => ∃ x H', Inv X pins σ H' s2 ∧ RelV x u ∧ J.yld i H x H' ∧ tn (i + 1) s2.heap ∧ ∀ b ∈ fp, H' b = none) E s1) E s
  done : ∀ (X : Cx), X.prog = P → X.w = w → X.K = K → X.calm = true → ∀ (i : Nat) (pins : List (Addr × Obj)) (s : Shared) (σ : St) (H : Hp) (E : Value → Shared → Prop), Inv X pins σ H s → (∀ b ∈ fp, FpOk X pins H b) → tn i s.heap → J.stop i H →
    wpAny (model P w) X.A (pyNext (.ref it)) (fun r s1 => r = none ∧ Inv X pins σ H s1) E s
  self : ∀ (A : Around) (i : Nat) (s : Shared) (Q : Value → Shared → Prop) (E : Value → Shared → Prop), tn i s.heap → Q (.ref it) s → wpAny (model P w) A (pyIter (.ref it)) Q E s
abbrev TI := St → Hp → (It → Hp → Prop) → Prop
def PIE (X : Cx) (pins : List (Addr × Obj)) (σ : St) (tg : Expr) (R : It → Hp → Prop) (itv : Value) (s2 : Shared) : Prop :=
  ∃ (it : Addr) (fp : List Addr) (tn : Nat → Heap → Prop) (J : It) (H' : Hp), itv = .ref it ∧ Inv X pins σ H' s2 ∧ Turn X.prog X.w X.K tg J fp it tn ∧ tn 0 s2.heap ∧ (∀ b ∈ fp, FpOk X pins H' b) ∧ R J H'
def PI (X : Cx) (tg iter : Expr) (wi : TI) : Prop :=
  ∀ (pins : List (Addr × Obj)) (s : Shared) (σ : St) (H : Hp) (R : It → Hp → Prop), Inv X pins σ H s → wi σ H R →
    wpAny (model X.prog X.w) X.A (eval iter X.env) (fun v s1 => wpAny (model X.prog X.w) X.A (pyIter v) (PIE X pins σ tg R) X.xe s1) X.xe s

theorem go_of {M : Model} {A : Around} {E : Value → Shared → Prop} {s : Shared} {tg : Expr} {it : Addr} {u : Value} {o : Obj} {n : String} {vs : Array Value} {Q : Unit → Shared → Prop} (ho : s.heap.get? it = some o) (hc : o.cls = .type n) (hd : o.data = .fields vs)
    (hn : ["enumerate", "zip", "dict_itemiterator", "dict_reverseitemiterator", "odict_iterator", "itertools.zip_longest", "itertools.pairwise"].contains n = false) (hQ : Q () s) : wpAny M A (letOwnedTupleGo tg (.ref it) u) Q E s := by
  unfold letOwnedTupleGo
  cases tg <;> first
    | exact wpAny_pure hQ
    | (cases u <;> first
        | exact wpAny_pure hQ
        | (refine wpAny_bind (wpAny_load ho ?_)
           rw [hc, hd]
           show wpAny M A (if (["enumerate", "zip", "dict_itemiterator", "dict_reverseitemiterator", "odict_iterator", "itertools.zip_longest", "itertools.pairwise"].contains n && vs[0]? == some (rawInt _)) = true then _ else _) Q E s
           rw [if_neg (by intro h; rw [hn, Bool.false_and] at h; cases h)]
           exact wpAny_pure hQ))

def Itl (K : PySem.W.Frag) (a : Addr) : It :=
  ⟨fun i H => ∃ xs x, SqL K H a xs ∧ xs[i]? = some x, fun i H x H' => H' = H ∧ ∀ xs, SqL K H a xs → xs[i]? = some x, fun i H => ∃ xs, SqL K H a xs ∧ xs.length ≤ i⟩
def Itr (lo : Int) (n : Nat) : It := ⟨fun i _ => i < n, fun i H x H' => H' = H ∧ x = .int (lo + i), fun i _ => n ≤ i⟩
theorem turn_list {P : Program} {w : World} {K : PySem.W.Frag} {tg : Expr} (a it : Addr) : Turn P w K tg (Itl K a) [it] it (fun i h => h.IsListIter it a i) where
  mem := by simp
  obj := fun i h st b hb => by
    have e : b = it := by simpa using hb
    subst e
    obtain ⟨o, e, c, d⟩ := st
    exact ⟨o, e, fun v z => by rw [d] at z; cases z⟩
  keep := fun i h h' st k => st.at fun o e => k it (by simp) o e
  item := by
    intro X hP hw hK hc i pins s σ H E I hf st hg
    subst hP hw hK
    obtain ⟨xs, x, hq, hx⟩ := hg
    obtain ⟨its, rv, p, hz⟩ := I.list hq
    obtain ⟨u, hu, ru⟩ := rv.get hx
    obtain ⟨f0, f1, f2, f3, f4, f5⟩ := hf it (by simp)
    refine wpAny_pyNext_list_item st p.isList (x := u) (by simpa using hu) fun h' st' sb => ?_
    have I1 : Inv X pins σ H { s with heap := h' } := I.turned (t' := s.toks) (fun b o hb e => (sb.2 b hb).trans e) f0 f1 f3 f4 f5
    obtain ⟨o, e, c, d⟩ := id st'
    exact ⟨u, rfl, go_of (s := { s with heap := h' }) e c d (by decide) ⟨x, H, I1, ru, ⟨rfl, fun ys hy => by rw [I.list_inj hy hq]; exact hx⟩, st', fun b hb => (hf b hb).1⟩⟩
  done := by
    intro X hP hw hK hc i pins s σ H E I hf st hg
    subst hP hw hK
    obtain ⟨xs, hq, hx⟩ := hg
    obtain ⟨its, rv, p, hz⟩ := I.list hq
    obtain ⟨f0, f1, f2, f3, f4, f5⟩ := hf it (by simp)
    have hl := rv.length
    exact wpAny_pyNext_list_end (I.ok.hd hc) st p.isList (by simp; omega) fun h' eb => ⟨rfl, I.turned (t' := s.toks) (fun b o hb e => eb b o hb e) f0 f1 f3 f4 f5⟩
  self := fun _ _ _ _ _ st h => wpAny_pyIter_listiter st h
theorem turn_range {P : Program} {w : World} {K : PySem.W.Frag} {tg : Expr} (it : Addr) (lo : Int) (n : Nat) : Turn P w K tg (Itr lo n) [it] it (fun i h => IsRangeIter h it (lo + (i : Nat) * 1) ((n : Int) - (i : Nat)) 1) where
  mem := by simp
  obj := fun i h st b hb => by
    have e : b = it := by simpa using hb
    subst e
    exact ⟨_, st, fun v z => by
      have z' : Data.fields _ = Data.cell v := z
      cases z'⟩
  keep := fun i h h' st k => k it (by simp) _ st
  item := by
    intro X hP hw hK hc i pins s σ H E I hf st hg
    subst hP hw hK
    obtain ⟨f0, f1, f2, f3, f4, f5⟩ := hf it (by simp)
    have W := Walks.range (prog := X.prog) (w := X.w) (I.ok.hd hc) it lo 1 n
    refine W.item i s _ _ hg st fun v h' tk hv st' kk => ?_
    obtain ⟨t, rfl⟩ := hv
    have I1 : Inv X pins σ H { s with heap := h', toks := tk } := I.turned (fun b o hb e => kk b o (by simpa using hb) e) f0 f1 f3 f4 f5
    refine ⟨_, rfl, go_of (s := { s with heap := h', toks := tk }) (n := "range_iterator") st' rfl rfl (by decide) ⟨.int (lo + i), H, I1, ⟨t, ?_⟩, ⟨rfl, rfl⟩, st', fun b hb => (hf b hb).1⟩⟩
    rw [Int.mul_one]
  done := by
    intro X hP hw hK hc i pins s σ H E I hf st hg
    subst hP hw hK
    obtain ⟨f0, f1, f2, f3, f4, f5⟩ := hf it (by simp)
    exact wpAny_pyNext_range_end (I.ok.hd hc) st (by have : n ≤ i := hg; omega) fun h' eb => ⟨rfl, I.turned (t' := s.toks) (fun b o hb e => eb b o hb e) f0 f1 f3 f4 f5⟩
  self := fun _ _ _ _ _ st h => wpAny_pyIter_rangeiter st h
end L2

namespace L2
open PySem PySem.Spec PyProof.Rows
section
variable {X : Cx} {tg : Expr}
def iList (K : PySem.W.Frag) (tl : TE) : TI := fun σ H R => tl σ H fun x H1 => ∃ a, x = .ref a ∧ (∃ xs, SqL K H1 a xs) ∧ R (Itl K a) H1
theorem pi_list {l : Expr} {tl : TE} (hl : PE X l tl) : PI X tg l (iList X.K tl) := by
  intro pins s σ H R I h
  refine thn (hl pins s σ H _ I h) fun v s1 ⟨x, H1, I1, r1, q1⟩ => ?_
  obtain ⟨a, e, ⟨xs, hq⟩, q⟩ := q1
  subst e
  cases r1
  obtain ⟨its, rv, p, hz⟩ := I1.list hq
  refine wpAny_pyIter_list p.isList ?_
  refine ⟨s1.heap.objs.size, [s1.heap.objs.size], _, _, H1, rfl, I1.kept (t' := s1.toks) fun b o e => Heap.get?_push_of_some _ e, turn_list a _, ⟨_, Heap.get?_push_size _ rfl, rfl, rfl⟩, fun b hb => ?_, q⟩
  have e : b = s1.heap.objs.size := by simpa using hb
  subst e
  exact I1.fpOk (Nat.le_refl _) (I1.hok.fresh (Nat.le_refl _))
theorem range_it {pins : List (Addr × Obj)} {σ : St} {H : Hp} {s : Shared} {R : It → Hp → Prop} {E : Value → Shared → Prop} {lo hi : Int} {t u v : Tok} {tk : Nat} (I : Inv X pins σ H s) (h1 : -(2 ^ 62) ≤ lo) (h2 : lo < 2 ^ 62) (h3 : -(2 ^ 62) ≤ hi) (h4 : hi < 2 ^ 62)
    (q : R (Itr lo (hi - lo).toNat) H) : wpAny (model X.prog X.w) X.A (pyIter (.ref s.heap.objs.size)) (PIE X pins σ tg R) E { s with heap := s.heap.push { cls := .type "range", data := .fields #[.int lo t, .int hi u, .int 1 v] }, toks := tk } := by
  refine wpAny_pyIter_range (IsRange.new ..) (small_one h1 h2 h3 h4) ?_
  have I1 : Inv X pins σ H { s with heap := s.heap.push { cls := .type "range", data := .fields #[.int lo t, .int hi u, .int 1 v] }, toks := tk } := I.kept fun b o e => Heap.get?_push_of_some _ e
  refine ⟨(s.heap.push { cls := .type "range", data := .fields #[.int lo t, .int hi u, .int 1 v] }).objs.size, [(s.heap.push { cls := .type "range", data := .fields #[.int lo t, .int hi u, .int 1 v] }).objs.size], _, _, H, rfl,
    I1.kept (t' := tk) fun b o e => Heap.get?_push_of_some _ e, turn_range _ lo (hi - lo).toNat, ?_, fun b hb => ?_, q⟩
  · have e1 : lo + ((0 : Nat) : Int) * 1 = lo := by simp
    have e2 : (((hi - lo).toNat : Nat) : Int) - ((0 : Nat) : Int) = Builtin.Range.rangeSize lo hi 1 := by rw [rangeSize_one]; split <;> omega
    show IsRangeIter _ _ (lo + ((0 : Nat) : Int) * 1) ((((hi - lo).toNat : Nat) : Int) - ((0 : Nat) : Int)) 1
    rw [e1, e2]
    exact Heap.get?_push_size _ rfl
  · have e : b = (s.heap.push { cls := .type "range", data := .fields #[.int lo t, .int hi u, .int 1 v] }).objs.size := by simpa using hb
    subst e
    exact I1.fpOk (Nat.le_refl _) (I1.hok.fresh (Nat.le_refl _))
def iRng1 (ta : TA) : TI := fun σ H R => ta σ H fun vs H1 => ∃ j : Int, vs = [.int j] ∧ -(2 ^ 62) ≤ j ∧ j < 2 ^ 62 ∧ R (Itr 0 j.toNat) H1
theorem pi_range1 {a : Expr} {ta : TA} {p pos : Pos} (hg : Gl X "range") (hm : X.mg "range" = none) (ha : PA X [a] ta) (hs : starEach [a] X.env = [(false, eval a X.env)] := by rfl) : PI X tg (.Call (.Name "range" p) [a] [] pos) (iRng1 ta) := by
  intro pins s σ H R I h
  refine Call_ (ld_blt I hg hm boot_range (PyProof.Rows.callWith_type1 (thn (ha pos pins s σ H _ I h) fun us s1 ⟨vs, H1, I1, r1, q1⟩ => ?_) hs rfl))
  obtain ⟨j, e, q1, q2, q⟩ := q1
  subst e
  cases r1 with
  | cons r rr =>
    cases rr
    obtain ⟨t, rfl⟩ := r
    exact call_range_1 (range_it I1 (by omega) (by omega) q1 q2 (by simpa using q))
def tFor (wi : TI) (g : TG) (tb : TS) : TS := fun D σ H => wi σ H fun J H1 => ∃ W : Nat → Nat → St → Hp → Prop, (∃ m, W 0 m σ H1) ∧ ∀ i m σ H, W i m σ H →
  (J.stop i H ∧ D.nx σ H) ∨ (J.go i H ∧ ∃ N : St → Hp → Prop, (∀ σ' H', N σ' H' → ∃ m', m' < m ∧ W (i + 1) m' σ' H') ∧ ∀ x H', J.yld i H x H' → g x σ H' fun σ2 H2 => tb { D with nx := N, ct := N, bk := D.nx } σ2 H2)
def pinsAt (fp : List Addr) (h : Heap) : List (Addr × Obj) := fp.filterMap fun b => (h.get? b).map fun o => (b, o)
theorem mem_pinsAt {fp : List Addr} {h : Heap} {b : Addr} {o : Obj} (hb : b ∈ fp) (e : h.get? b = some o) : (b, o) ∈ pinsAt fp h := List.mem_filterMap.mpr ⟨b, hb, by rw [e]; rfl⟩
theorem of_pinsAt {fp : List Addr} {h : Heap} {p : Addr × Obj} (hp : p ∈ pinsAt fp h) : p.1 ∈ fp ∧ h.get? p.1 = some p.2 := by
  obtain ⟨b, hb, e⟩ := List.mem_filterMap.mp hp
  cases q : h.get? b with
  | none => rw [q] at e; cases e
  | some o =>
    rw [q] at e
    have e' : (b, o) = p := Option.some.inj e
    subst e'
    exact ⟨hb, q⟩
theorem Inv.pinned {pins : List (Addr × Obj)} {σ : St} {H : Hp} {s : Shared} {fp : List Addr} (I : Inv X pins σ H s) (hf : ∀ b ∈ fp, FpOk X pins H b) (ho : ∀ b ∈ fp, ∃ o, s.heap.get? b = some o ∧ ∀ v, o.data ≠ .cell v) : Inv X (pins ++ pinsAt fp s.heap) σ H s :=
  I.pins_of fun p hp => (List.mem_append.mp hp).elim (fun z => I.pin p (List.mem_append_right _ z)) fun z => by
    obtain ⟨hb, e⟩ := of_pinsAt z
    obtain ⟨f0, f1, f2, _⟩ := hf p.1 hb
    obtain ⟨o, e', d⟩ := ho p.1 hb
    rw [e] at e'; cases e'
    exact ⟨e, f0, f1, f2, d⟩
theorem Inv.unpinned {pins pl : List (Addr × Obj)} {σ : St} {H : Hp} {s : Shared} (I : Inv X (pins ++ pl) σ H s) : Inv X pins σ H s := I.pins_of fun p hp => I.pin p (List.mem_append_right _ (List.mem_append_left _ hp))
theorem ps_for {iter : Expr} {body : List Stmt} {wi : TI} {g : TG} {tb : TS} {pos : Pos} (hp : PassesOwn (model X.prog X.w) X.A X.env X.xe) (hc : X.calm = true) (hi : PI X tg iter wi) (hg : PG X tg g) (hb : PSs X body tb)
    (hs : ∀ x, foldedSetIterable iter X.env x = pure x := by intro _; rfl) : PS X (.For tg iter body [] pos) (tFor wi g tb) := by
  intro pins s σ H D I h
  refine wpAny_For (thn (hi pins s σ H _ I h) fun v s1 h1 => thn h1 fun itv s2 h2 => ?_) hs
  obtain ⟨it, fp, tn, J, H2, e, I2, T, st2, f2, W, ⟨m0, w0⟩, turn⟩ := h2
  subst e
  -- what stays true of the iterator's objects through the loop
  have stat : ∀ {H' : Hp}, (∀ b ∈ fp, H' b = none) → ∀ b ∈ fp, FpOk X pins H' b := fun hn b hb => ⟨hn b hb, (f2 b hb).2⟩
  refine codeAny_forLoop_any (fun n s' => ∃ i σ' H', Inv X pins σ' H' s' ∧ tn i s'.heap ∧ (∀ b ∈ fp, H' b = none) ∧ W i n σ' H') ?_ m0 ⟨0, σ, H2, I2, st2, fun b hb => (f2 b hb).1, w0⟩
  rintro n s3 ⟨i, σ3, H3, I3, st3, fr3, w3⟩
  rcases turn i n σ3 H3 w3 with ⟨stop, qn⟩ | ⟨go, N, hN, step⟩
  · refine wpAny_passesOwn hp (thn (T.done X rfl rfl rfl hc i pins s3 σ3 H3 X.xe I3 (stat fr3) st3 stop) fun r s4 ⟨hr, I4⟩ => ?_)
    subst hr
    exact wpAny_execs_nil ⟨σ3, H3, I4, qn⟩
  · refine wpAny_passesOwn hp (thn (T.item X rfl rfl rfl hc i pins s3 σ3 H3 X.xe I3 (stat fr3) st3 go) fun r s4 ⟨u, hr, h4⟩ => ?_)
    subst hr
    refine wpAny_passesOwn hp (thn h4 fun _ s5 ⟨x, H5, I5, r5, y5, st5, fr5⟩ => ?_)
    have I5' := I5.pinned (stat fr5) (T.obj _ _ st5)
    refine wpAny_passesOwn hp (thn (hg _ s5 σ3 H5 x u _ I5' r5 (step x H5 y5)) fun _ s6 ⟨σ6, H6, I6, q6⟩ => ?_)
    refine wpAny_passesOwn hp (thn (hb _ s6 σ6 H6 _ I6 q6) fun f s7 q7 => ?_)
    have again : ∀ {σ7 : St} {H7 : Hp}, Inv X (pins ++ pinsAt fp s5.heap) σ7 H7 s7 → N σ7 H7 → ∃ m, m < n ∧ ∃ i σ' H', Inv X pins σ' H' s7 ∧ tn i s7.heap ∧ (∀ b ∈ fp, H' b = none) ∧ W i m σ' H' := fun {σ7 H7} I7 n7 => by
      obtain ⟨m', hm, w7⟩ := hN σ7 H7 n7
      refine ⟨m', hm, i + 1, σ7, H7, I7.unpinned, T.keep _ _ _ st5 fun b hb o e => (I7.pin (b, o) (List.mem_append_right _ (List.mem_append_right _ (mem_pinsAt hb e)))).1, fun b hb => ?_, w7⟩
      obtain ⟨o, e, d⟩ := T.obj _ _ st5 b hb
      exact (I7.pin (b, o) (List.mem_append_right _ (List.mem_append_right _ (mem_pinsAt hb e)))).2.1
    cases f with
    | next => obtain ⟨σ7, H7, I7, n7⟩ := q7; exact again I7 n7
    | cont => obtain ⟨σ7, H7, I7, n7⟩ := q7; exact again I7 n7
    | brk => obtain ⟨σ7, H7, I7, q7⟩ := q7; exact ⟨σ7, H7, I7.unpinned, q7⟩
    | ret v => obtain ⟨x7, σ7, H7, I7, r7, q7⟩ := q7; exact ⟨x7, σ7, H7, I7.unpinned, r7, q7⟩
end

theorem for_list {K : PySem.W.Frag} {a : Addr} {xs : List V} {g : TG} {tb : TS} {D : Ends} {σ : St} {H : Hp} (Pv : Nat → St → Hp → Prop) (h0 : Pv 0 σ H) (hl : ∀ i σ H, i ≤ xs.length → Pv i σ H → SqL K H a xs)
    (hs : ∀ i x σ H, xs[i]? = some x → Pv i σ H → g x σ H fun σ2 H2 => tb { D with nx := Pv (i + 1), ct := Pv (i + 1), bk := D.nx } σ2 H2) (hd : ∀ σ H, Pv xs.length σ H → D.nx σ H) :
    ∃ W : Nat → Nat → St → Hp → Prop, (∃ m, W 0 m σ H) ∧ ∀ i m σ H, W i m σ H →
      ((Itl K a).stop i H ∧ D.nx σ H) ∨ ((Itl K a).go i H ∧ ∃ N : St → Hp → Prop, (∀ σ' H', N σ' H' → ∃ m', m' < m ∧ W (i + 1) m' σ' H') ∧ ∀ x H', (Itl K a).yld i H x H' → g x σ H' fun σ2 H2 => tb { D with nx := N, ct := N, bk := D.nx } σ2 H2) := by
  refine ⟨fun i m σ H => m = xs.length - i ∧ i ≤ xs.length ∧ Pv i σ H, ⟨xs.length, by simp, Nat.zero_le _, h0⟩, ?_⟩
  rintro i m σ H ⟨rfl, hi, p⟩
  have q := hl i σ H hi p
  by_cases hlt : i < xs.length
  · refine .inr ⟨⟨xs, xs[i], q, by simp [hlt]⟩, Pv (i + 1), fun σ' H' p' => ⟨xs.length - (i + 1), by omega, rfl, hlt, p'⟩, fun x H' y => ?_⟩
    obtain ⟨e, y⟩ := y
    subst e
    exact hs i x σ _ (y xs q) p
  · have e : i = xs.length := by omega
    subst e
    exact .inl ⟨⟨xs, q, Nat.le_refl _⟩, hd σ H p⟩
theorem for_range {lo : Int} {n : Nat} {g : TG} {tb : TS} {D : Ends} {σ : St} {H : Hp} (Pv : Nat → St → Hp → Prop) (h0 : Pv 0 σ H)
    (hs : ∀ i σ H, i < n → Pv i σ H → g (.int (lo + i)) σ H fun σ2 H2 => tb { D with nx := Pv (i + 1), ct := Pv (i + 1), bk := D.nx } σ2 H2) (hd : ∀ σ H, Pv n σ H → D.nx σ H) :
    ∃ W : Nat → Nat → St → Hp → Prop, (∃ m, W 0 m σ H) ∧ ∀ i m σ H, W i m σ H →
      ((Itr lo n).stop i H ∧ D.nx σ H) ∨ ((Itr lo n).go i H ∧ ∃ N : St → Hp → Prop, (∀ σ' H', N σ' H' → ∃ m', m' < m ∧ W (i + 1) m' σ' H') ∧ ∀ x H', (Itr lo n).yld i H x H' → g x σ H' fun σ2 H2 => tb { D with nx := N, ct := N, bk := D.nx } σ2 H2) := by
  refine ⟨fun i m σ H => m = n - i ∧ i ≤ n ∧ Pv i σ H, ⟨n, by simp, Nat.zero_le _, h0⟩, ?_⟩
  rintro i m σ H ⟨rfl, hi, p⟩
  by_cases hlt : i < n
  · refine .inr ⟨hlt, Pv (i + 1), fun σ' H' p' => ⟨n - (i + 1), by omega, rfl, hlt, p'⟩, fun x H' y => ?_⟩
    obtain ⟨e, y⟩ := y
    subst e y
    exact hs i σ _ hlt p
  · have e : i = n := by omega
    subst e
    exact .inl ⟨Nat.le_refl _, hd σ H p⟩
end L2

namespace L2
open PySem PySem.Spec PyProof.Rows

abbrev R2 := V → V → Hp → VK → Prop
def OpR (X : Cx) (f : Value → Value → Sem Value) (r : R2) : Prop :=
  ∀ (pins : List (Addr × Obj)) (s : Shared) (σ : St) (H : Hp) (x y : V) (v u : Value) (Q : VK), Inv X pins σ H s → RelV x v → RelV y u → r x y H Q →
    wpAny (model X.prog X.w) X.A (f v u) (EP X pins σ Q) X.xe s
def UnR (X : Cx) (f : Value → Sem Value) (r : V → Hp → VK → Prop) : Prop :=
  ∀ (pins : List (Addr × Obj)) (s : Shared) (σ : St) (H : Hp) (x : V) (v : Value) (Q : VK), Inv X pins σ H s → RelV x v → r x H Q →
    wpAny (model X.prog X.w) X.A (f v) (EP X pins σ Q) X.xe s
def CallR (X : Cx) (f : Value) (r : List V → Hp → VK → Prop) : Prop :=
  ∀ (pins : List (Addr × Obj)) (s : Shared) (σ : St) (H : Hp) (xs : List V) (us : List Value) (Q : VK), Inv X pins σ H s → Vals xs us → r xs H Q →
    wpAny (model X.prog X.w) X.A (call f us) (EP X pins σ Q) X.xe s
def tOp (r : R2) (ta tb : TE) : TE := fun σ H Q => ta σ H fun x H1 => tb σ H1 fun y H2 => r x y H2 Q
def tUn (r : V → Hp → VK → Prop) (ta : TE) : TE := fun σ H Q => ta σ H fun x H1 => r x H1 Q
def rI (C : Int → Int → Prop) (g : Int → Int → V) : R2 := fun x y H Q => ∃ i j, x = .int i ∧ y = .int j ∧ C i j ∧ Q (g i j) H
def rI0 (g : Int → Int → V) : R2 := fun x y H Q => ∃ i j, x = .int i ∧ y = .int j ∧ Q (g i j) H
def rU (g : Int → V) : V → Hp → VK → Prop := fun x H Q => ∃ i, x = .int i ∧ Q (g i) H

section
variable {X : Cx} {a b c : Expr} {ta tb tc : TE} {pos : Pos}

theorem binT (ha : PE X a ta) (hb : PE X b tb) {pins : List (Addr × Obj)} {s : Shared} {σ : St} {H : Hp} {R : V → V → Hp → Prop} (I : Inv X pins σ H s)
    (h : ta σ H fun x H1 => tb σ H1 fun y H2 => R x y H2) {Q : Value → Shared → Prop} {f : Value → Value → Sem Value}
    (hf : ∀ v u s2 x y H2, Inv X pins σ H2 s2 → RelV x v → RelV y u → R x y H2 → wpAny (model X.prog X.w) X.A (f v u) Q X.xe s2) :
    wpAny (model X.prog X.w) X.A (eval a X.env) (fun v s₁ => wpAny (model X.prog X.w) X.A (eval b X.env) (fun u s₂ => wpAny (model X.prog X.w) X.A (f v u) Q X.xe s₂) X.xe s₁) X.xe s := by
  refine thn (ha pins s σ H _ I h) fun v s1 ⟨x, H1, I1, r1, q1⟩ => ?_
  refine thn (hb pins s1 σ H1 _ I1 q1) fun u s2 ⟨y, H2, I2, r2, q2⟩ => ?_
  exact hf v u s2 x y H2 I2 r1 r2 q2

theorem pe_op {op : Operator} {r : R2} (ho : OpR X (binaryOp op) r) (ha : PE X a ta) (hb : PE X b tb) : PE X (.BinOp a op b pos) (tOp r ta tb) := by
  intro pins s σ H Q I h
  exact wpAny_BinOp (binT ha hb I h fun v u s2 x y H2 I2 rx ry q => ho pins s2 σ H2 x y v u Q I2 rx ry q)
theorem pe_un {op : UnaryOp} {r : V → Hp → VK → Prop} (ho : UnR X (unaryOp op) r) (ha : PE X a ta) : PE X (.UnaryOp op a pos) (tUn r ta) := by
  intro pins s σ H Q I h
  exact UnaryOp_ (thn (ha pins s σ H _ I h) fun v s1 ⟨x, H1, I1, r1, q1⟩ => ho pins s1 σ H1 x v Q I1 r1 q1)
theorem opI {f : Value → Value → Sem Value} {C : Int → Int → Prop} {g : Int → Int → Int}
    (rule : ∀ (i j : Int) (t u : Tok) (s : Shared) (Q : Value → Shared → Prop) (E : Value → Shared → Prop), C i j → Q (.int (g i j) s.toks) { s with toks := s.toks + 1 } → wpAny (model X.prog X.w) X.A (f (.int i t) (.int j u)) Q E s) :
    OpR X f (rI C fun i j => .int (g i j)) := by
  intro pins s σ H x y v u Q I rx ry h
  obtain ⟨i, j, rfl, rfl, hc, q⟩ := h
  obtain ⟨t, rfl⟩ := rx
  obtain ⟨t', rfl⟩ := ry
  exact rule i j t t' s _ _ hc ⟨.int (g i j), H, I.tok _, ⟨_, rfl⟩, q⟩
theorem opI0 {f : Value → Value → Sem Value} {g : Int → Int → Int}
    (rule : ∀ (i j : Int) (t u : Tok) (s : Shared) (Q : Value → Shared → Prop) (E : Value → Shared → Prop), Q (.int (g i j) s.toks) { s with toks := s.toks + 1 } → wpAny (model X.prog X.w) X.A (f (.int i t) (.int j u)) Q E s) :
    OpR X f (rI0 fun i j => .int (g i j)) := by
  intro pins s σ H x y v u Q I rx ry h
  obtain ⟨i, j, rfl, rfl, q⟩ := h
  obtain ⟨t, rfl⟩ := rx
  obtain ⟨t', rfl⟩ := ry
  exact rule i j t t' s _ _ ⟨.int (g i j), H, I.tok _, ⟨_, rfl⟩, q⟩
theorem opB0 {f : Value → Value → Sem Value} {g : Int → Int → Bool}
    (rule : ∀ (i j : Int) (t u : Tok) (s : Shared) (Q : Value → Shared → Prop) (E : Value → Shared → Prop), Q (.bool (g i j)) s → wpAny (model X.prog X.w) X.A (f (.int i t) (.int j u)) Q E s) :
    OpR X f (rI0 fun i j => .bl (g i j)) := by
  intro pins s σ H x y v u Q I rx ry h
  obtain ⟨i, j, rfl, rfl, q⟩ := h
  obtain ⟨t, rfl⟩ := rx
  obtain ⟨t', rfl⟩ := ry
  exact rule i j t t' s _ _ ⟨.bl (g i j), H, I, rfl, q⟩

def CDiv (i j : Int) : Prop := 0 < j ∧ j < 1073741824
def CPow (i j : Int) : Prop := 0 ≤ j ∧ j ≤ 1000000 ∧ i.natAbs < 2 ^ 64
def CMul (i j : Int) : Prop := (-(2 ^ 64) < i ∧ i < 2 ^ 64) ∨ (-(2 ^ 64) < j ∧ j < 2 ^ 64)
theorem CMul.ok {i j : Int} (h : CMul i j) : IntMulOk i j := by
  rcases h with ⟨h1, h2⟩ | ⟨h1, h2⟩
  · exact .of_left (intBits_le_64 h1 h2)
  · exact .of_right (intBits_le_64 h1 h2)
theorem op_add : OpR X (binaryOp .Add) (rI0 fun i j => .int (i + j)) := opI0 fun _ _ _ _ _ _ _ q => add_int q
theorem op_sub : OpR X (binaryOp .Sub) (rI0 fun i j => .int (i - j)) := opI0 fun _ _ _ _ _ _ _ q => sub_int q
theorem op_mul : OpR X (binaryOp .Mult) (rI CMul fun i j => .int (i * j)) := opI fun _ _ _ _ _ _ _ hc q => mul_int q hc.ok
theorem op_fdiv : OpR X (binaryOp .FloorDiv) (rI CDiv fun i j => .int (i / j)) := opI fun i j _ _ _ _ _ hc q => by
  have h1 : (0 : Int) < j := hc.1
  have h2 : j < 1073741824 := hc.2
  exact floordiv_int (by omega) (by rw [Int.fdiv_eq_ediv_of_nonneg i (by omega)]; exact q) (.inl (PyProof.noPylong_small (by omega)))
theorem op_mod : OpR X (binaryOp .Mod) (rI (fun _ j => 0 < j) fun i j => .int (i % j)) := opI fun i j _ _ _ _ _ hc q => by
  have h1 : (0 : Int) < j := hc
  exact mod_int' (by omega) (by rw [Int.fmod_eq_emod_of_nonneg i (by omega)]; exact q)
theorem op_pow : OpR X (binaryOp .Pow) (rI CPow fun i j => .int (i ^ j.toNat)) := opI fun _ _ _ _ _ _ _ hc q => pow_int_small hc.1 hc.2.1 hc.2.2 q
theorem unI {f : Value → Sem Value} {g : Int → Int}
    (rule : ∀ (i : Int) (t : Tok) (s : Shared) (Q : Value → Shared → Prop) (E : Value → Shared → Prop), Q (.int (g i) s.toks) { s with toks := s.toks + 1 } → wpAny (model X.prog X.w) X.A (f (.int i t)) Q E s) :
    UnR X f (rU fun i => .int (g i)) := by
  intro pins s σ H x v Q I rx h
  obtain ⟨i, rfl, q⟩ := h
  obtain ⟨t, rfl⟩ := rx
  exact rule i t s _ _ ⟨.int (g i), H, I.tok _, ⟨_, rfl⟩, q⟩
theorem un_neg : UnR X (unaryOp .USub) (rU fun i => .int (-i)) := unI fun _ _ _ _ _ q => neg_int q
end

def scal : V → V → Bool
  | .non, .non => true | .non, .int _ => true | .int _, .non => true | .non, .bl _ => true | .bl _, .non => true | .non, .str _ => true | .str _, .non => true
  | .int _, .int _ => true | .bl _, .bl _ => true | .str _, .str _ => true | .byt _, .byt _ => true
  | .int _, .str _ => true | .str _, .int _ => true | .bl _, .str _ => true | .str _, .bl _ => true
  | _, _ => false
def rEq : R2 := fun x y H Q => scal x y = true ∧ Q (.bl (decide (x = y))) H
def rNe : R2 := fun x y H Q => scal x y = true ∧ Q (.bl (!decide (x = y))) H

theorem dec_int {i j : Int} : decide (V.int i = V.int j) = (i == j) := by
  rw [Bool.eq_iff_iff]
  simp
theorem dec_bl {i j : Bool} : decide (V.bl i = V.bl j) = (i == j) := by
  rw [Bool.eq_iff_iff]
  simp
theorem dec_str {i j : Str} : decide (V.str i = V.str j) = (i == j) := by
  rw [Bool.eq_iff_iff]
  simp
theorem dec_byt {i j : Array UInt8} : decide (V.byt i = V.byt j) = (i.toList == j.toList) := by
  rw [Bool.eq_iff_iff]
  cases i
  cases j
  simp

section
variable {X : Cx} {a b c : Expr} {ta tb tc : TE} {pos : Pos}
theorem fin_bl {pins : List (Addr × Obj)} {σ : St} {H : Hp} {s : Shared} {Q : VK} {k k' : Bool} (I : Inv X pins σ H s) (q : Q (.bl k) H) (e : k = k') : EP X pins σ Q (.bool k') s := by
  subst e
  exact ⟨.bl k, H, I, rfl, q⟩
theorem op_eq : OpR X (compareOp .Eq) rEq := by
  intro pins s σ H x y v u Q I rx ry h
  obtain ⟨hs, q⟩ := h
  cases x with
  | non =>
    cases rx
    cases y with
    | non => cases ry; exact PySem.EqNone.eq_none_none (fin_bl I q (by simp))
    | bl j => cases ry; exact PySem.EqNone.eq_none_bool (fin_bl I q (by simp))
    | int j => obtain ⟨t', rfl⟩ := ry; exact PySem.EqNone.eq_none_int (fin_bl I q (by simp))
    | str j => obtain ⟨t', rfl⟩ := ry; exact PySem.EqNone.eq_none_str (fin_bl I q (by simp))
    | _ => exact absurd (show false = true from hs) Bool.false_ne_true
  | bl i =>
    cases rx
    cases y with
    | non => cases ry; exact PySem.EqNone.eq_bool_none (fin_bl I q (by simp))
    | bl j => cases ry; exact eq_bool (fin_bl I q dec_bl)
    | str j => obtain ⟨t', rfl⟩ := ry; exact PySem.EqMixed.eq_bool_str (fin_bl I q (by simp))
    | _ => exact absurd (show false = true from hs) Bool.false_ne_true
  | int i =>
    obtain ⟨t, rfl⟩ := rx
    cases y with
    | non => cases ry; exact PySem.EqNone.eq_int_none (fin_bl I q (by simp))
    | int j => obtain ⟨t', rfl⟩ := ry; exact eq_int (fin_bl I q dec_int)
    | str j => obtain ⟨t', rfl⟩ := ry; exact PySem.EqMixed.eq_int_str (fin_bl I q (by simp))
    | _ => exact absurd (show false = true from hs) Bool.false_ne_true
  | str i =>
    obtain ⟨t, rfl⟩ := rx
    cases y with
    | non => cases ry; exact PySem.EqNone.eq_str_none (fin_bl I q (by simp))
    | bl j => cases ry; exact PySem.EqMixed.eq_str_bool (fin_bl I q (by simp))
    | int j => obtain ⟨t', rfl⟩ := ry; exact PySem.EqMixed.eq_str_int (fin_bl I q (by simp))
    | str j => obtain ⟨t', rfl⟩ := ry; exact eq_str (fin_bl I q dec_str)
    | _ => exact absurd (show false = true from hs) Bool.false_ne_true
  | byt i =>
    obtain ⟨t, rfl⟩ := rx
    cases y with
    | byt j => obtain ⟨t', rfl⟩ := ry; exact PySem.W.eq_bytes (fin_bl I q dec_byt)
    | _ => exact absurd (show false = true from hs) Bool.false_ne_true
  | _ => cases y <;> exact absurd (show false = true from hs) Bool.false_ne_true
theorem op_ne : OpR X (compareOp .NotEq) rNe := by
  intro pins s σ H x y v u Q I rx ry h
  obtain ⟨hs, q⟩ := h
  cases x with
  | non =>
    cases rx
    cases y with
    | non => cases ry; exact PySem.EqNone.ne_none_none (fin_bl I q (by simp))
    | bl j => cases ry; exact PySem.EqNone.ne_none_bool (fin_bl I q (by simp))
    | int j => obtain ⟨t', rfl⟩ := ry; exact PySem.EqNone.ne_none_int (fin_bl I q (by simp))
    | str j => obtain ⟨t', rfl⟩ := ry; exact PySem.EqNone.ne_none_str (fin_bl I q (by simp))
    | _ => exact absurd (show false = true from hs) Bool.false_ne_true
  | bl i =>
    cases rx
    cases y with
    | non => cases ry; exact PySem.EqNone.ne_bool_none (fin_bl I q (by simp))
    | bl j => cases ry; exact ne_bool (fin_bl I q (congrArg not dec_bl))
    | str j => obtain ⟨t', rfl⟩ := ry; exact PySem.EqMixed.ne_bool_str (fin_bl I q (by simp))
    | _ => exact absurd (show false = true from hs) Bool.false_ne_true
  | int i =>
    obtain ⟨t, rfl⟩ := rx
    cases y with
    | non => cases ry; exact PySem.EqNone.ne_int_none (fin_bl I q (by simp))
    | int j => obtain ⟨t', rfl⟩ := ry; exact ne_int (fin_bl I q (congrArg not dec_int))
    | str j => obtain ⟨t', rfl⟩ := ry; exact PySem.EqMixed.ne_int_str (fin_bl I q (by simp))
    | _ => exact absurd (show false = true from hs) Bool.false_ne_true
  | str i =>
    obtain ⟨t, rfl⟩ := rx
    cases y with
    | non => cases ry; exact PySem.EqNone.ne_str_none (fin_bl I q (by simp))
    | bl j => cases ry; exact PySem.EqMixed.ne_str_bool (fin_bl I q (by simp))
    | int j => obtain ⟨t', rfl⟩ := ry; exact PySem.EqMixed.ne_str_int (fin_bl I q (by simp))
    | str j => obtain ⟨t', rfl⟩ := ry; exact ne_str (fin_bl I q (congrArg not dec_str))
    | _ => exact absurd (show false = true from hs) Bool.false_ne_true
  | byt i =>
    obtain ⟨t, rfl⟩ := rx
    cases y with
    | byt j => obtain ⟨t', rfl⟩ := ry; exact PySem.W.ne_bytes (fin_bl I q (congrArg not dec_byt))
    | _ => exact absurd (show false = true from hs) Bool.false_ne_true
  | _ => cases y <;> exact absurd (show false = true from hs) Bool.false_ne_true

theorem op_lt : OpR X (compareOp .Lt) (rI0 fun i j => .bl (decide (i < j))) := opB0 fun _ _ _ _ _ _ _ q => lt_int q
theorem op_le : OpR X (compareOp .LtE) (rI0 fun i j => .bl (decide (i ≤ j))) := opB0 fun _ _ _ _ _ _ _ q => le_int q
theorem op_gt : OpR X (compareOp .Gt) (rI0 fun i j => .bl (decide (j < i))) := opB0 fun _ _ _ _ _ _ _ q => gt_int q
theorem op_ge : OpR X (compareOp .GtE) (rI0 fun i j => .bl (decide (j ≤ i))) := opB0 fun _ _ _ _ _ _ _ q => ge_int q
theorem op_in_str : OpR X (compareOp .In) (fun x y H Q => ∃ i j, x = .str i ∧ y = .str j ∧ Q (.bl (!(Builtin.Str.occurrences j i 0 j.length 1).isEmpty)) H) := by
  intro pins s σ H x y v u Q I rx ry h
  obtain ⟨i, j, rfl, rfl, q⟩ := h
  obtain ⟨t, rfl⟩ := rx
  obtain ⟨t', rfl⟩ := ry
  exact in_str (fin_bl I q rfl)

theorem op_notin_str : OpR X (compareOp .NotIn) (fun x y H Q => ∃ i j, x = .str i ∧ y = .str j ∧ Q (.bl (!(!(Builtin.Str.occurrences j i 0 j.length 1).isEmpty))) H) := by
  intro pins s σ H x y v u Q I rx ry h
  obtain ⟨i, j, rfl, rfl, q⟩ := h
  obtain ⟨t, rfl⟩ := rx
  obtain ⟨t', rfl⟩ := ry
  exact notIn_str (fin_bl I q rfl)
theorem nomark (b : Expr) {op : CmpOp} (h : op ≠ .In := by decide) (h2 : op ≠ .NotIn := by decide) : behindInMarks op b = false := by
  have e1 : (op == CmpOp.In) = false := by cases op <;> first | rfl | exact absurd rfl h
  have e2 : (op == CmpOp.NotIn) = false := by cases op <;> first | rfl | exact absurd rfl h2
  cases b <;> simp [behindInMarks, e1, e2]
theorem pe_cmpR {op : CmpOp} {r : R2} (ho : OpR X (compareOp op) r) (ha : PE X a ta) (hb : PE X b tb) (hm : behindInMarks op b = false) : PE X (.Compare a [op] [b] pos) (tOp r ta tb) := by
  intro pins s σ H Q I h
  exact wpAny_Compare1 (binT ha hb I h fun v u s2 x y H2 I2 rx ry q => ho pins s2 σ H2 x y v u Q I2 rx ry q) hm
def tTest (t : TE) : TT := fun σ H Q => t σ H fun x H' => ∃ k, x = .bl k ∧ Q k H'
theorem pt_cmpR {op : CmpOp} {r : R2} (ho : OpR X (compareOp op) r) (ha : PE X a ta) (hb : PE X b tb) (hm : behindInMarks op b = false) : PT X (.Compare a [op] [b] pos) (tTest (tOp r ta tb)) := by
  intro pins s σ H Q I h
  refine wpAny_isTrue_Compare1 (thn (ha pins s σ H _ I h) fun v s1 ⟨x, H1, I1, r1, q1⟩ => thn (hb pins s1 σ H1 _ I1 q1) fun u s2 ⟨y, H2, I2, r2, q2⟩ =>
    thn (ho pins s2 σ H2 x y v u _ I2 r1 r2 q2) fun c s3 ⟨z, H3, I3, r3, k, e, q3⟩ => ?_) hm
  subst e
  cases r3
  exact wpAny_truthy_bool ⟨H3, I3, q3⟩
theorem line63 : (sizeLine : Nat) < 2 ^ 63 := by rw [sizeLine_eq]; decide
theorem op_add_str : OpR X (binaryOp .Add) (fun x y H Q => ∃ i j, x = .str i ∧ y = .str j ∧ i.length + j.length ≤ sizeLine ∧ Q (.str (i ++ j)) H) := by
  intro pins s σ H x y v u Q I rx ry h
  obtain ⟨i, j, rfl, rfl, hz, q⟩ := h
  obtain ⟨t, rfl⟩ := rx
  obtain ⟨t', rfl⟩ := ry
  exact add_str (fun t' tk => ⟨.str (i ++ j), H, I.tok _, ⟨_, rfl⟩, q⟩) hz
theorem vals1 {x : V} {us : List Value} (r : Vals [x] us) : ∃ u, us = [u] ∧ RelV x u := by
  cases r with
  | cons r1 r2 => cases r2; exact ⟨_, rfl, r1⟩
theorem call_str_int : CallR X (.type "str") (fun xs H Q => ∃ i, xs = [.int i] ∧ i.natAbs.log2 < 1920 ∧ Q (.str (toString i)) H) := by
  intro pins s σ H xs us Q I r h
  obtain ⟨i, rfl, hz, q⟩ := h
  obtain ⟨u, rfl, t, rfl⟩ := vals1 r
  exact PySem.P.str_of_int hz ⟨.str _, H, I.tok _, ⟨_, rfl⟩, q⟩
end
end L2

namespace L2
open PySem PySem.Spec PyProof.Rows

structure ObjM (h : Heap) (x dx C : Addr) (mA : Str → Option Value) : Prop where
  obj : h.get? x = some (PySem.W.instObj C dx)
  ns : h.Ns1 dx mA
  ne : dx ≠ x

theorem lookIn_ns {h : Heap} {dx : Addr} {mA : Str → Option Value} (n : h.Ns1 dx mA) : ∃ od, h.get? dx = some od ∧ ∀ name, PySem.W.lookIn name od = some (mA name) := by
  obtain ⟨o, es, ep, ho, hd, hk, _, hm⟩ := n
  refine ⟨o, ho, fun name => ?_⟩
  have e := hm name
  unfold nsFind findBy at e
  rw [← Array.find?_toList] at e
  unfold PySem.W.lookIn
  rw [hd]
  dsimp only
  split
  · rename_i y q
    rw [q] at e
    exact congrArg some e
  · rename_i q
    rw [q] at e
    have a : es.toList.any (·.refKey) = false := by
      rw [List.any_eq_false]
      intro y hy
      obtain ⟨z, t, hkey⟩ := hk y (Array.mem_toList_iff.mp hy)
      simp [DictEntry.refKey, hkey]
    have a' : ¬ es.toList.any (·.refKey) = true := by rw [a]; exact Bool.false_ne_true
    rw [if_neg a']
    exact congrArg some e

theorem ObjM.look {h : Heap} {x dx C : Addr} {mA : Str → Option Value} (I : ObjM h x dx C mA) : ∃ od, PySem.W.InstAt h x (PySem.W.instObj C dx) C (some od) ∧ ∀ name, PySem.W.lookIn name od = some (mA name) :=
  let ⟨od, ho, hl⟩ := lookIn_ns I.ns
  ⟨od, ⟨I.obj, rfl, rfl, ho⟩, hl⟩

section
variable {prog : Program} {w : World} {A : Around} {E : Value → Shared → Prop} {s : Shared} {K : PySem.W.Frag} {x dx C f : Addr} {mA : Str → Option Value} {name : Str} {v : Value}

theorem get_map {expr : Bool} {Q : Value → Shared → Prop} (X : K.In s.heap) (I : ObjM s.heap x dx C mA) (hg : PySem.W.plainGet K C name = true) (hh : PySem.W.hasDictIn K C = true)
    (ha : PySem.W.findIn K (.ref C) name = some none) (hv : mA name = some v) (hv' : PySem.W.handedIn v = true) (h : Q v { s with toks := s.toks + 1 }) :
    wpAny (model prog w) A (getAttr (.ref x) name expr) Q E s := by
  obtain ⟨od, J, hl⟩ := I.look
  exact PySem.W.get_value X J (PySem.W.plainGet_of hg).1 (PySem.W.findObj_own hh ha rfl (by rw [hl, hv])) hv' h

theorem get_meth {pl : Sem Bool} {Q : Value × List Value → Shared → Prop} (X : K.In s.heap) (I : ObjM s.heap x dx C mA) (hg : PySem.W.plainGet K C name = true)
    (hf : PySem.W.findIn K (.ref C) name = some (some (.ref f))) (ht : PySem.W.isFn K (.ref f) = true) (hv : mA name = none) (h : Q (.ref f, [.ref x]) s) :
    wpAny (model prog w) A (getMethod (.ref x) name pl) Q E s := by
  obtain ⟨od, J, hl⟩ := I.look
  exact PySem.W.method_fn X J (PySem.W.plainGet_of hg).1 (PySem.W.plainGet_of hg).2 hf (beq_iff_eq.mp ht) (by show (PySem.W.lookIn name od).map (·.isSome) = some false; rw [hl, hv]; rfl) h

theorem set_map {ns : List Str} {Q : Unit → Shared → Prop} (X : K.In s.heap) (I : ObjM s.heap x dx C mA)
    (hs : PySem.W.findIn K (.ref C) "__setattr__" = some (some (.builtin "object.__setattr__"))) (hp : PySem.W.plainOver K C = true) (ht : PySem.W.takerIn K C name = some none) (hh : PySem.W.hasDictIn K C = true)
    (hw : PySem.Within mA ns) (hsz : ns.length ≤ sizeLine)
    (h : ∀ h', ObjM h' x dx C (fun y => if y = name then some v else mA y) → Heap.SameBut dx s.heap h' → Q () { s with heap := h', toks := s.toks + 2 }) :
    wpAny (model prog w) A (setAttr (.ref x) name v) Q E s := by
  obtain ⟨od, J, hl⟩ := I.look
  refine PySem.W.set_plain X J hs (PySem.W.osa_open (s := { s with toks := s.toks + 1 }) (r := none) X J hp ht fun b => ?_)
  obtain ⟨cd, hc, hd'⟩ := PySem.W.any_some hh
  have hx : s.heap.get? x = some ⟨.ref C, some dx, .plain, #[]⟩ := I.obj
  refine wpAny_bind (wpAny_pure (wpAny_bind (wpAny_bind (wpAny_loadPart hx (wpAny_bind (PySem.W.Looks.here (s := { s with toks := s.toks + 1 }) (PySem.W.looks_clsIn X hc) ?_))))))
  rw [hd']
  refine wpAny_pure (a := some dx) (wpAny_bind (wpAny_pure (wpAny_bind ?_)))
  refine wpAny_nsSet1 (s := { s with toks := s.toks + 1 }) I.ns fun h' hn2 hs2 => ?_
  obtain ⟨oD, esD, epD, hoD, hdD, hcD⟩ := hn2.count (PySem.Within.cons name v hw)
  refine wpAny_bind (wpAny_lookBehind hoD (by rw [hdD]; exact pastItsLine_dict (Nat.le_trans hcD (by rw [List.length_cons]; omega))) ?_)
  exact wpAny_pure (h _ ⟨(hs2.2 _ (Ne.symm I.ne)).trans I.obj, hn2, I.ne⟩ hs2)

theorem make_map {R : Result → Shared → Prop} {vs : List Value} {kw : List (Str × Value)} (X : K.In s.heap) (hm : PySem.W.makesIn K C = true)
    (hi : PySem.W.findIn K (.ref C) "__init__" = some (some (.ref f))) (hf : PySem.W.typeIn K (.ref f) = some (.type "function"))
    (h : codeAny (model prog w) (A.under (.builtin "type.__call__" ⟨.ref C :: vs, kw⟩)) (.call (.ref f) ⟨.ref (s.heap.objs.size + 1) :: vs, kw⟩) (PySem.W.InitBack (s.heap.objs.size + 1) R)
      { s with heap := (s.heap.push PySem.W.emptyDict).push (PySem.W.instObj C s.heap.objs.size) }) :
    codeAny (model prog w) A (.call (.ref C) ⟨vs, kw⟩) R s := by
  obtain ⟨hh, g, d, t, os⟩ := s
  exact PySem.W.make_core (PySem.W.makes_of X hm) (PySem.W.looks_findIn X hi) (fun self => PySem.W.bind_fn X self hf) (.inl rfl) h
end

def putF (f : Str) (v : V) : List (Str × V) → List (Str × V)
  | [] => [(f, v)]
  | (g, x) :: r => if g = f then (g, v) :: r else (g, x) :: putF f v r
theorem lookup_putF (f g : Str) (v : V) : ∀ fs : List (Str × V), (putF f v fs).lookup g = if g = f then some v else fs.lookup g
  | [] => by
    show List.lookup g [(f, v)] = _
    by_cases h : g = f
    · have hb : (g == f) = true := beq_iff_eq.mpr h
      simp only [List.lookup, hb, if_pos h]
    · have hb : (g == f) = false := beq_eq_false_iff_ne.mpr h
      simp only [List.lookup, hb, if_neg h]
  | (k, x) :: r => by
    have ih := lookup_putF f g v r
    rw [show putF f v ((k, x) :: r) = (if k = f then (k, v) :: r else (k, x) :: putF f v r) from rfl]
    by_cases hk : k = f
    · rw [if_pos hk]
      by_cases h : g = k
      · have hb : (g == k) = true := beq_iff_eq.mpr h
        simp only [List.lookup, hb, if_pos (h.trans hk)]
      · have hb : (g == k) = false := beq_eq_false_iff_ne.mpr h
        simp only [List.lookup, hb, if_neg (fun e : g = f => h (e.trans hk.symm))]
    · rw [if_neg hk]
      by_cases h : g = k
      · have hb : (g == k) = true := beq_iff_eq.mpr h
        simp only [List.lookup, hb, if_neg (fun e : g = f => hk (h.symm.trans e))]
      · have hb : (g == k) = false := beq_eq_false_iff_ne.mpr h
        simp only [List.lookup, hb]
        exact ih
theorem keys_putF (f : Str) (v : V) : ∀ fs : List (Str × V), f ∈ (putF f v fs).map (·.1) ∧ ∀ g, g ∈ fs.map (·.1) → g ∈ (putF f v fs).map (·.1)
  | [] => ⟨by simp [putF], fun g h => by simp at h⟩
  | (k, x) :: r => by
    obtain ⟨i1, i2⟩ := keys_putF f v r
    rw [show putF f v ((k, x) :: r) = (if k = f then (k, v) :: r else (k, x) :: putF f v r) from rfl]
    by_cases hk : k = f
    · rw [if_pos hk]
      subst hk
      exact ⟨by simp, fun g h => by simpa using h⟩
    · rw [if_neg hk]
      refine ⟨?_, fun g h => ?_⟩
      · rw [List.map_cons]
        exact List.mem_cons_of_mem _ i1
      · rw [List.map_cons] at h ⊢
        rcases List.mem_cons.mp h with e | e
        · exact List.mem_cons.mpr (.inl e)
        · exact List.mem_cons_of_mem _ (i2 g e)
theorem length_putF (f : Str) (v : V) : ∀ fs : List (Str × V), (putF f v fs).length ≤ fs.length + 1
  | [] => by simp [putF]
  | (k, x) :: r => by
    have ih := length_putF f v r
    rw [show putF f v ((k, x) :: r) = (if k = f then (k, v) :: r else (k, x) :: putF f v r) from rfl]
    by_cases hk : k = f
    · rw [if_pos hk, List.length_cons, List.length_cons]; omega
    · rw [if_neg hk, List.length_cons, List.length_cons]; omega

theorem RelO.some_of {v : V} {o : Option Value} (r : RelO (some v) o) : ∃ u, o = some u ∧ RelV v u := by
  cases o with
  | none => exact (show False from r).elim
  | some u => exact ⟨u, rfl, r⟩
theorem RelO.none_of {o : Option Value} (r : RelO none o) : o = none := by
  cases o with
  | none => rfl
  | some u => exact (show False from r).elim
theorem handed_of {v : V} {u : Value} (r : RelV v u) : PySem.W.handedIn u = true := by
  cases v with
  | non => cases (show u = Value.none from r); rfl
  | bl b => cases (show u = Value.bool b from r); rfl
  | int i => obtain ⟨t, e⟩ := (show ∃ t, u = Value.int i t from r); cases e; rfl
  | str x => obtain ⟨t, e⟩ := (show ∃ t, u = Value.str x t from r); cases e; rfl
  | byt b => obtain ⟨t, e⟩ := (show ∃ t, u = Value.bytes b t from r); cases e; rfl
  | flt b => obtain ⟨t, e⟩ := (show ∃ t, u = Value.float b t from r); cases e; rfl
  | ref a => cases (show u = Value.ref a from r); rfl
  | ty n => cases (show u = Value.type n from r); rfl

section
variable {P : Program} {w : World} {H H' : Hp} {h h' : Heap} {a C dx : Addr} {fs fs' : List (Str × V)}
theorem ins_get (hok : HOk P w H h) (e : H a = some (.ins C dx fs)) : ∃ mA, ObjM h a dx C mA ∧ (∀ f, RelO (fs.lookup f) (mA f)) ∧ PySem.Within mA (fs.map (·.1)) ∧ fs.length ≤ 1000 ∧ H dx = some (.own a) := by
  obtain ⟨d, z, ne, ob, mA, n, r, q⟩ := (show ObjOk P w H h a (.ins C dx fs) from hok a _ e)
  exact ⟨mA, ⟨ob, n, ne⟩, r, q, z, d⟩
end

structure Cls (K : PySem.W.Frag) (C : Addr) : Prop where
  pg : PySem.W.plainGet K C Str.empty = true
  hd : PySem.W.hasDictIn K C = true
  po : PySem.W.plainOver K C = true
  sa : PySem.W.findIn K (.ref C) "__setattr__" = some (some (.builtin "object.__setattr__"))
theorem Cls.get {K : PySem.W.Frag} {C : Addr} (c : Cls K C) (f : Str) : PySem.W.plainGet K C f = true := c.pg
def NoAttr (K : PySem.W.Frag) (C : Addr) (f : Str) : Prop := PySem.W.findIn K (.ref C) f = some none
theorem NoAttr.taker {K : PySem.W.Frag} {C : Addr} {f : Str} (n : NoAttr K C f) : PySem.W.takerIn K C f = some none := by
  unfold PySem.W.takerIn
  rw [show PySem.W.findIn K (.ref C) f = some none from n]
  rfl
structure Meth (K : PySem.W.Frag) (C : Addr) (m : Str) (f : Addr) : Prop where
  at_ : PySem.W.findIn K (.ref C) m = some (some (.ref f))
  fn : PySem.W.isFn K (.ref f) = true
  kp : PySem.W.keepIn K (.ref f) = true

section
variable {X : Cx} {pins : List (Addr × Obj)} {σ : St} {H : Hp} {s : Shared} {a C dx : Addr} {fs : List (Str × V)} {f : Str} {v : V} {A : Around} {E : Value → Shared → Prop}

theorem getattr_ok {b : Bool} {Q : Value → Shared → Prop} (I : Inv X pins σ H s) (e : H a = some (.ins C dx fs)) (c : Cls X.K C) (n : NoAttr X.K C f) (l : fs.lookup f = some v)
    (h : ∀ u s', Inv X pins σ H s' → RelV v u → Q u s') : wpAny (model X.prog X.w) A (getAttr (.ref a) f b) Q E s := by
  obtain ⟨mA, O, r, _, _, _⟩ := ins_get I.hok e
  obtain ⟨u, hu, ru⟩ := RelO.some_of (v := v) (o := mA f) (by rw [← l]; exact r f)
  exact get_map I.kIn O (c.get f) c.hd n hu (handed_of ru) (h u _ (I.tok _) ru)

theorem getmeth_ok {m : Str} {g : Addr} {pl : Sem Bool} {Q : Value × List Value → Shared → Prop} (I : Inv X pins σ H s) (e : H a = some (.ins C dx fs)) (c : Cls X.K C) (k : Meth X.K C m g) (l : fs.lookup m = none)
    (h : Q (.ref g, [.ref a]) s) : wpAny (model X.prog X.w) A (getMethod (.ref a) m pl) Q E s := by
  obtain ⟨mA, O, r, _, _, _⟩ := ins_get I.hok e
  have hn : mA m = none := RelO.none_of (by rw [← l]; exact r m)
  exact get_meth I.kIn O (c.get m) k.at_ k.fn hn h

theorem setattr_ok {y : V} {u : Value} {Q : Unit → Shared → Prop} (I : Inv X pins σ H s) (e : H a = some (.ins C dx fs)) (c : Cls X.K C) (n : NoAttr X.K C f) (hl : fs.length < 1000) (ry : RelV y u)
    (h : ∀ s', Inv X pins σ (upd H a (.ins C dx (putF f y fs))) s' → Q () s') : wpAny (model X.prog X.w) A (setAttr (.ref a) f u) Q E s := by
  obtain ⟨mA, O, r, wi, _, ho⟩ := ins_get I.hok e
  have hz : (fs.map (·.1)).length ≤ sizeLine := by rw [List.length_map, sizeLine_eq]; omega
  refine set_map I.kIn O c.sa c.po n.taker c.hd wi hz fun h' O' sb => h _ ?_
  have hd : ∃ o, h'.get? dx = some o := let ⟨o, _, _, e', _⟩ := O'.ns; ⟨o, e'⟩
  refine I.write (x := a) (e := dx) (by rw [e]; exact True.intro) (.inr ho) (fun b q hb z => (sb.2 b hb).trans z) hd ?_
  refine ⟨by rw [upd_ne O.ne]; exact ho, ?_, O.ne, O'.obj, _, O'.ns, fun g => ?_, fun g hg => ?_⟩
  · have := length_putF f y fs; omega
  · show RelO ((putF f y fs).lookup g) (if g = f then some u else mA g)
    rw [lookup_putF]
    by_cases q : g = f
    · rw [if_pos q, if_pos q]; exact ry
    · rw [if_neg q, if_neg q]; exact r g
  · by_cases q : g = f
    · rw [q]; exact (keys_putF f y fs).1
    · refine (keys_putF f y fs).2 g (wi g fun z => hg ?_)
      show (if g = f then some u else mA g) = none
      rw [if_neg q]; exact z

theorem Inv.made (I : Inv X pins σ H s) : Inv X pins σ (upd (upd H s.heap.objs.size (.own (s.heap.objs.size + 1))) (s.heap.objs.size + 1) (.ins C s.heap.objs.size []))
    { s with heap := (s.heap.push PySem.W.emptyDict).push (PySem.W.instObj C s.heap.objs.size) } := by
  have e1 : (s.heap.push PySem.W.emptyDict).get? s.heap.objs.size = some PySem.W.emptyDict := Heap.get?_push_size s.heap rfl
  have e2 : ((s.heap.push PySem.W.emptyDict).push (PySem.W.instObj C s.heap.objs.size)).get? (s.heap.objs.size + 1) = some (PySem.W.instObj C s.heap.objs.size) := by
    have := Heap.get?_push_size (s.heap.push PySem.W.emptyDict) (o := PySem.W.instObj C s.heap.objs.size) rfl
    rwa [Heap.size_push] at this
  have e3 : (s.heap.push PySem.W.emptyDict).Ns s.heap.objs.size (fun _ => none) := ⟨PySem.W.emptyDict, #[], _, e1, rfl, (fun e he => absurd he (by simp)), fun _ => rfl⟩
  have I1 := I.laid (a := s.heap.objs.size) (o := .own (s.heap.objs.size + 1)) (h' := s.heap.push PySem.W.emptyDict) (t' := s.toks) (fun b u q => Heap.get?_push_of_some _ q) (Nat.le_refl _) ⟨_, e1⟩
  refine I1.laid (a := s.heap.objs.size + 1) (o := .ins C s.heap.objs.size []) (t' := s.toks) (fun b u q => Heap.get?_push_of_some _ q) (Nat.le_of_eq (Heap.size_push _ _)) ?_
  have ne : s.heap.objs.size ≠ s.heap.objs.size + 1 := Nat.ne_of_lt (Nat.lt_succ_self _)
  refine ⟨by rw [upd_ne ne, upd_same], Nat.zero_le _, ne, e2, fun _ => none, (Heap.Ns1.of_empty e3).at fun o q => Heap.get?_push_of_some _ q, fun _ => True.intro, fun y hy => absurd rfl hy⟩

theorem attr_of {prog : Program} {w : World} {env : Env} {e : Expr} {f : Str} {pos : Pos} {s : Shared} {Q : Value → Shared → Prop} (hb : attributeBase e f env (eval e env) = eval e env)
    (h : wpAny (model prog w) A (eval e env) (fun o s₁ => wpAny (model prog w) A (getAttr o f true) Q E s₁) E s) : wpAny (model prog w) A (eval (.Attribute e f pos) env) Q E s :=
  Attribute_any_ h (by rw [arm_eval_Attribute, hb])
end

def tFld (K : PySem.W.Frag) (ta : TE) (f : Str) : TE := fun σ H Q => ta σ H fun x H1 => ∃ a C dx fs v, x = .ref a ∧ H1 a = some (.ins C dx fs) ∧ Cls K C ∧ NoAttr K C f ∧ fs.lookup f = some v ∧ Q v H1
def sFld (K : PySem.W.Frag) (ta tv : TE) (f : Str) : TS := fun D σ H => tv σ H fun y H1 => ta σ H1 fun x H2 => ∃ a C dx fs, x = .ref a ∧ H2 a = some (.ins C dx fs) ∧ Cls K C ∧ NoAttr K C f ∧ fs.length < 1000 ∧
  D.nx σ (upd H2 a (.ins C dx (putF f y fs)))
section
variable {X : Cx} {o e value : Expr} {f : Str} {pos pos' tpos : Pos} {ta tv : TE}
theorem pe_fld (he : PE X e ta) (hb : attributeBase e f X.env (eval e X.env) = eval e X.env) : PE X (.Attribute e f pos) (tFld X.K ta f) := by
  intro pins s σ H Q I h
  refine attr_of hb (thn (he pins s σ H _ I h) fun u s1 ⟨x, H1, I1, rx, a, C, dx, fs, v, ex, ea, c, n, l, q⟩ => ?_)
  subst ex
  obtain rfl : u = Value.ref a := rx
  exact getattr_ok I1 ea c n l fun u' s2 I2 ru => ⟨v, H1, I2, ru, q⟩
theorem ps_fld (ha : PE X o ta) (hv : PE X value tv) (hs : swapsWith value (some (.Attribute o f pos')) pos.line X.env = pure false) : PS X (.Assign [.Attribute o f pos'] value pos) (sFld X.K ta tv f) := by
  intro pins s σ H D I h
  refine plainObj_wpAny_Assign_Attribute (thn (hv pins s σ H _ I h) fun u s1 ⟨y, H1, I1, ry, q⟩ => thn (ha pins s1 σ H1 _ I1 q) fun ov s2 ⟨x, H2, I2, rx, a, C, dx, fs, ex, ea, c, n, l, q2⟩ => ?_) hs
  subst ex
  obtain rfl : ov = Value.ref a := rx
  exact setattr_ok I2 ea c n l ry fun s3 I3 => ⟨σ, _, I3, q2⟩
theorem methcall_of {pl : Sem Bool} {m : Str} {apos : Pos} {args : List Expr} {pins : List (Addr × Obj)} {s : Shared} {σ : St} {H : Hp} {Q : Value → Shared → Prop} {te : TE} (he : PE X e te) (I : Inv X pins σ H s)
    (h : te σ H fun x H1 => ∃ a C dx fs g, x = .ref a ∧ H1 a = some (.ins C dx fs) ∧ Cls X.K C ∧ Meth X.K C m g ∧ fs.lookup m = none ∧
      ∀ s1, Inv X pins σ H1 s1 → wpAny (model X.prog X.w) X.A (callWith pos (.ref g) [.ref a] (backTo pos (starEach args X.env)) (backToKw pos (keywordEach [] X.env))) Q X.xe s1)
    (ht : eval (.Call (.Attribute e m apos) args [] pos) X.env = (do
      let ov ← eval e X.env
      standAt apos.atName
      let (f, first) ← holding [ov] (getMethod ov m pl)
      callWith pos f first (backTo pos (starEach args X.env)) (backToKw pos (keywordEach [] X.env)))) :
    wpAny (model X.prog X.w) X.A (eval (.Call (.Attribute e m apos) args [] pos) X.env) Q X.xe s := by
  refine PySem.W.methodCall_KW (pl := pl) (thn (he pins s σ H _ I h) fun u s1 ⟨x, H1, I1, rx, a, C, dx, fs, g, ex, ea, c, k, l, q⟩ => ?_) ht
  subst ex
  obtain rfl : u = Value.ref a := rx
  exact getmeth_ok I1 ea c k l (q s1 I1)
end

section
variable {X : Cx} {pins : List (Addr × Obj)} {σ : St} {H : Hp} {s : Shared} {A : Around} {E : Value → Shared → Prop} {Q : Value → Shared → Prop} {c : Value} {b : Bool}
inductive TyOf (K : PySem.W.Frag) (H : Hp) : V → Value → Prop where
  | non : TyOf K H .non (.type "NoneType")
  | bl (x : Bool) : TyOf K H (.bl x) (.type "bool")
  | int (i : Int) : TyOf K H (.int i) (.type "int")
  | str (x : Str) : TyOf K H (.str x) (.type "str")
  | flt (x : UInt64) : TyOf K H (.flt x) (.type "float")
  | lst {a : Addr} {xs : List V} (e : H a = some (.lst xs)) : TyOf K H (.ref a) (.type "list")
  | frz {a : Addr} {o : Obj} {xs : List V} (e : H a = some (.frz o (.lst xs))) : TyOf K H (.ref a) (.type "list")
  | tup {a : Addr} {xs : List V} (e : H a = some (.tup xs)) : TyOf K H (.ref a) (.type "tuple")
  | dK {a : Addr} {kvs : List (Key × V)} (e : H a = some (.dK kvs)) : TyOf K H (.ref a) (.type "dict")
  | dT {a : Addr} {kvs : List (List Key × V)} (e : H a = some (.dT kvs)) : TyOf K H (.ref a) (.type "dict")
  | ins {a C dx : Addr} {fs : List (Str × V)} (e : H a = some (.ins C dx fs)) (cl : Cls K C) (ha : PySem.W.findIn K (.ref C) "__class__" = some (some (.builtin "object.__class__")))
      (hn : PySem.W.specialIn K (.builtin "object.__class__") "__get__" = some (some (.builtin "getset_descriptor.__get__"))) (htk : PySem.W.takesIn K (.builtin "object.__class__") = some true)
      (hm : PySem.W.mroIn K C (.type "object") = some true) : TyOf K H (.ref a) (.ref C)
theorem isinst_ok {x : V} {u t : Value} (I : Inv X pins σ H s) (rx : RelV x u) (ty : TyOf X.K H x t) (e : PySem.W.kitOne X.K t c = some b) (h : ∀ tk, Q (.bool b) { s with toks := tk }) :
    wpAny (model X.prog X.w) A (call (.builtin "isinstance") [u, c]) Q E s := by
  cases ty with
  | non => cases (show u = Value.none from rx); exact PySem.W.kia_one PySem.W.kitx_none I.kIn True.intro e (fun z => nomatch z) h
  | bl y => cases (show u = Value.bool y from rx); exact PySem.W.kia_one PySem.W.kitx_bool I.kIn True.intro e (fun z => nomatch z) h
  | int i => obtain ⟨t, q⟩ := (show ∃ t, u = Value.int i t from rx); cases q; exact PySem.W.kia_one PySem.W.kitx_int I.kIn True.intro e (fun z => nomatch z) h
  | str y => obtain ⟨t, q⟩ := (show ∃ t, u = Value.str y t from rx); cases q; exact PySem.W.kia_one PySem.W.kitx_str I.kIn True.intro e (fun z => nomatch z) h
  | flt y => obtain ⟨t, q⟩ := (show ∃ t, u = Value.float y t from rx); cases q; exact PySem.W.kia_one PySem.W.kitx_float I.kIn True.intro e (fun z => nomatch z) h
  | @lst a xs ea =>
    cases (show u = Value.ref a from rx)
    obtain ⟨_, _, n, _, h1⟩ := (show ObjOk X.prog X.w H s.heap a (.lst xs) from I.hok a _ ea)
    exact PySem.W.kia_one PySem.W.kitx_list I.kIn ⟨_, h1, rfl⟩ e (fun z => nomatch z) h
  | @frz a ob xs ea =>
    cases (show u = Value.ref a from rx)
    obtain ⟨_, _, _, n, _, h1⟩ := (show ObjOk X.prog X.w H s.heap a (.frz ob (.lst xs)) from I.hok a _ ea)
    exact PySem.W.kia_one PySem.W.kitx_list I.kIn ⟨_, h1, rfl⟩ e (fun z => nomatch z) h
  | @tup a xs ea =>
    cases (show u = Value.ref a from rx)
    obtain ⟨_, _, _, p⟩ := (show ObjOk X.prog X.w H s.heap a (.tup xs) from I.hok a _ ea)
    obtain ⟨o, h1, h2, _⟩ := p
    exact PySem.W.kia_one PySem.W.kitx_tuple I.kIn ⟨o, h1, h2⟩ e (fun z => nomatch z) h
  | @dK a kvs ea =>
    cases (show u = Value.ref a from rx)
    obtain ⟨_, _, vs, _, p⟩ := (show ObjOk X.prog X.w H s.heap a (.dK kvs) from I.hok a _ ea)
    obtain ⟨o, es, ep, h1, h2, _⟩ := p
    exact PySem.W.kia_one PySem.W.kitx_dict I.kIn ⟨o, h1, h2.1⟩ e (fun z => nomatch z) h
  | @dT a kvs ea =>
    cases (show u = Value.ref a from rx)
    obtain ⟨_, _, xs, _, o, es, ep, h1, h2, _⟩ := (show ObjOk X.prog X.w H s.heap a (.dT kvs) from I.hok a _ ea)
    exact PySem.W.kia_one PySem.W.kitx_dict I.kIn ⟨o, h1, h2.1⟩ e (fun z => nomatch z) h
  | @ins a C dx fs ea cl ha hn htk hm =>
    cases (show u = Value.ref a from rx)
    obtain ⟨mA, O, _⟩ := ins_get I.hok ea
    obtain ⟨od, J, _⟩ := O.look
    exact PySem.W.kia_one (PySem.W.kitx_own (cl.get _) cl.hd ha hn htk hm) I.kIn J e (fun z => nomatch z) h
end
end L2

namespace L2
open PySem PySem.Spec PyProof.Rows

structure Room (k : Nat) (A : Around) : Prop where
  hd : A.handled = none
  dp : A.depth + 3 * k + 5 < recursionLimit
  un : A.units + 16 * k + 200 < cLine
theorem Room.mono {j k : Nat} {A : Around} (r : Room k A) (h : j ≤ k) : Room j A := ⟨r.hd, by have := r.dp; omega, by have := r.un; omega⟩
theorem Room.deeper {k : Nat} {A : Around} (r : Room (k + 1) A) (env : Env) : Room k (A.deeper env) :=
  ⟨r.hd, by have := r.dp; show A.depth + 1 + 3 * k + 5 < _; omega, by have := r.un; show A.units + 3 + 16 * k + 200 < _; omega⟩
theorem make_depth {A : Around} {C : Addr} {us : List Value} {kw : List (Str × Value)} : (A.under (.builtin "type.__call__" ⟨.ref C :: us, kw⟩)).depth = A.depth + 1 := by
  first | rfl | simp [Around.under, Code.weight, Code.isCreation, Code.isGuard, Code.isCaller, Code.frames, Code.isFrame, guardIds]
theorem make_units {A : Around} {C : Addr} {us : List Value} {kw : List (Str × Value)} : (A.under (.builtin "type.__call__" ⟨.ref C :: us, kw⟩)).units = A.units + 1 := by
  first | rfl | simp [Around.under, Code.cUnits, Code.frames, Code.isFrame]
theorem Room.make {k : Nat} {A : Around} (r : Room (k + 1) A) (C : Addr) (us : List Value) (kw : List (Str × Value)) : Room k (A.under (.builtin "type.__call__" ⟨.ref C :: us, kw⟩)) :=
  ⟨r.hd, by have := r.dp; rw [make_depth]; omega, by have := r.un; rw [make_units]; omega⟩
theorem Room.depth {k : Nat} {A : Around} (r : Room k A) : A.depth < recursionLimit := by have := r.dp; omega
theorem Room.units {k : Nat} {A : Around} (r : Room k A) : A.units + 64 < cLine := by have := r.un; omega
def tNil : TA := fun _ H Q => Q [] H
def tCons (ta : TE) (tr : TA) : TA := fun σ H Q => ta σ H fun x H1 => tr σ H1 fun xs H2 => Q (x :: xs) H2
section
variable {X : Cx} {e : Expr} {es : List Expr} {te : TE} {t : TA} {pos : Pos}
theorem pa_nil : PA X [] tNil := fun _ _ _ _ H Q I h => Calls.spliced_nil ⟨[], H, I, .nil, h⟩
theorem pa_cons (ha : PE X e te) (hr : PA X es t) (hs : starEach (e :: es) X.env = (false, eval e X.env) :: starEach es X.env := by rfl) : PA X (e :: es) (tCons te t) := by
  intro pos pins s σ H Q I h
  rw [hs]
  show wpAny _ _ (spliced ((false, eval e X.env) :: backTo pos (starEach es X.env))) _ _ s
  refine Calls.spliced_cons (thn (ha pins s σ H _ I h) fun u s1 ⟨x, H1, I1, r1, q1⟩ => ?_)
  exact thn (hr pos pins s1 σ H1 _ I1 q1) fun us s2 ⟨xs, H2, I2, r2, q2⟩ => ⟨x :: xs, H2, I2, .cons r1 r2, q2⟩

def tTup (t : TA) : TE := fun σ H Q => t σ H fun xs H1 => xs.length ≤ sizeLine ∧ ∀ p, H1 p = none → Q (.ref p) (upd H1 p (.tup xs))
def tLst (t : TA) : TE := fun σ H Q => t σ H fun xs H1 => xs.length ≤ sizeLine ∧ ∀ p, H1 p = none → Q (.ref p) (upd H1 p (.lst xs))
theorem pe_tup {x1} (h : PA X es t) : PE X (.Tuple es x1 pos) (tTup t) := by
  intro pins s σ H Q I hq
  refine wpAny_Tuple_spliced (thn (h pos pins s σ H _ I hq) fun us s1 ⟨xs, H1, I1, r, z, q⟩ => ⟨by rw [← r.length]; exact z, ?_⟩)
  have hf : H1 s1.heap.objs.size = none := I1.hok.fresh (Nat.le_refl _)
  refine ⟨.ref s1.heap.objs.size, upd H1 s1.heap.objs.size (.tup xs), I1.laid (t' := s1.toks) (fun b u e => Heap.get?_push_of_some _ e) (Nat.le_refl _) ?_, rfl, q _ hf⟩
  exact ⟨z, us, r, ⟨_, Heap.get?_push_size _ rfl, rfl, _, rfl⟩⟩
theorem pe_lst (h : PA X es t) : PE X (.List es pos) (tLst t) := by
  intro pins s σ H Q I hq
  refine wpAny_List_spliced (thn (h pos pins s σ H _ I hq) fun us s1 ⟨xs, H1, I1, r, z, q⟩ => ⟨by rw [← r.length]; exact z, ?_⟩)
  have hf : H1 s1.heap.objs.size = none := I1.hok.fresh (Nat.le_refl _)
  refine ⟨.ref s1.heap.objs.size, upd H1 s1.heap.objs.size (.lst xs), I1.laid (t' := s1.toks) (fun b u e => Heap.get?_push_of_some _ e) (Nat.le_refl _) ?_, rfl, q _ hf⟩
  exact ⟨z, us, 0, r, Heap.get?_push_size _ rfl⟩
end

abbrev Sp := List V → Hp → VK → XK → Prop
abbrev CXT := List Env → Hp → Shared → XK → Value → Shared → Prop

structure Env0 (P : Program) (w : World) (K : PySem.W.Frag) (mg : Str → Option Value) (base : Heap) (A : Around) (outer : List Env) (s : Shared) (H : Hp) : Prop where
  frames : A.frames = some outer
  mod : Mod K mg base
  bs : ∀ b o, base.get? b = some o → s.heap.get? b = some o ∧ H b = none
  bsz : base.objs.size ≤ s.heap.objs.size
  funs : s.heap.FunFrames base outer
  frf : ∀ b ∈ frs outer, H b = none
  hok : HOk P w H s.heap
  bare : AllBare s.gens
def CE (outer : List Env) (P : Program) (w : World) (H : Hp) (s : Shared) (Q : VK) (u : Value) (s' : Shared) : Prop :=
  ∃ v H', s'.os = s.os ∧ AllBare s'.gens ∧ Un (frs outer) [] H H' s.heap s'.heap ∧ HOk P w H' s'.heap ∧ RelV v u ∧ Q v H'
def CR (CX : CXT) (outer : List Env) (P : Program) (w : World) (H : Hp) (s : Shared) (Q : VK) (E : XK) (r : Result) (s' : Shared) : Prop :=
  match r with
  | .ok (.ret u) => CE outer P w H s Q u s'
  | .ok _ => False
  | .error e => CX outer H s E e s'
structure FnOk (P : Program) (w : World) (K : PySem.W.Frag) (mg : Str → Option Value) (base : Heap) (CX : CXT) (k : Nat) (f : Addr) (fd : FuncData) (ps : List Str) (sp : Sp) : Prop where
  len : ∀ vs H Q E, sp vs H Q E → vs.length = ps.length
  run : ∀ (A : Around) (outer : List Env) (s : Shared) (H : Hp) (args : Args) (us : List Value) (vs : List V) (Q : VK) (E : XK), Room k A → Env0 P w K mg base A outer s H → BindsTo s fd args (ps.zip us) → Vals vs us → sp vs H Q E →
    codeAny (model P w) A (.call (.ref f) args) (CR CX outer P w H s Q E) s
theorem Env0.make {P : Program} {w : World} {K : PySem.W.Frag} {mg : Str → Option Value} {base : Heap} {A : Around} {outer : List Env} {s : Shared} {H : Hp} (e : Env0 P w K mg base A outer s H) (C : Addr) (us : List Value) (kw : List (Str × Value)) :
    Env0 P w K mg base (A.under (.builtin "type.__call__" ⟨.ref C :: us, kw⟩)) outer s H := ⟨by first | exact e.frames | (simpa [Around.under, Code.envs, Code.isFrame, pushEnvs] using e.frames), e.mod, e.bs, e.bsz, e.funs, e.frf, e.hok, e.bare⟩
section
variable {X : Cx} {pins : List (Addr × Obj)} {σ : St} {H : Hp} {s s' : Shared}
theorem Inv.env0 (I : Inv X pins σ H s) : Env0 X.prog X.w X.K X.mg X.base X.A X.stack s H :=
  ⟨I.ok.frames, I.ok.mod, I.bs, Nat.le_trans I.ok.bsz I.sz, I.stack, I.stkFree, I.hok, I.bare⟩
theorem Inv.after {Q : VK} {u : Value} (I : Inv X pins σ H s) (h : CE X.stack X.prog X.w H s Q u s') : EP X pins σ Q u s' := by
  obtain ⟨v, H', os, bare, un, hok, r, q⟩ := h
  obtain ⟨hh, g, d, t, os'⟩ := s'
  obtain rfl : os' = s.os := os
  exact ⟨v, H', I.call (h' := hh) (g' := g) (d' := d) (t' := t) (ch := []) un hok bare (fun b z => absurd z (by simp)), r, q⟩
end

def tCall (sp : Sp) (dvs : List V) (E : XK) (t : TA) : TE := fun σ H Q => t σ H fun vs H1 => sp (vs ++ dvs) H1 Q E
def tMeth (C : Addr) (m : Str) (sp : Sp) (dvs : List V) (E : XK) (ta : TE) (t : TA) : TE := fun σ H Q => ta σ H fun x H1 => ∃ a dx fs, x = .ref a ∧ H1 a = some (.ins C dx fs) ∧ fs.lookup m = none ∧
  t σ H1 fun vs H2 => sp (x :: (vs ++ dvs)) H2 Q E
def tMake (C : Addr) (sp : Sp) (dvs : List V) (E : XK) (t : TA) : TE := fun σ H Q => t σ H fun vs H1 => ∀ x dx, H1 x = none → H1 dx = none → dx ≠ x →
  sp (.ref x :: (vs ++ dvs)) (upd (upd H1 dx (.own x)) x (.ins C dx [])) (fun v H2 => v = .non ∧ Q (.ref x) H2) E

def Binds (K : PySem.W.Frag) (fd : FuncData) (ps : List Str) (ds : List Value) : Prop :=
  ∀ (s : Shared) (us : List Value), K.In s.heap → (us ++ ds).length = ps.length → BindsTo s fd ⟨us, []⟩ (ps.zip (us ++ ds))
theorem Binds.all {K : PySem.W.Frag} {fd : FuncData} {ps : List Str} (h : ∀ us : List Value, us.length = ps.length → bindArgs fd ⟨us, []⟩ = pure (ps.zip us)) : Binds K fd ps [] := fun s us _ hl => by
  rw [List.append_nil] at hl ⊢
  exact .of_eq (h us hl)

def Passes (CX : CXT) (X : Cx) (E : XK) : Prop := ∀ (pins : List (Addr × Obj)) (σ : St) (H : Hp) (s : Shared) (e : Value) (s' : Shared), Inv X pins σ H s → CX X.stack H s E e s' → X.xe e s'

section
variable {X : Cx} {CX : CXT} {k : Nat} {f C : Addr} {fd : FuncData} {ps : List Str} {sp : Sp} {dvs : List V} {ds : List Value} {E : XK} {x m : Str} {p pos apos : Pos} {e o : Expr} {es : List Expr} {ta : TE} {t : TA}

theorem run_fn {pins : List (Addr × Obj)} {σ : St} {H : Hp} {s : Shared} {Q : VK} {us : List Value} {vs : List V} (F : FnOk X.prog X.w X.K X.mg X.base CX k f fd ps sp) (hr : Room k X.A) (hb : Binds X.K fd ps ds) (hd : Vals dvs ds) (hx : Passes CX X E)
    (I : Inv X pins σ H s) (r : Vals vs us) (h : sp (vs ++ dvs) H Q E) : wpAny (model X.prog X.w) X.A (call (.ref f) us) (EP X pins σ Q) X.xe s := by
  have r2 : Vals (vs ++ dvs) (us ++ ds) := r.append hd
  have hl : (us ++ ds).length = ps.length := by rw [← r2.length]; exact F.len _ _ _ _ h
  refine wpAny_call (codeAny_mono (F.run X.A X.stack s H ⟨us, []⟩ (us ++ ds) (vs ++ dvs) Q E hr I.env0 (hb s us I.kIn hl) r2 h) fun r s' hq => ?_)
  cases r with
  | error e => exact hx pins σ H s e s' I hq
  | ok fl =>
    cases fl with
    | ret u => exact I.after hq
    | next => exact False.elim hq
    | brk => exact False.elim hq
    | cont => exact False.elim hq

theorem pe_call (F : FnOk X.prog X.w X.K X.mg X.base CX k f fd ps sp) (hr : Room k X.A) (hg : Gl X x) (hm : X.mg x = some (.ref f)) (hk : PySem.W.keepIn X.K (.ref f) = true) (hb : Binds X.K fd ps ds) (hd : Vals dvs ds) (hx : Passes CX X E)
    (ha : PA X (e :: es) t) (hdb : (x == ("__debug__" : Str)) = false := by decide) (he : starEach (e :: es) X.env = (false, eval e X.env) :: starEach es X.env := by rfl) (hpl : (backTo pos (starEach es X.env)).any (·.1) = false := by rfl) :
    PE X (.Call (.Name x p) (e :: es) [] pos) (tCall sp dvs E t) := by
  intro pins s σ H Q I h
  refine wpAny_Call_Name_kw (ld_glob I hg hm ?_ hdb)
  refine PySem.W.callWith_K (h₀ := X.base) I.ok.mod.kin hk (thn (ha pos pins s σ H _ I h) fun us s1 ⟨vs, H1, I1, r, q⟩ => ⟨I1.kIn, ?_⟩) he hpl
  exact run_fn F hr hb hd hx I1 r q
theorem pe_meth0 {pl : Sem Bool} (he : PE X o ta) (c : Cls X.K C) (hm : Meth X.K C m f) (F : FnOk X.prog X.w X.K X.mg X.base CX k f fd ps sp) (hr : Room k X.A) (hb : Binds X.K fd ps ds) (hd : Vals dvs ds) (hx : Passes CX X E)
    (ht : eval (.Call (.Attribute o m apos) [] [] pos) X.env = (do
      let ov ← eval o X.env
      standAt apos.atName
      let (f, first) ← holding [ov] (getMethod ov m pl)
      callWith pos f first (backTo pos (starEach [] X.env)) (backToKw pos (keywordEach [] X.env))) := by rfl) :
    PE X (.Call (.Attribute o m apos) [] [] pos) (tMeth C m sp dvs E ta tNil) := by
  intro pins s σ H Q I h
  refine PySem.W.methodCall_KW (pl := pl) (thn (he pins s σ H _ I h) fun u s1 ⟨x, H1, I1, rx, a, dx, fs, ex, ea, l, q⟩ => ?_) ht
  subst ex
  obtain rfl : u = Value.ref a := rx
  refine getmeth_ok I1 ea c hm l ?_
  exact PySem.W.callWith_K0 (first := [.ref a]) I1.kIn hm.kp (run_fn (us := [.ref a]) (vs := [.ref a]) F hr hb hd hx I1 (.cons rfl .nil) q)

structure Mk (K : PySem.W.Frag) (C f : Addr) : Prop where
  makes : PySem.W.makesIn K C = true
  init : PySem.W.findIn K (.ref C) "__init__" = some (some (.ref f))
  fn : PySem.W.isFn K (.ref f) = true
  kp : PySem.W.keepIn K (.ref C) = true

theorem run_make {pins : List (Addr × Obj)} {σ : St} {H : Hp} {s : Shared} {Q : VK} {us : List Value} {vs : List V} (M : Mk X.K C f) (F : FnOk X.prog X.w X.K X.mg X.base CX k f fd ps sp) (hr : Room (k + 1) X.A) (hb : Binds X.K fd ps ds) (hd : Vals dvs ds)
    (hx : Passes CX X E) (I : Inv X pins σ H s) (r : Vals vs us)
    (h : ∀ x dx, H x = none → H dx = none → dx ≠ x → sp (.ref x :: (vs ++ dvs)) (upd (upd H dx (.own x)) x (.ins C dx [])) (fun v H2 => v = .non ∧ Q (.ref x) H2) E) :
    wpAny (model X.prog X.w) X.A (call (.ref C) us) (EP X pins σ Q) X.xe s := by
  have hq := h (s.heap.objs.size + 1) s.heap.objs.size (I.hok.fresh (Nat.le_succ _)) (I.hok.fresh (Nat.le_refl _)) (Nat.ne_of_lt (Nat.lt_succ_self _))
  have I2 := Inv.made (C := C) I
  have r2 : Vals (V.ref (s.heap.objs.size + 1) :: (vs ++ dvs)) (Value.ref (s.heap.objs.size + 1) :: (us ++ ds)) := .cons rfl (r.append hd)
  have hl : (Value.ref (s.heap.objs.size + 1) :: us ++ ds).length = ps.length := by
    have e := r2.length
    rw [F.len _ _ _ _ hq] at e
    exact e.symm
  refine wpAny_call (make_map (f := f) I.kIn M.makes M.init (beq_iff_eq.mp M.fn) (codeAny_mono (F.run _ X.stack _ _ ⟨Value.ref (s.heap.objs.size + 1) :: us, []⟩ (Value.ref (s.heap.objs.size + 1) :: (us ++ ds)) _ _ E (hr.make C us [])
    (I2.env0.make C us []) (hb _ (Value.ref (s.heap.objs.size + 1) :: us) I2.kIn hl) r2 hq) fun r s' hq' => ?_))
  cases r with
  | error e => exact hx pins σ _ _ e s' I2 hq'
  | ok fl =>
    cases fl with
    | ret u =>
      obtain ⟨v, H', I3, rv, ev, q3⟩ := I2.after hq'
      subst ev
      exact ⟨rv, ⟨V.ref (s.heap.objs.size + 1), H', I3, rfl, q3⟩⟩
    | next => exact False.elim hq'
    | brk => exact False.elim hq'
    | cont => exact False.elim hq'
theorem pe_make (M : Mk X.K C f) (F : FnOk X.prog X.w X.K X.mg X.base CX k f fd ps sp) (hr : Room (k + 1) X.A) (hg : Gl X x) (hm : X.mg x = some (.ref C)) (hb : Binds X.K fd ps ds) (hd : Vals dvs ds) (hx : Passes CX X E)
    (ha : PA X (e :: es) t) (hdb : (x == ("__debug__" : Str)) = false := by decide) (he : starEach (e :: es) X.env = (false, eval e X.env) :: starEach es X.env := by rfl) (hpl : (backTo pos (starEach es X.env)).any (·.1) = false := by rfl) :
    PE X (.Call (.Name x p) (e :: es) [] pos) (tMake C sp dvs E t) := by
  intro pins s σ H Q I h
  refine wpAny_Call_Name_kw (ld_glob I hg hm ?_ hdb)
  refine PySem.W.callWith_K (h₀ := X.base) I.ok.mod.kin M.kp (thn (ha pos pins s σ H _ I h) fun us s1 ⟨vs, H1, I1, r, q⟩ => ⟨I1.kIn, ?_⟩) he hpl
  exact run_make M F hr hb hd hx I1 r q
end

section
variable {X : Cx} {CX : CXT} {k : Nat} {f C : Addr} {fd : FuncData} {ps ks : List Str} {sp : Sp} {E : XK} {x m : Str} {p pos apos kpos : Pos} {e o : Expr} {es : List Expr} {kws : List Keyword} {te ta : TE} {t tk : TA} {nm : Option Str}
variable {g : List Value → List Value → List Value} {gV : List V → List V → List V}
end

structure FnScope (N P : List Str) (sc : Scope) : Prop where
  kind : sc.kind = .function
  co : sc.isCoroutine = false
  gen : sc.isGenerator = false
  nd : N.Nodup
  pre : N.take P.length = P
  par : ∀ x ∈ P, sc.names.lookup x = some .local ∨ sc.names.lookup x = some .cell
  nofree : ∀ y ∈ sc.names, y.2 ≠ .free

theorem bindL_out {kindOf : Str → Option NameKind} {x : Str} : ∀ {binds : List (Str × Value)} {m : Str → Option Value}, (∀ v, (x, v) ∉ binds) → bindL kindOf binds m x = m x
  | [], _, _ => rfl
  | (n, v) :: r, m, h => by
    unfold bindL
    rw [bindL_out fun w hw => h w (List.mem_cons_of_mem _ hw)]
    split
    · have : x ≠ n := by rintro rfl; exact h v List.mem_cons_self
      simp [this]
    · rfl
theorem bindC_out {kindOf : Str → Option NameKind} {x : Str} : ∀ {binds : List (Str × Value)} {m : Str → Option Value}, (∀ v, (x, v) ∉ binds) → bindC kindOf binds m x = m x
  | [], _, _ => rfl
  | (n, v) :: r, m, h => by
    unfold bindC
    rw [bindC_out fun w hw => h w (List.mem_cons_of_mem _ hw)]
    split
    · rfl
    · have : x ≠ n := by rintro rfl; exact h v List.mem_cons_self
      simp [this]
theorem bindL_get {kindOf : Str → Option NameKind} {x : Str} {v : Value} : ∀ {P : List Str} {vs : List Value} {i : Nat} {m : Str → Option Value}, P.Nodup → P[i]? = some x → vs[i]? = some v → kindOf x = some .local →
    bindL kindOf (P.zip vs) m x = some v
  | [], _, _, _, _, h, _, _ => by simp at h
  | _ :: _, [], _, _, _, _, h, _ => by simp at h
  | p :: P, w :: vs, 0, m, nd, h1, h2, hk => by
    simp at h1 h2; subst h1; subst h2
    show bindL kindOf ((p, w) :: P.zip vs) m p = _
    unfold bindL
    rw [bindL_out fun v hv => (List.nodup_cons.mp nd).1 (List.of_mem_zip hv).1, if_pos hk]
    simp
  | p :: P, w :: vs, i + 1, m, nd, h1, h2, hk => by
    show bindL kindOf ((p, w) :: P.zip vs) m x = _
    unfold bindL
    exact bindL_get (i := i) (List.nodup_cons.mp nd).2 (by simpa using h1) (by simpa using h2) hk
theorem bindC_get {kindOf : Str → Option NameKind} {x : Str} {v : Value} : ∀ {P : List Str} {vs : List Value} {i : Nat} {m : Str → Option Value}, P.Nodup → P[i]? = some x → vs[i]? = some v → kindOf x ≠ some .local →
    bindC kindOf (P.zip vs) m x = some v
  | [], _, _, _, _, h, _, _ => by simp at h
  | _ :: _, [], _, _, _, _, h, _ => by simp at h
  | p :: P, w :: vs, 0, m, nd, h1, h2, hk => by
    simp at h1 h2; subst h1; subst h2
    show bindC kindOf ((p, w) :: P.zip vs) m p = _
    unfold bindC
    rw [bindC_out fun v hv => (List.nodup_cons.mp nd).1 (List.of_mem_zip hv).1, if_neg hk]
    simp
  | p :: P, w :: vs, i + 1, m, nd, h1, h2, hk => by
    show bindC kindOf ((p, w) :: P.zip vs) m x = _
    unfold bindC
    exact bindC_get (i := i) (List.nodup_cons.mp nd).2 (by simpa using h1) (by simpa using h2) hk

def start (N : List Str) (vs : List V) : St := vs.map some ++ List.replicate (N.length - vs.length) none

def cxOf (CX : CXT) (P : Program) (w : World) (K : PySem.W.Frag) (mg : Str → Option Value) (base : Heap) (N : List Str) (qual : Str) (scope : Scope) (f : Addr) (cd : Value) (A : Around) (outer : List Env) (s : Shared) (H : Hp) (E : XK) : Cx where
  prog := P
  w := w
  K := K
  mg := mg
  base := base
  A := A.deeper (envOfC qual scope s.heap.objs.size f cd)
  N := N
  s₀ := s
  H₀ := H
  env := envOfC qual scope s.heap.objs.size f cd
  outer := outer
  stack := envOfC qual scope s.heap.objs.size f cd :: outer
  ex := []
  calm := true
  fn := fun _ => true
  pn := []
  xe := fun e s' => wpAny (model P w) (A.deeper (envOfC qual scope s.heap.objs.size f cd)) (leaving (envOfC qual scope s.heap.objs.size f cd) e) (fun _ s'' => CX outer H s E e s'') (fun e' s'' => CX outer H s E e' s'') s'

theorem cell_has {sc : Scope} {n : Nat} {x : Str} (h : sc.names.lookup x = some .cell) : ∃ c, (cellsFrom n sc.names []).lookup x = some c := by
  have q := PySem.W.cellsFrom_some sc.names n [] (.inl h)
  exact Option.isSome_iff_exists.mp q

theorem inv_start {CX : CXT} {P : Program} {w : World} {K : PySem.W.Frag} {mg : Str → Option Value} {base : Heap} {N ps : List Str} {qual : Str} {scope : Scope} {f : Addr} {cd : Value} {A : Around} {outer : List Env} {s s1 : Shared} {H : Hp} {E : XK} {us : List Value} {vs : List V}
    (S : FnScope N ps scope) (hd : A.handled = none) (e0 : Env0 P w K mg base A outer s H) (hl : vs.length = ps.length) (r : Vals vs us)
    (x : InCallC s s.heap.objs.size (bindL (envOfC qual scope s.heap.objs.size f cd).kindOf (ps.zip us) fun _ => none) (cellsFrom (s.heap.objs.size + 1) scope.names []) (bindC (envOfC qual scope s.heap.objs.size f cd).kindOf (ps.zip us) fun _ => none) s1) :
    Inv (cxOf CX P w K mg base N qual scope f cd A outer s H E) [] (start N vs) H s1 := by
  have hpl : ps.length ≤ N.length := by have := congrArg List.length S.pre; rw [List.length_take] at this; omega
  obtain ⟨h1, tk, rfl, hk⟩ := x.done
  have noA : ∀ b : Addr, b ∉ (cxOf CX P w K mg base N qual scope f cd A outer s H E).ex := fun b z => absurd (show b ∈ ([] : List Addr) from z) (by simp)
  refine ⟨⟨e0.mod, S.kind, rfl, rfl, Nat.le_refl _, fun y z c h1 h2 => ?_, fun y hy => ?_, fun y c _ h => ?_, fun _ => hd, Around.frames_deeper e0.frames, .inr ⟨rfl, rfl⟩, fun b z => absurd z (noA b), e0.bs, e0.bsz, fun b _ _ => noA b, fun b z => absurd z (noA b), e0.funs, e0.frf⟩,
    rfl, e0.bare, Un.kept hk, ⟨_, x.toInCall.ns, fun i y v h1 h2 h3 => ?_⟩, fun y c h => ⟨_, x.cell y c h⟩, e0.hok.fresh (Nat.le_refl _), fun y c h => ?_, fun p hp => absurd (show p ∈ ([] : List (Addr × Obj)) from hp) (by simp), e0.hok.kept hk, ?_⟩
  · exact name_of_addr x.apart (PySem.mem_of_lookup h1) (PySem.mem_of_lookup h2)
  · have hy : scope.names.lookup y = some .cell ∨ scope.names.lookup y = some .free := hy
    rcases hy with hy | hy
    · exact cell_has hy
    · exact absurd rfl (S.nofree _ (PySem.mem_of_lookup hy))
  · exact Nat.le_of_lt (x.above y c (PySem.mem_of_lookup h))
  · have hi : i < vs.length := by
      unfold start at h2
      by_cases hi : i < vs.length
      · exact hi
      · rw [List.getElem?_append_right (by simpa using hi)] at h2
        rw [List.getElem?_replicate] at h2
        split at h2 <;> cases h2
    have ha : vs[i]? = some v := by
      unfold start at h2
      rw [List.getElem?_append_left (by simpa using hi), List.getElem?_map] at h2
      cases e : vs[i]? with
      | none => rw [e] at h2; cases h2
      | some a => rw [e] at h2; cases h2; rfl
    obtain ⟨u, hu, rv⟩ := r.get ha
    have hp : ps[i]? = some y := by
      rw [← S.pre, List.getElem?_take_of_lt (by omega)]; exact h1
    have ndP : ps.Nodup := by rw [← S.pre]; exact S.nd.sublist (List.take_sublist _ _)
    refine ⟨u, rv, ?_⟩
    rcases S.par y (List.mem_of_getElem? hp) with k | k
    · exact .inl ⟨k, bindL_get ndP hp hu k⟩
    · obtain ⟨c, e⟩ := cell_has (n := s.heap.objs.size + 1) k
      refine .inr ⟨.inl k, c, e, ?_⟩
      have q := x.cell y c e
      rw [bindC_get ndP hp hu (by show scope.names.lookup y ≠ _; rw [k]; decide)] at q
      exact q
  · exact e0.hok.fresh (Nat.le_of_lt (x.above y c (PySem.mem_of_lookup h)))
  · unfold start
    show _ = N.length
    rw [List.length_append, List.length_map, List.length_replicate]
    omega

theorem fn_of {CX : CXT} {P : Program} {w : World} {K : PySem.W.Frag} {mg : Str → Option Value} {base : Heap} {k : Nat} {f : Addr} {name qual : Str} {params : Arguments} {body : List Stmt} {scope : Scope} {dV kV doc pm cdv ct oc : Value} {an od : Option Addr}
    {osl : Array (Option Value)} {N ps : List Str} {sp : Sp} (lk : K.lookup f = some ⟨oc, od, .func (PySem.W.fnOf name qual params body scope dV kV doc pm an cdv ct), osl⟩) (hcd : PySem.W.codeIn K cdv qual = true) (S : FnScope N ps scope)
    (len : ∀ vs H Q E, sp vs H Q E → vs.length = ps.length)
    (hbody : ∀ (A : Around) (outer : List Env) (s : Shared) (H : Hp) (vs : List V) (Q : VK) (E : XK), Room k (A.deeper (envOfC qual scope s.heap.objs.size f cdv)) → sp vs H Q E →
      ∃ t, PSs (cxOf CX P w K mg base N qual scope f cdv A outer s H E) body t ∧ t { nx := fun _ H' => Q .non H', rt := Q } (start N vs) H) :
    FnOk P w K mg base CX (k + 1) f (PySem.W.fnOf name qual params body scope dV kV doc pm an cdv ct) ps sp := by
  refine ⟨len, fun A outer s H args us vs Q E hr e0 hb r hsp => ?_⟩
  have hl := len _ _ _ _ hsp
  have KX : K.In s.heap := e0.mod.kin.keeps fun b o e => (e0.bs b o e).1
  have lim : s.heap.NoLimit := e0.mod.nolimit.keeps fun b o e => (e0.bs b o e).1
  have hkind : ∀ y ∈ ps.zip us, scope.names.lookup y.1 = some .local ∨ (scope.names.lookup y.1 = some .cell ∧ ((cellsFrom (s.heap.objs.size + 1) scope.names []).lookup y.1).isSome = true) := fun ⟨n, v⟩ hy => by
    rcases S.par n (List.of_mem_zip hy).1 with q | q
    · exact .inl q
    · exact .inr ⟨q, PySem.W.cellsFrom_some _ _ _ (.inl q)⟩
  refine codeAny_call_function hr.depth (KX _ _ lk) rfl S.co S.gen rfl (PySem.W.codeRec_of KX hcd) (hb _ _ _ _ ?_)
  refine wpAny_newFunctionEnv_cells S.kind hkind fun env he s1 x => ?_
  subst he
  refine ⟨lim.keeps x.toInCall.keep, codeAny_func ?_⟩
  obtain ⟨t, ht, hq⟩ := hbody A outer s H vs Q E (hr.deeper _) hsp
  have I : Inv (cxOf CX P w K mg base N qual scope f cdv A outer s H E) [] (start N vs) H s1 := inv_start S hr.hd e0 hl r x
  refine wpAny_mono (ht [] s1 (start N vs) H _ I hq) (fun fl s' hs => ?_) fun e s' hs => hs
  have fin : ∀ {σ' : St} {H' : Hp} {v : V} {u : Value}, Inv (cxOf CX P w K mg base N qual scope f cdv A outer s H E) [] σ' H' s' → RelV v u → Q v H' → CE outer P w H s Q u s' :=
    fun {σ' H' v u} J rv q => ⟨v, H', J.os, J.bare, J.base, J.hok, rv, q⟩
  cases fl with
  | ret u =>
    obtain ⟨v, σ', H', J, rv, q⟩ := hs
    exact fin J rv q
  | next =>
    obtain ⟨σ', H', J, q⟩ := hs
    exact fin (v := V.non) (u := Value.none) J rfl q
  | brk =>
    obtain ⟨_, _, _, q⟩ := hs
    exact False.elim q
  | cont =>
    obtain ⟨_, _, _, q⟩ := hs
    exact False.elim q
end L2

namespace L2
open PySem PySem.Spec PyProof.Rows
section
variable {X : Cx} {x : Str} {p pos : Pos} {e : Expr} {es : List Expr} {t : TA} {id T : String} {r : List V → Hp → VK → Prop}

def tCB (r : List V → Hp → VK → Prop) (t : TA) : TE := fun σ H Q => t σ H fun vs H1 => r vs H1 Q
theorem pe_callB (hc : CallR X (.builtin id) r) (hg : Gl X x) (hm : X.mg x = none) (hv : bootBuiltins x = some (.builtin id)) (ha : PA X (e :: es) t) (hn : x ≠ "__name__" := by decide) (hdb : (x == ("__debug__" : Str)) = false := by decide)
    (he : starEach (e :: es) X.env = (false, eval e X.env) :: starEach es X.env := by rfl) (hpl : (backTo pos (starEach es X.env)).any (·.1) = false := by rfl) : PE X (.Call (.Name x p) (e :: es) [] pos) (tCB r t) := by
  intro pins s σ H Q I h
  refine wpAny_Call_Name_kw (ld_blt I hg hm hv ?_ hn hdb)
  exact PyProof.Rows.callWith_builtin1 (thn (ha pos pins s σ H _ I h) fun us s1 ⟨vs, H1, I1, r1, q1⟩ => hc pins s1 σ H1 vs us Q I1 r1 q1) he hpl
theorem pe_callTy (hc : CallR X (.type T) r) (hg : Gl X x) (hm : X.mg x = none) (hv : bootBuiltins x = some (.type T)) (ha : PA X (e :: es) t) (hn : x ≠ "__name__" := by decide) (hdb : (x == ("__debug__" : Str)) = false := by decide)
    (he : starEach (e :: es) X.env = (false, eval e X.env) :: starEach es X.env := by rfl) (hpl : (backTo pos (starEach es X.env)).any (·.1) = false := by rfl) : PE X (.Call (.Name x p) (e :: es) [] pos) (tCB r t) := by
  intro pins s σ H Q I h
  refine wpAny_Call_Name_kw (ld_blt I hg hm hv ?_ hn hdb)
  exact PyProof.Rows.callWith_type1 (thn (ha pos pins s σ H _ I h) fun us s1 ⟨vs, H1, I1, r1, q1⟩ => hc pins s1 σ H1 vs us Q I1 r1 q1) he hpl
end
end L2

namespace HT
open PySem PyProof.Rows

def lexLt : List Int → List Int → Bool
  | [], [] => false
  | [], _ :: _ => true
  | _ :: _, [] => false
  | x :: xs, y :: ys => if x = y then lexLt xs ys else decide (x < y)
theorem lexLt_cons (x y : Int) (xs ys : List Int) : lexLt (x :: xs) (y :: ys) = if x = y then lexLt xs ys else decide (x < y) := rfl
theorem lexLt_nil_nil : lexLt [] [] = false := rfl
theorem lexLt_nil_cons (y : Int) (ys : List Int) : lexLt [] (y :: ys) = true := rfl
theorem lexLt_cons_nil (x : Int) (xs : List Int) : lexLt (x :: xs) [] = false := rfl

theorem eqAt_int (A : Around) (s : Shared) (a : Int) (t : Tok) (c : Int) (u : Tok) : ∃ e, SeqAt.EqAt A s (.int a t) (.int c u) e ∧ (e = true ↔ a = c) :=
  ⟨(a == c), SeqAt.EqAt.int_int a t c u, by simp⟩
theorem rcLt_int (A : Around) (s : Shared) (a : Int) (t : Tok) (c : Int) (u : Tok) (prog : Program) (w : World) (E : Value → Shared → Prop) (Q : Value → Shared → Prop) (h : Q (.bool (decide (a < c))) s) :
    wpAny (model prog w) A (richCompare .Lt (.int a t) (.int c u)) Q E s :=
  (PyProof.Rows.lt_int h : wpAny (model prog w) A (compareOp .Lt (.int a t) (.int c u)) Q E s)

section
open PySem.SeqAt
open PySem.AutoSeq1 (wpAny_loadPart')
open PySem.MeetsSeq PySem.MeetsSeq2 PySem.MeetsSeq3

theorem tuple_lt_ints (l b : Addr) (items items2 : Array Value) (n n2 : Nat) (dd dd2 : Option Addr) (sl sl2 : Array (Option Value)) (ns ms : List Int) (hi : IntsAre items.toList ns) (hj : IntsAre items2.toList ms) :
    Meets (Builtin.«tuple.__lt__» ⟨[.ref l, .ref b], []⟩)
      (fun _ R s => s.heap.get? l = some { cls := .type "tuple", dict := dd, data := .seq items n, slots := sl } ∧ s.heap.get? b = some { cls := .type "tuple", dict := dd2, data := .seq items2 n2, slots := sl2 } ∧
        R (.ok (.ret (.bool (lexLt ns ms)))) s) :=
  .of_wp fun prog w A R s h => by
    obtain ⟨hp, g, d, tk, os⟩ := s; obtain ⟨hl, hb, h⟩ := h
    have f2 := AutoSeq1.sub_tuple_tuple
    have z1 : items.size = ns.length := by rw [← hi.length]; simp
    have z2 : items2.size = ms.length := by rw [← hj.length]; simp
    wp_walk using wpAny_loadPart' hl, wpAny_loadPart' hb, wpAny_forIn_list _ (fun rest b s' => b.1 = none ∧ s' = ⟨hp, g, d, tk, os⟩ ∧ ∃ (vs ws : List Value) (ns' ms' : List Int), rest = vs.zip ws ∧
      IntsAre vs ns' ∧ IntsAre ws ms' ∧ ns'.length + items2.size = ms'.length + items.size ∧ R (.ok (.ret (.bool (lexLt ns' ms')))) ⟨hp, g, d, tk, os⟩) _
    case turn =>
      rintro ⟨y, x⟩ rest b s' ⟨hb', rfl, vs, ws, ns', ms', hz, hvi, hwi, hlen, hR⟩
      cases hvi with
      | nil => rw [List.zip_nil_left] at hz; cases hz
      | cons a t hvi' =>
        cases hwi with
        | nil => rw [List.zip_nil_right] at hz; cases hz
        | cons c u hwi' =>
          rw [List.zip_cons_cons] at hz
          injection hz with hyx hrest
          injection hyx with hy hx
          subst hy hx
          rw [lexLt_cons] at hR
          simp only [List.length_cons] at hlen
          obtain ⟨e, he, hiff⟩ := eqAt_int A.in1 ⟨hp, g, d, tk, os⟩ a t c u
          refine wpAny_bind (he prog w _ _ ?_)
          cases e with
          | true =>
            rw [if_pos (hiff.mp rfl)] at hR
            wp_walk
            exact ⟨rfl, rfl, _, _, _, _, hrest, hvi', hwi', by omega, hR⟩
          | false =>
            rw [if_neg (fun q => absurd (hiff.mpr q) Bool.false_ne_true)] at hR
            have hri := rcLt_int A.in1 ⟨hp, g, d, tk, os⟩ a t c u prog w
            wp_walk using hri
            exact ⟨_, rfl, by simpa using hR⟩
    case fin =>
      rintro ⟨b1, b2⟩ s' ⟨hb', rfl, vs, ws, ns', ms', hz, hvi, hwi, hlen, hR⟩
      simp only at hb'
      subst hb'
      have hv : lexLt ns' ms' = decide (items.size < items2.size) := by
        cases hvi with
        | nil =>
          cases hwi with
          | nil =>
            simp only [List.length_nil] at hlen
            rw [lexLt_nil_nil]
            exact (decide_eq_false (by omega)).symm
          | cons c u hw =>
            simp only [List.length_nil, List.length_cons] at hlen
            rw [lexLt_nil_cons]
            exact (decide_eq_true (by omega)).symm
        | cons a t hv =>
          cases hwi with
          | nil =>
            simp only [List.length_nil, List.length_cons] at hlen
            rw [lexLt_cons_nil]
            exact (decide_eq_false (by omega)).symm
          | cons c u hw =>
            rw [List.zip_cons_cons] at hz
            cases hz
      rw [hv] at hR
      wp_walk
      exact ⟨_, rfl, by simpa [Builtin.Tuple.tupleCompareSizes] using hR⟩
    case h =>
      exact ⟨rfl, rfl, items.toList, items2.toList, ns, ms, rfl, hi, hj, by omega, h⟩
end

section
variable {prog : Program} {w : World} {A : Around} {E : Value → Shared → Prop} {s : Shared}

theorem lt_tupInts {l b : Addr} {items items2 : Array Value} {ns ms : List Int} {Q : Value → Shared → Prop} (hl : IsTup s.heap l items) (hb : IsTup s.heap b items2) (hi : IntsAre items.toList ns) (hj : IntsAre items2.toList ms)
    (hu : A.units < cLine) (h : Q (.bool (lexLt ns ms)) s) : wpAny (model prog w) A (compareOp .Lt (.ref l) (.ref b)) Q E s := by
  obtain ⟨⟨cls, dd, data, sl⟩, ho, hc, n, hd⟩ := id hl
  obtain ⟨⟨cls2, dd2, data2, sl2⟩, ho2, hc2, n2, hd2⟩ := id hb
  simp only at hc hd hc2 hd2
  subst hc hd hc2 hd2
  exact richCompare_meets_room (op := .Lt) ⟨_, ho, rfl⟩ ⟨_, ho2, rfl⟩ PySem.F.slot_tuple_lt PySem.F.entry_tuple_lt (PySem.F.args_tuple_lt_2 _ _) (tuple_lt_ints l b items items2 n n2 dd dd2 sl sl2 ns ms hi hj)
    ⟨ho, ho2, show Value.bool (lexLt ns ms) ≠ Value.notImplemented ∧ Q (.bool (lexLt ns ms)) s from ⟨(fun x => nomatch x), h⟩⟩ hu

def sIx (n d : Nat) : Option Int → Nat
  | none => d
  | some v => if v < 0 then (v + (n : Int)).toNat else min v.toNat n
theorem sIx_nat (n d k : Nat) : sIx n d (some (k : Int)) = min k n := by
  show (if (k : Int) < 0 then ((k : Int) + (n : Int)).toNat else min (k : Int).toNat n) = min k n
  rw [if_neg (by omega), Int.toNat_natCast]
end
end HT

namespace L2
open PySem PySem.Spec PyProof.Rows

abbrev TO := St → Hp → (Option Int → Hp → Prop) → Prop
def PO (X : Cx) (e : Option Expr) (t : TO) : Prop :=
  ∀ (pins : List (Addr × Obj)) (s : Shared) (σ : St) (H : Hp) (Q : Option Int → Hp → Prop), Inv X pins σ H s → t σ H Q →
    wpAny (model X.prog X.w) X.A (evalPart e X.env) (fun u s' => ∃ o H', Inv X pins σ H' s' ∧ IsPart u o ∧ Q o H') X.xe s
def tNoPart : TO := fun _ H Q => Q none H
def tPart (t : TE) : TO := fun σ H Q => t σ H fun x H1 => ∃ i, x = .int i ∧ Q (some i) H1

theorem intsAre_of {ns : List Int} : ∀ {us : List Value}, Vals (ns.map V.int) us → IntsAre us ns := by
  induction ns with
  | nil => intro us r; rw [List.map_nil] at r; cases r; exact .nil
  | cons n ns ih =>
    intro us r
    rw [List.map_cons] at r
    cases r with
    | cons r1 r2 =>
      obtain ⟨t, e⟩ := r1
      subst e
      exact .cons n t (ih r2)

section
variable {X : Cx} {e : Expr} {te : TE} {lo hi : Option Expr} {tl th : TO} {pos p2 : Pos}

theorem po_none : PO X none tNoPart := by
  intro pins s σ H Q I h
  rw [evalPart_none]
  exact wpAny_pure ⟨none, H, I, .none, h⟩
theorem po_some (h : PE X e te) : PO X (some e) (tPart te) := by
  intro pins s σ H Q I hw
  rw [evalPart_some]
  refine thn (h pins s σ H _ I hw) fun u s1 ⟨x, H1, I1, r1, q1⟩ => ?_
  obtain ⟨i, rfl, q⟩ := q1
  obtain ⟨t, rfl⟩ := r1
  exact ⟨some i, H1, I1, .int i t, q⟩

def SlR (X : Cx) (r : V → Option Int → Option Int → Hp → VK → Prop) : Prop :=
  ∀ (pins : List (Addr × Obj)) (s : Shared) (σ : St) (H : Hp) (x : V) (v vl vu : Value) (lo hi : Option Int) (sl : Addr) (Q : VK), Inv X pins σ H s → RelV x v → s.heap.IsSliceOf sl vl vu .none → IsPart vl lo → IsPart vu hi → r x lo hi H Q →
    ∃ T id, typeLookup (.type T) "__getitem__" = pure (some (.builtin id)) ∧ s.TypeIs v T ∧ wpAny (model X.prog X.w) X.A (getItem v (.ref sl)) (EP X pins σ Q) X.xe s
def tSl (r : V → Option Int → Option Int → Hp → VK → Prop) (te : TE) (tl th : TO) : TE := fun σ H Q => te σ H fun x H1 => tl σ H1 fun l H2 => th σ H2 fun u H3 => r x l u H3 Q
theorem pe_slice {r : V → Option Int → Option Int → Hp → VK → Prop} (hr : SlR X r) (he : PE X e te) (hl : PO X lo tl) (hu : PO X hi th) : PE X (.Subscript e (.Slice lo hi none p2) pos) (tSl r te tl th) := by
  intro pins s σ H Q I h
  refine Subscript_ (thn (he pins s σ H _ I h) fun v s1 ⟨x, H1, I1, r1, q1⟩ => ?_)
  refine wpAny_Slice (thn (hl pins s1 σ H1 _ I1 q1) fun vl s2 ⟨l, H2, I2, pl, q2⟩ => thn (hu pins s2 σ H2 _ I2 q2) fun vu s3 ⟨u, H3, I3, pu, q3⟩ => ?_)
  rw [evalPart_none]
  refine wpAny_pure ?_
  have I4 : Inv X pins σ H3 { s3 with heap := s3.heap.push { cls := .type "slice", data := .fields #[vl, vu, .none] } } := I3.kept (t' := s3.toks) fun b ob q => Heap.get?_push_of_some _ q
  obtain ⟨T, id, hT, ht, hg⟩ := hr pins { s3 with heap := s3.heap.push { cls := .type "slice", data := .fields #[vl, vu, .none] } } σ H3 x v vl vu l u s3.heap.objs.size Q I4 r1 (Heap.IsSliceOf.new ..) pl pu q3
  show wpAny (model X.prog X.w) X.A (subscriptTail e (.Slice lo hi none p2) v (.ref s3.heap.objs.size)) (EP X pins σ Q) X.xe { s3 with heap := s3.heap.push { cls := .type "slice", data := .fields #[vl, vu, .none] } }
  exact tail_any (ops := [.ref s3.heap.objs.size, v]) ht hT hg (by with_unfolding_all rfl)

def cutV (xs : List V) (lo hi : Option Int) : List V := (xs.drop (HT.sIx xs.length 0 lo)).take (HT.sIx xs.length xs.length hi - HT.sIx xs.length 0 lo)
theorem cutV_length (xs : List V) (lo hi : Option Int) : (cutV xs lo hi).length ≤ xs.length := by
  unfold cutV
  rw [List.length_take, List.length_drop]
  omega
def rLtT (K : PySem.W.Frag) : R2 := fun x y H Q => ∃ a b ns ms, x = .ref a ∧ y = .ref b ∧ SqT K H a (ns.map V.int) ∧ SqT K H b (ms.map V.int) ∧ Q (.bl (HT.lexLt ns ms)) H
theorem op_ltT (hu : X.A.units < cLine) : OpR X (compareOp .Lt) (rLtT X.K) := by
  intro pins s σ H x y v u Q I rx ry h
  obtain ⟨a, b, ns, ms, rfl, rfl, ha, hb, q⟩ := h
  cases rx
  cases ry
  obtain ⟨its, r1, p1, _⟩ := I.tuple ha
  obtain ⟨its2, r2, p2, _⟩ := I.tuple hb
  have i1 : IntsAre its.toArray.toList ns := intsAre_of r1
  have i2 : IntsAre its2.toArray.toList ms := intsAre_of r2
  exact HT.lt_tupInts p1 p2 i1 i2 hu ⟨.bl (HT.lexLt ns ms), H, I, rfl, q⟩
end
end L2

namespace L2
open PySem PySem.Spec PyProof.Rows

def ixN (n : Nat) (i : Int) : Option Nat := if 0 ≤ i then (if i < n then some i.toNat else none) else if -(n : Int) ≤ i then some (i + n).toNat else none
def atI {α : Type} (xs : List α) (i : Int) : Option α := (ixN xs.length i).bind fun j => xs[j]?
theorem ixN_seq {n : Nat} {i : Int} {j : Nat} (h : ixN n i = some j) : seqIndex? i n = some j ∧ j < n ∧ -(n : Int) ≤ i ∧ i < n := by
  unfold ixN at h
  by_cases h0 : 0 ≤ i
  · rw [if_pos h0] at h
    by_cases h1 : i < n
    · rw [if_pos h1] at h
      have e : i.toNat = j := Option.some.inj h
      exact ⟨by rw [seqIndex_of h0 h1, e], by omega, by omega, h1⟩
    · rw [if_neg h1] at h; cases h
  · rw [if_neg h0] at h
    by_cases h1 : -(n : Int) ≤ i
    · rw [if_pos h1] at h
      have e : (i + n).toNat = j := Option.some.inj h
      exact ⟨by rw [seqIndex_neg (by omega) h1, e], by omega, h1, by omega⟩
    · rw [if_neg h1] at h; cases h
theorem atI_get {α : Type} {xs : List α} {i : Int} {v : α} (h : atI xs i = some v) : ∃ j, seqIndex? i xs.length = some j ∧ xs[j]? = some v ∧ j < xs.length ∧ -(xs.length : Int) ≤ i ∧ i < xs.length := by
  unfold atI at h
  cases e : ixN xs.length i with
  | none => rw [e] at h; cases h
  | some j =>
    rw [e] at h
    obtain ⟨h1, h2, h3, h4⟩ := ixN_seq e
    exact ⟨j, h1, h, h2, h3, h4⟩
theorem atI_nat {α : Type} {xs : List α} {j : Nat} {v : α} (h : xs[j]? = some v) : atI xs (j : Int) = some v := by
  have hj : j < xs.length := (List.getElem?_eq_some_iff.mp h).1
  have e : ixN xs.length (j : Int) = some j := by
    unfold ixN
    rw [if_pos (by omega), if_pos (by omega)]; simp
  unfold atI; rw [e]; exact h
def PlainIx (b : Expr) : Prop := ∀ o i, subscripted b false o i = operate [o, i] (getItem o i)
def IxR (X : Cx) (r : R2) : Prop :=
  ∀ (value slice : Expr) (pins : List (Addr × Obj)) (s : Shared) (σ : St) (H : Hp) (x y : V) (v u : Value) (Q : VK), Inv X pins σ H s → RelV x v → RelV y u → r x y H Q →
    subscripted slice false v u = operate [v, u] (getItem v u) → wpAny (model X.prog X.w) X.A (subscriptTail value slice v u) (EP X pins σ Q) X.xe s
def MtR (X : Cx) (id : String) (r : V → List V → Hp → VK → Prop) : Prop :=
  ∀ (pins : List (Addr × Obj)) (s : Shared) (σ : St) (H : Hp) (x : V) (xs : List V) (v : Value) (us : List Value) (Q : VK), Inv X pins σ H s → RelV x v → Vals xs us → r x xs H Q →
    wpAny (model X.prog X.w) X.A (call (.builtin id) (v :: us)) (EP X pins σ Q) X.xe s
section
variable {X : Cx} {a b : Expr} {ta tb : TE} {pos : Pos}
theorem pe_ix {r : R2} (hr : IxR X r) (ha : PE X a ta) (hb : PE X b tb) (hs : PlainIx b) : PE X (.Subscript a b pos) (tOp r ta tb) := by
  intro pins s σ H Q I h
  exact Subscript_ (binT ha hb I h fun v u s2 x y H2 I2 rx ry q => hr a b pins s2 σ H2 x y v u Q I2 rx ry q (hs _ _))

def rIxL (K : PySem.W.Frag) : R2 := fun x y H Q => ∃ p xs i v, x = .ref p ∧ y = .int i ∧ SqL K H p xs ∧ atI xs i = some v ∧ Q v H
def rIxT (K : PySem.W.Frag) : R2 := fun x y H Q => ∃ p xs i v, x = .ref p ∧ y = .int i ∧ SqT K H p xs ∧ atI xs i = some v ∧ Q v H
def rIxS : R2 := fun x y H Q => ∃ z i c, x = .str z ∧ y = .int i ∧ z.length ≤ sizeLine ∧ atI z.cps.toList i = some c ∧ Q (.str ⟨#[c]⟩) H
theorem ix_list : IxR X (rIxL X.K) := by
  intro value slice pins s σ H x y v u Q I rx ry h hs
  obtain ⟨p, xs, i, z, rfl, rfl, hq, he, q⟩ := h
  cases rx
  obtain ⟨t, rfl⟩ := ry
  obtain ⟨its, r, pl, hz⟩ := I.list hq
  obtain ⟨j, h1, h2, h3, h4, h5⟩ := atI_get he
  obtain ⟨w, ew, rw'⟩ := r.get h2
  have hl := r.length
  have hn := line63
  have fin : EP X pins σ Q w s := ⟨z, H, I, rw', q⟩
  by_cases h0 : 0 ≤ i
  · have hj : i.toNat = j := by
      rw [seqIndex_of h0 h5] at h1
      exact Option.some.inj h1
    exact item_listR pl.isList h0 (by omega) (by rw [hj]; simpa using ew) fin hs
  · have hj : (i + (its.toArray.size : Int)).toNat = j := by
      rw [seqIndex_neg (by omega) h4] at h1
      rw [List.size_toArray, ← hl]
      exact Option.some.inj h1
    exact subscriptTail_builtinR (x := w) pl.isList.typeIs slot_list_getitem.lookup
      (wpAny_getItem_list_neg (Q := fun r s' => r = w ∧ EP X pins σ Q r s') pl.isList (by omega) (by rw [List.size_toArray] <;> omega) (by omega) (by rw [hj]; simpa using ew) ⟨rfl, fin⟩) hs
theorem ix_tup : IxR X (rIxT X.K) := by
  intro value slice pins s σ H x y v u Q I rx ry h hs
  obtain ⟨p, xs, i, z, rfl, rfl, hq, he, q⟩ := h
  cases rx
  obtain ⟨t, rfl⟩ := ry
  obtain ⟨its, r, pl, hz⟩ := I.tuple hq
  obtain ⟨j, h1, h2, h3, h4, h5⟩ := atI_get he
  obtain ⟨w, ew, rw'⟩ := r.get h2
  have hl := r.length
  have hn := line63
  have fin : EP X pins σ Q w s := ⟨z, H, I, rw', q⟩
  exact subscriptTail_builtinR (x := w) pl.typeIs slot_tuple_getitem.lookup
    (getItem_tuple (j := j) (Q := fun r s' => r = w ∧ EP X pins σ Q r s') pl (by omega) (by omega) (by rw [List.size_toArray, ← hl]; exact h1) (by simpa using ew) ⟨rfl, fin⟩) hs
theorem ix_str : IxR X rIxS := by
  intro value slice pins s σ H x y v u Q I rx ry h hs
  obtain ⟨z, i, c, rfl, rfl, hz, he, q⟩ := h
  obtain ⟨t, rfl⟩ := rx
  obtain ⟨t', rfl⟩ := ry
  obtain ⟨j, h1, h2, h3, h4, h5⟩ := atI_get he
  have hl : z.cps.toList.length = z.length := by simp [Str.length]
  rw [hl] at h1 h4 h5
  have hn := line63
  exact tail_any (typeIs_str s z t) slot_str_getitem.lookup (getItem_str (c := c) (by
    have e1 : decide (i < -(2 ^ 63 : Int)) = false := decide_eq_false (by omega)
    have e2 : decide (i ≥ 2 ^ 63) = false := decide_eq_false (by omega)
    rw [e1, e2, Bool.or_false]) (by rw [h1]; simpa using h2) ⟨.str ⟨#[c]⟩, H, I.tok _, ⟨_, rfl⟩, q⟩) hs
theorem mapSeq_set (its : List Value) (n j : Nat) (u : Value) : Obj.mapSeq (·.setIfInBounds j u) { cls := .type "list", data := .seq its.toArray n } = { cls := .type "list", data := .seq (its.set j u).toArray n } := by
  simp [Obj.mapSeq]
theorem Inv.lst {pins : List (Addr × Obj)} {σ : St} {H : Hp} {s : Shared} {p : Addr} {xs : List V} (I : Inv X pins σ H s) (h : H p = some (.lst xs)) :
    ∃ (its : List Value) (n : Nat), Vals xs its ∧ s.heap.get? p = some { cls := .type "list", data := .seq its.toArray n } ∧ xs.length ≤ sizeLine := by
  obtain ⟨z, its, n, r, e⟩ := I.hok p _ h
  exact ⟨its, n, r, e, z⟩
theorem Inv.lstUpd {pins : List (Addr × Obj)} {σ : St} {H : Hp} {s : Shared} {p : Addr} {xs ys : List V} {its its' : List Value} {n n' : Nat} {f : Obj → Obj} (I : Inv X pins σ H s) (h : H p = some (.lst xs))
    (ho : s.heap.get? p = some { cls := .type "list", data := .seq its.toArray n }) (hf : f { cls := .type "list", data := .seq its.toArray n } = { cls := .type "list", data := .seq its'.toArray n' }) (r : Vals ys its') (hz : ys.length ≤ sizeLine) (t : Nat) :
    Inv X pins σ (upd H p (.lst ys)) { s with heap := s.heap.update p f, toks := t } := by
  have e : (s.heap.update p f).get? p = some { cls := .type "list", data := .seq its'.toArray n' } := by
    rw [Heap.get?_update_self f ho (by rw [hf] <;> rfl), hf]
  refine I.write (x := p) (e := p) (by rw [h]; trivial) (.inl rfl) (fun b u hb q => (Heap.get?_update_other _ _ (Ne.symm hb)).trans q) ⟨_, e⟩ ?_
  exact ⟨hz, its', n', r, e⟩
def rSetL : V → V → V → Hp → (Hp → Prop) → Prop := fun o i v H Q => ∃ p xs k j, o = .ref p ∧ i = .int k ∧ H p = some (.lst xs) ∧ ixN xs.length k = some j ∧ Q (upd H p (.lst (xs.set j v)))
theorem set_list : PSet X rSetL := by
  intro pins s σ H o i v ov iv u Q I ro ri rv h
  obtain ⟨p, xs, k, j, rfl, rfl, hp, hj, q⟩ := h
  cases ro
  obtain ⟨t, rfl⟩ := ri
  obtain ⟨its, n, r, ho, hz⟩ := I.lst hp
  obtain ⟨h1, h2, h3, h4⟩ := ixN_seq hj
  have hl := r.length
  have hn := line63
  have I' : Inv X pins σ (upd H p (.lst (xs.set j v))) { s with heap := s.heap.update p (Obj.mapSeq (·.setIfInBounds j u)) } :=
    I.lstUpd hp ho (mapSeq_set its n j u) (r.set rv j) (by rw [List.length_set]; exact hz) s.toks
  by_cases h0 : 0 ≤ k
  · have hk : k.toNat = j := by
      rw [seqIndex_of h0 h4] at h1
      exact Option.some.inj h1
    exact PySem.W.ki_setAt ho h0 (by omega) (by rw [List.size_toArray, ← hl]; exact h4) (by rw [hk]; exact ⟨_, I', q⟩)
  · have hk : (k + (its.toArray.size : Int)).toNat = j := by
      rw [seqIndex_neg (by omega) h3] at h1
      rw [List.size_toArray, ← hl]
      exact Option.some.inj h1
    exact PySem.W.ki_setBack ho (by omega) (by rw [List.size_toArray, ← hl]; exact h3) (by omega) (by rw [hk]; exact ⟨_, I', q⟩)

theorem slice_bounds (lo hi : Option Int) (n : Nat) : (sliceBounds lo hi none n).1 = ((HT.sIx n 0 lo : Nat) : Int) ∧ (sliceBounds lo hi none n).2.1 = ((HT.sIx n n hi : Nat) : Int) ∧ (sliceBounds lo hi none n).2.2 = 1 := by
  refine ⟨?_, ?_, rfl⟩
  · cases lo with
    | none => simp [sliceBounds, HT.sIx]
    | some i =>
      simp only [sliceBounds, HT.sIx, Option.getD_none, show (1 : Int) > 0 by decide, if_true]
      by_cases h : i < 0
      · simp only [h, if_true] <;> omega
      · simp only [h, if_false] <;> omega
  · cases hi with
    | none => simp [sliceBounds, HT.sIx]
    | some i =>
      simp only [sliceBounds, HT.sIx, Option.getD_none, show (1 : Int) > 0 by decide, if_true]
      by_cases h : i < 0
      · simp only [h, if_true] <;> omega
      · simp only [h, if_false] <;> omega
theorem slicePick_cut (its : List Value) (lo hi : Option Int) : slicePick its.toArray lo hi none = ((its.drop (HT.sIx its.length 0 lo)).take (HT.sIx its.length its.length hi - HT.sIx its.length 0 lo)).toArray := by
  obtain ⟨h1, h2, h3⟩ := slice_bounds lo hi its.toArray.size
  unfold slicePick
  rw [h1, h2, h3]
  simp only [sliceRange_one, pick_run, List.size_toArray] <;> rfl
def rSlL (K : PySem.W.Frag) : V → Option Int → Option Int → Hp → VK → Prop := fun x lo hi H Q => ∃ a xs, x = .ref a ∧ SqL K H a xs ∧ ∀ p, H p = none → Q (.ref p) (upd H p (.lst (cutV xs lo hi)))
theorem sl_list : SlR X (rSlL X.K) := by
  intro pins s σ H x v vl vu lo hi sl Q I rx hs pl pu h
  obtain ⟨a, xs, rfl, hx, q⟩ := h
  cases rx
  obtain ⟨its, r, ht, hz⟩ := I.list hx
  have hlen := r.length
  refine ⟨"list", _, slot_list_getitem.lookup, ht.isList.typeIs, ?_⟩
  refine wpAny_getItem_list_slice ht.isList hs pl pu .none (by simp) ?_ (by rw [List.size_toArray] <;> omega)
  rw [slicePick_cut, ← hlen]
  refine ⟨.ref s.heap.objs.size, _, I.laid (t' := s.toks) (o := .lst (cutV xs lo hi)) (fun b ob q => Heap.get?_push_of_some _ q) (Nat.le_refl _) ?_, rfl, q _ (I.hok.fresh (Nat.le_refl _))⟩
  exact ⟨Nat.le_trans (cutV_length xs lo hi) hz, _, 0, (r.drop (HT.sIx xs.length 0 lo)).take (HT.sIx xs.length xs.length hi - HT.sIx xs.length 0 lo), Heap.get?_push_size _ rfl⟩

def flatV : V → Bool
  | .non => true
  | .bl _ => true
  | .int _ => true
  | .str _ => true
  | _ => false
def eqV : V → V → Bool
  | .non, .non => true
  | .bl a, .bl b => a == b
  | .bl a, .int b => (if a then 1 else 0) == b
  | .int a, .bl b => a == (if b then 1 else 0)
  | .int a, .int b => a == b
  | .str a, .str b => a == b
  | _, _ => false
theorem eqAt_V {A : Around} {s : Shared} {y x : V} {u v : Value} (ry : RelV y u) (rx : RelV x v) (fy : flatV y = true) (fx : flatV x = true) : SeqAt.EqAt A s u v (eqV y x) := by
  cases y with
  | non =>
    cases ry
    cases x with
    | non => cases rx; exact SeqAt.EqAt.same _
    | bl b => cases rx; exact SeqAt.EqAt.none_bool b
    | int b => obtain ⟨t, rfl⟩ := rx; exact SeqAt.EqAt.none_int b t
    | str b => obtain ⟨t, rfl⟩ := rx; exact SeqAt.EqAt.none_str b t
    | _ => exact absurd (show false = true from fx) Bool.false_ne_true
  | bl a =>
    cases ry
    cases x with
    | non => cases rx; exact SeqAt.EqAt.bool_none a
    | bl b => cases rx; exact SeqAt.EqAt.bool_bool a b
    | int b => obtain ⟨t, rfl⟩ := rx; exact SeqAt.EqAt.bool_int a b t
    | str b => obtain ⟨t, rfl⟩ := rx; exact SeqAt.EqAt.bool_str a b t
    | _ => exact absurd (show false = true from fx) Bool.false_ne_true
  | int a =>
    obtain ⟨t', rfl⟩ := ry
    cases x with
    | non => cases rx; exact SeqAt.EqAt.int_none a t'
    | bl b => cases rx; exact SeqAt.EqAt.int_bool a t' b
    | int b => obtain ⟨t, rfl⟩ := rx; exact SeqAt.EqAt.int_int a t' b t
    | str b => obtain ⟨t, rfl⟩ := rx; exact SeqAt.EqAt.int_str a t' b t
    | _ => exact absurd (show false = true from fx) Bool.false_ne_true
  | str a =>
    obtain ⟨t', rfl⟩ := ry
    cases x with
    | non => cases rx; exact SeqAt.EqAt.str_none a t'
    | bl b => cases rx; exact SeqAt.EqAt.str_bool a t' b
    | int b => obtain ⟨t, rfl⟩ := rx; exact SeqAt.EqAt.str_int a t' b t
    | str b => obtain ⟨t, rfl⟩ := rx; exact SeqAt.EqAt.str_str a t' b t
    | _ => exact absurd (show false = true from fx) Bool.false_ne_true
  | _ => exact absurd (show false = true from fy) Bool.false_ne_true
def eqU (x : V) (u : Value) : Bool := match u with
  | .none => eqV .non x
  | .bool b => eqV (.bl b) x
  | .int i _ => eqV (.int i) x
  | .str z _ => eqV (.str z) x
  | _ => false
theorem eqU_of {x y : V} {u : Value} (r : RelV y u) (f : flatV y = true) : eqU x u = eqV y x := by
  cases y with
  | non => cases r; rfl
  | bl b => cases r; rfl
  | int i => obtain ⟨t, rfl⟩ := r; rfl
  | str z => obtain ⟨t, rfl⟩ := r; rfl
  | _ => exact absurd (show false = true from f) Bool.false_ne_true
theorem any_eqU {x : V} : ∀ {xs : List V} {us : List Value}, Vals xs us → xs.all flatV = true → us.any (eqU x) = xs.any fun y => eqV y x
  | _, _, .nil, _ => rfl
  | y :: xs, u :: us, .cons r t, f => by
    rw [List.all_cons, Bool.and_eq_true] at f
    rw [List.any_cons, List.any_cons, eqU_of r f.1, any_eqU t f.2]
theorem mem_eqAt {A : Around} {s : Shared} {x : V} {v : Value} (rx : RelV x v) (fx : flatV x = true) : ∀ {xs : List V} {us : List Value}, Vals xs us → xs.all flatV = true → ∀ u ∈ us, SeqAt.EqAt A s u v (eqU x u)
  | _, _, .nil, _ => fun u hu => by cases hu
  | y :: xs, u :: us, .cons r t, f => fun u' hu => by
    rw [List.all_cons, Bool.and_eq_true] at f
    rcases List.mem_cons.mp hu with rfl | hu
    · rw [eqU_of r f.1]; exact eqAt_V r rx f.1 fx
    · exact mem_eqAt rx fx t f.2 u' hu
def inV (x : V) (xs : List V) : Bool := xs.any fun y => eqV y x
def rIn (K : PySem.W.Frag) (neg : Bool) : R2 := fun x y H Q => ∃ p xs, y = .ref p ∧ (SqL K H p xs ∨ SqT K H p xs) ∧ flatV x = true ∧ xs.all flatV = true ∧ Q (.bl (if neg then !inV x xs else inV x xs)) H
theorem op_notIn_seq : OpR X (compareOp .NotIn) (rIn X.K true) := by
  intro pins s σ H x y v u Q I rx ry h
  obtain ⟨p, xs, rfl, hq, fx, fs, q⟩ := h
  cases ry
  rcases hq with hq | hq
  · obtain ⟨its, r, pl, hz⟩ := I.list hq
    refine SeqAt.notIn_listAt (eqU x) pl.isList (fun w hw => mem_eqAt rx fx r fs w (by simpa using hw)) ⟨.bl _, H, I, rfl, ?_⟩
    rw [show its.toArray.any (eqU x) = its.any (eqU x) by simp, any_eqU r fs]
    exact q
  · obtain ⟨its, r, pl, hz⟩ := I.tuple hq
    refine SeqAt.notIn_tupleAt (eqU x) pl (fun w hw => mem_eqAt rx fx r fs w (by simpa using hw)) ⟨.bl _, H, I, rfl, ?_⟩
    rw [show its.toArray.any (eqU x) = its.any (eqU x) by simp, any_eqU r fs]
    exact q
theorem call_len_seq : CallR X (.builtin "len") (fun xs H Q => ∃ p ys, xs = [.ref p] ∧ (SqL X.K H p ys ∨ SqT X.K H p ys) ∧ Q (.int ys.length) H) := by
  intro pins s σ H xs us Q I r h
  obtain ⟨p, ys, rfl, hq, q⟩ := h
  obtain ⟨u, rfl, rx⟩ := vals1 r
  cases rx
  have hn := line63
  rcases hq with hq | hq
  · obtain ⟨its, r', pl, hz⟩ := I.list hq
    have hlen := r'.length
    exact Calls.call_len_list pl.isList (by simp only [List.size_toArray] <;> omega) ⟨.int ys.length, H, I.tok _, ⟨s.toks + 1, by rw [List.size_toArray, hlen]⟩, q⟩
  · obtain ⟨its, r', pl, hz⟩ := I.tuple hq
    have hlen := r'.length
    exact len_tuple pl (by simp only [List.size_toArray] <;> omega) ⟨.int ys.length, H, I.tok _, ⟨s.toks + 1, by rw [List.size_toArray, hlen]⟩, q⟩
theorem call_len_str : CallR X (.builtin "len") (fun xs H Q => ∃ z, xs = [.str z] ∧ z.length ≤ sizeLine ∧ Q (.int z.length) H) := by
  intro pins s σ H xs us Q I r h
  obtain ⟨z, rfl, hz, q⟩ := h
  obtain ⟨u, rfl, t, rfl⟩ := vals1 r
  have hn := line63
  exact len_str (by omega) ⟨.int z.length, H, I.tok _, ⟨_, rfl⟩, q⟩
theorem call_list_of : CallR X (.type "list") (fun xs H Q => ∃ p ys, xs = [.ref p] ∧ (SqL X.K H p ys ∨ SqT X.K H p ys) ∧ ∀ l, H l = none → Q (.ref l) (upd H l (.lst ys))) := by
  intro pins s σ H xs us Q I r h
  obtain ⟨p, ys, rfl, hq, q⟩ := h
  obtain ⟨u, rfl, rx⟩ := vals1 r
  cases rx
  have fin : ∀ (its : List Value), Vals ys its → ys.length ≤ sizeLine → ∀ (h' : Heap) (c' : Nat), (∀ b o', s.heap.get? b = some o' → h'.get? b = some o') →
      h'.get? s.heap.objs.size = some { cls := .type "list", dict := none, data := .seq its.toArray c', slots := #[] } → EP X pins σ Q (.ref s.heap.objs.size) { s with heap := h' } := fun its r' hz h' c' kp e =>
    ⟨.ref s.heap.objs.size, _, I.laid (t' := s.toks) kp (Nat.le_refl _) (show ObjOk X.prog X.w _ h' _ (.lst ys) from ⟨hz, its, c', r', e⟩), rfl, q _ (I.hok.fresh (Nat.le_refl _))⟩
  rcases hq with hq | hq
  · obtain ⟨its, r', pl, hz⟩ := I.list hq
    have hlen := r'.length
    obtain ⟨o, ho, hc, n, hd⟩ := pl.isList
    exact call_list_seq p (.inl rfl) ho hc hd (fun h' c' kp e => fin its r' hz h' c' kp e) (by simp only [List.size_toArray] <;> omega)
  · obtain ⟨its, r', pl, hz⟩ := I.tuple hq
    have hlen := r'.length
    obtain ⟨o, ho, hc, n, hd⟩ := pl
    exact call_list_seq p (.inr rfl) ho hc hd (fun h' c' kp e => fin its r' hz h' c' kp e) (by simp only [List.size_toArray] <;> omega)
def tyV (K : PySem.W.Frag) (T : String) (x : V) (H : Hp) : Prop := match x with
  | .str _ => T = "str"
  | .int _ => T = "int"
  | .ref p => (T = "list" ∧ ∃ xs, SqL K H p xs) ∨ (T = "tuple" ∧ ∃ o, K.lookup p = some o ∧ o.cls = .type "tuple" ∧ o.dict = none) ∨
      (T = "dict" ∧ ((∃ kvs, H p = some (.dK kvs)) ∨ ∃ kvs, H p = some (.dT kvs))) ∨ (T = "set" ∧ ∃ S n, H p = some (.set S n))
  | _ => False
theorem tyV_is {pins : List (Addr × Obj)} {σ : St} {H : Hp} {s : Shared} {T : String} {x : V} {v : Value} (I : Inv X pins σ H s) (r : RelV x v) (ty : tyV X.K T x H) :
    s.TypeIs v T ∧ ∀ a, v = .ref a → ∃ ob, s.heap.get? a = some ob ∧ ob.dict = none := by
  cases x with
  | str z =>
    obtain ⟨t, rfl⟩ := r
    cases (show T = "str" from ty)
    exact ⟨typeIs_str s z t, fun _ e => nomatch e⟩
  | int i =>
    obtain ⟨t, rfl⟩ := r
    cases (show T = "int" from ty)
    exact ⟨typeIs_int s i t, fun _ e => nomatch e⟩
  | ref p =>
    cases r
    rcases ty with ⟨rfl, xs, hq⟩ | ⟨rfl, o, hk, hc, hd⟩ | ⟨rfl, hk⟩ | ⟨rfl, S, n, hk⟩
    · obtain ⟨its, _, pl, _⟩ := I.list hq
      refine ⟨pl.isList.typeIs, fun a e => ?_⟩
      cases e
      obtain ⟨o, n, e, c, hd, _⟩ := pl
      exact ⟨o, e, hd⟩
    · refine ⟨⟨o, I.kIn p o hk, hc⟩, fun a e => ?_⟩
      cases e
      exact ⟨o, I.kIn _ o hk, hd⟩
    · have z : ∃ o, s.heap.get? p = some o ∧ o.ExactDict := by
        rcases hk with ⟨kvs, hk⟩ | ⟨kvs, hk⟩
        · obtain ⟨_, _, _, _, o, _, _, e, ex, _⟩ := I.hok p _ hk
          exact ⟨o, e, ex⟩
        · obtain ⟨_, _, _, _, o, _, _, e, ex, _⟩ := I.hok p _ hk
          exact ⟨o, e, ex⟩
      obtain ⟨o, e, ex⟩ := z
      refine ⟨⟨o, e, ex.1⟩, fun a e2 => ?_⟩
      cases e2
      exact ⟨o, e, ex.2.1⟩
    · obtain ⟨o, _, _, _, e, ex, _⟩ := I.hok p _ hk
      refine ⟨⟨o, e, ex.1⟩, fun a e2 => ?_⟩
      cases e2
      exact ⟨o, e, ex.2.1⟩
  | _ => exact False.elim ty
def tBM (K : PySem.W.Frag) (T : String) (r : V → List V → Hp → VK → Prop) (to : TE) (t : TA) : TE := fun σ H Q => to σ H fun x H1 => tyV K T x H1 ∧ t σ H1 fun xs H2 => r x xs H2 Q
variable {o e : Expr} {es : List Expr} {to : TE} {t : TA} {name : Str} {apos cpos : Pos} {T id : String} {r : V → List V → Hp → VK → Prop}
theorem pe_bm (pa : PlainAttrs T) (slot : Slot T name id) (hty : typeOf (.builtin id) = pure (.type "method_descriptor")) (hm : MtR X id r) (ho : PE X o to) (ha : PA X (e :: es) t)
    (hbase : attributeBase o name X.env (eval o X.env) = eval o X.env := by rfl)
    (hfew : ((backTo cpos (starEach (e :: es) X.env)).all (fun x => !x.1) && (backToKw cpos (keywordEach [] X.env)).all (fun x => x.1.isSome)
      && decide ((e :: es).length + ([] : List Keyword).length + (if ([] : List Keyword).isEmpty then 0 else 1) < 30)) = true := by rfl)
    (hline : (apos.endLine == cpos.line) = true := by rfl) (hs : starEach (e :: es) X.env = (false, eval e X.env) :: starEach es X.env := by rfl) (hplain : (backTo cpos (starEach es X.env)).any (·.1) = false := by rfl) :
    PE X (.Call (.Attribute o name apos) (e :: es) [] cpos) (tBM X.K T r to t) := by
  intro pins s σ H Q I h
  refine wpAny_Call_method_late hbase hfew hline rfl (thn (ho pins s σ H _ I h) fun v s1 ⟨x, H1, I1, r1, ty, q1⟩ => ?_)
  obtain ⟨h1, h2⟩ := tyV_is I1 r1 ty
  refine ⟨T, id, pa, slot, hty, h1, h2, ?_⟩
  have hA := ha cpos pins s1 σ H1 _ I1 q1
  rw [hs] at hA ⊢
  refine Calls.callWith_builtin (by show (false || (backTo cpos (starEach es X.env)).any (·.1)) = false; rw [hplain] <;> rfl) (Calls.evalArgs_plain ?_)
  exact thn hA fun us s2 ⟨vs, H2, I2, r2, q2⟩ => hm pins s2 σ H2 x vs v us Q I2 r1 r2 q2
end
end L2

namespace L2
open PySem PySem.Spec PyProof.Rows

def MtM (X : Cx) (id : String) (r : V → List V → Hp → VK → Prop) : Prop :=
  ∀ (pins : List (Addr × Obj)) (s : Shared) (σ : St) (H : Hp) (x : V) (xs : List V) (v : Value) (us : List Value) (Q : VK), Inv X pins σ H s → RelV x v → Vals xs us → r x xs H Q →
    wpAny (model X.prog X.w) X.A (call (.builtin id) (v :: us)) (EP X pins σ Q) X.xe s

theorem Vals.one : ∀ {x : V} {us : List Value}, Vals [x] us → ∃ u, us = [u] ∧ RelV x u
  | _, _, .cons r .nil => ⟨_, rfl, r⟩
theorem Vals.two : ∀ {x y : V} {us : List Value}, Vals [x, y] us → ∃ u v, us = [u, v] ∧ RelV x u ∧ RelV y v
  | _, _, _, .cons r (.cons q .nil) => ⟨_, _, rfl, r, q⟩
theorem Vals.rep {xs : List V} {us : List Value} (h : Vals xs us) : ∀ k : Nat, Vals (List.replicate k xs).flatten (List.replicate k us).flatten
  | 0 => .nil
  | k + 1 => by
    rw [List.replicate_succ, List.replicate_succ, List.flatten_cons, List.flatten_cons]
    exact Vals.append h (Vals.rep h k)
theorem foldl_rep (its : List Value) : ∀ (k : Nat) (acc : List Value),
    List.foldl (fun x1 x2 => x1 ++ x2) acc.toArray (List.replicate k its.toArray) = (acc ++ (List.replicate k its).flatten).toArray
  | 0, acc => by simp
  | k + 1, acc => by
    have e : acc.toArray ++ its.toArray = (acc ++ its).toArray := by simp
    have e2 : (acc ++ its) ++ (List.replicate k its).flatten = acc ++ (List.replicate (k + 1) its).flatten := by
      rw [List.replicate_succ, List.flatten_cons, List.append_assoc]
    rw [← e2, ← foldl_rep its k (acc ++ its), ← e, List.replicate_succ, List.foldl_cons]

section
variable {X : Cx} {pins : List (Addr × Obj)} {σ : St} {H : Hp} {s : Shared} {l b : Addr} {xs ys zs : List V}

theorem Inv.lset {its its' : List Value} {n : Nat} {f : Array Value → Array Value} {t' : Nat} (I : Inv X pins σ H s) (hH : H l = some (.lst xs))
    (e : s.heap.get? l = some { cls := .type "list", data := .seq its.toArray n }) (hf : f its.toArray = its'.toArray) (hv : Vals ys its') (hz : ys.length ≤ sizeLine) :
    Inv X pins σ (upd H l (.lst ys)) { s with heap := s.heap.update l (Obj.mapSeq f), toks := t' } := by
  have q := PySem.IsL.update e f
  rw [hf] at q
  refine I.write (x := l) (e := l) (by rw [hH]; exact trivial) (.inl rfl) (fun b' u hb hu => (Heap.get?_update_other s.heap (Obj.mapSeq f) (Ne.symm hb)).trans hu) ⟨_, q⟩ ?_
  exact ⟨hz, its', _, hv, q⟩
theorem Inv.lnew {its : List Value} {t' : Nat} (I : Inv X pins σ H s) (hv : Vals ys its) (hz : ys.length ≤ sizeLine) :
    Inv X pins σ (upd H s.heap.objs.size (.lst ys)) { s with heap := s.heap.push { cls := .type "list", data := .seq its.toArray }, toks := t' } :=
  I.laid (fun _ _ q => Heap.get?_push_of_some _ q) (Nat.le_refl _) ⟨hz, its, 0, hv, Heap.get?_push_size _ rfl⟩
theorem Inv.fresh (I : Inv X pins σ H s) : H s.heap.objs.size = none := I.hok.fresh (Nat.le_refl _)
theorem Inv.lstM (I : Inv X pins σ H s) (hH : H l = some (.lst xs)) : xs.length ≤ sizeLine ∧ ∃ (its : List Value) (n : Nat), Vals xs its ∧ xs.length = its.length ∧ s.heap.get? l = some { cls := .type "list", data := .seq its.toArray n } := by
  obtain ⟨z, its, n, r, e⟩ := I.hok l _ hH
  exact ⟨z, its, n, r, r.length, e⟩

theorem notLongL {n : Nat} (h : n ≤ sizeLine) : Builtin.List.listTooLong n = false := by
  unfold Builtin.List.listTooLong
  exact decide_eq_false (by omega)
end

section
variable {X : Cx}

def rAppend : V → List V → Hp → VK → Prop := fun x vs H Q => ∃ l xs y, x = .ref l ∧ vs = [y] ∧ H l = some (.lst xs) ∧ xs.length < sizeLine ∧ Q .non (upd H l (.lst (xs ++ [y])))
theorem mt_append : MtM X "list.append" rAppend := by
  intro pins s σ H x vs v us Q I rx rv h
  obtain ⟨l, xs, y, rfl, rfl, hH, hz, q⟩ := h
  cases rx
  obtain ⟨u, rfl, ru⟩ := rv.one
  obtain ⟨z, its, n, r, hl, e⟩ := I.lstM hH
  refine call_meets F.slot_list_append ⟨_, e, rfl⟩ F.entry_list_append (F.args_list_append_2 _ _) (PySem.list_append l its.toArray n u (by rw [List.size_toArray]; omega)) ⟨e, ?_⟩
  refine ⟨.non, _, I.lset (its' := its ++ [u]) hH e (by simp) (r.append (.cons ru .nil)) ?_, rfl, q⟩
  rw [List.length_append, List.length_singleton]
  omega

def rExtend : V → List V → Hp → VK → Prop := fun x vs H Q => ∃ l b xs zs, x = .ref l ∧ vs = [.ref b] ∧ H l = some (.lst xs) ∧ H b = some (.lst zs) ∧ xs.length + zs.length ≤ sizeLine ∧ Q .non (upd H l (.lst (xs ++ zs)))
theorem mt_extend : MtM X "list.extend" rExtend := by
  intro pins s σ H x vs v us Q I rx rv h
  obtain ⟨l, b, xs, zs, rfl, rfl, hH, hB, hz, q⟩ := h
  cases rx
  obtain ⟨u, rfl, ru⟩ := rv.one
  cases ru
  obtain ⟨z, its, n, r, hl, e⟩ := I.lstM hH
  obtain ⟨z2, its2, n2, r2, hl2, e2⟩ := I.lstM hB
  have hsz : its.toArray.size + its2.toArray.size ≤ sizeLine := by rw [List.size_toArray, List.size_toArray]; omega
  have hlong : ¬ (!its.toArray.isEmpty && Builtin.List.listTooLong (its.toArray.size + its2.toArray.size)) = true := by
    rw [notLongL hsz, Bool.and_false]
    exact Bool.false_ne_true
  refine call_meets F.slot_list_extend ⟨_, e, rfl⟩ F.entry_list_extend (F.args_list_extend_2 _ _)
    (AutoSeq1.list_extend_list_list_0 l its.toArray n b its2.toArray n2 hlong (by rw [List.size_toArray]; omega) (by omega)) ⟨e, e2, ?_⟩
  refine ⟨.non, _, I.lset (its' := its ++ its2) hH e (by simp) (r.append r2) ?_, rfl, q⟩
  rw [List.length_append]
  omega

def rCat : R2 := fun x y H Q => ∃ l b xs zs, x = .ref l ∧ y = .ref b ∧ H l = some (.lst xs) ∧ H b = some (.lst zs) ∧ xs.length + zs.length ≤ sizeLine ∧ ∀ p, H p = none → Q (.ref p) (upd H p (.lst (xs ++ zs)))
theorem op_cat : OpR X (binaryOp .Add) rCat := by
  intro pins s σ H x y v u Q I rx ry h
  obtain ⟨l, b, xs, zs, rfl, rfl, hH, hB, hz, q⟩ := h
  cases rx
  cases ry
  obtain ⟨z, its, n, r, hl, e⟩ := I.lstM hH
  obtain ⟨z2, its2, n2, r2, hl2, e2⟩ := I.lstM hB
  refine PySem.P.add_list e e2 ?_ (by rw [List.size_toArray, List.size_toArray]; omega)
  have ea : its.toArray ++ its2.toArray = (its ++ its2).toArray := by simp
  rw [ea]
  exact ⟨.ref _, _, I.lnew (t' := s.toks) (r.append r2) (by rw [List.length_append]; omega), rfl, q _ I.fresh⟩
def rRep : R2 := fun x y H Q => ∃ l k xs, x = .ref l ∧ y = .int k ∧ H l = some (.lst xs) ∧ -(2 ^ 63) ≤ k ∧ k < 2 ^ 63 ∧ xs.length * k.toNat ≤ sizeLine ∧
  ∀ p, H p = none → Q (.ref p) (upd H p (.lst (List.replicate k.toNat xs).flatten))
theorem len_rep {α : Type} (xs : List α) (k : Nat) : (List.replicate k xs).flatten.length = k * xs.length := by
  induction k with
  | zero => simp
  | succ k ih => rw [List.replicate_succ, List.flatten_cons, List.length_append, ih, Nat.succ_mul, Nat.add_comm]
theorem op_rep : OpR X (binaryOp .Mult) rRep := by
  intro pins s σ H x y v u Q I rx ry h
  obtain ⟨l, k, xs, rfl, rfl, hH, h1, h2, hz, q⟩ := h
  cases rx
  obtain ⟨t, rfl⟩ := ry
  obtain ⟨z, its, n, r, hl, e⟩ := I.lstM hH
  have hlen : its.toArray.size * k.toNat ≤ sizeLine := by rw [List.size_toArray, ← hl]; exact hz
  have hcap : ¬ its.toArray.size * k.toNat > (2 ^ 63 - 1) / 8 := by
    have : (sizeLine : Nat) ≤ (2 ^ 63 - 1) / 8 := by decide
    omega
  have hfit : ¬ (!Builtin.List.listFitsIndex k) = true := by
    rw [fitsIndex_both h1 h2]
    exact Bool.false_ne_true
  have hlong : ¬ Builtin.List.listTooLong (its.toArray.size * k.toNat) = true := by
    rw [notLongL hlen]
    exact Bool.false_ne_true
  have hnew : List.foldl (fun x1 x2 => x1 ++ x2) #[] (List.replicate (if its.toArray.isEmpty = true then 0 else k.toNat) its.toArray) = (List.replicate k.toNat its).flatten.toArray := by
    have f0 : ∀ m : Nat, List.foldl (fun x1 x2 => x1 ++ x2) #[] (List.replicate m its.toArray) = (List.replicate m its).flatten.toArray := fun m => by
      have := foldl_rep its m []
      rw [List.nil_append] at this
      exact this
    rw [f0]
    cases its with
    | nil => simp
    | cons a r' => rw [if_neg (by simp)]
  refine wpAny_binaryOp_repeat_ref (T := "list") (U := "int") (by decide) ⟨_, e, rfl⟩ (fun s' => typeIs_int s' k t) noFill_list_mul F.fills_int_mul F.slot_int_rmul repeat_list F.slot_int_index.lookup
    (call_meets F.slot_int_rmul (typeIs_int s k t) F.entry_int_rmul (F.args_int_rmul_2 _ _) (int___rmul___int_list k t l its.toArray n)
      ⟨e, rfl, ⟨_, e, rfl⟩, call_meets F.slot_list_mul ⟨_, e, rfl⟩ F.entry_list_mul (F.args_list_mul_2 _ _) (AutoListH.list___mul___list_int_3 l its.toArray n k t hfit hcap hlong) ⟨e, ?_⟩⟩)
  rw [hnew]
  exact ⟨.ref _, _, I.lnew (t' := s.toks) (r.rep k.toNat) (by rw [len_rep, Nat.mul_comm]; exact hz), rfl, q _ I.fresh⟩

end

section
variable {prog : Program} {w : World} {A : Around} {E : Value → Shared → Prop} {s : Shared}
end

section
variable {X : Cx}
end
end L2

namespace Att
open PySem PySem.W PySem.Calls PyProof.Rows

theorem ints_of_wellAll {P : Params} {h : Heap} : ∀ (ns : List Int) (vs : List Value), WellAll P h vs (ns.map WData.int) → IntsAre vs ns := by
  intro ns
  induction ns with
  | nil =>
    intro vs w
    rw [List.map_nil] at w
    cases w
    exact .nil
  | cons n ns ih =>
    intro vs w
    rw [List.map_cons] at w
    cases w with
    | cons a b =>
      cases a
      exact .cons _ _ (ih _ b)

theorem script_of {l : OpenLaw} {n : Nat} (hn : l.most = some n) {P : Params} {h : Heap} {args : List WData} {vals : List Value}
    (hpre : l.row.toRowW.claim.pre args = true) (hwl : WellAll P h vals args) :
    ∃ a vs ns, vals = [Value.ref a] ∧ args = [WData.list (ns.map WData.int)] ∧ h.get? a = some { cls := .type "list", data := .seq vs.toArray } ∧ IntsAre vs ns ∧ ns.length ≤ n := by
  have hsh : WShape.hasAll [] args [.list .int] = true := (pre_splitW hpre).1
  have hc : l.pre.holds [] { args := args } = true := (pre_splitW hpre).2
  obtain ⟨d, r, rfl, h1, h2⟩ := hasAllW_cons hsh
  obtain rfl := hasAllW_nil h2
  obtain ⟨xs, rfl, h3⟩ := hasW_list h1
  obtain ⟨ns, rfl⟩ := items_int h3
  have hlen : ns.length ≤ n := by
    unfold OpenLaw.pre at hc
    have h4 : (WTm.not (.lt (.lit (.int (n : Int))) (.len (.arg 0)))).holds [] { args := [.list (ns.map .int)] } = true := by
      have h4 := (holds_andW hc).1
      rw [hn] at h4
      exact h4
    have h5 := condW_of h4 (w_not (w_lt w_lit (w_len_list (w_arg rfl))))
    rw [List.length_map] at h5
    refine Nat.le_of_not_lt fun q => ?_
    have q' : (n : Int) < ((ns.length : Nat) : Int) := by omega
    first
      | (rw [decide_eq_true q'] at h5; exact absurd h5 (by decide))
      | (simp at h5; omega)
  cases hwl with
  | cons w1 w2 =>
    cases w2
    cases w1 with
    | list ho hall => exact ⟨_, _, ns, rfl, rfl, ho, ints_of_wellAll ns _ hall, hlen⟩

theorem post_true (l : OpenLaw) (args : List WData) : l.row.toRowW.claim.post args (.bool true) args = true :=
  postW_of (r := l.row.toRowW) (X := (true == true))
    (show WShape.has [] (.bool true) .bool = true by first | rfl | decide | simp [WShape.has, WShape.arms, WShape.armsAll])
    (show (WTm.eq .res (.lit (.bool true))).value [] { args := args, res := some (.bool true), after := args } = some (.bool (true == true)) from w_eq_bool (w_res rfl) w_lit) rfl

theorem attach_call {l : OpenLaw} {n : Nat} {q : Program} {loose : List Str} {XP : (Str → Option Value) → Heap → Prop} {YP : World → Heap → Prop} {d : DefRec}
    (hn : l.most = some n) (hdf : d.params.defaults = [])
    (call : ∀ (w : World) (s₀ s₁ : Shared) (mg mb : Str → Option Value) (fa : Addr) (o : Obj) (pm cd doc : Value) (a : Addr) (vs : List Value) (ns : List Int),
      Ground q loose [] XP w s₀ mg mb s₁.heap → YP w s₁.heap →
      s₁.heap.get? fa = some o → o.data = .func (docDef d.name d.params d.body d.scope pm cd doc) → s₁.heap.CodeRec cd d.name → mg d.name = some (.ref fa) →
      s₁.heap.get? a = some { cls := .type "list", data := .seq vs.toArray } → IntsAre vs ns → ns.length ≤ n → s₁.gens = #[] →
      codeAny (model l.prog w) callerA (.call (.ref fa) ⟨[.ref a], []⟩) (fun r s' => r = .ok (.ret (.bool true)) ∧ OldK s₁.heap s'.heap ∧ s'.os = s₁.os ∧ AllBare s'.gens) s₁) :
    WalkO q loose XP YP l.row.toRowW d [] (fun f vs => PySem.call f vs) := by
  intro w s₀ s₁ mg mb G Y fa o pm cd doc dV kV ho hd hcd hD hmg hg args vals as hpre hlay hrd hwl hlo
  obtain rfl : dV = .none := Dflts.none hD hdf
  obtain rfl : kV = .none := Dflts.noKw hD
  obtain ⟨a, vs, ns, rfl, rfl, hobj, hints, hlen⟩ := script_of hn hpre hwl
  refine enter_call (codeAny_mono (call w s₀ s₁ mg mb fa o pm cd doc a vs ns G Y ho (fd_plain hd) hcd hmg hobj hints hlen hg) fun r s' hq => ?_)
  obtain ⟨rfl, h2, h3, h4⟩ := hq
  exact ⟨.inl ⟨.bool true, .bool true, [], rfl, fun _ => rfl, .bool true, post_true l _, fun _ => ⟨List.Pairwise.nil, fun _ hm => (nomatch hm)⟩⟩, h2, h3, h4⟩

section
variable {prog : Program} {w : World} {A : Around} {E : Value → Shared → Prop} {s : Shared} {K : Frag}

end
end Att

namespace L2
open PySem PySem.Spec PyProof.Rows

theorem vals_ints : ∀ {vs : List Value} {ns : List Int}, IntsAre vs ns → Vals (ns.map V.int) vs
  | _, _, .nil => .nil
  | _, _, .cons n t h => .cons ⟨t, rfl⟩ (vals_ints h)

def Only (H : Hp) : Prop := ∀ b, H b = none ∨ ∃ o xs, H b = some (.frz o (.lst xs))

theorem law_call {P : Program} {w : World} {K : PySem.W.Frag} {mg mb : Str → Option Value} {CX : CXT} {k : Nat} {fa a : Addr} {fd : FuncData} {x : Str} {sp : Sp} {s₁ : Shared} {vs : List Value} {ns : List Int}
    (KX : K.In s₁.heap) (hns : s₁.heap.Ns mainGlobals mg) (hb : s₁.heap.Ns builtinsNs mb) (hbb : ∀ x : Str, x ≠ "__name__" → mb x = bootBuiltins x) (hlim : s₁.heap.NoLimit) (hg : s₁.gens = #[])
    (ha : s₁.heap.get? a = some { cls := .type "list", data := .seq vs.toArray }) (hi : IntsAre vs ns) (hl : ns.length ≤ sizeLine) (hr : Room k callerA)
    (F : ∀ base : Heap, K.In base → base.Ns mainGlobals mg → FnOk P w K mg base CX k fa fd [x] sp) (hbind : ∀ (s : Shared) (u : Value), BindsTo s fd ⟨[u], []⟩ [(x, u)])
    (hsp : ∀ H : Hp, Only H → SqL K H a (ns.map V.int) → sp [.ref a] H (fun v _ => v = .bl true) fun _ _ _ => False)
    (hCX : ∀ H e s', CX [] H s₁ (fun _ _ _ => False) e s' → False) :
    codeAny (model P w) callerA (.call (.ref fa) ⟨[.ref a], []⟩) (fun r s' => r = .ok (.ret (.bool true)) ∧ OldK s₁.heap s'.heap ∧ s'.os = s₁.os ∧ AllBare s'.gens) s₁ := by
  have rv := vals_ints hi
  have lenV := hi.length
  -- from an abstract heap in which nothing but the script may be tracked
  have core : ∀ H : Hp, Only H → SqL K H a (ns.map V.int) → HOk P w H s₁.heap → (∀ b, H b ≠ none → b = a) → (H a ≠ none → K.lookup a = none) →
      codeAny (model P w) callerA (.call (.ref fa) ⟨[.ref a], []⟩) (fun r s' => r = .ok (.ret (.bool true)) ∧ OldK s₁.heap s'.heap ∧ s'.os = s₁.os ∧ AllBare s'.gens) s₁ := by
    intro H hO hS hok hA hK
    have base_of : ∀ {b : Addr} {o : Obj}, s₁.heap.get? b = some o → H b = none → (hidT s₁.heap H).get? b = some o := fun e n => hidT_get e n
    have noA : ∀ {b : Addr} {o : Obj} {es : Array DictEntry} {ep : Nat}, s₁.heap.get? b = some o → o.data = .dict es ep → H b = none := fun {b o es ep} e d => by
      cases q : H b with
      | none => rfl
      | some u =>
        have e' : b = a := hA b (by rw [q]; simp)
        subst e'
        rw [ha] at e; cases e
        have d' : Data.seq vs.toArray _ = Data.dict es ep := d
        cases d'
    have nsK : ∀ {b : Addr} {m : Str → Option Value}, s₁.heap.Ns b m → (hidT s₁.heap H).Ns b m := fun {b m} ⟨o, es, ep, e, d, r⟩ => ⟨o, es, ep, base_of e (noA e d), d, r⟩
    have hKb : K.In (hidT s₁.heap H) := fun b o e => base_of (KX b o e) (by
      cases q : H b with
      | none => rfl
      | some u =>
        have e' : b = a := hA b (by rw [q]; simp)
        subst e'
        rw [hK (by rw [q]; simp)] at e; cases e)
    have hM : Mod K mg (hidT s₁.heap H) := ⟨hKb, nsK hns, ⟨mb, nsK hb, hbb⟩, let ⟨mc, h1, h2⟩ := hlim; ⟨mc, nsK h1, h2⟩⟩
    have e0 : Env0 P w K mg (hidT s₁.heap H) callerA [] s₁ H := ⟨rfl, hM, fun b o e => of_hidT e, Nat.le_of_eq (hidT_size _ _), trivial, fun b hb => absurd (show b ∈ ([] : List Addr) from hb) (by simp), hok, .of_eq hg⟩
    refine codeAny_mono ((F _ hKb (nsK hns)).run callerA [] s₁ H ⟨[.ref a], []⟩ [.ref a] [.ref a] _ _ hr e0 (hbind s₁ (.ref a)) (.cons rfl .nil) (hsp H hO hS)) fun r s' h => ?_
    cases r with
    | error e => exact (hCX H e s' h).elim
    | ok fl =>
      cases fl with
      | next => exact False.elim h
      | brk => exact False.elim h
      | cont => exact False.elim h
      | ret u =>
        obtain ⟨v, H', os, bare, un, hok', r', q⟩ := h
        have q' : v = .bl true := q
        subst q'
        obtain rfl : u = Value.bool true := r'
        refine ⟨rfl, OldK.of_keep fun b o e => ?_, os, bare⟩
        cases q : H b with
        | none => exact un.keep b o e q (by intro z; exact absurd (show b ∈ ([] : List Addr) from z) (by simp)) (by simp)
        | some u =>
          rcases hO b with z | ⟨ob, xs, z⟩
          · rw [q] at z; cases z
          · have z2 := un.frzs b ob _ z
            obtain ⟨e1, _⟩ := hok b _ z
            obtain ⟨e2, _⟩ := hok' b _ z2
            rw [e] at e1; cases e1
            exact e2
  cases hk : K.lookup a with
  | some o =>
    -- the script is one of the module's own objects
    have e := KX a o hk
    rw [ha] at e
    cases e
    refine core (fun _ => none) (fun _ => .inl rfl) (.inr ⟨_, vs.toArray, _, hk, rfl, rfl, rfl, by rw [List.size_toArray, lenV]; exact hl, by simpa using rv⟩) (fun b u z => by have z' : (none : Option HO) = some u := z; cases z') (fun b z => absurd rfl z) fun z => absurd rfl z
  | none =>
    refine core (fun b => if b = a then some (.frz { cls := .type "list", data := .seq vs.toArray } (.lst (ns.map V.int))) else none) (fun b => ?_) (.inl (.inr ⟨{ cls := .type "list", data := .seq vs.toArray }, if_pos rfl⟩)) (fun b u z => ?_) (fun b z => ?_) fun _ => hk
    · by_cases hb : b = a
      · exact .inr ⟨_, _, if_pos hb⟩
      · exact .inl (if_neg hb)
    · by_cases hb : b = a
      · have z' := (if_pos hb).symm.trans z
        cases z'
        subst hb
        exact ⟨ha, by rw [List.length_map]; exact hl, vs, _, rv, ha⟩
      · have z' := (if_neg hb).symm.trans z
        cases z'
    · by_cases hb : b = a
      · exact hb
      · exact absurd (if_neg hb) z
end L2

namespace L2
open PySem PySem.Spec PyProof.Rows

theorem walk_of {l : PySem.W.OpenLaw} {n k : Nat} {q : Program} {loose : List Str} {XP : (Str → Option Value) → Heap → Prop} {YP : World → Heap → Prop} {d : DefRec} {K : Params → PySem.W.Frag} {CX : World → CXT} {sp : World → Sp} {x : Str}
    (hn : l.most = some n) (hn2 : n ≤ sizeLine) (hdf : d.params.defaults = []) (hr : Room k callerA)
    (hY : ∀ (w : World) (h : Heap), YP w h → (K w.params).In h)
    (F : ∀ (w : World) (mg : Str → Option Value) (fa : Addr) (h : Heap), (K w.params).In h → h.Ns mainGlobals mg → mg d.name = some (.ref fa) →
      ∃ fd : FuncData, (∀ (s : Shared) (u : Value), BindsTo s fd ⟨[u], []⟩ [(x, u)]) ∧
        ∀ base : Heap, (K w.params).In base → base.Ns mainGlobals mg → FnOk l.prog w (K w.params) mg base (CX w) k fa fd [x] (sp w))
    (hsp : ∀ (w : World) (H : Hp) (a : Addr) (ns : List Int), ns.length ≤ n → Only H → SqL (K w.params) H a (ns.map V.int) → sp w [.ref a] H (fun v _ => v = .bl true) fun _ _ _ => False)
    (hCX : ∀ (w : World) (H : Hp) (s : Shared) (e : Value) (s' : Shared), CX w [] H s (fun _ _ _ => False) e s' → False) :
    PySem.W.WalkO q loose XP YP l.row.toRowW d [] (fun f vs => PySem.call f vs) := by
  refine Att.attach_call hn hdf fun w s₀ s₁ mg mb fa o pm cd doc a vs ns G Y ho hd hcd hmg hobj hints hlen hg => ?_
  have KX := hY w _ Y
  obtain ⟨fd, hb, hF⟩ := F w mg fa _ KX G.T.g hmg
  exact law_call KX G.T.g G.T.b G.T.builtins G.T.nolimit hg hobj hints (Nat.le_trans hlen hn2) hr hF hb (fun H hO hS => hsp w H a ns hlen hO hS) fun H e s' => hCX w H s₁ e s'
end L2

/- THE LAST THEOREM (shape; LID, My.* are yours):
   My.Adr: a structure of the addresses that your layer names (classes, functions); My.Txt K t: a structure (Prop) of the equations over K;
   My.txt_mk : {K} {implicit addresses ..} (e1 : nsIn K mainGlobals "law" = some (some (.ref f))) (e2 : K.lookup f = some ⟨oc, od, .func (fnOf "law" "law" params body scope dV kV doc pm an cdv ct), sl⟩) (e3 : codeIn K cdv "law" = true) .. : ∃ t, My.Txt K t

set_option maxRecDepth 100000 in
set_option maxHeartbeats 0 in
theorem PySem.Challenge.cw_LID_holds : PySem.Challenge.rw_LID.Holds := by
  w_on; o_law; k_head; (case hw => w_witness2)
  k_fill
  refine L2.walk_of (l := PySem.Challenge.rw_LID) (n := 63) (k := 40) (x := "script") (CX := fun w => ..) (sp := fun _ => My.sp_law) rfl (by decide) rfl ⟨rfl, by decide, by decide⟩ (fun w h Y => PySem.W.kIn_of Y) ?F ?S ?C
  case F =>
    intro w mg fa h KX G hmg
    have T : ∃ t, My.Txt (L2.KOf KX) t := by
      dsimp only [L2.KOf]                          -- K must stand as «<heap const> w.params» for k_is
      refine' My.txt_mk ?e1 ?e2 ?e3 ..
      (case e1 => PySem.W.k_is)                    -- in the order: a name -> its address -> its object -> its parts
      (case e2 => PySem.W.k_is)
      ..
    obtain ⟨t, T⟩ := T
    have e0 := hmg.symm.trans (PySem.W.mg_of KX G T.law)
    cases e0                                       -- fa is the law's own address
    exact ⟨_, fun s u => .of_eq rfl, fun base kb nb => My.law_fn T kb nb⟩     -- if «.of_eq rfl» comes too early: refine' ⟨_, ?b, fun base kb nb => My.law_fn T kb nb⟩; exact fun s u => .of_eq rfl
  case S => exact fun w H a ns hl hO hS => ..
  case C => exact ..
(the tactic k_is has no namespace: write k_is) -/

namespace L2
open PySem PySem.Spec PyProof.Rows

def inClass (s : Stmt) (j : Nat) : Stmt := match s with
  | .ClassDef _ _ _ body _ _ _ _ _ _ _ => body.getD j (.Pass ⟨0, 0, 0, 0⟩)
  | _ => .Pass ⟨0, 0, 0, 0⟩
def defArgs (s : Stmt) : Arguments := match s with
  | .FunctionDef _ a _ _ _ _ _ _ _ _ => a
  | _ => { posonlyargs := [], args := [], vararg := none, kwonlyargs := [], kw_defaults := [], kwarg := none, defaults := [] }
def defBody (s : Stmt) : List Stmt := match s with
  | .FunctionDef _ _ b _ _ _ _ _ _ _ => b
  | _ => []
def defScope (s : Stmt) : Scope := match s with
  | .FunctionDef _ _ _ _ _ _ sc _ _ _ => sc
  | _ => { kind := .function, names := [], isGenerator := false, isCoroutine := false }

abbrev CX0 : CXT := fun _ _ _ _ _ _ => False
abbrev E0 : XK := fun _ _ _ => False
theorem pass0 {X : Cx} : Passes CX0 X E0 := fun _ _ _ _ _ _ _ h => h.elim

structure Fun (K : PySem.W.Frag) (x qual : Str) (st : Stmt) (f : Addr) (fd : FuncData) : Prop where
  ex : ∃ (oc : Value) (od : Option Addr) (kV doc pm : Value) (an : Option Addr) (cdv ct : Value) (osl : Array (Option Value)),
    fd = PySem.W.fnOf x qual (defArgs st) (defBody st) (defScope st) .none kV doc pm an cdv ct ∧ K.lookup f = some ⟨oc, od, .func fd, osl⟩ ∧ PySem.W.codeIn K cdv qual = true
  kp : PySem.W.keepIn K (.ref f) = true
section
variable {P : Program} {w : World} {K : PySem.W.Frag} {mg : Str → Option Value} {base : Heap}
theorem Fun.ok {x qual : Str} {st : Stmt} {f : Addr} {fd : FuncData} {N ps : List Str} {k : Nat} {sp : Sp} (F : Fun K x qual st f fd) (S : FnScope N ps (defScope st)) (len : ∀ vs H Q E, sp vs H Q E → vs.length = ps.length)
    (hbody : ∀ (cdv : Value) (A : Around) (outer : List Env) (s : Shared) (H : Hp) (vs : List V) (Q : VK) (E : XK), Room k (A.deeper (envOfC qual (defScope st) s.heap.objs.size f cdv)) → sp vs H Q E →
      ∃ t, PSs (cxOf CX0 P w K mg base N qual (defScope st) f cdv A outer s H E).nox (defBody st) t ∧ t { nx := fun _ H' => Q .non H', rt := Q } (start N vs) H) : FnOk P w K mg base CX0 (k + 1) f fd ps sp := by
  obtain ⟨oc, od, kV, doc, pm, an, cdv, ct, osl, rfl, lk, hcd⟩ := F.ex
  refine fn_of lk hcd S len fun A outer s H vs Q E hr hsp => ?_
  obtain ⟨t, h, q⟩ := hbody cdv A outer s H vs Q E hr hsp
  exact ⟨t, h.nox, q⟩
theorem Fun.binds {x qual : Str} {st : Stmt} {f : Addr} {fd : FuncData} {ps : List Str} (F : Fun K x qual st f fd)
    (h : ∀ (kV doc pm : Value) (an : Option Addr) (cdv ct : Value) (us : List Value), us.length = ps.length → bindArgs (PySem.W.fnOf x qual (defArgs st) (defBody st) (defScope st) .none kV doc pm an cdv ct) ⟨us, []⟩ = pure (ps.zip us)) : Binds K fd ps [] := by
  obtain ⟨oc, od, kV, doc, pm, an, cdv, ct, osl, rfl, lk, hcd⟩ := F.ex
  exact .all (h kV doc pm an cdv ct)
theorem fun_mk {x qual : Str} {st : Stmt} {f : Addr} {oc : Value} {od an : Option Addr} {osl : Array (Option Value)} {kV doc pm cdv ct : Value} (l : K.lookup f = some ⟨oc, od, .func (PySem.W.fnOf x qual (defArgs st) (defBody st) (defScope st) .none kV doc pm an cdv ct), osl⟩)
    (c : PySem.W.codeIn K cdv qual = true) (k : PySem.W.keepIn K (.ref f) = true) : Fun K x qual st f (PySem.W.fnOf x qual (defArgs st) (defBody st) (defScope st) .none kV doc pm an cdv ct) := ⟨⟨oc, od, kV, doc, pm, an, cdv, ct, osl, rfl, l, c⟩, k⟩
end
theorem hu_of {A : Around} {k : Nat} (hr : Room k A) : A.units + 1 < cLine := Nat.lt_of_le_of_lt (Nat.add_le_add_left (by decide : 1 ≤ 64) _) hr.units
section
variable {X : Cx}
theorem pv (i : Nat) {x : Str} {pos : Pos} (hN : X.N[i]? = some x := by rfl) (hv : Vis X.env.scope x := by first | exact Or.inl rfl | exact Or.inr (Or.inl rfl) | exact Or.inr (Or.inr rfl)) (hd : (x == ("__debug__" : Str)) = false := by decide)
    (hcd : (x == ("__classdict__" : Str)) = false := by decide) : PE X (.Name x pos) (tVar i) := pe_var hN hv hd hcd
end

theorem iteF {A B : Prop} (h : B) : if false = true then A else B := by
  rw [if_neg Bool.false_ne_true]
  exact h
theorem iteT {A B : Prop} (h : A) : if true = true then A else B := by
  rw [if_pos rfl]
  exact h
def Same (H H' : Hp) : Prop := ∀ b o, H b = some o → H' b = some o
theorem Same.refl (H : Hp) : Same H H := fun _ _ h => h
theorem Same.trans {H H1 H2 : Hp} (a : Same H H1) (b : Same H1 H2) : Same H H2 := fun c o h => b c o (a c o h)
theorem Same.free {H H' : Hp} (e : Same H H') {l : Addr} (h : H' l = Option.none) : H l = Option.none := by
  cases q : H l with
  | none => rfl
  | some o =>
    rw [e l o q] at h
    cases h
theorem Same.seq {K : PySem.W.Frag} {H H' : Hp} {a : Addr} {xs : List V} (e : Same H H') (h : SqL K H a xs) : SqL K H' a xs := by
  rcases h with (h | ⟨o, h⟩) | h
  · exact .inl (.inl (e _ _ h))
  · exact .inl (.inr ⟨o, e _ _ h⟩)
  · exact .inr h

end L2

namespace L2
open PySem PySem.Spec PyProof.Rows
section
variable {X : Cx} {pins : List (Addr × Obj)} {σ : St} {H : Hp} {s : Shared} {h' : Heap}
theorem Inv.laidN {a : Addr} {o : HO} {t' : Nat} {ch : List Addr} (I : Inv X pins σ H s) (hch : ∀ b ∈ ch, FpOk X pins H b) (k : ∀ b u, b ∉ ch → s.heap.get? b = some u → h'.get? b = some u)
    (hn : s.heap.get? a = none) (hna : H a = none) (new : ObjOk X.prog X.w (upd H a o) h' a o) : Inv X pins σ (upd H a o) { s with heap := h', toks := t' } := by
  have ne : ∀ b u, s.heap.get? b = some u → b ≠ a := fun b u e z => by subst z; rw [hn] at e; cases e
  have nt : ∀ b u, H b = some u → b ≠ a := fun b u e => ne_of_none e hna
  have nch : ∀ b u, H b = some u → b ∉ ch := fun b u e z => by rw [(hch b z).1] at e; cases e
  refine I.step (g' := s.gens) (d' := s.drawn) (ch := ch) (fun b hb => ?_) (fun b o _ _ hc e _ => k b o hc e) (fun b o _ _ hc e _ => ⟨o.slots, k b o hc e⟩) (fun b u _ e n => by rw [upd_ne (ne b u e)]; exact n)
    (fun b o hc e => ⟨o, k b o hc e⟩) (fun b xs e => by rw [upd_ne (nt b _ e)]; exact e) (fun b o u e => by rw [upd_ne (nt b _ e)]; exact e) (fun b ps e => ⟨#[], by rw [upd_ne (nt b _ e), e]; simp⟩) (fun m hm => ?_) (fun b u e => ?_) I.bare
  · obtain ⟨_, h2, h3, h4, h5, h6⟩ := hch b hb
    exact ⟨h4, h2, h5, h6⟩
  · obtain ⟨o, es, ep, ho, r⟩ := hm
    exact ⟨o, es, ep, k _ o (fun z => (hch _ z).2.1 rfl) ho, r⟩
  · by_cases hb : b = a
    · subst hb; rw [upd_same] at e; cases e; exact new
    · rw [upd_ne hb] at e
      refine (I.hok b u e).stay (fun c v hc q => k c v ?_ q) (fun c q => by rw [upd_ne (nt c _ q)]; exact q) fun c xs q => by rw [upd_ne (nt c _ q)]; exact q
      rcases hc with z | z
      · rw [z]; exact nch b u e
      · exact nch c _ z
end

section
variable {X : Cx}
end
end L2

namespace L2
open PySem PySem.Spec PyProof.Rows
section
variable {X : Cx}
theorem countP_eqU {x : V} : ∀ {xs : List V} {us : List Value}, Vals xs us → xs.all flatV = true → us.countP (eqU x) = xs.countP fun y => eqV y x
  | _, _, .nil, _ => rfl
  | y :: xs, u :: us, .cons r t, f => by
    rw [List.all_cons, Bool.and_eq_true] at f
    rw [List.countP_cons, List.countP_cons, eqU_of r f.1, countP_eqU t f.2]
def rCount (K : PySem.W.Frag) : V → List V → Hp → VK → Prop := fun x vs H Q => ∃ p xs y, x = .ref p ∧ vs = [y] ∧ SqL K H p xs ∧ flatV y = true ∧ xs.all flatV = true ∧ Q (.int (xs.countP fun z => eqV z y : Nat)) H
theorem mt_count : MtR X "list.count" (rCount X.K) := by
  intro pins s σ H x vs v us Q I rx rv h
  obtain ⟨p, xs, y, rfl, rfl, hq, fy, fs, q⟩ := h
  cases rx
  obtain ⟨u, rfl, ru⟩ := rv.one
  obtain ⟨its, r, ⟨⟨cls, dd, data, sl⟩, n, e, hc, hd, hdt⟩, hz⟩ := I.list hq
  simp only at hc hd hdt
  subst hc hd hdt
  refine call_meets F.slot_list_count ⟨_, e, rfl⟩ F.entry_list_count (F.args_list_count_2 _ _) (SeqAt.list_countAt p its.toArray n none sl u (eqU y)) ⟨e, fun w hw => mem_eqAt ru fy r fs w (by simpa using hw), ?_⟩
  refine ⟨.int _, H, I.tok _, ⟨s.toks, rfl⟩, ?_⟩
  rw [show its.toArray.toList = its from rfl, countP_eqU r fs]
  exact q
def rIndex (K : PySem.W.Frag) : V → List V → Hp → VK → Prop := fun x vs H Q => ∃ p xs y j z, x = .ref p ∧ vs = [y] ∧ SqL K H p xs ∧ flatV y = true ∧ xs.all flatV = true ∧ xs[j]? = some z ∧ eqV z y = true ∧
  (∀ m z, m < j → xs[m]? = some z → eqV z y = false) ∧ Q (.int (j : Nat)) H
theorem eqU_get {x : V} {xs : List V} {us : List Value} {j : Nat} {u : Value} (r : Vals xs us) (f : xs.all flatV = true) (h : us[j]? = some u) : ∃ z, xs[j]? = some z ∧ eqU x u = eqV z x := by
  have hl := r.length
  have hj := (List.getElem?_eq_some_iff.mp h).1
  have e : xs[j]? = some (xs[j]'(by omega)) := by simp [hl, hj]
  obtain ⟨u', e1, r1⟩ := r.get e
  rw [h] at e1; cases e1
  exact ⟨_, e, eqU_of r1 (List.all_eq_true.mp f _ (List.getElem_mem _))⟩
theorem mt_index : MtR X "list.index" (rIndex X.K) := by
  intro pins s σ H x vs v us Q I rx rv h
  obtain ⟨p, xs, y, j, z, rfl, rfl, hq, fy, fs, hz1, hz2, hno, q⟩ := h
  cases rx
  obtain ⟨u, rfl, ru⟩ := rv.one
  obtain ⟨its, r, ⟨⟨cls, dd, data, sl⟩, n, e, hc, hd, hdt⟩, hz⟩ := I.list hq
  simp only at hc hd hdt
  subst hc hd hdt
  have hl := r.length
  have hj : j < its.length := by rw [← hl]; exact (List.getElem?_eq_some_iff.mp hz1).1
  have hn := line63
  refine call_meets F.slot_list_index ⟨_, e, rfl⟩ F.entry_list_index (F.args_list_index_2 _ _)
    (SeqAt.list_indexAt p its.toArray n none sl u (eqU y) j (by simpa using hj) (by omega) ?_ ?_) ⟨e, fun w hw => mem_eqAt ru fy r fs w (by simpa using hw), ⟨.int _, H, I.tok _, ⟨s.toks, rfl⟩, q⟩⟩
  · obtain ⟨z', e1, e2⟩ := eqU_get (x := y) (j := j) (u := its[j]) r fs (by simp [hj])
    rw [hz1] at e1; cases e1
    simpa [e2] using hz2
  · intro m hm hmj
    have hm' : m < its.length := by simpa using hm
    obtain ⟨z', e1, e2⟩ := eqU_get (x := y) (j := m) (u := its[m]) r fs (by simp [hm'])
    have := hno m z' hmj e1
    simpa [e2] using this

theorem call_isinst : CallR X (.builtin "isinstance") (fun xs H Q => ∃ x n t b, xs = [x, .ty n] ∧ TyOf X.K H x t ∧ PySem.W.kitOne X.K t (.type n) = some b ∧ Q (.bl b) H) := by
  intro pins s σ H xs us Q I r h
  obtain ⟨x, n, t, b, rfl, ty, e, q⟩ := h
  obtain ⟨u, v, rfl, ru, rv⟩ := r.two
  cases rv
  exact isinst_ok I ru ty e fun tk => ⟨.bl b, H, I.tok tk, rfl, q⟩

def plainV : V → Bool
  | .non => true
  | .int _ => true
  | _ => false
theorem plain_flat {v : V} (h : plainV v = true) : flatV v = true := by cases v <;> first | rfl | exact absurd (show false = true from h) Bool.false_ne_true
theorem eqV_plain {a b : V} (ha : plainV a = true) (hb : plainV b = true) : eqV a b = decide (a = b) := by
  cases a <;> cases b <;> first
    | exact dec_int.symm
    | (simp [eqV]; done)
    | exact absurd (show false = true from ha) Bool.false_ne_true
    | exact absurd (show false = true from hb) Bool.false_ne_true
theorem getD_all {xs : List V} {P : V → Bool} (h : xs.all P = true) {j : Nat} (hj : j < xs.length) : P (xs.getD j .non) = true := by
  rw [List.getD_eq_getElem?_getD, List.getElem?_eq_getElem hj]
  exact List.all_eq_true.mp h _ (List.getElem_mem _)
theorem all_range_eq {xs ys : List V} (hl : xs.length = ys.length) : (List.range xs.length).all (fun j => decide (xs.getD j .non = ys.getD j .non)) = decide (xs = ys) := by
  rw [Bool.eq_iff_iff, List.all_eq_true, decide_eq_true_iff]
  constructor
  · intro h
    refine List.ext_getElem hl fun j h1 h2 => ?_
    have := h j (List.mem_range.mpr h1)
    rw [decide_eq_true_iff, List.getD_eq_getElem?_getD, List.getD_eq_getElem?_getD, List.getElem?_eq_getElem h1, List.getElem?_eq_getElem h2] at this
    exact this
  · rintro rfl j _
    simp
theorem eqAt_pl {A : Around} {s : Shared} {xs ys : List V} {us ws : List Value} (r1 : Vals xs us) (r2 : Vals ys ws) (p1 : xs.all plainV = true) (p2 : ys.all plainV = true) (j : Nat) (h1 : j < us.toArray.size) (h2 : j < ws.toArray.size) :
    SeqAt.EqAt A s us.toArray[j] ws.toArray[j] (decide (xs.getD j .non = ys.getD j .non)) := by
  have l1 := r1.length
  have l2 := r2.length
  have h1' : j < us.length := by simpa using h1
  have h2' : j < ws.length := by simpa using h2
  have e1 : xs[j]? = some (xs.getD j .non) := by rw [List.getD_eq_getElem?_getD, List.getElem?_eq_getElem (by omega)]; rfl
  have e2 : ys[j]? = some (ys.getD j .non) := by rw [List.getD_eq_getElem?_getD, List.getElem?_eq_getElem (by omega)]; rfl
  obtain ⟨u, a1, b1⟩ := r1.get e1
  obtain ⟨w, a2, b2⟩ := r2.get e2
  have q1 := getD_all p1 (j := j) (by omega)
  have q2 := getD_all p2 (j := j) (by omega)
  have := eqAt_V (A := A) (s := s) b1 b2 (plain_flat q1) (plain_flat q2)
  rw [eqV_plain q1 q2] at this
  rw [List.getElem?_eq_getElem h1'] at a1
  rw [List.getElem?_eq_getElem h2'] at a2
  cases a1; cases a2
  exact this
def rEqL (K : PySem.W.Frag) (neg : Bool) : R2 := fun x y H Q => ∃ a b xs ys, x = .ref a ∧ y = .ref b ∧ SqL K H a xs ∧ SqL K H b ys ∧ xs.all plainV = true ∧ ys.all plainV = true ∧ Q (.bl (if neg then !decide (xs = ys) else decide (xs = ys))) H
theorem op_eqL (hu : X.A.units < cLine) : OpR X (compareOp .Eq) (rEqL X.K false) := by
  intro pins s σ H x y v u Q I rx ry h
  obtain ⟨a, b, xs, ys, rfl, rfl, ha, hb, p1, p2, q⟩ := h
  cases rx; cases ry
  obtain ⟨its, r1, pl1, _⟩ := I.list ha
  obtain ⟨its2, r2, pl2, _⟩ := I.list hb
  have l1 := r1.length
  have l2 := r2.length
  by_cases hl : xs.length = ys.length
  · refine SeqAt.eq_listAt (e := fun j => decide (xs.getD j .non = ys.getD j .non)) pl1.isList pl2.isList (by simp; omega) hu (fun j h1 h2 => eqAt_pl r1 r2 p1 p2 j h1 h2) ⟨.bl _, H, I, rfl, ?_⟩
    rw [List.size_toArray, ← l1, all_range_eq hl]
    exact q
  · refine SeqAt.eq_list_lengthsAt pl1.isList pl2.isList (by simp; omega) hu ⟨.bl false, H, I, rfl, ?_⟩
    have : decide (xs = ys) = false := decide_eq_false fun z => hl (by rw [z])
    rw [← this]; exact q
def TupsAt (H : Hp) (ts : List Addr) (ns : List (List Int)) : Prop := Paired (fun t n => H t = some (.tup (n.map V.int))) ts ns
theorem TupsAt.length {H : Hp} {ts : List Addr} {ns : List (List Int)} (h : TupsAt H ts ns) : ts.length = ns.length := Paired.length h
end
section
variable {P : Program} {w : World} {K : PySem.W.Frag} {mg : Str → Option Value} {base : Heap}
def FnG (P : Program) (w : World) (K : PySem.W.Frag) (mg : Str → Option Value) (base : Heap) (x : Str) (ps : List Str) (k : Nat) (sp : Sp) : Prop :=
  ∃ f fd, mg x = some (.ref f) ∧ PySem.W.keepIn K (.ref f) = true ∧ Binds K fd ps [] ∧ FnOk P w K mg base CX0 k f fd ps sp
def MtG (P : Program) (w : World) (K : PySem.W.Frag) (mg : Str → Option Value) (base : Heap) (C : Addr) (m : Str) (ps : List Str) (k : Nat) (sp : Sp) : Prop :=
  ∃ f fd, Meth K C m f ∧ Binds K fd ps [] ∧ FnOk P w K mg base CX0 k f fd ps sp
end
section
variable {X : Cx} {k : Nat} {ps : List Str} {sp : Sp} {x m : Str} {p pos apos : Pos} {e o : Expr} {es : List Expr} {ta : TE} {t : TA} {C : Addr}
theorem pe_fn (G : FnG X.prog X.w X.K X.mg X.base x ps k sp) (hr : Room k X.A) (ha : PA X (e :: es) t) (hg : Gl X x := by rfl) (hdb : (x == ("__debug__" : Str)) = false := by decide)
    (he : starEach (e :: es) X.env = (false, eval e X.env) :: starEach es X.env := by rfl) (hpl : (backTo pos (starEach es X.env)).any (·.1) = false := by rfl) :
    PE X (.Call (.Name x p) (e :: es) [] pos) (tCall sp [] E0 t) := by
  obtain ⟨f, fd, h1, h2, h3, h4⟩ := G
  exact pe_call h4 hr hg h1 h2 h3 .nil pass0 ha hdb he hpl
theorem pe_mt0 {pl : Sem Bool} (c : Cls X.K C) (G : MtG X.prog X.w X.K X.mg X.base C m ps k sp) (hr : Room k X.A) (he : PE X o ta)
    (ht : eval (.Call (.Attribute o m apos) [] [] pos) X.env = (do
      let ov ← eval o X.env
      standAt apos.atName
      let (f, first) ← holding [ov] (getMethod ov m pl)
      callWith pos f first (backTo pos (starEach [] X.env)) (backToKw pos (keywordEach [] X.env))) := by rfl) :
    PE X (.Call (.Attribute o m apos) [] [] pos) (tMeth C m sp [] E0 ta tNil) := by
  obtain ⟨f, fd, h1, h3, h4⟩ := G
  exact pe_meth0 (pl := pl) he c h1 h4 hr h3 .nil pass0 ht
end
theorem iteI {i j : Int} {A B : Prop} (h1 : i = j → A) (h2 : i ≠ j → B) : if decide (V.int i = V.int j) = true then A else B := by
  by_cases e : i = j
  · rw [if_pos (by rw [e]; simp)]; exact h1 e
  · rw [if_neg (by simp [e])]; exact h2 e
theorem iteNI {i j : Int} {A B : Prop} (h1 : i ≠ j → A) (h2 : i = j → B) : if (!decide (V.int i = V.int j)) = true then A else B := by
  by_cases e : i = j
  · rw [if_neg (by rw [e]; simp)]; exact h2 e
  · rw [if_pos (by simp [e])]; exact h1 e
theorem iteD {c A B : Prop} [Decidable c] (h1 : c → A) (h2 : ¬ c → B) : if decide c = true then A else B := by
  by_cases h : c
  · rw [if_pos (decide_eq_true h)]; exact h1 h
  · rw [if_neg (by simp [h])]; exact h2 h
theorem iteND {c A B : Prop} [Decidable c] (h1 : ¬ c → A) (h2 : c → B) : if (!decide c) = true then A else B := by
  by_cases h : c
  · rw [if_neg (by simp [h])]; exact h2 h
  · rw [if_pos (by simp [h])]; exact h1 h
theorem iteB {b : Bool} {A B : Prop} (h1 : b = true → A) (h2 : b = false → B) : if b = true then A else B := by
  cases b with
  | true => rw [if_pos rfl]; exact h1 rfl
  | false => rw [if_neg Bool.false_ne_true]; exact h2 rfl
theorem iteNB {b : Bool} {A B : Prop} (h1 : b = false → A) (h2 : b = true → B) : if (!b) = true then A else B := by
  cases b with
  | true => rw [if_neg (by decide)]; exact h2 rfl
  | false => rw [if_pos (by decide)]; exact h1 rfl
theorem ixN_nat {n j : Nat} (h : j < n) : ixN n (j : Int) = some j := by
  unfold ixN
  rw [if_pos (by omega), if_pos (by omega)]; simp
theorem kII (K : PySem.W.Frag) : PySem.W.kitOne K (.type "int") (.type "int") = some true := by first | rfl | decide +kernel
theorem kIB (K : PySem.W.Frag) : PySem.W.kitOne K (.type "int") (.type "bool") = some false := by first | rfl | decide +kernel
theorem kLL (K : PySem.W.Frag) : PySem.W.kitOne K (.type "list") (.type "list") = some true := by first | rfl | decide +kernel
theorem kTT (K : PySem.W.Frag) : PySem.W.kitOne K (.type "tuple") (.type "tuple") = some true := by first | rfl | decide +kernel
def tMid (t u : TS) : TS := fun D σ H => ∃ R : St → Hp → Prop, t { D with nx := R } σ H ∧ ∀ σ' H', R σ' H' → u D σ' H'
theorem pss_mid {X : Cx} {st : Stmt} {rest : List Stmt} {t u : TS} (h1 : PS X st t) (h2 : PSs X rest u) : PSs X (st :: rest) (tMid t u) := by
  intro pins s σ H D I h
  obtain ⟨R, h, k⟩ := h
  refine wpAny_execs_cons (thn (h1 pins s σ H { D with nx := R } I h) fun f s1 q => ?_)
  cases f with
  | next =>
    obtain ⟨σ', H', I', q⟩ := q
    exact h2 pins s1 σ' H' D I' (k _ _ q)
  | ret v => exact q
  | brk => exact q
  | cont => exact q
end L2

namespace L2
open PySem PySem.Spec PyProof.Rows
section
variable {prog : Program} {w : World} {A : Around} {R : Result → Shared → Prop} {s : Shared}
theorem compLoop_by {elt target iter : Expr} {ifs : List Expr} {scope : Scope} {pos : Pos} {it acc : Value} {env : Env} (W : Nat → Shared → Prop)
    (turn : ∀ n s, W n s → wpAny (model prog w) A (pyNext it) (fun r s₁ => match r with
        | none => R (.ok .next) s₁
        | some v => wpAny (model prog w) A (letOwnedTupleGo target it v) (fun _ s₂ => wpAny (model prog w) A (assign target env v) (fun _ s₃ =>
            wpAny (model prog w) A (forIn ifs true fun c r => if r = true then do let ok ← isTrue c env (eval c env); pure (ForInStep.yield ok) else pure (ForInStep.yield r)) (fun ok s₄ =>
              if ok = true then wpAny (model prog w) A (eval elt env) (fun x s₅ => wpAny (model prog w) A (call (.builtin "list.append") [acc, x]) (fun _ s₆ => ∃ m, m < n ∧ W m s₆) (fun _ _ => False) s₅) (fun _ _ => False) s₄
              else ∃ m, m < n ∧ W m s₄) (fun _ _ => False) s₃) (fun _ _ => False) s₂) (fun _ _ => False) s₁) (fun _ _ => False) s)
    (n : Nat) (h : W n s) : codeAny (model prog w) A (.compLoop (.ListComp elt [⟨target, iter, ifs, 0⟩] scope pos) 0 it acc env) R s := by
  refine codeAny_loop rfl W (fun n s hI => ?_) n h
  show wpAny _ A ((compTurn (.ListComp elt [⟨target, iter, ifs, 0⟩] scope pos) 0 it acc env).onRaise _) _ _ s
  refine wpAny_noted ?_
  rw [compTurn_list]
  have no : ∀ {E : Value → Shared → Prop} (e : Value) (s : Shared), False → E e s := fun _ _ z => z.elim
  refine wpAny_bind (wpAny_standAt (wpAny_bind (wpAny_mono (turn n s hI) (fun r s₁ h₁ => ?_) no)))
  cases r with
  | none => exact wpAny_pure h₁
  | some v =>
    refine wpAny_bind (wpAny_mono h₁ (fun _ s₂ h₂ => wpAny_bind (wpAny_mono h₂ (fun _ s₃ h₃ => wpAny_bind (wpAny_mono h₃ (fun ok s₄ h₄ => ?_) no)) no)) no)
    cases ok with
    | false => exact wpAny_pure ⟨rfl, h₄⟩
    | true => exact wpAny_bind (wpAny_bind (wpAny_mono h₄ (fun x s₅ h₅ => wpAny_bind (wpAny_mono h₅ (fun _ s₆ h₆ => wpAny_pure (wpAny_pure ⟨rfl, h₆⟩)) no)) no))
end

abbrev cxC (X : Cx) (N : List Str) (scope : Scope) (cl : List (Str × Addr)) (fp : List Addr) (C : Addr) (s₀ : Shared) (H₀ : Hp) : Cx :=
  { X with N := N, s₀ := s₀, H₀ := H₀, env := compEnvC scope cl C X.env, outer := X.stack, stack := X.stack, ex := fp, fn := fun _ => false, pn := [], xe := fun _ _ => False }
def PFs (X : Cx) (ifs : List Expr) (t : TT) : Prop :=
  ∀ (pins : List (Addr × Obj)) (s : Shared) (σ : St) (H : Hp) (Q : Bool → Hp → Prop), Inv X pins σ H s → t σ H Q →
    wpAny (model X.prog X.w) X.A (forIn ifs true fun c r => if r = true then do let ok ← isTrue c X.env (eval c X.env); pure (ForInStep.yield ok) else pure (ForInStep.yield r)) (TP X pins σ Q) X.xe s
def tAll : TT := fun _ H Q => Q true H
theorem pf_nil {X : Cx} : PFs X [] tAll := fun _ _ _ H _ I h => wpAny_tests_nil ⟨H, I, h⟩
theorem pf_one {X : Cx} {c : Expr} {t : TT} (h : PT X c t) : PFs X [c] t := fun pins s σ H Q I hq => wpAny_tests_one (h pins s σ H Q I hq)

abbrev BC (α : Type) := List Addr → Addr → Shared → Hp → α
def tCG (wi : TI) (ix : List Nat) (tt : BC TT) (te : BC TE) : TE := fun σ H Q => wi σ H fun J H1 => ∀ D, H1 D = none → ∃ W : Nat → Nat → Hp → Prop, (∃ m, W 0 m (upd H1 D (.lst []))) ∧ ∀ i m H2, W i m H2 →
  (J.stop i H2 ∧ Q (.ref D) H2) ∨ (J.go i H2 ∧ ∃ N : Hp → Prop, (∀ H', N H' → ∃ m', m' < m ∧ W (i + 1) m' H') ∧ ∀ v H3, J.yld i H2 v H3 → ∀ fp C s₀ H₀,
    tt fp C s₀ H₀ (some v :: ix.map fun j => (σ[j]?).join) H3 fun b H4 => if b = true then te fp C s₀ H₀ (some v :: ix.map fun j => (σ[j]?).join) H4 fun y H5 => ∃ ys, H5 D = some (.lst ys) ∧ ys.length < sizeLine ∧ N (upd H5 D (.lst (ys ++ [y]))) else N H4)

structure CompOk (X : Cx) (scope : Scope) (cl : List (Str × Addr)) (x : Str) (fr : List Str) (ix : List Nat) : Prop where
  clos : closureFor scope X.env = pure cl
  nocell : ∀ y ∈ scope.names, y.2 ≠ .cell
  kind : scope.kind = .function
  names : ∀ y ∈ scope.names, y.2 = .local → scope.names.lookup y.1 = some .local
  hx : scope.names.lookup x = some .local
  sub : ∀ y c, cl.lookup y = some c → X.env.cells.lookup y = some c
  has : ∀ y, ((relabel scope X.env).names.lookup y = some .cell ∨ (relabel scope X.env).names.lookup y = some .free) → ∃ c, cl.lookup y = some c
  len : ix.length = fr.length
  at' : ∀ (k j : Nat) (y : Str), fr[k]? = some y → ix[k]? = some j → X.N[j]? = some y ∧ Vis X.env.scope y ∧ X.env.kindOf y ≠ some .local ∧ ((relabel scope X.env).names.lookup y = some .cell ∨ (relabel scope X.env).names.lookup y = some .free)
  nd : (x :: fr).Nodup

section
variable {X : Cx} {scope : Scope} {cl : List (Str × Addr)} {x : Str} {fr : List Str} {ix : List Nat} {pins : List (Addr × Obj)} {σ : St} {H : Hp} {s : Shared}
theorem Inv.into {fp : List Addr} {C : Addr} {h₁ : Heap} {t : Nat} {m : Str → Option Value} (K : CompOk X scope cl x fr ix) (I : Inv X pins σ H s) (hc : X.calm = true) (hC : C = s.heap.objs.size) (hf : ∀ b ∈ fp, FpOk X pins H b) (hfs : ∀ b ∈ fp, b < s.heap.objs.size)
    (hn : h₁.Ns C m) (old : ∀ b o, s.heap.get? b = some o → h₁.get? b = some o) :
    Inv (cxC X (x :: fr) scope cl fp C s H) [] (none :: ix.map fun j => (σ[j]?).join) H { s with heap := h₁, toks := t } := by
  have I1 : Inv X pins σ H { s with heap := h₁, toks := t } := I.kept old
  have hCn : H C = none := I.hok.fresh (by rw [hC]; exact Nat.le_refl _)
  have cellC : ∀ y c, cl.lookup y = some c → c ≠ C := fun y c e z => by
    obtain ⟨v, q⟩ := I.cell y c (K.sub y c e)
    have := q.lt
    rw [z, hC] at this
    exact absurd this (Nat.lt_irrefl _)
  refine ⟨⟨I.ok.mod, K.kind, I.ok.glob, I.ok.blt, by rw [hC]; exact Nat.le_refl _, fun y z c h1 h2 => I.ok.inj y z c (K.sub y c h1) (K.sub z c h2), K.has, fun y c hfn _ => (by cases hfn), fun _ => I.ok.hd hc, I.ok.frames, .inl rfl,
      fun b hb => ⟨fun z => absurd (hfs b hb) (by rw [z, hC]; exact Nat.lt_irrefl _), fun y c e => (hf b hb).2.2.2.2.1 y c (K.sub y c e)⟩, I.bs, Nat.le_trans I.ok.bsz I.sz, fun b o e hb => ?_, fun b hb hs => ?_, I.stack, I.stkFree⟩,
    rfl, I.bare, Un.kept old, ⟨m, hn, fun i y v h1 h2 h3 => ?_⟩, fun y c e => I1.cell y c (K.sub y c e), hCn, fun y c e => I.freeC y c (K.sub y c e), fun p hp => (by cases hp), I1.hok, ?_⟩
  · -- the walked records are none of the base's
    obtain ⟨h0, _, _, h4, _⟩ := hf b hb
    rcases h4 with z | z
    · exact I.ok.noex b o e z
    · exact absurd (Nat.lt_of_lt_of_le (Heap.lt_size (I.ok.bs b o e).1) z) (Nat.lt_irrefl _)
  · obtain ⟨_, h1, h2, _⟩ := hf b hb
    rcases List.mem_cons.mp (I.stkSub b hs) with z | z
    · exact h1 z
    · exact h2 z
  · cases i with
    | zero => simp at h2
    | succ k =>
      have hk : fr[k]? = some y := by simpa using h1
      have hkl : k < ix.length := by rw [K.len]; exact (List.getElem?_eq_some_iff.mp hk).1
      obtain ⟨j, hj⟩ : ∃ j, ix[k]? = some j := ⟨ix[k], by simp [hkl]⟩
      obtain ⟨a1, a2, a3, a4⟩ := K.at' k j y hk hj
      have h2' : (σ[j]?).join = some v := by
        have : (ix.map fun j => (σ[j]?).join)[k]? = some (some v) := by simpa using h2
        rw [List.getElem?_map, hj] at this
        exact Option.some.inj this
      have h2'' : σ[j]? = some (some v) := by
        cases e : σ[j]? with
        | none => rw [e] at h2'; cases h2'
        | some w => rw [e] at h2'; cases w with
          | none => cases h2'
          | some z => cases h2'; rfl
      obtain ⟨mo, _, hl⟩ := I1.loc
      obtain ⟨u, r, l⟩ := hl j y v a1 h2'' a2
      refine ⟨u, r, .inr ⟨a4, ?_⟩⟩
      rcases l with ⟨z, _⟩ | ⟨_, c, e, q⟩
      · exact absurd z a3
      · obtain ⟨c', e'⟩ := K.has y a4
        have := K.sub y c' e'
        rw [e] at this; cases this
        exact ⟨c, e', q⟩
  · show (ix.map fun j => (σ[j]?).join).length + 1 = fr.length + 1
    rw [List.length_map, K.len]
theorem Inv.out {fp : List Addr} {C : Addr} {σ' : St} {H' : Hp} {s' : Shared} (I : Inv X pins σ H s) (hf : ∀ b ∈ fp, FpOk X pins H b) (I' : Inv (cxC X (x :: fr) scope cl fp C s H) [] σ' H' s') : Inv X pins σ H' s' :=
  I.call' I'.os I'.base I'.hok I'.bare fun b hb => by
    obtain ⟨_, h1, _, h3, h4, h5⟩ := hf b hb
    exact ⟨h3, h1, h4, h5⟩
end
end L2

namespace L2
open PySem PySem.Spec PyProof.Rows
section
variable {X : Cx} {scope : Scope} {cl : List (Str × Addr)} {x : Str} {fr : List Str} {ix : List Nat} {pins : List (Addr × Obj)} {σ : St}
structure LetGo (X : Cx) (pins : List (Addr × Obj)) (H : Hp) (s : Shared) (C : Addr) : Prop where
  ns : ∃ m, s.heap.Ns C m
  no : H C = none
  nl : C ≠ X.env.locals
  ab : X.s₀.heap.objs.size ≤ C
  nc : ∀ y c, X.env.cells.lookup y = some c → c ≠ C
  np : ∀ p ∈ X.pn ++ pins, p.1 ≠ C
theorem LetGo.inv {H : Hp} {s : Shared} {C : Addr} {h' : Heap} (L : LetGo X pins H s C) (I : Inv X pins σ H s) (hs : Heap.SameBut C s.heap h') : Inv X pins σ H { s with heap := h' } :=
  I.turned (t' := s.toks) (fun b o hb e => (hs.2 b hb).trans e) L.no L.nl (.inr L.ab) L.nc L.np
theorem comp_walk {elt iter : Expr} {ifs : List Expr} {pos px : Pos} {tt : BC TT} {te : BC TE} (K : CompOk X scope cl x fr ix) (hc : X.calm = true) (ht : ∀ fp C s₀ H₀, PFs (cxC X (x :: fr) scope cl fp C s₀ H₀) ifs (tt fp C s₀ H₀)) (he : ∀ fp C s₀ H₀, PE (cxC X (x :: fr) scope cl fp C s₀ H₀) elt (te fp C s₀ H₀))
    {it : Addr} {fp : List Addr} {tn : Nat → Heap → Prop} {J : It} {H2 : Hp} {s2 : Shared} (I2 : Inv X pins σ H2 s2) (T : Turn X.prog X.w X.K (.Name x px) J fp it tn) (st2 : tn 0 s2.heap) (f2 : ∀ b ∈ fp, FpOk X pins H2 b) {Q : VK}
    (q : ∀ D, H2 D = none → ∃ W : Nat → Nat → Hp → Prop, (∃ m, W 0 m (upd H2 D (.lst []))) ∧ ∀ i m H3, W i m H3 →
      (J.stop i H3 ∧ Q (.ref D) H3) ∨ (J.go i H3 ∧ ∃ N : Hp → Prop, (∀ H', N H' → ∃ m', m' < m ∧ W (i + 1) m' H') ∧ ∀ v H4, J.yld i H3 v H4 → ∀ fp C s₀ H₀,
        tt fp C s₀ H₀ (some v :: ix.map fun j => (σ[j]?).join) H4 fun b H5 => if b = true then te fp C s₀ H₀ (some v :: ix.map fun j => (σ[j]?).join) H5 fun y H6 => ∃ ys, H6 D = some (.lst ys) ∧ ys.length < sizeLine ∧ N (upd H6 D (.lst (ys ++ [y]))) else N H5))
    {RR : Value → Addr → Result → Shared → Prop} {E : Value → Shared → Prop} (hRR : ∀ D C H' s', Inv X pins σ H' s' → LetGo X pins H' s' C → Q (.ref D) H' → RR (.ref D) C (.ok .next) s') :
    wpAny (model X.prog X.w) X.A (newList []) (fun acc s₃ => wpAny (model X.prog X.w) X.A (newFunctionEnv scope X.env.globals cl [] X.env.qual none .none (some X.env)) (fun cenv s₄ =>
      codeAny (model X.prog X.w) X.A (.compStart (.ListComp elt [⟨.Name x px, iter, ifs, 0⟩] scope pos) 0 (.ref it) acc { cenv with scope := relabel scope X.env }) (RR acc cenv.locals) s₄) E s₃) E s2 := by
  refine wpAny_newObj_type (wpAny_newFunctionEnv K.nocell (by intro y hy; simp at hy) (fun h₁ hns₁ hsb₁ => ?_) K.kind)
  dsimp only at hns₁ hsb₁ ⊢
  have hDn : H2 s2.heap.objs.size = none := I2.fresh
  have I3 : Inv X pins σ (upd H2 s2.heap.objs.size (.lst [])) { s2 with heap := s2.heap.push { cls := .type "list", dict := none, data := .seq ([] : List Value).toArray } } := I2.lnew (t' := s2.toks) (its := []) .nil (Nat.zero_le _)
  generalize hH3 : s2.heap.push { cls := .type "list", dict := none, data := .seq ([] : List Value).toArray } = H3 at hns₁ hsb₁ I3 ⊢
  have sz3 : H3.objs.size = s2.heap.objs.size + 1 := by rw [← hH3, Heap.size_push]
  have old3 : ∀ b o, s2.heap.get? b = some o → H3.get? b = some o := fun b o e => hH3 ▸ Heap.get?_push_of_some _ e
  have old : ∀ b o, H3.get? b = some o → h₁.get? b = some o := fun b o e => hsb₁.extBut b o (Nat.ne_of_lt (Heap.lt_size e)) (Heap.get?_push_of_some _ e)
  have fpo : ∀ b ∈ fp, b < s2.heap.objs.size := fun b hb => by
    obtain ⟨o, e, _⟩ := T.obj 0 _ st2 b hb
    exact Heap.lt_size e
  have f3 : ∀ b ∈ fp, FpOk X pins (upd H2 s2.heap.objs.size (.lst [])) b := fun b hb => by
    refine ⟨?_, (f2 b hb).2⟩
    rw [upd_ne (Nat.ne_of_lt (fpo b hb))]
    exact (f2 b hb).1
  have I4 := Inv.into (t := s2.toks + ([] : List (Str × Value)).length) K I3 hc rfl f3 (fun b hb => by show b < H3.objs.size; rw [sz3]; exact Nat.lt_succ_of_lt (fpo b hb)) hns₁ old
  have tn4 : tn 0 h₁ := T.keep 0 _ _ st2 fun b _ o e => old b o (old3 b o e)
  obtain ⟨W, ⟨m0, w0⟩, turn⟩ := q s2.heap.objs.size hDn
  have letgo : ∀ {H' : Hp} {σ' : St} {s' : Shared}, Inv (cxC X (x :: fr) scope cl fp H3.objs.size { s2 with heap := H3 } (upd H2 s2.heap.objs.size (.lst []))) [] σ' H' s' → LetGo X pins H' s' H3.objs.size := fun {H' σ' s'} I' => by
    obtain ⟨m, hn, _⟩ := I'.loc
    refine ⟨⟨m, hn⟩, I'.free, fun z => ?_, Nat.le_trans I2.sz (by rw [sz3]; exact Nat.le_succ _), fun y c e z => ?_, fun p hp z => ?_⟩
    · have := I2.lt
      rw [← z, sz3] at this
      exact absurd (Nat.lt_trans (Nat.lt_succ_self _) this) (Nat.lt_irrefl _)
    · obtain ⟨v, e1⟩ := I2.cell y c e
      have := e1.lt
      rw [z, sz3] at this
      exact absurd (Nat.lt_trans (Nat.lt_succ_self _) this) (Nat.lt_irrefl _)
    · have := Heap.lt_size (I2.pin p hp).1
      rw [z, sz3] at this
      exact absurd (Nat.lt_trans (Nat.lt_succ_self _) this) (Nat.lt_irrefl _)
  have loop : ∀ s', s' = ({ s2 with heap := h₁, toks := s2.toks + ([] : List (Str × Value)).length } : Shared) →
      codeAny (model X.prog X.w) X.A (.compLoop (.ListComp elt [⟨.Name x px, iter, ifs, 0⟩] scope pos) 0 (.ref it) (.ref s2.heap.objs.size) (compEnvC scope cl H3.objs.size X.env)) (RR (.ref s2.heap.objs.size) H3.objs.size) s' := by
    rintro s' rfl
    refine compLoop_by (fun n s' => ∃ i v0 H', Inv (cxC X (x :: fr) scope cl fp H3.objs.size { s2 with heap := H3 } (upd H2 s2.heap.objs.size (.lst []))) [] (v0 :: ix.map fun j => (σ[j]?).join) H' s' ∧ tn i s'.heap ∧ (∀ b ∈ fp, H' b = none) ∧ W i n H') ?_ m0
      ⟨0, none, _, I4, tn4, fun b hb => (f3 b hb).1, w0⟩
    rintro n s5 ⟨i, v0, H5, I5, st5, fr5, w5⟩
    have stat : ∀ {H' : Hp}, (∀ b ∈ fp, H' b = none) → ∀ b ∈ fp, FpOk (cxC X (x :: fr) scope cl fp H3.objs.size { s2 with heap := H3 } (upd H2 s2.heap.objs.size (.lst []))) [] H' b := fun hn b hb =>
      ⟨hn b hb, (I5.ok.exf b hb).1, I5.ok.exfs b hb, .inl hb, (I5.ok.exf b hb).2, fun p hp => by cases hp⟩
    rcases turn i n H5 w5 with ⟨stop, qn⟩ | ⟨go, N, hN, step⟩
    · refine thn (T.done (cxC X (x :: fr) scope cl fp H3.objs.size { s2 with heap := H3 } (upd H2 s2.heap.objs.size (.lst []))) rfl rfl rfl hc i [] s5 _ H5 (fun _ _ => False) I5 (stat fr5) st5 stop) fun r s6 ⟨hr, I6⟩ => ?_
      subst hr
      exact hRR _ _ H5 s6 (I3.out f3 I6) (letgo I6) qn
    · refine thn (T.item (cxC X (x :: fr) scope cl fp H3.objs.size { s2 with heap := H3 } (upd H2 s2.heap.objs.size (.lst []))) rfl rfl rfl hc i [] s5 _ H5 (fun _ _ => False) I5 (stat fr5) st5 go) fun r s6 ⟨u, hr, h6⟩ => ?_
      subst hr
      refine thn h6 fun _ s7 ⟨xv, H7, I7, r7, y7, st7, fr7⟩ => ?_
      have I7' := I7.pinned (stat fr7) (T.obj _ _ st7)
      have hxl : (relabel scope X.env).names.lookup x = some .local := lookup_relabel_local K.hx
      refine thn (pg_name (X := cxC X (x :: fr) scope cl fp H3.objs.size { s2 with heap := H3 } (upd H2 s2.heap.objs.size (.lst []))) (i := 0) K.nd rfl (.inl hxl) (.inr hxl) _ s7 _ H7 xv u
        (fun σ8 H8 => σ8 = some xv :: (ix.map fun j => (σ[j]?).join) ∧ H7 = H8) I7' r7 ⟨rfl, rfl⟩) fun _ s8 ⟨σ8, H8, I8, e1, e2⟩ => ?_
      subst e1 e2
      have again : ∀ {s' : Shared} {H' : Hp}, Inv (cxC X (x :: fr) scope cl fp H3.objs.size { s2 with heap := H3 } (upd H2 s2.heap.objs.size (.lst []))) ([] ++ pinsAt fp s7.heap) (some xv :: ix.map fun j => (σ[j]?).join) H' s' → N H' →
          ∃ m, m < n ∧ ∃ i v0 H', Inv (cxC X (x :: fr) scope cl fp H3.objs.size { s2 with heap := H3 } (upd H2 s2.heap.objs.size (.lst []))) [] (v0 :: ix.map fun j => (σ[j]?).join) H' s' ∧ tn i s'.heap ∧ (∀ b ∈ fp, H' b = none) ∧ W i m H' := fun {s' H'} J' n' => by
        obtain ⟨m', hm, w'⟩ := hN H' n'
        refine ⟨m', hm, i + 1, some xv, H', J'.unpinned, T.keep _ _ _ st7 fun b hb o e => (J'.pin (b, o) (List.mem_append_right _ (List.mem_append_right _ (mem_pinsAt hb e)))).1, fun b hb => ?_, w'⟩
        obtain ⟨o, e, d⟩ := T.obj _ _ st7 b hb
        exact (J'.pin (b, o) (List.mem_append_right _ (List.mem_append_right _ (mem_pinsAt hb e)))).2.1
      refine thn (ht _ _ _ _ _ s8 _ _ _ I8 (step xv _ y7 _ _ _ _)) fun b s9 ⟨H9, I9, q9⟩ => ?_
      cases b with
      | false =>
        rw [if_neg Bool.false_ne_true] at q9 ⊢
        exact again I9 q9
      | true =>
        rw [if_pos rfl] at q9 ⊢
        refine thn (he _ _ _ _ _ s9 _ _ _ I9 q9) fun yv s10 ⟨y, H10, I10, r10, ys, hD, hz, n10⟩ => ?_
        refine thn (mt_append (X := cxC X (x :: fr) scope cl fp H3.objs.size { s2 with heap := H3 } (upd H2 s2.heap.objs.size (.lst []))) _ s10 _ H10 (.ref s2.heap.objs.size) [y] (.ref s2.heap.objs.size) [yv] (fun _ H' => upd H10 s2.heap.objs.size (.lst (ys ++ [y])) = H') I10 rfl (.cons r10 .nil)
          ⟨_, ys, y, rfl, rfl, hD, hz, rfl⟩) fun _ s11 ⟨v, H11, I11, _, e⟩ => ?_
        subst e
        exact again I11 n10
  exact codeAny_compStart_list (loop _ rfl) (T.self X.A 0 _ _ _ tn4 (loop _ rfl))

theorem pe_compG {elt iter : Expr} {ifs : List Expr} {pos px : Pos} {wi : TI} {tt : BC TT} {te : BC TE} (K : CompOk X scope cl x fr ix) (hc : X.calm = true) (hi : PI X (.Name x px) iter wi) (ht : ∀ fp C s₀ H₀, PFs (cxC X (x :: fr) scope cl fp C s₀ H₀) ifs (tt fp C s₀ H₀))
    (he : ∀ fp C s₀ H₀, PE (cxC X (x :: fr) scope cl fp C s₀ H₀) elt (te fp C s₀ H₀)) (hs : ∀ x, foldedSetIterable iter X.env x = pure x := by intro _; rfl) : PE X (.ListComp elt [⟨.Name x px, iter, ifs, 0⟩] scope pos) (tCG wi ix tt te) := by
  intro pins s σ H Q I h
  rw [eval_ListComp]
  refine wpAny_comprehension_free (use := none) rfl hs K.clos K.kind K.names (thn (hi pins s σ H _ I h) fun v s1 h1 => thn h1 fun itv s2 h2 => ?_)
  obtain ⟨it, fp, tn, J, H2, e, I2, T, st2, f2, q⟩ := h2
  subst e
  refine comp_walk (RR := fun acc C => compPost (model X.prog X.w) X.A X.xe none (EP X pins σ Q) acc C) K hc ht he I2 T st2 f2 q fun D C H' s' I' L q' => ?_
  obtain ⟨m, hn⟩ := L.ns
  exact ⟨m, hn, fun h' hs' => ⟨.ref D, H', L.inv I' hs', rfl, q'⟩⟩
theorem ps_setG {elt iter : Expr} {ifs : List Expr} {pos px spos py : Pos} {y : Str} {i : Nat} {wi : TI} {tt : BC TT} {te : BC TE} (K : CompOk X scope cl x fr ix) (hc : X.calm = true) (hN : X.N.Nodup) (hy : X.N[i]? = some y) (hl : Loc X.env.scope y)
    (hi : PI X (.Name x px) iter wi) (ht : ∀ fp C s₀ H₀, PFs (cxC X (x :: fr) scope cl fp C s₀ H₀) ifs (tt fp C s₀ H₀)) (he : ∀ fp C s₀ H₀, PE (cxC X (x :: fr) scope cl fp C s₀ H₀) elt (te fp C s₀ H₀))
    (hsw : swapsWith (.ListComp elt [⟨.Name x px, iter, ifs, 0⟩] scope pos) (some (.Name y py)) spos.line X.env = pure true := by rfl)
    (hf : X.fn y = true ∨ X.env.scope.names.lookup y = some .local := by first | exact .inl rfl | exact .inr rfl | assumption)
    (hs : ∀ x, foldedSetIterable iter X.env x = pure x := by intro _; rfl) : PS X (.Assign [.Name y py] (.ListComp elt [⟨.Name x px, iter, ifs, 0⟩] scope pos) spos) (tAsg (tCG wi ix tt te) (gName i)) := by
  intro pins s σ H D I h
  rw [exec_Assign_Name_used _ _ _ _ hsw]
  refine wpAny_bind (wpAny_standAt (wpAny_bind ?_))
  refine wpAny_bind (wpAny_mono (wpAny_comprehension_free (use := some (assign (.Name y py) X.env)) (Q := fun _ s' => SP X pins D .next s') rfl hs K.clos K.kind K.names
    (thn (hi pins s σ H _ I h) fun v s1 h1 => thn h1 fun itv s2 h2 => ?_)) (fun _ s' hq => wpAny_pure (wpAny_pure hq)) fun _ _ e => e)
  obtain ⟨it, fp, tn, J, H2, e, I2, T, st2, f2, q⟩ := h2
  subst e
  refine comp_walk (Q := fun x H1 => gName i x σ H1 D.nx) (RR := fun acc C => compPost (model X.prog X.w) X.A X.xe (some (assign (.Name y py) X.env)) (fun _ s' => SP X pins D .next s') acc C) K hc ht he I2 T st2 f2 q fun Dl C H' s' I' L q' => ?_
  show wpAny _ _ (assign (.Name y py) X.env (.ref Dl)) _ _ _
  refine wpAny_assign_Name (store_ok2 I' hN hy hl (show RelV (.ref Dl) (.ref Dl) from rfl) (fun s3 I3 ⟨a, sb, ha⟩ => ?_) hf)
  obtain ⟨m, hn⟩ := L.ns
  have nCa : C ≠ a := by
    rcases ha with z | z
    · rw [z]; exact L.nl
    · exact fun w => L.nc y a z w.symm
  have L3 : LetGo X pins H' s3 C := ⟨⟨m, hn.sameBut sb nCa⟩, L.no, L.nl, L.ab, L.nc, L.np⟩
  exact ⟨m, hn.sameBut sb nCa, fun h' hs' => ⟨_, H', L3.inv I3 hs', q'⟩⟩
end
end L2

namespace L2
open PySem PySem.Spec PyProof.Rows
section
variable {X : Cx}
theorem CompOk.closed {scope : Scope} {x : Str} (hn : ∀ y ∈ scope.names, y.2 ≠ .cell ∧ y.2 ≠ .free) (kind : scope.kind = .function) (names : ∀ y ∈ scope.names, y.2 = .local → scope.names.lookup y.1 = some .local) (hx : scope.names.lookup x = some .local) : CompOk X scope [] x [] [] := by
  have e : (relabel scope X.env).names = scope.names := by
    unfold relabel
    refine map_eq_self fun y hy => ?_
    obtain ⟨n, k⟩ := y
    have h2 : k ≠ .free := (hn _ hy).2
    have : (k == NameKind.free) = false := by cases k <;> first | rfl | exact absurd rfl h2
    simp [this]
  refine ⟨closureFor_none fun y hy => (hn y hy).2, fun y hy => (hn y hy).1, kind, names, hx, fun y c h => (by cases h), fun y h => ?_, rfl, fun k j y h => (by cases h), List.nodup_cons.mpr ⟨by simp, List.nodup_nil⟩⟩
  rw [e] at h
  rcases h with h | h
  · exact absurd rfl (hn _ (PySem.mem_of_lookup h)).1
  · exact absurd rfl (hn _ (PySem.mem_of_lookup h)).2
end
end L2

namespace L2
open PySem PySem.Spec PyProof.Rows
def Ite (K : PySem.W.Frag) (a : Addr) : It :=
  ⟨fun i H => ∃ xs x, SqL K H a xs ∧ xs[i]? = some x, fun i H v H' => ∃ t x, v = .ref t ∧ H t = none ∧ H' = upd H t (.tup [.int (i : Nat), x]) ∧ ∀ xs, SqL K H a xs → xs[i]? = some x, fun i H => ∃ xs, SqL K H a xs ∧ xs.length ≤ i⟩
theorem turn_enum {P : Program} {w : World} {K : PySem.W.Frag} {es : List Expr} {kt : Nat} {tp : Pos} (a e it : Addr) (hei : e ≠ it) :
    Turn P w K (.Tuple es kt tp) (Ite K a) [e, it] e (fun i h => (∃ old, IsEnum h e it (i : Nat) old) ∧ h.IsListIter it a i) where
  mem := by simp
  obj := fun i h st b hb => by
    obtain ⟨⟨old, he⟩, o, e2, c, d⟩ := st
    rcases List.mem_cons.mp hb with z | z
    · subst z; exact ⟨_, he, fun v q => by cases (show Data.fields _ = Data.cell v from q)⟩
    · rw [List.mem_singleton.mp z]; exact ⟨o, e2, fun v q => by rw [d] at q; cases q⟩
  keep := fun i h h' st k => by
    obtain ⟨⟨old, he⟩, hit⟩ := st
    exact ⟨⟨old, k e (by simp) _ he⟩, hit.at fun o q => k it (by simp) o q⟩
  item := by
    intro X hP hw hK hc i pins s σ H E I hf st hg
    subst hP hw hK
    obtain ⟨xs, x, hq, hx⟩ := hg
    obtain ⟨⟨old, he⟩, hit⟩ := st
    obtain ⟨its, rv, p, hz⟩ := I.list hq
    obtain ⟨u, hu, ru⟩ := rv.get hx
    obtain ⟨oa, na, ha, hca, _, hda⟩ := p
    refine wpAny_pyNext_enum_item he hit (show s.heap.IsList a its.toArray from ⟨oa, ha, hca, na, hda⟩) (x := u) (by simpa using hu) hei fun h' ho hit' hT hsz hk => ?_
    have hTn : H s.heap.objs.size = none := I.fresh
    have hTe : s.heap.objs.size ≠ e := Nat.ne_of_gt (Heap.lt_size he)
    refine ⟨_, rfl, wpAny_letOwnedTupleGo_enum ho fun h'' he'' hs'' => ?_⟩
    have hTi : s.heap.objs.size ≠ it := by obtain ⟨_, q, _⟩ := id hit; exact Nat.ne_of_gt (Heap.lt_size q)
    have kk : ∀ b o, b ∉ [e, it] → s.heap.get? b = some o → h''.get? b = some o := fun b o hb q => by
      have n1 : b ≠ e := fun z => hb (by simp [z])
      have n2 : b ≠ it := fun z => hb (by simp [z])
      exact (hs''.2 b n1).trans (hk b o n1 n2 q)
    have I1 : Inv X pins σ (upd H s.heap.objs.size (.tup [.int (i : Nat), x])) { s with heap := h'', toks := s.toks + 1 } :=
      I.laidN (ch := [e, it]) hf kk (Heap.get?_none_of_le (Nat.le_refl _)) hTn ⟨by show 2 ≤ sizeLine; decide, [.int (i : Nat) s.toks, u], .cons ⟨_, rfl⟩ (.cons ru .nil), ⟨_, (hs''.2 _ hTe).trans hT, rfl, _, rfl⟩⟩
    refine ⟨.ref s.heap.objs.size, _, I1, rfl, ⟨_, x, rfl, hTn, rfl, fun ys hy => by rw [I.list_inj hy hq]; exact hx⟩, ⟨⟨u, by simpa using he''⟩, hit'.at fun o q => (hs''.2 it hei.symm).trans q⟩, fun b hb => ?_⟩
    rw [upd_ne (by
      rcases List.mem_cons.mp hb with z | z
      · rw [z]; exact hTe.symm
      · rw [List.mem_singleton.mp z]; exact hTi.symm)]
    exact (hf b hb).1
  done := by
    intro X hP hw hK hc i pins s σ H E I hf st hg
    subst hP hw hK
    obtain ⟨xs, hq, hx⟩ := hg
    obtain ⟨⟨old, he⟩, hit⟩ := st
    obtain ⟨its, rv, p, hz⟩ := I.list hq
    have hl := rv.length
    refine wpAny_pyNext_enum_end (I.ok.hd hc) he hit p.isList (by simp; omega) fun h' eb => ⟨rfl, ?_⟩
    have k : ∀ b o, b ∉ [e, it] → s.heap.get? b = some o → h'.get? b = some o := fun b o hb q => eb b o (fun z => hb (by simp [z])) q
    refine I.step (g' := s.gens) (d' := s.drawn) (t' := s.toks) (ch := [e, it]) (fun b hb => ?_) (fun b o _ _ hc e _ => k b o hc e) (fun b o _ _ hc e _ => ⟨o.slots, k b o hc e⟩) (fun _ _ _ _ n => n)
      (fun b o hc e => ⟨o, k b o hc e⟩) (fun _ _ e => e) (fun _ _ _ e => e) (fun b ps e => ⟨#[], by rw [e]; simp⟩) (fun m hm => ?_) (fun b u q => ?_) I.bare
    · obtain ⟨_, h2, h3, h4, h5, h6⟩ := hf b hb
      exact ⟨h4, h2, h5, h6⟩
    · obtain ⟨o, es, ep, ho, r⟩ := hm
      exact ⟨o, es, ep, k _ o (fun z => (hf _ z).2.1 rfl) ho, r⟩
    · have nch : ∀ b u, H b = some u → b ∉ [e, it] := fun b u q z => by rw [(hf b z).1] at q; cases q
      refine (I.hok b u q).stay (fun c v hc q' => k c v ?_ q') (fun _ q => q) fun _ _ q => q
      rcases hc with z | z
      · rw [z]; exact nch b u q
      · exact nch c _ z
  self := fun _ _ _ _ _ st h => by
    obtain ⟨⟨old, he⟩, _⟩ := st
    exact wpAny_pyIter_enum he h
section
variable {X : Cx}
def iEnum (K : PySem.W.Frag) (ta : TA) : TI := fun σ H R => ta σ H fun vs H1 => ∃ a, vs = [.ref a] ∧ (∃ xs, SqL K H1 a xs) ∧ R (Ite K a) H1
theorem pi_enum {es : List Expr} {kt : Nat} {tp : Pos} {a : Expr} {ta : TA} {p pos : Pos} (hg : Gl X "enumerate") (hm : X.mg "enumerate" = none) (ha : PA X [a] ta) (hs : starEach [a] X.env = [(false, eval a X.env)] := by rfl) : PI X (.Tuple es kt tp) (.Call (.Name "enumerate" p) [a] [] pos) (iEnum X.K ta) := by
  intro pins s σ H R I h
  refine Call_ (ld_blt I hg hm boot_enumerate (PyProof.Rows.callWith_type1 (thn (ha pos pins s σ H _ I h) fun us s1 ⟨vs, H1, I1, r1, q1⟩ => ?_) hs rfl))
  obtain ⟨l, e, ⟨xs, hq⟩, q⟩ := q1
  subst e
  cases r1 with
  | cons r rr =>
    cases rr
    cases r
    obtain ⟨its, rv, pl, hz⟩ := I1.list hq
    refine call_enumerate_list pl.isList fun h' he hit hsz hk => wpAny_pyIter_enum he ?_
    have n1 : H1 s1.heap.objs.size = none := I1.fresh
    have n2 : H1 (s1.heap.objs.size + 1) = none := I1.hok.fresh (Nat.le_succ _)
    refine ⟨s1.heap.objs.size + 1, [s1.heap.objs.size + 1, s1.heap.objs.size], _, _, H1, rfl, I1.kept (t' := s1.toks) hk, turn_enum l _ _ (Nat.succ_ne_self _), ⟨⟨_, he⟩, hit⟩, fun b hb => ?_, q⟩
    rcases List.mem_cons.mp hb with z | z
    · rw [z]; exact I1.fpOk (Nat.le_succ _) n2
    · rw [List.mem_singleton.mp z]; exact I1.fpOk (Nat.le_refl _) n1
end
theorem for_enum {K : PySem.W.Frag} {a : Addr} {xs : List V} {g : TG} {tb : TS} {D : Ends} {σ : St} {H : Hp} (Pv : Nat → St → Hp → Prop) (h0 : Pv 0 σ H) (hl : ∀ i σ H, i ≤ xs.length → Pv i σ H → SqL K H a xs)
    (hs : ∀ i x σ H t, xs[i]? = some x → Pv i σ H → H t = none → g (.ref t) σ (upd H t (.tup [.int (i : Nat), x])) fun σ2 H2 => tb { D with nx := Pv (i + 1), ct := Pv (i + 1), bk := D.nx } σ2 H2) (hd : ∀ σ H, Pv xs.length σ H → D.nx σ H) :
    ∃ W : Nat → Nat → St → Hp → Prop, (∃ m, W 0 m σ H) ∧ ∀ i m σ H, W i m σ H →
      ((Ite K a).stop i H ∧ D.nx σ H) ∨ ((Ite K a).go i H ∧ ∃ N : St → Hp → Prop, (∀ σ' H', N σ' H' → ∃ m', m' < m ∧ W (i + 1) m' σ' H') ∧ ∀ x H', (Ite K a).yld i H x H' → g x σ H' fun σ2 H2 => tb { D with nx := N, ct := N, bk := D.nx } σ2 H2) := by
  refine ⟨fun i m σ H => m = xs.length - i ∧ i ≤ xs.length ∧ Pv i σ H, ⟨xs.length, by simp, Nat.zero_le _, h0⟩, ?_⟩
  rintro i m σ H ⟨rfl, hi, p⟩
  have q := hl i σ H hi p
  by_cases hlt : i < xs.length
  · refine .inr ⟨⟨xs, xs[i], q, by simp [hlt]⟩, Pv (i + 1), fun σ' H' p' => ⟨xs.length - (i + 1), by omega, rfl, hlt, p'⟩, fun x H' y => ?_⟩
    obtain ⟨t, x', rfl, ht, rfl, y⟩ := y
    exact hs i x' σ _ t (y xs q) p ht
  · have e : i = xs.length := by omega
    subst e
    exact .inl ⟨⟨xs, q, Nat.le_refl _⟩, hd σ H p⟩
end L2


namespace Yd

def nx (m p : Nat) : Nat := if p + 1 = m then 0 else p + 1
def dist (m w p : Nat) : Nat := if w ≤ p then p - w else p + m - w
theorem nx_spec (m p : Nat) : (p + 1 = m ∧ nx m p = 0) ∨ (p + 1 ≠ m ∧ nx m p = p + 1) := by
  unfold nx; split <;> omega
theorem dist_spec (m w p : Nat) : (w ≤ p ∧ dist m w p = p - w) ∨ (p < w ∧ dist m w p = p + m - w) := by
  unfold dist; split <;> omega
theorem nx_lt {m p : Nat} (h : p < m) : nx m p < m := by have := nx_spec m p; omega
theorem dist_lt {m w p : Nat} (hw : w < m) (hp : p < m) : dist m w p < m := by have := dist_spec m w p; omega
theorem dist_self (m w : Nat) : dist m w w = 0 := by have := dist_spec m w w; omega
theorem dist_zero {m w p : Nat} (hw : w < m) (hp : p < m) (h : dist m w p = 0) : w = p := by have := dist_spec m w p; omega
theorem dist_inj {m w p q : Nat} (hw : w < m) (hp : p < m) (hq : q < m) (h : dist m w p = dist m w q) : p = q := by
  have := dist_spec m w p; have := dist_spec m w q; omega
theorem tri {m a b c : Nat} (ha : a < m) (hb : b < m) (hc : c < m) : dist m a c = dist m a b + dist m b c ∨ dist m a c + m = dist m a b + dist m b c := by
  unfold dist
  split <;> split <;> split <;> omega
theorem dist_one {m p : Nat} (hp : p < m) (h2 : 2 ≤ m) : dist m p (nx m p) = 1 := by
  unfold dist nx
  split <;> split <;> omega
theorem dist_nx {m w p : Nat} (hw : w < m) (hp : p < m) : (nx m p = w ∧ dist m w (nx m p) = 0 ∧ dist m w p = m - 1) ∨ (nx m p ≠ w ∧ dist m w (nx m p) = dist m w p + 1) := by
  by_cases h1 : m = 1
  · refine .inl ?_
    have e1 : w = 0 := by omega
    have e2 : p = 0 := by omega
    subst h1 e1 e2
    exact ⟨rfl, rfl, rfl⟩
  · have hn := nx_lt hp
    have h3 := dist_one hp (by omega)
    have h4 := dist_lt hw hp
    have h5 := dist_lt hw hn
    rcases tri hw hp hn with h | h
    · refine .inr ⟨fun z => ?_, by omega⟩
      have z2 : dist m w (nx m p) = 0 := by rw [z, dist_self]
      omega
    · refine .inl ⟨(dist_zero hw hn (by omega)).symm, by omega, by omega⟩
theorem dist_to {m p f : Nat} (hp : p < m) (hf : f < m) (h : p ≠ f) : dist m (nx m p) f + 1 = dist m p f := by
  have hn := nx_lt hp
  have h3 := dist_one hp (by omega)
  have h4 := dist_lt hp hf
  have h5 := dist_lt hn hf
  have h6 : dist m p f ≠ 0 := fun z => h (dist_zero hp hf z)
  rcases tri hp hn hf with q | q <;> omega
def ws (m : Nat) (n : Int) : Nat := (n % (m : Int)).toNat
theorem ws_lt {m : Nat} (h : 0 < m) (n : Int) : ws m n < m := by
  unfold ws
  have h1 := Int.emod_lt_of_pos n (show (0 : Int) < m by omega)
  have h2 := Int.emod_nonneg n (show (m : Int) ≠ 0 by omega)
  omega
theorem ws_int {m : Nat} (h : 0 < m) (n : Int) : (ws m n : Int) = n % (m : Int) := by
  unfold ws
  have h2 := Int.emod_nonneg n (show (m : Int) ≠ 0 by omega)
  omega
theorem way_eq {m : Nat} (h : 0 < m) (n : Int) {p : Nat} (hp : p < m) : ((p : Int) - n) % (m : Int) = (dist m (ws m n) p : Int) := by
  have h1 := ws_int h n
  have h2 := ws_lt h n
  have h3 := dist_spec m (ws m n) p
  have h4 : ((p : Int) - n) % (m : Int) = ((p : Int) - (ws m n : Int)) % (m : Int) := by
    rw [h1, Int.sub_emod, Int.sub_emod (p : Int) (n % (m : Int)), Int.emod_emod]
  rw [h4]
  rcases h3 with ⟨a, b⟩ | ⟨a, b⟩
  · rw [b, Int.emod_eq_of_lt (by omega) (by omega)]; omega
  · rw [b]
    have : ((p : Int) - (ws m n : Int)) % (m : Int) = ((p : Int) - (ws m n : Int) + m) % (m : Int) := by rw [Int.add_emod_right]
    rw [this, Int.emod_eq_of_lt (by omega) (by omega)]; omega
theorem way_eq' {m : Nat} (h : 0 < m) (n : Int) {p : Nat} (hp : p < m) : ((p : Int) - n % (m : Int)) % (m : Int) = (dist m (ws m n) p : Int) := by
  rw [← way_eq h n hp, Int.sub_emod, Int.emod_emod, ← Int.sub_emod]
theorem nx_int {m p : Nat} (h : p < m) : ((p : Int) + 1) % (m : Int) = (nx m p : Int) := by
  have := nx_spec m p
  rcases this with ⟨a, b⟩ | ⟨a, b⟩
  · rw [b, show (p : Int) + 1 = m by omega, Int.emod_self]; rfl
  · rw [b, Int.emod_eq_of_lt (by omega) (by omega)]; omega

def kp (m : Nat) (rule : Int) (a b : Int) (q : Nat) : Bool :=
  if rule = 0 then true
  else if rule = 2 then
    if dist m (ws m a) q = dist m (ws m b) q then decide (a < b) else decide (dist m (ws m b) q < dist m (ws m a) q)
  else decide (a < b)
abbrev Lay := List (Option Int)
def g (c : Lay) (p : Nat) : Option Int := (c[p]?).getD none
theorem g_lt {c : Lay} {p : Nat} {n : Int} (h : g c p = some n) : p < c.length := by
  unfold g at h
  rcases Nat.lt_or_ge p c.length with q | q
  · exact q
  · rw [List.getElem?_eq_none q] at h; cases h
theorem g_get {c : Lay} {p : Nat} (h : p < c.length) : c[p]? = some (g c p) := by
  unfold g; rw [List.getElem?_eq_getElem h]; rfl
theorem g_set {c : Lay} {p q : Nat} {v : Option Int} (hp : p < c.length) : g (c.set p v) q = if q = p then v else g c q := by
  unfold g
  by_cases e : q = p
  · subst e; rw [List.getElem?_set_self hp, if_pos rfl]; rfl
  · rw [List.getElem?_set_ne (Ne.symm e), if_neg e]
theorem g_set_ne {c : Lay} {p q : Nat} {v : Option Int} (hp : p < c.length) (h : q ≠ p) : g (c.set p v) q = g c q := by rw [g_set hp, if_neg h]
structure Okay (m : Nat) (rule : Int) (c : Lay) (gap : Option Nat) : Prop where
  len : c.length = m
  inj : ∀ p q n, g c p = some n → g c q = some n → p = q
  pas : ∀ p n, g c p = some n → ∀ q, q < m → dist m (ws m n) q < dist m (ws m n) p → (∃ k, g c q = some k ∧ kp m rule k n q = true) ∨ gap = some q
  fre : ∃ p, p < m ∧ g c p = none
abbrev Right (m : Nat) (rule : Int) (c : Lay) : Prop := Okay m rule c none
theorem Okay.pas' {m : Nat} {rule : Int} {c : Lay} (R : Right m rule c) {p : Nat} {n : Int} (h : g c p = some n) {q : Nat} (hq : q < m) (d : dist m (ws m n) q < dist m (ws m n) p) : ∃ k, g c q = some k ∧ kp m rule k n q = true := by
  rcases R.pas p n h q hq d with x | x
  · exact x
  · cases x

def putL (m : Nat) (rule : Int) : Nat → Lay → Int → Nat → List (Int × Nat) × Lay
  | 0, c, _, _ => ([], c)
  | k + 1, c, x, p => match g c p with
    | none => ([(x, p)], c.set p (some x))
    | some s => if kp m rule s x p = true then putL m rule k c x (nx m p)
      else ((x, p) :: (putL m rule k (c.set p (some x)) s (nx m p)).1, (putL m rule k (c.set p (some x)) s (nx m p)).2)

def nm (c : Lay) : List Int := c.filterMap id
theorem g_nil (p : Nat) : g [] p = none := rfl
theorem g_zero (v : Option Int) (c : Lay) : g (v :: c) 0 = v := rfl
theorem nm_cons (v : Option Int) (c : Lay) : nm (v :: c) = v.toList ++ nm c := by cases v <;> rfl
theorem mem_nm {c : Lay} {n : Int} : n ∈ nm c ↔ ∃ p, g c p = some n := by
  induction c with
  | nil => constructor
           · intro h; cases h
           · rintro ⟨p, h⟩; cases h
  | cons v c ih =>
    rw [nm_cons, List.mem_append, ih]
    constructor
    · rintro (h | ⟨p, h⟩)
      · cases v with
        | none => cases h
        | some k => simp at h; subst h; exact ⟨0, rfl⟩
      · exact ⟨p + 1, h⟩
    · rintro ⟨p, h⟩
      cases p with
      | zero => rw [g_zero] at h; subst h; exact .inl (by simp)
      | succ p => exact .inr ⟨p, h⟩
theorem nm_nodup : ∀ {c : Lay}, (∀ p q n, g c p = some n → g c q = some n → p = q) → (nm c).Nodup
  | [], _ => List.nodup_nil
  | v :: c, h => by
    have ih := nm_nodup (c := c) fun p q n a b => by have := h (p + 1) (q + 1) n a b; omega
    cases v with
    | none => exact ih
    | some k =>
      show (k :: nm c).Nodup
      refine List.nodup_cons.mpr ⟨fun z => ?_, ih⟩
      obtain ⟨p, hp⟩ := mem_nm.mp z
      have := h 0 (p + 1) k rfl hp
      omega
theorem free_nm : ∀ c : Lay, c.count none + (nm c).length = c.length
  | [] => rfl
  | none :: c => by have := free_nm c; rw [nm_cons]; simp; omega
  | some k :: c => by have := free_nm c; rw [nm_cons]; simp; omega
theorem free_of : ∀ {c : Lay}, 0 < c.count none → ∃ p, p < c.length ∧ g c p = none
  | [], h => by simp at h
  | none :: c, _ => ⟨0, by simp, rfl⟩
  | some k :: c, h => by
    obtain ⟨p, a, b⟩ := free_of (c := c) (by simpa using h)
    exact ⟨p + 1, by simpa using a, b⟩
theorem free_pos : ∀ {c : Lay} {p : Nat}, p < c.length → g c p = none → 0 < c.count none
  | [], p, h, _ => by cases h
  | none :: c, _, _, _ => by simp
  | some k :: c, 0, _, h => by cases h
  | some k :: c, p + 1, h, e => by
    have := free_pos (c := c) (p := p) (by simpa using h) e
    simpa using this

def off (m i j : Nat) : Nat := if i + j < m then i + j else i + j - m
theorem off_spec (m i j : Nat) : (i + j < m ∧ off m i j = i + j) ∨ (m ≤ i + j ∧ off m i j = i + j - m) := by unfold off; split <;> omega
end Yd

namespace Y
open PySem L2 Yd
def cV : Option Int → V
  | none => .non
  | some n => .int n
def layV (c : Lay) : List V := c.map cV
theorem layV_len (c : Lay) : (layV c).length = c.length := List.length_map ..
theorem layV_get {c : Lay} {p : Nat} (h : p < c.length) : (layV c)[p]? = some (cV (g c p)) := by
  unfold layV; rw [List.getElem?_map, g_get h]; rfl
theorem layV_set (c : Lay) (p : Nat) (v : Option Int) : layV (c.set p v) = (layV c).set p (cV v) := by
  unfold layV; rw [List.map_set]
theorem layV_at {c : Lay} {p : Nat} (h : p < c.length) : atI (layV c) (p : Int) = some (cV (g c p)) := atI_nat (layV_get h)
theorem layV_ix {c : Lay} {p : Nat} (h : p < c.length) : ixN (layV c).length (p : Int) = some p := by rw [layV_len]; exact ixN_nat h
theorem layV_plain (c : Lay) : (layV c).all plainV = true := by
  unfold layV; rw [List.all_map]; refine List.all_eq_true.mpr fun v _ => ?_
  cases v <;> rfl
theorem layV_flat (c : Lay) : (layV c).all flatV = true := by
  unfold layV; rw [List.all_map]; refine List.all_eq_true.mpr fun v _ => ?_
  cases v <;> rfl
theorem layV_in (c : Lay) (n : Int) : inV (.int n) (layV c) = decide (n ∈ nm c) := by
  rw [Bool.eq_iff_iff, decide_eq_true_iff]
  induction c with
  | nil => simp [inV, layV, nm]
  | cons v c ih =>
    rw [nm_cons, List.mem_append, ← ih]
    show (inV (.int n) (cV v :: layV c)) = true ↔ _
    unfold inV
    rw [List.any_cons, Bool.or_eq_true]
    cases v with
    | none =>
      constructor
      · rintro (h | h)
        · exact absurd (show false = true from h) Bool.false_ne_true
        · exact .inr h
      · rintro (h | h)
        · cases h
        · exact .inr h
    | some k =>
      have e : eqV (cV (some k)) (.int n) = true ↔ n ∈ (some k).toList := by
        show (k == n) = true ↔ _
        rw [beq_iff_eq, Option.mem_toList, Option.some.injEq]
      rw [e]
      try exact Iff.rfl
theorem layV_count (c : Lay) : (layV c).countP (fun z => eqV z .non) = c.count none := by
  induction c with
  | nil => rfl
  | cons v c ih =>
    show (cV v :: layV c).countP _ = _
    rw [List.countP_cons, ih, List.count_cons]
    cases v <;> rfl
theorem layV_empty (m : Nat) : (List.replicate m [V.non]).flatten = layV (List.replicate m none) := by
  induction m with
  | zero => rfl
  | succ m ih => rw [List.replicate_succ, List.flatten_cons, ih, List.replicate_succ]; rfl
theorem empty_nm (m : Nat) : nm (List.replicate m none) = [] := by
  induction m with
  | zero => rfl
  | succ m ih => rw [List.replicate_succ, nm_cons, ih]; rfl

theorem s_mr : ¬ (("many" : Str) = "rule") := by decide +kernel
theorem s_mc : ¬ (("many" : Str) = "cells") := by decide +kernel
theorem s_rc : ¬ (("rule" : Str) = "cells") := by decide +kernel
def flds (m : Nat) (rule : Int) (ca : Addr) : List (Str × V) := putF "cells" (.ref ca) (putF "rule" (.int rule) (putF "many" (.int m) []))
theorem flds_many (m : Nat) (rule : Int) (ca : Addr) : (flds m rule ca).lookup ("many" : Str) = some (.int m) := by
  unfold flds
  rw [lookup_putF, if_neg s_mc, lookup_putF, if_neg s_mr, lookup_putF, if_pos rfl]
theorem flds_rule (m : Nat) (rule : Int) (ca : Addr) : (flds m rule ca).lookup ("rule" : Str) = some (.int rule) := by
  unfold flds
  rw [lookup_putF, if_neg s_rc, lookup_putF, if_pos rfl]
theorem flds_cells (m : Nat) (rule : Int) (ca : Addr) : (flds m rule ca).lookup ("cells" : Str) = some (.ref ca) := by
  unfold flds
  rw [lookup_putF, if_pos rfl]
theorem flds_no (m : Nat) (rule : Int) (ca : Addr) {x : Str} (h1 : ¬ x = "cells") (h2 : ¬ x = "rule") (h3 : ¬ x = "many") : (flds m rule ca).lookup x = none := by
  unfold flds
  rw [lookup_putF, if_neg h1, lookup_putF, if_neg h2, lookup_putF, if_neg h3]
  rfl
structure YardAt (C : Addr) (H : Hp) (y ca : Addr) (m : Nat) (rule : Int) (c : Lay) : Prop where
  ob : ∃ dx, H y = some (.ins C dx (flds m rule ca))
  ls : H ca = some (.lst (layV c))
  len : c.length = m
  few : m ≤ 200
theorem YardAt.same {C : Addr} {H H' : Hp} {y ca : Addr} {m : Nat} {rule : Int} {c : Lay} (Y : YardAt C H y ca m rule c) (s : Same H H') : YardAt C H' y ca m rule c := by
  obtain ⟨dx, h⟩ := Y.ob
  exact ⟨⟨dx, s _ _ h⟩, s _ _ Y.ls, Y.len, Y.few⟩
def SameX (a : Addr) (H H' : Hp) : Prop := ∀ b o, H b = some o → b ≠ a → H' b = some o
theorem SameX.refl (a : Addr) (H : Hp) : SameX a H H := fun _ _ h _ => h
theorem sx_of {a : Addr} {H H' : Hp} (x : Same H H') : SameX a H H' := fun b o h _ => x b o h
theorem same_upd {H : Hp} {a : Addr} {o : HO} (h : H a = none) : Same H (upd H a o) := fun b u e => by rw [upd_ne (ne_of_none e h)]; exact e
theorem samex_upd {H : Hp} {a : Addr} {o : HO} : SameX a H (upd H a o) := fun b u e n => by rw [upd_ne n]; exact e
structure Told (H : Hp) (l : Addr) (xs : List (Int × Nat)) : Prop where
  ex : ∃ ts : List Addr, H l = some (.lst (ts.map V.ref)) ∧ TupsAt H ts (xs.map fun q => [q.1, (q.2 : Int)])
theorem tups_same {H H' : Hp} (s : ∀ b xs, H b = some (.tup xs) → H' b = some (.tup xs)) :
    ∀ {ts : List Addr} {ns : List (List Int)}, TupsAt H ts ns → TupsAt H' ts ns
  | _, _, .nil => .nil
  | _, _, .cons r t => .cons (s _ _ r) (tups_same s t)
theorem tups_snoc {H : Hp} : ∀ {ts : List Addr} {ns : List (List Int)} {t : Addr} {n : List Int}, TupsAt H ts ns → H t = some (.tup (n.map V.int)) → TupsAt H (ts ++ [t]) (ns ++ [n])
  | _, _, _, _, .nil, h => .cons h .nil
  | _, _, _, _, .cons r t, h => .cons r (tups_snoc t h)
theorem Told.same {H H' : Hp} {l : Addr} {xs : List (Int × Nat)} (T : Told H l xs) (s : Same H H') : Told H' l xs := by
  obtain ⟨ts, h1, h2⟩ := T.ex
  exact ⟨⟨ts, s _ _ h1, tups_same (fun b ys e => s b _ e) h2⟩⟩
theorem Told.samex {H H' : Hp} {l a : Addr} {xs : List (Int × Nat)} {ys : List V} (T : Told H l xs) (ha : H a = some (.lst ys)) (hl : l ≠ a) (s : SameX a H H') : Told H' l xs := by
  obtain ⟨ts, h1, h2⟩ := T.ex
  exact ⟨⟨ts, s _ _ h1 hl, tups_same (fun b ys e => s b _ e (ne_of e ha (by intro z; cases z))) h2⟩⟩
theorem Told.snoc {H : Hp} {l t : Addr} {ts : List Addr} {xs : List (Int × Nat)} {n : Int} {p : Nat} (h1 : H l = some (.lst (ts.map V.ref))) (h2 : TupsAt H ts (xs.map fun q => [q.1, (q.2 : Int)]))
    (ht : H t = some (.tup [.int n, .int p])) : Told (upd H l (.lst (ts.map V.ref ++ [.ref t]))) l (xs ++ [(n, p)]) := by
  refine ⟨⟨ts ++ [t], by rw [upd_same, List.map_append]; rfl, ?_⟩⟩
  rw [List.map_append]
  have nl : ∀ b ys, H b = some (.tup ys) → b ≠ l := fun b ys e => ne_of e h1 (by intro z; cases z)
  refine tups_snoc (tups_same (fun b ys e => by rw [upd_ne (nl b ys e)]; exact e) h2) ?_
  rw [upd_ne (nl t _ ht)]; exact ht
end Y
namespace Y
open PySem L2 Yd
theorem kp_far {m : Nat} {r a b : Int} {q : Nat} (hq : q < m) (h2 : r = 2) (ne : ((q : Int) - a) % (m : Int) - ((q : Int) - b) % (m : Int) ≠ 0) :
    kp m r a b q = decide (0 < ((q : Int) - a) % (m : Int) - ((q : Int) - b) % (m : Int)) := by
  have e1 := way_eq (show 0 < m by omega) a hq
  have e2 := way_eq (show 0 < m by omega) b hq
  rw [e1, e2] at ne ⊢
  unfold kp
  rw [if_neg (by omega), if_pos h2, if_neg (by omega)]
  rw [Bool.eq_iff_iff, decide_eq_true_iff, decide_eq_true_iff]
  omega
theorem kp_far0 {m : Nat} {r a b : Int} {q : Nat} (hq : q < m) (h2 : r = 2) (ne : ((q : Int) - a) % (m : Int) - ((q : Int) - b) % (m : Int) = 0) : kp m r a b q = decide (a < b) := by
  have e1 := way_eq (show 0 < m by omega) a hq
  have e2 := way_eq (show 0 < m by omega) b hq
  rw [e1, e2] at ne
  unfold kp
  rw [if_neg (by omega), if_pos h2, if_pos (by omega)]
theorem kp_name {m : Nat} {r a b : Int} {q : Nat} (h0 : r ≠ 0) (h2 : r ≠ 2) : kp m r a b q = decide (a < b) := by
  unfold kp
  rw [if_neg h0, if_neg h2]
theorem kp_zero {m : Nat} {r a b : Int} {q : Nat} (h0 : r = 0) : kp m r a b q = true := by
  unfold kp
  rw [if_pos h0]
def spWay : Sp := fun vs H Q _ => ∃ n a m : Int, vs = [.int n, .int a, .int m] ∧ 0 < m ∧ Q (.int ((a - n) % m)) H
def spKeeps : Sp := fun vs H Q _ => ∃ (r a b : Int) (q m : Nat), vs = [.int r, .int a, .int b, .int q, .int m] ∧ q < m ∧ Q (.bl (kp m r a b q)) H
def spInit (C : Addr) : Sp := fun vs H Q _ => ∃ (y dx : Addr) (m : Nat) (rule : Int), vs = [.ref y, .int m, .int rule] ∧ 2 ≤ m ∧ m ≤ 200 ∧ H y = some (.ins C dx []) ∧
  ∀ (ca : Addr) (H' : Hp), H ca = none → YardAt C H' y ca m rule (List.replicate m none) → (∀ b o, H b = some o → b ≠ y → H' b = some o) → Q .non H'
def spStalls (C : Addr) : Sp := fun vs H Q _ => ∃ (y ca : Addr) (m : Nat) (rule : Int) (c : Lay), vs = [.ref y] ∧ YardAt C H y ca m rule c ∧ ∀ (l : Addr), H l = none → Q (.ref l) (upd H l (.lst (layV c)))
structure Txt (K : PySem.W.Frag) (mg : Str → Option Value) (C : Addr) : Prop where
  cl : Cls K C
  nM : NoAttr K C "many"
  nR : NoAttr K C "rule"
  nC : NoAttr K C "cells"
  first : ∃ t, mg "FIRST" = some (.int 0 t)
  far : ∃ t, mg "FAR" = some (.int 2 t)
  lo : ∃ t, mg "LEAST_STALLS" = some (.int 2 t)
  hi : ∃ t, mg "MOST_STALLS" = some (.int 200 t)
  len : mg "len" = none
  sorted : mg "sorted" = none
  list : mg "list" = none
end Y

namespace Y
open PySem L2 Yd
structure LTxt (K : PySem.W.Frag) (mg : Str → Option Value) : Prop where
  len : mg "len" = none
  isi : mg "isinstance" = none
  int : mg "int" = none
  bool : mg "bool" = none
  list : mg "list" = none
  tuple : mg "tuple" = none
  kII : PySem.W.kitOne K (.type "int") (.type "int") = some true
  kIB : PySem.W.kitOne K (.type "int") (.type "bool") = some false
  kLL : PySem.W.kitOne K (.type "list") (.type "list") = some true
  kTT : PySem.W.kitOne K (.type "tuple") (.type "tuple") = some true
def spCell (K : PySem.W.Frag) : Sp := fun vs H Q _ => ∃ (a : Addr) (ns : List Int) (k : Nat), vs = [.ref a, .int k] ∧ SqL K H a (ns.map V.int) ∧ Q (.int (ns.getD k 0)) H
def spWhole : Sp := fun vs H Q _ => ∃ i : Int, vs = [.int i] ∧ Q (.bl true) H
def spLWay : Sp := fun vs H Q _ => ∃ (n : Int) (q m : Nat), vs = [.int n, .int q, .int m] ∧ q < m ∧ Q (.int (dist m (ws m n) q : Nat)) H
def spLKeeps : Sp := fun vs H Q _ => ∃ (r a b : Int) (q m : Nat), vs = [.int r, .int a, .int b, .int q, .int m] ∧ q < m ∧ 0 ≤ r ∧ r ≤ 2 ∧ ∀ H', Same H H' → Q (.bl (kp m r a b q)) H'
def spLPut : Sp := fun vs H Q _ => ∃ (a : Addr) (m : Nat) (rule : Int) (c : Lay) (n : Int) (f : Nat), vs = [.ref a, .int rule, .int n] ∧ H a = some (.lst (layV c)) ∧ c.length = m ∧ 0 ≤ rule ∧ rule ≤ 2 ∧ m ≤ 200 ∧ f < m ∧ g c f = none ∧
  ∀ (l : Addr) (H' : Hp), H l = none → Told H' l (putL m rule m c n (ws m n)).1 → H' a = some (.lst (layV (putL m rule m c n (ws m n)).2)) → SameX a H H' → Q (.ref l) H'
def spLRow (K : PySem.W.Frag) : Sp := fun vs H Q _ => ∃ (a b : Addr) (xs : List V), vs = [.ref a, .ref b] ∧ H a = some (.lst xs) ∧ SqL K H b xs ∧ xs.all plainV = true ∧ Q (.bl true) H
theorem lkp {m : Nat} {r a b : Int} {q : Nat} (h0 : r ≠ 0) (h1 : r ≠ 1) (hr : 0 ≤ r) (hr2 : r ≤ 2) :
    HT.lexLt [-(dist m (ws m a) q : Int), a] [-(dist m (ws m b) q : Int), b] = kp m r a b q := by
  have e : r = 2 := by omega
  subst e
  have e0 : ¬ ((2 : Int) = 0) := by decide
  have e2 : (2 : Int) = 2 := rfl
  unfold kp
  rw [HT.lexLt_cons, HT.lexLt_cons, HT.lexLt_nil_nil, if_neg e0, if_pos e2]
  by_cases h : dist m (ws m a) q = dist m (ws m b) q
  · have h1 : -(dist m (ws m a) q : Int) = -(dist m (ws m b) q : Int) := by omega
    rw [if_pos h1, if_pos h]
    by_cases h' : a = b
    · rw [if_pos h', h']
      exact (decide_eq_false (by omega)).symm
    · rw [if_neg h']
  · have h1 : ¬ -(dist m (ws m a) q : Int) = -(dist m (ws m b) q : Int) := by omega
    rw [if_neg h1, if_neg h, Bool.eq_iff_iff, decide_eq_true_iff, decide_eq_true_iff]
    omega
end Y

namespace Y
open PySem L2 Yd
end Y

namespace L2
open PySem PySem.Spec PyProof.Rows
section
variable {X : Cx}
theorem eqAt_bl {A : Around} {s : Shared} {xs ys : List Bool} {us ws : List Value} (r1 : Vals (xs.map V.bl) us) (r2 : Vals (ys.map V.bl) ws) (j : Nat) (h1 : j < us.toArray.size) (h2 : j < ws.toArray.size) :
    SeqAt.EqAt A s us.toArray[j] ws.toArray[j] (decide ((xs.map V.bl).getD j .non = (ys.map V.bl).getD j .non)) := by
  have l1 := r1.length
  have l2 := r2.length
  rw [List.length_map] at l1 l2
  have h1' : j < us.length := by simpa using h1
  have h2' : j < ws.length := by simpa using h2
  have e1 : (xs.map V.bl)[j]? = some (.bl (xs[j]'(by omega))) := by rw [List.getElem?_map, List.getElem?_eq_getElem (by omega)]; rfl
  have e2 : (ys.map V.bl)[j]? = some (.bl (ys[j]'(by omega))) := by rw [List.getElem?_map, List.getElem?_eq_getElem (by omega)]; rfl
  obtain ⟨u, a1, b1⟩ := r1.get e1
  obtain ⟨w, a2, b2⟩ := r2.get e2
  have := eqAt_V (A := A) (s := s) b1 b2 rfl rfl
  rw [List.getElem?_eq_getElem h1'] at a1
  rw [List.getElem?_eq_getElem h2'] at a2
  cases a1; cases a2
  rw [List.getD_eq_getElem?_getD, List.getD_eq_getElem?_getD, e1, e2]
  show SeqAt.EqAt A s _ _ (decide (V.bl _ = V.bl _))
  rw [dec_bl]
  exact this
theorem map_bl_inj {xs ys : List Bool} : xs.map V.bl = ys.map V.bl ↔ xs = ys := by
  constructor
  · intro h
    exact List.map_inj_right (fun a b q => by cases q; rfl) |>.mp h
  · rintro rfl; rfl
end
end L2
namespace Y
open PySem L2 Yd
theorem get_int {ms : List Int} {i : Nat} {x : V} (h : (ms.map V.int)[i]? = some x) : ∃ z, x = V.int z ∧ ms[i]? = some z := by
  rw [List.getElem?_map] at h
  cases e : ms[i]? with
  | none => rw [e] at h; cases h
  | some z => rw [e] at h; exact ⟨z, (Option.some.inj h).symm, rfl⟩
theorem cut_int (ns : List Int) (lo hi : Nat) : ∃ ms : List Int, cutV (ns.map V.int) (some (lo : Int)) (some (hi : Int)) = ms.map V.int ∧ ms.length ≤ hi - lo := by
  unfold cutV
  rw [← List.map_drop, ← List.map_take]
  refine ⟨_, rfl, ?_⟩
  rw [List.length_take]
  have e1 : HT.sIx (ns.map V.int).length 0 (some (lo : Int)) = min lo (ns.map V.int).length := by
    show (if (lo : Int) < 0 then ((lo : Int) + ((ns.map V.int).length : Int)).toNat else min (lo : Int).toNat (ns.map V.int).length) = min lo (ns.map V.int).length
    rw [if_neg (by omega)]; simp
  have e2 : HT.sIx (ns.map V.int).length (ns.map V.int).length (some (hi : Int)) = min hi (ns.map V.int).length := by
    show (if (hi : Int) < 0 then ((hi : Int) + ((ns.map V.int).length : Int)).toNat else min (hi : Int).toNat (ns.map V.int).length) = min hi (ns.map V.int).length
    rw [if_neg (by omega)]; simp
  rw [e1, e2]
  omega
end Y

namespace Y
open PySem L2 Yd
theorem cg_names {K : PySem.W.Frag} {j : Nat} {a : Addr} {c : Lay} {σ : St} {H : Hp} {Q : VK} {ix : List Nat} (hσ : σ[j]? = some (some (.ref a))) (hS : H a = some (.lst (layV c))) (hl : c.length ≤ 200) (h : ∀ l, H l = none → Q (.ref l) (upd H l (.lst ((nm c).map V.int)))) :
    tCG (iList K (tVar j)) ix (fun _ _ _ _ => tB (tNotN (tVar 0))) (fun _ _ _ _ => tVar 0) σ H Q := by
  refine ⟨_, hσ, a, rfl, ⟨_, SqL.of hS⟩, fun D hD => ?_⟩
  have hszl : sizeLine ≥ 1000 := by decide
  have na : a ≠ D := ne_of_none hS hD
  refine ⟨fun i n H' => i ≤ c.length ∧ n = c.length - i ∧ H' = upd H D (.lst ((nm (c.take i)).map V.int)), ⟨c.length, Nat.zero_le _, rfl, rfl⟩, ?_⟩
  rintro i n H2 ⟨hi, rfl, rfl⟩
  have ga : upd H D (.lst ((nm (c.take i)).map V.int)) a = some (.lst (layV c)) := by rw [upd_ne na]; exact hS
  have hnl : (nm (c.take i)).length ≤ 200 := by
    have := free_nm (c.take i)
    rw [List.length_take] at this
    omega
  by_cases hlt : i < c.length
  · refine .inr ⟨⟨_, _, SqL.of ga, layV_get hlt⟩, fun H' => H' = upd H D (.lst ((nm (c.take (i + 1))).map V.int)), fun H' h' => ⟨_, by omega, hlt, rfl, h'⟩, fun v H3 hv => ?_⟩
    obtain ⟨rfl, hv⟩ := hv
    have ev := hv _ (SqL.of ga)
    rw [layV_get hlt] at ev
    have ev := Option.some.inj ev
    subst ev
    intro fp Cc s₀ H₀
    have et : nm (c.take (i + 1)) = nm (c.take i) ++ (g c i).toList := by
      rw [List.take_add_one, g_get hlt]
      show (c.take i ++ [g c i]).filterMap id = _
      rw [List.filterMap_append]
      cases g c i <;> rfl
    cases e : g c i with
    | none =>
      rw [e] at et
      refine ⟨_, rfl, _, rfl, iteF ?_⟩
      rw [et]
      show _ = upd H D (.lst ((nm (c.take i) ++ []).map V.int))
      rw [List.append_nil]
    | some n =>
      rw [e] at et
      refine ⟨_, rfl, _, rfl, iteT ⟨_, rfl, _, upd_same, by rw [List.length_map]; omega, ?_⟩⟩
      rw [upd_upd, et, List.map_append]
      rfl
  · have hie : i = c.length := by omega
    subst hie
    refine .inl ⟨⟨_, SqL.of ga, by rw [layV_len]; exact Nat.le_refl _⟩, ?_⟩
    rw [List.take_of_length_le (Nat.le_refl _)]
    exact h D hD
end Y

namespace Y
open PySem L2 Yd
end Y

namespace L2
open PySem PySem.Spec PyProof.Rows
section
variable {X : Cx}
theorem firstMet_len {val : Nat → Int} : ∀ i, (∀ a b, a < i → b < i → val a = val b → a = b) → (firstMet val i).length = i
  | 0, _ => rfl
  | i + 1, h => by
    rw [firstMet_succ, step_length, firstMet_any]
    have ih := firstMet_len (val := val) i fun a b ha hb e => h a b (by omega) (by omega) e
    have no : ((List.range i).map val).any (· == val i) = false := by
      rw [List.any_map]
      refine List.any_eq_false.mpr fun a ha => ?_
      have hai := List.mem_range.mp ha
      intro z
      have := h a i (by omega) (by omega) (by simpa using z)
      omega
    rw [no, ih]
    rfl
theorem nodup_getD {ns : List Int} (nd : ns.Nodup) : ∀ a b, a < ns.length → b < ns.length → ns.getD a 0 = ns.getD b 0 → a = b := fun a b ha hb e => by
  rw [List.getD_eq_getElem?_getD, List.getD_eq_getElem?_getD, List.getElem?_eq_getElem ha, List.getElem?_eq_getElem hb] at e
  exact (List.getElem_inj nd).mp e
theorem call_setI (hc : X.calm = true) : CallR X (.type "set") (fun xs H Q => ∃ (p : Addr) (ns : List Int), xs = [.ref p] ∧ SqL X.K H p (ns.map V.int) ∧ ns.Nodup ∧ ns.length ≤ 200 ∧ ∀ (l : Addr) (S : Int → Bool), H l = none → Q (.ref l) (upd H l (.set S ns.length))) := by
  intro pins s σ H xs us Q I r h
  obtain ⟨p, ns, rfl, hq, nd, hz, q⟩ := h
  obtain ⟨u, rfl, rx⟩ := vals1 r
  cases rx
  obtain ⟨its, rv, pl, _⟩ := I.list hq
  have hl : its.length = ns.length := by rw [← rv.length, List.length_map]
  have hb : scanBound = 4096 := rfl
  refine PySem.call_set_list (I.ok.hd hc) pl.isList (intsAre_of rv) (by rw [List.size_toArray]; omega) fun h' tk hS old => ?_
  have en : (firstMet (fun i => ns.getD i 0) its.toArray.size).length = ns.length := by
    rw [List.size_toArray, hl]
    exact firstMet_len _ fun a b ha hb e => nodup_getD nd a b ha hb e
  rw [en] at hS
  exact ⟨.ref s.heap.objs.size, _, I.laid (t' := tk) (o := .set _ ns.length) (fun b o e => old b o (Heap.lt_size e) e) (Nat.le_refl _) hS, rfl, q _ _ I.fresh⟩
theorem call_lenS : CallR X (.builtin "len") (fun xs H Q => ∃ (p : Addr) (S : Int → Bool) (n : Nat), xs = [.ref p] ∧ H p = some (.set S n) ∧ Q (.int n) H) := by
  intro pins s σ H xs us Q I r h
  obtain ⟨p, S, n, rfl, hp, q⟩ := h
  obtain ⟨u, rfl, rx⟩ := vals1 r
  cases rx
  obtain ⟨o, es, ep, t, h1, h2, h3, _, _, h6, h7, h8⟩ := I.hok p _ hp
  have hb : scanBound = 4096 := rfl
  refine call_len_set h1 h2 h3 h7 (by omega) ⟨.int n, H, I.tok _, ⟨s.toks + 1, by rw [h8]⟩, q⟩
end
end L2

namespace L2
open PySem PySem.Spec PyProof.Rows
theorem firstMet_all {val : Nat → Int} : ∀ i, (firstMet val i).length = i → ∀ a b, a < i → b < i → val a = val b → a = b
  | 0, _, a, b, ha, _, _ => by omega
  | i + 1, h, a, b, ha, hb, e => by
    rw [firstMet_succ, step_length, firstMet_any] at h
    have hle := firstMet_length_le val i
    by_cases z : ((List.range i).map val).any (· == val i) = true
    · rw [if_pos z] at h; omega
    · rw [if_neg z] at h
      have ih := firstMet_all (val := val) i (by omega)
      have no : ∀ j, j < i → val j ≠ val i := fun j hj ej => z (by
        rw [List.any_map]
        exact List.any_eq_true.mpr ⟨j, List.mem_range.mpr hj, by simpa using ej⟩)
      by_cases h1 : a = i
      · by_cases h2 : b = i
        · rw [h1, h2]
        · exact (no b (by omega) (by rw [← e, h1])).elim
      · by_cases h2 : b = i
        · exact (no a (by omega) (by rw [e, h2])).elim
        · exact ih a b (by omega) (by omega) e
theorem nodup_of_getD {ns : List Int} (h : ∀ a b, a < ns.length → b < ns.length → ns.getD a 0 = ns.getD b 0 → a = b) : ns.Nodup := by
  rw [List.nodup_iff_pairwise_ne, List.pairwise_iff_getElem]
  intro i j hi hj hij e
  have := h i j hi hj (by rw [List.getD_eq_getElem?_getD, List.getD_eq_getElem?_getD, List.getElem?_eq_getElem hi, List.getElem?_eq_getElem hj, e])
  omega
section
variable {X : Cx}
theorem call_setG (hc : X.calm = true) : CallR X (.type "set") (fun xs H Q => ∃ (p : Addr) (ns : List Int), xs = [.ref p] ∧ SqL X.K H p (ns.map V.int) ∧ ns.length ≤ 200 ∧ ∀ (l : Addr) (S : Int → Bool) (n : Nat), H l = none → (n = ns.length ↔ ns.Nodup) → Q (.ref l) (upd H l (.set S n))) := by
  intro pins s σ H xs us Q I r h
  obtain ⟨p, ns, rfl, hq, hz, q⟩ := h
  obtain ⟨u, rfl, rx⟩ := vals1 r
  cases rx
  obtain ⟨its, rv, pl, _⟩ := I.list hq
  have hl : its.length = ns.length := by rw [← rv.length, List.length_map]
  have hb : scanBound = 4096 := rfl
  refine PySem.call_set_list (I.ok.hd hc) pl.isList (intsAre_of rv) (by rw [List.size_toArray]; omega) fun h' tk hS old => ?_
  have hsz : its.toArray.size = ns.length := by rw [List.size_toArray]; exact hl
  rw [hsz] at hS
  refine ⟨.ref s.heap.objs.size, _, I.laid (t' := tk) (o := .set _ _) (fun b o e => old b o (Heap.lt_size e) e) (Nat.le_refl _) hS, rfl, q _ _ _ I.fresh ⟨fun e => ?_, fun nd => ?_⟩⟩
  · exact nodup_of_getD (firstMet_all _ e)
  · exact firstMet_len _ fun a b ha hb e => nodup_getD nd a b ha hb e
end
end L2

namespace Yd
theorem putL_len {m : Nat} {rule : Int} : ∀ (k : Nat) (c : Lay) (x : Int) (p : Nat), (putL m rule k c x p).2.length = c.length
  | 0, _, _, _ => rfl
  | k + 1, c, x, p => by
    unfold putL
    cases e : g c p with
    | none => simp
    | some s =>
      simp only
      split
      · exact putL_len k _ _ _
      · simp only
        rw [putL_len k]
        simp
theorem nm_inj : ∀ {c : Lay}, (nm c).Nodup → ∀ p q n, g c p = some n → g c q = some n → p = q
  | [], _, p, q, n, h, _ => by rw [g_nil] at h; cases h
  | v :: c, hn, p, q, n, hp, hq => by
    rw [nm_cons] at hn
    have hc : (nm c).Nodup := (List.nodup_append.mp hn).2.1
    have no : ∀ i, v = some n → g c i = some n → False := fun i hv hi => by
      subst hv
      have := (List.nodup_append.mp hn).2.2 n (by simp) n (mem_nm.mpr ⟨i, hi⟩)
      exact this rfl
    cases p with
    | zero =>
      cases q with
      | zero => rfl
      | succ q => exact (no q hp hq).elim
    | succ p =>
      cases q with
      | zero => exact (no p hq hp).elim
      | succ q => rw [nm_inj hc p q n hp hq]
theorem right_of {m : Nat} {rule : Int} {c : Lay} (hl : c.length = m) (hn : (nm c).length ≠ m) (hd : (nm c).Nodup) (hp : ∀ p, p < m → ∀ n, g c p = some n → ∀ q, q < m → dist m (ws m n) q < dist m (ws m n) p → ∃ k, g c q = some k ∧ kp m rule k n q = true) : Right m rule c := by
  have hf := free_nm c
  obtain ⟨f, hf1, hf2⟩ := free_of (c := c) (by omega)
  exact ⟨hl, nm_inj hd, fun p n h q hq d => .inl (hp p (by rw [← hl]; exact g_lt h) n h q hq d), ⟨f, by omega, hf2⟩⟩
theorem right_free {m : Nat} {rule : Int} {c : Lay} (R : Right m rule c) : (nm c).length ≠ m := by
  obtain ⟨f, hf, h0⟩ := R.fre
  have := free_pos (c := c) (by rw [R.len]; exact hf) h0
  have h2 := free_nm c
  rw [R.len] at h2
  omega
end Yd

namespace Yd
theorem set_sub {c : Lay} {i : Nat} {v : Option Int} {n : Int} (h : n ∈ nm (c.set i v)) : v = some n ∨ n ∈ nm c := by
  obtain ⟨p, hp⟩ := mem_nm.mp h
  by_cases hi : i < c.length
  · rw [g_set hi] at hp
    by_cases e : p = i
    · rw [if_pos e] at hp; exact .inl hp
    · rw [if_neg e] at hp; exact .inr (mem_nm.mpr ⟨p, hp⟩)
  · rw [List.set_eq_of_length_le (by omega)] at h
    exact .inr h
theorem putL_sub {m : Nat} {rule : Int} : ∀ (k : Nat) (c : Lay) (x : Int) (p : Nat) (n : Int), n ∈ nm (putL m rule k c x p).2 → n = x ∨ n ∈ nm c
  | 0, _, _, _, _, h => .inr h
  | k + 1, c, x, p, n, h => by
    unfold putL at h
    cases e : g c p with
    | none =>
      rw [e] at h
      rcases set_sub h with z | z
      · cases z; exact .inl rfl
      · exact .inr z
    | some s =>
      rw [e] at h
      simp only at h
      split at h
      · exact putL_sub k _ _ _ _ h
      · rcases putL_sub k _ _ _ _ h with z | z
        · exact .inr (mem_nm.mpr ⟨p, by rw [e, z]⟩)
        · rcases set_sub z with y | y
          · cases y; exact .inl rfl
          · exact .inr y
end Yd

namespace L2
open PySem PySem.Spec PyProof.Rows
theorem bools_of {bs : List Bool} : ∀ {us : List Value}, Vals (bs.map V.bl) us → LSm.BoolsAre us bs := by
  induction bs with
  | nil => intro us r; rw [List.map_nil] at r; cases r; exact .nil
  | cons b bs ih =>
    intro us r
    rw [List.map_cons] at r
    cases r with
    | cons r1 r2 => cases r1; exact .cons b (ih r2)
theorem tAll_on {σ : St} {H : Hp} {A B : Hp → Prop} (h : A H) : tAll σ H fun b H4 => if b = true then A H4 else B H4 := by
  show if true = true then A H else B H
  rw [if_pos rfl]
  exact h
section
variable {X : Cx}
theorem call_all (hc : X.calm = true) : CallR X (.builtin "all") (fun xs H Q => ∃ (p : Addr) (bs : List Bool), xs = [.ref p] ∧ SqL X.K H p (bs.map V.bl) ∧ Q (.bl (bs.all id)) H) := by
  intro pins s σ H xs us Q I r h
  obtain ⟨p, bs, rfl, hq, q⟩ := h
  obtain ⟨u, rfl, rx⟩ := vals1 r
  cases rx
  obtain ⟨its, rv, pl, hz⟩ := I.list hq
  have hb := bools_of rv
  have hl := pl.isList
  have hlt : p < s.heap.objs.size := by obtain ⟨_, e, _⟩ := hl; exact Heap.lt_size e
  refine call_all_walk (wpAny_pyIter_list hl ⟨s.heap.objs.size, [s.heap.objs.size, p], [s.heap.objs.size], its.toArray.size, _, _, fun i => (bs[i]?).getD true, rfl, Walks.list (A := X.A.in1) (I.ok.hd hc) _ p (Nat.ne_of_lt hlt) its.toArray,
    ⟨⟨_, Heap.get?_push_size _ rfl, rfl, rfl⟩, hl.push _⟩, fun i v s' Q' E' hP hW => ?_, fun h' tk hk => ?_⟩)
  · obtain ⟨bo, e, rfl⟩ := hb.get i v (by simpa using hP)
    simp only [e, Option.getD_some] at hW
    exact wpAny_truthy_bool hW
  · have e : ((List.range its.toArray.size).all fun i => (bs[i]?).getD true) = bs.all id := by
      rw [List.size_toArray, hb.length]
      exact LSm.range_all bs
    rw [e]
    exact ⟨.bl _, H, I.kept (t' := tk) (LSm.kept_iter hk), rfl, q⟩
theorem CompOk.taken {scope : Scope} {x : Str} {cl : List (Str × Addr)} {ix : List Nat} (clos : closureFor scope X.env = pure cl) (nocell : ∀ z ∈ scope.names, z.2 ≠ .cell) (kind : scope.kind = .function) (names : ∀ z ∈ scope.names, z.2 = .local → scope.names.lookup z.1 = some .local)
    (hx : scope.names.lookup x = some .local) (sub : ∀ p ∈ cl, X.env.cells.lookup p.1 = some p.2) (has : ((relabel scope X.env).names.all fun p => (!(p.2 == .cell) && !(p.2 == .free)) || cl.any fun q => q.1 == p.1) = true) (len : ix.length = cl.length)
    (at' : ∀ (k j : Nat) (y : Str), (cl.map (·.1))[k]? = some y → ix[k]? = some j → X.N[j]? = some y ∧ Vis X.env.scope y ∧ X.env.kindOf y = some .cell ∧ (relabel scope X.env).names.lookup y = some .cell)
    (nd : (x :: cl.map (·.1)).Nodup) : CompOk X scope cl x (cl.map (·.1)) ix := by
  refine ⟨clos, nocell, kind, names, hx, fun z d h => sub (z, d) (PySem.mem_of_lookup h), fun z h => ?_, by rw [len, List.length_map], fun k j y h1 h2 => ?_, nd⟩
  · have hm : ∃ k, (z, k) ∈ (relabel scope X.env).names ∧ (k = .cell ∨ k = .free) := by
      rcases h with h | h
      · exact ⟨_, PySem.mem_of_lookup h, .inl rfl⟩
      · exact ⟨_, PySem.mem_of_lookup h, .inr rfl⟩
    obtain ⟨k, hm, hk'⟩ := hm
    have ha := List.all_eq_true.mp has _ hm
    have hany : (cl.any fun q => q.1 == z) = true := by
      rcases hk' with rfl | rfl
      · simpa using ha
      · simpa using ha
    obtain ⟨q, hq, e⟩ := List.any_eq_true.mp hany
    have e' : q.1 = z := by simpa using e
    cases hl : cl.lookup z with
    | some c => exact ⟨c, rfl⟩
    | none =>
      have := List.lookup_eq_none_iff.mp hl q hq
      simp [e'] at this
  · obtain ⟨a, b, c, d⟩ := at' k j y h1 h2
    exact ⟨a, b, (by rw [c]; intro q; cases q), .inl d⟩
end
end L2

namespace L2
open PySem PySem.Spec PyProof.Rows
structure Ground (P : Program) (w : World) (fs : List Addr) (H : Hp) (s : Shared) (H' : Hp) (B h : Heap) : Prop where
  un : Un fs [] H H' s.heap h
  hok : HOk P w H' h
  trk : ∀ b u, H' b = some u → ∀ o, h.get? b = some o → B.get? b = some o
  old : ∀ b o, s.heap.get? b = some o → b ∉ fs → ∀ o', h.get? b = some o' → B.get? b = some o'
  nf : ∀ b, b ∈ fs → ∃ o, h.get? b = some o ∧ ∀ vs, o.data ≠ .fields vs
section
variable {P : Program} {w : World} {fs : List Addr} {H H' : Hp} {s : Shared} {B h h' : Heap}
theorem ObjOk.there {a : Addr} {o : HO} (x : ObjOk P w H h a o) : ∃ u, h.get? a = some u := by
  cases o with
  | lst _ => obtain ⟨_, _, _, _, e⟩ := x; exact ⟨_, e⟩
  | tup _ => obtain ⟨_, _, _, o, e, _⟩ := x; exact ⟨o, e⟩
  | dK _ => obtain ⟨_, _, _, _, o, _, _, e, _⟩ := x; exact ⟨o, e⟩
  | dT _ => obtain ⟨_, _, _, _, o, _, _, e, _⟩ := x; exact ⟨o, e⟩
  | set _ _ => obtain ⟨o, _, _, _, e, _⟩ := x; exact ⟨o, e⟩
  | ins _ _ _ => obtain ⟨_, _, _, e, _⟩ := x; exact ⟨_, e⟩
  | own _ => exact x
  | xd _ => obtain ⟨_, ⟨o, _, _, e, _⟩, _⟩ := x; exact ⟨o, e⟩
  | rng _ _ => obtain ⟨_, _, _, e⟩ := x; exact ⟨_, e⟩
  | frz _ _ => exact ⟨_, x.1⟩
  | tbl _ => exact ⟨_, x⟩
  | met _ _ => exact ⟨_, x⟩
  | ext _ => exact x.2.1
theorem Ground.move (G : Ground P w fs H s H' B h) (st : B.StaysIn h') (up : h.UpToSlots h') : Ground P w fs H s H' B h' := by
  have frm : ∀ b o, h.get? b = some o → b ∈ fs → ∃ sl, h'.get? b = some { o with slots := sl } := fun b o e hb => by
    obtain ⟨o1, e1, n1⟩ := G.nf b hb
    rw [e] at e1; cases e1
    exact up b o e n1
  have oth : ∀ b o, s.heap.get? b = some o → b ∉ fs → ∀ o', h.get? b = some o' → h'.get? b = some o' := fun b o e hb o' e' => st b o' (G.old b o e hb o' e')
  have tr : ∀ b u, H' b = some u → ∀ o, h.get? b = some o → h'.get? b = some o := fun b u e o q => st b o (G.trk b u e o q)
  have ex : ∀ b u, H' b = some u → ∃ o, h.get? b = some o := fun b u e => by
    exact (G.hok b u e).there
  refine ⟨⟨fun b o q n hb hx => ?_, fun b o q n hb hx => ?_, G.un.free, fun b o q hx => ?_, G.un.tups, G.un.frzs, G.un.tbls⟩, fun a o e => ?_, fun b u e o q => ?_, fun b o e hb o' e' => ?_, fun b hb => ?_⟩
  · exact oth b o q hb o (G.un.keep b o q n hb hx)
  · obtain ⟨sl, e⟩ := G.un.slot b o q n hb hx
    obtain ⟨sl', e'⟩ := frm b _ e hb
    exact ⟨sl', e'⟩
  · obtain ⟨o', e⟩ := G.un.there b o q hx
    by_cases hb : b ∈ fs
    · obtain ⟨sl, e'⟩ := frm b _ e hb
      exact ⟨_, e'⟩
    · exact ⟨o', oth b o q hb o' e⟩
  · refine (G.hok a o e).stay (fun b u hb q => ?_) (fun b q => q) (fun b xs q => q)
    rcases hb with rfl | hb
    · exact tr b _ e u q
    · exact tr b _ hb u q
  · obtain ⟨o1, e1⟩ := ex b u e
    have e2 := tr b u e o1 e1
    rw [q] at e2; cases e2
    exact G.trk b u e o e1
  · obtain ⟨o1, e1⟩ := G.un.there b o e (by simp)
    have e2 := oth b o e hb o1 e1
    rw [e'] at e2; cases e2
    exact G.old b o e hb o' e1
  · obtain ⟨o1, e1, n1⟩ := G.nf b hb
    obtain ⟨sl, e2⟩ := up b o1 e1 n1
    exact ⟨_, e2, n1⟩
end
def CX1 (P : Program) (w : World) : CXT := fun outer H s E e s' => ∃ (ea t : Addr) (cls : Value) (H' : Hp) (B : Heap), e = .ref ea ∧ s'.os = s.os ∧ AllBare s'.gens ∧
  Heap.FlyingW B outer ea cls (.ref t) s'.heap ∧ Ground P w (frs outer) H s H' B s'.heap ∧ E cls none H'
section
variable {P : Program} {w : World} {K : PySem.W.Frag} {mg : Str → Option Value} {base : Heap} {N : List Str} {qual : Str} {scope : Scope} {f : Addr} {cd : Value} {A : Around} {outer : List Env} {s : Shared} {H : Hp} {E : XK}
theorem frs_cons {b : Addr} : b ∈ frs (envOfC qual scope s.heap.objs.size f cd :: outer) ↔ b = s.heap.objs.size ∨ b ∈ frs outer := by
  show b ∈ List.filterMap (·.frame) (envOfC qual scope s.heap.objs.size f cd :: outer) ↔ _
  rw [List.filterMap_cons]
  show b ∈ s.heap.objs.size :: frs outer ↔ _
  rw [List.mem_cons]
theorem raises {pins : List (Addr × Obj)} {σ : St} {H1 : Hp} {s1 : Shared} {h' : Heap} {e : Addr} {cls : Value} {vs : List Value} (I : Inv (cxOf (CX1 P w) P w K mg base N qual scope f cd A outer s H E) pins σ H1 s1)
    (hx : Heap.MadeExcOf s1.heap h' e cls vs) (q : E cls none H1) : (cxOf (CX1 P w) P w K mg base N qual scope f cd A outer s H E).xe (.ref e) { s1 with heap := h' } := by
  have G1 : Ground P w (frs outer) H s H1 (PySem.W.hideAll s1.heap (frs (envOfC qual scope s.heap.objs.size f cd :: outer))) s1.heap := by
    refine ⟨I.base, I.hok, fun b u eb o qb => PySem.W.hideAll_get _ qb fun hm => ?_, fun b o eb hb o' qb => PySem.W.hideAll_get _ qb fun hm => ?_, fun b hb => ?_⟩
    · rw [I.stkFree b hm] at eb; cases eb
    · rcases frs_cons.mp hm with z | z
      · exact absurd (z ▸ Heap.lt_size eb) (Nat.lt_irrefl _)
      · exact hb z
    · exact (I.stack.mem (frs_cons.mpr (.inr hb))).2
  refine wpAny_leaves_madeW (base := PySem.W.hideAll s1.heap (frs (envOfC qual scope s.heap.objs.size f cd :: outer))) (h := s1.heap) I.ok.frames rfl (fun b o z => PySem.W.of_hideAll _ z)
    (PySem.W.funFrames_hide I.stack fun env he b hb => List.mem_filterMap.mpr ⟨env, he, hb⟩) hx fun h2 t fl tup tn up => ?_
  exact ⟨e, t, cls, H1, _, rfl, I.os, I.bare, fl, G1.move fl.1 ((Heap.UpToSlots.of_keeps hx.keeps).trans up), q⟩
theorem passX : Passes (CX1 P w) (cxOf (CX1 P w) P w K mg base N qual scope f cd A outer s H E) E := by
  intro pins σ H2 s2 e s' I h
  obtain ⟨ea, t, cls, H', B, rfl, os, bare, fl, G, q⟩ := h
  have nL : ∀ b o, s.heap.get? b = some o → b ∉ frs outer → b ∉ frs (envOfC qual scope s.heap.objs.size f cd :: outer) := fun b o eb hb hm => by
    rcases frs_cons.mp hm with z | z
    · exact absurd (z ▸ Heap.lt_size eb) (Nat.lt_irrefl _)
    · exact hb z
  have IB : Un (frs outer) [] H H2 s.heap s2.heap := I.base
  have G' : Ground P w (frs outer) H s H' B s'.heap := by
    refine ⟨⟨fun b o qb n hb hx => ?_, fun b o qb n hb hx => ?_, fun b o qb n hx => ?_, fun b o qb hx => ?_, fun b xs z => G.un.tups b xs (IB.tups b xs z), fun b o u z => G.un.frzs b o u (IB.frzs b o u z), fun b ps z => ?_⟩, G.hok, G.trk, fun b o eb hb o' qb => ?_, fun b hb => ?_⟩
    · exact G.un.keep b o (IB.keep b o qb n hb hx) (IB.free b o qb n hx) (nL b o qb hb) hx
    · obtain ⟨sl, e1⟩ := IB.slot b o qb n hb hx
      obtain ⟨sl', e2⟩ := G.un.slot b _ e1 (IB.free b o qb n hx) (frs_cons.mpr (.inr hb)) hx
      exact ⟨sl', e2⟩
    · obtain ⟨o', e1⟩ := IB.there b o qb hx
      exact G.un.free b o' e1 (IB.free b o qb n hx) hx
    · obtain ⟨o', e1⟩ := IB.there b o qb hx
      exact G.un.there b o' e1 hx
    · obtain ⟨m1, z1⟩ := IB.tbls b ps z
      obtain ⟨m2, z2⟩ := G.un.tbls b _ z1
      exact ⟨m1 ++ m2, by rw [z2, Array.append_assoc]⟩
    · obtain ⟨o2, e1⟩ := IB.there b o eb (by simp)
      exact G.old b o2 e1 (nL b o eb hb) o' qb
    · exact G.nf b (frs_cons.mpr (.inr hb))
  refine wpAny_leaves_onW I.ok.frames rfl fl fun h2 fl2 up => ?_
  exact ⟨ea, t, cls, H', B, rfl, os.trans I.os, bare, fl2, G'.move fl2.1 up, q⟩
end
end L2

namespace L2
open PySem PySem.Spec PyProof.Rows
theorem own_at {K : PySem.W.Frag} {h : Heap} {mg : Str → Option Value} {x : Str} {C : Addr} {bmB : List Value} {newId : String} (kin : K.In h) (hm : mg x = some (.ref C)) (q : PySem.W.excIn K C bmB newId = true) : OwnCls x C bmB newId mg h := by
  constructor
  · exact hm
  unfold PySem.W.excIn at q
  split at q
  · next dd cd sl ho =>
    split at q
    · next C' bm k0 k1 k2 k3 n k5 hmr hsl =>
      simp only [beq_iff_eq, Bool.and_eq_true, Bool.not_eq_true'] at q
      obtain ⟨⟨⟨⟨⟨z1, z2⟩, z3⟩, z4⟩, z5⟩, z6⟩ := q
      subst z1 z2
      obtain ⟨nm, bs, mro, nsp, qn, hdc, sn, sub, ab, col, del⟩ := cd
      simp only at hmr z3 z5 z6
      subst hmr z3
      have es : sl = #[k0, k1, k2, k3, some (.builtin n), k5] := Array.ext' hsl
      subst es
      refine ⟨bm, nsp, nm, qn, bs, hdc, sn, sub, ab, col, dd, k0, k1, k2, k3, k5, h.nsMap nsp, kin _ _ ho, ?_, ?_, PySem.W.tail_of_in kin z4⟩
      · exact .of_isNs (PySem.W.isNs_of_in kin z5)
      · exact PySem.W.nsMap_none_of_in kin z5 z6
    · cases q
  · cases q
section
variable {P : Program} {w : World} {K : PySem.W.Frag} {mg : Str → Option Value} {base : Heap}
theorem Fun.okX {x qual : Str} {st : Stmt} {f : Addr} {fd : FuncData} {N ps : List Str} {k : Nat} {sp : Sp} (F : Fun K x qual st f fd) (S : FnScope N ps (defScope st)) (len : ∀ vs H Q E, sp vs H Q E → vs.length = ps.length)
    (body : ∀ (cdv : Value) (A : Around) (outer : List Env) (s : Shared) (H : Hp) (vs : List V) (Q : VK) (E : XK), Room k (A.deeper (envOfC qual (defScope st) s.heap.objs.size f cdv)) → sp vs H Q E →
      ∃ t, PSs (cxOf (CX1 P w) P w K mg base N qual (defScope st) f cdv A outer s H E) (defBody st) t ∧ t { nx := fun _ H' => Q .non H', rt := Q } (start N vs) H) : FnOk P w K mg base (CX1 P w) (k + 1) f fd ps sp := by
  obtain ⟨oc, od, kV, doc, pm, an, cdv, ct, osl, rfl, lk, hcd⟩ := F.ex
  exact fn_of lk hcd S len fun A outer s H vs Q E hr hsp => body cdv A outer s H vs Q E hr hsp
end
section
variable {X : Cx}
def Raises (X : Cx) (E : XK) : Prop := ∀ (pins : List (Addr × Obj)) (σ : St) (H1 : Hp) (s1 : Shared) (h' : Heap) (e : Addr) (cls : Value) (vs : List Value), Inv X pins σ H1 s1 → Heap.MadeExcOf s1.heap h' e cls vs → E cls none H1 → X.xe (.ref e) { s1 with heap := h' }
def tRaise (C : Addr) (E : XK) (ta : TA) : TS := fun _ σ H => ta σ H fun vs H1 => vs.length ≤ 100 ∧ E (.ref C) none H1
theorem ps_raise {x : Str} {C : Addr} {bmB : List Value} {newId B initId : String} {np cpos pos : Pos} {e₀ : Expr} {ta : TA} {E : XK} (hX : Raises X E) (hc : X.calm = true) (hg : Gl X x) (O : OwnCls x C bmB newId X.mg X.base) (FB : ExcBaseFacts B newId initId bmB) (ha : PA X [e₀] ta)
    (he : starEach [e₀] X.env = [(false, eval e₀ X.env)] := by rfl) (hd : (x == ("__debug__" : Str)) = false := by decide) : PS X (.Raise (some (.Call (.Name x np) [e₀] [] cpos)) none pos) (tRaise C E ta) := by
  intro pins s σ H D I h
  obtain ⟨tl, N, nm, q, bs, hdct, sn, sub, ab, col, dd, k0, k1, k2, k3, k5, mN, hC, hN, hni, T⟩ := O.obj
  refine wpAny_Raise_call_subT (C := C) (nm := nm) (q := q) (N := N) (bs := bs) (bm := tl) (hdct := hdct) (sn := sn) (sub := sub) (ab := ab) (col := col) (dd := dd) (k0 := k0) (k1 := k1) (k2 := k2) (k3 := k3) (k5 := k5) FB (mN := mN)
    (T.hasType FB.hasBase) (I.ok.hd hc) (by rw [he]; rfl) hni (ld_glob I hg O.bound ⟨rfl, ?_⟩ hd)
  have := ha cpos pins s σ H _ I h
  rw [he] at this ⊢
  refine Calls.evalArgs_plain (thn this fun us s1 ⟨vs, H1, I1, r1, q1, q2⟩ => ⟨rfl, ?_, I1.bk _ _ hC, hN.keeps I1.bk, T.keeps I1.bk, fun h' e hm => hX pins σ H1 s1 h' e _ us I1 hm q2⟩)
  have hl := r1.length
  have : sizeLine ≥ 1000 := by decide
  show us.length ≤ sizeLine
  omega
end
theorem raisesX {P : Program} {w : World} {K : PySem.W.Frag} {mg : Str → Option Value} {base : Heap} {N : List Str} {qual : Str} {scope : Scope} {f : Addr} {cd : Value} {A : Around} {outer : List Env} {s : Shared} {H : Hp} {E : XK} : Raises (cxOf (CX1 P w) P w K mg base N qual scope f cd A outer s H E) E :=
  fun _ _ _ _ _ _ _ _ I hx q => raises I hx q
def excO (ea : Addr) (cls : Value) : HO := .ext fun h => ∃ o, h.get? ea = some o ∧ o.cls = cls ∧ ∃ vs, o.data = .fields vs
def Cx.sui (X : Cx) (ea : Addr) : Cx := { X with A := X.A.mark (some (.ref ea)), calm := false, xe := fun _ _ => False }
section
variable {X : Cx} {pins : List (Addr × Obj)} {σ : St} {H H' : Hp} {s s' : Shared}
theorem Inv.sui (I : Inv X pins σ H s) (ea : Addr) (hf : (X.A.mark (some (.ref ea))).frames = X.A.frames := by rfl) : Inv (X.sui ea) pins σ H s :=
  ⟨⟨I.ok.mod, I.ok.kind, I.ok.glob, I.ok.blt, I.ok.above, I.ok.inj, I.ok.has, I.ok.cab, fun z => (by cases z), hf.trans I.ok.frames, I.ok.stk, I.ok.exf, I.ok.bs, I.ok.bsz, I.ok.noex, I.ok.exfs, I.ok.funs, I.ok.frf⟩, I.os, I.bare, I.base, I.loc, I.cell, I.free, I.freeC, I.pin, I.hok, I.len⟩
theorem Inv.unsui {ea : Addr} (ok : X.Ok) (I : Inv (X.sui ea) pins σ H s) : Inv X pins σ H s :=
  ⟨ok, I.os, I.bare, I.base, I.loc, I.cell, I.free, I.freeC, I.pin, I.hok, I.len⟩
theorem Inv.flown {B : Heap} {h : Heap} (I : Inv X pins σ H s) (os : s'.os = s.os) (bare : AllBare s'.gens) (G : Ground X.prog X.w (frs X.stack) H s H' B h) : Inv X pins σ H' { s' with heap := h } :=
  I.call' (s' := { s' with heap := h }) (ch := []) os G.un G.hok bare fun b z => absurd z (by simp)
end
end L2

namespace L2
open PySem PySem.Spec PyProof.Rows
section
variable {X : Cx} {pins : List (Addr × Obj)} {σ : St} {H H' : Hp} {s s' : Shared}
theorem drop_ok {M : Model} {A : Around} {E : Value → Shared → Prop} {i : Nat} {x : Str} {v : V} {Q : Unit → Shared → Prop} (I : Inv X pins σ H s) (hN : X.N.Nodup) (hi : X.N[i]? = some x) (hk : X.env.scope.names.lookup x = some .local) (hv : σ[i]? = some (some v))
    (h : ∀ s', Inv X pins (σ.set i none) H s' → Q () s') : wpAny M A (unbindName X.env x) Q E s := by
  obtain ⟨m, hn, hl⟩ := id I.loc
  have hiσ : i < σ.length := by rw [I.len]; exact (List.getElem?_eq_some_iff.mp hi).1
  have cne := I.cne
  obtain ⟨u, r, lk⟩ := hl i x v hi hv (.inl hk)
  have hmx : m x = some u := by
    rcases lk with ⟨_, e⟩ | ⟨z, _⟩
    · exact e
    · rcases z with z | z
      · have z' : X.env.scope.names.lookup x = some .cell := z
        rw [hk] at z'; cases z'
      · have z' : X.env.scope.names.lookup x = some .free := z
        rw [hk] at z'; cases z'
  refine wpAny_unbindName_local hk hn hmx (by rw [I.ok.kind]; rfl) fun h' u' hn' hs => ?_
  obtain ⟨oL, _, _, hoL, _⟩ := id hn
  have far : ∀ b o, X.s₀.heap.get? b = some o → b ≠ X.env.locals := fun b o e => Nat.ne_of_lt (Nat.lt_of_lt_of_le (Heap.lt_size e) I.ok.above)
  refine h _ ⟨I.ok, I.os, I.bare, ⟨fun b o e n hb hx => (hs.2 b (far b o e)).trans (I.base.keep b o e n hb hx), fun b o e n hb hx => ?_, I.base.free, fun b o e hx => ?_, I.base.tups, I.base.frzs, I.base.tbls⟩, ⟨_, hn', fun j y v' e1 e2 e3 => ?_⟩, fun y c e => ?_, I.free, I.freeC, fun p hp => ?_, fun b ob e => ?_, by simpa using I.len⟩
  · obtain ⟨sl, z⟩ := I.base.slot b o e n hb hx
    exact ⟨sl, (hs.2 b (far b o e)).trans z⟩
  · obtain ⟨o', z⟩ := I.base.there b o e hx
    exact ⟨o', (hs.2 b (far b o e)).trans z⟩
  · by_cases hj : j = i
    · rw [hj, List.getElem?_set_self hiσ] at e2
      cases e2
    · rw [List.getElem?_set_ne (Ne.symm hj)] at e2
      obtain ⟨u2, r2, q⟩ := hl j y v' e1 e2 e3
      refine ⟨u2, r2, ?_⟩
      rcases q with ⟨k, e⟩ | ⟨k, c, e, z⟩
      · have ny : y ≠ x := fun e => hj (nodup_ix hN e1 (e ▸ hi))
        exact .inl ⟨k, by simp [ny, e]⟩
      · exact .inr ⟨k, c, e, z.sameBut hs (cne y c e)⟩
  · obtain ⟨w2, z⟩ := I.cell y c e
    exact ⟨w2, z.sameBut hs (cne y c e)⟩
  · obtain ⟨e, n, ne, nf, d⟩ := I.pin p hp
    exact ⟨(hs.2 p.1 ne).trans e, n, ne, nf, d⟩
  · refine (I.hok b ob e).stay (fun c w' hc q => (hs.2 c ?_).trans q) (fun _ q => q) fun _ _ q => q
    rintro rfl
    have hf := I.free
    rcases hc with z | z
    · rw [← z, hf] at e; cases e
    · rw [hf] at z; cases z
theorem Inv.track {ea : Addr} {cls : Value} (I : Inv X pins σ H s) (new : X.s₀.heap.get? ea = none) (hH : H ea = none) (h0 : H' = upd H ea (excO ea cls)) (hl : ea ≠ X.env.locals) (hc : ∀ x c, X.env.cells.lookup x = some c → c ≠ ea) (hp : ∀ p ∈ X.pn ++ pins, p.1 ≠ ea)
    (there : ∃ o, s.heap.get? ea = some o ∧ o.cls = cls ∧ ∃ vs, o.data = .fields vs) : Inv X pins σ H' s := by
  subst h0
  have ne : ∀ b u, H b = some u → b ≠ ea := fun b u e => ne_of_none e hH
  refine ⟨I.ok, I.os, I.bare, ⟨I.base.keep, I.base.slot, fun b o e n hx => ?_, I.base.there, fun b xs e => ?_, fun b o u e => ?_, fun b ps e => ?_⟩, I.loc, I.cell, ?_, fun x c e => ?_, fun p hq => ?_, fun b u e => ?_, I.len⟩
  · rw [upd_ne (fun z => by rw [z, new] at e; cases e)]
    exact I.base.free b o e n hx
  · have z := I.base.tups b xs e
    rw [upd_ne (ne b _ z)]; exact z
  · have z := I.base.frzs b o u e
    rw [upd_ne (ne b _ z)]; exact z
  · obtain ⟨mo, z⟩ := I.base.tbls b ps e
    exact ⟨mo, by rw [upd_ne (ne b _ z)]; exact z⟩
  · rw [upd_ne hl.symm]; exact I.free
  · rw [upd_ne (hc x c e)]; exact I.freeC x c e
  · obtain ⟨a1, a2, a3⟩ := I.pin p hq
    exact ⟨a1, by rw [upd_ne (hp p hq)]; exact a2, a3⟩
  · by_cases hb : b = ea
    · subst hb
      rw [upd_same] at e
      cases e
      obtain ⟨o, z1, z2, z3⟩ := there
      exact ⟨⟨o, z1, z2, z3⟩, ⟨o, z1⟩, fun h1 h2 ⟨o', y1, y2⟩ hk => ⟨o', hk o' y1, y2⟩⟩
    · rw [upd_ne hb] at e
      refine (I.hok b u e).stay (fun c w' _ q => q) (fun c q => ?_) (fun c xs q => ?_)
      · rw [upd_ne (ne c _ q)]; exact q
      · rw [upd_ne (ne c _ q)]; exact q
def Cx.body (X : Cx) (pins : List (Addr × Obj)) (E : XK) : Cx :=
  { X with pn := X.pn ++ pins, xe := fun e s' => ∃ (pins' : List (Addr × Obj)) (σ' : St) (H1 : Hp) (s1 : Shared), Inv X (pins ++ pins') σ' H1 s1 ∧ CX1 X.prog X.w X.stack H1 s1 E e s' }
theorem Inv.toBody (I : Inv X pins σ H s) (E : XK) : Inv (X.body pins E) [] σ H s :=
  ⟨⟨I.ok.mod, I.ok.kind, I.ok.glob, I.ok.blt, I.ok.above, I.ok.inj, I.ok.has, I.ok.cab, I.ok.hd, I.ok.frames, I.ok.stk, I.ok.exf, I.ok.bs, I.ok.bsz, I.ok.noex, I.ok.exfs, I.ok.funs, I.ok.frf⟩, I.os, I.bare, I.base, I.loc, I.cell, I.free, I.freeC, fun p hp => I.pin p (by simpa [Cx.body] using hp), I.hok, I.len⟩
theorem Inv.ofBody {pins' : List (Addr × Obj)} {E : XK} (ok : X.Ok) (I : Inv (X.body pins E) pins' σ H s) : Inv X (pins ++ pins') σ H s :=
  ⟨ok, I.os, I.bare, I.base, I.loc, I.cell, I.free, I.freeC, fun p hp => I.pin p (by simpa [Cx.body, List.append_assoc] using hp), I.hok, I.len⟩
theorem Inv.fewer {pins' : List (Addr × Obj)} (I : Inv X (pins ++ pins') σ H s) : Inv X pins σ H s :=
  ⟨I.ok, I.os, I.bare, I.base, I.loc, I.cell, I.free, I.freeC, fun p hp => I.pin p (by rcases List.mem_append.mp hp with z | z <;> simp [z]), I.hok, I.len⟩
theorem bodyPasses {E : XK} : Passes (CX1 X.prog X.w) (X.body pins E) E := fun pins' σ' H1 s1 e s' I h => by
  have ok : X.Ok := ⟨I.ok.mod, I.ok.kind, I.ok.glob, I.ok.blt, I.ok.above, I.ok.inj, I.ok.has, I.ok.cab, I.ok.hd, I.ok.frames, I.ok.stk, I.ok.exf, I.ok.bs, I.ok.bsz, I.ok.noex, I.ok.exfs, I.ok.funs, I.ok.frf⟩
  exact ⟨pins', σ', H1, s1, I.ofBody ok, h⟩
end
def Ends.gone (D : Ends) (i : Nat) : Ends := ⟨fun σ H => D.nx (σ.set i none) H, D.rt, fun σ H => D.bk (σ.set i none) H, fun σ H => D.ct (σ.set i none) H⟩
def tE (K : PySem.W.Frag) (Y : Value) (n i : Nat) (ts : TS) (D : Ends) : XK := fun cls _ H' => PySem.W.exmOne K cls Y = some true ∧ ∀ (σ' : St) (ea : Addr), σ'.length = n → H' ea = none → ts (D.gone i) (σ'.set i (some (.ref ea))) (upd H' ea (excO ea cls))
def tTry (K : PySem.W.Frag) (Y : Value) (n i : Nat) (tb : XK → TS) (ts : TS) : TS := fun D σ H => tb (tE K Y n i ts D) D σ H
theorem ps_try {X : Cx} {x n : Str} {i : Nat} {Y : Value} {body suite : List Stmt} {b₀ : Stmt} {np hpos pos : Pos} {tb : XK → TS} {ts : TS} (hst : X.stack = X.env :: X.outer) (hfr : X.env.frame = some X.env.locals) (hex : X.ex = []) (hN : X.N.Nodup) (hi : X.N[i]? = some n) (hlo : X.env.scope.names.lookup n = some .local)
    (hg : Gl X x) (hm : X.mg x = some Y) (hb : ∀ (pins : List (Addr × Obj)) (E : XK), PSs (X.body pins E) body (tb E)) (hs : ∀ ea, PSs (X.sui ea) (b₀ :: suite) ts) (hd : (x == ("__debug__" : Str)) = false := by decide) (hmk : ∀ ea, (X.A.mark (some (.ref ea))).frames = X.A.frames := by intro _; rfl) :
    PS X (.Try body [.ExceptHandler (some (.Name x np)) (some n) (b₀ :: suite) hpos] [] [] pos) (tTry X.K Y X.N.length i tb ts) := by
  intro pins s σ H D I h
  rw [arm_exec_Try]
  refine wpAny_bind (wpAny_standAt (wpAny_tryStmt_except ?_))
  have hsp : ∀ (f : Flow) (s' : Shared), SP (X.body pins (tE X.K Y X.N.length i ts D)) [] D f s' → SP X pins D f s' := fun f s' q => by
    have back : ∀ {σ' : St} {H' : Hp}, Inv (X.body pins (tE X.K Y X.N.length i ts D)) [] σ' H' s' → Inv X pins σ' H' s' := fun J => (J.ofBody I.ok).fewer
    cases f with
    | next => obtain ⟨σ', H', J, z⟩ := q; exact ⟨σ', H', back J, z⟩
    | brk => obtain ⟨σ', H', J, z⟩ := q; exact ⟨σ', H', back J, z⟩
    | cont => obtain ⟨σ', H', J, z⟩ := q; exact ⟨σ', H', back J, z⟩
    | ret u => obtain ⟨v, σ', H', J, r, z⟩ := q; exact ⟨v, σ', H', back J, r, z⟩
  refine wpAny_mono (hb pins _ [] s σ H D (I.toBody _) h) (fun f s1 q => ?_) fun e s1 q => ?_
  · have q' := hsp f s1 q
    cases f with
    | next => exact wpAny_execs_nil q'
    | _ => exact q'
  obtain ⟨pins', σ1, H1, s2, I2, ea, t, cls, H', B, rfl, os, bare, fl, G, exm, k⟩ := q
  have I2 := I2.fewer
  rw [hst] at fl
  -- it is new
  obtain ⟨oe, hoe, hoc, vse, hde⟩ : ∃ o, s1.heap.get? ea = some o ∧ o.cls = cls ∧ ∃ vs, o.data = .fields vs := by
    obtain ⟨_, _, _, oe, vs, _, _, _, he, hc, hd', _⟩ := fl
    exact ⟨oe, he, hc.1, vs, hd'⟩
  have hH' : H' ea = none := by
    cases z : H' ea with
    | none => rfl
    | some u =>
      have := G.trk ea u z oe hoe
      rw [fl.2.1] at this; cases this
  have fresh : s2.heap.get? ea = none := by
    cases z : s2.heap.get? ea with
    | none => rfl
    | some o =>
      by_cases hf : ea ∈ frs X.stack
      · obtain ⟨o1, e1, n1⟩ := G.nf ea hf
        rw [hoe] at e1; cases e1
        exact absurd hde (n1 vse)
      · have := G.old ea o z hf oe hoe
        rw [fl.2.1] at this; cases this
  have new0 : X.s₀.heap.get? ea = none := by
    cases z : X.s₀.heap.get? ea with
    | none => rfl
    | some o =>
      obtain ⟨o', e'⟩ := I2.base.there ea o z (by rw [hex]; simp)
      rw [fresh] at e'; cases e'
  have nloc : ea ≠ X.env.locals := fun z => by
    obtain ⟨m, ⟨oL, _, _, hoL, _⟩, _⟩ := I2.loc
    rw [← z, fresh] at hoL; cases hoL
  have ncell : ∀ x c, X.env.cells.lookup x = some c → c ≠ ea := fun x c e z => by
    obtain ⟨v, o, ho, _⟩ := I2.cell x c e
    rw [z, fresh] at ho; cases ho
  have npin : ∀ p ∈ X.pn ++ pins, p.1 ≠ ea := fun p hp z => by
    have := (I2.pin p hp).1
    rw [z, fresh] at this; cases this
  refine wpAny_looks_onW (by rw [I.ok.frames, hst]) hfr fl fun h4 held up4 => ?_
  have G4 := G.move held.1 up4
  refine wpAny_landsW held fun h5 fl5 up5 => ?_
  have G5 := G4.move fl5.1 up5
  have I5 : Inv X pins σ1 H' { s1 with heap := h5 } := I2.flown os bare G5
  obtain ⟨ob5, hob5, hoc5⟩ := fl5.there
  have LT : PySem.W.Looks (model X.prog X.w) h5 (typeOf (.ref ea)) cls := hoc5 ▸ (PySem.W.Looks.ld hob5).andThen .now
  have E5 := PySem.W.exm_one (M := model X.prog X.w) (h := h5) I5.kIn LT exm
  refine wpAny_handleBy_cons (codeAny_handlers_test (ld_glob (I5.sui ea (hmk ea)) hg hm ?_ hd)) (by intro z; cases z)
  refine E5 _ _ _ _ (fun b o z => z) ?_
  rw [if_pos rfl]
  refine codeAny_handlers_suite_as (PyProof.Rows.lands_againW fl5 fun h6 fl6 up6 => ?_)
  have G6 := G5.move fl6.1 up6
  have I6 : Inv X pins σ1 H' { s1 with heap := h6 } := I2.flown os bare G6
  have I7 : Inv X pins σ1 (upd H' ea (excO ea cls)) { s1 with heap := h6 } := I6.track new0 hH' rfl nloc ncell npin (by
    obtain ⟨_, _, _, oe6, vs6, _, _, _, he6, hc6, hd6, _⟩ := fl6
    exact ⟨oe6, he6, hc6.1, vs6, hd6⟩)
  refine store_ok (X := X.sui ea) (I7.sui ea (hmk ea)) hN hi (.inl hlo) (show RelV (.ref ea) (.ref ea) from rfl) (fun s8 I8 => ?_) (.inr hlo)
  refine wpAny_mono (hs ea pins s8 _ _ (D.gone i) I8 (k σ1 ea I2.len hH')) (fun f s9 q => ?_) fun _ _ z => False.elim z
  have fin : ∀ {σ' : St} {H9 : Hp}, Inv (X.sui ea) pins σ' H9 s9 → (∀ s', Inv X pins (σ'.set i none) H9 s' → SP X pins D f s') →
      wpAny (model X.prog X.w) X.A (do bindName X.env n .none; unbindBehindTheSuite X.env n hpos) (fun _ s3 => SP X pins D f s3) X.xe s9 := fun {σ' H9} J kk => by
    have J' := J.unsui I.ok
    refine wpAny_bind (wpAny_bindName (store_ok J' hN hi (.inl hlo) (show RelV .non .none from rfl) (fun s10 J10 => ?_) (.inr hlo)))
    have hiσ : i < σ'.length := by rw [J'.len]; exact (List.getElem?_eq_some_iff.mp hi).1
    refine wpAny_onRaise (drop_ok J10 hN hi hlo (by rw [List.getElem?_set_self hiσ]) fun s11 J11 => ?_)
    rw [List.set_set] at J11
    exact kk s11 J11
  cases f with
  | next => obtain ⟨σ', H9, J, z⟩ := q; exact fin J fun s' J' => ⟨_, H9, J', z⟩
  | brk => obtain ⟨σ', H9, J, z⟩ := q; exact fin J fun s' J' => ⟨_, H9, J', z⟩
  | cont => obtain ⟨σ', H9, J, z⟩ := q; exact fin J fun s' J' => ⟨_, H9, J', z⟩
  | ret u => obtain ⟨v, σ', H9, J, r, z⟩ := q; exact fin J fun s' J' => ⟨v, _, H9, J', r, z⟩
end L2

namespace L2
open PySem PySem.Spec PyProof.Rows PySem.W PySem.Builtin.ObjectAttr PySem.Builtin.Getset_descriptor
structure ExcCls (K : PySem.W.Frag) (C : Addr) : Prop where
  cl : hasDictIn K C = true
  ga : findIn K (.ref C) "__getattribute__" = some (some (.builtin "BaseException.__getattribute__"))
  gt : findIn K (.ref C) "__getattr__" = some none
  kl : findIn K (.ref C) "__class__" = some (some (.builtin "object.__class__"))
  gg : specialIn K (.builtin "object.__class__") "__get__" = some (some (.builtin "getset_descriptor.__get__"))
  tk : takesIn K (.builtin "object.__class__") = some true
  ob : mroIn K C (.type "object") = some true
  ex : subIn K (.ref C) (.type "BaseException") = some true
def ExcAt (e C : Addr) (h : Heap) : Prop := ∃ o, h.get? e = some o ∧ o.cls = .ref C ∧ ∃ vs, o.data = .fields vs
section
variable {K : PySem.W.Frag} {C e : Addr} {prog : Program} {w : World} {A : Around} {E : Value → Shared → Prop} {s : Shared}
theorem ExcAt.looks {M : Model} {h : Heap} (x : ExcAt e C h) : Looks M h (typeOf (.ref e)) (.ref C) := by
  obtain ⟨o, h1, h2, _⟩ := x
  exact h2 ▸ (Looks.ld h1).andThen .now
theorem exc_cg {R : Result → Shared → Prop} {tp : Value} (Z : ExcCls K C) (X : K.In s.heap) (x : ExcAt e C s.heap) (h : R (.ok (.ret (.ref C))) s) :
    codeAny (model prog w) A (.call (.builtin "getset_descriptor.__get__") ⟨[.builtin "object.__class__", .ref e, tp], []⟩) R s := by
  obtain ⟨hh, g, dr, t, os⟩ := s
  have L0 := x.looks (M := model prog w)
  have L9 := looks_mroIn (M := model prog w) X Z.ob
  refine codeAny_call_builtin KF.slot_gs.plain KF.entry_gs ?_
  refine KF.slot_gs.check _ _ _ _ _ _ _ _ KF.type_class (KF.args_gs _ _ _) ?_
  unfold Builtin.«getset_descriptor.__get__»; unfold descrGet; rw [dga_obj]
  refine wpAny_bind (wpAny_pure ?_)
  unfold descrGetter; unfold descrCheckInstance descrNameAndClass isInstance
  simp only [KF.owner_class]
  repeat lk
  constructor
  · exact Code.quiet_builtin _ (by decide +kernel)
  refine codeAny_builtin KF.entry_class ?_
  unfold Builtin.«object.__class__»; unfold shownTypeOf
  repeat lk
  exact h
theorem exc_find (Z : ExcCls K C) (X : K.In s.heap) (M : Model) : Looks M s.heap (find (.ref e) (.ref C) "__class__") (.bind (.builtin "getset_descriptor.__get__") (.builtin "object.__class__")) := by
  unfold find
  refine (looks_findIn X Z.kl).andThen ?_
  refine (show Looks M s.heap (getOf (some (.builtin "object.__class__"))) (some (.builtin "getset_descriptor.__get__")) from looks_specialIn X Z.gg).andThen ?_
  refine (show Looks M s.heap (dataDescriptor? (some (.builtin "object.__class__")) (some (.builtin "getset_descriptor.__get__"))) (some (.builtin "getset_descriptor.__get__", .builtin "object.__class__")) from (looks_takesIn X Z.tk).andThen .now).andThen ?_
  exact Looks.tag .now
theorem exc_ga {tk : Tok} {Q : Fin → Shared → Prop} (Z : ExcCls K C) (X : K.In s.heap) (x : ExcAt e C s.heap) (h : Q (.done (.ret (.ref C))) s) :
    wpAny (model prog w) A (Builtin.«object.__getattribute__» ⟨[.ref e, .str "__class__" tk], []⟩) Q E s := by
  obtain ⟨hh, g, dr, t, os⟩ := s
  have L0 := x.looks (M := model prog w)
  have L1 := exc_find (e := e) Z X (model prog w)
  unfold Builtin.«object.__getattribute__»
  refine wpAny_bind (wpAny_pure (wpAny_bind (wpAny_pure (wpAny_bind (L0.at (wpAny_bind (L1.at ?_)))))))
  show wpAny _ _ (bindTo _ _ _ _) _ _ _
  show wpAny _ _ (holding [_] (call (.builtin "getset_descriptor.__get__") [.builtin "object.__class__", .ref e, .ref C]) >>= ret) _ _ _
  exact wpAny_bind (wpAny_holding (wpAny_call (exc_cg Z X x (wpAny_pure h))))
theorem exc_check {M : Model} {nv : Value} {Q : Unit → Shared → Prop} (Z : ExcCls K C) (X : K.In s.heap) (x : ExcAt e C s.heap) (h : Q () s) : wpAny M A (checkBuiltinCall "BaseException.__getattribute__" ⟨[.ref e, nv], []⟩) Q E s := by
  obtain ⟨hh, g, dr, t, os⟩ := s
  have L0 := x.looks (M := M)
  have L3 := looks_subIn (M := M) X Z.ex
  have hk : builtinKind "BaseException.__getattribute__" = some .slot := by decide +kernel
  have hsp : splitId "BaseException.__getattribute__" = some ("BaseException", "__getattribute__") := by decide +kernel
  have hok := F.args_bexc_ga (.ref e) nv
  simp only [hk, hsp, checkBuiltinCall]
  refine wpAny_bind ?_
  unfold isInstance
  repeat (first | lk | wp_step)
  exact h
theorem exc_class {Q : Option Value → Shared → Prop} (Z : ExcCls K C) (X : K.In s.heap) (x : ExcAt e C s.heap) (h : Q (some (.ref C)) { s with toks := s.toks + 1 }) : wpAny (model prog w) A (getAttr? (.ref e) "__class__") Q E s := by
  obtain ⟨hh, g, dr, t, os⟩ := s
  have L0 := x.looks (M := model prog w)
  have L1 := looks_findIn (M := model prog w) X Z.ga
  have L2 := looks_findIn (M := model prog w) X Z.gt
  have L3 := looks_subIn (M := model prog w) X Z.ex
  have fb := F.attr_ValueError.ga.bind (.ref e)
  unfold getAttr? getAttrBy? getAttrBy
  refine wpAny_bind (wpAny_mkText (wpAny_bind (wpAny_attempt (wpAny_holding (wpAny_bind (L0.at (wpAny_bind (L1.at ?_))))))))
  show wpAny _ _ (getAttrByItsOwn _ _ _ _ _ _) _ _ _
  unfold getAttrByItsOwn
  refine wpAny_bind (show wpAny _ _ (typeLookup (.ref C) "__getattr__") _ _ _ from L2.at ?_)
  refine wpAny_bind (wpAny_attempt (wpAny_holding ?_))
  show wpAny _ _ (boundAndCalled _ _ _) _ _ _
  unfold boundAndCalled
  rw [fb]
  refine wpAny_bind (wpAny_pure (wpAny_call (codeAny_call_builtin F.attr_ValueError.ga.plain F.entry_bexc_ga (exc_check Z X x (exc_ga Z X x ?_)))))
  refine wpAny_pure ?_
  exact wpAny_pure h
theorem kitx_exc (Z : ExcCls K C) : KitX K (.ref e) (.ref C) (ExcAt e C) where
  ty := fun _ _ _ x => x.looks
  it := fun M h X _ => by
    obtain ⟨cd, hc, -⟩ := any_some Z.cl
    unfold clsIn at hc
    split at hc
    · next ho =>
      intro A Q E s k q
      unfold isType; unfold loadHead
      exact wpAny_bind (wpAny_loadPart (k _ _ (X _ _ ho)) (wpAny_pure q))
    · cases hc
  ne := fun h tp dd its n sl X htp => by
    obtain ⟨cd, hc, -⟩ := any_some Z.cl
    cases z : (Value.ref C == Value.ref tp) with
    | false => rfl
    | true =>
      have e : C = tp := Value.ref.inj (beq_iff_eq.mp z)
      subst e
      unfold clsIn at hc
      split at hc
      · next ho => cases (X _ _ ho).symm.trans htp
      · cases hc
  ca := fun X x k => exc_class Z X x k
end
def rIsX (K : PySem.W.Frag) : List V → Hp → VK → Prop := fun xs H Q => ∃ ea C cv c b, xs = [.ref ea, cv] ∧ RelV cv c ∧ H ea = some (excO ea (.ref C)) ∧ ExcCls K C ∧ kitOne K (.ref C) c = some b ∧ Q (.bl b) H
theorem call_isinstX {X : Cx} (K : PySem.W.Frag) (hK : X.K = K) : CallR X (.builtin "isinstance") (rIsX K) := by
  subst hK
  intro pins s σ H xs us Q I r h
  obtain ⟨ea, C, cv, c, b, rfl, rc, hea, Z, e, q⟩ := h
  obtain ⟨u, v, rfl, ru, rv⟩ := r.two
  cases ru
  have ec : v = c := by
    cases cv with
    | non => cases rc; cases rv; rfl
    | bl y => cases rc; cases rv; rfl
    | ref y => cases rc; cases rv; rfl
    | ty y => cases rc; cases rv; rfl
    | int y => obtain ⟨t, rfl⟩ := rc; cases (show kitOne X.K (.ref C) (.int y t) = some b from e)
    | str y => obtain ⟨t, rfl⟩ := rc; cases (show kitOne X.K (.ref C) (.str y t) = some b from e)
    | byt y => obtain ⟨t, rfl⟩ := rc; cases (show kitOne X.K (.ref C) (.bytes y t) = some b from e)
    | flt y => obtain ⟨t, rfl⟩ := rc; cases (show kitOne X.K (.ref C) (.float y t) = some b from e)
  subst ec
  obtain ⟨x, _, _⟩ := (show ObjOk X.prog X.w H s.heap ea (excO ea (.ref C)) from I.hok ea _ hea)
  exact kia_one (kitx_exc Z) I.kIn x e (fun z => nomatch z) fun tk => ⟨.bl b, H, I.tok tk, rfl, q⟩
end L2

namespace L2
open PySem PySem.Spec PyProof.Rows
section
variable {X : Cx}
end
section
variable {X : Cx} {k : Nat} {ps : List Str} {sp : Sp} {x m : Str} {p pos apos : Pos} {e o : Expr} {es : List Expr} {ta : TE} {t : TA} {C : Addr} {E : XK}
end
abbrev excBm : List Value := [.type "ValueError", .type "Exception", .type "BaseException", .type "object"]
structure ExcT (K : PySem.W.Frag) (mg : Str → Option Value) (base : Heap) (x : Str) (C CY : Addr) : Prop where
  own : OwnCls x C excBm "ValueError.__new__" mg base
  cls : ExcCls K C
  exm : PySem.W.exmOne K (.ref C) (.ref CY) = some true
  val : PySem.W.kitOne K (.ref C) (.type "ValueError") = some true
theorem ExcT.me {K : PySem.W.Frag} {C : Addr} : PySem.W.kitOne K (.ref C) (.ref C) = some true := by
  unfold PySem.W.kitOne
  rw [if_pos (by simp)]
end L2

namespace Y
open PySem L2 Yd
end Y

namespace L2
open PySem PySem.Spec PyProof.Rows
section
variable {X : Cx}
def rEqTB (K : PySem.W.Frag) : R2 := fun x y H Q => ∃ (a b : Addr) (xs ys : List Bool), x = .ref a ∧ y = .ref b ∧ SqT K H a (xs.map V.bl) ∧ SqT K H b (ys.map V.bl) ∧ xs.length = ys.length ∧ Q (.bl (decide (xs = ys))) H
theorem op_eqTB (hu : X.A.units < cLine) : OpR X (compareOp .Eq) (rEqTB X.K) := by
  intro pins s σ H x y v u Q I rx ry h
  obtain ⟨a, b, xs, ys, rfl, rfl, ha, hb, hl, q⟩ := h
  cases rx; cases ry
  obtain ⟨its, r1, pl1, _⟩ := I.tuple ha
  obtain ⟨its2, r2, pl2, _⟩ := I.tuple hb
  have l1 := r1.length
  have l2 := r2.length
  rw [List.length_map] at l1 l2
  have ed : decide (xs.map V.bl = ys.map V.bl) = decide (xs = ys) := by rw [Bool.eq_iff_iff, decide_eq_true_iff, decide_eq_true_iff]; exact map_bl_inj
  refine SeqAt.eq_tupleAt (e := fun j => decide ((xs.map V.bl).getD j .non = (ys.map V.bl).getD j .non)) pl1 pl2 hu (fun j h1 h2 => eqAt_bl r1 r2 j h1 h2) ⟨.bl _, H, I, rfl, ?_⟩
  rw [List.size_toArray, List.size_toArray, ← l1, ← l2, hl, Nat.min_self, BEq.rfl, Bool.and_true, ← hl, ← List.length_map (f := V.bl), all_range_eq (by simpa using hl), ed]
  exact q
theorem call_isinstC : CallR X (.builtin "isinstance") (fun xs H Q => ∃ x C t b, xs = [x, .ref C] ∧ TyOf X.K H x t ∧ PySem.W.kitOne X.K t (.ref C) = some b ∧ Q (.bl b) H) := by
  intro pins s σ H xs us Q I r h
  obtain ⟨x, C, t, b, rfl, ty, e, q⟩ := h
  obtain ⟨u, v, rfl, ru, rv⟩ := r.two
  cases rv
  exact isinst_ok I ru ty e fun tk => ⟨.bl b, H, I.tok tk, rfl, q⟩
end
def FnX (P : Program) (w : World) (K : PySem.W.Frag) (mg : Str → Option Value) (base : Heap) (x : Str) (ps : List Str) (k : Nat) (sp : Sp) : Prop :=
  ∃ f fd, mg x = some (.ref f) ∧ PySem.W.keepIn K (.ref f) = true ∧ Binds K fd ps [] ∧ FnOk P w K mg base (CX1 P w) k f fd ps sp
section
variable {X : Cx} {k : Nat} {ps : List Str} {sp : Sp} {x : Str} {p pos : Pos} {e : Expr} {es : List Expr} {t : TA} {E : XK}
theorem pe_fnX (G : FnX X.prog X.w X.K X.mg X.base x ps k sp) (hr : Room k X.A) (hx : Passes (CX1 X.prog X.w) X E) (ha : PA X (e :: es) t) (hg : Gl X x := by rfl) (hdb : (x == ("__debug__" : Str)) = false := by decide)
    (he : starEach (e :: es) X.env = (false, eval e X.env) :: starEach es X.env := by rfl) (hpl : (backTo pos (starEach es X.env)).any (·.1) = false := by rfl) :
    PE X (.Call (.Name x p) (e :: es) [] pos) (tCall sp [] E t) := by
  obtain ⟨f, fd, h1, h2, h3, h4⟩ := G
  exact pe_call h4 hr hg h1 h2 h3 .nil hx ha hdb he hpl
end
structure IsC (K : PySem.W.Frag) (C : Addr) : Prop where
  cl : Cls K C
  ha : PySem.W.findIn K (.ref C) "__class__" = some (some (.builtin "object.__class__"))
  hn : PySem.W.specialIn K (.builtin "object.__class__") "__get__" = some (some (.builtin "getset_descriptor.__get__"))
  htk : PySem.W.takesIn K (.builtin "object.__class__") = some true
  hm : PySem.W.mroIn K C (.type "object") = some true
  kT : PySem.W.kitOne K (.type "tuple") (.ref C) = some false
theorem IsC.ty {K : PySem.W.Frag} {C : Addr} (I : IsC K C) {H : Hp} {a dx : Addr} {fs : List (Str × V)} (e : H a = some (.ins C dx fs)) : TyOf K H (.ref a) (.ref C) := .ins e I.cl I.ha I.hn I.htk I.hm
end L2

namespace L2
open PySem PySem.Spec PyProof.Rows
abbrev TJ := Str → St → Hp → VK → Prop
def PJ (X : Cx) (vs : List Expr) (t : TJ) : Prop := ∀ (pins : List (Addr × Obj)) (s : Shared) (σ : St) (H : Hp) (acc : Str) (Q : VK), Inv X pins σ H s → t acc σ H Q →
  wpAny (model X.prog X.w) X.A (joinParts acc (evalEach vs X.env)) (EP X pins σ Q) X.xe s
section
variable {X : Cx} {v v2 : Expr} {rest : List Expr} {tv : TE} {t : TJ} {pos : Pos}
def jNil : TJ := fun acc _ H Q => acc.length ≤ sizeLine ∧ Q (.str acc) H
def jCons (tv : TE) (t : TJ) : TJ := fun acc σ H Q => tv σ H fun x H1 => ∃ y, x = .str y ∧ (acc ++ y).length ≤ sizeLine ∧ t (acc ++ y) σ H1 Q
theorem pj_nil : PJ X [] jNil := fun _ s _ H acc _ I h => PyProof.Rows.joinParts_nil ⟨.str acc, H, I.tok _, ⟨_, rfl⟩, h.2⟩ h.1
theorem pj_cons (hv : PE X v tv) (hr : PJ X rest t) : PJ X (v :: rest) (jCons tv t) := by
  intro pins s σ H acc Q I h
  show wpAny _ _ (joinParts acc (eval v X.env :: evalEach rest X.env)) _ _ _
  refine PyProof.Rows.joinParts_cons (thn (hv pins s σ H _ I h) fun u s1 ⟨x, H1, I1, r1, y, e, hz, q⟩ => ?_)
  subst e
  obtain ⟨t', rfl⟩ := r1
  exact ⟨hz, hr pins s1 σ H1 (acc ++ y) Q I1 q⟩
theorem pe_fstr (h : PJ X (v :: v2 :: rest) t) : PE X (.JoinedStr (v :: v2 :: rest) pos) (t Str.empty) := by
  intro pins s σ H Q I hq
  exact PyProof.Rows.JoinedStr_many (h pins s σ H Str.empty Q I hq)
end
end L2
namespace Y
open PySem L2 Yd
end Y

namespace L2
open PySem PySem.Spec PyProof.Rows
end L2
namespace L2
open PySem PySem.Spec PyProof.Rows
section
variable {P : Program} {w : World} {K : PySem.W.Frag} {mg : Str → Option Value} {base : Heap} {CX : CXT} {k : Nat} {f : Addr} {fd : FuncData} {ps : List Str} {sp sp' : Sp}
end
end L2

namespace Y
open PySem L2 Yd
def wordOf (rule : Int) : Str := if rule = 0 then "first" else if rule = 1 then "name" else "far"
def headT (m : Nat) (rule : Int) : Str := ((Str.ofString (toString (m : Int)) ++ (" " : Str)) ++ wordOf rule) ++ (":" : Str)
def NB (c : Lay) : Prop := ∀ n ∈ nm c, 0 ≤ n ∧ n < 10 ^ 30
theorem NB.at {c : Lay} (h : NB c) {p : Nat} {n : Int} (e : g c p = some n) : 0 ≤ n ∧ n < 10 ^ 30 := h n (mem_nm.mpr ⟨p, e⟩)
theorem lg_of {a : Int} (h0 : 0 ≤ a) (h : a < 10 ^ 30) : a.natAbs.log2 < 1920 := by
  have hn : a.natAbs < 2 ^ 100 := by
    have : (10 : Int) ^ 30 < 2 ^ 100 := by decide
    omega
  by_cases z : a.natAbs = 0
  · rw [z]; decide
  · exact Nat.lt_of_lt_of_le ((Nat.log2_lt z).mpr hn) (by decide)
theorem len_of {a : Int} (h0 : 0 ≤ a) (h : a < 10 ^ 30) : (Str.ofString (toString a)).length ≤ 31 := by
  rw [ofString_length]
  exact int_text_length_le10 (by decide) (by omega)
theorem word_len (rule : Int) : (wordOf rule).length ≤ 5 := by
  unfold wordOf
  split
  · decide +kernel
  · split <;> decide +kernel
theorem head_len {m : Nat} (h : m ≤ 200) (rule : Int) : (headT m rule).length ≤ 40 := by
  unfold headT
  have h1 := len_of (a := (m : Int)) (by omega) (by omega)
  have h2 := word_len rule
  have h3 : ((" " : Str)).length = 1 := by decide +kernel
  have h4 : ((":" : Str)).length = 1 := by decide +kernel
  rw [Str.length_append, Str.length_append, Str.length_append, h3, h4]
  omega
def spNameB : Sp := fun vs H Q _ => ∃ (z : Int) (m : Nat) (b : Bool), vs = [.int z, .int m, .bl b] ∧ 0 < m ∧ m ≤ 200 ∧ ∀ n : Int, 0 ≤ n → n < 10 ^ 30 → Q (.int n) H
end Y

namespace TM
open PySem
def jn : List (List Nat) → List Nat
  | [] => []
  | [x] => x
  | x :: r => x ++ 32 :: jn r
theorem blank_eq : ((" " : Str)) = ⟨#[32]⟩ := by decide +kernel
theorem join_jn : ∀ ps : List Str, (Str.join (" " : Str) ps).cps.toList = jn (ps.map fun p => p.cps.toList)
  | [] => rfl
  | [x] => rfl
  | x :: y :: r => by
    show (x ++ (" " : Str) ++ Str.join (" " : Str) (y :: r)).cps.toList = _
    rw [Str.cps_append, Str.cps_append, Array.toList_append, Array.toList_append, join_jn (y :: r), blank_eq]
    simp [jn]
theorem signs_nat (m : Nat) : (Str.ofString (toString ((m : Nat) : Int))).cps.toList = (Nat.toDigits 10 m).map Char.toNat := by
  rw [PyProof.Rows.signs_ofString]
  show List.map Char.toNat (Nat.repr m).toList = _
  rw [Nat.toList_repr]
theorem fig_range {c : Char} (h : c.isDigit = true) : 48 ≤ c.toNat ∧ c.toNat ≤ 57 := by
  simp only [decide_eq_true_eq, Char.isDigit, Bool.and_eq_true] at h
  exact ⟨UInt32.le_iff_toNat_le.mp h.1, UInt32.le_iff_toNat_le.mp h.2⟩
theorem figs (m : Nat) : ∀ c ∈ (Str.ofString (toString ((m : Nat) : Int))).cps.toList, 48 ≤ c ∧ c ≤ 57 := by
  intro c hc
  rw [signs_nat] at hc
  obtain ⟨cc, hch, e⟩ := List.mem_map.mp hc
  rw [← e]
  exact fig_range (Nat.isDigit_of_mem_toDigits (by decide) (by decide) hch)
theorem digs_ne (m : Nat) : Nat.toDigits 10 m ≠ [] := by
  by_cases h : m < 10
  · rw [Nat.toDigits_of_lt_base h]; simp
  · have t : Nat.toDigits 10 (m / 10) ++ Nat.toDigits 10 (m % 10) = Nat.toDigits 10 (10 * (m / 10) + m % 10) := Nat.toDigits_append_toDigits (by decide) (by omega) (Nat.mod_lt m (by decide))
    rw [Nat.div_add_mod] at t
    rw [← t, Nat.toDigits_of_lt_base (Nat.mod_lt m (by decide))]
    simp
theorem dig_pos : ∀ d : Nat, d < 10 → 0 < d → (Nat.digitChar d).toNat ≠ 48 := by decide
theorem head_ne (m : Nat) (h0 : 0 < m) : ∀ c, (Nat.toDigits 10 m).head? = some c → c.toNat ≠ 48 := by
  induction m using Nat.strongRecOn
  case ind m ih =>
    intro c hc
    by_cases h : m < 10
    · rw [Nat.toDigits_of_lt_base h] at hc
      cases hc
      exact dig_pos m h h0
    · have t : Nat.toDigits 10 (m / 10) ++ Nat.toDigits 10 (m % 10) = Nat.toDigits 10 (10 * (m / 10) + m % 10) := Nat.toDigits_append_toDigits (by decide) (by omega) (Nat.mod_lt m (by decide))
      rw [Nat.div_add_mod] at t
      rw [← t] at hc
      refine ih (m / 10) (by omega) (by omega) c ?_
      revert hc
      cases e : Nat.toDigits 10 (m / 10) with
      | nil => exact absurd e (digs_ne _)
      | cons a r => exact fun z => z
end TM

namespace L2
open PySem PySem.Spec PyProof.Rows
theorem vals_strs : ∀ l : List (Str × Tok), Vals ((l.map (·.1)).map V.str) (strValues l)
  | [] => .nil
  | p :: l => .cons ⟨p.2, rfl⟩ (vals_strs l)
theorem strs_of {ys : List Str} : ∀ {us : List Value}, Vals (ys.map V.str) us → StrsAre us ys := by
  induction ys with
  | nil => intro us r; rw [List.map_nil] at r; cases r; exact .nil
  | cons y ys ih =>
    intro us r
    rw [List.map_cons] at r
    cases r with
    | cons r1 r2 =>
      obtain ⟨t, e⟩ := r1
      subst e
      exact .cons y t (ih r2)
section
variable {X : Cx}
def rSplit : V → List V → Hp → VK → Prop := fun x xs H Q => ∃ t y, x = .str t ∧ xs = [.str y] ∧ (y.length == 0) = false ∧ t.length + 2 ≤ sizeLine ∧ ∀ l, H l = none → Q (.ref l) (upd H l (.lst ((Txt.split t y).map V.str)))
theorem mt_split : MtR X "str.split" rSplit := by
  intro pins s σ H x xs v us Q I rx rv h
  obtain ⟨z, y, rfl, rfl, hy, hz, q⟩ := h
  obtain ⟨t, rfl⟩ := rx
  obtain ⟨u0, rfl, t', rfl⟩ := vals1 rv
  have hn : (Builtin.Str.partsBetween z (Builtin.Str.occurrences z y 0 z.length (z.length + 1)) y.length).length ≤ sizeLine := by
    have e1 := StrLaws.occ_length_le z y 0 z.length (z.length + 1)
    rw [length_partsBetween]
    omega
  have fin : ∀ (l : List (Str × Tok)) (k : Nat), l.map (·.1) = Txt.split z y → (strValues l).length ≤ sizeLine → EP X pins σ Q (.ref s.heap.objs.size) { s with heap := s.heap.push { cls := .type "list", data := .seq (strValues l).toArray }, toks := k } := fun l k e hl => by
    refine ⟨.ref _, _, I.lnew (t' := k) (vals_strs l) ?_, rfl, ?_⟩
    · rw [(vals_strs l).length]; exact hl
    · rw [e]; exact q _ I.fresh
  have lenV : ∀ l : List (Str × Tok), (strValues l).length = l.length := fun l => by simp [strValues]
  cases h1 : (decide (z.length < y.length) || decide (Builtin.Str.strKind z < Builtin.Str.strKind y))
  · cases hf : (Builtin.Str.occurrences z y 0 z.length (z.length + 1)).isEmpty
    · refine call_meets F.slot_str_split (typeIs_str _ _ _) F.entry_str_split (F.args_str_split_2 _ _) (meets_str_split_sep z y t t' h1 hy hf (by omega) hn) ?_
      have hq := fin (numbered s.toks (Builtin.Str.partsBetween z (Builtin.Str.occurrences z y 0 z.length (z.length + 1)) y.length)) (s.toks + (Builtin.Str.partsBetween z (Builtin.Str.occurrences z y 0 z.length (z.length + 1)) y.length).length)
        ((numbered_texts _ _).trans ((if_neg (ne_true_of_eq_false h1)).trans (if_neg (ne_true_of_eq_false hf))).symm) (by
          rw [lenV, ← List.length_map (f := (·.1)), numbered_texts]
          exact hn)
      rw [← strsFrom_eq] at hq
      exact hq
    · exact call_meets F.slot_str_split (typeIs_str _ _ _) F.entry_str_split (F.args_str_split_2 _ _) (meets_str_split_not_found z y t t' h1 hy hf)
        (fin [(z, t)] s.toks ((if_neg (ne_true_of_eq_false h1)).trans (if_pos hf)).symm (by show 1 ≤ sizeLine; decide))
  · exact call_meets F.slot_str_split (typeIs_str _ _ _) F.entry_str_split (F.args_str_split_2 _ _) (meets_str_split_cannot_occur z y t t' h1)
      (fin [(z, t)] s.toks (if_pos h1).symm (by show 1 ≤ sizeLine; decide))
def rJoin (K : PySem.W.Frag) : V → List V → Hp → VK → Prop := fun x xs H Q => ∃ (sep : Str) (l : Addr) (ys : List Str), x = .str sep ∧ xs = [.ref l] ∧ SqL K H l (ys.map V.str) ∧ (ys.map (·.length)).sum + ys.length * sep.length ≤ 16777216 ∧ Q (.str (Txt.join sep ys)) H
theorem mt_join : MtR X "str.join" (rJoin X.K) := by
  intro pins s σ H x xs v us Q I rx rv h
  obtain ⟨sep, l, ys, rfl, rfl, hl, hz, q⟩ := h
  obtain ⟨t, rfl⟩ := rx
  obtain ⟨u0, rfl, e⟩ := vals1 rv
  cases e
  obtain ⟨its, r, pl, _⟩ := I.list hl
  exact join_list pl.isList (by simpa using strs_of r) hz fun t' k => ⟨.str _, H, I.tok _, ⟨_, rfl⟩, q⟩
theorem call_int_text : CallR X (.type "int") (fun xs H Q => ∃ (x : Str) (n : Int), xs = [.str x] ∧ PySem.intText? x = some n ∧ x.length ≤ 640 ∧ Q (.int n) H) := by
  intro pins s σ H xs us Q I r h
  obtain ⟨x, n, rfl, hn, hl, q⟩ := h
  obtain ⟨u, rfl, t, rfl⟩ := vals1 r
  exact PySem.W.KIN.call_text hn hl ⟨.int n, H, I.tok _, ⟨_, rfl⟩, q⟩
def tFmtS (te : TE) : TE := fun σ H Q => te σ H fun x H1 => ∃ y : Str, x = .str y ∧ y.length ≤ sizeLine ∧ Q (.str y) H1
theorem pe_fmtS {v : Expr} {tv : TE} {pos : Pos} (he : PE X v tv) : PE X (.FormattedValue v (-1) none pos) (tFmtS tv) := by
  intro pins s σ H Q I h
  refine PyProof.Rows.FormattedValue_plain (thn (he pins s σ H _ I h) fun u s1 ⟨x, H1, I1, r1, y, e, hz, q⟩ => ?_)
  subst e
  obtain ⟨t', rfl⟩ := r1
  exact PyProof.Rows.formatField_str (fun t2 tk => ⟨.str _, H1, I1.tok _, ⟨_, rfl⟩, q⟩) hz
def Its (z : Str) : It := ⟨fun i _ => i < z.cps.size, fun i H x H' => H' = H ∧ ∃ c, z.cps[i]? = some c ∧ x = .str ⟨#[c]⟩, fun i _ => z.cps.size ≤ i⟩
theorem turn_str {P : Program} {w : World} {K : PySem.W.Frag} {tg : Expr} (z : Str) (t : Tok) (it : Addr) : Turn P w K tg (Its z) [it] it (fun i h => i ≤ z.cps.size ∧ h.IsStrIter it "str_ascii_iterator" z t i) where
  mem := by simp
  obj := fun i h st b hb => by
    have e : b = it := by simpa using hb
    subst e
    obtain ⟨_, o, e, c, d⟩ := st
    exact ⟨o, e, fun v z => by rw [d] at z; cases z⟩
  keep := fun i h h' st k => by
    obtain ⟨hi, o, e, r⟩ := st
    exact ⟨hi, o, k it (by simp) o e, r⟩
  item := by
    intro X hP hw hK hc i pins s σ H E I hf st hg
    subst hP hw hK
    obtain ⟨f0, f1, f2, f3, f4, f5⟩ := hf it (by simp)
    have W := Walks.strAscii (prog := X.prog) (w := X.w) (I.ok.hd hc) it z t
    refine W.item i s _ _ hg st.2 fun v h' tk hv st' kk => ?_
    obtain ⟨c, u, hcu, rfl⟩ := hv
    have I1 : Inv X pins σ H { s with heap := h', toks := tk } := I.turned (fun b o hb e => kk b o (by simpa using hb) e) f0 f1 f3 f4 f5
    obtain ⟨o, e, co, d⟩ := id st'
    exact ⟨_, rfl, go_of (s := { s with heap := h', toks := tk }) e co d (by decide) ⟨.str ⟨#[c]⟩, H, I1, ⟨u, rfl⟩, ⟨rfl, c, hcu, rfl⟩, ⟨hg, st'⟩, fun b hb => (hf b hb).1⟩⟩
  done := by
    intro X hP hw hK hc i pins s σ H E I hf st hg
    subst hP hw hK
    obtain ⟨f0, f1, f2, f3, f4, f5⟩ := hf it (by simp)
    have W := Walks.strAscii (prog := X.prog) (w := X.w) (I.ok.hd hc) it z t
    have e : i = z.cps.size := Nat.le_antisymm st.1 hg
    subst e
    exact W.done s _ _ st.2 fun h' tk kk => ⟨rfl, I.turned (fun b o hb e => kk b o (by simpa using hb) e) f0 f1 f3 f4 f5⟩
  self := fun _ _ _ _ _ st h => wpAny_pyIter_striter_ascii st.2 h
def iStr (tl : TE) : TI := fun σ H R => tl σ H fun x H1 => ∃ z, x = .str z ∧ z.cps.all (· < 128) = true ∧ R (Its z) H1
theorem pi_str {tg l : Expr} {tl : TE} (hl : PE X l tl) : PI X tg l (iStr tl) := by
  intro pins s σ H R I h
  refine thn (hl pins s σ H _ I h) fun v s1 ⟨x, H1, I1, r1, z, e, ha, q⟩ => ?_
  subst e
  obtain ⟨t, rfl⟩ := r1
  refine wpAny_pyIter_ascii ha ?_
  refine ⟨s1.heap.objs.size, [s1.heap.objs.size], _, _, H1, rfl, I1.kept (t' := s1.toks) fun b o e => Heap.get?_push_of_some _ e, turn_str z t _, ⟨Nat.zero_le _, _, Heap.get?_push_size _ rfl, rfl, rfl⟩, fun b hb => ?_, q⟩
  have e : b = s1.heap.objs.size := by simpa using hb
  subst e
  exact I1.fpOk (Nat.le_refl _) (I1.hok.fresh (Nat.le_refl _))
end
end L2

namespace ET
open PySem
set_option maxRecDepth 100000
section
variable {prog : Program} {w : World} {E : Value → Shared → Prop} {A : Around} {s : Shared}
theorem next_item {it a : Addr} {i : Nat} {xs} {x : Value} {Q : Value → Shared → Prop} (hI : s.heap.IsTupleIter it a i) (hT : s.heap.IsTuple a xs) (hX : xs[i]? = some x) (hQ : ∀ h', h'.IsTupleIter it a (i + 1) → Heap.SameBut it s.heap h' → Q x { s with heap := h' }) : wpAny (model prog w) A (Builtin.SmallTypes.nextOf (.ref it)) Q E s := by
  obtain ⟨o, hO, hC, hD⟩ := id hI
  obtain ⟨oa, hA, _, na, hDa⟩ := hT
  (unfold Builtin.SmallTypes.nextOf)
  refine wpAny_bind (wpAny_callSpecial?_slot (name := Str.ofString "__next__") hI.typeIs F.slot_tuple_iterator_next (wpAny_call_entry F.slot_tuple_iterator_next hI.typeIs F.entry_tuple_iterator_next ?_ (F.args_tuple_iterator_next_1 _)))
  show wpAny _ _ (field (Value.ref it) 0 >>= _) _ _ s
  refine wpAny_bind (wpAny_field hO hD (x := .ref a) rfl ?_)
  show wpAny _ _ (if (Value.ref a == Value.none) = true then _ else _) _ _ s
  rw [if_neg (show ¬ ((Value.ref a == Value.none) = true) from Bool.false_ne_true)]
  show wpAny _ _ (field (Value.ref it) 1 >>= _) _ _ s
  refine wpAny_bind (wpAny_field hO hD (x := .int i 0) rfl ?_)
  show wpAny _ _ (seqItems? (Value.ref a) >>= _) _ _ s
  refine wpAny_bind (wpAny_seqItems hA hDa ?_)
  simp only [hX, Int.toNat_natCast]
  refine wpAny_bind (wpAny_setField hO hD (by simp) (wpAny_pure ⟨x, rfl, wpAny_pure (hQ _ ?_ (Heap.SameBut.update ..))⟩))
  exact ⟨_, Heap.get?_update_self _ hO (Obj.isFreed_of_fields (Obj.data_mapFields hD _)), (Obj.cls_mapFields ..).trans hC, by rw [Obj.data_mapFields hD]; simp [rawInt]⟩
theorem next_end {it a : Addr} {i : Nat} {xs} {Q : Value → Shared → Prop} (hh : A.handled = none) (hI : s.heap.IsTupleIter it a i) (hT : s.heap.IsTuple a xs) (hX : xs[i]? = none)
    (hE : ∀ h' e, Heap.ExtBut it s.heap h' → (∃ o, h'.get? e = some o ∧ o.cls = .type "StopIteration") → E (.ref e) { s with heap := h' }) : wpAny (model prog w) A (Builtin.SmallTypes.nextOf (.ref it)) Q E s := by
  obtain ⟨o, hO, hC, hD⟩ := id hI
  obtain ⟨oa, hA, _, na, hDa⟩ := hT
  (unfold Builtin.SmallTypes.nextOf)
  refine wpAny_bind (wpAny_callSpecial?_slot (name := Str.ofString "__next__") hI.typeIs F.slot_tuple_iterator_next (wpAny_call_entry F.slot_tuple_iterator_next hI.typeIs F.entry_tuple_iterator_next ?_ (F.args_tuple_iterator_next_1 _)))
  show wpAny _ _ (field (Value.ref it) 0 >>= _) _ _ s
  refine wpAny_bind (wpAny_field hO hD (x := .ref a) rfl ?_)
  show wpAny _ _ (if (Value.ref a == Value.none) = true then _ else _) _ _ s
  rw [if_neg (show ¬ ((Value.ref a == Value.none) = true) from Bool.false_ne_true)]
  show wpAny _ _ (field (Value.ref it) 1 >>= _) _ _ s
  refine wpAny_bind (wpAny_field hO hD (x := .int i 0) rfl ?_)
  show wpAny _ _ (seqItems? (Value.ref a) >>= _) _ _ s
  refine wpAny_bind (wpAny_seqItems hA hDa ?_)
  simp only [hX, Int.toNat_natCast]
  refine wpAny_bind (wpAny_rule (wpAny_bind (wpAny_setField hO hD (by simp) ?_)))
  show wpAny _ _ (newExc (Value.type "StopIteration") [] >>= _) _ _ _
  refine wpAny_bind ?_
  simp only [newTuple, newExc]
  refine wpAny_bind (wpAny_newObj_type ?_ (by (size_fits)))
  refine wpAny_bind (m := firstArgMember _ _) (wpAny_of_eq (a := Value.none) (by simp only [firstArgMember]; rfl) ?_)
  refine wpAny_newObj_type ?_ (by (size_fits))
  simp only [raiseNew]
  (refine wpAny_bind (wpAny_handled ?_))
  first | rw [show A.in1.handled = none from hh] | (rw [hh])
  refine wpAny_bind (wpAny_pure (wpAny_throw (hE _ _ (((Heap.SameBut.update ..).extBut.push _).push _) ⟨_, Heap.get?_push_size _ rfl, rfl⟩)))
end
theorem draws {prog : Program} {w : World} {A : Around} (hh : A.handled = none) (it a : Addr) (hne : a ≠ it) (xs : Array Value) : Draws prog w A it [it, a] xs.size (fun i v => xs[i]? = some v) (fun i h => h.IsTupleIter it a i ∧ h.IsTuple a xs) where
  live := fun _ _ st => let ⟨o, e, _⟩ := st.1; ⟨o, e⟩
  frame := fun _ _ _ st hk => ⟨let ⟨o, e, r⟩ := st.1; ⟨o, hk it (by simp) o e, r⟩, let ⟨o, e, r⟩ := st.2; ⟨o, hk a (by simp) o e, r⟩⟩
  item := fun i s Q E hi st hQ =>
    next_item st.1 st.2 (x := xs[i]) (by simp [hi]) fun h' hit' hs' => hQ _ h' s.toks (by simp [hi]) ⟨hit', st.2.extBut hs'.extBut hne⟩ hs'
  done := fun s Q E st hE => next_end hh st.1 st.2 (by simp) hE
set_option maxHeartbeats 1200000 in
theorem meets_new (a : Addr) (xs : Array Value) (n : Nat) (dct : Option Addr) (sl : Array (Option Value)) :
    Meets (Builtin.«enumerate.__new__» ⟨[.type "enumerate", .ref a], []⟩) (fun _ R s => s.heap.get? a = some { cls := .type "tuple", dict := dct, data := .seq xs n, slots := sl } ∧
      R (.ok (.ret (.ref (s.heap.push { cls := .type "tuple_iterator", data := .fields #[.ref a, .int 0 0] }).objs.size)))
        { s with heap := (s.heap.push { cls := .type "tuple_iterator", data := .fields #[.ref a, .int 0 0] }).push { cls := .type "enumerate", data := .fields #[.none, .bool false, .ref s.heap.objs.size, rawInt 0, .none, .none] } }) :=
  .of_wp fun pr wd A R s h => by
    obtain ⟨hp, ge, d, tk, os⟩ := s
    obtain ⟨hA, h⟩ := h
    have hsub := sub_enumerate
    have hT : Heap.IsTuple (Shared.heap ⟨hp, ge, d, tk, os⟩) a xs := ⟨_, hA, rfl, n, rfl⟩
    wp_walk using wpAny_loadPart' hA
    (refine wpAny_stack_any fun st => wpAny_pure ?_)
    split
    · rename_i c _ _ _ _ _
      (cases (c == Value.type "enumerate"))
      · wp_walk using wpAny_loadPart' hA, wpAny_pyIter_tuple hT
        exact ⟨_, rfl, h⟩
      · wp_walk using wpAny_loadPart' hA, wpAny_pyIter_tuple hT
        exact ⟨_, rfl, h⟩
    · wp_walk using wpAny_loadPart' hA, wpAny_pyIter_tuple hT
      exact ⟨_, rfl, h⟩
theorem call_new {prog : Program} {w : World} {A : Around} {E : Value → Shared → Prop} {s : Shared} {a : Addr} {xs : Array Value} {Q : Value → Shared → Prop} (hT : s.heap.IsTuple a xs)
    (h : ∀ h', IsEnum h' (s.heap.objs.size + 1) s.heap.objs.size 0 .none → h'.IsTupleIter s.heap.objs.size a 0 → (∀ b o, s.heap.get? b = some o → h'.get? b = some o) → Q (.ref (s.heap.objs.size + 1)) { s with heap := h' }) :
    wpAny (model prog w) A (call (.type "enumerate") [.ref a]) Q E s := by
  obtain ⟨⟨c, dct, dt, sl⟩, hA, hc, n, hd⟩ := hT
  cases (show c = .type "tuple" from hc)
  cases (show dt = .seq xs n from hd)
  refine callType_new F.called_enumerate (by decide) (F.typeCall_enumerate_1 _) (F.newCall_enumerate_1 _) (fun obj => F.args_object_init_2 obj _) F.entry_enumerate_new (meets_new a xs n dct sl) ⟨hA, ?_⟩
  have hz : (s.heap.push { cls := .type "tuple_iterator", data := .fields #[.ref a, .int 0 0] }).objs.size = s.heap.objs.size + 1 := Heap.size_push ..
  show _ ∧ _
  rw [hz]
  have he : IsEnum ((s.heap.push { cls := .type "tuple_iterator", data := .fields #[.ref a, .int 0 0] }).push { cls := .type "enumerate", data := .fields #[.none, .bool false, .ref s.heap.objs.size, rawInt 0, .none, .none] }) (s.heap.objs.size + 1) s.heap.objs.size 0 .none := by
    have e := Heap.get?_push_size (s.heap.push { cls := .type "tuple_iterator", data := .fields #[.ref a, .int 0 0] }) (o := { cls := .type "enumerate", data := .fields #[.none, .bool false, .ref s.heap.objs.size, rawInt 0, .none, .none] }) rfl
    rw [hz] at e
    exact e
  exact ⟨⟨_, he, rfl⟩, h _ he ⟨_, Heap.get?_push_of_some _ (Heap.get?_push_size _ rfl), rfl, rfl⟩ fun b o y => Heap.get?_push_of_some _ (Heap.get?_push_of_some _ y)⟩
end ET
theorem ET.drawsEnd {prog : PySem.Program} {w : PySem.World} {A : PySem.Around} (hh : A.handled = none) (it a : PySem.Addr) (i : Nat) (xs : Array PySem.Value) (hX : xs[i]? = none) : PySem.Draws prog w A it [it, a] i (fun _ _ => True) (fun j h => j = i ∧ h.IsTupleIter it a i ∧ h.IsTuple a xs) where
  live := fun _ _ st => let ⟨o, e, _⟩ := st.2.1; ⟨o, e⟩
  frame := fun _ _ _ st hk => ⟨st.1, let ⟨o, e, r⟩ := st.2.1; ⟨o, hk it (by simp) o e, r⟩, let ⟨o, e, r⟩ := st.2.2; ⟨o, hk a (by simp) o e, r⟩⟩
  item := fun j s Q E hj st _ => absurd st.1 (Nat.ne_of_lt hj)
  done := fun s Q E st hE => ET.next_end hh st.2.1 st.2.2 hX hE

namespace L2
open PySem PySem.Spec PyProof.Rows
def IteT (K : PySem.W.Frag) (a : Addr) : It :=
  ⟨fun i H => ∃ xs x, SqT K H a xs ∧ xs[i]? = some x, fun i H v H' => ∃ t x, v = .ref t ∧ H t = none ∧ H' = upd H t (.tup [.int (i : Nat), x]) ∧ ∀ xs, SqT K H a xs → xs[i]? = some x, fun i H => ∃ xs, SqT K H a xs ∧ xs.length ≤ i⟩
theorem turn_enumT {P : Program} {w : World} {K : PySem.W.Frag} {es : List Expr} {kt : Nat} {tp : Pos} (a e it : Addr) (hei : e ≠ it) :
    Turn P w K (.Tuple es kt tp) (IteT K a) [e, it] e (fun i h => (∃ old, IsEnum h e it (i : Nat) old) ∧ h.IsTupleIter it a i) where
  mem := by simp
  obj := fun i h st b hb => by
    obtain ⟨⟨old, he⟩, o, e2, c, d⟩ := st
    rcases List.mem_cons.mp hb with z | z
    · subst z; exact ⟨_, he, fun v q => by cases (show Data.fields _ = Data.cell v from q)⟩
    · rw [List.mem_singleton.mp z]; exact ⟨o, e2, fun v q => by rw [d] at q; cases q⟩
  keep := fun i h h' st k => by
    obtain ⟨⟨old, he⟩, o, e2, r⟩ := st
    exact ⟨⟨old, k e (by simp) _ he⟩, o, k it (by simp) o e2, r⟩
  item := by
    intro X hP hw hK hc i pins s σ H E I hf st hg
    subst hP hw hK
    obtain ⟨xs, x, hq, hx⟩ := hg
    obtain ⟨⟨old, he⟩, hit⟩ := st
    obtain ⟨its, rv, p, hz⟩ := I.tuple hq
    obtain ⟨u, hu, ru⟩ := rv.get hx
    have pT : s.heap.IsTuple a its.toArray := p
    have hai : a ≠ it := fun z => by
      obtain ⟨o1, e1, c1, _⟩ := pT
      obtain ⟨o2, e2, c2, _⟩ := hit
      rw [z, e2] at e1; cases e1
      rw [c2] at c1
      exact absurd (Value.type.inj c1) (by decide)
    have hea : e ≠ a := fun z => by
      obtain ⟨o1, e1, c1, _⟩ := pT
      rw [← z, he] at e1; cases e1
      exact absurd (Value.type.inj c1) (by decide)
    have hil : i < its.toArray.size := by
      have := (List.getElem?_eq_some_iff.mp hu).1
      simpa using this
    refine wpAny_pyNext_enum_itemD (ET.draws (A := X.A.in1) (I.ok.hd hc) it a hai its.toArray) he ⟨hit, pT⟩ hil hei (by simp [hei, hea]) fun x' h' tk hx' ho st' hT hsz hk => ?_
    have ex : x' = u := by
      rw [show its.toArray[i]? = some u by simpa using hu] at hx'
      exact (Option.some.inj hx').symm
    subst ex
    have hTn : H s.heap.objs.size = none := I.fresh
    have hTe : s.heap.objs.size ≠ e := Nat.ne_of_gt (Heap.lt_size he)
    refine ⟨_, rfl, wpAny_letOwnedTupleGo_enum ho fun h'' he'' hs'' => ?_⟩
    have hTi : s.heap.objs.size ≠ it := by obtain ⟨_, q, _⟩ := id hit; exact Nat.ne_of_gt (Heap.lt_size q)
    have kk : ∀ b o, b ∉ [e, it] → s.heap.get? b = some o → h''.get? b = some o := fun b o hb q => by
      have n1 : b ≠ e := fun z => hb (by simp [z])
      have n2 : b ≠ it := fun z => hb (by simp [z])
      exact (hs''.2 b n1).trans (hk b o n1 n2 q)
    have I1 : Inv X pins σ (upd H s.heap.objs.size (.tup [.int (i : Nat), x])) { s with heap := h'', toks := tk + 1 } :=
      I.laidN (ch := [e, it]) hf kk (Heap.get?_none_of_le (Nat.le_refl _)) hTn ⟨by show 2 ≤ sizeLine; decide, [.int (i : Nat) tk, x'], .cons ⟨_, rfl⟩ (.cons ru .nil), ⟨_, (hs''.2 _ hTe).trans hT, rfl, _, rfl⟩⟩
    obtain ⟨o3, e3, r3⟩ := st'.1
    refine ⟨.ref s.heap.objs.size, _, I1, rfl, ⟨_, x, rfl, hTn, rfl, fun ys hy => by rw [I.tuple_inj hy hq]; exact hx⟩, ⟨⟨x', by simpa using he''⟩, o3, (hs''.2 it hei.symm).trans e3, r3⟩, fun b hb => ?_⟩
    rw [upd_ne (by
      rcases List.mem_cons.mp hb with z | z
      · rw [z]; exact hTe.symm
      · rw [List.mem_singleton.mp z]; exact hTi.symm)]
    exact (hf b hb).1
  done := by
    intro X hP hw hK hc i pins s σ H E I hf st hg
    subst hP hw hK
    obtain ⟨xs, hq, hx⟩ := hg
    obtain ⟨⟨old, he⟩, hit⟩ := st
    obtain ⟨its, rv, p, hz⟩ := I.tuple hq
    have hl := rv.length
    have pT : s.heap.IsTuple a its.toArray := p
    refine wpAny_pyNext_enum_endD (ET.drawsEnd (A := X.A.in1) (I.ok.hd hc) it a i its.toArray (by simp; omega)) he ⟨rfl, hit, pT⟩ fun h' eb => ⟨rfl, ?_⟩
    have k : ∀ b o, b ∉ [e, it] → s.heap.get? b = some o → h'.get? b = some o := fun b o hb q => eb b o (fun z => hb (by simp [z])) q
    refine I.step (g' := s.gens) (d' := s.drawn) (t' := s.toks) (ch := [e, it]) (fun b hb => ?_) (fun b o _ _ hc e _ => k b o hc e) (fun b o _ _ hc e _ => ⟨o.slots, k b o hc e⟩) (fun _ _ _ _ n => n)
      (fun b o hc e => ⟨o, k b o hc e⟩) (fun _ _ e => e) (fun _ _ _ e => e) (fun b ps e => ⟨#[], by rw [e]; simp⟩) (fun m hm => ?_) (fun b u q => ?_) I.bare
    · obtain ⟨_, h2, h3, h4, h5, h6⟩ := hf b hb
      exact ⟨h4, h2, h5, h6⟩
    · obtain ⟨o, es, ep, ho, r⟩ := hm
      exact ⟨o, es, ep, k _ o (fun z => (hf _ z).2.1 rfl) ho, r⟩
    · have nch : ∀ b u, H b = some u → b ∉ [e, it] := fun b u q z => by rw [(hf b z).1] at q; cases q
      refine (I.hok b u q).stay (fun c v hc q' => k c v ?_ q') (fun _ q => q) fun _ _ q => q
      rcases hc with z | z
      · rw [z]; exact nch b u q
      · exact nch c _ z
  self := fun _ _ _ _ _ st h => by
    obtain ⟨⟨old, he⟩, _⟩ := st
    exact wpAny_pyIter_enum he h
section
variable {X : Cx}
def iEnumT (K : PySem.W.Frag) (ta : TA) : TI := fun σ H R => ta σ H fun vs H1 => ∃ a, vs = [.ref a] ∧ (∃ xs, SqT K H1 a xs) ∧ R (IteT K a) H1
theorem pi_enumT {es : List Expr} {kt : Nat} {tp : Pos} {a : Expr} {ta : TA} {p pos : Pos} (hg : Gl X "enumerate") (hm : X.mg "enumerate" = none) (ha : PA X [a] ta) (hs : starEach [a] X.env = [(false, eval a X.env)] := by rfl) : PI X (.Tuple es kt tp) (.Call (.Name "enumerate" p) [a] [] pos) (iEnumT X.K ta) := by
  intro pins s σ H R I h
  refine Call_ (ld_blt I hg hm boot_enumerate (PyProof.Rows.callWith_type1 (thn (ha pos pins s σ H _ I h) fun us s1 ⟨vs, H1, I1, r1, q1⟩ => ?_) hs rfl))
  obtain ⟨l, e, ⟨xs, hq⟩, q⟩ := q1
  subst e
  cases r1 with
  | cons r rr =>
    cases rr
    cases r
    obtain ⟨its, rv, pl, hz⟩ := I1.tuple hq
    refine ET.call_new (show s1.heap.IsTuple l its.toArray from pl) fun h' he hit hk => wpAny_pyIter_enum he ?_
    have n1 : H1 s1.heap.objs.size = none := I1.fresh
    have n2 : H1 (s1.heap.objs.size + 1) = none := I1.hok.fresh (Nat.le_succ _)
    refine ⟨s1.heap.objs.size + 1, [s1.heap.objs.size + 1, s1.heap.objs.size], _, _, H1, rfl, I1.kept (t' := s1.toks) hk, turn_enumT l _ _ (Nat.succ_ne_self _), ⟨⟨_, he⟩, hit⟩, fun b hb => ?_, q⟩
    rcases List.mem_cons.mp hb with z | z
    · rw [z]; exact I1.fpOk (Nat.le_succ _) n2
    · rw [List.mem_singleton.mp z]; exact I1.fpOk (Nat.le_refl _) n1
end
theorem for_enumT {K : PySem.W.Frag} {a : Addr} {xs : List V} {g : TG} {tb : TS} {D : Ends} {σ : St} {H : Hp} (Pv : Nat → St → Hp → Prop) (h0 : Pv 0 σ H) (hl : ∀ i σ H, i ≤ xs.length → Pv i σ H → SqT K H a xs)
    (hs : ∀ i x σ H t, xs[i]? = some x → Pv i σ H → H t = none → g (.ref t) σ (upd H t (.tup [.int (i : Nat), x])) fun σ2 H2 => tb { D with nx := Pv (i + 1), ct := Pv (i + 1), bk := D.nx } σ2 H2) (hd : ∀ σ H, Pv xs.length σ H → D.nx σ H) :
    ∃ W : Nat → Nat → St → Hp → Prop, (∃ m, W 0 m σ H) ∧ ∀ i m σ H, W i m σ H →
      ((IteT K a).stop i H ∧ D.nx σ H) ∨ ((IteT K a).go i H ∧ ∃ N : St → Hp → Prop, (∀ σ' H', N σ' H' → ∃ m', m' < m ∧ W (i + 1) m' σ' H') ∧ ∀ x H', (IteT K a).yld i H x H' → g x σ H' fun σ2 H2 => tb { D with nx := N, ct := N, bk := D.nx } σ2 H2) := by
  refine ⟨fun i m σ H => m = xs.length - i ∧ i ≤ xs.length ∧ Pv i σ H, ⟨xs.length, by simp, Nat.zero_le _, h0⟩, ?_⟩
  rintro i m σ H ⟨rfl, hi, p⟩
  have q := hl i σ H hi p
  by_cases hlt : i < xs.length
  · refine .inr ⟨⟨xs, xs[i], q, by simp [hlt]⟩, Pv (i + 1), fun σ' H' p' => ⟨xs.length - (i + 1), by omega, rfl, hlt, p'⟩, fun x H' y => ?_⟩
    obtain ⟨t, z, rfl, ht, rfl, hz⟩ := y
    exact hs i z σ H t (hz xs q) p ht
  · have e : i = xs.length := by omega
    subst e
    exact .inl ⟨⟨xs, q, Nat.le_refl _⟩, hd σ H p⟩
end L2

namespace Y
open PySem L2 Yd
def cellT : Option Int → Str
  | none => ("-" : Str)
  | some n => Str.ofString (toString n)
def isNum (p : Str) : Bool := decide (p.length ≠ 0 ∧ p.length ≤ 30 ∧ ¬ (p.cps.toList.head? = some 48 ∧ p ≠ ("0" : Str))) && p.cps.toList.all fun c => decide (48 ≤ c ∧ c ≤ 57)
theorem isNum_of {n : Int} (h0 : 0 ≤ n) (h1 : n < 10 ^ 30) : isNum (Str.ofString (toString n)) = true := by
  have hl := PyProof.Rows.toString_length_le h0 (show 0 < 30 by decide) h1
  obtain ⟨m, rfl⟩ := Int.eq_ofNat_of_zero_le h0
  have e := TM.signs_nat m
  unfold isNum
  rw [Bool.and_eq_true, decide_eq_true_iff, List.all_eq_true]
  refine ⟨⟨fun z => ?_, hl, ?_⟩, fun c hc => decide_eq_true (TM.figs m c hc)⟩
  · have z' : (Str.ofString (toString (m : Int))).cps.toList.length = 0 := by rw [Array.length_toList]; exact z
    rw [e, List.length_map] at z'
    exact TM.digs_ne m (List.length_eq_zero_iff.mp z')
  · rintro ⟨hz, hne⟩
    by_cases hm : m = 0
    · subst hm
      exact hne (by decide +kernel)
    · rw [e] at hz
      cases hd : Nat.toDigits 10 m with
      | nil => exact TM.digs_ne m hd
      | cons a r =>
        rw [hd] at hz
        exact TM.head_ne m (by omega) a (by rw [hd]; rfl) (Option.some.inj hz)
theorem ascii_of {p : Str} (h : isNum p = true) : p.cps.all (· < 128) = true := by
  unfold isNum at h
  rw [Bool.and_eq_true, List.all_eq_true] at h
  rw [← Array.all_toList, List.all_eq_true]
  intro c hc
  have := of_decide_eq_true (h.2 c hc)
  exact decide_eq_true (by omega)
theorem fig_in (c : Nat) : (!(Builtin.Str.occurrences ("0123456789" : Str) ⟨#[c]⟩ 0 ((("0123456789" : Str))).length 1).isEmpty) = decide (48 ≤ c ∧ c ≤ 57) := by
  have e : ((("0123456789" : Str))).cps.toList = [48, 49, 50, 51, 52, 53, 54, 55, 56, 57] := by decide +kernel
  rw [StrLaws.found_one, e]
  refine decide_eq_decide.mpr ?_
  simp
  omega
end Y
namespace L2
theorem iteNStr {i j : PySem.Str} {A B : Prop} (h1 : i ≠ j → A) (h2 : i = j → B) : if (!decide (V.str i = V.str j)) = true then A else B := by
  by_cases e : i = j
  · rw [if_neg (by rw [e]; simp)]; exact h2 e
  · rw [if_pos (by simp [e])]; exact h1 e
theorem iteStr {i j : PySem.Str} {A B : Prop} (h1 : i = j → A) (h2 : i ≠ j → B) : if decide (V.str i = V.str j) = true then A else B := by
  by_cases e : i = j
  · rw [if_pos (by rw [e]; simp)]; exact h1 e
  · rw [if_neg (by simp [e])]; exact h2 e
end L2

namespace L2
open PySem PySem.Spec PyProof.Rows
section
variable {prog : Program} {w : World} {s : Shared} {A : Around} {R : Result → Shared → Prop}
theorem compLoop_byX {elt target iter : Expr} {ifs : List Expr} {scope : Scope} {pos : Pos} {it acc : Value} {env : Env} (W : Nat → Shared → Prop) (EB : Value → Shared → Prop) (hE : ∀ e s, EB e s → notedBy (model prog w) A env (fun e s' => R (.error e) s') e s)
    (turn : ∀ n s, W n s → wpAny (model prog w) A (pyNext it) (fun r s₁ => match r with
        | none => R (.ok .next) s₁
        | some v => wpAny (model prog w) A (letOwnedTupleGo target it v) (fun _ s₂ => wpAny (model prog w) A (assign target env v) (fun _ s₃ =>
            wpAny (model prog w) A (forIn ifs true fun c r => if r = true then do let ok ← isTrue c env (eval c env); pure (ForInStep.yield ok) else pure (ForInStep.yield r)) (fun ok s₄ =>
              if ok = true then wpAny (model prog w) A (eval elt env) (fun x s₅ => wpAny (model prog w) A (call (.builtin "list.append") [acc, x]) (fun _ s₆ => ∃ m, m < n ∧ W m s₆) EB s₅) EB s₄
              else ∃ m, m < n ∧ W m s₄) EB s₃) EB s₂) EB s₁) EB s)
    (n : Nat) (h : W n s) : codeAny (model prog w) A (.compLoop (.ListComp elt [⟨target, iter, ifs, 0⟩] scope pos) 0 it acc env) R s := by
  refine codeAny_loop rfl W (fun n s hI => ?_) n h
  show wpAny _ A ((compTurn (.ListComp elt [⟨target, iter, ifs, 0⟩] scope pos) 0 it acc env).onRaise _) _ _ s
  refine wpAny_noted ?_
  rw [compTurn_list]
  refine wpAny_bind (wpAny_standAt (wpAny_bind (wpAny_mono (turn n s hI) (fun r s₁ h₁ => ?_) hE)))
  cases r with
  | none => exact wpAny_pure h₁
  | some v =>
    refine wpAny_bind (wpAny_mono h₁ (fun _ s₂ h₂ => wpAny_bind (wpAny_mono h₂ (fun _ s₃ h₃ => wpAny_bind (wpAny_mono h₃ (fun ok s₄ h₄ => ?_) hE)) hE)) hE)
    cases ok with
    | false => exact wpAny_pure ⟨rfl, h₄⟩
    | true => exact wpAny_bind (wpAny_bind (wpAny_mono h₄ (fun x s₅ h₅ => wpAny_bind (wpAny_mono h₅ (fun _ s₆ h₆ => wpAny_pure (wpAny_pure ⟨rfl, h₆⟩)) hE)) hE))
end
theorem note_same {e : Value} {a b : Env} (h : a.frame = b.frame) : noteFrame e a = noteFrame e b := by
  unfold noteFrame PySem.frameOf
  rw [h]
section
variable {P : Program} {w : World} {fs : List Addr} {H H' : Hp} {s : Shared} {B h h' : Heap}
theorem Ground.move2 (G : Ground P w fs H s H' B h) (st : B.StaysIn h') (up : ∀ b o, b ∈ fs → h.get? b = some o → (∀ vs, o.data ≠ .fields vs) → ∃ sl, h'.get? b = some { o with slots := sl }) : Ground P w fs H s H' B h' := by
  have frm : ∀ b o, h.get? b = some o → b ∈ fs → ∃ sl, h'.get? b = some { o with slots := sl } := fun b o e hb => by
    obtain ⟨o1, e1, n1⟩ := G.nf b hb
    rw [e] at e1; cases e1
    exact up b o hb e n1
  have oth : ∀ b o, s.heap.get? b = some o → b ∉ fs → ∀ o', h.get? b = some o' → h'.get? b = some o' := fun b o e hb o' e' => st b o' (G.old b o e hb o' e')
  have tr : ∀ b u, H' b = some u → ∀ o, h.get? b = some o → h'.get? b = some o := fun b u e o q => st b o (G.trk b u e o q)
  refine ⟨⟨fun b o q n hb hx => ?_, fun b o q n hb hx => ?_, G.un.free, fun b o q hx => ?_, G.un.tups, G.un.frzs, G.un.tbls⟩, fun a o e => ?_, fun b u e o q => ?_, fun b o e hb o' e' => ?_, fun b hb => ?_⟩
  · exact oth b o q hb o (G.un.keep b o q n hb hx)
  · obtain ⟨sl, e⟩ := G.un.slot b o q n hb hx
    obtain ⟨sl', e'⟩ := frm b _ e hb
    exact ⟨sl', e'⟩
  · obtain ⟨o', e⟩ := G.un.there b o q hx
    by_cases hb : b ∈ fs
    · obtain ⟨sl, e'⟩ := frm b _ e hb
      exact ⟨_, e'⟩
    · exact ⟨o', oth b o q hb o' e⟩
  · refine (G.hok a o e).stay (fun b u hb q => ?_) (fun b q => q) (fun b xs q => q)
    rcases hb with rfl | hb
    · exact tr b _ e u q
    · exact tr b _ hb u q
  · obtain ⟨o1, e1⟩ := (G.hok b u e).there
    have e2 := tr b u e o1 e1
    rw [q] at e2; cases e2
    exact G.trk b u e o e1
  · obtain ⟨o1, e1⟩ := G.un.there b o e (by simp)
    have e2 := oth b o e hb o1 e1
    rw [e'] at e2; cases e2
    exact G.old b o e hb o' e1
  · obtain ⟨o1, e1, n1⟩ := G.nf b hb
    obtain ⟨sl, e2⟩ := up b o1 hb e1 n1
    exact ⟨_, e2, n1⟩
theorem Ground.hide (G : Ground P w fs H s H' B h) {C : Addr} (hC : H' C = none) (hs : s.heap.get? C = none) : Ground P w fs H s H' (PySem.W.hideAll B [C]) h := by
  refine ⟨G.un, G.hok, fun b u e o q => PySem.W.hideAll_get _ (G.trk b u e o q) fun z => ?_, fun b o e hb o' e' => PySem.W.hideAll_get _ (G.old b o e hb o' e') fun z => ?_, G.nf⟩
  · have : b = C := by simpa using z
    rw [this, hC] at e; cases e
  · have : b = C := by simpa using z
    rw [this, hs] at e; cases e
theorem frames_to {h h' B B' : Heap} : ∀ {l : List Env}, h.FunFrames B l → (∀ b ∈ frs l, ∀ o, h.get? b = some o → (∀ vs, o.data ≠ .fields vs) → h'.get? b = some o) → (∀ b, B.get? b = none → B'.get? b = none) → h'.FunFrames B' l
  | [], _, _, _ => trivial
  | env :: l, ⟨hk, ⟨L, o, hf, hn, ho, hd⟩, hr⟩, k, kb => by
    have hm : ∀ b, b ∈ frs l → b ∈ frs (env :: l) := fun b hb => by
      obtain ⟨e, he, q⟩ := List.mem_filterMap.mp hb
      exact List.mem_filterMap.mpr ⟨e, List.mem_cons_of_mem _ he, q⟩
    exact ⟨hk, ⟨L, o, hf, kb L hn, k L (List.mem_filterMap.mpr ⟨env, List.mem_cons_self, hf⟩) o ho hd, hd⟩, frames_to hr (fun b hb => k b (hm b hb)) kb⟩
end
theorem leaves_at {M : Model} {A : Around} {E : Value → Shared → Prop} {s : Shared} {base : Heap} {env : Env} {outer : List Env} {L e : Addr} {cls a0 fl : Value} {Q : Unit → Shared → Prop} (hfr : A.frames = some (env :: outer)) (hf : env.frame = some L)
    (f1 : base.StaysIn s.heap) (f2 : base.get? e = none) (f3 : s.heap.FunFrames base (env :: outer)) (f4 : s.heap.TracedAtW base e cls a0 fl)
    (kQ : ∀ h', Heap.FlyingW base outer e cls a0 h' → s.heap.UpToSlots h' → Q () { s with heap := h' }) : wpAny M A (leaving env (.ref e)) Q E s := by
  by_cases q : fl = rawInt L
  · subst q
    unfold leaving
    refine wpAny_bind (wpAny_noteFrame_againW hf f4 ?_)
    exact wpAny_landsW ⟨f1, f2, f3, f4⟩ fun h' hfl up => kQ h' ⟨hfl.1, hfl.2.1, hfl.2.2.1.2.2, hfl.2.2.2⟩ up
  · obtain ⟨oe, us, tb, ot, zs, ge, ⟨gc, g0⟩, gd, g1, gn, gne, gt, gtd, g3⟩ := f4
    subst gc
    have stay : ∀ b, b ≠ tb → (s.heap.update tb (Obj.mapFields (·.setIfInBounds 3 Value.none))).get? b = s.heap.get? b := fun b hb => Heap.get?_update_other _ _ (Ne.symm hb)
    have nrec : ∀ b o, s.heap.get? b = some o → (∀ vs, o.data ≠ .fields vs) → b ≠ tb := fun b o hb nf z => by
      rw [z, gt] at hb; cases hb; exact nf zs gtd
    unfold leaving noteFrame
    simp only [hf]
    refine wpAny_bind (wpAny_bind (wpAny_field ge gd g1 ?_))
    rw [if_pos (show (Value.ref tb != Value.none) = true by simp)]
    refine wpAny_bind (wpAny_field gt gtd g3 ?_)
    rw [if_neg (show ¬ ((fl == rawInt L) = true) from fun z => q (by simpa using z))]
    refine wpAny_bind (wpAny_setField gt gtd (Array.getElem?_eq_some_iff.mp g3).1 ?_)
    refine wpAny_newEntryW hfr (f3.of_keeps fun b o hb nf => ⟨o, (stay b (nrec b o hb nf)).trans hb, rfl⟩) hf ((stay e (Ne.symm gne)).trans ge)
      (fun b o hb => (stay b fun z => by rw [z, gn] at hb; cases hb).trans (f1 b o hb)) f2 gd (Array.getElem?_eq_some_iff.mp g1).1 g0 fun h' hL => ?_
    obtain ⟨j1, ⟨_, _, j2⟩, j3, j4⟩ := hL
    exact kQ h' ⟨j1, f2, j2, j3⟩ fun b o hb nf => j4 b o ((stay b (nrec b o hb nf)).trans hb) nf
def XeB (X : Cx) (E : XK) (N : List Str) (scope : Scope) (cl : List (Str × Addr)) (fp : List Addr) (C : Addr) (s₀ : Shared) (H₀ : Hp) : Value → Shared → Prop := fun e s' => ∃ (pins : List (Addr × Obj)) (σ : St) (H2 : Hp) (s2 : Shared), Inv (cxC X N scope cl fp C s₀ H₀) pins σ H2 s2 ∧ CX1 X.prog X.w X.stack H2 s2 E e s'
abbrev cxX (X : Cx) (E : XK) (N : List Str) (scope : Scope) (cl : List (Str × Addr)) (fp : List Addr) (C : Addr) (s₀ : Shared) (H₀ : Hp) : Cx := { cxC X N scope cl fp C s₀ H₀ with xe := XeB X E N scope cl fp C s₀ H₀ }
section
variable {X : Cx} {E : XK} {N : List Str} {scope : Scope} {cl : List (Str × Addr)} {fp : List Addr} {C : Addr} {s₀ : Shared} {H₀ : Hp} {pins : List (Addr × Obj)} {σ : St} {H : Hp} {s : Shared}
theorem Inv.toX (I : Inv (cxC X N scope cl fp C s₀ H₀) pins σ H s) : Inv (cxX X E N scope cl fp C s₀ H₀) pins σ H s :=
  ⟨⟨I.ok.mod, I.ok.kind, I.ok.glob, I.ok.blt, I.ok.above, I.ok.inj, I.ok.has, I.ok.cab, I.ok.hd, I.ok.frames, I.ok.stk, I.ok.exf, I.ok.bs, I.ok.bsz, I.ok.noex, I.ok.exfs, I.ok.funs, I.ok.frf⟩, I.os, I.bare, I.base, I.loc, I.cell, I.free, I.freeC, I.pin, I.hok, I.len⟩
theorem Inv.ofX (I : Inv (cxX X E N scope cl fp C s₀ H₀) pins σ H s) : Inv (cxC X N scope cl fp C s₀ H₀) pins σ H s :=
  ⟨⟨I.ok.mod, I.ok.kind, I.ok.glob, I.ok.blt, I.ok.above, I.ok.inj, I.ok.has, I.ok.cab, I.ok.hd, I.ok.frames, I.ok.stk, I.ok.exf, I.ok.bs, I.ok.bsz, I.ok.noex, I.ok.exfs, I.ok.funs, I.ok.frf⟩, I.os, I.bare, I.base, I.loc, I.cell, I.free, I.freeC, I.pin, I.hok, I.len⟩
theorem passB : Passes (CX1 X.prog X.w) (cxX X E N scope cl fp C s₀ H₀) E := fun pins σ H s _ _ I h => ⟨pins, σ, H, s, I.ofX, h⟩
end
section
variable {X : Cx} {scope : Scope} {cl : List (Str × Addr)} {x : Str} {fr : List Str} {ix : List Nat} {pins : List (Addr × Obj)} {σ : St} {EX : XK}
theorem comp_walkX {elt iter : Expr} {ifs : List Expr} {pos px : Pos} {tt : BC TT} {te : BC TE} (K : CompOk X scope cl x fr ix) (hc : X.calm = true) (ht : ∀ fp C s₀ H₀, PFs (cxX X EX (x :: fr) scope cl fp C s₀ H₀) ifs (tt fp C s₀ H₀)) (he : ∀ fp C s₀ H₀, PE (cxX X EX (x :: fr) scope cl fp C s₀ H₀) elt (te fp C s₀ H₀))
    {it : Addr} {fp : List Addr} {tn : Nat → Heap → Prop} {J : It} {H2 : Hp} {s2 : Shared} (I2 : Inv X pins σ H2 s2) (T : Turn X.prog X.w X.K (.Name x px) J fp it tn) (st2 : tn 0 s2.heap) (f2 : ∀ b ∈ fp, FpOk X pins H2 b) {Q : VK}
    (q : ∀ D, H2 D = none → ∃ W : Nat → Nat → Hp → Prop, (∃ m, W 0 m (upd H2 D (.lst []))) ∧ ∀ i m H3, W i m H3 →
      (J.stop i H3 ∧ Q (.ref D) H3) ∨ (J.go i H3 ∧ ∃ N : Hp → Prop, (∀ H', N H' → ∃ m', m' < m ∧ W (i + 1) m' H') ∧ ∀ v H4, J.yld i H3 v H4 → ∀ fp C s₀ H₀,
        tt fp C s₀ H₀ (some v :: ix.map fun j => (σ[j]?).join) H4 fun b H5 => if b = true then te fp C s₀ H₀ (some v :: ix.map fun j => (σ[j]?).join) H5 fun y H6 => ∃ ys, H6 D = some (.lst ys) ∧ ys.length < sizeLine ∧ N (upd H6 D (.lst (ys ++ [y]))) else N H5))
    {RR : Value → Addr → Result → Shared → Prop} {E : Value → Shared → Prop} (hRR : ∀ D C H' s', Inv X pins σ H' s' → LetGo X pins H' s' C → Q (.ref D) H' → RR (.ref D) C (.ok .next) s')
    (hEE : ∀ D C H' s' e s'', Inv X pins σ H' s' → LetGo X pins H' s' C → C ∉ frs X.stack → CX1 X.prog X.w X.stack H' s' EX e s'' → notedBy (model X.prog X.w) X.A (compEnvC scope cl C X.env) (fun e s => RR (.ref D) C (.error e) s) e s'') :
    wpAny (model X.prog X.w) X.A (newList []) (fun acc s₃ => wpAny (model X.prog X.w) X.A (newFunctionEnv scope X.env.globals cl [] X.env.qual none .none (some X.env)) (fun cenv s₄ =>
      codeAny (model X.prog X.w) X.A (.compStart (.ListComp elt [⟨.Name x px, iter, ifs, 0⟩] scope pos) 0 (.ref it) acc { cenv with scope := relabel scope X.env }) (RR acc cenv.locals) s₄) E s₃) E s2 := by
  refine wpAny_newObj_type (wpAny_newFunctionEnv K.nocell (by intro y hy; simp at hy) (fun h₁ hns₁ hsb₁ => ?_) K.kind)
  dsimp only at hns₁ hsb₁ ⊢
  have hDn : H2 s2.heap.objs.size = none := I2.fresh
  have I3 : Inv X pins σ (upd H2 s2.heap.objs.size (.lst [])) { s2 with heap := s2.heap.push { cls := .type "list", dict := none, data := .seq ([] : List Value).toArray } } := I2.lnew (t' := s2.toks) (its := []) .nil (Nat.zero_le _)
  generalize hH3 : s2.heap.push { cls := .type "list", dict := none, data := .seq ([] : List Value).toArray } = H3 at hns₁ hsb₁ I3 ⊢
  have sz3 : H3.objs.size = s2.heap.objs.size + 1 := by rw [← hH3, Heap.size_push]
  have old3 : ∀ b o, s2.heap.get? b = some o → H3.get? b = some o := fun b o e => hH3 ▸ Heap.get?_push_of_some _ e
  have old : ∀ b o, H3.get? b = some o → h₁.get? b = some o := fun b o e => hsb₁.extBut b o (Nat.ne_of_lt (Heap.lt_size e)) (Heap.get?_push_of_some _ e)
  have nfr : H3.objs.size ∉ frs X.stack := fun hm => by
    obtain ⟨_, o, ho, _⟩ := I3.stack.mem hm
    exact absurd (Heap.lt_size ho) (Nat.lt_irrefl _)
  have fpo : ∀ b ∈ fp, b < s2.heap.objs.size := fun b hb => by
    obtain ⟨o, e, _⟩ := T.obj 0 _ st2 b hb
    exact Heap.lt_size e
  have f3 : ∀ b ∈ fp, FpOk X pins (upd H2 s2.heap.objs.size (.lst [])) b := fun b hb => by
    refine ⟨?_, (f2 b hb).2⟩
    rw [upd_ne (Nat.ne_of_lt (fpo b hb))]
    exact (f2 b hb).1
  have I4 := Inv.into (t := s2.toks + ([] : List (Str × Value)).length) K I3 hc rfl f3 (fun b hb => by show b < H3.objs.size; rw [sz3]; exact Nat.lt_succ_of_lt (fpo b hb)) hns₁ old
  have tn4 : tn 0 h₁ := T.keep 0 _ _ st2 fun b _ o e => old b o (old3 b o e)
  obtain ⟨W, ⟨m0, w0⟩, turn⟩ := q s2.heap.objs.size hDn
  have letgo : ∀ {H' : Hp} {σ' : St} {s' : Shared}, Inv (cxC X (x :: fr) scope cl fp H3.objs.size { s2 with heap := H3 } (upd H2 s2.heap.objs.size (.lst []))) [] σ' H' s' → LetGo X pins H' s' H3.objs.size := fun {H' σ' s'} I' => by
    obtain ⟨m, hn, _⟩ := I'.loc
    refine ⟨⟨m, hn⟩, I'.free, fun z => ?_, Nat.le_trans I2.sz (by rw [sz3]; exact Nat.le_succ _), fun y c e z => ?_, fun p hp z => ?_⟩
    · have := I2.lt
      rw [← z, sz3] at this
      exact absurd (Nat.lt_trans (Nat.lt_succ_self _) this) (Nat.lt_irrefl _)
    · obtain ⟨v, e1⟩ := I2.cell y c e
      have := e1.lt
      rw [z, sz3] at this
      exact absurd (Nat.lt_trans (Nat.lt_succ_self _) this) (Nat.lt_irrefl _)
    · have := Heap.lt_size (I2.pin p hp).1
      rw [z, sz3] at this
      exact absurd (Nat.lt_trans (Nat.lt_succ_self _) this) (Nat.lt_irrefl _)
  have loop : ∀ s', s' = ({ s2 with heap := h₁, toks := s2.toks + ([] : List (Str × Value)).length } : Shared) →
      codeAny (model X.prog X.w) X.A (.compLoop (.ListComp elt [⟨.Name x px, iter, ifs, 0⟩] scope pos) 0 (.ref it) (.ref s2.heap.objs.size) (compEnvC scope cl H3.objs.size X.env)) (RR (.ref s2.heap.objs.size) H3.objs.size) s' := by
    rintro s' rfl
    refine compLoop_byX (fun n s' => ∃ i v0 H', Inv (cxX X EX (x :: fr) scope cl fp H3.objs.size { s2 with heap := H3 } (upd H2 s2.heap.objs.size (.lst []))) [] (v0 :: ix.map fun j => (σ[j]?).join) H' s' ∧ tn i s'.heap ∧ (∀ b ∈ fp, H' b = none) ∧ W i n H')
      (XeB X EX (x :: fr) scope cl fp H3.objs.size { s2 with heap := H3 } (upd H2 s2.heap.objs.size (.lst []))) ?_ ?_ m0 ⟨0, none, _, I4.toX, tn4, fun b hb => (f3 b hb).1, w0⟩
    · rintro e s' ⟨pins', σ', H', s5, I', cx⟩
      have I0 : Inv (cxC X (x :: fr) scope cl fp H3.objs.size { s2 with heap := H3 } (upd H2 s2.heap.objs.size (.lst []))) [] σ' H' s5 := Inv.unpinned (pins := []) (pl := pins') I'
      exact hEE _ _ H' s5 e s' (I3.out f3 I0) (letgo I0) nfr cx
    rintro n s5 ⟨i, v0, H5, I5, st5, fr5, w5⟩
    have stat : ∀ {H' : Hp}, (∀ b ∈ fp, H' b = none) → ∀ b ∈ fp, FpOk (cxX X EX (x :: fr) scope cl fp H3.objs.size { s2 with heap := H3 } (upd H2 s2.heap.objs.size (.lst []))) [] H' b := fun hn b hb =>
      ⟨hn b hb, (I5.ok.exf b hb).1, I5.ok.exfs b hb, .inl hb, (I5.ok.exf b hb).2, fun p hp => by cases hp⟩
    rcases turn i n H5 w5 with ⟨stop, qn⟩ | ⟨go, N, hN, step⟩
    · refine thn (T.done (cxX X EX (x :: fr) scope cl fp H3.objs.size { s2 with heap := H3 } (upd H2 s2.heap.objs.size (.lst []))) rfl rfl rfl hc i [] s5 _ H5 _ I5 (stat fr5) st5 stop) fun r s6 ⟨hr, I6⟩ => ?_
      subst hr
      exact hRR _ _ H5 s6 (I3.out f3 I6.ofX) (letgo I6.ofX) qn
    · refine thn (T.item (cxX X EX (x :: fr) scope cl fp H3.objs.size { s2 with heap := H3 } (upd H2 s2.heap.objs.size (.lst []))) rfl rfl rfl hc i [] s5 _ H5 _ I5 (stat fr5) st5 go) fun r s6 ⟨u, hr, h6⟩ => ?_
      subst hr
      refine thn h6 fun _ s7 ⟨xv, H7, I7, r7, y7, st7, fr7⟩ => ?_
      have I7' := I7.pinned (stat fr7) (T.obj _ _ st7)
      have hxl : (relabel scope X.env).names.lookup x = some .local := lookup_relabel_local K.hx
      refine thn (pg_name (X := cxX X EX (x :: fr) scope cl fp H3.objs.size { s2 with heap := H3 } (upd H2 s2.heap.objs.size (.lst []))) (i := 0) K.nd rfl (.inl hxl) (.inr hxl) _ s7 _ H7 xv u
        (fun σ8 H8 => σ8 = some xv :: (ix.map fun j => (σ[j]?).join) ∧ H7 = H8) I7' r7 ⟨rfl, rfl⟩) fun _ s8 ⟨σ8, H8, I8, e1, e2⟩ => ?_
      subst e1 e2
      have again : ∀ {s' : Shared} {H' : Hp}, Inv (cxX X EX (x :: fr) scope cl fp H3.objs.size { s2 with heap := H3 } (upd H2 s2.heap.objs.size (.lst []))) ([] ++ pinsAt fp s7.heap) (some xv :: ix.map fun j => (σ[j]?).join) H' s' → N H' →
          ∃ m, m < n ∧ ∃ i v0 H', Inv (cxX X EX (x :: fr) scope cl fp H3.objs.size { s2 with heap := H3 } (upd H2 s2.heap.objs.size (.lst []))) [] (v0 :: ix.map fun j => (σ[j]?).join) H' s' ∧ tn i s'.heap ∧ (∀ b ∈ fp, H' b = none) ∧ W i m H' := fun {s' H'} J' n' => by
        obtain ⟨m', hm, w'⟩ := hN H' n'
        refine ⟨m', hm, i + 1, some xv, H', J'.unpinned, T.keep _ _ _ st7 fun b hb o e => (J'.pin (b, o) (List.mem_append_right _ (List.mem_append_right _ (mem_pinsAt hb e)))).1, fun b hb => ?_, w'⟩
        obtain ⟨o, e, d⟩ := T.obj _ _ st7 b hb
        exact (J'.pin (b, o) (List.mem_append_right _ (List.mem_append_right _ (mem_pinsAt hb e)))).2.1
      refine thn (ht _ _ _ _ _ s8 _ _ _ I8 (step xv _ y7 _ _ _ _)) fun b s9 ⟨H9, I9, q9⟩ => ?_
      cases b with
      | false =>
        rw [if_neg Bool.false_ne_true] at q9 ⊢
        exact again I9 q9
      | true =>
        rw [if_pos rfl] at q9 ⊢
        refine thn (he _ _ _ _ _ s9 _ _ _ I9 q9) fun yv s10 ⟨y, H10, I10, r10, ys, hD, hz, n10⟩ => ?_
        refine thn (mt_append (X := cxX X EX (x :: fr) scope cl fp H3.objs.size { s2 with heap := H3 } (upd H2 s2.heap.objs.size (.lst []))) _ s10 _ H10 (.ref s2.heap.objs.size) [y] (.ref s2.heap.objs.size) [yv] (fun _ H' => upd H10 s2.heap.objs.size (.lst (ys ++ [y])) = H') I10 rfl (.cons r10 .nil)
          ⟨_, ys, y, rfl, rfl, hD, hz, rfl⟩) fun _ s11 ⟨v, H11, I11, _, e⟩ => ?_
        subst e
        exact again I11 n10
  exact codeAny_compStart_list (loop _ rfl) (T.self X.A 0 _ _ _ tn4 (loop _ rfl))
end
section
variable {P : Program} {w : World} {K : PySem.W.Frag} {mg : Str → Option Value} {base : Heap} {N : List Str} {qual : Str} {scope : Scope} {f : Addr} {cd : Value} {A : Around} {outer : List Env} {s : Shared} {H : Hp} {E : XK}
theorem ground_up {pins : List (Addr × Obj)} {σ : St} {H2 H' : Hp} {s2 : Shared} {B h : Heap} (I : Inv (cxOf (CX1 P w) P w K mg base N qual scope f cd A outer s H E) pins σ H2 s2) (G : Ground P w (frs (envOfC qual scope s.heap.objs.size f cd :: outer)) H2 s2 H' B h) : Ground P w (frs outer) H s H' B h := by
  have nL : ∀ b o, s.heap.get? b = some o → b ∉ frs outer → b ∉ frs (envOfC qual scope s.heap.objs.size f cd :: outer) := fun b o eb hb hm => by
    rcases frs_cons.mp hm with z | z
    · exact absurd (z ▸ Heap.lt_size eb) (Nat.lt_irrefl _)
    · exact hb z
  have IB : Un (frs outer) [] H H2 s.heap s2.heap := I.base
  refine ⟨⟨fun b o qb n hb hx => ?_, fun b o qb n hb hx => ?_, fun b o qb n hx => ?_, fun b o qb hx => ?_, fun b xs z => G.un.tups b xs (IB.tups b xs z), fun b o u z => G.un.frzs b o u (IB.frzs b o u z), fun b ps z => ?_⟩, G.hok, G.trk, fun b o eb hb o' qb => ?_, fun b hb => ?_⟩
  · exact G.un.keep b o (IB.keep b o qb n hb hx) (IB.free b o qb n hx) (nL b o qb hb) hx
  · obtain ⟨sl, e1⟩ := IB.slot b o qb n hb hx
    obtain ⟨sl', e2⟩ := G.un.slot b _ e1 (IB.free b o qb n hx) (frs_cons.mpr (.inr hb)) hx
    exact ⟨sl', e2⟩
  · obtain ⟨o', e1⟩ := IB.there b o qb hx
    exact G.un.free b o' e1 (IB.free b o qb n hx) hx
  · obtain ⟨o', e1⟩ := IB.there b o qb hx
    exact G.un.there b o' e1 hx
  · obtain ⟨m1, z1⟩ := IB.tbls b ps z
    obtain ⟨m2, z2⟩ := G.un.tbls b _ z1
    exact ⟨m1 ++ m2, by rw [z2, Array.append_assoc]⟩
  · obtain ⟨o2, e1⟩ := IB.there b o eb (by simp)
    exact G.old b o2 e1 (nL b o eb hb) o' qb
  · exact G.nf b (frs_cons.mpr (.inr hb))
theorem comp_refuses {pins : List (Addr × Obj)} {σ : St} {csc : Scope} {cl : List (Str × Addr)} {use : Option (Value → Sem Unit)} {Q : Value → Shared → Prop} {D : Value} {C : Addr} {H2 : Hp} {s2 s3 : Shared} {e : Value}
    (I : Inv (cxOf (CX1 P w) P w K mg base N qual scope f cd A outer s H E) pins σ H2 s2) (L : LetGo (cxOf (CX1 P w) P w K mg base N qual scope f cd A outer s H E) pins H2 s2 C) (nf : C ∉ frs (cxOf (CX1 P w) P w K mg base N qual scope f cd A outer s H E).stack)
    (cx : CX1 P w (cxOf (CX1 P w) P w K mg base N qual scope f cd A outer s H E).stack H2 s2 E e s3) :
    notedBy (model P w) (cxOf (CX1 P w) P w K mg base N qual scope f cd A outer s H E).A (compEnvC csc cl C (cxOf (CX1 P w) P w K mg base N qual scope f cd A outer s H E).env)
      (fun e sz => compPost (model P w) (cxOf (CX1 P w) P w K mg base N qual scope f cd A outer s H E).A (cxOf (CX1 P w) P w K mg base N qual scope f cd A outer s H E).xe use Q D C (.error e) sz) e s3 := by
  obtain ⟨ea, t, cls, H', B, rfl, os, bare, fl, G, q⟩ := cx
  unfold notedBy
  rw [note_same (e := .ref ea) (a := compEnvC csc cl C (cxOf (CX1 P w) P w K mg base N qual scope f cd A outer s H E).env) (b := envOfC qual scope s.heap.objs.size f cd) rfl]
  obtain ⟨m, hn⟩ := L.ns
  obtain ⟨oC, eC⟩ : ∃ oC, s2.heap.get? C = some oC := by obtain ⟨o, _, _, e, _⟩ := hn; exact ⟨o, e⟩
  have eC3 := G.un.keep C oC eC L.no nf (by simp)
  have eCB := G.old C oC eC nf oC eC3
  have hCs : s.heap.get? C = none := by
    cases z : s.heap.get? C with
    | none => rfl
    | some o => exact absurd (Heap.lt_size z) (Nat.not_lt.mpr L.ab)
  have hC' : H' C = none := G.un.free C oC eC L.no (by simp)
  refine wpAny_looks_onW I.ok.frames rfl fl fun h1 hh up => ?_
  obtain ⟨k1, k2, k3, oe, us, tb, ot, zs, ge, gc, gd, g1, gn, gne, gt, gtd, g3⟩ := hh
  have e1 := k1 C oC eCB
  have post : ∃ m, h1.Ns C m ∧ ∀ h', Heap.SameBut C h1 h' → ∀ cenv : Env, cenv.locals = C → wpAny (model P w) (cxOf (CX1 P w) P w K mg base N qual scope f cd A outer s H E).A (PySem.passOn "comprehension.variables-let-go" (.ref ea) cenv : Sem Value) (fun _ _ => False) (cxOf (CX1 P w) P w K mg base N qual scope f cd A outer s H E).xe { s3 with heap := h' } := by
    refine ⟨m, hn.at' fun o e => by rw [eC] at e; cases e; exact e1, fun h2 sb cenv _ => ?_⟩
    have nE : ea ≠ C := fun z => by rw [z, eCB] at k2; cases k2
    have nT : tb ≠ C := fun z => by rw [z, eCB] at gn; cases gn
    have ge2 := (sb.2 ea nE).trans ge
    have gt2 := (sb.2 tb nT).trans gt
    have hsz : 3 < zs.size := (Array.getElem?_eq_some_iff.mp g3).1
    unfold PySem.passOn
    refine wpAny_bind (wpAny_field ge2 gd g1 ?_)
    rw [if_neg (show ¬ ((Value.ref tb == Value.none) = true) by simp)]
    have step : wpAny (model P w) (cxOf (CX1 P w) P w K mg base N qual scope f cd A outer s H E).A (setFlight (.ref ea) cenv.frame >>= fun _ => (throw (.ref ea) : Sem Value)) (fun _ _ => False) (cxOf (CX1 P w) P w K mg base N qual scope f cd A outer s H E).xe { s3 with heap := h2 } := by
      refine wpAny_bind ?_
      unfold setFlight
      refine wpAny_bind (wpAny_field ge2 gd g1 ?_)
      rw [if_pos (show (Value.ref tb != Value.none) = true by simp)]
      refine wpAny_setField gt2 gtd hsz (wpAny_throw ?_)
      generalize hfl : (cenv.frame.elim Value.none fun f => rawInt f) = flg
      have stay : ∀ b, b ≠ tb → (h2.update tb (Obj.mapFields (·.setIfInBounds 3 flg))).get? b = h2.get? b := fun b hb => Heap.get?_update_other _ _ (Ne.symm hb)
      have back : ∀ b, B.get? b = none → (PySem.W.hideAll B [C]).get? b = none := fun b hb => by
        cases z : (PySem.W.hideAll B [C]).get? b with
        | none => rfl
        | some o => rw [PySem.W.of_hideAll _ z] at hb; cases hb
      have frame : ∀ b o, b ∈ frs (envOfC qual scope s.heap.objs.size f cd :: outer) → h1.get? b = some o → (∀ vs, o.data ≠ .fields vs) → (h2.update tb (Obj.mapFields (·.setIfInBounds 3 flg))).get? b = some o := fun b o hb e nfl => by
        have nb : b ≠ C := fun z => nf (z ▸ hb)
        have nt : b ≠ tb := fun z => by rw [z, gt] at e; cases e; exact nfl zs gtd
        exact (stay b nt).trans ((sb.2 b nb).trans e)
      refine leaves_at (base := PySem.W.hideAll B [C]) (fl := flg) (cls := cls) (a0 := .ref t) I.ok.frames rfl (fun b o hb => ?_) (back ea k2) (frames_to k3 (fun b hb o e nfl => frame b o hb e nfl) back) ?_ fun h4 fl4 up4 => ?_
      · have hB := PySem.W.of_hideAll _ hb
        have nb : b ≠ C := fun z => by rw [z, PySem.W.hideAll_none _ List.mem_cons_self] at hb; cases hb
        have nt : b ≠ tb := fun z => by rw [z, gn] at hB; cases hB
        exact (stay b nt).trans ((sb.2 b nb).trans (k1 b o hB))
      · exact ⟨oe, us, tb, _, _, (stay ea (Ne.symm gne)).trans ge2, gc, gd, g1, back tb gn, gne, Heap.get?_update_self _ gt2 (Obj.isFreed_of_fields (Obj.data_mapFields gtd _)), Obj.data_mapFields gtd _, by simp [hsz]⟩
      · refine ⟨ea, t, cls, H', _, rfl, os.trans I.os, bare, fl4, ((ground_up I G).hide hC' hCs).move2 fl4.1 (fun b o hb e nfl => ?_), q⟩
        obtain ⟨sl, e2⟩ := up b o e nfl
        have e3 := frame b _ (frs_cons.mpr (.inr hb)) e2 nfl
        obtain ⟨sl', e4⟩ := up4 b _ e3 nfl
        exact ⟨sl', e4⟩
    first
      | exact (wpAny_bind (wpAny_pure step))
      | exact step
  cases use <;> exact post
theorem ps_setX {csc : Scope} {cl : List (Str × Addr)} {x : Str} {fr : List Str} {ix : List Nat} {elt iter : Expr} {ifs : List Expr} {pos px spos py : Pos} {y : Str} {i : Nat} {wi : TI} {tt : BC TT} {te : BC TE} (KO : CompOk (cxOf (CX1 P w) P w K mg base N qual scope f cd A outer s H E) csc cl x fr ix)
    (hN : N.Nodup) (hy : N[i]? = some y) (hl : Loc scope y) (hi : PI (cxOf (CX1 P w) P w K mg base N qual scope f cd A outer s H E) (.Name x px) iter wi)
    (ht : ∀ fp C s₀ H₀, PFs (cxX (cxOf (CX1 P w) P w K mg base N qual scope f cd A outer s H E) E (x :: fr) csc cl fp C s₀ H₀) ifs (tt fp C s₀ H₀)) (he : ∀ fp C s₀ H₀, PE (cxX (cxOf (CX1 P w) P w K mg base N qual scope f cd A outer s H E) E (x :: fr) csc cl fp C s₀ H₀) elt (te fp C s₀ H₀))
    (hsw : swapsWith (.ListComp elt [⟨.Name x px, iter, ifs, 0⟩] csc pos) (some (.Name y py)) spos.line (cxOf (CX1 P w) P w K mg base N qual scope f cd A outer s H E).env = pure true := by rfl)
    (hs : ∀ x, foldedSetIterable iter (cxOf (CX1 P w) P w K mg base N qual scope f cd A outer s H E).env x = pure x := by intro _; rfl) :
    PS (cxOf (CX1 P w) P w K mg base N qual scope f cd A outer s H E) (.Assign [.Name y py] (.ListComp elt [⟨.Name x px, iter, ifs, 0⟩] csc pos) spos) (tAsg (tCG wi ix tt te) (gName i)) := by
  intro pins s1 σ H1 D I h
  rw [(exec_Assign_Name_used _ _ _ _ hsw)]
  refine (wpAny_bind (wpAny_standAt (wpAny_bind ?_)))
  refine wpAny_bind (wpAny_mono (wpAny_comprehension_free (use := some (assign (.Name y py) (cxOf (CX1 P w) P w K mg base N qual scope f cd A outer s H E).env)) (Q := fun _ s' => SP (cxOf (CX1 P w) P w K mg base N qual scope f cd A outer s H E) pins D .next s') rfl hs KO.clos KO.kind KO.names
    (thn (hi pins s1 σ H1 _ I h) fun v s1 h1 => thn h1 fun itv s2 h2 => ?_)) (fun _ s' hq => wpAny_pure (wpAny_pure hq)) fun _ _ e => e)
  obtain ⟨it, fp, tn, J, H2, e, I2, T, st2, f2, q⟩ := h2
  subst e
  refine comp_walkX (EX := E) (Q := fun x H1 => gName i x σ H1 D.nx) (RR := fun acc C => compPost (model P w) (cxOf (CX1 P w) P w K mg base N qual scope f cd A outer s H E).A (cxOf (CX1 P w) P w K mg base N qual scope f cd A outer s H E).xe (some (assign (.Name y py) (cxOf (CX1 P w) P w K mg base N qual scope f cd A outer s H E).env)) (fun _ s' => SP (cxOf (CX1 P w) P w K mg base N qual scope f cd A outer s H E) pins D .next s') acc C)
    KO rfl ht he I2 T st2 f2 q (fun Dl C H' s' I' L q' => ?_) (fun Dl C H' s' e s'' I' L nf cx => comp_refuses (csc := csc) (cl := cl) (use := some (assign (.Name y py) (cxOf (CX1 P w) P w K mg base N qual scope f cd A outer s H E).env)) (Q := fun _ s' => SP (cxOf (CX1 P w) P w K mg base N qual scope f cd A outer s H E) pins D .next s') (D := .ref Dl) I' L nf cx)
  show wpAny _ _ (assign (.Name y py) (cxOf (CX1 P w) P w K mg base N qual scope f cd A outer s H E).env (.ref Dl)) _ _ _
  refine wpAny_assign_Name (store_ok2 I' hN hy hl (show RelV (.ref Dl) (.ref Dl) from rfl) (fun s3 I3 ⟨a, sb, ha⟩ => ?_) (.inl rfl))
  obtain ⟨m, hn⟩ := L.ns
  have nCa : C ≠ a := by
    rcases ha with z | z
    · rw [z]; exact L.nl
    · exact fun w => L.nc y a z w.symm
  have L3 : LetGo (cxOf (CX1 P w) P w K mg base N qual scope f cd A outer s H E) pins H' s3 C := ⟨⟨m, hn.sameBut sb nCa⟩, L.no, L.nl, L.ab, L.nc, L.np⟩
  exact ⟨m, hn.sameBut sb nCa, fun h' hs' => ⟨_, H', L3.inv I3 hs', q'⟩⟩
end
end L2

namespace TM
open PySem PySem.NumText
theorem fold10 : ∀ (cs : List Nat) (a : Nat), cs.foldl (fun acc c => acc * 10 + (c - 48)) a = a * 10 ^ cs.length + digitsVal cs
  | [], a => by simp [digitsVal]
  | c :: cs, a => by
    have h1 := fold10 cs (a * 10 + (c - 48))
    have h2 := fold10 cs (0 * 10 + (c - 48))
    show cs.foldl _ (a * 10 + (c - 48)) = a * 10 ^ (cs.length + 1) + cs.foldl _ (0 * 10 + (c - 48))
    rw [h1, h2, Nat.pow_succ, Nat.add_mul, Nat.mul_assoc, Nat.mul_comm 10 (10 ^ cs.length), Nat.zero_mul, Nat.zero_add]
    omega
theorem val_cons (c : Nat) (cs : List Nat) : digitsVal (c :: cs) = (c - 48) * 10 ^ cs.length + digitsVal cs := by
  show cs.foldl _ (0 * 10 + (c - 48)) = _
  rw [fold10]
  simp
theorem val_ge {c : Nat} {cs : List Nat} (h : 49 ≤ c) : 10 ^ cs.length ≤ digitsVal (c :: cs) := by
  have : 1 * 10 ^ cs.length ≤ (c - 48) * 10 ^ cs.length := Nat.mul_le_mul_right _ (by omega)
  rw [val_cons]
  omega
theorem mem_jn : ∀ {ps : List (List Nat)} {p : List Nat}, p ∈ ps → (∀ c ∈ p, c ∈ jn ps) ∧ p.length ≤ (jn ps).length
  | [x], p, h => by
    rw [List.mem_singleton.mp h]
    exact ⟨fun c hc => hc, Nat.le_refl _⟩
  | x :: y :: r, p, h => by
    show (∀ c ∈ p, c ∈ x ++ 32 :: jn (y :: r)) ∧ p.length ≤ (x ++ 32 :: jn (y :: r)).length
    rw [List.length_append, List.length_cons]
    rcases (List.mem_cons.mp h) with rfl | h
    · exact ⟨fun c hc => List.mem_append_left _ hc, by omega⟩
    · obtain ⟨a, b⟩ := mem_jn h
      exact ⟨fun c hc => List.mem_append_right _ (List.mem_cons_of_mem _ (a c hc)), by omega⟩
theorem len_jn : ∀ ps : List (List Nat), ps.length ≤ (jn ps).length + 1
  | [] => by simp
  | [x] => by simp
  | x :: y :: r => by
    have := len_jn (y :: r)
    show (y :: r).length + 1 ≤ (x ++ 32 :: jn (y :: r)).length + 1
    simp only [List.length_append, List.length_cons] at this ⊢
    omega
theorem split_jn (t : Str) : t.cps.toList = jn ((Txt.split t (" " : Str)).map fun p => p.cps.toList) := by
  rw [← join_jn, StrLaws.join_split]
theorem part_of {t p : Str} (h : p ∈ Txt.split t (" " : Str)) : (∀ c ∈ p.cps.toList, c ∈ t.cps.toList) ∧ p.length ≤ t.length := by
  obtain ⟨a, b⟩ := mem_jn (List.mem_map_of_mem (f := fun p : Str => p.cps.toList) h)
  rw [← split_jn] at a b
  exact ⟨a, by rw [Array.length_toList, Array.length_toList] at b; exact b⟩
theorem parts_len (t : Str) : (Txt.split t (" " : Str)).length ≤ t.length + 1 := by
  have := len_jn ((Txt.split t (" " : Str)).map fun p => p.cps.toList)
  rw [← split_jn, List.length_map, Array.length_toList] at this
  exact this
theorem part_ascii {t p : Str} (ht : t.cps.all (· < 128) = true) (h : p ∈ Txt.split t (" " : Str)) : p.cps.all (· < 128) = true := by
  rw [← Array.all_toList, List.all_eq_true] at ht ⊢
  exact fun c hc => ht c ((part_of h).1 c hc)
end TM
namespace Y
open PySem PySem.NumText L2 Yd
def numN (p : Str) : Nat := digitsVal p.cps.toList
theorem isNum_figs {p : Str} (h : isNum p = true) : AllDigits p.cps.toList := by
  unfold isNum at h
  rw [Bool.and_eq_true, List.all_eq_true] at h
  exact fun c hc => of_decide_eq_true (h.2 c hc)
theorem isNum_len {p : Str} (h : isNum p = true) : p.length ≠ 0 ∧ p.length ≤ 30 := by
  unfold isNum at h
  rw [Bool.and_eq_true] at h
  have := of_decide_eq_true h.1
  exact ⟨this.1, this.2.1⟩
theorem isNum_reads {p : Str} (h : isNum p = true) : PySem.intText? p = some (numN p : Int) := by
  obtain ⟨h1, h2⟩ := isNum_len h
  refine intText_digits (isNum_figs h) (fun z => h1 ?_) (by omega)
  have : p.cps.toList.length = 0 := by rw [z]; rfl
  rwa [Array.length_toList] at this
theorem isNum_few {p : Str} (h : isNum p = true) (hn : numN p ≤ 200) : p.length ≤ 3 := by
  rcases Nat.lt_or_ge 3 p.length with z | z
  · exfalso
    have hf := isNum_figs h
    have hc : ∃ c r, p.cps.toList = c :: r := by
      cases e : p.cps.toList with
      | nil =>
        have : p.cps.toList.length = 0 := by rw [e]; rfl
        rw [Array.length_toList] at this
        have : p.length = 0 := this
        omega
      | cons c r => exact ⟨c, r, rfl⟩
    obtain ⟨c, r, e⟩ := hc
    have hl : p.length = r.length + 1 := by
      have : p.cps.toList.length = r.length + 1 := by rw [e]; rfl
      rw [Array.length_toList] at this
      exact this
    have h49 : 49 ≤ c := by
      have h1 := hf c (by rw [e]; exact List.mem_cons_self)
      rcases Nat.lt_or_ge 48 c with y | y
      · omega
      · exfalso
        have ec : c = 48 := by omega
        have h2 : ¬ (p.cps.toList.head? = some 48 ∧ p ≠ ("0" : Str)) := by
          unfold isNum at h
          rw [Bool.and_eq_true] at h
          exact (of_decide_eq_true h.1).2.2
        refine h2 ⟨by rw [e, ec]; rfl, fun q => ?_⟩
        rw [q] at z
        exact absurd z (by decide +kernel)
    have h3 := TM.val_ge (cs := r) h49
    have h4 : (10 : Nat) ^ 3 ≤ 10 ^ r.length := Nat.pow_le_pow_right (by decide) (by omega)
    unfold numN at hn
    rw [e] at hn
    have : (10 : Nat) ^ 3 = 1000 := by decide
    omega
  · exact z
def okCell (p : Str) : Bool := decide (p = ("-" : Str)) || isNum p
def cellVal (p : Str) : Option Int := if p = ("-" : Str) then none else some (numN p : Int)
theorem cell_none {p : Str} (h : p = ("-" : Str)) : cellVal p = none := if_pos h
theorem cell_some {p : Str} (h : p ≠ ("-" : Str)) : cellVal p = some (numN p : Int) := if_neg h
end Y

namespace L2
open PySem PySem.Spec PyProof.Rows
section
variable {X : Cx}
def rSlS : V → Option Int → Option Int → Hp → VK → Prop := fun x _ _ H Q => ∃ z : Str, x = .str z ∧ z.length ≤ sizeLine ∧ ∀ y : Str, (∀ c ∈ y.cps.toList, c ∈ z.cps.toList) → y.length ≤ z.length → Q (.str y) H
theorem part_val {v : Value} {i : Option Int} (h : IsPart v i) : ∃ l : Option (Int × Tok), v = partValue l ∧ l.map (·.1) = i := by
  cases h with
  | none => exact ⟨none, rfl, rfl⟩
  | int i t => exact ⟨some (i, t), rfl, rfl⟩
theorem sl_str : SlR X rSlS := by
  intro pins s σ H x v vl vu lo hi sl Q I rx hs pl pu h
  obtain ⟨z, rfl, hz, q⟩ := h
  obtain ⟨t, rfl⟩ := rx
  obtain ⟨l, rfl, e1⟩ := part_val pl
  obtain ⟨u, rfl, e2⟩ := part_val pu
  refine ⟨"str", _, PySem.F.slot_str_getitem.lookup, typeIs_str _ _ _, wpAny_getItem_str_slice (l := l) (u := u) (st := none) hs rfl ?_⟩
  unfold sliceMade
  split
  · exact ⟨.str z, H, I, ⟨_, rfl⟩, q z (fun c h => h) (Nat.le_refl _)⟩
  · have hle : (((slicePicked z l u none).filterMap (z.cps[·]?)).toArray).size ≤ z.length := by
      rw [List.size_toArray]
      exact Nat.le_trans (List.length_filterMap_le _ _) (sliceIndices_le _ _ z.length)
    refine ⟨Nat.le_trans hle hz, .str _, H, I.tok _, ⟨_, rfl⟩, q _ (fun c hc => ?_) hle⟩
    have hc' : c ∈ (slicePicked z l u none).filterMap (z.cps[·]?) := by simpa using hc
    obtain ⟨i, _, e⟩ := List.mem_filterMap.mp hc'
    rw [← Array.getElem?_toList] at e
    exact List.mem_of_getElem? e
end
end L2
namespace TM
open PySem PySem.NumText
def Asc (t : Str) : Prop := t.cps.all (· < 128) = true
theorem asc_iff {t : Str} : Asc t ↔ ∀ c ∈ t.cps.toList, c < 128 := by
  unfold Asc
  rw [← Array.all_toList, List.all_eq_true]
  exact ⟨fun h c hc => of_decide_eq_true (h c hc), fun h c hc => decide_eq_true (h c hc)⟩
theorem Asc.sub {t y : Str} (h : Asc t) (s : ∀ c ∈ y.cps.toList, c ∈ t.cps.toList) : Asc y := asc_iff.mpr fun c hc => asc_iff.mp h c (s c hc)
theorem Asc.app {t y : Str} (h : Asc t) (h2 : Asc y) : Asc (t ++ y) := by
  refine asc_iff.mpr fun c hc => ?_
  rw [Str.cps_append, Array.toList_append] at hc
  rcases List.mem_append.mp hc with z | z
  · exact asc_iff.mp h c z
  · exact asc_iff.mp h2 c z
theorem of_jn : ∀ {ps : List (List Nat)} {c : Nat}, c ∈ jn ps → c = 32 ∨ ∃ p ∈ ps, c ∈ p
  | [], _, h => by cases h
  | [x], c, h => .inr ⟨x, by simp, h⟩
  | x :: y :: r, c, h => by
    have h' : c ∈ x ++ 32 :: jn (y :: r) := h
    rcases List.mem_append.mp h' with z | z
    · exact .inr ⟨x, by simp, z⟩
    · rcases List.mem_cons.mp z with z | z
      · exact .inl z
      · rcases of_jn z with q | ⟨p, hp, hc⟩
        · exact .inl q
        · exact .inr ⟨p, List.mem_cons_of_mem _ hp, hc⟩
def sumL (ps : List Str) : Nat := (ps.map (·.length)).sum
theorem len_le : ∀ ps : List Str, (jn (ps.map fun p => p.cps.toList)).length ≤ sumL ps + ps.length
  | [] => by simp [jn]
  | [x] => by
    show x.cps.toList.length ≤ _
    rw [Array.length_toList]
    simp [sumL, Str.length]
  | x :: y :: r => by
    have ih := len_le (y :: r)
    show (x.cps.toList ++ 32 :: jn ((y :: r).map fun p => p.cps.toList)).length ≤ x.length + sumL (y :: r) + ((y :: r).length + 1)
    rw [List.length_append, List.length_cons, Array.length_toList]
    show x.length + _ ≤ _
    omega
theorem sum_le : ∀ ps : List Str, sumL ps ≤ (jn (ps.map fun p => p.cps.toList)).length
  | [] => by simp [sumL]
  | [x] => by
    show x.length + 0 ≤ x.cps.toList.length
    rw [Array.length_toList]
    exact Nat.le_refl _
  | x :: y :: r => by
    have ih := sum_le (y :: r)
    show x.length + sumL (y :: r) ≤ (x.cps.toList ++ 32 :: jn ((y :: r).map fun p => p.cps.toList)).length
    rw [List.length_append, List.length_cons, Array.length_toList]
    show x.length + _ ≤ x.length + _
    omega
theorem join_ok {ps : List Str} (h : ∀ p ∈ ps, Asc p) : Asc (Txt.join (" " : Str) ps) ∧ (Txt.join (" " : Str) ps).length ≤ sumL ps + ps.length := by
  have e : Txt.join (" " : Str) ps = Str.join (" " : Str) ps := StrLaws.glued_eq_join _ _
  have ej := join_jn ps
  rw [e]
  constructor
  · refine asc_iff.mpr fun c hc => ?_
    rw [ej] at hc
    rcases of_jn hc with rfl | ⟨p, hp, hcp⟩
    · decide
    · obtain ⟨q, hq, rfl⟩ := List.mem_map.mp hp
      exact asc_iff.mp (h q hq) c hcp
  · have := len_le ps
    rw [← ej, Array.length_toList] at this
    exact this
theorem split_sum (t : Str) : sumL (Txt.split t (" " : Str)) ≤ t.length := by
  have := sum_le (Txt.split t (" " : Str))
  rw [← split_jn, Array.length_toList] at this
  exact this
theorem sumL_app (a b : List Str) : sumL (a ++ b) = sumL a + sumL b := by simp [sumL]
theorem sumL_sub : ∀ {ps qs : List Str}, List.Sublist ps qs → sumL ps ≤ sumL qs
  | _, _, .slnil => Nat.le_refl _
  | _, _, .cons a s => by
    have := sumL_sub s
    simp only [sumL, List.map_cons, List.sum_cons] at *
    omega
  | _, _, .cons_cons a s => by
    have := sumL_sub s
    simp only [sumL, List.map_cons, List.sum_cons] at *
    omega
theorem cut_strs (ws : List Str) (lo hi : Option Int) : ∃ us : List Str, L2.cutV (ws.map L2.V.str) lo hi = us.map L2.V.str ∧ List.Sublist us ws := by
  refine ⟨_, by unfold L2.cutV; rw [← List.map_drop, ← List.map_take], ?_⟩
  exact (List.take_sublist _ _).trans (List.drop_sublist _ _)
end TM

namespace Y
open PySem L2 Yd
def top (i : Nat) : Stmt := PySem.Challenge.pw_stallyard_k15_read.main.body.getD i (.Pass ⟨0, 0, 0, 0⟩)
abbrev sWay : Stmt := top 9
abbrev sKeeps : Stmt := top 10
abbrev sSize : Stmt := top 14
abbrev sInit : Stmt := inClass (top 15) 0
abbrev sStalls : Stmt := inClass (top 15) 5
abbrev sRight : Stmt := top 17
abbrev sLaid : Stmt := top 18
abbrev sOnce : Stmt := top 19
abbrev sCame : Stmt := top 20
abbrev sRead : Stmt := top 26
abbrev sReadN : Stmt := top 27
abbrev sReadR : Stmt := top 28
abbrev sReadC : Stmt := top 29
abbrev sIsN : Stmt := top 30
abbrev sCell : Stmt := top 32
abbrev sWhole : Stmt := top 33
abbrev sLWay : Stmt := top 34
abbrev sLKeeps : Stmt := top 35
abbrev sLPut : Stmt := top 36
abbrev sName : Stmt := top 38
abbrev sLRow : Stmt := top 40
abbrev sLRight : Stmt := top 41
abbrev sLText : Stmt := top 42
abbrev sLOdd : Stmt := top 43
abbrev sLSpoiled : Stmt := top 44
abbrev sLNumber : Stmt := top 45
abbrev sLDue : Stmt := top 46
abbrev sLTold : Stmt := top 47
abbrev sLaw : Stmt := top 48

section
variable {P : Program} {w : World} {K : PySem.W.Frag} {mg : Str → Option Value} {base : Heap}

theorem scWay : FnScope ["name", "at", "many"] ["name", "at", "many"] (defScope sWay) := ⟨rfl, rfl, rfl, by decide +kernel, rfl, by decide +kernel, by decide +kernel⟩
theorem ok_way {f : Addr} {fd : FuncData} (F : Fun K "way" "way" sWay f fd) : FnOk P w K mg base CX0 1 f fd ["name", "at", "many"] spWay := by
  refine F.ok scWay (fun vs H Q E h => ?_) (fun cdv A outer s H vs Q E hr h => ?_)
  · obtain ⟨n, a, m, rfl, _⟩ := h
    rfl
  · obtain ⟨n, a, m, rfl, hm, k⟩ := h
    refine ⟨_, pss_one (ps_ret (pe_op op_mod (pe_op op_sub (pv 1) (pv 0)) (pv 2))), ?_⟩
    exact ⟨_, rfl, _, rfl, _, _, rfl, rfl, _, rfl, _, _, rfl, rfl, hm, k⟩

theorem scKeeps : FnScope ["rule", "one", "other", "at", "many", "longer"] ["rule", "one", "other", "at", "many"] (defScope sKeeps) := ⟨rfl, rfl, rfl, by decide +kernel, rfl, by decide +kernel, by decide +kernel⟩
theorem ok_keeps {f : Addr} {fd : FuncData} (F : Fun K "keeps" "keeps" sKeeps f fd) (Tf : ∃ t, mg "FIRST" = some (.int 0 t)) (Tr : ∃ t, mg "FAR" = some (.int 2 t)) (GW : FnG P w K mg base "way" ["name", "at", "many"] 1 spWay) : FnOk P w K mg base CX0 2 f fd ["rule", "one", "other", "at", "many"] spKeeps := by
  refine F.ok scKeeps (fun vs H Q E h => ?_) (fun cdv A outer s H vs Q E hr h => ?_)
  · obtain ⟨r, a, b, q, m, rfl, _⟩ := h
    rfl
  · obtain ⟨r, a, b, q, m, rfl, hq, k⟩ := h
    obtain ⟨t0, h0⟩ := Tf
    obtain ⟨t2, h2⟩ := Tr
    have hm : (0 : Int) < (m : Int) := by omega
    refine ⟨_, pss_cons (ps_if (pt_cmpR op_eq (pv 0) (pe_glob (v := .int 0) rfl h0 ⟨_, rfl⟩) (nomark _)) (pss_one (ps_ret pe_bl)) pss_nil)
      (pss_cons (ps_if (pt_cmpR op_eq (pv 0) (pe_glob (v := .int 2) rfl h2 ⟨_, rfl⟩) (nomark _))
        (pss_cons (ps_set (i := 5) scKeeps.nd rfl (Or.inl rfl) (pe_op op_sub (pe_fn GW hr (pa_cons (pv 1) (pa_cons (pv 3) (pa_cons (pv 4) pa_nil)))) (pe_fn GW hr (pa_cons (pv 2) (pa_cons (pv 3) (pa_cons (pv 4) pa_nil))))))
          (pss_one (ps_if (pt_cmpR op_ne (pv 5) pe_int (nomark _)) (pss_one (ps_ret (pe_cmpR op_gt (pv 5) pe_int (nomark _)))) pss_nil)))
        pss_nil)
      (pss_one (ps_ret (pe_cmpR op_lt (pv 1) (pv 2) (nomark _))))), ?_⟩
    refine ⟨_, rfl, rfl, _, rfl, iteI (fun e => ?_) (fun e => ?_)⟩
    · rw [kp_zero e] at k
      exact k
    · refine ⟨_, rfl, rfl, _, rfl, iteI (fun e2 => ?_) (fun e2 => ?_)⟩
      · refine ⟨_, rfl, _, rfl, _, rfl, _, _, _, rfl, hm, _, rfl, _, rfl, _, rfl, _, _, _, rfl, hm, _, _, rfl, rfl, _, rfl, rfl, _, rfl, iteNI (fun e3 => ?_) (fun e3 => ?_)⟩
        · rw [kp_far hq e2 e3] at k
          exact ⟨_, rfl, _, _, rfl, rfl, k⟩
        · rw [kp_far0 hq e2 e3] at k
          exact ⟨_, rfl, _, rfl, _, _, rfl, rfl, k⟩
      · rw [kp_name e e2] at k
        exact ⟨_, rfl, _, rfl, _, _, rfl, rfl, k⟩

def spSize : Sp := fun vs H Q _ => ∃ z : Int, vs = [.int z] ∧ Q (.bl (decide (2 ≤ z ∧ z ≤ 200))) H
theorem scSize : FnScope ["many"] ["many"] (defScope sSize) := ⟨rfl, rfl, rfl, by decide +kernel, rfl, by decide +kernel, by decide +kernel⟩
theorem ok_size {f C : Addr} {fd : FuncData} (F : Fun K "is_size" "is_size" sSize f fd) (T : Txt K mg C) : FnOk P w K mg base CX0 1 f fd ["many"] spSize := by
  refine F.ok scSize (fun vs H Q E h => ?_) (fun cdv A outer s H vs Q E hr h => ?_)
  · obtain ⟨z, rfl, _⟩ := h
    rfl
  · obtain ⟨z, rfl, k⟩ := h
    obtain ⟨tl, hlo⟩ := T.lo
    obtain ⟨th, hhi⟩ := T.hi
    refine ⟨_, pss_one (ps_ret (pe_and (pe_cmpR op_ge (pv 0) (pe_glob (v := .int 2) rfl hlo ⟨_, rfl⟩) (nomark _)) (pe_one (pe_cmpR op_le (pv 0) (pe_glob (v := .int 200) rfl hhi ⟨_, rfl⟩) (nomark _))))), ?_⟩
    by_cases h2 : 2 ≤ z
    · refine ⟨_, rfl, _, _, rfl, rfl, _, rfl, iteD (fun _ => ?_) (fun q => absurd h2 q)⟩
      refine ⟨_, rfl, _, _, rfl, rfl, ?_⟩
      have e : decide (2 ≤ z ∧ z ≤ 200) = decide (z ≤ 200) := by simp [h2]
      rw [e] at k
      exact k
    · refine ⟨_, rfl, _, _, rfl, rfl, _, rfl, iteD (fun q => absurd q h2) (fun _ => ?_)⟩
      have e : decide (2 ≤ z ∧ z ≤ 200) = false := by simp [h2]
      rw [e] at k
      exact k

theorem scInit : FnScope ["self", "many", "rule"] ["self", "many", "rule"] (defScope sInit) := ⟨rfl, rfl, rfl, by decide +kernel, rfl, by decide +kernel, by decide +kernel⟩
theorem ok_init {f C : Addr} {fd : FuncData} (F : Fun K "__init__" "Yard.__init__" sInit f fd) (T : Txt K mg C) (GSz : FnG P w K mg base "is_size" ["many"] 1 spSize) : FnOk P w K mg base CX0 2 f fd ["self", "many", "rule"] (spInit C) := by
  refine F.ok scInit (fun vs H Q E h => ?_) (fun cdv A outer s H vs Q E hr h => ?_)
  · obtain ⟨y, dx, m, rule, rfl, _⟩ := h
    rfl
  · obtain ⟨y, dx, m, rule, rfl, h2, h200, hy, k⟩ := h
    refine ⟨_, pss_cons (ps_if (pt_not (pt_val (pe_fn GSz (hr.mono (by decide)) (pa_cons (pv 1) pa_nil)))) pss_never pss_nil)
      (pss_cons (ps_fld (pv 0) (pv 1) rfl) (pss_cons (ps_fld (pv 0) (pv 2) rfl) (pss_one (ps_fld (pv 0) (pe_op op_rep (pe_lst (pa_cons pe_non pa_nil)) (pv 1)) rfl)))), ?_⟩
    refine ⟨_, rfl, _, rfl, _, rfl, iteNB (fun z => ?_) (fun _ => ?_)⟩
    · have := of_decide_eq_false z
      omega
    refine ⟨_, rfl, _, rfl, y, C, dx, [], rfl, hy, T.cl, T.nM, (by show 0 < 1000; decide), ?_⟩
    refine ⟨_, rfl, _, rfl, y, C, dx, _, rfl, upd_same, T.cl, T.nR, (by show 1 < 1000; decide), ?_⟩
    refine ⟨(by show 1 ≤ sizeLine; decide), fun l hl => ?_⟩
    have nyl : y ≠ l := fun z => by subst z; rw [upd_same] at hl; cases hl
    refine ⟨_, rfl, l, m, [.non], rfl, rfl, upd_same, by omega, by omega, ?_, fun ca hca => ?_⟩
    · have : sizeLine ≥ 1000 := by decide
      simp; omega
    have nyc : y ≠ ca := fun z => by
      subst z
      rw [upd_ne nyl, upd_same] at hca; cases hca
    have nlc : l ≠ ca := fun z => by subst z; rw [upd_same] at hca; cases hca
    refine ⟨_, rfl, y, C, dx, _, rfl, (by rw [upd_ne nyc, upd_ne nyl, upd_same]), T.cl, T.nC, ?_, ?_⟩
    · have := length_putF "rule" (.int rule) (putF "many" (V.int (m : Int)) [])
      have := length_putF "many" (V.int (m : Int)) []
      simp only [List.length_nil] at this
      omega
    have hca0 : H ca = none := by rw [upd_ne nlc.symm, upd_ne nyc.symm, upd_ne nyc.symm] at hca; exact hca
    have hl0 : H l = none := by rw [upd_ne nyl.symm, upd_ne nyl.symm] at hl; exact hl
    refine k ca _ hca0 ⟨⟨dx, upd_same⟩, ?_, List.length_replicate .., h200⟩ fun b o e hb => ?_
    · rw [upd_ne nyc.symm, upd_same, Int.toNat_natCast, layV_empty]
    · rw [upd_ne hb, upd_ne (ne_of_none e hca0), upd_ne (ne_of_none e hl0), upd_ne hb, upd_ne hb]
      exact e

theorem scStalls : FnScope ["self"] ["self"] (defScope sStalls) := ⟨rfl, rfl, rfl, by decide +kernel, rfl, by decide +kernel, by decide +kernel⟩
theorem ok_stalls {f C : Addr} {fd : FuncData} (F : Fun K "stalls" "Yard.stalls" sStalls f fd) (T : Txt K mg C) : FnOk P w K mg base CX0 1 f fd ["self"] (spStalls C) := by
  refine F.ok scStalls (fun vs H Q E h => ?_) (fun cdv A outer s H vs Q E hr h => ?_)
  · obtain ⟨y, ca, m, rule, c, rfl, _⟩ := h
    rfl
  · obtain ⟨y, ca, m, rule, c, rfl, Y, k⟩ := h
    obtain ⟨dx, h1⟩ := Y.ob
    refine ⟨_, pss_one (ps_ret (pe_callTy call_list_of (by rfl) T.list PyProof.Rows.boot_list (pa_cons (pe_fld (pv 0) rfl) pa_nil))), ?_⟩
    exact ⟨_, rfl, y, C, dx, _, _, rfl, h1, T.cl, T.nC, flds_cells _ _ _, ca, _, rfl, .inl (SqL.of Y.ls), fun l hl => k l hl⟩

theorem off_lt {m w j : Nat} (hw : w < m) (hj : j < m) : off m w j < m := by
  have := off_spec m w j
  omega
theorem dist_off {m w j : Nat} (hw : w < m) (hj : j < m) : dist m w (off m w j) = j := by
  have := off_spec m w j
  have := dist_spec m w (off m w j)
  omega
theorem off_dist {m w q : Nat} (hw : w < m) (hq : q < m) : off m w (dist m w q) = q := dist_inj hw (off_lt hw (dist_lt hw hq)) hq (dist_off hw (dist_lt hw hq))
theorem off_int {m : Nat} (hm : 0 < m) (n : Int) {j : Nat} (hj : j < m) : (n + (j : Int)) % (m : Int) = (off m (ws m n) j : Int) := by
  have h2 := ws_lt hm n
  have e : (n + (j : Int)) % (m : Int) = ((ws m n : Int) + j) % (m : Int) := by rw [ws_int hm, Int.emod_add_emod]
  rw [e]
  rcases off_spec m (ws m n) j with ⟨a, b⟩ | ⟨a, b⟩
  · rw [b, Int.emod_eq_of_lt (by omega) (by omega)]
    omega
  · have e2 : (ws m n : Int) + j = ((ws m n + j - m : Nat) : Int) + (m : Int) := by omega
    rw [b, e2, Int.add_emod_right, Int.emod_eq_of_lt (by omega) (by omega)]
def spOnce : Sp := fun vs H Q _ => ∃ (a : Addr) (c : Lay), vs = [.ref a] ∧ H a = some (.lst (layV c)) ∧ c.length ≤ 200 ∧ ∀ (H' : Hp) (b : Bool), Same H H' → (b = true ↔ (nm c).Nodup) → Q (.bl b) H'
theorem scOnce : FnScope ["layout", "names"] ["layout"] (defScope sOnce) := ⟨rfl, rfl, rfl, by decide +kernel, rfl, by decide +kernel, by decide +kernel⟩
seal L2.tCG
theorem ok_once {f : Addr} {fd : FuncData} (F : Fun K "each_once" "each_once" sOnce f fd) (Ln : mg "len" = none) (Ls : mg "set" = none) : FnOk P w K mg base CX0 1 f fd ["layout"] spOnce := by
  refine F.ok scOnce (fun vs H Q E h => ?_) (fun cdv A outer s H vs Q E hr h => ?_)
  · obtain ⟨a, c, rfl, _⟩ := h
    rfl
  · obtain ⟨a, c, rfl, ha, h200, k⟩ := h
    refine ⟨_, (pss_cons (ps_setG (i := 1) (CompOk.closed (by decide +kernel) (by rfl) (by decide +kernel) (by rfl)) (by rfl) scOnce.nd rfl (Or.inl rfl) (pi_list (pv 0)) (fun fp Cc s₀ H₀ => pf_one (pt_cmp (pc_notN (pv 0)))) (fun fp Cc s₀ H₀ => pv 0))
      (pss_one (ps_ret (pe_cmpR op_eq (pe_callB call_lenS (by rfl) Ln PySem.boot_len (pa_cons (pe_callTy (call_setG rfl) (by rfl) Ls PyProof.Rows.boot_set (pa_cons (pv 1) pa_nil)) pa_nil)) (pe_callB call_len_seq (by rfl) Ln PySem.boot_len (pa_cons (pv 1) pa_nil)) (nomark _))))), ?_⟩
    refine cg_names (c := c) (by rfl) ha h200 fun ln hln => ?_
    have s1 := same_upd (o := .lst ((nm c).map V.int)) hln
    have gn : upd H ln (.lst ((nm c).map V.int)) ln = some (.lst ((nm c).map V.int)) := upd_same
    generalize upd H ln (.lst ((nm c).map V.int)) = H1 at s1 gn
    have hfn := free_nm c
    refine ⟨_, rfl, ln, nm c, rfl, SqL.of gn, by omega, fun lt S nS hlt hnS => ?_⟩
    have s2 := same_upd (o := .set S nS) hlt
    refine ⟨lt, S, _, rfl, upd_same, ?_⟩
    refine ⟨_, rfl, ln, _, rfl, .inl (SqL.of (s2 _ _ gn)), rfl, ?_⟩
    refine k _ _ (s1.trans s2) ?_
    rw [decide_eq_true_iff, List.length_map, ← hnS]
    constructor
    · intro z
      have := V.int.inj z
      omega
    · intro z
      rw [z]
unseal L2.tCG
def spCame : Sp := fun vs H Q _ => ∃ (a : Addr) (m : Nat) (rule : Int) (c : Lay) (p : Nat), vs = [.int m, .int rule, .ref a, .int p] ∧ H a = some (.lst (layV c)) ∧ c.length = m ∧ p < m ∧ m ≤ 200 ∧
  ∀ (b : Bool), (b = true ↔ ∀ n, g c p = some n → ∀ q, q < m → dist m (ws m n) q < dist m (ws m n) p → ∃ k, g c q = some k ∧ kp m rule k n q = true) → Q (.bl b) H
theorem scCame : FnScope ["many", "rule", "layout", "at", "name", "step", "passed", "standing"] ["many", "rule", "layout", "at"] (defScope sCame) := ⟨rfl, rfl, rfl, by decide +kernel, rfl, by decide +kernel, by decide +kernel⟩
theorem ok_came {f : Addr} {fd : FuncData} (F : Fun K "came_rightly" "came_rightly" sCame f fd) (Lr : mg "range" = none) (GW : FnG P w K mg base "way" ["name", "at", "many"] 1 spWay) (GK : FnG P w K mg base "keeps" ["rule", "one", "other", "at", "many"] 2 spKeeps) : FnOk P w K mg base CX0 3 f fd ["many", "rule", "layout", "at"] spCame := by
  refine F.ok scCame (fun vs H Q E h => ?_) (fun cdv A outer s H vs Q E hr h => ?_)
  · obtain ⟨a, m, rule, c, p, rfl, _⟩ := h
    rfl
  · obtain ⟨a, m, rule, c, p, rfl, ha, hlen, hp, h200, k⟩ := h
    have hm : 0 < m := by omega
    have hmi : (0 : Int) < (m : Int) := by omega
    have hr1 : Room 1 _ := hr.mono (by decide)
    have hr2 : Room 2 _ := hr.mono (by decide)
    refine ⟨_, (pss_cons (ps_set (i := 4) scCame.nd rfl (Or.inl rfl) (pe_ix ix_list (pv 2) (pv 3) (fun _ _ => rfl)))
      (pss_cons (ps_if (pt_cmp (pc_isN (pv 4))) (pss_one (ps_ret pe_bl)) pss_nil)
      (pss_cons (ps_for PassesOwn.never rfl (pi_range1 (by rfl) Lr (pa_cons (pe_fn GW hr1 (pa_cons (pv 4) (pa_cons (pv 3) (pa_cons (pv 0) pa_nil)))) pa_nil)) (pg_name (i := 5) scCame.nd rfl (Or.inl rfl)) (pss_cons (ps_set (i := 6) scCame.nd rfl (Or.inl rfl) (pe_op op_mod (pe_op op_add (pv 4) (pv 5)) (pv 0)))
      (pss_cons (ps_set (i := 7) scCame.nd rfl (Or.inl rfl) (pe_ix ix_list (pv 2) (pv 6) (fun _ _ => rfl)))
      (pss_one (ps_if (PW.pt (pw_or (pt_cmp (pc_isN (pv 7))) (pw_or1 (pt_not (pt_val (pe_fn GK hr2 (pa_cons (pv 1) (pa_cons (pv 7) (pa_cons (pv 4) (pa_cons (pv 6) (pa_cons (pv 0) pa_nil)))))))))))
          (pss_one (ps_ret pe_bl)) pss_nil)))))
      (pss_one (ps_ret pe_bl))))), ?_⟩
    have hat := layV_at (c := c) (p := p) (by rw [hlen]; exact hp)
    cases e : g c p with
    | none =>
      rw [e] at hat
      refine ⟨_, rfl, _, rfl, a, _, _, _, rfl, rfl, SqL.of ha, hat, _, rfl, _, rfl, iteT ?_⟩
      exact k true ⟨fun _ n hn => (by rw [e] at hn; cases hn), fun _ => rfl⟩
    | some n =>
      rw [e] at hat
      have hw := ws_lt hm n
      have hd := dist_lt hw hp
      refine ⟨_, rfl, _, rfl, a, _, _, _, rfl, rfl, SqL.of ha, hat, _, rfl, _, rfl, iteF ?_⟩
      refine ⟨_, rfl, _, rfl, _, rfl, n, (p : Int), (m : Int), rfl, hmi, _, rfl, ?_, ?_, ?_⟩
      · rw [way_eq hm n hp]
        omega
      · rw [way_eq hm n hp]
        omega
      rw [way_eq hm n hp, Int.toNat_natCast]
      refine for_range (lo := 0) (n := dist m (ws m n) p) (fun i σ H' => ∃ (v5 v6 v7 : Option V), σ = [some (.int (m : Int)), some (.int rule), some (.ref a), some (.int (p : Int)), some (.int n), v5, v6, v7] ∧ H' = H ∧
          ∀ q, q < m → dist m (ws m n) q < i → ∃ k, g c q = some k ∧ kp m rule k n q = true) ⟨none, none, none, rfl, rfl, fun q _ z => by omega⟩ ?_ ?_
      · rintro i σ H' hi ⟨v5, v6, v7, rfl, rfl, hpre⟩
        have hi' : i < m := by omega
        have ho := off_lt hw hi'
        have e0 : (0 : Int) + (i : Int) = (i : Int) := by omega
        have hat2 := layV_at (c := c) (p := off m (ws m n) i) (by rw [hlen]; exact ho)
        rw [e0]
        refine ⟨_, rfl, _, rfl, _, _, rfl, rfl, _, rfl, _, _, rfl, rfl, hmi, ?_⟩
        show gName 6 (V.int ((n + (i : Int)) % (m : Int))) _ _ _
        rw [off_int hm n hi']
        cases e2 : g c (off m (ws m n) i) with
        | none =>
          rw [e2] at hat2
          refine ⟨_, rfl, _, rfl, a, _, _, _, rfl, rfl, SqL.of ha, hat2, _, rfl, _, rfl, iteT ?_⟩
          refine k false ⟨fun z => (by cases z), fun z => ?_⟩
          obtain ⟨kk, z1, _⟩ := z n e _ ho (by rw [dist_off hw hi']; exact hi)
          rw [e2] at z1; cases z1
        | some sd =>
          rw [e2] at hat2
          refine ⟨_, rfl, _, rfl, a, _, _, _, rfl, rfl, SqL.of ha, hat2, _, rfl, _, rfl, iteF ?_⟩
          refine ⟨_, rfl, _, rfl, _, rfl, _, rfl, _, rfl, _, _, _, _, _, rfl, ho, _, rfl, iteNB (fun hb => ?_) (fun hb => ?_)⟩
          · refine k false ⟨fun z => (by cases z), fun z => ?_⟩
            obtain ⟨kk, z1, z2⟩ := z n e _ ho (by rw [dist_off hw hi']; exact hi)
            rw [e2] at z1; cases z1
            rw [hb] at z2; cases z2
          · refine ⟨_, _, _, rfl, rfl, fun q hq hqd => ?_⟩
            by_cases z : dist m (ws m n) q = i
            · have eq : q = off m (ws m n) i := by rw [← z, off_dist hw hq]
              rw [eq]
              exact ⟨sd, e2, hb⟩
            · exact hpre q hq (by omega)
      · rintro σ H' ⟨v5, v6, v7, rfl, rfl, hpre⟩
        refine k true ⟨fun _ n' hn' q hq hqd => ?_, fun _ => rfl⟩
        rw [e] at hn'; cases hn'
        exact hpre q hq hqd
def spRight : Sp := fun vs H Q _ => ∃ (a : Addr) (m : Nat) (rule : Int) (c : Lay), vs = [.int m, .int rule, .ref a] ∧ H a = some (.lst (layV c)) ∧ c.length = m ∧ 0 ≤ rule ∧ rule ≤ 2 ∧ 2 ≤ m ∧ m ≤ 200 ∧ ∀ (H' : Hp) (b : Bool), Same H H' → (b = true ↔ Right m rule c) → Q (.bl b) H'
theorem layV_non (c : Lay) : inV .non (layV c) = decide (0 < c.count none) := by
  induction c with
  | nil => rfl
  | cons v c ih =>
    show (eqV (cV v) .non || inV .non (layV c)) = _
    rw [ih]
    cases v with
    | none => simp [cV, eqV]
    | some n => simp [cV, eqV]
theorem scRight : FnScope ["many", "rule", "layout"] ["many", "rule", "layout"] (defScope sRight) := ⟨rfl, rfl, rfl, by decide +kernel, rfl, by decide +kernel, by decide +kernel⟩
theorem ok_right {f : Addr} {fd : FuncData} (F : Fun K "right" "right" sRight f fd) (Lr : mg "range" = none) (La : mg "all" = none) (GO : FnG P w K mg base "each_once" ["layout"] 1 spOnce) (GC : FnG P w K mg base "came_rightly" ["many", "rule", "layout", "at"] 3 spCame) : FnOk P w K mg base CX0 4 f fd ["many", "rule", "layout"] spRight := by
  refine F.ok scRight (fun vs H Q E h => ?_) (fun cdv A outer s H vs Q E hr h => ?_)
  · obtain ⟨a, m, rule, c, rfl, _⟩ := h
    rfl
  · obtain ⟨a, m, rule, c, rfl, ha, hlen, r0, r2, hm2, h200, k⟩ := h
    have hm : 0 < m := by omega
    have hr1 : Room 1 _ := hr.mono (by decide)
    have hr3 : Room 3 _ := hr.mono (by decide)
    have szl : sizeLine ≥ 1000 := by decide
    have hfn := free_nm c
    rw [hlen] at hfn
    refine ⟨_, (pss_cons (ps_if (PW.pt (pw_or (pt_not (pt_val (pe_fn GO hr1 (pa_cons (pv 2) pa_nil)))) (pw_or1 (pt_cmpR op_notIn_seq pe_non (pv 2) (by with_unfolding_all rfl))))) (pss_one (ps_ret pe_bl)) pss_nil)
      (pss_one (ps_ret (pe_callB (call_all (by rfl)) (by rfl) La PyProof.Rows.boot_all (pa_cons
        (pe_compG (CompOk.taken (cl := [("rule", s.heap.objs.size + 2), ("many", s.heap.objs.size + 1), ("layout", s.heap.objs.size + 3)]) (ix := [1, 0, 2]) (by rfl) (by decide +kernel) (by rfl) (by decide +kernel) (by rfl) (by simp; exact ⟨rfl, rfl, rfl⟩) (by rfl) (by rfl)
            (fun k j y h1 h2 => match k, h1, h2 with
              | 0, h1, h2 => by cases h1; cases h2; exact ⟨rfl, .inr (.inl rfl), rfl, rfl⟩
              | 1, h1, h2 => by cases h1; cases h2; exact ⟨rfl, .inr (.inl rfl), rfl, rfl⟩
              | 2, h1, h2 => by cases h1; cases h2; exact ⟨rfl, .inr (.inl rfl), rfl, rfl⟩
              | k + 3, h1, h2 => by simp at h1) (by show (["at", "rule", "many", "layout"] : List Str).Nodup; decide +kernel)) (by rfl)
          (pi_range1 (by rfl) Lr (pa_cons (pv 0) pa_nil)) (fun fp Cc s₀ H₀ => pf_nil)
          (fun fp Cc s₀ H₀ => pe_fn GC hr3 (pa_cons (pv 2) (pa_cons (pv 1) (pa_cons (pv 3) (pa_cons (pv 0) pa_nil)))))) pa_nil))))), ?_⟩
    refine ⟨_, rfl, a, c, rfl, ha, by omega, fun H1 b1 s1 hb1 => ⟨_, rfl, iteNB (fun hb => iteT ?_) (fun hb => ?_)⟩⟩
    · refine k H1 false s1 ⟨fun z => (by cases z), fun R => ?_⟩
      rw [hb1.mpr (nm_nodup R.inj)] at hb; cases hb
    have hnd := hb1.mp hb
    have ha1 := s1 _ _ ha
    refine ⟨_, rfl, a, _, rfl, .inl (SqL.of ha1), rfl, layV_flat c, _, rfl, ?_⟩
    rw [show (if true = true then !inV V.non (layV c) else inV V.non (layV c)) = !decide (0 < c.count none) from congrArg (fun b => !b) (layV_non c)]
    refine iteNB (fun hb2 => ?_) (fun hb2 => ?_)
    · have := of_decide_eq_false hb2
      exact k H1 false s1 ⟨fun z => (by cases z), fun R => absurd (by omega) (right_free R)⟩
    have hct := of_decide_eq_true hb2
    -- each stall
    refine ⟨_, rfl, (m : Int), rfl, by omega, by omega, fun D hD => ?_⟩
    have sD : Same H1 (upd H1 D (.lst [])) := same_upd hD
    refine ⟨fun i n H2 => i ≤ m ∧ n = m - i ∧ Same H1 H2 ∧ ∃ bs : List Bool, bs.length = i ∧ H2 D = some (.lst (bs.map V.bl)) ∧ (bs.all id = true ↔ ∀ p, p < i → ∀ n, g c p = some n → ∀ q, q < m → dist m (ws m n) q < dist m (ws m n) p → ∃ k, g c q = some k ∧ kp m rule k n q = true),
      ⟨m, Nat.zero_le _, rfl, sD, [], rfl, upd_same, fun _ p z => (by omega), fun _ => rfl⟩, ?_⟩
    rintro i n H2 ⟨hi, rfl, s2, bs, hbl, hD2, hbs⟩
    by_cases hlt : i < m
    · refine .inr ⟨by show i < (m : Int).toNat; omega, fun H' => Same H1 H' ∧ ∃ bs : List Bool, bs.length = i + 1 ∧ H' D = some (.lst (bs.map V.bl)) ∧ (bs.all id = true ↔ ∀ p, p < i + 1 → ∀ n, g c p = some n → ∀ q, q < m → dist m (ws m n) q < dist m (ws m n) p → ∃ k, g c q = some k ∧ kp m rule k n q = true),
        fun H' h' => ⟨m - (i + 1), by omega, hlt, rfl, h'.1, h'.2⟩, fun v H3 hv => ?_⟩
      obtain ⟨rfl, rfl⟩ := hv
      intro fp Cc s₀ H₀
      have e0 : (0 : Int) + (i : Int) = (i : Int) := by omega
      rw [e0]
      refine tAll_on ?_
      refine ⟨_, rfl, _, rfl, _, rfl, _, rfl, a, m, rule, c, i, rfl, s2 _ _ ha1, hlen, hlt, h200, fun b hb3 => ?_⟩
      refine ⟨_, hD2, by rw [List.length_map]; omega, fun b' o eb => ?_, bs ++ [b], by rw [List.length_append, hbl]; rfl, ?_, ?_⟩
      · rw [upd_ne (ne_of_none eb hD)]
        exact s2 b' o eb
      · rw [upd_same, List.map_append]
        rfl
      · rw [List.all_append, Bool.and_eq_true, hbs]
        constructor
        · rintro ⟨z1, z2⟩ p hp
          by_cases hpi : p = i
          · subst hpi
            exact hb3.mp (by simpa using z2)
          · exact z1 p (by omega)
        · intro z
          refine ⟨fun p hp => z p (by omega), ?_⟩
          have := hb3.mpr (z i (by omega))
          simp [this]
    · have him : i = m := by omega
      subst him
      refine .inl ⟨by show (i : Int).toNat ≤ i; omega, ?_⟩
      refine ⟨D, bs, rfl, SqL.of hD2, ?_⟩
      refine k H2 _ (s1.trans s2) ?_
      rw [hbs]
      exact ⟨fun z => right_of hlen (by omega) hnd z, fun R p _ n hn q hq hd => R.pas' hn hq hd⟩

def spLaid (C CL : Addr) : Sp := fun vs H Q E => ∃ (a : Addr) (m : Nat) (rule : Int) (c : Lay), vs = [.int m, .int rule, .ref a] ∧ H a = some (.lst (layV c)) ∧ c.length = m ∧ 0 ≤ rule ∧ rule ≤ 2 ∧ 2 ≤ m ∧ m ≤ 200 ∧
  ((¬ Right m rule c ∧ ∀ H', Same H H' → E (.ref CL) none H') ∨ (Right m rule c ∧ ∀ (y ca : Addr) (H' : Hp), H y = none → H ca = none → Same H H' → YardAt C H' y ca m rule c → Q (.ref y) H'))
theorem flds_eq (m : Nat) (rule : Int) (ca : Addr) : flds m rule ca = [(("many" : Str), V.int (m : Int)), (("rule" : Str), V.int rule), (("cells" : Str), V.ref ca)] := by
  unfold flds
  rw [show putF "many" (V.int (m : Int)) [] = [(("many" : Str), V.int (m : Int))] from rfl]
  simp only [putF, if_neg s_mr, if_neg s_mc, if_neg s_rc]
theorem flds_again (m : Nat) (rule : Int) (ca l : Addr) : putF "cells" (.ref l) (flds m rule ca) = flds m rule l := by
  rw [flds_eq, flds_eq]
  simp only [putF, if_neg s_mc, if_neg s_rc, if_true]
theorem flds_len (m : Nat) (rule : Int) (ca : Addr) : (flds m rule ca).length = 3 := by
  rw [flds_eq]
  rfl
theorem scLaid : FnScope ["many", "rule", "layout", "yard"] ["many", "rule", "layout"] (defScope sLaid) := ⟨rfl, rfl, rfl, by decide +kernel, rfl, by decide +kernel, by decide +kernel⟩
theorem ok_laid {f C CL CY fI : Addr} {fd fdI : FuncData} (F : Fun K "laid" "laid" sLaid f fd) (T : Txt K mg C) (M : Mk K C fI) (bI : Binds K fdI ["self", "many", "rule"] []) (mgY : mg "Yard" = some (.ref C)) (OL : ExcT K mg base "NotLaid" CL CY)
    (GI : FnOk P w K mg base CX0 2 fI fdI ["self", "many", "rule"] (spInit C)) (GR : FnG P w K mg base "right" ["many", "rule", "layout"] 4 spRight) : FnOk P w K mg base (CX1 P w) 5 f fd ["many", "rule", "layout"] (spLaid C CL) := by
  refine F.okX scLaid (fun vs H Q E h => ?_) (fun cdv A outer s H vs Q E hr h => ?_)
  · obtain ⟨a, m, rule, c, rfl, _⟩ := h
    rfl
  · obtain ⟨a, m, rule, c, rfl, ha, hlen, r0, r2, hm2, h200, hcase⟩ := h
    refine ⟨_, (pss_cons (ps_if (pt_not (pt_val (pe_fn GR hr (pa_cons (pv 0) (pa_cons (pv 1) (pa_cons (pv 2) pa_nil)))))) (pss_one (ps_raise raisesX rfl rfl OL.own PySem.F.excBase_ValueError (pa_cons pe_str pa_nil))) pss_nil)
      (pss_cons (ps_set (i := 3) scLaid.nd rfl (Or.inl rfl) (pe_make M GI (hr.mono (by decide)) rfl mgY bI .nil pass0 (pa_cons (pv 0) (pa_cons (pv 1) pa_nil))))
      (pss_cons (ps_fld (pv 3) (pe_callTy call_list_of (by rfl) T.list PyProof.Rows.boot_list (pa_cons (pv 2) pa_nil)) rfl)
      (pss_one (ps_ret (pv 3)))))), ?_⟩
    refine ⟨_, rfl, _, rfl, _, rfl, a, m, rule, c, rfl, ha, hlen, r0, r2, hm2, h200, fun H1 b s1 hb => ⟨_, rfl, iteNB (fun z => ?_) (fun z => ?_)⟩⟩
    · rcases hcase with ⟨_, k⟩ | ⟨hR, _⟩
      · exact ⟨(by show 1 ≤ 100; decide), k H1 s1⟩
      · rw [hb.mpr hR] at z; cases z
    have hR := hb.mp z
    rcases hcase with ⟨n, _⟩ | ⟨_, k⟩
    · exact absurd hR n
    refine ⟨_, rfl, _, rfl, fun y dx ny ndx nex => ⟨y, dx, m, rule, rfl, hm2, h200, upd_same, fun ca H2 hca Y2 kp2 => ⟨rfl, ?_⟩⟩⟩
    have s0 : Same H1 (upd (upd H1 dx (.own y)) y (.ins C dx [])) := fun b o e => by
      rw [upd_ne (ne_of_none e ny), upd_ne (ne_of_none e ndx)]
      exact e
    have s2 : Same H1 H2 := fun b o e => kp2 b o (s0 b o e) (ne_of_none e ny)
    refine ⟨_, rfl, a, _, rfl, .inl (SqL.of (s2 _ _ (s1 _ _ ha))), fun l hl => ?_⟩
    have s3 := same_upd (o := .lst (layV c)) hl
    obtain ⟨d2, o2⟩ := Y2.ob
    have nyl : y ≠ l := ne_of_none o2 hl
    refine ⟨_, rfl, y, C, d2, _, rfl, s3 _ _ o2, T.cl, T.nC, ?_, ?_⟩
    · rw [flds_len]; decide
    refine ⟨_, rfl, k y l _ (s1.free ny) ((s1.trans s2).free hl) (fun b o e => ?_) ⟨⟨d2, by rw [upd_same, flds_again]⟩, by rw [upd_ne nyl.symm, upd_same], hlen, h200⟩⟩
    rw [upd_ne (ne_of_none e (s1.free ny))]
    exact s3 b o (s2 b o (s1 b o e))

structure NTxt (K : PySem.W.Frag) (mg : Str → Option Value) (aW : Addr) : Prop where
  words : mg "WORDS" = some (.ref aW)
  tup : ∀ H : Hp, SqT K H aW ([("first" : Str), ("name" : Str), ("far" : Str)].map V.str)
  figs : ∃ t, mg "FIGURES" = some (.str ("0123456789" : Str) t)
  most : ∃ t, mg "MOST_FIGURES" = some (.int 30 t)
  nocart : ∃ t, mg "NO_CART" = some (.str ("-" : Str) t)
  len : mg "len" = none
  all : mg "all" = none
  int : mg "int" = none
  str : mg "str" = none
  enum : mg "enumerate" = none
def spIsN : Sp := fun vs H Q _ => ∃ p : Str, vs = [.str p] ∧ p.cps.all (· < 128) = true ∧ p.length ≤ 10000 ∧ ∀ H', Same H H' → Q (.bl (isNum p)) H'
theorem scIsN : FnScope ["part"] ["part"] (defScope sIsN) := ⟨rfl, rfl, rfl, by decide +kernel, rfl, by decide +kernel, by decide +kernel⟩
theorem ok_isn {f aW : Addr} {fd : FuncData} (F : Fun K "is_number" "is_number" sIsN f fd) (N : NTxt K mg aW) : FnOk P w K mg base CX0 1 f fd ["part"] spIsN := by
  refine F.ok scIsN (fun vs H Q E h => ?_) (fun cdv A outer s H vs Q E hr h => ?_)
  · obtain ⟨p, rfl, _⟩ := h
    rfl
  · obtain ⟨p, rfl, ha, hl, k⟩ := h
    obtain ⟨tf, hf⟩ := N.figs
    obtain ⟨tm, hm⟩ := N.most
    have szl : sizeLine ≥ 100000 := by decide
    refine ⟨_, (pss_cons (ps_if (PW.pt (pw_or (pt_cmpR op_eq (pv 0) pe_str (nomark _)) (pw_or1 (pt_cmpR op_gt (pe_callB call_len_str (by rfl) N.len PySem.boot_len (pa_cons (pv 0) pa_nil)) (pe_glob (v := .int 30) rfl hm ⟨_, rfl⟩) (nomark _))))) (pss_one (ps_ret pe_bl)) pss_nil)
      (pss_mid (ps_if (PW.pt (pw_and (pt_cmpR op_eq (pe_ix ix_str (pv 0) pe_int (fun _ _ => rfl)) pe_str (nomark _)) (pw_and1 (pt_cmpR op_ne (pv 0) pe_str (nomark _))))) (pss_one (ps_ret pe_bl)) pss_nil)
      (pss_one (ps_ret (pe_callB (call_all (by rfl)) (by rfl) N.all PyProof.Rows.boot_all (pa_cons
        (pe_compG (CompOk.closed (by decide +kernel) (by rfl) (by decide +kernel) (by rfl)) (by rfl) (pi_str (pv 0)) (fun fp Cc s₀ H₀ => pf_nil)
          (fun fp Cc s₀ H₀ => pe_cmpR op_in_str (pv 0) (pe_glob (v := .str ("0123456789" : Str)) rfl hf ⟨_, rfl⟩) (by with_unfolding_all rfl))) pa_nil)))))), ?_⟩
    have no : isNum p = false → Q (.bl false) H := fun z => by
      have := k H (Same.refl H)
      rwa [z] at this
    refine ⟨_, rfl, rfl, _, rfl, iteStr (fun z => iteT (no ?_)) (fun z => ?_)⟩
    · rw [z]
      decide +kernel
    have hne : p.cps.toList ≠ [] := fun e => z (Str.ext' (Array.toList_inj.mp (by rw [e]; rfl)))
    have hll : p.cps.toList.length = p.length := Array.length_toList
    have hl0 : p.length ≠ 0 := fun e => hne (List.length_eq_zero_iff.mp (hll.trans e))
    refine ⟨_, rfl, p, rfl, by omega, _, _, rfl, rfl, _, rfl, iteD (fun z2 => no ?_) (fun z2 => ?_)⟩
    · unfold isNum
      rw [decide_eq_false (fun q => absurd q.2.1 (by omega)), Bool.false_and]
    have hl30 : p.length ≤ 30 := by omega
    obtain ⟨c0, r0, ec⟩ : ∃ c0 r0, p.cps.toList = c0 :: r0 := by
      cases e : p.cps.toList with
      | nil => exact absurd e hne
      | cons a b => exact ⟨a, b, rfl⟩
    refine ⟨fun σ H' => σ = [some (.str p)] ∧ H' = H ∧ ¬ (p.cps.toList.head? = some 48 ∧ p ≠ ("0" : Str)), ?_, ?_⟩
    · refine ⟨_, rfl, p, 0, c0, rfl, rfl, by omega, atI_nat (xs := p.cps.toList) (j := 0) (by rw [ec]; rfl), rfl, _, rfl, iteStr (fun z3 => ?_) (fun z3 => iteF ⟨rfl, rfl, fun q => z3 ?_⟩)⟩
      · refine ⟨_, rfl, rfl, _, rfl, iteNStr (fun z4 => no ?_) (fun z4 => ⟨rfl, rfl, fun q => q.2 z4⟩)⟩
        unfold isNum
        have e48 : c0 = 48 := by
          have e1 : ((("0" : Str))) = ⟨#[48]⟩ := by decide +kernel
          rw [e1] at z3
          simpa using z3
        rw [decide_eq_false (fun q => q.2.2 ⟨by rw [ec, e48]; rfl, z4⟩), Bool.false_and]
      · have e48 : c0 = 48 := by
          have := q.1
          rw [ec] at this
          exact Option.some.inj this
        rw [e48]
        decide +kernel
    rintro σ H' ⟨rfl, rfl, hok⟩
    have tail : isNum p = p.cps.toList.all fun c => decide (48 ≤ c ∧ c ≤ 57) := by
      unfold isNum
      rw [decide_eq_true ⟨hl0, hl30, hok⟩, Bool.true_and]
    have hsz : p.cps.size = p.length := rfl
    refine ⟨_, rfl, p, rfl, ha, fun D hD => ?_⟩
    have sD := same_upd (o := .lst []) hD
    refine ⟨fun i n H2 => i ≤ p.length ∧ n = p.length - i ∧ Same H' H2 ∧ H2 D = some (.lst (((p.cps.toList.take i).map fun c => decide (48 ≤ c ∧ c ≤ 57)).map V.bl)), ⟨p.length, Nat.zero_le _, rfl, sD, upd_same⟩, ?_⟩
    rintro i n H2 ⟨hi, rfl, s2, hD2⟩
    by_cases hlt : i < p.length
    · refine .inr ⟨hlt, fun H3 => Same H' H3 ∧ H3 D = some (.lst (((p.cps.toList.take (i + 1)).map fun c => decide (48 ≤ c ∧ c ≤ 57)).map V.bl)), fun H3 h3 => ⟨p.length - (i + 1), by omega, hlt, rfl, h3.1, h3.2⟩, fun v H3 hv => ?_⟩
      obtain ⟨rfl, c, hc, rfl⟩ := hv
      intro fp Cc s₀ H₀
      refine tAll_on ?_
      refine ⟨_, rfl, _, _, rfl, rfl, ?_⟩
      rw [fig_in]
      refine ⟨_, hD2, by rw [List.length_map, List.length_map, List.length_take]; omega, fun b o eb => ?_, ?_⟩
      · rw [upd_ne (ne_of_none eb hD)]
        exact s2 b o eb
      · have et : p.cps.toList[i]? = some c := by rw [Array.getElem?_toList]; exact hc
        rw [upd_same, List.take_add_one, et, List.map_append, List.map_append]
        rfl
    · have him : i = p.length := by omega
      subst him
      refine .inl ⟨Nat.le_refl _, ?_⟩
      refine ⟨D, _, rfl, SqL.of hD2, ?_⟩
      have := k H2 s2
      rw [tail] at this
      rw [List.take_of_length_le (by omega), List.all_map]
      exact this
def spReadN (CR : Addr) : Sp := fun vs H Q E => ∃ p : Str, vs = [.str p] ∧ p.cps.all (· < 128) = true ∧ p.length ≤ 10000 ∧
  ((isNum p = false ∧ ∀ H', Same H H' → E (.ref CR) none H') ∨ (isNum p = true ∧ ∃ n, PySem.intText? p = some n ∧ ∀ H', Same H H' → Q (.int n) H'))
theorem scReadN : FnScope ["part"] ["part"] (defScope sReadN) := ⟨rfl, rfl, rfl, by decide +kernel, rfl, by decide +kernel, by decide +kernel⟩
theorem ok_readn {f aW CR CY : Addr} {fd : FuncData} (F : Fun K "read_number" "read_number" sReadN f fd) (N : NTxt K mg aW) (OR : ExcT K mg base "NotRead" CR CY) (GIs : FnG P w K mg base "is_number" ["part"] 1 spIsN) : FnOk P w K mg base (CX1 P w) 2 f fd ["part"] (spReadN CR) := by
  refine F.okX scReadN (fun vs H Q E h => ?_) (fun cdv A outer s H vs Q E hr h => ?_)
  · obtain ⟨p, rfl, _⟩ := h
    rfl
  · obtain ⟨p, rfl, ha, hl, hcase⟩ := h
    refine ⟨_, (pss_cons (ps_if (pt_not (pt_val (pe_fn GIs hr (pa_cons (pv 0) pa_nil)))) (pss_one (ps_raise raisesX rfl rfl OR.own PySem.F.excBase_ValueError (pa_cons pe_str pa_nil))) pss_nil)
      (pss_one (ps_ret (pe_callTy call_int_text (by rfl) N.int PyProof.Rows.boot_int (pa_cons (pv 0) pa_nil))))), ?_⟩
    refine ⟨_, rfl, p, rfl, ha, hl, fun H1 s1 => ⟨_, rfl, iteNB (fun z => ?_) (fun z => ?_)⟩⟩
    · rcases hcase with ⟨_, k⟩ | ⟨y, _⟩
      · exact ⟨(by show 1 ≤ 100; decide), k H1 s1⟩
      · rw [y] at z; cases z
    · rcases hcase with ⟨y, _⟩ | ⟨_, n, hn, k⟩
      · rw [y] at z; cases z
      · have h30 : p.length ≤ 640 := by
          unfold isNum at z
          rw [Bool.and_eq_true] at z
          have := (of_decide_eq_true z.1).2.1
          omega
        exact ⟨_, rfl, p, n, rfl, hn, h30, k H1 s1⟩
def spReadC (CR : Addr) : Sp := fun vs H Q E => ∃ p : Str, vs = [.str p] ∧ p.cps.all (· < 128) = true ∧ p.length ≤ 10000 ∧
  ((p = ("-" : Str) ∧ ∀ H', Same H H' → Q .non H') ∨ (p ≠ ("-" : Str) ∧ isNum p = false ∧ ∀ H', Same H H' → E (.ref CR) none H') ∨ (p ≠ ("-" : Str) ∧ isNum p = true ∧ ∃ n, PySem.intText? p = some n ∧ ∀ H', Same H H' → Q (.int n) H'))
theorem scReadC : FnScope ["part"] ["part"] (defScope sReadC) := ⟨rfl, rfl, rfl, by decide +kernel, rfl, by decide +kernel, by decide +kernel⟩
theorem ok_readc {f aW CR : Addr} {fd : FuncData} (F : Fun K "read_cell" "read_cell" sReadC f fd) (N : NTxt K mg aW) (GRn : FnX P w K mg base "read_number" ["part"] 2 (spReadN CR)) : FnOk P w K mg base (CX1 P w) 3 f fd ["part"] (spReadC CR) := by
  refine F.okX scReadC (fun vs H Q E h => ?_) (fun cdv A outer s H vs Q E hr h => ?_)
  · obtain ⟨p, rfl, _⟩ := h
    rfl
  · obtain ⟨p, rfl, ha, hl, hcase⟩ := h
    obtain ⟨tn, hn⟩ := N.nocart
    refine ⟨_, (pss_one (ps_ret (pe_ifExp (pt_cmpR op_eq (pv 0) (pe_glob (v := .str ("-" : Str)) rfl hn ⟨_, rfl⟩) (nomark _)) pe_non (pe_fnX GRn hr passX (pa_cons (pv 0) pa_nil))))), ?_⟩
    refine ⟨_, rfl, rfl, _, rfl, iteStr (fun z => ?_) (fun z => ?_)⟩
    · rcases hcase with ⟨_, k⟩ | ⟨y, _⟩ | ⟨y, _⟩
      · exact k H (Same.refl H)
      · exact absurd z y
      · exact absurd z y
    · refine ⟨_, rfl, p, rfl, ha, hl, ?_⟩
      rcases hcase with ⟨y, _⟩ | ⟨_, h1, k⟩ | ⟨_, h1, n, h2, k⟩
      · exact absurd y z
      · exact .inl ⟨h1, k⟩
      · exact .inr ⟨h1, n, h2, k⟩
def ruleAt (p : Str) : Option Nat := if p = ("first:" : Str) then some 0 else if p = ("name:" : Str) then some 1 else if p = ("far:" : Str) then some 2 else none
def spReadR0 (CR : Addr) : Sp := fun vs H Q E => ∃ p : Str, vs = [.str p] ∧
  ((ruleAt p = none ∧ ∀ H', Same H H' → E (.ref CR) none H') ∨ (∃ r : Nat, ruleAt p = some r ∧ ∀ H', Same H H' → Q (.int r) H'))
def wordsL : List Str := [("first" : Str), ("name" : Str), ("far" : Str)]
theorem ruleAt_eq (p : Str) : ruleAt p = ((List.range 3).find? fun i => decide (p = (wordsL.getD i ("" : Str)) ++ (":" : Str))) := by
  have e0 : ((("first:" : Str))) = ("first" : Str) ++ (":" : Str) := by decide +kernel
  have e1 : ((("name:" : Str))) = ("name" : Str) ++ (":" : Str) := by decide +kernel
  have e2 : ((("far:" : Str))) = ("far" : Str) ++ (":" : Str) := by decide +kernel
  unfold ruleAt
  rw [e0, e1, e2]
  show _ = ([0, 1, 2].find? fun i => decide (p = (wordsL.getD i ("" : Str)) ++ (":" : Str)))
  simp only [List.find?_cons, List.find?_nil]
  show _ = (match decide (p = ("first" : Str) ++ (":" : Str)) with
    | true => some 0
    | false => match decide (p = ("name" : Str) ++ (":" : Str)) with
      | true => some 1
      | false => match decide (p = ("far" : Str) ++ (":" : Str)) with
        | true => some 2
        | false => none)
  by_cases h0 : p = ("first" : Str) ++ (":" : Str)
  · rw [if_pos h0, decide_eq_true h0]
  rw [if_neg h0, decide_eq_false h0]
  by_cases h1 : p = ("name" : Str) ++ (":" : Str)
  · rw [if_pos h1, decide_eq_true h1]
  rw [if_neg h1, decide_eq_false h1]
  by_cases h2 : p = ("far" : Str) ++ (":" : Str)
  · rw [if_pos h2, decide_eq_true h2]
  rw [if_neg h2, decide_eq_false h2]
theorem find_least {n r : Nat} {q : Nat → Bool} (h : (List.range n).find? q = some r) : ∀ i, i < r → ¬ q i = true := by
  intro i hi hq
  rw [List.find?_eq_some_iff_append] at h
  obtain ⟨hr, as, bs, e, hn⟩ := h
  have hl : r < n := by
    have : r ∈ List.range n := by rw [e]; simp
    exact List.mem_range.mp this
  have hlen : as.length = r := by
    have h1 : (List.range n)[as.length]? = some r := by rw [e]; simp
    rw [List.getElem?_range (by
      have h2 := congrArg List.length e
      simp at h2
      omega)] at h1
    exact Option.some.inj h1
  have : i ∈ as := by
    have h1 : (List.range n)[i]? = some i := List.getElem?_range (by omega)
    rw [e, List.getElem?_append_left (by omega)] at h1
    exact List.mem_of_getElem? h1
  have := hn i this
  rw [hq] at this
  cases this
theorem scReadR : FnScope ["part", "rule", "word"] ["part"] (defScope sReadR) := ⟨rfl, rfl, rfl, by decide +kernel, rfl, by decide +kernel, by decide +kernel⟩
theorem ok_readr {f aW CR CY : Addr} {fd : FuncData} (F : Fun K "read_rule" "read_rule" sReadR f fd) (N : NTxt K mg aW) (OR : ExcT K mg base "NotRead" CR CY) : FnOk P w K mg base (CX1 P w) 1 f fd ["part"] (spReadR0 CR) := by
  refine F.okX scReadR (fun vs H Q E h => ?_) (fun cdv A outer s H vs Q E hr h => ?_)
  · obtain ⟨p, rfl, _⟩ := h
    rfl
  · obtain ⟨p, rfl, hcase⟩ := h
    have szl : sizeLine ≥ 100000 := by decide
    refine ⟨_, (pss_cons (ps_for PassesOwn.leaving rfl (pi_enumT rfl N.enum (pa_cons (pe_glob (v := .ref aW) rfl N.words rfl) pa_nil)) (pg_tup rfl (pgs_cons (pg_name (i := 1) scReadR.nd rfl (Or.inl rfl)) (pgs_cons (pg_name (i := 2) scReadR.nd rfl (Or.inl rfl)) pgs_nil)))
        (pss_one (ps_if (pt_cmpR op_eq (pv 0) (pe_fstr (pj_cons (pe_fmtS (pv 2)) (pj_cons pe_str pj_nil))) (nomark _)) (pss_one (ps_ret (pv 1))) pss_nil)))
      (pss_one (ps_raise raisesX rfl rfl OR.own PySem.F.excBase_ValueError (pa_cons pe_str pa_nil)))), ?_⟩
    have hfirst : ∀ i r, i ≤ 3 → (∀ j, j < i → p ≠ (wordsL.getD j ("" : Str)) ++ (":" : Str)) → ruleAt p = some r → i ≤ r := fun i r _ hn hr => by
      rw [ruleAt_eq] at hr
      have hp := List.find?_some hr
      rcases Nat.lt_or_ge r i with z | z
      · exact absurd (of_decide_eq_true hp) (hn r z)
      · exact z
    refine ⟨aW, rfl, ⟨_, N.tup H⟩, for_enumT (K := K) (a := aW) (xs := wordsL.map V.str) (fun i σ H' => ∃ (v1 v2 : Option V), σ = [some (.str p), v1, v2] ∧ Same H H' ∧ ∀ j, j < i → p ≠ (wordsL.getD j ("" : Str)) ++ (":" : Str))
      ⟨none, none, rfl, Same.refl H, fun j z => absurd z (Nat.not_lt_zero j)⟩ (fun i σ H' _ _ => N.tup H') ?_ ?_⟩
    · rintro i x σ H' t hi ⟨v1, v2, rfl, s1, hn⟩ ht
      obtain ⟨wd, hwd, rfl⟩ : ∃ wd, wordsL[i]? = some wd ∧ x = V.str wd := by
        rw [List.getElem?_map] at hi
        cases e : wordsL[i]? with
        | none => rw [e] at hi; cases hi
        | some wd => rw [e] at hi; exact ⟨wd, rfl, (Option.some.inj hi).symm⟩
      have s2 := s1.trans (same_upd (o := .tup [.int (i : Nat), .str wd]) ht)
      have hil : i < 3 := (List.getElem?_eq_some_iff.mp hwd).1
      have eg : wordsL.getD i ("" : Str) = wd := by rw [List.getD_eq_getElem?_getD, hwd]; rfl
      have hwl : wd.length ≤ 5 := by
        have : ∀ x ∈ wordsL, x.length ≤ 5 := by decide +kernel
        exact this wd (List.mem_of_getElem? hwd)
      refine ⟨t, _, rfl, SqT.of upd_same, rfl, _, _, rfl, _, _, rfl, rfl, ?_⟩
      have eE : (Str.empty ++ wd) = wd := Str.empty_append _
      have b2 : ((":" : Str)).length = 1 := by decide +kernel
      refine ⟨_, rfl, _, rfl, wd, rfl, by omega, _, rfl, by rw [eE]; omega, _, rfl, by rw [eE, Str.length_append, b2]; omega, by rw [eE, Str.length_append, b2]; omega, rfl, _, rfl, ?_⟩
      rw [eE]
      refine iteStr (fun z => ?_) (fun z => ?_)
      · have hz : p = (wordsL.getD i ("" : Str)) ++ (":" : Str) := by rw [eg]; exact z
        rcases hcase with ⟨hno, _⟩ | ⟨r, hr, k⟩
        · exfalso
          rw [ruleAt_eq, List.find?_eq_none] at hno
          exact hno i (List.mem_range.mpr hil) (decide_eq_true hz)
        · have h1 := hfirst i r (by omega) hn hr
          have h2 : r = i := by
            rw [ruleAt_eq] at hr
            rcases Nat.lt_or_ge i r with q | q
            · exfalso
              have := find_least hr i q
              exact this (decide_eq_true hz)
            · omega
          subst h2
          exact ⟨_, rfl, k _ s2⟩
      · refine ⟨_, _, rfl, s2, fun j hj => ?_⟩
        by_cases e : j = i
        · subst e; rw [eg]; exact z
        · exact hn j (by omega)
    · rintro σ H' ⟨v1, v2, rfl, s1, hn⟩
      rcases hcase with ⟨_, k⟩ | ⟨r, hr, _⟩
      · exact ⟨(by show 1 ≤ 100; decide), k H' s1⟩
      · exfalso
        have := hfirst 3 r (Nat.le_refl _) hn hr
        rw [ruleAt_eq] at hr
        have hm := List.mem_range.mp (List.mem_of_find?_eq_some hr)
        omega
theorem scRead : FnScope ["text", "parts", "many", "rule", "layout"] ["text"] (defScope sRead) := ⟨rfl, rfl, rfl, by decide +kernel, rfl, by decide +kernel, by decide +kernel⟩
def rdOk : List Str → Bool
  | p0 :: p1 :: r => isNum p0 && (ruleAt p1).isSome && r.all okCell && decide (2 ≤ numN p0 ∧ numN p0 ≤ 200 ∧ r.length = numN p0)
  | _ => false
def rdRule : List Str → Nat
  | _ :: p1 :: _ => (ruleAt p1).getD 0
  | _ => 0
def rdLay : List Str → Lay
  | _ :: _ :: r => r.map cellVal
  | _ => []
theorem ruleAt_le {p : Str} {r : Nat} (h : ruleAt p = some r) : r ≤ 2 := by
  unfold ruleAt at h
  split at h
  · cases h; decide
  · split at h
    · cases h; decide
    · split at h
      · cases h; decide
      · cases h
def spRead (C CR CL : Addr) : Sp := fun vs H Q E => ∃ t : Str, vs = [.str t] ∧ t.cps.all (· < 128) = true ∧ t.length ≤ 9000 ∧
  ((rdOk (Txt.split t (" " : Str)) = false ∧ ∀ H', Same H H' → E (.ref CR) none H') ∨
   (rdOk (Txt.split t (" " : Str)) = true ∧ ((¬ Right (rdLay (Txt.split t (" " : Str))).length (rdRule (Txt.split t (" " : Str))) (rdLay (Txt.split t (" " : Str))) ∧ ∀ H', Same H H' → E (.ref CL) none H') ∨
    (Right (rdLay (Txt.split t (" " : Str))).length (rdRule (Txt.split t (" " : Str))) (rdLay (Txt.split t (" " : Str))) ∧ ∀ (y ca : Addr) (H' : Hp), H y = none → H ca = none → Same H H' → YardAt C H' y ca (rdLay (Txt.split t (" " : Str))).length (rdRule (Txt.split t (" " : Str))) (rdLay (Txt.split t (" " : Str))) → Q (.ref y) H'))))
theorem ok_read {f C CR CY CL aW : Addr} {fd : FuncData} (F : Fun K "read" "read" sRead f fd) (N : NTxt K mg aW) (OR : ExcT K mg base "NotRead" CR CY) (GRn : FnX P w K mg base "read_number" ["part"] 2 (spReadN CR)) (GRr : FnX P w K mg base "read_rule" ["part"] 1 (spReadR0 CR)) (GRc : FnX P w K mg base "read_cell" ["part"] 3 (spReadC CR))
    (GSz : FnG P w K mg base "is_size" ["many"] 1 spSize) (GL : FnX P w K mg base "laid" ["many", "rule", "layout"] 5 (spLaid C CL)) : FnOk P w K mg base (CX1 P w) 6 f fd ["text"] (spRead C CR CL) := by
  refine F.okX scRead (fun vs H Q E h => ?_) (fun cdv A outer s H vs Q E hr h => ?_)
  · obtain ⟨t, rfl, _⟩ := h
    rfl
  · obtain ⟨t, rfl, hasc, hlen, hcase⟩ := h
    have szl : sizeLine ≥ 100000 := by decide
    have hr1 : Room 1 _ := hr.mono (by decide)
    have hr2 : Room 2 _ := hr.mono (by decide)
    have hr3 : Room 3 _ := hr.mono (by decide)
    refine ⟨_, (pss_cons (ps_set (i := 1) scRead.nd rfl (Or.inl rfl) (pe_bm PySem.F.plainAttrs_str PySem.F.slot_str_split PySem.F.type_str_split mt_split (pv 0) (pa_cons pe_str pa_nil)))
      (pss_cons (ps_if (pt_cmpR op_lt (pe_callB call_len_seq (by rfl) N.len PySem.boot_len (pa_cons (pv 1) pa_nil)) pe_int (nomark _)) (pss_one (ps_raise raisesX rfl rfl OR.own PySem.F.excBase_ValueError (pa_cons pe_str pa_nil))) pss_nil)
      (pss_cons (ps_set (i := 2) scRead.nd rfl (Or.inl rfl) (pe_fnX GRn hr2 passX (pa_cons (pe_ix ix_list (pv 1) pe_int (fun _ _ => rfl)) pa_nil)))
      (pss_cons (ps_set (i := 3) scRead.nd rfl (Or.inl rfl) (pe_fnX GRr hr1 passX (pa_cons (pe_ix ix_list (pv 1) pe_int (fun _ _ => rfl)) pa_nil)))
      (pss_cons (ps_setX (i := 4) (CompOk.closed (by decide +kernel) (by rfl) (by decide +kernel) (by rfl)) scRead.nd rfl (Or.inl rfl) (pi_list (pe_slice sl_list (pv 1) (po_some pe_int) po_none)) (fun fp Cc s₀ H₀ => pf_nil) (fun fp Cc s₀ H₀ => pe_fnX GRc hr3 passB (pa_cons (pv 0) pa_nil)))
      (pss_cons (ps_if (PW.pt (pw_or (pt_not (pt_val (pe_fn GSz hr1 (pa_cons (pv 2) pa_nil)))) (pw_or1 (pt_cmpR op_ne (pe_callB call_len_seq (by rfl) N.len PySem.boot_len (pa_cons (pv 4) pa_nil)) (pv 2) (nomark _))))) (pss_one (ps_raise raisesX rfl rfl OR.own PySem.F.excBase_ValueError (pa_cons pe_str pa_nil))) pss_nil)
      (pss_one (ps_ret (pe_fnX GL hr passX (pa_cons (pv 2) (pa_cons (pv 3) (pa_cons (pv 4) pa_nil)))))))))))), ?_⟩
    refine ⟨_, rfl, rfl, _, _, rfl, rfl, by decide +kernel, by omega, fun l hl => ?_⟩
    have hpl := TM.parts_len t
    have hpa : ∀ p ∈ Txt.split t (" " : Str), p.cps.all (· < 128) = true ∧ p.length ≤ 10000 := fun p hp => ⟨TM.part_ascii hasc hp, by have := (TM.part_of hp).2; omega⟩
    generalize Txt.split t (" " : Str) = ps at hcase hpl hpa
    have s1 := same_upd (o := .lst (ps.map V.str)) hl
    have gl : upd H l (.lst (ps.map V.str)) l = some (.lst (ps.map V.str)) := upd_same
    generalize upd H l (.lst (ps.map V.str)) = H1 at s1 gl
    have no : rdOk ps = false → ∀ H', Same H H' → E (.ref CR) none H' := fun z H' s' => by
      rcases hcase with ⟨_, k⟩ | ⟨y, _⟩
      · exact k H' s'
      · rw [y] at z; cases z
    refine ⟨_, rfl, l, _, rfl, .inl (SqL.of gl), _, _, rfl, rfl, _, rfl, iteD (fun z => ?_) (fun z => ?_)⟩
    · refine ⟨(by show 1 ≤ 100; decide), no ?_ H1 s1⟩
      rw [List.length_map] at z
      match ps, z with
      | [], _ => rfl
      | [_], _ => rfl
      | _ :: _ :: r, z => exfalso; simp only [List.length_cons] at z; omega
    obtain ⟨p0, p1, r, rfl⟩ : ∃ p0 p1 r, ps = p0 :: p1 :: r := by
      rw [List.length_map] at z
      match ps, z with
      | [], z => exact absurd (by simp) z
      | [_], z => exact absurd (by simp) z
      | p0 :: p1 :: r, _ => exact ⟨p0, p1, r, rfl⟩
    obtain ⟨a0, b0⟩ := hpa p0 (by simp)
    -- the number
    refine ⟨_, rfl, l, _, _, _, rfl, rfl, SqL.of gl, atI_nat (j := 0) rfl, _, rfl, a0, b0, ?_⟩
    cases e0 : isNum p0 with
    | false => exact .inl ⟨rfl, fun H2 s2 => no (by simp [rdOk, e0]) H2 (s1.trans s2)⟩
    | true =>
    refine .inr ⟨rfl, (numN p0 : Int), isNum_reads e0, fun H2 s2 => ?_⟩
    -- the rule
    refine ⟨_, rfl, l, _, _, _, rfl, rfl, SqL.of (s2 _ _ gl), atI_nat (j := 1) rfl, _, rfl, ?_⟩
    cases e1 : ruleAt p1 with
    | none => exact .inl ⟨rfl, fun H3 s3 => no (by simp [rdOk, e1]) H3 ((s1.trans s2).trans s3)⟩
    | some ru =>
    refine .inr ⟨ru, rfl, fun H3 s3 => ?_⟩
    have gl3 := s3 _ _ (s2 _ _ gl)
    -- the cells
    refine ⟨_, rfl, _, rfl, l, _, rfl, SqL.of gl3, fun lc hlc => ?_⟩
    have ecut : cutV ((p0 :: p1 :: r).map V.str) (some 2) none = r.map V.str := by
      unfold cutV
      rw [show HT.sIx ((p0 :: p1 :: r).map V.str).length 0 (some 2) = 2 from by
        simp only [List.length_map, List.length_cons, HT.sIx]
        rw [if_neg (by decide)]
        show min 2 _ = 2
        omega]
      show (r.map V.str).take _ = _
      refine List.take_of_length_le ?_
      show _ ≤ ((p0 :: p1 :: r).map V.str).length - 2
      simp only [List.length_map, List.length_cons]
      omega
    rw [ecut]
    have s4 := same_upd (o := .lst (r.map V.str)) hlc
    have gc : upd H3 lc (.lst (r.map V.str)) lc = some (.lst (r.map V.str)) := upd_same
    generalize upd H3 lc (.lst (r.map V.str)) = H4 at s4 gc
    refine ⟨lc, rfl, ⟨_, SqL.of gc⟩, fun D hD => ?_⟩
    have sD := same_upd (o := .lst []) hD
    have sall : Same H H4 := ((s1.trans s2).trans s3).trans s4
    have hrl : r.length ≤ 9000 := by simp only [List.length_cons] at hpl; omega
    refine ⟨fun i n H5 => i ≤ r.length ∧ n = r.length - i ∧ Same H4 H5 ∧ (r.take i).all okCell = true ∧ H5 D = some (.lst (layV ((r.take i).map cellVal))), ⟨r.length, Nat.zero_le _, rfl, sD, rfl, upd_same⟩, ?_⟩
    rintro i n H5 ⟨hi, rfl, s5, hok, hD5⟩
    have gc5 := s5 _ _ gc
    by_cases hlt : i < r.length
    · obtain ⟨p, hp⟩ : ∃ p, r[i]? = some p := ⟨r[i], by rw [List.getElem?_eq_getElem hlt]⟩
      have hget : (r.map V.str)[i]? = some (V.str p) := by rw [List.getElem?_map, hp]; rfl
      have hpm : p ∈ r := List.mem_of_getElem? hp
      obtain ⟨ap, bp⟩ := hpa p (List.mem_cons_of_mem _ (List.mem_cons_of_mem _ hpm))
      refine .inr ⟨⟨_, _, SqL.of gc5, hget⟩, fun H6 => Same H4 H6 ∧ (r.take (i + 1)).all okCell = true ∧ H6 D = some (.lst (layV ((r.take (i + 1)).map cellVal))), fun H6 h6 => ⟨r.length - (i + 1), by omega, hlt, rfl, h6.1, h6.2.1, h6.2.2⟩, fun v H6 hv => ?_⟩
      obtain ⟨rfl, hv⟩ := hv
      have ev := hv _ (SqL.of gc5)
      rw [hget] at ev
      have ev' := Option.some.inj ev
      subst ev'
      intro fp Cc s₀ H₀
      refine tAll_on ?_
      have et : layV ((r.take (i + 1)).map cellVal) = layV ((r.take i).map cellVal) ++ [cV (cellVal p)] := by
        unfold layV
        rw [List.take_add_one, hp, List.map_append, List.map_append]
        rfl
      have fin : okCell p = true → ∀ H7, Same H6 H7 → ∃ ys, H7 D = some (.lst ys) ∧ ys.length < sizeLine ∧ (Same H4 (upd H7 D (.lst (ys ++ [cV (cellVal p)]))) ∧ (r.take (i + 1)).all okCell = true ∧ upd H7 D (.lst (ys ++ [cV (cellVal p)])) D = some (.lst (layV ((r.take (i + 1)).map cellVal)))) := fun hk H7 s7 => by
        refine ⟨_, s7 _ _ hD5, by rw [layV_len, List.length_map, List.length_take]; omega, fun b o eb => ?_, ?_, ?_⟩
        · rw [upd_ne (ne_of_none eb hD)]
          exact s7 b o (s5 b o eb)
        · rw [List.take_add_one, hp, List.all_append, hok]
          simpa using hk
        · rw [upd_same, et]
      refine ⟨_, rfl, p, rfl, ap, bp, ?_⟩
      by_cases hd : p = ("-" : Str)
      · rw [cell_none hd] at fin
        exact .inl ⟨hd, fin (by simp [okCell, hd])⟩
      · rw [cell_some hd] at fin
        cases en : isNum p with
        | true => exact .inr (.inr ⟨hd, rfl, _, isNum_reads en, fin (by simp [okCell, en])⟩)
        | false =>
          refine .inr (.inl ⟨hd, rfl, fun H7 s7 => no ?_ H7 ((sall.trans s5).trans s7)⟩)
          have : r.all okCell = false := by
            rw [List.all_eq_false]
            exact ⟨p, hpm, by simp [okCell, hd, en]⟩
          simp [rdOk, this]
    · have him : i = r.length := by omega
      subst him
      refine .inl ⟨⟨_, SqL.of gc5, by rw [List.length_map]; exact Nat.le_refl _⟩, ?_⟩
      rw [List.take_of_length_le (Nat.le_refl _)] at hD5 hok
      have s6 := sall.trans s5
      refine ⟨_, rfl, (numN p0 : Int), rfl, _, rfl, iteNB (fun z => iteT ⟨(by show 1 ≤ 100; decide), no ?_ H5 s6⟩) (fun z => ?_)⟩
      · have := of_decide_eq_false z
        have h2 : ¬ (2 ≤ numN p0 ∧ numN p0 ≤ 200 ∧ r.length = numN p0) := fun q => this ⟨by omega, by omega⟩
        simp [rdOk, e0, e1, hok, h2]
      have hz := of_decide_eq_true z
      refine ⟨_, rfl, D, _, rfl, .inl (SqL.of hD5), _, rfl, rfl, _, rfl, iteNI (fun z2 => ?_) (fun z2 => ?_)⟩
      · refine ⟨(by show 1 ≤ 100; decide), no ?_ H5 s6⟩
        rw [layV_len, List.length_map] at z2
        have h2 : ¬ (2 ≤ numN p0 ∧ numN p0 ≤ 200 ∧ r.length = numN p0) := fun q => z2 (by rw [q.2.2])
        simp [rdOk, e0, e1, hok, h2]
      rw [layV_len, List.length_map] at z2
      have hn : r.length = numN p0 := by omega
      have hrd : rdOk (p0 :: p1 :: r) = true := by
        simp only [rdOk, e0, e1, hok, Bool.true_and, Option.isSome_some, decide_eq_true_eq]
        exact ⟨by omega, by omega, hn⟩
      have hll : (rdLay (p0 :: p1 :: r)).length = r.length := List.length_map ..
      have hru : rdRule (p0 :: p1 :: r) = ru := by simp [rdRule, e1]
      have h2 := ruleAt_le e1
      refine ⟨_, rfl, _, rfl, _, rfl, D, r.length, (ru : Int), r.map cellVal, (by rw [hn]; rfl), hD5, List.length_map .., by omega, by omega, by omega, by omega, ?_⟩
      rcases hcase with ⟨y, _⟩ | ⟨_, hc⟩
      · rw [hrd] at y; cases y
      rw [hll, hru] at hc
      rcases hc with ⟨hR, k⟩ | ⟨hR, k⟩
      · exact .inl ⟨hR, fun H' s' => k H' (s6.trans s')⟩
      · exact .inr ⟨hR, fun y ca H' hy hca s' Y' => k y ca H' (s6.free hy) (s6.free hca) (s6.trans s') Y'⟩

def spLText : Sp := fun vs H Q _ => ∃ (a : Addr) (rule : Int) (c : Lay), vs = [.ref a, .int rule] ∧ H a = some (.lst (layV c)) ∧ c.length ≤ 10 ∧ 0 ≤ rule ∧ rule ≤ 2 ∧ NB c ∧ ∀ (t : Str) (H' : Hp), Same H H' → TM.Asc t → t.length ≤ 400 → Q (.str t) H'
theorem cell_asc {c : Lay} (nb : NB c) {v : Option Int} (hv : v ∈ c) : TM.Asc (cellT v) ∧ (cellT v).length ≤ 31 := by
  cases v with
  | none => exact ⟨by show (("-" : Str)).cps.all (· < 128) = true; decide +kernel, by show (("-" : Str)).length ≤ 31; decide +kernel⟩
  | some n =>
    obtain ⟨h0, h1⟩ := nb n (List.mem_filterMap.mpr ⟨_, hv, rfl⟩)
    exact ⟨ascii_of (isNum_of h0 h1), len_of h0 h1⟩
theorem scLText : FnScope ["row", "rule", "words", "name"] ["row", "rule"] (defScope sLText) := ⟨rfl, rfl, rfl, by decide +kernel, rfl, by decide +kernel, by decide +kernel⟩
set_option maxHeartbeats 2000000 in
theorem ok_ltext {f : Addr} {fd : FuncData} (F : Fun K "_law_text" "_law_text" sLText f fd) (L : LTxt K mg) (Lst : mg "str" = none) : FnOk P w K mg base CX0 1 f fd ["row", "rule"] spLText := by
  refine F.ok scLText (fun vs H Q E h => ?_) (fun cdv A outer s H vs Q E hr h => ?_)
  · obtain ⟨a, rule, c, rfl, _⟩ := h
    rfl
  · obtain ⟨a, rule, c, rfl, ha, hl, r0, r2, nb, k⟩ := h
    have szl : sizeLine ≥ 100000 := by decide
    refine ⟨_, (pss_cons (ps_set (i := 2) scLText.nd rfl (Or.inl rfl) (pe_lst (pa_cons (pe_callTy call_str_int (by rfl) Lst PyProof.Rows.boot_str (pa_cons (pe_callB call_len_seq (by rfl) L.len PySem.boot_len (pa_cons (pv 0) pa_nil)) pa_nil))
        (pa_cons (pe_op op_add_str (pe_ix ix_list (pe_lst (pa_cons pe_str (pa_cons pe_str (pa_cons pe_str pa_nil)))) (pv 1) (fun _ _ => rfl)) pe_str) pa_nil))))
      (pss_cons (ps_for PassesOwn.never rfl (pi_list (pv 0)) (pg_name (i := 3) scLText.nd rfl (Or.inl rfl)) (pss_one (ps_if (pt_cmp (pc_isN (pv 3))) (pss_one (ps_expr (pe_bm PySem.F.plainAttrs_list PySem.F.slot_list_append PySem.F.type_list_append mt_append (pv 2) (pa_cons pe_str pa_nil))))
          (pss_one (ps_expr (pe_bm PySem.F.plainAttrs_list PySem.F.slot_list_append PySem.F.type_list_append mt_append (pv 2) (pa_cons (pe_callTy call_str_int (by rfl) Lst PyProof.Rows.boot_str (pa_cons (pv 3) pa_nil)) pa_nil)))))))
      (pss_one (ps_ret (pe_bm PySem.F.plainAttrs_str PySem.F.slot_str_join PySem.F.type_str_join mt_join pe_str (pa_cons (pv 2) pa_nil)))))), ?_⟩
    have w2 : ((":" : Str)).length = 1 := by decide +kernel
    have hn : (0 : Int) ≤ ((layV c).length : Int) ∧ ((layV c).length : Int) < 10 ^ 30 := by rw [layV_len]; exact ⟨by omega, by omega⟩
    refine ⟨_, rfl, a, _, rfl, .inl (SqL.of ha), _, rfl, lg_of hn.1 hn.2, (by show 3 ≤ sizeLine; decide), fun lw hlw => ?_⟩
    have hwat : atI [V.str "first", V.str "name", V.str "far"] rule = some (.str (wordOf rule)) := by
      have h3 : rule = 0 ∨ rule = 1 ∨ rule = 2 := by omega
      rcases h3 with e | e | e
      · rw [e]; exact atI_nat (j := 0) rfl
      · rw [e]; exact atI_nat (j := 1) rfl
      · rw [e]; exact atI_nat (j := 2) rfl
    have hwl := word_len rule
    have s1 := same_upd (o := .lst [V.str "first", V.str "name", V.str "far"]) hlw
    refine ⟨_, rfl, lw, _, _, _, rfl, rfl, SqL.of upd_same, hwat, _, _, rfl, rfl, by rw [w2]; omega, (by show 2 ≤ sizeLine; decide), fun l hl2 => ?_⟩
    generalize upd H lw (.lst [V.str "first", V.str "name", V.str "far"]) = H1 at s1 hl2
    have s2 := s1.trans (same_upd (o := .lst ([Str.ofString (toString (((layV c).length : Nat) : Int)), wordOf rule ++ (":" : Str)].map V.str)) hl2)
    have g2 : upd H1 l (.lst ([Str.ofString (toString (((layV c).length : Nat) : Int)), wordOf rule ++ (":" : Str)].map V.str)) l = some (.lst ([Str.ofString (toString (((layV c).length : Nat) : Int)), wordOf rule ++ (":" : Str)].map V.str)) := upd_same
    have a0 : TM.Asc (Str.ofString (toString (((layV c).length : Nat) : Int))) := ascii_of (isNum_of hn.1 hn.2)
    have b0 := len_of hn.1 hn.2
    have a1 : TM.Asc (wordOf rule ++ (":" : Str)) := by
      have h3 : rule = 0 ∨ rule = 1 ∨ rule = 2 := by omega
      rcases h3 with e | e | e <;> (rw [e]; unfold TM.Asc; decide +kernel)
    have b1 : (wordOf rule ++ (":" : Str)).length ≤ 6 := by rw [Str.length_append, w2]; omega
    have nal : a ≠ l := ne_of_none (s1 _ _ ha) hl2
    have hl0 : H l = none := s1.free hl2
    obtain ⟨hd, ehd⟩ : ∃ hd : List Str, [Str.ofString (toString (((layV c).length : Nat) : Int)), wordOf rule ++ (":" : Str)] = hd := ⟨_, rfl⟩
    have hhd : (∀ p ∈ hd, TM.Asc p ∧ p.length ≤ 31) ∧ hd.length = 2 := by
      subst ehd
      refine ⟨fun p hp => ?_, rfl⟩
      rcases List.mem_cons.mp hp with e | hp
      · rw [e]; exact ⟨a0, b0⟩
      · rw [List.mem_singleton.mp hp]; exact ⟨a1, by omega⟩
    show gName 2 (V.ref l) _ (upd H1 l (.lst ([Str.ofString (toString (((layV c).length : Nat) : Int)), wordOf rule ++ (":" : Str)].map V.str))) _
    rw [ehd] at s2 g2 ⊢
    generalize upd H1 l (.lst (hd.map V.str)) = H2 at s2 g2
    refine ⟨_, rfl, a, rfl, ⟨_, SqL.of (s2 _ _ ha)⟩, for_list (K := K) (a := a) (xs := layV c) (fun i σ H' => ∃ (v3 : Option V), σ = [some (.ref a), some (.int rule), some (.ref l), v3] ∧ Same H H' ∧ H' l = some (.lst ((hd ++ (c.take i).map cellT).map V.str)))
      ⟨none, rfl, s2, by rw [List.take_zero, List.map_nil, List.append_nil]; exact g2⟩ (fun i σ H' _ ⟨_, _, s3, _⟩ => SqL.of (s3 _ _ ha)) ?_ ?_⟩
    · rintro i x σ H' hi ⟨v3, rfl, s3, g3⟩
      have hil : i < c.length := by
        have := (List.getElem?_eq_some_iff.mp hi).1
        rw [layV_len] at this; exact this
      rw [layV_get hil] at hi
      have ex := Option.some.inj hi
      subst ex
      have et : (hd ++ (c.take (i + 1)).map cellT).map V.str = (hd ++ (c.take i).map cellT).map V.str ++ [V.str (cellT (g c i))] := by
        rw [List.take_add_one, g_get hil, List.map_append, List.map_append, List.map_append, List.map_append, List.append_assoc]
        rfl
      have hlen : ((hd ++ (c.take i).map cellT).map V.str).length < sizeLine := by
        rw [List.length_map, List.length_append, List.length_map, List.length_take, hhd.2]
        omega
      have fin : ∃ v3 : Option V, [some (V.ref a), some (V.int rule), some (V.ref l), some (cV (g c i))] = [some (.ref a), some (.int rule), some (.ref l), v3] ∧ Same H (upd H' l (.lst ((hd ++ (c.take i).map cellT).map V.str ++ [V.str (cellT (g c i))]))) ∧
          upd H' l (.lst ((hd ++ (c.take i).map cellT).map V.str ++ [V.str (cellT (g c i))])) l = some (.lst ((hd ++ (c.take (i + 1)).map cellT).map V.str)) := by
        refine ⟨_, rfl, fun b o eb => ?_, by rw [upd_same, et]⟩
        rw [upd_ne (ne_of_none eb hl0)]
        exact s3 b o eb
      cases e : g c i with
      | none =>
        rw [e] at fin
        exact ⟨_, rfl, _, rfl, iteT ⟨_, rfl, .inl ⟨rfl, _, SqL.of g3⟩, l, _, _, rfl, rfl, g3, hlen, fin⟩⟩
      | some n =>
        rw [e] at fin
        obtain ⟨z0, z1⟩ := nb.at e
        exact ⟨_, rfl, _, rfl, iteF ⟨_, rfl, .inl ⟨rfl, _, SqL.of g3⟩, _, rfl, n, rfl, lg_of z0 z1, l, _, _, rfl, rfl, g3, hlen, fin⟩⟩
    · rintro σ H' ⟨v3, rfl, s3, g3⟩
      rw [layV_len, List.take_of_length_le (Nat.le_refl _)] at g3
      have hall : ∀ p ∈ hd ++ c.map cellT, TM.Asc p ∧ p.length ≤ 31 := fun p hp => by
        rcases List.mem_append.mp hp with h | h
        · exact hhd.1 p h
        · obtain ⟨v, hv, rfl⟩ := List.mem_map.mp h
          exact cell_asc nb hv
      have hsum : ∀ ps : List Str, (∀ p ∈ ps, TM.Asc p ∧ p.length ≤ 31) → TM.sumL ps ≤ 31 * ps.length := fun ps => by
        induction ps with
        | nil => intro _; exact Nat.le_refl _
        | cons p ps ih =>
          intro hp
          have h1 := ih fun q hq => hp q (List.mem_cons_of_mem _ hq)
          have h2 := (hp p List.mem_cons_self).2
          simp only [TM.sumL, List.map_cons, List.sum_cons, List.length_cons] at *
          omega
      have h1 := hsum _ hall
      obtain ⟨j1, j2⟩ := TM.join_ok fun p hp => (hall p hp).1
      have hcount : (hd ++ c.map cellT).length ≤ 12 := by rw [List.length_append, List.length_map, hhd.2]; omega
      have b3 : ((" " : Str)).length = 1 := by decide +kernel
      refine ⟨rfl, _, rfl, (" " : Str), l, hd ++ c.map cellT, rfl, rfl, SqL.of g3, ?_, k _ H' s3 j1 (by omega)⟩
      show TM.sumL (hd ++ c.map cellT) + _ ≤ _
      rw [b3]
      omega
theorem scLOdd : FnScope ["cell", "some"] ["cell"] (defScope sLOdd) := ⟨rfl, rfl, rfl, by decide +kernel, rfl, by decide +kernel, by decide +kernel⟩
def spLOdd : Sp := fun vs H Q _ => ∃ cell : Int, vs = [.int cell] ∧ ∀ (t : Str) (H' : Hp), Same H H' → TM.Asc t → t.length ≤ 400 → Q (.str t) H'
def odds : List Str := [("" : Str), (" " : Str), ("2 first:" : Str), ("2 first: -" : Str), ("2 first: - - -" : Str), ("2 First: - -" : Str), ("2 first : - -" : Str)] ++ [("02 far: - -" : Str), ("1 far: -" : Str), ("0 name:" : Str), ("2 far:  - -" : Str), ("2 far: 0 1" : Str), ("2 far: 00 -" : Str)] ++ [("3 name: 3 0 -" : Str), ("2 near: - -" : Str), ("2: - -" : Str)]
theorem odds_ok : ∀ t ∈ odds, t.cps.all (· < 128) = true ∧ t.length ≤ 400 := by decide +kernel
theorem ok_lodd {f : Addr} {fd : FuncData} (F : Fun K "_law_odd" "_law_odd" sLOdd f fd) : FnOk P w K mg base CX0 1 f fd ["cell"] spLOdd := by
  refine F.ok scLOdd (fun vs H Q E h => ?_) (fun cdv A outer s H vs Q E hr h => ?_)
  · obtain ⟨cell, rfl, _⟩ := h
    rfl
  · obtain ⟨cell, rfl, k⟩ := h
    refine ⟨_, (pss_cons (ps_set (i := 1) scLOdd.nd rfl (Or.inl rfl) (pe_lst (pa_cons pe_str (pa_cons pe_str (pa_cons pe_str (pa_cons pe_str (pa_cons pe_str (pa_cons pe_str (pa_cons pe_str pa_nil)))))))))
      (pss_cons (ps_set (i := 1) scLOdd.nd rfl (Or.inl rfl) (pe_op op_cat (pv 1) (pe_lst (pa_cons pe_str (pa_cons pe_str (pa_cons pe_str (pa_cons pe_str (pa_cons pe_str (pa_cons pe_str pa_nil)))))))))
      (pss_cons (ps_set (i := 1) scLOdd.nd rfl (Or.inl rfl) (pe_op op_cat (pv 1) (pe_lst (pa_cons pe_str (pa_cons pe_str (pa_cons pe_str pa_nil))))))
      (pss_one (ps_ret (pe_ix ix_list (pv 1) (pe_op op_mod (pv 0) pe_int) (fun _ _ => rfl))))))), ?_⟩
    refine ⟨(by show 7 ≤ sizeLine; decide), fun l1 h1 => ?_⟩
    have s1 := same_upd (o := .lst ([("" : Str), (" " : Str), ("2 first:" : Str), ("2 first: -" : Str), ("2 first: - - -" : Str), ("2 First: - -" : Str), ("2 first : - -" : Str)].map V.str)) h1
    refine ⟨_, rfl, (by show 6 ≤ sizeLine; decide), fun l2 h2 => ?_⟩
    have s2 := same_upd (o := .lst ([("02 far: - -" : Str), ("1 far: -" : Str), ("0 name:" : Str), ("2 far:  - -" : Str), ("2 far: 0 1" : Str), ("2 far: 00 -" : Str)].map V.str)) h2
    refine ⟨l1, l2, _, _, rfl, rfl, s2 _ _ upd_same, upd_same, (by show 7 + 6 ≤ sizeLine; decide), fun l3 h3 => ?_⟩
    refine ⟨_, rfl, (by show 3 ≤ sizeLine; decide), fun l4 h4 => ?_⟩
    refine ⟨l3, l4, _, _, rfl, rfl, (by rw [upd_ne (ne_of_none upd_same h4)]; exact upd_same), upd_same, (by show 13 + 3 ≤ sizeLine; decide), fun l5 h5 => ?_⟩
    have hat : ∃ t, t ∈ odds ∧ atI (odds.map V.str) (cell % 16) = some (V.str t) := by
      obtain ⟨j, ej, hj⟩ : ∃ j : Nat, cell % 16 = (j : Int) ∧ j < 16 := ⟨(cell % 16).toNat, by omega, by omega⟩
      have hl : odds.length = 16 := rfl
      rw [ej]
      exact ⟨odds[j]'(by rw [hl]; exact hj), List.getElem_mem _, atI_nat (by rw [List.getElem?_map, List.getElem?_eq_getElem (by rw [hl]; exact hj)]; rfl)⟩
    obtain ⟨t, ht, hat⟩ := hat
    obtain ⟨o1, o2⟩ := odds_ok t ht
    refine ⟨_, rfl, _, rfl, _, _, rfl, rfl, (by show (0 : Int) < 16; decide), l5, odds.map V.str, _, _, rfl, rfl, SqL.of upd_same, hat, k t _ ?_ o1 o2⟩
    intro b o e
    rw [upd_ne (ne_of_none (b := l5) (a := b) (o := o) ?_ h5), upd_ne (ne_of_none (b := l4) (a := b) (o := o) ?_ h4), upd_ne (ne_of_none (b := l3) (a := b) (o := o) ?_ h3)]
    · exact s2 b o (s1 b o e)
    · exact s2 b o (s1 b o e)
    · rw [upd_ne (ne_of_none (b := l3) (a := b) (o := o) (s2 b o (s1 b o e)) h3)]
      exact s2 b o (s1 b o e)
    · rw [upd_ne (ne_of_none (b := l4) (a := b) (o := o) ?_ h4)]
      · rw [upd_ne (ne_of_none (b := l3) (a := b) (o := o) (s2 b o (s1 b o e)) h3)]
        exact s2 b o (s1 b o e)
      · rw [upd_ne (ne_of_none (b := l3) (a := b) (o := o) (s2 b o (s1 b o e)) h3)]
        exact s2 b o (s1 b o e)
theorem scLSpoiled : FnScope ["text", "mode", "cell", "at", "sign", "words", "spot"] ["text", "mode", "cell"] (defScope sLSpoiled) := ⟨rfl, rfl, rfl, by decide +kernel, rfl, by decide +kernel, by decide +kernel⟩
def spLSpoil : Sp := fun vs H Q _ => ∃ (t : Str) (mode cell : Int), vs = [.str t, .int mode, .int cell] ∧ TM.Asc t ∧ t.length ≤ 400 ∧ ∀ (t' : Str) (H' : Hp), Same H H' → TM.Asc t' → t'.length ≤ 9000 → Q (.str t') H'
def signsT : Str := ("0123456789 -:.+namefrst_\t" : Str)
theorem signs_ok : signsT.length = 25 ∧ ∀ c ∈ signsT.cps.toList, c < 128 := by decide +kernel
set_option maxHeartbeats 2000000 in
theorem ok_lspoil {f : Addr} {fd : FuncData} (F : Fun K "_law_spoiled" "_law_spoiled" sLSpoiled f fd) (L : LTxt K mg) : FnOk P w K mg base CX0 1 f fd ["text", "mode", "cell"] spLSpoil := by
  refine F.ok scLSpoiled (fun vs H Q E h => ?_) (fun cdv A outer s H vs Q E hr h => ?_)
  · obtain ⟨t, mode, cell, rfl, _⟩ := h
    rfl
  · obtain ⟨t, mode, cell, rfl, ha, hl, k⟩ := h
    have szl : sizeLine ≥ 100000 := by decide
    refine ⟨_, (pss_cons (ps_set (i := 3) scLSpoiled.nd rfl (Or.inl rfl) (pe_op op_mod (pv 2) (pe_op op_add (pe_callB call_len_str (by rfl) L.len PySem.boot_len (pa_cons (pv 0) pa_nil)) pe_int)))
      (pss_cons (ps_set (i := 4) scLSpoiled.nd rfl (Or.inl rfl) (pe_ix ix_str pe_str (pe_op op_mod (pe_op op_fdiv (pv 2) pe_int) pe_int) (fun _ _ => rfl)))
      (pss_cons (ps_if (pt_cmpR op_eq (pv 1) pe_int (nomark _)) (pss_one (ps_ret (pe_op op_add_str (pe_slice sl_str (pv 0) po_none (po_some (pv 3))) (pe_slice sl_str (pv 0) (po_some (pe_op op_add (pv 3) pe_int)) po_none)))) pss_nil)
      (pss_cons (ps_if (pt_cmpR op_eq (pv 1) pe_int (nomark _)) (pss_one (ps_ret (pe_op op_add_str (pe_op op_add_str (pe_slice sl_str (pv 0) po_none (po_some (pv 3))) (pv 4)) (pe_slice sl_str (pv 0) (po_some (pv 3)) po_none)))) pss_nil)
      (pss_cons (ps_if (pt_cmpR op_eq (pv 1) pe_int (nomark _)) (pss_one (ps_ret (pe_op op_add_str (pe_op op_add_str (pe_slice sl_str (pv 0) po_none (po_some (pv 3))) (pv 4)) (pe_slice sl_str (pv 0) (po_some (pe_op op_add (pv 3) pe_int)) po_none)))) pss_nil)
      (pss_cons (ps_set (i := 5) scLSpoiled.nd rfl (Or.inl rfl) (pe_bm PySem.F.plainAttrs_str PySem.F.slot_str_split PySem.F.type_str_split mt_split (pv 0) (pa_cons pe_str pa_nil)))
      (pss_cons (ps_set (i := 6) scLSpoiled.nd rfl (Or.inl rfl) (pe_op op_mod (pv 2) (pe_callB call_len_seq (by rfl) L.len PySem.boot_len (pa_cons (pv 5) pa_nil))))
      (pss_cons (ps_if (pt_cmpR op_eq (pv 1) pe_int (nomark _)) (pss_one (ps_ret (pe_bm PySem.F.plainAttrs_str PySem.F.slot_str_join PySem.F.type_str_join mt_join pe_str (pa_cons (pe_op op_cat (pe_slice sl_list (pv 5) po_none (po_some (pv 6))) (pe_slice sl_list (pv 5) (po_some (pe_op op_add (pv 6) pe_int)) po_none)) pa_nil)))) pss_nil)
      (pss_cons (ps_if (pt_cmpR op_eq (pv 1) pe_int (nomark _)) (pss_one (ps_ret (pe_bm PySem.F.plainAttrs_str PySem.F.slot_str_join PySem.F.type_str_join mt_join pe_str (pa_cons (pe_op op_cat (pe_slice sl_list (pv 5) po_none (po_some (pe_op op_add (pv 6) pe_int))) (pe_slice sl_list (pv 5) (po_some (pv 6)) po_none)) pa_nil)))) pss_nil)
      (pss_one (ps_ret (pv 0)))))))))))), ?_⟩
    have hz : (0 : Int) < (t.length : Int) + 1 := by omega
    refine ⟨_, rfl, _, rfl, t, rfl, by omega, _, _, rfl, rfl, _, _, rfl, rfl, hz, ?_⟩
    obtain ⟨at', eat⟩ : ∃ z : Int, cell % ((t.length : Int) + 1) = z := ⟨_, rfl⟩
    show gName 3 (V.int (cell % ((t.length : Int) + 1))) _ _ _
    rw [eat]
    -- a sign
    obtain ⟨q1, q2⟩ := signs_ok
    obtain ⟨j, ej, hj⟩ : ∃ j : Nat, cell / 4096 % 25 = (j : Int) ∧ j < 25 := ⟨(cell / 4096 % 25).toNat, by omega, by omega⟩
    have hjl : j < signsT.cps.toList.length := by rw [Array.length_toList]; show j < signsT.length; omega
    obtain ⟨sg, esg⟩ : ∃ c, signsT.cps.toList[j]? = some c := ⟨signsT.cps.toList[j], List.getElem?_eq_getElem hjl⟩
    have hsg : sg < 128 := q2 sg (List.mem_of_getElem? esg)
    refine ⟨_, rfl, _, _, rfl, rfl, ⟨by decide, by decide⟩, _, _, rfl, rfl, (by show (0 : Int) < 25; decide), signsT, (j : Int), sg, rfl, (by rw [← ej]), by rw [q1]; decide, atI_nat esg, ?_⟩
    have asg : TM.Asc (⟨#[sg]⟩ : Str) := TM.asc_iff.mpr fun c hc => by
      have : c = sg := by simpa using hc
      omega
    have lsg : (⟨#[sg]⟩ : Str).length = 1 := rfl
    -- one, two, three
    refine ⟨_, rfl, rfl, _, rfl, iteI (fun _ => ?_) (fun _ => ?_)⟩
    · refine ⟨_, rfl, _, rfl, _, rfl, t, rfl, by omega, fun y1 m1 n1 => ⟨_, rfl, _, rfl, _, _, rfl, rfl, _, rfl, t, rfl, by omega, fun y2 m2 n2 => ⟨y1, y2, rfl, rfl, by omega, ?_⟩⟩⟩
      exact k _ H (Same.refl H) ((ha.sub m1).app (ha.sub m2)) (by rw [Str.length_append]; omega)
    refine ⟨_, rfl, rfl, _, rfl, iteI (fun _ => ?_) (fun _ => ?_)⟩
    · refine ⟨_, rfl, _, rfl, _, rfl, t, rfl, by omega, fun y1 m1 n1 => ⟨_, rfl, y1, _, rfl, rfl, by rw [lsg]; omega, _, rfl, _, rfl, _, rfl, t, rfl, by omega, fun y2 m2 n2 => ⟨_, y2, rfl, rfl, by rw [Str.length_append, lsg]; omega, ?_⟩⟩⟩
      exact k _ H (Same.refl H) (((ha.sub m1).app asg).app (ha.sub m2)) (by rw [Str.length_append, Str.length_append, lsg]; omega)
    refine ⟨_, rfl, rfl, _, rfl, iteI (fun _ => ?_) (fun _ => ?_)⟩
    · refine ⟨_, rfl, _, rfl, _, rfl, t, rfl, by omega, fun y1 m1 n1 => ⟨_, rfl, y1, _, rfl, rfl, by rw [lsg]; omega, _, rfl, _, rfl, _, _, rfl, rfl, _, rfl, t, rfl, by omega, fun y2 m2 n2 => ⟨_, y2, rfl, rfl, by rw [Str.length_append, lsg]; omega, ?_⟩⟩⟩
      exact k _ H (Same.refl H) (((ha.sub m1).app asg).app (ha.sub m2)) (by rw [Str.length_append, Str.length_append, lsg]; omega)
    -- the words
    refine ⟨_, rfl, rfl, _, _, rfl, rfl, by decide +kernel, by omega, fun l hl1 => ?_⟩
    have hws := TM.split_sum t
    have hwl := TM.parts_len t
    have hwa : ∀ p ∈ Txt.split t (" " : Str), TM.Asc p := fun p hp => TM.part_ascii ha hp
    have hw1 := PyProof.Rows.split_pos t (" " : Str)
    generalize Txt.split t (" " : Str) = ws at hws hwl hwa hw1
    have s1 := same_upd (o := .lst (ws.map V.str)) hl1
    have g1 : upd H l (.lst (ws.map V.str)) l = some (.lst (ws.map V.str)) := upd_same
    generalize upd H l (.lst (ws.map V.str)) = H1 at s1 g1
    have hw0 : (0 : Int) < (((ws.map V.str).length : Nat) : Int) := by rw [List.length_map]; omega
    refine ⟨_, rfl, _, rfl, l, _, rfl, .inl (SqL.of g1), _, _, rfl, rfl, hw0, ?_⟩
    obtain ⟨sp, esp⟩ : ∃ z : Int, cell % (((ws.map V.str).length : Nat) : Int) = z := ⟨_, rfl⟩
    show gName 6 (V.int (cell % (((ws.map V.str).length : Nat) : Int))) _ _ _
    rw [esp]
    have b3 : ((" " : Str)).length = 1 := by decide +kernel
    have fin : ∀ (lo1 hi1 lo2 hi2 : Option Int) (l2 l3 l4 : Addr) (us1 us2 : List Str) (H4 : Hp), List.Sublist us1 ws → List.Sublist us2 ws → Same H1 H4 → H4 l4 = some (.lst ((us1 ++ us2).map V.str)) → rJoin K (.str (" " : Str)) [.ref l4] H4 Q := fun lo1 hi1 lo2 hi2 l2 l3 l4 us1 us2 H4 b1 b2 s4 g4 => by
      have c1 := TM.sumL_sub b1
      have c2 := TM.sumL_sub b2
      have d1 := b1.length_le
      have d2 := b2.length_le
      obtain ⟨j1, j2⟩ := TM.join_ok (ps := us1 ++ us2) fun p hp => by
        rcases List.mem_append.mp hp with h | h
        · exact hwa p (b1.subset h)
        · exact hwa p (b2.subset h)
      rw [TM.sumL_app, List.length_append] at j2
      refine ⟨(" " : Str), l4, us1 ++ us2, rfl, rfl, SqL.of g4, ?_, k _ H4 (s1.trans s4) j1 (by omega)⟩
      show TM.sumL (us1 ++ us2) + (us1 ++ us2).length * _ ≤ _
      rw [TM.sumL_app, List.length_append, b3]
      omega
    refine ⟨_, rfl, rfl, _, rfl, iteI (fun _ => ?_) (fun _ => ?_)⟩
    · refine ⟨rfl, _, rfl, _, rfl, _, rfl, l, _, rfl, SqL.of g1, fun l2 hl2 => ?_⟩
      obtain ⟨us1, e1, b1⟩ := TM.cut_strs ws none (some sp)
      rw [e1]
      have s2 := same_upd (o := .lst (us1.map V.str)) hl2
      refine ⟨_, rfl, _, rfl, _, _, rfl, rfl, _, rfl, l, _, rfl, SqL.of (s2 _ _ g1), fun l3 hl3 => ?_⟩
      obtain ⟨us2, e2, b2⟩ := TM.cut_strs ws (some (sp + 1)) none
      rw [e2]
      have s3 := same_upd (o := .lst (us2.map V.str)) hl3
      have d1 := b1.length_le
      have d2 := b2.length_le
      refine ⟨l2, l3, _, _, rfl, rfl, s3 _ _ upd_same, upd_same, by rw [List.length_map, List.length_map]; omega, fun l4 hl4 => ?_⟩
      exact fin none (some sp) (some (sp + 1)) none l2 l3 l4 us1 us2 _ b1 b2 ((s2.trans s3).trans (same_upd hl4)) (by rw [upd_same, List.map_append])
    refine ⟨_, rfl, rfl, _, rfl, iteI (fun _ => ?_) (fun _ => ⟨_, rfl, k t H1 s1 ha (by omega)⟩)⟩
    · refine ⟨rfl, _, rfl, _, rfl, _, _, rfl, rfl, _, rfl, l, _, rfl, SqL.of g1, fun l2 hl2 => ?_⟩
      obtain ⟨us1, e1, b1⟩ := TM.cut_strs ws none (some (sp + 1))
      rw [e1]
      have s2 := same_upd (o := .lst (us1.map V.str)) hl2
      refine ⟨_, rfl, _, rfl, _, rfl, l, _, rfl, SqL.of (s2 _ _ g1), fun l3 hl3 => ?_⟩
      obtain ⟨us2, e2, b2⟩ := TM.cut_strs ws (some sp) none
      rw [e2]
      have s3 := same_upd (o := .lst (us2.map V.str)) hl3
      have d1 := b1.length_le
      have d2 := b2.length_le
      refine ⟨l2, l3, _, _, rfl, rfl, s3 _ _ upd_same, upd_same, by rw [List.length_map, List.length_map]; omega, fun l4 hl4 => ?_⟩
      exact fin none (some sp) (some (sp + 1)) none l2 l3 l4 us1 us2 _ b1 b2 ((s2.trans s3).trans (same_upd hl4)) (by rw [upd_same, List.map_append])

theorem for_str {z : Str} {g : TG} {tb : TS} {D : Ends} {σ : St} {H : Hp} (Pv : Nat → St → Hp → Prop) (h0 : Pv 0 σ H)
    (hs : ∀ i c σ H, z.cps[i]? = some c → Pv i σ H → g (.str ⟨#[c]⟩) σ H fun σ2 H2 => tb { D with nx := Pv (i + 1), ct := Pv (i + 1), bk := D.nx } σ2 H2) (hd : ∀ σ H, Pv z.cps.size σ H → D.nx σ H) :
    ∃ W : Nat → Nat → St → Hp → Prop, (∃ m, W 0 m σ H) ∧ ∀ i m σ H, W i m σ H →
      ((Its z).stop i H ∧ D.nx σ H) ∨ ((Its z).go i H ∧ ∃ N : St → Hp → Prop, (∀ σ' H', N σ' H' → ∃ m', m' < m ∧ W (i + 1) m' σ' H') ∧ ∀ x H', (Its z).yld i H x H' → g x σ H' fun σ2 H2 => tb { D with nx := N, ct := N, bk := D.nx } σ2 H2) := by
  refine ⟨fun i m σ H => m = z.cps.size - i ∧ i ≤ z.cps.size ∧ Pv i σ H, ⟨z.cps.size, by simp, Nat.zero_le _, h0⟩, ?_⟩
  rintro i m σ H ⟨rfl, hi, p⟩
  by_cases hlt : i < z.cps.size
  · refine .inr ⟨hlt, Pv (i + 1), fun σ' H' p' => ⟨z.cps.size - (i + 1), by omega, rfl, hlt, p'⟩, fun x H' y => ?_⟩
    obtain ⟨rfl, c, hc, rfl⟩ := y
    exact hs i c σ _ hc p
  · have e : i = z.cps.size := by omega
    subst e
    exact .inl ⟨Nat.le_refl _, hd σ H p⟩
def lnOk (p : Str) (most : Nat) : Bool := decide (p.length ≠ 0 ∧ p.length ≤ most ∧ ¬ (1 < p.length ∧ p.cps.toList.head? = some 48)) && p.cps.toList.all fun c => decide (48 ≤ c ∧ c ≤ 57)
def lnum (p : Str) (most : Nat) : Int := if lnOk p most = true then (numN p : Int) else -1
theorem zero_one {p : Str} (h : p.cps.toList.head? = some 48) : 1 < p.length ↔ p ≠ ("0" : Str) := by
  have e0 : ((("0" : Str))) = ⟨#[48]⟩ := by decide +kernel
  have hl : p.cps.toList.length = p.length := Array.length_toList
  rw [e0]
  constructor
  · intro z q
    rw [q] at z
    exact absurd z (by decide)
  · intro z
    rcases Nat.lt_or_ge 1 p.length with y | y
    · exact y
    · exfalso
      cases e : p.cps.toList with
      | nil => rw [e] at h; cases h
      | cons c r =>
        rw [e] at h hl
        have hc : c = 48 := Option.some.inj h
        have hr : r = [] := by
          rw [List.length_cons] at hl
          exact List.length_eq_zero_iff.mp (by omega)
        exact z (Str.ext' (Array.toList_inj.mp (by rw [e, hc, hr])))
theorem lnOk_iff {p : Str} {most : Nat} (hm : most ≤ 30) : lnOk p most = true ↔ isNum p = true ∧ p.length ≤ most := by
  unfold lnOk isNum
  rw [Bool.and_eq_true, Bool.and_eq_true, decide_eq_true_iff, decide_eq_true_iff]
  constructor
  · rintro ⟨⟨h1, h2, h3⟩, h4⟩
    exact ⟨⟨⟨h1, by omega, fun z => h3 ⟨(zero_one z.1).mpr z.2, z.1⟩⟩, h4⟩, h2⟩
  · rintro ⟨⟨⟨h1, h2, h3⟩, h4⟩, h5⟩
    exact ⟨⟨h1, h5, fun z => h3 ⟨z.2, (zero_one z.2).mp z.1⟩⟩, h4⟩
theorem lnum_30 (p : Str) : lnum p 30 = if isNum p = true then (numN p : Int) else -1 := by
  unfold lnum
  by_cases h : isNum p = true
  · rw [if_pos h, if_pos ((lnOk_iff (by decide)).mpr ⟨h, (isNum_len h).2⟩)]
  · rw [if_neg h, if_neg fun z => h ((lnOk_iff (by decide)).mp z).1]
def spLNumber : Sp := fun vs H Q _ => ∃ (p : Str) (most : Nat), vs = [.str p, .int most] ∧ TM.Asc p ∧ p.length ≤ 10000 ∧ most ≤ 30 ∧ ∀ H', Same H H' → Q (.int (lnum p most)) H'
theorem scLNumber : FnScope ["word", "most", "sign"] ["word", "most"] (defScope sLNumber) := ⟨rfl, rfl, rfl, by decide +kernel, rfl, by decide +kernel, by decide +kernel⟩
theorem ok_lnumber {f : Addr} {fd : FuncData} (F : Fun K "_law_number" "_law_number" sLNumber f fd) (L : LTxt K mg) : FnOk P w K mg base CX0 1 f fd ["word", "most"] spLNumber := by
  refine F.ok scLNumber (fun vs H Q E h => ?_) (fun cdv A outer s H vs Q E hr h => ?_)
  · obtain ⟨p, most, rfl, _⟩ := h
    rfl
  · obtain ⟨p, most, rfl, ha, hl, hm, k⟩ := h
    have szl : sizeLine ≥ 100000 := by decide
    refine ⟨_, (pss_mid (ps_if (PW.pt (pw_or (pt_cmpR op_eq (pv 0) pe_str (nomark _)) (pw_or (pt_cmpR op_gt (pe_callB call_len_str (by rfl) L.len PySem.boot_len (pa_cons (pv 0) pa_nil)) (pv 1) (nomark _))
        (pw_or1 (PW.pt (pw_and (pt_cmpR op_gt (pe_callB call_len_str (by rfl) L.len PySem.boot_len (pa_cons (pv 0) pa_nil)) pe_int (nomark _)) (pw_and1 (pt_cmpR op_eq (pe_ix ix_str (pv 0) pe_int (fun _ _ => rfl)) pe_str (nomark _))))))))) (pss_one (ps_ret (pe_un un_neg pe_int))) pss_nil)
      (pss_cons (ps_for PassesOwn.never rfl (pi_str (pv 0)) (pg_name (i := 2) scLNumber.nd rfl (Or.inl rfl)) (pss_one (ps_if (pt_cmpR op_notin_str (pv 2) pe_str (by with_unfolding_all rfl)) (pss_one (ps_ret (pe_un un_neg pe_int))) pss_nil)))
      (pss_one (ps_ret (pe_callTy call_int_text (by rfl) L.int PyProof.Rows.boot_int (pa_cons (pv 0) pa_nil)))))), ?_⟩
    have no : lnOk p most = false → ∀ H', Same H H' → Q (.int (-1)) H' := fun z H' s' => by
      have := k H' s'
      unfold lnum at this
      rwa [z, if_neg (by decide)] at this
    have hll : p.cps.toList.length = p.length := Array.length_toList
    refine ⟨fun σ H' => σ = [some (.str p), some (.int (most : Int)), none] ∧ H' = H ∧ p.length ≠ 0 ∧ p.length ≤ most ∧ ¬ (1 < p.length ∧ p.cps.toList.head? = some 48), ?_, ?_⟩
    · refine ⟨_, rfl, rfl, _, rfl, iteStr (fun z => iteT ?_) (fun z => ?_)⟩
      · refine ⟨_, rfl, no ?_ H (Same.refl H)⟩
        rw [z]
        unfold lnOk
        rw [decide_eq_false (fun q => q.1 (by decide +kernel)), Bool.false_and]
      have hl0 : p.length ≠ 0 := fun e => z (Str.ext' (Array.toList_inj.mp (by
        rw [List.length_eq_zero_iff.mp (hll.trans e)]; rfl)))
      refine ⟨_, rfl, p, rfl, by omega, _, rfl, _, _, rfl, rfl, _, rfl, iteD (fun z2 => iteT ?_) (fun z2 => ?_)⟩
      · refine ⟨_, rfl, no ?_ H (Same.refl H)⟩
        unfold lnOk
        rw [decide_eq_false (fun q => absurd q.2.1 (by omega)), Bool.false_and]
      have h30 : p.length ≤ most := by omega
      refine ⟨_, rfl, p, rfl, by omega, _, _, rfl, rfl, _, rfl, iteD (fun z3 => ?_) (fun z3 => ⟨rfl, rfl, hl0, h30, fun q => z3 (by omega)⟩)⟩
      obtain ⟨c0, r0, ec⟩ : ∃ c0 r0, p.cps.toList = c0 :: r0 := by
        cases e : p.cps.toList with
        | nil => rw [e] at hll; exact absurd hll.symm hl0
        | cons a b => exact ⟨a, b, rfl⟩
      have e1 : ((("0" : Str))) = ⟨#[48]⟩ := by decide +kernel
      refine ⟨_, rfl, p, 0, c0, rfl, rfl, by omega, atI_nat (xs := p.cps.toList) (j := 0) (by rw [ec]; rfl), rfl, _, rfl, iteStr (fun z4 => ?_) (fun z4 => ⟨rfl, rfl, hl0, h30, fun q => z4 ?_⟩)⟩
      · rw [e1] at z4
        have e48 : c0 = 48 := by simpa using z4
        refine ⟨_, rfl, no ?_ H (Same.refl H)⟩
        unfold lnOk
        rw [decide_eq_false (fun q => q.2.2 ⟨by omega, by rw [ec, e48]; rfl⟩), Bool.false_and]
      · have e48 : c0 = 48 := by
          have := q.2
          rw [ec] at this
          exact Option.some.inj this
        rw [e48, e1]
    rintro σ H1 ⟨rfl, rfl, hl0, h30, hz⟩
    have tail : lnOk p most = p.cps.toList.all fun c => decide (48 ≤ c ∧ c ≤ 57) := by
      unfold lnOk
      rw [decide_eq_true ⟨hl0, h30, hz⟩, Bool.true_and]
    refine ⟨_, rfl, p, rfl, ha, for_str (z := p) (fun i σ H' => ∃ v2 : Option V, σ = [some (.str p), some (.int (most : Int)), v2] ∧ H' = H1 ∧ (p.cps.toList.take i).all (fun c => decide (48 ≤ c ∧ c ≤ 57)) = true)
      ⟨none, rfl, rfl, rfl⟩ ?_ ?_⟩
    · rintro i c σ H' hc ⟨v2, rfl, rfl, hall⟩
      have et : p.cps.toList[i]? = some c := by rw [Array.getElem?_toList]; exact hc
      refine ⟨_, rfl, _, _, rfl, rfl, _, rfl, ?_⟩
      rw [fig_in]
      refine iteND (fun z => ?_) (fun z => ?_)
      · refine ⟨_, rfl, no ?_ H' (Same.refl _)⟩
        rw [tail, List.all_eq_false]
        exact ⟨c, List.mem_of_getElem? et, by simpa using z⟩
      · refine ⟨_, rfl, rfl, ?_⟩
        rw [List.take_add_one, et, List.all_append, hall]
        simpa using z
    · rintro σ H' ⟨v2, rfl, rfl, hall⟩
      rw [List.take_of_length_le (by rw [Array.length_toList]; exact Nat.le_refl _)] at hall
      have hok : lnOk p most = true := by rw [tail]; exact hall
      have hn := ((lnOk_iff hm).mp hok).1
      have := k H' (Same.refl _)
      unfold lnum at this
      rw [if_pos hok] at this
      exact ⟨_, rfl, p, _, rfl, isNum_reads hn, by omega, this⟩
def dueC (ps : List Str) : Lay := if rdOk ps = true then rdLay ps else []
def dueI (ps : List Str) : Nat := if rdOk ps = true then rdRule ps else 0
def spLDue : Sp := fun vs H Q _ => ∃ t : Str, vs = [.str t] ∧ TM.Asc t ∧ t.length ≤ 9000 ∧ ∀ (q r : Addr) (H' : Hp), Same H H' → H' q = some (.tup [.ref r, .int (dueI (Txt.split t (" " : Str)) : Nat)]) → H' r = some (.lst (layV (dueC (Txt.split t (" " : Str))))) → Q (.ref q) H'
def kindsL : List Str := [("first:" : Str), ("name:" : Str), ("far:" : Str)]
theorem kinds_in (p : Str) : inV (.str p) (kindsL.map V.str) = (ruleAt p).isSome := by
  have e : ∀ a b : Str, eqV (.str a) (.str b) = decide (b = a) := fun a b => by
    show (a == b) = _
    rw [Bool.eq_iff_iff, beq_iff_eq, decide_eq_true_iff]
    exact ⟨Eq.symm, Eq.symm⟩
  unfold inV kindsL ruleAt
  simp only [List.map_cons, List.map_nil, List.any_cons, List.any_nil, e, Bool.or_false]
  by_cases h0 : p = ("first:" : Str)
  · rw [if_pos h0, decide_eq_true h0]; rfl
  rw [if_neg h0, decide_eq_false h0, Bool.false_or]
  by_cases h1 : p = ("name:" : Str)
  · rw [if_pos h1, decide_eq_true h1]; rfl
  rw [if_neg h1, decide_eq_false h1, Bool.false_or]
  by_cases h2 : p = ("far:" : Str)
  · rw [if_pos h2, decide_eq_true h2]; rfl
  rw [if_neg h2, decide_eq_false h2]; rfl
theorem kinds_at {p : Str} {r : Nat} (h : ruleAt p = some r) : kindsL[r]? = some p ∧ ∀ m z, m < r → kindsL[m]? = some z → z ≠ p := by
  have d1 : (("first:" : Str)) ≠ ("name:" : Str) := by decide +kernel
  have d2 : (("first:" : Str)) ≠ ("far:" : Str) := by decide +kernel
  have d3 : (("name:" : Str)) ≠ ("far:" : Str) := by decide +kernel
  unfold ruleAt at h
  split at h
  · next e =>
    cases h
    exact ⟨by rw [e]; rfl, fun m z hm => absurd hm (Nat.not_lt_zero m)⟩
  · split at h
    · next n0 e =>
      cases h
      refine ⟨by rw [e]; rfl, fun m z hm hz => ?_⟩
      have : m = 0 := by omega
      subst this
      cases hz
      exact Ne.symm n0
    · split at h
      · next n0 n1 e =>
        cases h
        refine ⟨by rw [e]; rfl, fun m z hm hz => ?_⟩
        have : m = 0 ∨ m = 1 := by omega
        rcases this with rfl | rfl
        · cases hz; exact Ne.symm n0
        · cases hz; exact Ne.symm n1
      · cases h
theorem scLDue : FnScope ["text", "words", "kinds", "row", "word"] ["text"] (defScope sLDue) := ⟨rfl, rfl, rfl, by decide +kernel, rfl, by decide +kernel, by decide +kernel⟩
set_option maxHeartbeats 1000000 in
theorem ok_ldue {f : Addr} {fd : FuncData} (F : Fun K "_law_due" "_law_due" sLDue f fd) (L : LTxt K mg) (GN : FnG P w K mg base "_law_number" ["word", "most"] 1 spLNumber) : FnOk P w K mg base CX0 2 f fd ["text"] spLDue := by
  refine F.ok scLDue (fun vs H Q E h => ?_) (fun cdv A outer s H vs Q E hr h => ?_)
  · obtain ⟨t, rfl, _⟩ := h
    rfl
  · obtain ⟨t, rfl, hasc, hlen, k⟩ := h
    have szl : sizeLine ≥ 100000 := by decide
    refine ⟨_, (pss_cons (ps_set (i := 1) scLDue.nd rfl (Or.inl rfl) (pe_bm PySem.F.plainAttrs_str PySem.F.slot_str_split PySem.F.type_str_split mt_split (pv 0) (pa_cons pe_str pa_nil)))
      (pss_cons (ps_set (i := 2) scLDue.nd rfl (Or.inl rfl) (pe_lst (pa_cons pe_str (pa_cons pe_str (pa_cons pe_str pa_nil)))))
      (pss_mid (ps_if (PW.pt (pw_or (pt_cmpR op_lt (pe_callB call_len_seq (by rfl) L.len PySem.boot_len (pa_cons (pv 1) pa_nil)) pe_int (nomark _)) (pw_or (pt_cmpR op_notIn_seq (pe_ix ix_list (pv 1) pe_int (fun _ _ => rfl)) (pv 2) (by with_unfolding_all rfl))
        (pw_or1 (pt_cmpR op_ne (pe_fn GN hr (pa_cons (pe_ix ix_list (pv 1) pe_int (fun _ _ => rfl)) (pa_cons pe_int pa_nil))) (pe_op op_sub (pe_callB call_len_seq (by rfl) L.len PySem.boot_len (pa_cons (pv 1) pa_nil)) pe_int) (nomark _)))))) (pss_one (ps_ret (pe_tup (pa_cons (pe_lst pa_nil) (pa_cons pe_int pa_nil))))) pss_nil)
      (pss_cons (ps_if (PW.pt (pw_or (pt_cmpR op_lt (pe_callB call_len_seq (by rfl) L.len PySem.boot_len (pa_cons (pv 1) pa_nil)) pe_int (nomark _)) (pw_or1 (pt_cmpR op_gt (pe_callB call_len_seq (by rfl) L.len PySem.boot_len (pa_cons (pv 1) pa_nil)) pe_int (nomark _))))) (pss_one (ps_ret (pe_tup (pa_cons (pe_lst pa_nil) (pa_cons pe_int pa_nil))))) pss_nil)
      (pss_cons (ps_set (i := 3) scLDue.nd rfl (Or.inl rfl) (pe_lst pa_nil))
      (pss_cons (ps_for PassesOwn.never rfl (pi_list (pe_slice sl_list (pv 1) (po_some pe_int) po_none)) (pg_name (i := 4) scLDue.nd rfl (Or.inl rfl)) (pss_one (ps_if (pt_cmpR op_eq (pv 4) pe_str (nomark _)) (pss_one (ps_expr (pe_bm PySem.F.plainAttrs_list PySem.F.slot_list_append PySem.F.type_list_append mt_append (pv 3) (pa_cons pe_non pa_nil))))
          (pss_one (ps_if (pt_cmpR op_lt (pe_fn GN hr (pa_cons (pv 4) (pa_cons pe_int pa_nil))) pe_int (nomark _)) (pss_one (ps_ret (pe_tup (pa_cons (pe_lst pa_nil) (pa_cons pe_int pa_nil)))))
            (pss_one (ps_expr (pe_bm PySem.F.plainAttrs_list PySem.F.slot_list_append PySem.F.type_list_append mt_append (pv 3) (pa_cons (pe_fn GN hr (pa_cons (pv 4) (pa_cons pe_int pa_nil))) pa_nil)))))))))
      (pss_one (ps_ret (pe_tup (pa_cons (pv 3) (pa_cons (pe_bm PySem.F.plainAttrs_list PySem.F.slot_list_index PySem.F.type_list_index mt_index (pv 2) (pa_cons (pe_ix ix_list (pv 1) pe_int (fun _ _ => rfl)) pa_nil)) pa_nil))))))))))), ?_⟩
    refine ⟨_, rfl, rfl, _, _, rfl, rfl, by decide +kernel, by omega, fun l hl => ?_⟩
    have hpl := TM.parts_len t
    have hpos := PyProof.Rows.split_pos t (" " : Str)
    have hpa : ∀ p ∈ Txt.split t (" " : Str), TM.Asc p ∧ p.length ≤ 10000 := fun p hp => ⟨TM.part_ascii hasc hp, by have := (TM.part_of hp).2; omega⟩
    generalize Txt.split t (" " : Str) = ps at k hpl hpa hpos
    have s1 := same_upd (o := .lst (ps.map V.str)) hl
    have gl : upd H l (.lst (ps.map V.str)) l = some (.lst (ps.map V.str)) := upd_same
    generalize upd H l (.lst (ps.map V.str)) = H1 at s1 gl
    refine ⟨(by show 3 ≤ sizeLine; decide), fun lk hlk => ?_⟩
    have s2 := s1.trans (same_upd (o := .lst (kindsL.map V.str)) hlk)
    have gl2 := (same_upd (o := .lst (kindsL.map V.str)) hlk) _ _ gl
    have gk : upd H1 lk (.lst (kindsL.map V.str)) lk = some (.lst (kindsL.map V.str)) := upd_same
    show gName 2 (V.ref lk) _ (upd H1 lk (.lst (kindsL.map V.str))) _
    generalize upd H1 lk (.lst (kindsL.map V.str)) = H2 at s2 gl2 gk
    -- nothing is due
    have none' : rdOk ps = false → ∀ (H' : Hp) (lr q : Addr), Same H H' → H' lr = none → upd H' lr (.lst ([] : List V)) q = none → Q (.ref q) (upd (upd H' lr (.lst ([] : List V))) q (.tup [.ref lr, .int 0])) := fun z H' lr q s' hlr hq => by
      have e1 : dueI ps = 0 := by unfold dueI; rw [z, if_neg (by decide)]
      have e2 : dueC ps = [] := by unfold dueC; rw [z, if_neg (by decide)]
      rw [e1, e2] at k
      have nq : lr ≠ q := ne_of_none (show upd H' lr (.lst ([] : List V)) lr = some _ from upd_same) hq
      exact k q lr _ ((s'.trans (same_upd hlr)).trans (same_upd hq)) upd_same (by rw [upd_ne nq, upd_same]; rfl)
    refine ⟨fun σ H' => ∃ p0 p1 r, ps = p0 :: p1 :: r ∧ σ = [some (.str t), some (.ref l), some (.ref lk), none, none] ∧ Same H2 H' ∧ (∃ ru, ruleAt p1 = some ru) ∧ isNum p0 = true ∧ numN p0 = r.length, ?_, ?_⟩
    · refine ⟨_, rfl, l, _, rfl, .inl (SqL.of gl2), _, _, rfl, rfl, _, rfl, iteD (fun z => iteT ?_) (fun z => ?_)⟩
      · refine ⟨(by show 0 ≤ sizeLine; decide), fun lr hlr => ⟨(by show 2 ≤ sizeLine; decide), fun q hq => none' ?_ H2 lr q s2 hlr hq⟩⟩
        rw [List.length_map] at z
        match ps, z with
        | [], _ => rfl
        | [_], _ => rfl
        | _ :: _ :: r, z => exfalso; simp only [List.length_cons] at z; omega
      obtain ⟨p0, p1, r, rfl⟩ : ∃ p0 p1 r, ps = p0 :: p1 :: r := by
        rw [List.length_map] at z
        match ps, z with
        | [], z => exact absurd (by simp) z
        | [_], z => exact absurd (by simp) z
        | p0 :: p1 :: r, _ => exact ⟨p0, p1, r, rfl⟩
      obtain ⟨a0, b0⟩ := hpa p0 (by simp)
      refine ⟨_, rfl, l, _, _, _, rfl, rfl, SqL.of gl2, atI_nat (j := 1) rfl, _, rfl, lk, _, rfl, .inl (SqL.of gk), rfl, rfl, _, rfl, ?_⟩
      rw [show (if true = true then !inV (V.str p1) (kindsL.map V.str) else inV (V.str p1) (kindsL.map V.str)) = !(ruleAt p1).isSome from congrArg not (kinds_in p1)]
      refine iteNB (fun z1 => iteT ?_) (fun z1 => ?_)
      · refine ⟨(by show 0 ≤ sizeLine; decide), fun lr hlr => ⟨(by show 2 ≤ sizeLine; decide), fun q hq => none' ?_ H2 lr q s2 hlr hq⟩⟩
        simp [rdOk, z1]
      obtain ⟨ru, e1⟩ := Option.isSome_iff_exists.mp z1
      refine ⟨_, rfl, l, _, _, _, rfl, rfl, SqL.of gl2, atI_nat (j := 0) rfl, p0, 3, rfl, a0, b0, by decide, fun H3 s3 => ?_⟩
      refine ⟨_, rfl, l, _, rfl, .inl (SqL.of (s3 _ _ gl2)), _, _, rfl, rfl, rfl, _, rfl, iteNI (fun z2 => ?_) (fun z2 => ?_)⟩
      · refine ⟨(by show 0 ≤ sizeLine; decide), fun lr hlr => ⟨(by show 2 ≤ sizeLine; decide), fun q hq => none' ?_ H3 lr q (s2.trans s3) hlr hq⟩⟩
        cases e : rdOk (p0 :: p1 :: r) with
        | false => rfl
        | true =>
          exfalso
          simp only [rdOk, Bool.and_eq_true, decide_eq_true_eq] at e
          obtain ⟨⟨⟨n0, _⟩, _⟩, m1, m2, m3⟩ := e
          refine z2 ?_
          unfold lnum
          rw [if_pos ((lnOk_iff (by decide)).mpr ⟨n0, isNum_few n0 m2⟩)]
          simp only [List.length_map, List.length_cons]
          omega
      · have h0 : lnOk p0 3 = true := by
          cases e : lnOk p0 3 with
          | true => rfl
          | false =>
            exfalso
            unfold lnum at z2
            rw [e, if_neg (by decide)] at z2
            simp only [List.length_map, List.length_cons] at z2
            omega
        unfold lnum at z2
        rw [if_pos h0] at z2
        simp only [List.length_map, List.length_cons] at z2
        exact ⟨p0, p1, r, rfl, rfl, s3, ⟨ru, e1⟩, ((lnOk_iff (by decide)).mp h0).1, by omega⟩
    rintro σ H3 ⟨p0, p1, r, rfl, rfl, s3, ⟨ru, e1⟩, e0, hn⟩
    have sH3 := s2.trans s3
    have gl3 := s3 _ _ gl2
    have gk3 := s3 _ _ gk
    have bad : ¬ (2 ≤ r.length ∧ r.length ≤ 200) → rdOk (p0 :: p1 :: r) = false := fun z => by
      have : ¬ (2 ≤ numN p0 ∧ numN p0 ≤ 200 ∧ r.length = numN p0) := fun q => z ⟨by omega, by omega⟩
      simp [rdOk, this]
    refine ⟨_, rfl, l, _, rfl, .inl (SqL.of gl3), _, _, rfl, rfl, _, rfl, iteD (fun z => iteT ?_) (fun z => ?_)⟩
    · refine ⟨(by show 0 ≤ sizeLine; decide), fun lr hlr => ⟨(by show 2 ≤ sizeLine; decide), fun q hq => none' (bad ?_) H3 lr q sH3 hlr hq⟩⟩
      simp only [List.length_map, List.length_cons] at z
      omega
    refine ⟨_, rfl, l, _, rfl, .inl (SqL.of gl3), _, _, rfl, rfl, _, rfl, iteD (fun z2 => ?_) (fun z2 => ?_)⟩
    · refine ⟨(by show 0 ≤ sizeLine; decide), fun lr hlr => ⟨(by show 2 ≤ sizeLine; decide), fun q hq => none' (bad ?_) H3 lr q sH3 hlr hq⟩⟩
      simp only [List.length_map, List.length_cons] at z2
      omega
    simp only [List.length_map, List.length_cons] at z z2
    have hr2 : 2 ≤ r.length := by omega
    have hr200 : r.length ≤ 200 := by omega
    -- the cells
    refine ⟨(by show 0 ≤ sizeLine; decide), fun lr hlr => ?_⟩
    have hlr0 : H lr = none := sH3.free hlr
    have s4 := same_upd (o := .lst ([] : List V)) hlr
    refine ⟨_, rfl, _, rfl, l, _, rfl, SqL.of (s4 _ _ gl3), fun lc hlc => ?_⟩
    have ecut : cutV ((p0 :: p1 :: r).map V.str) (some 2) none = r.map V.str := by
      unfold cutV
      rw [show HT.sIx ((p0 :: p1 :: r).map V.str).length 0 (some 2) = 2 from by
        simp only [List.length_map, List.length_cons, HT.sIx]
        rw [if_neg (by decide)]
        show min 2 _ = 2
        omega]
      show (r.map V.str).take _ = _
      refine List.take_of_length_le ?_
      show _ ≤ ((p0 :: p1 :: r).map V.str).length - 2
      simp only [List.length_map, List.length_cons]
      omega
    rw [ecut]
    have s5 := same_upd (o := .lst (r.map V.str)) hlc
    have gc : upd (upd H3 lr (.lst ([] : List V))) lc (.lst (r.map V.str)) lc = some (.lst (r.map V.str)) := upd_same
    have gr5 : upd (upd H3 lr (.lst ([] : List V))) lc (.lst (r.map V.str)) lr = some (.lst ([] : List V)) := s5 _ _ upd_same
    have nlc : lc ≠ lr := (ne_of_none (show upd H3 lr (.lst ([] : List V)) lr = some _ from upd_same) hlc).symm
    have sH5 := (sH3.trans s4).trans s5
    have gl5 := s5 _ _ (s4 _ _ gl3)
    have gk5 := s5 _ _ (s4 _ _ gk3)
    have nlr : l ≠ lr := ne_of_none gl3 hlr
    have nkr : lk ≠ lr := ne_of_none gk3 hlr
    generalize upd (upd H3 lr (.lst ([] : List V))) lc (.lst (r.map V.str)) = H5 at gc gr5 sH5 gl5 gk5
    refine ⟨lc, rfl, ⟨_, SqL.of gc⟩, for_list (K := K) (a := lc) (xs := r.map V.str) (fun i σ H' => ∃ v4 : Option V, σ = [some (.str t), some (.ref l), some (.ref lk), some (.ref lr), v4] ∧ SameX lr H5 H' ∧ (r.take i).all okCell = true ∧ H' lr = some (.lst (layV ((r.take i).map cellVal))))
      ⟨none, rfl, SameX.refl lr H5, rfl, gr5⟩ (fun i σ H' _ ⟨_, _, sx, _⟩ => SqL.of (sx _ _ gc nlc)) ?_ ?_⟩
    · rintro i x σ H' hi ⟨v4, rfl, sx, hall, gr⟩
      obtain ⟨p, hp, rfl⟩ : ∃ p, r[i]? = some p ∧ x = V.str p := by
        rw [List.getElem?_map] at hi
        cases e : r[i]? with
        | none => rw [e] at hi; cases hi
        | some p => rw [e] at hi; exact ⟨p, rfl, (Option.some.inj hi).symm⟩
      have hpm : p ∈ r := List.mem_of_getElem? hp
      obtain ⟨ap, bp⟩ := hpa p (List.mem_cons_of_mem _ (List.mem_cons_of_mem _ hpm))
      have et : layV ((r.take (i + 1)).map cellVal) = layV ((r.take i).map cellVal) ++ [cV (cellVal p)] := by
        unfold layV
        rw [List.take_add_one, hp, List.map_append, List.map_append]
        rfl
      have hlen : ∀ H'', SameX lr H' H'' → (layV ((r.take i).map cellVal)).length < sizeLine := fun _ _ => by
        rw [layV_len, List.length_map, List.length_take]
        omega
      have fin : ∀ H'', Same H' H'' → okCell p = true → ∃ v4 : Option V, [some (V.str t), some (.ref l), some (.ref lk), some (.ref lr), some (.str p)] = [some (V.str t), some (.ref l), some (.ref lk), some (.ref lr), v4] ∧ SameX lr H5 (upd H'' lr (.lst (layV ((r.take i).map cellVal) ++ [cV (cellVal p)]))) ∧ (r.take (i + 1)).all okCell = true ∧
          upd H'' lr (.lst (layV ((r.take i).map cellVal) ++ [cV (cellVal p)])) lr = some (.lst (layV ((r.take (i + 1)).map cellVal))) := fun H'' s'' hk => by
        refine ⟨_, rfl, fun b o eb nb => ?_, ?_, by rw [upd_same, et]⟩
        · rw [upd_ne nb]
          exact s'' b o (sx b o eb nb)
        · rw [List.take_add_one, hp, List.all_append, hall]
          simpa using hk
      refine ⟨_, rfl, rfl, _, rfl, iteStr (fun hd => ?_) (fun hd => ?_)⟩
      · rw [cell_none hd] at fin
        exact ⟨_, rfl, .inl ⟨rfl, _, SqL.of gr⟩, lr, _, _, rfl, rfl, gr, hlen H' (SameX.refl lr H'), fin H' (Same.refl H') (by simp [okCell, hd])⟩
      · rw [cell_some hd] at fin
        refine ⟨_, rfl, p, 30, rfl, ap, bp, by decide, fun H6 s6 => ⟨_, _, rfl, rfl, _, rfl, ?_⟩⟩
        cases en : isNum p with
        | false =>
          have el : lnum p 30 = -1 := by rw [lnum_30, en]; rfl
          rw [el]
          refine iteD (fun _ => ?_) (fun z3 => absurd (by decide) z3)
          refine ⟨(by show 0 ≤ sizeLine; decide), fun l7 hl7 => ⟨(by show 2 ≤ sizeLine; decide), fun q hq => none' ?_ H6 l7 q (fun b o e => s6 b o (sx b o (sH5 b o e) (ne_of_none e hlr0))) hl7 hq⟩⟩
          have : r.all okCell = false := by
            rw [List.all_eq_false]
            exact ⟨p, hpm, by simp [okCell, hd, en]⟩
          simp [rdOk, this]
        | true =>
          have el : lnum p 30 = (numN p : Int) := by rw [lnum_30, en]; rfl
          rw [el]
          refine iteD (fun z3 => ?_) (fun _ => ?_)
          · exfalso; omega
          refine ⟨_, rfl, .inl ⟨rfl, _, SqL.of (s6 _ _ gr)⟩, _, rfl, p, 30, rfl, ap, bp, by decide, fun H7 s7 => ?_⟩
          rw [el]
          exact ⟨lr, _, _, rfl, rfl, s7 _ _ (s6 _ _ gr), hlen H' (SameX.refl lr H'), fin H7 (s6.trans s7) (by simp [okCell, en])⟩
    · rintro σ H' ⟨v4, rfl, sx, hall, gr⟩
      rw [List.length_map, List.take_of_length_le (Nat.le_refl _)] at gr hall
      have hrd : rdOk (p0 :: p1 :: r) = true := by
        simp only [rdOk, e0, e1, hall, Bool.true_and, Option.isSome_some, decide_eq_true_eq]
        exact ⟨by omega, by omega, by omega⟩
      have ei : dueI (p0 :: p1 :: r) = ru := by unfold dueI; rw [if_pos hrd]; simp [rdRule, e1]
      have ec : dueC (p0 :: p1 :: r) = r.map cellVal := by unfold dueC; rw [if_pos hrd]; rfl
      obtain ⟨k1, k2⟩ := kinds_at e1
      have eqS : ∀ a b : Str, eqV (.str a) (.str b) = decide (a = b) := fun a b => by
        show (a == b) = _
        rw [Bool.eq_iff_iff, beq_iff_eq, decide_eq_true_iff]
      refine ⟨_, rfl, _, rfl, .inl ⟨rfl, _, SqL.of (sx _ _ gk5 nkr)⟩, _, rfl, l, _, _, _, rfl, rfl, SqL.of (sx _ _ gl5 nlr), atI_nat (j := 1) rfl, lk, _, _, ru, V.str p1, rfl, rfl, SqL.of (sx _ _ gk5 nkr), rfl, rfl, by rw [List.getElem?_map, k1]; rfl, by rw [eqS]; simp, fun m z hm hz => ?_, (by show 2 ≤ sizeLine; decide), fun q hq => ?_⟩
      · rw [List.getElem?_map] at hz
        cases e : kindsL[m]? with
        | none => rw [e] at hz; cases hz
        | some y =>
          rw [e] at hz
          cases hz
          rw [eqS, decide_eq_false (k2 m y hm e)]
      · have nq : lr ≠ q := ne_of_none gr hq
        refine k q lr _ (fun b o e => ?_) (by rw [upd_same, ei]) (by rw [upd_ne nq, gr, ec])
        have h1 := sx b o (sH5 b o e) (ne_of_none e hlr0)
        rw [upd_ne (ne_of_none h1 hq)]
        exact h1
theorem scLTold : FnScope ["text", "e"] ["text"] (defScope sLTold) := ⟨rfl, rfl, rfl, by decide +kernel, rfl, by decide +kernel, by decide +kernel⟩
def spLTold15 (C : Addr) : Sp := fun vs H Q _ => ∃ t : Str, vs = [.str t] ∧ TM.Asc t ∧ t.length ≤ 9000 ∧
  ((rdOk (Txt.split t (" " : Str)) = false ∧ ∀ (q : Addr) (H' : Hp), Same H H' → H' q = some (.tup ([true, false, true].map V.bl)) → Q (.ref q) H') ∨
   (rdOk (Txt.split t (" " : Str)) = true ∧ ((¬ Right (rdLay (Txt.split t (" " : Str))).length (rdRule (Txt.split t (" " : Str))) (rdLay (Txt.split t (" " : Str))) ∧ ∀ (q : Addr) (H' : Hp), Same H H' → H' q = some (.tup ([false, true, true].map V.bl)) → Q (.ref q) H') ∨
    (Right (rdLay (Txt.split t (" " : Str))).length (rdRule (Txt.split t (" " : Str))) (rdLay (Txt.split t (" " : Str))) ∧ ∀ (y ca : Addr) (H' : Hp), H y = none → H ca = none → Same H H' → YardAt C H' y ca (rdLay (Txt.split t (" " : Str))).length (rdRule (Txt.split t (" " : Str))) (rdLay (Txt.split t (" " : Str))) → Q (.ref y) H'))))
theorem ok_ltold15 {f C CR CL CY : Addr} {fd : FuncData} (F : Fun K "_law_told" "_law_told" sLTold f fd) (L : LTxt K mg) (Lv : mg "ValueError" = none) (mY : mg "YardError" = some (.ref CY)) (OR : ExcT K mg base "NotRead" CR CY) (OL : ExcT K mg base "NotLaid" CL CY)
    (kRL : PySem.W.kitOne K (.ref CR) (.ref CL) = some false) (kLR : PySem.W.kitOne K (.ref CL) (.ref CR) = some false) (GRd : FnX P w K mg base "read" ["text"] 6 (spRead C CR CL)) : FnOk P w K mg base CX0 7 f fd ["text"] (spLTold15 C) := by
  refine F.ok scLTold (fun vs H Q E h => ?_) (fun cdv A outer s H vs Q E hr h => ?_)
  · obtain ⟨t, rfl, _⟩ := h
    rfl
  · obtain ⟨t, rfl, hasc, hlen, hcase⟩ := h
    refine ⟨_, (pss_one (ps_try (i := 1) rfl rfl rfl scLTold.nd rfl rfl rfl mY (fun pins E' => pss_one (ps_ret (pe_fnX GRd hr bodyPasses (pa_cons (pv 0) pa_nil))))
        (fun ea => pss_one (ps_ret (pe_tup (pa_cons (pe_callB (call_isinstX K rfl) (by rfl) L.isi PyProof.Rows.boot_isinstance (pa_cons (pv 1) (pa_cons (pe_glob (v := .ref CR) rfl OR.own.bound rfl) pa_nil)))
          (pa_cons (pe_callB (call_isinstX K rfl) (by rfl) L.isi PyProof.Rows.boot_isinstance (pa_cons (pv 1) (pa_cons (pe_glob (v := .ref CL) rfl OL.own.bound rfl) pa_nil)))
          (pa_cons (pe_callB (call_isinstX K rfl) (by rfl) L.isi PyProof.Rows.boot_isinstance (pa_cons (pv 1) (pa_cons (pe_bltn (v := .ty "ValueError") rfl Lv PyProof.Rows.Boot.«ValueError» rfl) pa_nil))) pa_nil)))))))), ?_⟩
    refine ⟨_, rfl, t, rfl, hasc, hlen, ?_⟩
    rcases hcase with ⟨hno, k⟩ | ⟨hok, ⟨hR, k⟩ | ⟨hR, k⟩⟩
    · refine .inl ⟨hno, fun H' s' => ⟨OR.exm, fun σ' ea hl hea => ?_⟩⟩
      have hg : (σ'.set 1 (some (.ref ea)))[1]? = some (some (.ref ea)) := List.getElem?_set_self (by rw [hl]; show 1 < 2; decide)
      refine ⟨_, hg, ea, CR, _, _, true, rfl, rfl, upd_same, OR.cls, ExcT.me, _, hg, ea, CR, _, _, false, rfl, rfl, upd_same, OR.cls, kRL, _, hg, ea, CR, _, _, true, rfl, rfl, upd_same, OR.cls, OR.val, (by show 3 ≤ sizeLine; decide), fun q hq => ?_⟩
      exact k q _ ((s'.trans (same_upd hea)).trans (same_upd hq)) upd_same
    · refine .inr ⟨hok, .inl ⟨hR, fun H' s' => ⟨OL.exm, fun σ' ea hl hea => ?_⟩⟩⟩
      have hg : (σ'.set 1 (some (.ref ea)))[1]? = some (some (.ref ea)) := List.getElem?_set_self (by rw [hl]; show 1 < 2; decide)
      refine ⟨_, hg, ea, CL, _, _, false, rfl, rfl, upd_same, OL.cls, kLR, _, hg, ea, CL, _, _, true, rfl, rfl, upd_same, OL.cls, ExcT.me, _, hg, ea, CL, _, _, true, rfl, rfl, upd_same, OL.cls, OL.val, (by show 3 ≤ sizeLine; decide), fun q hq => ?_⟩
      exact k q _ ((s'.trans (same_upd hea)).trans (same_upd hq)) upd_same
    · exact .inr ⟨hok, .inr ⟨hR, fun y ca H' a1 a2 a3 a4 => k y ca H' a1 a2 a3 a4⟩⟩

theorem scCell : FnScope ["script", "k"] ["script", "k"] (defScope sCell) := ⟨rfl, rfl, rfl, by decide +kernel, rfl, by decide +kernel, by decide +kernel⟩
theorem ok_cell {f : Addr} {fd : FuncData} (F : Fun K "_law_cell" "_law_cell" sCell f fd) (L : LTxt K mg) : FnOk P w K mg base CX0 1 f fd ["script", "k"] (spCell K) := by
  refine F.ok scCell (fun vs H Q E h => ?_) (fun cdv A outer s H vs Q E hr h => ?_)
  · obtain ⟨a, ns, k, rfl, _⟩ := h
    rfl
  · obtain ⟨a, ns, i, rfl, hS, k⟩ := h
    refine ⟨_, pss_cons (ps_if (pt_cmpR op_lt (pv 1) (pe_callB call_len_seq (by rfl) L.len PySem.boot_len (pa_cons (pv 0) pa_nil)) (nomark _)) (pss_one (ps_ret (pe_ix ix_list (pv 0) (pv 1) (fun _ _ => rfl)))) pss_nil) (pss_one (ps_ret pe_int)), ?_⟩
    refine ⟨_, rfl, _, rfl, a, _, rfl, .inl hS, _, _, rfl, rfl, _, rfl, iteD (fun z => ?_) (fun z => ?_)⟩
    · rw [List.length_map] at z
      have hi : i < ns.length := by omega
      have e : (ns.map V.int)[i]? = some (.int (ns.getD i 0)) := by
        rw [List.getElem?_map, List.getD_eq_getElem?_getD, List.getElem?_eq_getElem hi]; rfl
      exact ⟨_, rfl, _, rfl, a, _, _, _, rfl, rfl, hS, atI_nat e, k⟩
    · rw [List.length_map] at z
      have e : ns.getD i 0 = 0 := by
        rw [List.getD_eq_getElem?_getD, List.getElem?_eq_none (by omega)]; rfl
      rw [e] at k
      exact k

theorem scWhole : FnScope ["found"] ["found"] (defScope sWhole) := ⟨rfl, rfl, rfl, by decide +kernel, rfl, by decide +kernel, by decide +kernel⟩
theorem ok_whole {f : Addr} {fd : FuncData} (F : Fun K "_law_whole" "_law_whole" sWhole f fd) (L : LTxt K mg) : FnOk P w K mg base CX0 1 f fd ["found"] spWhole := by
  refine F.ok scWhole (fun vs H Q E h => ?_) (fun cdv A outer s H vs Q E hr h => ?_)
  · obtain ⟨i, rfl, _⟩ := h
    rfl
  · obtain ⟨i, rfl, k⟩ := h
    refine ⟨_, pss_one (ps_ret (pe_and (pe_callB call_isinst (by rfl) L.isi PyProof.Rows.boot_isinstance (pa_cons (pv 0) (pa_cons (pe_bltn (v := .ty "int") rfl L.int PyProof.Rows.boot_int rfl) pa_nil)))
      (pe_one (pe_not (pe_callB call_isinst (by rfl) L.isi PyProof.Rows.boot_isinstance (pa_cons (pv 0) (pa_cons (pe_bltn (v := .ty "bool") rfl L.bool PyProof.Rows.boot_bool rfl) pa_nil))))))), ?_⟩
    refine ⟨_, rfl, _, _, _, _, rfl, .int i, L.kII, _, rfl, iteT ?_⟩
    exact ⟨_, rfl, _, _, _, _, rfl, .int i, L.kIB, _, rfl, k⟩

theorem scLWay : FnScope ["name", "at", "many"] ["name", "at", "many"] (defScope sLWay) := ⟨rfl, rfl, rfl, by decide +kernel, rfl, by decide +kernel, by decide +kernel⟩
theorem ok_lway {f : Addr} {fd : FuncData} (F : Fun K "_law_way" "_law_way" sLWay f fd) : FnOk P w K mg base CX0 1 f fd ["name", "at", "many"] spLWay := by
  refine F.ok scLWay (fun vs H Q E h => ?_) (fun cdv A outer s H vs Q E hr h => ?_)
  · obtain ⟨n, q, m, rfl, _⟩ := h
    rfl
  · obtain ⟨n, q, m, rfl, hq, k⟩ := h
    have hm : (0 : Int) < (m : Int) := by omega
    rw [← way_eq' (show 0 < m by omega) n hq] at k
    refine ⟨_, pss_one (ps_ret (pe_op op_mod (pe_op op_sub (pv 1) (pe_op op_mod (pv 0) (pv 2))) (pv 2))), ?_⟩
    exact ⟨_, rfl, _, rfl, _, rfl, _, _, rfl, rfl, hm, _, _, rfl, rfl, _, rfl, _, _, rfl, rfl, hm, k⟩

theorem scLKeeps : FnScope ["rule", "one", "other", "at", "many"] ["rule", "one", "other", "at", "many"] (defScope sLKeeps) := ⟨rfl, rfl, rfl, by decide +kernel, rfl, by decide +kernel, by decide +kernel⟩
theorem ok_lkeeps {f : Addr} {fd : FuncData} (F : Fun K "_law_keeps" "_law_keeps" sLKeeps f fd) (GW : FnG P w K mg base "_law_way" ["name", "at", "many"] 1 spLWay) : FnOk P w K mg base CX0 2 f fd ["rule", "one", "other", "at", "many"] spLKeeps := by
  refine F.ok scLKeeps (fun vs H Q E h => ?_) (fun cdv A outer s H vs Q E hr h => ?_)
  · obtain ⟨r, a, b, q, m, rfl, _⟩ := h
    rfl
  · obtain ⟨r, a, b, q, m, rfl, hq, r0, r2, k⟩ := h
    have hu := hu_of hr
    refine ⟨_, pss_cons (ps_if (pt_cmpR op_eq (pv 0) pe_int (nomark _)) (pss_one (ps_ret pe_bl)) pss_nil)
      (pss_cons (ps_if (pt_cmpR op_eq (pv 0) pe_int (nomark _)) (pss_one (ps_ret (pe_cmpR op_lt (pv 1) (pv 2) (nomark _)))) pss_nil)
      (pss_one (ps_ret (pe_cmpR (op_ltT (Nat.lt_of_succ_lt hu)) (pe_tup (pa_cons (pe_un un_neg (pe_fn GW hr (pa_cons (pv 1) (pa_cons (pv 3) (pa_cons (pv 4) pa_nil))))) (pa_cons (pv 1) pa_nil)))
        (pe_tup (pa_cons (pe_un un_neg (pe_fn GW hr (pa_cons (pv 2) (pa_cons (pv 3) (pa_cons (pv 4) pa_nil))))) (pa_cons (pv 2) pa_nil))) (nomark _))))), ?_⟩
    refine ⟨_, rfl, rfl, _, rfl, iteI (fun e => ?_) (fun e => ?_)⟩
    · have := k H (Same.refl H)
      rw [kp_zero e] at this
      exact this
    · refine ⟨_, rfl, rfl, _, rfl, iteI (fun e2 => ?_) (fun e2 => ?_)⟩
      · have := k H (Same.refl H)
        rw [kp_name e (by omega)] at this
        exact ⟨_, rfl, _, rfl, _, _, rfl, rfl, this⟩
      · refine ⟨_, rfl, _, rfl, _, rfl, _, _, _, rfl, hq, _, rfl, _, rfl, (by show 2 ≤ sizeLine; decide), fun t ht => ?_⟩
        refine ⟨_, rfl, _, rfl, _, rfl, _, _, _, rfl, hq, _, rfl, _, rfl, (by show 2 ≤ sizeLine; decide), fun t' ht' => ?_⟩
        have ntt : t ≠ t' := fun z => by subst z; rw [upd_same] at ht'; cases ht'
        refine ⟨t, t', [-(dist m (ws m a) q : Int), a], [-(dist m (ws m b) q : Int), b], rfl, rfl, SqT.of (by rw [upd_ne ntt, upd_same]; rfl), SqT.of upd_same, ?_⟩
        rw [lkp e e2 r0 r2]
        exact k _ ((same_upd ht).trans (same_upd ht'))

theorem scLPut : FnScope ["row", "rule", "name", "many", "stood", "at", "kept"] ["row", "rule", "name"] (defScope sLPut) := ⟨rfl, rfl, rfl, by decide +kernel, rfl, by decide +kernel, by decide +kernel⟩
theorem ok_lput {f : Addr} {fd : FuncData} (F : Fun K "_law_put" "_law_put" sLPut f fd) (L : LTxt K mg) (GK : FnG P w K mg base "_law_keeps" ["rule", "one", "other", "at", "many"] 2 spLKeeps) : FnOk P w K mg base CX0 3 f fd ["row", "rule", "name"] spLPut := by
  refine F.ok scLPut (fun vs H Q E h => ?_) (fun cdv A outer s H vs Q E hr h => ?_)
  · obtain ⟨a, m, rule, c, n, f0, rfl, _⟩ := h
    rfl
  · obtain ⟨a, m, rule, c, n, f0, rfl, ha, hc, r0, r2, h200, hf, h0, k⟩ := h
    have hm : 0 < m := by omega
    have hmi : (0 : Int) < (m : Int) := by omega
    refine ⟨_, pss_cons (ps_set (i := 3) scLPut.nd rfl (Or.inl rfl) (pe_callB call_len_seq (by rfl) L.len PySem.boot_len (pa_cons (pv 0) pa_nil)))
      (pss_cons (ps_set (i := 4) scLPut.nd rfl (Or.inl rfl) (pe_lst pa_nil))
      (pss_cons (ps_set (i := 5) scLPut.nd rfl (Or.inl rfl) (pe_op op_mod (pv 2) (pv 3)))
      (pss_cons (ps_while PassesOwn.never (pt_cmp (pc_notN (pe_ix ix_list (pv 0) (pv 5) (fun _ _ => rfl))))
        (pss_cons (ps_if (pt_not (pt_val (pe_fn GK hr (pa_cons (pv 1) (pa_cons (pe_ix ix_list (pv 0) (pv 5) (fun _ _ => rfl)) (pa_cons (pv 2) (pa_cons (pv 5) (pa_cons (pv 3) pa_nil))))))))
          (pss_cons (ps_expr (pe_bm PySem.F.plainAttrs_list PySem.F.slot_list_append PySem.F.type_list_append mt_append (pv 4) (pa_cons (pe_tup (pa_cons (pv 2) (pa_cons (pv 5) pa_nil))) pa_nil)))
          (pss_cons (ps_set (i := 6) scLPut.nd rfl (Or.inl rfl) (pe_ix ix_list (pv 0) (pv 5) (fun _ _ => rfl)))
          (pss_cons (ps_asg (pv 2) (pg_sub (pv 0) (pv 5) set_list))
          (pss_one (ps_set (i := 2) scLPut.nd rfl (Or.inl rfl) (pv 6)))))) pss_nil)
        (pss_one (ps_set (i := 5) scLPut.nd rfl (Or.inl rfl) (pe_op op_mod (pe_op op_add (pv 5) pe_int) (pv 3))))))
      (pss_cons (ps_asg (pv 2) (pg_sub (pv 0) (pv 5) set_list))
      (pss_cons (ps_expr (pe_bm PySem.F.plainAttrs_list PySem.F.slot_list_append PySem.F.type_list_append mt_append (pv 4) (pa_cons (pe_tup (pa_cons (pv 2) (pa_cons (pv 5) pa_nil))) pa_nil)))
      (pss_one (ps_ret (pv 4)))))))), ?_⟩
    refine ⟨_, rfl, a, _, rfl, .inl (SqL.of ha), ?_⟩
    rw [layV_len, hc]
    refine ⟨(by show 0 ≤ sizeLine; decide), fun l hl => ?_⟩
    have nla : l ≠ a := (ne_of_none ha hl).symm
    refine ⟨_, rfl, _, rfl, _, _, rfl, rfl, hmi, ?_⟩
    have hszl : sizeLine ≥ 1000 := by decide
    generalize htot : putL m rule m c n (ws m n) = tot at k
    refine ⟨fun j σ H' => ∃ (c' : Lay) (x : Int) (p : Nat) (pre : List (Int × Nat)) (st : Option V), σ = [some (.ref a), some (.int rule), some (.int x), some (.int (m : Int)), some (.ref l), some (.int (p : Int)), st] ∧ H' a = some (.lst (layV c')) ∧ c'.length = m ∧ Told H' l pre ∧
        pre ++ (putL m rule j c' x p).1 = tot.1 ∧ (putL m rule j c' x p).2 = tot.2 ∧ p < m ∧ g c' f0 = none ∧ dist m p f0 < j ∧ pre.length + j ≤ m ∧ SameX a H H',
      ⟨m, c, n, ws m n, [], none, by rw [ws_int hm]; rfl, by rw [upd_ne nla.symm]; exact ha, hc, ⟨⟨[], upd_same, .nil⟩⟩, by rw [htot]; rfl, by rw [htot], ws_lt hm n, h0, dist_lt (ws_lt hm n) hf, by simp, sx_of (same_upd hl)⟩, ?_⟩
    rintro j σ H' ⟨c', x, p, pre, st, rfl, ha', hc', T', e1, e2, hp, hf0, hd, hlen, sx⟩
    obtain ⟨j, rfl⟩ : ∃ i, j = i + 1 := ⟨j - 1, by omega⟩
    have hp' : p < c'.length := by rw [hc']; exact hp
    have hat := layV_at hp'
    unfold putL at e1 e2
    cases e : g c' p with
    | none =>
      rw [e] at hat e1 e2
      refine ⟨_, rfl, _, rfl, a, _, _, _, rfl, rfl, SqL.of ha', hat, _, rfl, iteF ?_⟩
      refine ⟨_, rfl, _, rfl, _, rfl, a, _, _, p, rfl, rfl, ha', layV_ix hp', ?_⟩
      have T2 : Told (upd H' a (.lst ((layV c').set p (.int x)))) l pre := T'.samex ha' nla samex_upd
      obtain ⟨ts, t1, t2⟩ := T2.ex
      refine ⟨_, rfl, .inl ⟨rfl, _, SqL.of t1⟩, _, rfl, _, rfl, (by show 2 ≤ sizeLine; decide), fun t ht => ?_⟩
      have T3 := T2.same (same_upd (o := .tup [.int x, .int (p : Int)]) ht)
      obtain ⟨ts3, u1, u2⟩ := T3.ex
      have hll := u2.length
      rw [List.length_map] at hll
      refine ⟨l, _, _, rfl, rfl, u1, ?_, ?_⟩
      · rw [List.length_map, hll]
        omega
      · have T5 := Told.snoc u1 u2 upd_same
        have nta : t ≠ a := fun z => by subst z; rw [upd_same] at ht; cases ht
        refine ⟨_, rfl, k l _ hl ?_ ?_ fun b o eb nb => ?_⟩
        · rw [← e1]; exact T5
        · rw [← e2, upd_ne nla.symm, upd_ne nta.symm, upd_same, layV_set]; rfl
        · rw [upd_ne (ne_of_none eb hl)]
          have := sx b o eb nb
          have ntb : b ≠ t := fun z => by
            subst z
            rw [upd_ne nb, this] at ht; cases ht
          rw [upd_ne ntb, upd_ne nb]
          exact this
    | some sd =>
      rw [e] at hat e1 e2
      have npf : p ≠ f0 := fun z => by subst z; rw [hf0] at e; cases e
      have dd := dist_to hp hf npf
      refine ⟨_, rfl, _, rfl, a, _, _, _, rfl, rfl, SqL.of ha', hat, _, rfl, iteT ?_⟩
      refine ⟨_, fun σ' H'' w' => ⟨j, Nat.lt_succ_self _, w'⟩, ?_⟩
      refine ⟨_, rfl, _, rfl, _, rfl, a, _, _, _, rfl, rfl, SqL.of ha', hat, _, rfl, _, rfl, _, rfl, rule, sd, x, p, m, rfl, hp, r0, r2, fun H2 s2 => ⟨_, rfl, iteNB (fun hb => ?_) (fun hb => ?_)⟩⟩
      · simp only [hb, Bool.false_eq_true, if_false] at e1 e2
        have ha2 := s2 _ _ ha'
        have T2 := T'.same s2
        obtain ⟨ts, t1, t2⟩ := T2.ex
        refine ⟨_, rfl, .inl ⟨rfl, _, SqL.of t1⟩, _, rfl, _, rfl, (by show 2 ≤ sizeLine; decide), fun t ht => ?_⟩
        have T3 := T2.same (same_upd (o := .tup [.int x, .int (p : Int)]) ht)
        obtain ⟨ts3, u1, u2⟩ := T3.ex
        have hll := u2.length
        rw [List.length_map] at hll
        have nta : t ≠ a := (ne_of_none ha2 ht).symm
        refine ⟨l, _, _, rfl, rfl, u1, ?_, ?_⟩
        · rw [List.length_map, hll]
          omega
        · have T5 := Told.snoc u1 u2 upd_same
          have ha5 : (upd (upd H2 t (.tup [.int x, .int (p : Int)])) l (.lst (ts3.map V.ref ++ [.ref t]))) a = some (.lst (layV c')) := by rw [upd_ne nla.symm, upd_ne nta.symm]; exact ha2
          refine ⟨_, rfl, _, rfl, a, _, _, _, rfl, rfl, SqL.of ha5, hat, ?_⟩
          refine ⟨_, rfl, _, rfl, _, rfl, a, _, _, p, rfl, rfl, ha5, layV_ix hp', ?_⟩
          refine ⟨_, rfl, ?_⟩
          refine ⟨_, rfl, _, _, rfl, rfl, _, rfl, _, _, rfl, rfl, hmi, ?_⟩
          refine ⟨c'.set p (some x), sd, nx m p, pre ++ [(x, p)], some (.int sd), ?_, ?_, by rw [List.length_set]; exact hc', T5.samex ha5 nla samex_upd, ?_, e2, nx_lt hp, ?_, by omega, by rw [List.length_append, List.length_singleton]; omega, fun b o eb nb => ?_⟩
          · rw [← nx_int hp]; rfl
          · rw [upd_same, layV_set]; rfl
          · rw [← e1, List.append_assoc]
            rfl
          · rw [g_set_ne hp' (Ne.symm npf)]; exact hf0
          · have := s2 b o (sx b o eb nb)
            rw [upd_ne nb, upd_ne (ne_of_none eb hl), upd_ne (ne_of_none this ht)]
            exact this
      · simp only [hb, if_true] at e1 e2
        refine ⟨_, rfl, _, _, rfl, rfl, _, rfl, _, _, rfl, rfl, hmi, ?_⟩
        refine ⟨c', x, nx m p, pre, st, ?_, s2 _ _ ha', hc', T'.same s2, e1, e2, nx_lt hp, hf0, by omega, by omega, fun b o eb nb => s2 b o (sx b o eb nb)⟩
        rw [← nx_int hp]; rfl

theorem scName : FnScope ["cell", "many", "far"] ["cell", "many", "far"] (defScope sName) := ⟨rfl, rfl, rfl, by decide +kernel, rfl, by decide +kernel, by decide +kernel⟩
theorem ok_nameB {f : Addr} {fd : FuncData} (F : Fun K "_law_name" "_law_name" sName f fd) : FnOk P w K mg base CX0 1 f fd ["cell", "many", "far"] spNameB := by
  refine F.ok scName (fun vs H Q E h => ?_) (fun cdv A outer s H vs Q E hr h => ?_)
  · obtain ⟨z, m, b, rfl, _⟩ := h
    rfl
  · obtain ⟨z, m, b, rfl, hm, hm2, k⟩ := h
    refine ⟨_, pss_cons (ps_if (pt_val (pv 2)) (pss_one (ps_ret (pe_op op_mod (pv 0) (pe_op op_pow pe_int pe_int)))) pss_nil) (pss_one (ps_ret (pe_op op_mod (pv 0) (pe_op op_mul pe_int (pv 1))))), ?_⟩
    refine ⟨_, rfl, _, rfl, iteB (fun _ => ?_) (fun _ => ?_)⟩
    · refine ⟨_, rfl, _, _, rfl, rfl, ⟨by decide, by decide, by decide⟩, _, _, rfl, rfl, (by show (0 : Int) < 10 ^ (30 : Int).toNat; decide), k _ (Int.emod_nonneg _ (by decide)) ?_⟩
      exact Int.emod_lt_of_pos _ (by decide)
    · refine ⟨_, rfl, _, rfl, _, _, rfl, rfl, .inl ⟨by decide, by decide⟩, _, _, rfl, rfl, (by omega), k _ (Int.emod_nonneg _ (by omega)) ?_⟩
      have h1 := Int.emod_lt_of_pos z (show (0 : Int) < 3 * (m : Int) by omega)
      have h2 : (600 : Int) < 10 ^ 30 := by decide
      exact Int.lt_of_lt_of_le h1 (by omega)

theorem scLRow : FnScope ["found", "due", "one"] ["found", "due"] (defScope sLRow) := ⟨rfl, rfl, rfl, by decide +kernel, rfl, by decide +kernel, by decide +kernel⟩
theorem ok_lrow {f : Addr} {fd : FuncData} (F : Fun K "_law_row" "_law_row" sLRow f fd) (L : LTxt K mg) (GW : FnG P w K mg base "_law_whole" ["found"] 1 spWhole) : FnOk P w K mg base CX0 2 f fd ["found", "due"] (spLRow K) := by
  refine F.ok scLRow (fun vs H Q E h => ?_) (fun cdv A outer s H vs Q E hr h => ?_)
  · obtain ⟨a, b, xs, rfl, _⟩ := h
    rfl
  · obtain ⟨a, b, xs, rfl, ha, hb, hp, k⟩ := h
    have hu := hu_of hr
    refine ⟨_, pss_cons (ps_if (PW.pt (pw_or (pt_not (pt_val (pe_callB call_isinst (by rfl) L.isi PyProof.Rows.boot_isinstance (pa_cons (pv 0) (pa_cons (pe_bltn (v := .ty "list") rfl L.list PyProof.Rows.boot_list rfl) pa_nil)))))
        (pw_or1 (pt_cmpR op_ne (pe_callB call_len_seq (by rfl) L.len PySem.boot_len (pa_cons (pv 0) pa_nil)) (pe_callB call_len_seq (by rfl) L.len PySem.boot_len (pa_cons (pv 1) pa_nil)) (nomark _))))) (pss_one (ps_ret pe_bl)) pss_nil)
      (pss_cons (ps_for PassesOwn.never rfl (pi_list (pv 0)) (pg_name (i := 2) scLRow.nd rfl (Or.inl rfl))
        (pss_one (ps_if (PW.pt (pw_and (pt_cmp (pc_notN (pv 2))) (pw_and1 (pt_not (pt_val (pe_fn GW hr (pa_cons (pv 2) pa_nil))))))) (pss_one (ps_ret pe_bl)) pss_nil)))
      (pss_one (ps_ret (pe_cmpR (op_eqL (Nat.lt_of_succ_lt hu)) (pv 0) (pv 1) (nomark _))))), ?_⟩
    refine ⟨_, rfl, _, _, _, _, rfl, .lst ha, L.kLL, _, rfl, iteF ?_⟩
    refine ⟨_, rfl, a, _, rfl, .inl (SqL.of ha), _, rfl, b, _, rfl, .inl hb, rfl, _, rfl, iteNI (fun z => absurd rfl z) (fun _ => ?_)⟩
    refine ⟨_, rfl, a, rfl, ⟨_, SqL.of ha⟩, for_list (K := K) (a := a) (xs := xs) (fun i σ H2 => ∃ v : Option V, σ = [some (.ref a), some (.ref b), v] ∧ H2 = H) ⟨none, rfl, rfl⟩ (fun i σ H2 _ ⟨_, _, e⟩ => by rw [e]; exact SqL.of ha) ?_ ?_⟩
    · rintro i x σ H2 hi ⟨v, rfl, rfl⟩
      have hx : plainV x = true := List.all_eq_true.mp hp x (List.mem_of_getElem? hi)
      cases x with
      | non => exact ⟨_, rfl, _, rfl, iteF (iteF ⟨_, rfl, rfl⟩)⟩
      | int z => exact ⟨_, rfl, _, rfl, iteT ⟨_, rfl, z, rfl, _, rfl, iteF ⟨_, rfl, rfl⟩⟩⟩
      | _ => exact absurd (show false = true from hx) Bool.false_ne_true
    · rintro σ H2 ⟨v, rfl, rfl⟩
      refine ⟨_, rfl, _, rfl, a, b, xs, xs, rfl, rfl, SqL.of ha, hb, hp, hp, ?_⟩
      simpa using k

def spLRightG : Sp := fun vs H Q _ => ∃ (a : Addr) (m : Nat) (rule : Int) (c : Lay), vs = [.ref a, .int rule] ∧ H a = some (.lst (layV c)) ∧ c.length = m ∧ 0 ≤ rule ∧ rule ≤ 2 ∧ 0 < m ∧ m ≤ 200 ∧ ∀ (H' : Hp) (b : Bool), Same H H' → (b = true ↔ Right m rule c) → Q (.bl b) H'
theorem scLRight : FnScope ["row", "rule", "many", "names", "at", "name", "spot"] ["row", "rule"] (defScope sLRight) := ⟨rfl, rfl, rfl, by decide +kernel, rfl, by decide +kernel, by decide +kernel⟩
seal L2.tCG
theorem ok_lrightG {f : Addr} {fd : FuncData} (F : Fun K "_law_right" "_law_right" sLRight f fd) (L : LTxt K mg) (Le : mg "enumerate" = none) (Ls : mg "set" = none) (GK : FnG P w K mg base "_law_keeps" ["rule", "one", "other", "at", "many"] 2 spLKeeps) : FnOk P w K mg base CX0 3 f fd ["row", "rule"] spLRightG := by
  refine F.ok scLRight (fun vs H Q E h => ?_) (fun cdv A outer s H vs Q E hr h => ?_)
  · obtain ⟨a, m, rule, c, rfl, _⟩ := h
    rfl
  · obtain ⟨a, m, rule, c, rfl, ha, hlen, r0, r2, hm, h200, k⟩ := h
    have hmi : (0 : Int) < (m : Int) := by omega
    have no : ∀ H', Same H H' → ¬ Right m rule c → Q (.bl false) H' := fun H' s' n => k H' false s' ⟨fun z => (by cases z), fun z => absurd z n⟩
    refine ⟨_, (pss_cons (ps_set (i := 2) scLRight.nd rfl (Or.inl rfl) (pe_callB call_len_seq (by rfl) L.len PySem.boot_len (pa_cons (pv 0) pa_nil)))
      (pss_cons (ps_setG (i := 3) (CompOk.closed (by decide +kernel) (by rfl) (by decide +kernel) (by rfl)) (by rfl) scLRight.nd rfl (Or.inl rfl) (pi_list (pv 0)) (fun fp Cc s₀ H₀ => pf_one (pt_cmp (pc_notN (pv 0)))) (fun fp Cc s₀ H₀ => pv 0))
      (pss_cons (ps_if (PW.pt (pw_or (pt_cmpR op_eq (pe_callB call_len_seq (by rfl) L.len PySem.boot_len (pa_cons (pv 3) pa_nil)) (pv 2) (nomark _))
        (pw_or1 (pt_cmpR op_ne (pe_callB call_lenS (by rfl) L.len PySem.boot_len (pa_cons (pe_callTy (call_setG rfl) (by rfl) Ls PyProof.Rows.boot_set (pa_cons (pv 3) pa_nil)) pa_nil)) (pe_callB call_len_seq (by rfl) L.len PySem.boot_len (pa_cons (pv 3) pa_nil)) (nomark _))))) (pss_one (ps_ret pe_bl)) pss_nil)
      (pss_cons (ps_for PassesOwn.never rfl (pi_enum rfl Le (pa_cons (pv 0) pa_nil)) (pg_tup rfl (pgs_cons (pg_name (i := 4) scLRight.nd rfl (Or.inl rfl)) (pgs_cons (pg_name (i := 5) scLRight.nd rfl (Or.inl rfl)) pgs_nil))) (pss_one (ps_if (pt_cmp (pc_notN (pv 5))) (pss_cons (ps_set (i := 6) scLRight.nd rfl (Or.inl rfl) (pe_op op_mod (pv 5) (pv 2)))
      (pss_one (ps_while PassesOwn.never (pt_cmpR op_ne (pv 6) (pv 4) (nomark _)) (pss_cons (ps_if (pt_cmp (pc_isN (pe_ix ix_list (pv 0) (pv 6) (fun _ _ => rfl)))) (pss_one (ps_ret pe_bl)) pss_nil)
      (pss_cons (ps_if (pt_not (pt_val (pe_fn GK (hr.mono (by decide)) (pa_cons (pv 1) (pa_cons (pe_ix ix_list (pv 0) (pv 6) (fun _ _ => rfl)) (pa_cons (pv 5) (pa_cons (pv 6) (pa_cons (pv 2) pa_nil)))))))) (pss_one (ps_ret pe_bl)) pss_nil)
      (pss_one (ps_set (i := 6) scLRight.nd rfl (Or.inl rfl) (pe_op op_mod (pe_op op_add (pv 6) pe_int) (pv 2))))))))) pss_nil)))
      (pss_one (ps_ret pe_bl)))))), ?_⟩
    refine ⟨_, rfl, a, _, rfl, .inl (SqL.of ha), ?_⟩
    rw [layV_len, hlen]
    refine cg_names (c := c) (by rfl) ha (by rw [hlen]; omega) fun ln hln => ?_
    have s1 := same_upd (o := .lst ((nm c).map V.int)) hln
    have gn : upd H ln (.lst ((nm c).map V.int)) ln = some (.lst ((nm c).map V.int)) := upd_same
    generalize upd H ln (.lst ((nm c).map V.int)) = H1 at s1 gn
    have hfn := free_nm c
    rw [hlen] at hfn
    refine ⟨_, rfl, ln, _, rfl, .inl (SqL.of gn), _, rfl, rfl, _, rfl, iteI (fun z => iteT ?_) (fun z => ?_)⟩
    · rw [List.length_map] at z
      exact no H1 s1 fun R => right_free R (by omega)
    have hne : (nm c).length ≠ m := fun q => z (by rw [List.length_map, q])
    refine ⟨_, rfl, ln, nm c, rfl, SqL.of gn, by omega, fun lt S nS hlt hnS => ?_⟩
    have s2 := same_upd (o := .set S nS) hlt
    refine ⟨lt, S, _, rfl, upd_same, ?_⟩
    refine ⟨_, rfl, ln, _, rfl, .inl (SqL.of (s2 _ _ gn)), rfl, _, rfl, iteNI (fun z => ?_) (fun z => ?_)⟩
    · refine no _ (s1.trans s2) fun R => z ?_
      rw [List.length_map, hnS.mpr (nm_nodup R.inj)]
    have hnd : (nm c).Nodup := hnS.mp (by rw [List.length_map] at z; omega)
    have s12 := s1.trans s2
    generalize upd H1 lt (.set S nS) = H2 at s12
    clear s1 s2 gn
    refine ⟨_, rfl, a, rfl, ⟨_, SqL.of (s12 _ _ ha)⟩, for_enum (K := K) (a := a) (xs := layV c) (fun i σ H' => ∃ (v4 v5 v6 : Option V), σ = [some (.ref a), some (.int rule), some (.int (m : Int)), some (.ref ln), v4, v5, v6] ∧ Same H H' ∧
        ∀ p, p < i → ∀ n, g c p = some n → ∀ q, q < m → dist m (ws m n) q < dist m (ws m n) p → ∃ k, g c q = some k ∧ kp m rule k n q = true)
      ⟨none, none, none, rfl, s12, fun p h => (by omega)⟩ (fun i σ H' _ ⟨_, _, _, _, s, _⟩ => SqL.of (s _ _ ha)) ?_ ?_⟩
    · rintro i x σ H' t hi ⟨v4, v5, v6, rfl, s3, hpre⟩ ht
      have hil : i < c.length := by
        have := (List.getElem?_eq_some_iff.mp hi).1
        rw [layV_len] at this; exact this
      rw [layV_get hil] at hi
      have ex := Option.some.inj hi
      subst ex
      have him : i < m := by rw [← hlen]; exact hil
      have s4 := s3.trans (same_upd (o := .tup [.int (i : Nat), cV (g c i)]) ht)
      refine ⟨t, _, rfl, SqT.of upd_same, rfl, _, _, rfl, _, _, rfl, rfl, ?_⟩
      cases e : g c i with
      | none =>
        rw [e] at s4
        refine ⟨_, rfl, _, rfl, iteF ⟨some (.int (i : Int)), some .non, v6, rfl, s4, fun p hp n hn => ?_⟩⟩
        by_cases z : p = i
        · subst z; rw [e] at hn; cases hn
        · exact hpre p (by omega) n hn
      | some n =>
        rw [e] at s4
        refine ⟨_, rfl, _, rfl, iteT ?_⟩
        refine ⟨_, rfl, _, rfl, _, _, rfl, rfl, hmi, ?_⟩
        refine ⟨fun j σ H5 => ∃ p : Nat, σ = [some (.ref a), some (.int rule), some (.int (m : Int)), some (.ref ln), some (.int (i : Int)), some (.int n), some (.int (p : Int))] ∧ p < m ∧ dist m (ws m n) p ≤ dist m (ws m n) i ∧ dist m p i < j ∧ Same H H5 ∧
            ∀ q, q < m → dist m (ws m n) q < dist m (ws m n) p → ∃ k, g c q = some k ∧ kp m rule k n q = true,
          ⟨m, ws m n, by rw [ws_int hm]; rfl, ws_lt hm n, by rw [dist_self]; omega, dist_lt (ws_lt hm n) him, s4, fun q _ d => by rw [dist_self] at d; omega⟩, ?_⟩
        rintro j σ H5 ⟨p, rfl, hp, hd, hj, s5, hok⟩
        have hat := layV_at (c := c) (p := p) (by rw [hlen]; exact hp)
        have ha5 := s5 _ _ ha
        refine ⟨_, rfl, _, rfl, rfl, _, rfl, iteNI (fun z => ?_) (fun z => ?_)⟩
        · have npi : p ≠ i := fun q => z (by rw [q])
          have hlt : dist m (ws m n) p < dist m (ws m n) i := by
            have : dist m (ws m n) p ≠ dist m (ws m n) i := fun q => npi (dist_inj (ws_lt hm n) hp him q)
            omega
          refine ⟨_, fun σ' H'' w' => ⟨j - 1, by omega, w'⟩, ?_⟩
          cases e2 : g c p with
          | none =>
            rw [e2] at hat
            refine ⟨_, rfl, _, rfl, a, _, _, _, rfl, rfl, SqL.of ha5, hat, _, rfl, iteT ?_⟩
            refine no H5 s5 fun R => ?_
            obtain ⟨sd, hsd, _⟩ := R.pas' e hp hlt
            rw [e2] at hsd; cases hsd
          | some sd =>
            rw [e2] at hat
            refine ⟨_, rfl, _, rfl, a, _, _, _, rfl, rfl, SqL.of ha5, hat, _, rfl, iteF ?_⟩
            refine ⟨_, rfl, _, rfl, _, rfl, a, _, _, _, rfl, rfl, SqL.of ha5, hat, _, rfl, _, rfl, _, rfl, rule, sd, n, p, m, rfl, hp, r0, r2, fun H6 s6 => ⟨_, rfl, ?_⟩⟩
            refine iteNB (fun hk => ?_) (fun hk => ?_)
            · refine no H6 (s5.trans s6) fun R => ?_
              obtain ⟨sd', hsd, hk'⟩ := R.pas' e hp hlt
              rw [e2] at hsd; cases hsd
              rw [hk] at hk'; cases hk'
            refine ⟨_, rfl, _, _, rfl, rfl, _, rfl, _, _, rfl, rfl, hmi, ?_⟩
            have d2 := dist_nx (ws_lt hm n) hp
            have d3 := dist_to hp him npi
            refine ⟨nx m p, by rw [← nx_int hp]; rfl, nx_lt hp, by omega, by omega, s5.trans s6, fun q hq d => ?_⟩
            by_cases zq : q = p
            · subst zq; exact ⟨sd, e2, hk⟩
            · have : dist m (ws m n) q ≠ dist m (ws m n) p := fun w' => zq (dist_inj (ws_lt hm n) hq hp w')
              exact hok q hq (by omega)
        · have epi : p = i := by omega
          refine ⟨_, _, _, rfl, s5, fun p' hp' n' hn' => ?_⟩
          by_cases z' : p' = i
          · subst z'
            rw [e] at hn'
            cases hn'
            rw [← epi]
            exact hok
          · exact hpre p' (by omega) n' hn'
    · rintro σ H' ⟨v4, v5, v6, rfl, s3, hpre⟩
      rw [layV_len, hlen] at hpre
      exact k H' true s3 ⟨fun _ => right_of hlen hne hnd hpre, fun _ => rfl⟩

def spLaw (K : PySem.W.Frag) : Sp := fun vs H Q _ => ∃ (a : Addr) (ns : List Int), vs = [.ref a] ∧ SqL K H a (ns.map V.int) ∧ ns.length ≤ 63 ∧ ∀ H', Q (.bl true) H'

theorem with_else {U T : Prop} (h : U → T) (u : U) : T := h u
theorem scLaw : FnScope ["script", "many", "rule", "led", "row", "cell", "name", "text", "due", "found"] ["script"] (defScope sLaw) := ⟨rfl, rfl, rfl, by decide +kernel, rfl, by decide +kernel, by decide +kernel⟩
theorem rd_size {ps : List Str} (h : rdOk ps = true) : 2 ≤ (rdLay ps).length ∧ (rdLay ps).length ≤ 200 ∧ rdRule ps ≤ 2 := by
  match ps, h with
  | p0 :: p1 :: r, h =>
    simp only [rdOk, Bool.and_eq_true, decide_eq_true_eq] at h
    obtain ⟨⟨⟨_, h1⟩, _⟩, m1, m2, m3⟩ := h
    obtain ⟨ru, e⟩ := Option.isSome_iff_exists.mp h1
    have := ruleAt_le e
    show 2 ≤ (r.map cellVal).length ∧ (r.map cellVal).length ≤ 200 ∧ (ruleAt p1).getD 0 ≤ 2
    rw [List.length_map, e]
    exact ⟨by omega, by omega, this⟩
set_option maxHeartbeats 1000000 in
theorem ok_law {f C : Addr} {fd : FuncData} (F : Fun K "law" "law" sLaw f fd) (T : Txt K mg C) (L : LTxt K mg) (IC : IsC K C) (mgY : mg "Yard" = some (.ref C)) (GCe : FnG P w K mg base "_law_cell" ["script", "k"] 1 (spCell K)) (GN : FnG P w K mg base "_law_name" ["cell", "many", "far"] 1 spNameB)
    (GLP : FnG P w K mg base "_law_put" ["row", "rule", "name"] 3 spLPut) (GTx : FnG P w K mg base "_law_text" ["row", "rule"] 1 spLText) (GSp : FnG P w K mg base "_law_spoiled" ["text", "mode", "cell"] 1 spLSpoil) (GOd : FnG P w K mg base "_law_odd" ["cell"] 1 spLOdd) (GDu : FnG P w K mg base "_law_due" ["text"] 2 spLDue)
    (GTo : FnG P w K mg base "_law_told" ["text"] 7 (spLTold15 C)) (GRi : FnG P w K mg base "_law_right" ["row", "rule"] 3 spLRightG) (GR : FnG P w K mg base "_law_row" ["found", "due"] 2 (spLRow K)) (GSt : MtG P w K mg base C "stalls" ["self"] 1 (spStalls C)) : FnOk P w K mg base CX0 8 f fd ["script"] (spLaw K) := by
  refine F.ok scLaw (fun vs H Q E h => ?_) (fun cdv A outer s H vs Q E hr h => ?_)
  · obtain ⟨a, ns, rfl, _⟩ := h
    rfl
  · obtain ⟨sa, ns, rfl, hS, hlen, k⟩ := h
    have hu := hu_of hr
    have hr1 : Room 1 _ := hr.mono (by decide)
    have hr2 : Room 2 _ := hr.mono (by decide)
    have hr3 : Room 3 _ := hr.mono (by decide)
    have szl : sizeLine ≥ 10000 := by decide
    refine ⟨_, (pss_cons (ps_set (i := 1) scLaw.nd rfl (Or.inl rfl) (pe_op op_add pe_int (pe_op op_mod (pe_fn GCe hr1 (pa_cons (pv 0) (pa_cons pe_int pa_nil))) pe_int)))
      (pss_cons (ps_set (i := 2) scLaw.nd rfl (Or.inl rfl) (pe_op op_mod (pe_fn GCe hr1 (pa_cons (pv 0) (pa_cons pe_int pa_nil))) pe_int))
      (pss_cons (ps_set (i := 3) scLaw.nd rfl (Or.inl rfl) (pv 2))
      (pss_mid (ps_if (pt_cmpR op_eq (pe_op op_mod (pe_op op_fdiv (pe_fn GCe hr1 (pa_cons (pv 0) (pa_cons pe_int pa_nil))) pe_int) pe_int) pe_int (nomark _)) (pss_one (ps_set (i := 3) scLaw.nd rfl (Or.inl rfl) (pe_op op_mod (pe_op op_add (pv 2) pe_int) pe_int))) pss_nil)
      (pss_cons (ps_set (i := 4) scLaw.nd rfl (Or.inl rfl) (pe_op op_rep (pe_lst (pa_cons pe_non pa_nil)) (pv 1)))
      (pss_cons (ps_for PassesOwn.never rfl (pi_list (pe_slice sl_list (pv 0) (po_some pe_int) (po_some pe_int))) (pg_name (i := 5) scLaw.nd rfl (Or.inl rfl)) (pss_cons (ps_set (i := 6) scLaw.nd rfl (Or.inl rfl) (pe_fn GN hr1 (pa_cons (pv 5) (pa_cons (pv 1) (pa_cons (pe_cmpR op_eq (pe_op op_mod (pe_op op_fdiv (pe_fn GCe hr1 (pa_cons (pv 0) (pa_cons pe_int pa_nil))) pe_int) pe_int) pe_int (nomark _)) pa_nil)))))
      (pss_one (ps_if (PW.pt (pw_and (pt_cmpR op_notIn_seq (pv 6) (pv 4) (by with_unfolding_all rfl)) (pw_and1 (pt_cmpR op_gt (pe_bm PySem.F.plainAttrs_list PySem.F.slot_list_count PySem.F.type_list_count mt_count (pv 4) (pa_cons pe_non pa_nil)) pe_int (nomark _)))))
          (pss_one (ps_expr (pe_fn GLP hr3 (pa_cons (pv 4) (pa_cons (pv 3) (pa_cons (pv 6) pa_nil)))))) pss_nil))))
      (pss_cons (ps_set (i := 7) scLaw.nd rfl (Or.inl rfl) (pe_fn GTx hr1 (pa_cons (pv 4) (pa_cons (pv 2) pa_nil))))
      (pss_cons (ps_set (i := 7) scLaw.nd rfl (Or.inl rfl) (pe_fn GSp hr1 (pa_cons (pv 7) (pa_cons (pe_op op_mod (pe_fn GCe hr1 (pa_cons (pv 0) (pa_cons pe_int pa_nil))) pe_int) (pa_cons (pe_op op_mod (pe_fn GCe hr1 (pa_cons (pv 0) (pa_cons pe_int pa_nil))) (pe_op op_pow pe_int pe_int)) pa_nil)))))
      (pss_mid (ps_if (pt_cmpR op_eq (pe_op op_mod (pe_op op_fdiv (pe_fn GCe hr1 (pa_cons (pv 0) (pa_cons pe_int pa_nil))) pe_int) pe_int) pe_int (nomark _)) (pss_one (ps_set (i := 7) scLaw.nd rfl (Or.inl rfl) (pe_fn GOd hr1 (pa_cons (pe_fn GCe hr1 (pa_cons (pv 0) (pa_cons pe_int pa_nil))) pa_nil)))) pss_nil)
      (pss_cons (ps_set (i := 8) scLaw.nd rfl (Or.inl rfl) (pe_fn GDu hr2 (pa_cons (pv 7) pa_nil)))
      (pss_cons (ps_set (i := 9) scLaw.nd rfl (Or.inl rfl) (pe_fn GTo hr (pa_cons (pv 7) pa_nil)))
      (pss_cons (ps_if (pt_cmpR (op_eqL (Nat.lt_of_succ_lt hu)) (pe_ix ix_tup (pv 8) pe_int (fun _ _ => rfl)) (pe_lst pa_nil) (nomark _))
        (pss_one (ps_ret (pe_and (pe_not (pe_callB call_isinstC (by rfl) L.isi PyProof.Rows.boot_isinstance (pa_cons (pv 9) (pa_cons (pe_glob (v := .ref C) rfl mgY rfl) pa_nil)))) (pe_one (pe_cmpR (op_eqTB (Nat.lt_of_succ_lt hu)) (pv 9) (pe_tup (pa_cons pe_bl (pa_cons pe_bl (pa_cons pe_bl pa_nil)))) (nomark _)))))) pss_nil)
      (pss_cons (ps_if (pt_not (pt_val (pe_fn GRi hr3 (pa_cons (pe_ix ix_tup (pv 8) pe_int (fun _ _ => rfl)) (pa_cons (pe_ix ix_tup (pv 8) pe_int (fun _ _ => rfl)) pa_nil)))))
        (pss_one (ps_ret (pe_and (pe_not (pe_callB call_isinstC (by rfl) L.isi PyProof.Rows.boot_isinstance (pa_cons (pv 9) (pa_cons (pe_glob (v := .ref C) rfl mgY rfl) pa_nil)))) (pe_one (pe_cmpR (op_eqTB (Nat.lt_of_succ_lt hu)) (pv 9) (pe_tup (pa_cons pe_bl (pa_cons pe_bl (pa_cons pe_bl pa_nil)))) (nomark _)))))) pss_nil)
      (pss_cons (ps_if (PW.pt (pw_or (pt_not (pt_val (pe_callB call_isinstC (by rfl) L.isi PyProof.Rows.boot_isinstance (pa_cons (pv 9) (pa_cons (pe_glob (v := .ref C) rfl mgY rfl) pa_nil)))))
        (pw_or (pt_cmpR op_ne (pe_fld (pv 9) rfl) (pe_callB call_len_seq (by rfl) L.len PySem.boot_len (pa_cons (pe_ix ix_tup (pv 8) pe_int (fun _ _ => rfl)) pa_nil)) (nomark _)) (pw_or1 (pt_cmpR op_ne (pe_fld (pv 9) rfl) (pe_ix ix_tup (pv 8) pe_int (fun _ _ => rfl)) (nomark _)))))) (pss_one (ps_ret pe_bl)) pss_nil)
      (pss_one (ps_ret (pe_fn GR hr2 (pa_cons (pe_mt0 T.cl GSt hr1 (pv 9)) (pa_cons (pe_ix ix_tup (pv 8) pe_int (fun _ _ => rfl)) pa_nil))))))))))))))))))), ?_⟩
    -- many, rule, led
    refine ⟨_, rfl, sa, ns, 0, rfl, hS, _, _, rfl, rfl, (by show (0 : Int) < 9; decide), _, _, rfl, rfl, ?_⟩
    obtain ⟨m, em, hm2, h10⟩ : ∃ m : Nat, 2 + ns.getD 0 0 % 9 = (m : Int) ∧ 2 ≤ m ∧ m ≤ 10 := ⟨(2 + ns.getD 0 0 % 9).toNat, by omega, by omega, by omega⟩
    have hm : 0 < m := by omega
    have h200 : m ≤ 200 := by omega
    show gName 1 (V.int (2 + ns.getD 0 0 % 9)) _ _ _
    rw [em]
    refine ⟨_, rfl, sa, ns, 1, rfl, hS, _, _, rfl, rfl, (by show (0 : Int) < 3; decide), ?_⟩
    obtain ⟨rule, hrule⟩ : ∃ r : Int, ns.getD 1 0 % 3 = r := ⟨_, rfl⟩
    have r0 : 0 ≤ rule := by omega
    have r2 : rule ≤ 2 := by omega
    show gName 2 (V.int (ns.getD 1 0 % 3)) _ _ _
    rw [hrule]
    refine ⟨_, rfl, ?_⟩
    refine ⟨fun σ H' => H' = H ∧ ∃ led : Int, 0 ≤ led ∧ led ≤ 2 ∧ σ = [some (.ref sa), some (.int (m : Int)), some (.int rule), some (.int led), none, none, none, none, none, none], ?_, ?_⟩
    · refine ⟨_, rfl, sa, ns, 1, rfl, hS, _, _, rfl, rfl, ⟨by decide, by decide⟩, _, _, rfl, rfl, (by show (0 : Int) < 4; decide), rfl, _, rfl, iteI (fun _ => ?_) (fun _ => ⟨rfl, rule, r0, r2, rfl⟩)⟩
      exact ⟨_, rfl, _, _, rfl, rfl, _, _, rfl, rfl, (by show (0 : Int) < 3; decide), rfl, (rule + 1) % 3, by omega, by omega, rfl⟩
    rintro σ H' ⟨rfl, led, l0, l2, rfl⟩
    -- row
    refine ⟨(by show 1 ≤ sizeLine; decide), fun l hl => ?_⟩
    refine ⟨_, rfl, l, m, [.non], rfl, rfl, upd_same, by omega, by omega, ?_, fun a ha => ?_⟩
    · simp; omega
    have s1 := (same_upd (o := .lst [V.non]) hl).trans (same_upd (o := .lst (List.replicate (m : Int).toNat [V.non]).flatten) ha)
    have ga1 : upd (upd H' l (.lst [V.non])) a (.lst (List.replicate (m : Int).toNat [V.non]).flatten) a = some (.lst (layV (List.replicate m none))) := by rw [upd_same, Int.toNat_natCast, layV_empty]
    have na0 : H' a = none := (same_upd (o := .lst [V.non]) hl).free ha
    generalize upd (upd H' l (.lst [V.non])) a (.lst (List.replicate (m : Int).toNat [V.non]).flatten) = H1 at s1 ga1
    -- the cells
    refine ⟨_, rfl, _, rfl, _, rfl, sa, _, rfl, s1.seq hS, fun lc hlc => ?_⟩
    obtain ⟨zs, ezs, hzs⟩ := cut_int ns 4 24
    rw [show cutV (ns.map V.int) (some 4) (some 24) = zs.map V.int from ezs]
    have sc := same_upd (o := .lst (zs.map V.int)) hlc
    have gc : upd H1 lc (.lst (zs.map V.int)) lc = some (.lst (zs.map V.int)) := upd_same
    have ga2 := sc _ _ ga1
    have nlc : lc ≠ a := (ne_of_none ga1 hlc).symm
    have s2 := s1.trans sc
    generalize upd H1 lc (.lst (zs.map V.int)) = H2 at gc ga2 s2
    obtain ⟨far, hfar⟩ : ∃ b : Bool, decide (V.int (ns.getD 1 0 / 12 % 3) = V.int 1) = b := ⟨_, rfl⟩
    refine ⟨lc, rfl, ⟨_, SqL.of gc⟩, for_list (K := K) (a := lc) (xs := zs.map V.int) (fun i σ H3 => ∃ (c : Lay) (v5 v6 : Option V), σ = [some (.ref sa), some (.int (m : Int)), some (.int rule), some (.int led), some (.ref a), v5, v6, none, none, none] ∧
        Same H' H3 ∧ H3 lc = some (.lst (zs.map V.int)) ∧ H3 a = some (.lst (layV c)) ∧ c.length = m ∧ NB c)
      ⟨_, none, none, rfl, s2, gc, ga2, List.length_replicate .., fun n hn => by rw [empty_nm] at hn; cases hn⟩ (fun i σ H3 _ ⟨_, _, _, _, _, e, _⟩ => SqL.of e) ?_ ?_⟩
    · rintro i x σ H3 hi ⟨c, v5, v6, rfl, s3, gc3, ga3, hlc3, nn⟩
      obtain ⟨z, rfl, hz⟩ := get_int hi
      refine ⟨_, rfl, _, rfl, _, rfl, sa, ns, 1, rfl, s3.seq hS, _, _, rfl, rfl, ⟨by decide, by decide⟩, _, _, rfl, rfl, (by show (0 : Int) < 3; decide), rfl, _, m, far, (by rw [← hfar]; rfl), hm, h200, fun n hn0 hn1 => ?_⟩
      apply with_else
      case h =>
        intro els
        refine ⟨_, rfl, _, rfl, a, _, rfl, .inl (SqL.of ga3), rfl, layV_flat c, _, rfl, ?_⟩
        rw [show (if true = true then !inV (V.int n) (layV c) else inV (V.int n) (layV c)) = !decide (n ∈ nm c) from congrArg not (layV_in c n)]
        refine iteND (fun hin => ?_) (fun _ => iteF els)
        refine ⟨_, rfl, .inl ⟨rfl, _, SqL.of ga3⟩, a, _, _, rfl, rfl, SqL.of ga3, rfl, layV_flat _, _, _, rfl, rfl, _, rfl, ?_⟩
        rw [layV_count]
        refine iteD (fun hct => ?_) (fun _ => els)
        obtain ⟨f0, hf, h0⟩ := free_of (c := c) (by omega)
        refine ⟨_, rfl, _, rfl, _, rfl, a, m, led, c, n, f0, rfl, ga3, hlc3, l0, l2, h200, by omega, h0, fun l5 H5 hl5 T5 ha5 s5 => ?_⟩
        refine ⟨_, _, _, rfl, fun b o e => s5 b o (s3 b o e) (ne_of_none e na0), s5 _ _ gc3 nlc, ha5, by rw [putL_len]; exact hlc3, fun x hx => ?_⟩
        rcases putL_sub _ _ _ _ _ hx with y | y
        · rw [y]; exact ⟨hn0, hn1⟩
        · exact nn x y
      case u => exact ⟨c, _, _, rfl, s3, gc3, ga3, hlc3, nn⟩
    rintro σ H3 ⟨c, v5, v6, rfl, s3, _, ga3, hlc3, nn⟩
    -- the text
    refine ⟨_, rfl, _, rfl, a, rule, c, rfl, ga3, by omega, r0, r2, nn, fun t1 H4 s4 at1 lt1 => ?_⟩
    have sH4 := s3.trans s4
    have p9 : ((10 : Int) ^ (9 : Int).toNat) > 0 := by decide
    refine ⟨_, rfl, _, rfl, sa, ns, 2, rfl, sH4.seq hS, _, _, rfl, rfl, (by show (0 : Int) < 8; decide), _, rfl, sa, ns, 3, rfl, sH4.seq hS, _, _, rfl, rfl, ⟨by decide, by decide, by decide⟩, _, _, rfl, rfl, p9, t1, _, _, rfl, at1, lt1, fun t2 H5 s5 at2 lt2 => ?_⟩
    have sH5 := sH4.trans s5
    refine ⟨fun σ H6 => ∃ t : Str, σ = [some (.ref sa), some (.int (m : Int)), some (.int rule), some (.int led), some (.ref a), v5, v6, some (.str t), none, none] ∧ TM.Asc t ∧ t.length ≤ 9000, ?_, ?_⟩
    · refine ⟨_, rfl, sa, ns, 2, rfl, sH5.seq hS, _, _, rfl, rfl, ⟨by decide, by decide⟩, _, _, rfl, rfl, (by show (0 : Int) < 9; decide), rfl, _, rfl, iteI (fun _ => ?_) (fun _ => ⟨t2, rfl, at2, lt2⟩)⟩
      exact ⟨_, rfl, sa, ns, 3, rfl, sH5.seq hS, _, rfl, fun t3 H6 s6 at3 lt3 => ⟨t3, rfl, at3, by omega⟩⟩
    rintro σ H6 ⟨t, rfl, hasc, hlt⟩
    -- due, found
    refine ⟨_, rfl, t, rfl, hasc, hlt, fun q r H7 s7 gq gr => ?_⟩
    have at0 : atI [V.ref r, V.int ((dueI (Txt.split t (" " : Str)) : Nat) : Int)] 0 = some (V.ref r) := atI_nat (j := 0) rfl
    have at1' : atI [V.ref r, V.int ((dueI (Txt.split t (" " : Str)) : Nat) : Int)] 1 = some (V.int ((dueI (Txt.split t (" " : Str)) : Nat) : Int)) := atI_nat (j := 1) rfl
    cases hrd : rdOk (Txt.split t (" " : Str)) with
    | false =>
      have ec : dueC (Txt.split t (" " : Str)) = [] := by unfold dueC; rw [hrd, if_neg (by decide)]
      rw [ec] at gr
      refine ⟨_, rfl, t, rfl, hasc, hlt, .inl ⟨hrd, fun q8 H8 s8 gq8 => ?_⟩⟩
      refine ⟨_, rfl, q, _, _, _, rfl, rfl, SqT.of (s8 _ _ gq), at0, (by show 0 ≤ sizeLine; decide), fun l9 hl9 => ?_⟩
      have s9 := same_upd (o := .lst ([] : List V)) hl9
      refine ⟨r, l9, layV [], [], rfl, rfl, SqL.of (s9 _ _ (s8 _ _ gr)), SqL.of upd_same, layV_plain _, rfl, _, rfl, iteD (c := layV ([] : Lay) = ([] : List V)) (fun _ => ?_) (fun z => absurd rfl z)⟩
      refine ⟨_, rfl, .ref q8, C, _, false, rfl, .tup (s9 _ _ gq8), IC.kT, _, rfl, _, rfl, iteT ?_⟩
      refine ⟨_, rfl, (by show 3 ≤ sizeLine; decide), fun q10 hq10 => ?_⟩
      have s10 := same_upd (o := .tup ([true, false, true].map V.bl)) hq10
      refine ⟨q8, q10, [true, false, true], [true, false, true], rfl, rfl, SqT.of (s10 _ _ (s9 _ _ gq8)), SqT.of upd_same, rfl, ?_⟩
      rw [decide_eq_true rfl]
      exact k _
    | true =>
      obtain ⟨z2, z200, zr⟩ := rd_size hrd
      have ec : dueC (Txt.split t (" " : Str)) = rdLay (Txt.split t (" " : Str)) := by unfold dueC; rw [hrd, if_pos rfl]
      have ei : dueI (Txt.split t (" " : Str)) = rdRule (Txt.split t (" " : Str)) := by unfold dueI; rw [hrd, if_pos rfl]
      rw [ec] at gr
      rw [ei] at gq at0 at1'
      have ne0 : layV (rdLay (Txt.split t (" " : Str))) ≠ ([] : List V) := fun z => by
        have := congrArg List.length z
        rw [layV_len] at this
        simp at this
        rw [this] at z2
        simp at z2
      by_cases hR : Right (rdLay (Txt.split t (" " : Str))).length (rdRule (Txt.split t (" " : Str))) (rdLay (Txt.split t (" " : Str)))
      · refine ⟨_, rfl, t, rfl, hasc, hlt, .inr ⟨hrd, .inr ⟨hR, fun y ca H8 hy hca s8 Y8 => ?_⟩⟩⟩
        generalize rdLay (Txt.split t (" " : Str)) = cc at gr ne0 hR Y8 z2 z200
        generalize rdRule (Txt.split t (" " : Str)) = ru at gq at0 at1' hR Y8 zr
        refine ⟨_, rfl, q, _, _, _, rfl, rfl, SqT.of (s8 _ _ gq), at0, (by show 0 ≤ sizeLine; decide), fun l9 hl9 => ?_⟩
        have s9 := same_upd (o := .lst ([] : List V)) hl9
        refine ⟨r, l9, layV cc, [], rfl, rfl, SqL.of (s9 _ _ (s8 _ _ gr)), SqL.of upd_same, layV_plain _, rfl, _, rfl, iteD (fun z => absurd z ne0) (fun _ => ?_)⟩
        have Y9 := Y8.same s9
        have gr9 := s9 _ _ (s8 _ _ gr)
        have gq9 := s9 _ _ (s8 _ _ gq)
        generalize upd H8 l9 (.lst ([] : List V)) = H9 at Y9 gr9 gq9
        refine ⟨_, rfl, q, _, _, _, rfl, rfl, SqT.of gq9, at0, _, rfl, q, _, _, _, rfl, rfl, SqT.of gq9, at1', r, cc.length, (ru : Int), cc, rfl, gr9, rfl, by omega, by omega, by omega, z200, fun H10 b s10 hb => ⟨_, rfl, iteNB (fun z => ?_) (fun _ => ?_)⟩⟩
        · rw [hb.mpr hR] at z; cases z
        have Y10 := Y9.same s10
        obtain ⟨d10, o10⟩ := Y10.ob
        have gq10 := s10 _ _ gq9
        have gr10 := s10 _ _ gr9
        refine ⟨_, rfl, .ref y, C, _, true, rfl, IC.ty o10, ExcT.me, _, rfl, iteF ?_⟩
        refine ⟨_, rfl, y, C, d10, _, _, rfl, o10, T.cl, T.nM, flds_many _ _ _, _, rfl, q, _, _, _, rfl, rfl, SqT.of gq10, at0, r, _, rfl, .inl (SqL.of gr10), rfl, _, rfl, iteNI (fun z => absurd (by rw [layV_len]) z) (fun _ => ?_)⟩
        refine ⟨_, rfl, y, C, d10, _, _, rfl, o10, T.cl, T.nR, flds_rule _ _ _, _, rfl, q, _, _, _, rfl, rfl, SqT.of gq10, at1', rfl, _, rfl, iteNI (fun z => absurd rfl z) (fun _ => ?_)⟩
        refine ⟨_, rfl, y, d10, _, rfl, o10, flds_no _ _ ca (by decide +kernel) (by decide +kernel) (by decide +kernel), y, ca, _, _, cc, rfl, Y10, fun l11 hl11 => ?_⟩
        have s11 := same_upd (o := .lst (layV cc)) hl11
        exact ⟨_, rfl, q, _, _, _, rfl, rfl, SqT.of (s11 _ _ gq10), at0, l11, r, layV cc, rfl, upd_same, SqL.of (s11 _ _ gr10), layV_plain _, k _⟩
      · refine ⟨_, rfl, t, rfl, hasc, hlt, .inr ⟨hrd, .inl ⟨hR, fun q8 H8 s8 gq8 => ?_⟩⟩⟩
        generalize rdLay (Txt.split t (" " : Str)) = cc at gr ne0 hR z2 z200
        generalize rdRule (Txt.split t (" " : Str)) = ru at gq at0 at1' hR zr
        refine ⟨_, rfl, q, _, _, _, rfl, rfl, SqT.of (s8 _ _ gq), at0, (by show 0 ≤ sizeLine; decide), fun l9 hl9 => ?_⟩
        have s9 := same_upd (o := .lst ([] : List V)) hl9
        refine ⟨r, l9, layV cc, [], rfl, rfl, SqL.of (s9 _ _ (s8 _ _ gr)), SqL.of upd_same, layV_plain _, rfl, _, rfl, iteD (fun z => absurd z ne0) (fun _ => ?_)⟩
        have gr9 := s9 _ _ (s8 _ _ gr)
        have gq9 := s9 _ _ (s8 _ _ gq)
        have gq89 := s9 _ _ gq8
        generalize upd H8 l9 (.lst ([] : List V)) = H9 at gr9 gq9 gq89
        refine ⟨_, rfl, q, _, _, _, rfl, rfl, SqT.of gq9, at0, _, rfl, q, _, _, _, rfl, rfl, SqT.of gq9, at1', r, cc.length, (ru : Int), cc, rfl, gr9, rfl, by omega, by omega, by omega, z200, fun H10 b s10 hb => ⟨_, rfl, iteNB (fun _ => ?_) (fun z => ?_)⟩⟩
        · refine ⟨_, rfl, .ref q8, C, _, false, rfl, .tup (s10 _ _ gq89), IC.kT, _, rfl, _, rfl, iteT ?_⟩
          refine ⟨_, rfl, (by show 3 ≤ sizeLine; decide), fun q11 hq11 => ?_⟩
          have s11 := same_upd (o := .tup ([false, true, true].map V.bl)) hq11
          refine ⟨q8, q11, [false, true, true], [false, true, true], rfl, rfl, SqT.of (s11 _ _ (s10 _ _ gq89)), SqT.of upd_same, rfl, ?_⟩
          rw [decide_eq_true rfl]
          exact k _
        · exact absurd (hb.mp z) hR

end

set_option maxHeartbeats 2000000 in
theorem all_mk {l : PySem.W.OpenLaw} {w : World} {K : PySem.W.Frag} {h : Heap} {mg : Str → Option Value} {fa C : Addr} (X : K.In h) (G : h.Ns mainGlobals mg) (hfa : mg "law" = some (.ref fa))
    {f_i : Addr} {od_i an_i : Option Addr} {sl_i : Array (Option Value)} {oc_i kV_i dc_i pm_i cd_i ct_i : Value}
    {f_is_size : Addr} {od_is_size an_is_size : Option Addr} {sl_is_size : Array (Option Value)} {oc_is_size kV_is_size dc_is_size pm_is_size cd_is_size ct_is_size : Value}
    {f_way : Addr} {od_way an_way : Option Addr} {sl_way : Array (Option Value)} {oc_way kV_way dc_way pm_way cd_way ct_way : Value}
    {f_keeps : Addr} {od_keeps an_keeps : Option Addr} {sl_keeps : Array (Option Value)} {oc_keeps kV_keeps dc_keeps pm_keeps cd_keeps ct_keeps : Value}
    {f_stalls : Addr} {od_stalls an_stalls : Option Addr} {sl_stalls : Array (Option Value)} {oc_stalls kV_stalls dc_stalls pm_stalls cd_stalls ct_stalls : Value}
    {f_each_once : Addr} {od_each_once an_each_once : Option Addr} {sl_each_once : Array (Option Value)} {oc_each_once kV_each_once dc_each_once pm_each_once cd_each_once ct_each_once : Value}
    {f_came_rightly : Addr} {od_came_rightly an_came_rightly : Option Addr} {sl_came_rightly : Array (Option Value)} {oc_came_rightly kV_came_rightly dc_came_rightly pm_came_rightly cd_came_rightly ct_came_rightly : Value}
    {f_right : Addr} {od_right an_right : Option Addr} {sl_right : Array (Option Value)} {oc_right kV_right dc_right pm_right cd_right ct_right : Value}
    {f_laid : Addr} {od_laid an_laid : Option Addr} {sl_laid : Array (Option Value)} {oc_laid kV_laid dc_laid pm_laid cd_laid ct_laid : Value}
    {f_is_number : Addr} {od_is_number an_is_number : Option Addr} {sl_is_number : Array (Option Value)} {oc_is_number kV_is_number dc_is_number pm_is_number cd_is_number ct_is_number : Value}
    {f_read_number : Addr} {od_read_number an_read_number : Option Addr} {sl_read_number : Array (Option Value)} {oc_read_number kV_read_number dc_read_number pm_read_number cd_read_number ct_read_number : Value}
    {f_read_rule : Addr} {od_read_rule an_read_rule : Option Addr} {sl_read_rule : Array (Option Value)} {oc_read_rule kV_read_rule dc_read_rule pm_read_rule cd_read_rule ct_read_rule : Value}
    {f_read_cell : Addr} {od_read_cell an_read_cell : Option Addr} {sl_read_cell : Array (Option Value)} {oc_read_cell kV_read_cell dc_read_cell pm_read_cell cd_read_cell ct_read_cell : Value}
    {f_read : Addr} {od_read an_read : Option Addr} {sl_read : Array (Option Value)} {oc_read kV_read dc_read pm_read cd_read ct_read : Value}
    {f__law_cell : Addr} {od__law_cell an__law_cell : Option Addr} {sl__law_cell : Array (Option Value)} {oc__law_cell kV__law_cell dc__law_cell pm__law_cell cd__law_cell ct__law_cell : Value}
    {f__law_whole : Addr} {od__law_whole an__law_whole : Option Addr} {sl__law_whole : Array (Option Value)} {oc__law_whole kV__law_whole dc__law_whole pm__law_whole cd__law_whole ct__law_whole : Value}
    {f__law_way : Addr} {od__law_way an__law_way : Option Addr} {sl__law_way : Array (Option Value)} {oc__law_way kV__law_way dc__law_way pm__law_way cd__law_way ct__law_way : Value}
    {f__law_keeps : Addr} {od__law_keeps an__law_keeps : Option Addr} {sl__law_keeps : Array (Option Value)} {oc__law_keeps kV__law_keeps dc__law_keeps pm__law_keeps cd__law_keeps ct__law_keeps : Value}
    {f__law_put : Addr} {od__law_put an__law_put : Option Addr} {sl__law_put : Array (Option Value)} {oc__law_put kV__law_put dc__law_put pm__law_put cd__law_put ct__law_put : Value}
    {f__law_name : Addr} {od__law_name an__law_name : Option Addr} {sl__law_name : Array (Option Value)} {oc__law_name kV__law_name dc__law_name pm__law_name cd__law_name ct__law_name : Value}
    {f__law_row : Addr} {od__law_row an__law_row : Option Addr} {sl__law_row : Array (Option Value)} {oc__law_row kV__law_row dc__law_row pm__law_row cd__law_row ct__law_row : Value}
    {f__law_right : Addr} {od__law_right an__law_right : Option Addr} {sl__law_right : Array (Option Value)} {oc__law_right kV__law_right dc__law_right pm__law_right cd__law_right ct__law_right : Value}
    {f__law_text : Addr} {od__law_text an__law_text : Option Addr} {sl__law_text : Array (Option Value)} {oc__law_text kV__law_text dc__law_text pm__law_text cd__law_text ct__law_text : Value}
    {f__law_odd : Addr} {od__law_odd an__law_odd : Option Addr} {sl__law_odd : Array (Option Value)} {oc__law_odd kV__law_odd dc__law_odd pm__law_odd cd__law_odd ct__law_odd : Value}
    {f__law_spoiled : Addr} {od__law_spoiled an__law_spoiled : Option Addr} {sl__law_spoiled : Array (Option Value)} {oc__law_spoiled kV__law_spoiled dc__law_spoiled pm__law_spoiled cd__law_spoiled ct__law_spoiled : Value}
    {f__law_number : Addr} {od__law_number an__law_number : Option Addr} {sl__law_number : Array (Option Value)} {oc__law_number kV__law_number dc__law_number pm__law_number cd__law_number ct__law_number : Value}
    {f__law_due : Addr} {od__law_due an__law_due : Option Addr} {sl__law_due : Array (Option Value)} {oc__law_due kV__law_due dc__law_due pm__law_due cd__law_due ct__law_due : Value}
    {f__law_told : Addr} {od__law_told an__law_told : Option Addr} {sl__law_told : Array (Option Value)} {oc__law_told kV__law_told dc__law_told pm__law_told cd__law_told ct__law_told : Value}
    {f_law : Addr} {od_law an_law : Option Addr} {sl_law : Array (Option Value)} {oc_law kV_law dc_law pm_law cd_law ct_law : Value}
    {C_YardError : Addr}
    {C_NotLaid : Addr}
    {C_NotRead : Addr}
    {t_FIRST : Tok}
    {t_FAR : Tok}
    {t_LEAST_STALLS : Tok}
    {t_MOST_STALLS : Tok}
    {t_MOST_FIGURES : Tok}
    {aW : Addr} {od_W : Option Addr} {t1_W t2_W t3_W : Tok} {n_W : Nat} {sl_W : Array (Option Value)}
    {t_FIG : Tok}
    {t_NOC : Tok}
    (aC : PySem.W.nsIn K mainGlobals "Yard" = some (some (.ref C)))
    (a_i : PySem.W.findIn K (.ref C) "__init__" = some (some (.ref f_i))) (i_i : PySem.W.isFn K (.ref f_i) = true)
    (l_i : K.lookup f_i = some ⟨oc_i, od_i, .func (PySem.W.fnOf "__init__" "Yard.__init__" (defArgs sInit) (defBody sInit) (defScope sInit) .none kV_i dc_i pm_i an_i cd_i ct_i), sl_i⟩) (c_i : PySem.W.codeIn K cd_i "Yard.__init__" = true) (k_i : PySem.W.keepIn K (.ref f_i) = true)
    (a_is_size : PySem.W.nsIn K mainGlobals "is_size" = some (some (.ref f_is_size)))
    (l_is_size : K.lookup f_is_size = some ⟨oc_is_size, od_is_size, .func (PySem.W.fnOf "is_size" "is_size" (defArgs sSize) (defBody sSize) (defScope sSize) .none kV_is_size dc_is_size pm_is_size an_is_size cd_is_size ct_is_size), sl_is_size⟩) (c_is_size : PySem.W.codeIn K cd_is_size "is_size" = true) (k_is_size : PySem.W.keepIn K (.ref f_is_size) = true)
    (a_way : PySem.W.nsIn K mainGlobals "way" = some (some (.ref f_way)))
    (l_way : K.lookup f_way = some ⟨oc_way, od_way, .func (PySem.W.fnOf "way" "way" (defArgs sWay) (defBody sWay) (defScope sWay) .none kV_way dc_way pm_way an_way cd_way ct_way), sl_way⟩) (c_way : PySem.W.codeIn K cd_way "way" = true) (k_way : PySem.W.keepIn K (.ref f_way) = true)
    (a_keeps : PySem.W.nsIn K mainGlobals "keeps" = some (some (.ref f_keeps)))
    (l_keeps : K.lookup f_keeps = some ⟨oc_keeps, od_keeps, .func (PySem.W.fnOf "keeps" "keeps" (defArgs sKeeps) (defBody sKeeps) (defScope sKeeps) .none kV_keeps dc_keeps pm_keeps an_keeps cd_keeps ct_keeps), sl_keeps⟩) (c_keeps : PySem.W.codeIn K cd_keeps "keeps" = true) (k_keeps : PySem.W.keepIn K (.ref f_keeps) = true)
    (a_stalls : PySem.W.findIn K (.ref C) "stalls" = some (some (.ref f_stalls))) (i_stalls : PySem.W.isFn K (.ref f_stalls) = true)
    (l_stalls : K.lookup f_stalls = some ⟨oc_stalls, od_stalls, .func (PySem.W.fnOf "stalls" "Yard.stalls" (defArgs sStalls) (defBody sStalls) (defScope sStalls) .none kV_stalls dc_stalls pm_stalls an_stalls cd_stalls ct_stalls), sl_stalls⟩) (c_stalls : PySem.W.codeIn K cd_stalls "Yard.stalls" = true) (k_stalls : PySem.W.keepIn K (.ref f_stalls) = true)
    (a_each_once : PySem.W.nsIn K mainGlobals "each_once" = some (some (.ref f_each_once)))
    (l_each_once : K.lookup f_each_once = some ⟨oc_each_once, od_each_once, .func (PySem.W.fnOf "each_once" "each_once" (defArgs sOnce) (defBody sOnce) (defScope sOnce) .none kV_each_once dc_each_once pm_each_once an_each_once cd_each_once ct_each_once), sl_each_once⟩) (c_each_once : PySem.W.codeIn K cd_each_once "each_once" = true) (k_each_once : PySem.W.keepIn K (.ref f_each_once) = true)
    (a_came_rightly : PySem.W.nsIn K mainGlobals "came_rightly" = some (some (.ref f_came_rightly)))
    (l_came_rightly : K.lookup f_came_rightly = some ⟨oc_came_rightly, od_came_rightly, .func (PySem.W.fnOf "came_rightly" "came_rightly" (defArgs sCame) (defBody sCame) (defScope sCame) .none kV_came_rightly dc_came_rightly pm_came_rightly an_came_rightly cd_came_rightly ct_came_rightly), sl_came_rightly⟩) (c_came_rightly : PySem.W.codeIn K cd_came_rightly "came_rightly" = true) (k_came_rightly : PySem.W.keepIn K (.ref f_came_rightly) = true)
    (a_right : PySem.W.nsIn K mainGlobals "right" = some (some (.ref f_right)))
    (l_right : K.lookup f_right = some ⟨oc_right, od_right, .func (PySem.W.fnOf "right" "right" (defArgs sRight) (defBody sRight) (defScope sRight) .none kV_right dc_right pm_right an_right cd_right ct_right), sl_right⟩) (c_right : PySem.W.codeIn K cd_right "right" = true) (k_right : PySem.W.keepIn K (.ref f_right) = true)
    (a_laid : PySem.W.nsIn K mainGlobals "laid" = some (some (.ref f_laid)))
    (l_laid : K.lookup f_laid = some ⟨oc_laid, od_laid, .func (PySem.W.fnOf "laid" "laid" (defArgs sLaid) (defBody sLaid) (defScope sLaid) .none kV_laid dc_laid pm_laid an_laid cd_laid ct_laid), sl_laid⟩) (c_laid : PySem.W.codeIn K cd_laid "laid" = true) (k_laid : PySem.W.keepIn K (.ref f_laid) = true)
    (a_is_number : PySem.W.nsIn K mainGlobals "is_number" = some (some (.ref f_is_number)))
    (l_is_number : K.lookup f_is_number = some ⟨oc_is_number, od_is_number, .func (PySem.W.fnOf "is_number" "is_number" (defArgs sIsN) (defBody sIsN) (defScope sIsN) .none kV_is_number dc_is_number pm_is_number an_is_number cd_is_number ct_is_number), sl_is_number⟩) (c_is_number : PySem.W.codeIn K cd_is_number "is_number" = true) (k_is_number : PySem.W.keepIn K (.ref f_is_number) = true)
    (a_read_number : PySem.W.nsIn K mainGlobals "read_number" = some (some (.ref f_read_number)))
    (l_read_number : K.lookup f_read_number = some ⟨oc_read_number, od_read_number, .func (PySem.W.fnOf "read_number" "read_number" (defArgs sReadN) (defBody sReadN) (defScope sReadN) .none kV_read_number dc_read_number pm_read_number an_read_number cd_read_number ct_read_number), sl_read_number⟩) (c_read_number : PySem.W.codeIn K cd_read_number "read_number" = true) (k_read_number : PySem.W.keepIn K (.ref f_read_number) = true)
    (a_read_rule : PySem.W.nsIn K mainGlobals "read_rule" = some (some (.ref f_read_rule)))
    (l_read_rule : K.lookup f_read_rule = some ⟨oc_read_rule, od_read_rule, .func (PySem.W.fnOf "read_rule" "read_rule" (defArgs sReadR) (defBody sReadR) (defScope sReadR) .none kV_read_rule dc_read_rule pm_read_rule an_read_rule cd_read_rule ct_read_rule), sl_read_rule⟩) (c_read_rule : PySem.W.codeIn K cd_read_rule "read_rule" = true) (k_read_rule : PySem.W.keepIn K (.ref f_read_rule) = true)
    (a_read_cell : PySem.W.nsIn K mainGlobals "read_cell" = some (some (.ref f_read_cell)))
    (l_read_cell : K.lookup f_read_cell = some ⟨oc_read_cell, od_read_cell, .func (PySem.W.fnOf "read_cell" "read_cell" (defArgs sReadC) (defBody sReadC) (defScope sReadC) .none kV_read_cell dc_read_cell pm_read_cell an_read_cell cd_read_cell ct_read_cell), sl_read_cell⟩) (c_read_cell : PySem.W.codeIn K cd_read_cell "read_cell" = true) (k_read_cell : PySem.W.keepIn K (.ref f_read_cell) = true)
    (a_read : PySem.W.nsIn K mainGlobals "read" = some (some (.ref f_read)))
    (l_read : K.lookup f_read = some ⟨oc_read, od_read, .func (PySem.W.fnOf "read" "read" (defArgs sRead) (defBody sRead) (defScope sRead) .none kV_read dc_read pm_read an_read cd_read ct_read), sl_read⟩) (c_read : PySem.W.codeIn K cd_read "read" = true) (k_read : PySem.W.keepIn K (.ref f_read) = true)
    (a__law_cell : PySem.W.nsIn K mainGlobals "_law_cell" = some (some (.ref f__law_cell)))
    (l__law_cell : K.lookup f__law_cell = some ⟨oc__law_cell, od__law_cell, .func (PySem.W.fnOf "_law_cell" "_law_cell" (defArgs sCell) (defBody sCell) (defScope sCell) .none kV__law_cell dc__law_cell pm__law_cell an__law_cell cd__law_cell ct__law_cell), sl__law_cell⟩) (c__law_cell : PySem.W.codeIn K cd__law_cell "_law_cell" = true) (k__law_cell : PySem.W.keepIn K (.ref f__law_cell) = true)
    (a__law_whole : PySem.W.nsIn K mainGlobals "_law_whole" = some (some (.ref f__law_whole)))
    (l__law_whole : K.lookup f__law_whole = some ⟨oc__law_whole, od__law_whole, .func (PySem.W.fnOf "_law_whole" "_law_whole" (defArgs sWhole) (defBody sWhole) (defScope sWhole) .none kV__law_whole dc__law_whole pm__law_whole an__law_whole cd__law_whole ct__law_whole), sl__law_whole⟩) (c__law_whole : PySem.W.codeIn K cd__law_whole "_law_whole" = true) (k__law_whole : PySem.W.keepIn K (.ref f__law_whole) = true)
    (a__law_way : PySem.W.nsIn K mainGlobals "_law_way" = some (some (.ref f__law_way)))
    (l__law_way : K.lookup f__law_way = some ⟨oc__law_way, od__law_way, .func (PySem.W.fnOf "_law_way" "_law_way" (defArgs sLWay) (defBody sLWay) (defScope sLWay) .none kV__law_way dc__law_way pm__law_way an__law_way cd__law_way ct__law_way), sl__law_way⟩) (c__law_way : PySem.W.codeIn K cd__law_way "_law_way" = true) (k__law_way : PySem.W.keepIn K (.ref f__law_way) = true)
    (a__law_keeps : PySem.W.nsIn K mainGlobals "_law_keeps" = some (some (.ref f__law_keeps)))
    (l__law_keeps : K.lookup f__law_keeps = some ⟨oc__law_keeps, od__law_keeps, .func (PySem.W.fnOf "_law_keeps" "_law_keeps" (defArgs sLKeeps) (defBody sLKeeps) (defScope sLKeeps) .none kV__law_keeps dc__law_keeps pm__law_keeps an__law_keeps cd__law_keeps ct__law_keeps), sl__law_keeps⟩) (c__law_keeps : PySem.W.codeIn K cd__law_keeps "_law_keeps" = true) (k__law_keeps : PySem.W.keepIn K (.ref f__law_keeps) = true)
    (a__law_put : PySem.W.nsIn K mainGlobals "_law_put" = some (some (.ref f__law_put)))
    (l__law_put : K.lookup f__law_put = some ⟨oc__law_put, od__law_put, .func (PySem.W.fnOf "_law_put" "_law_put" (defArgs sLPut) (defBody sLPut) (defScope sLPut) .none kV__law_put dc__law_put pm__law_put an__law_put cd__law_put ct__law_put), sl__law_put⟩) (c__law_put : PySem.W.codeIn K cd__law_put "_law_put" = true) (k__law_put : PySem.W.keepIn K (.ref f__law_put) = true)
    (a__law_name : PySem.W.nsIn K mainGlobals "_law_name" = some (some (.ref f__law_name)))
    (l__law_name : K.lookup f__law_name = some ⟨oc__law_name, od__law_name, .func (PySem.W.fnOf "_law_name" "_law_name" (defArgs sName) (defBody sName) (defScope sName) .none kV__law_name dc__law_name pm__law_name an__law_name cd__law_name ct__law_name), sl__law_name⟩) (c__law_name : PySem.W.codeIn K cd__law_name "_law_name" = true) (k__law_name : PySem.W.keepIn K (.ref f__law_name) = true)
    (a__law_row : PySem.W.nsIn K mainGlobals "_law_row" = some (some (.ref f__law_row)))
    (l__law_row : K.lookup f__law_row = some ⟨oc__law_row, od__law_row, .func (PySem.W.fnOf "_law_row" "_law_row" (defArgs sLRow) (defBody sLRow) (defScope sLRow) .none kV__law_row dc__law_row pm__law_row an__law_row cd__law_row ct__law_row), sl__law_row⟩) (c__law_row : PySem.W.codeIn K cd__law_row "_law_row" = true) (k__law_row : PySem.W.keepIn K (.ref f__law_row) = true)
    (a__law_right : PySem.W.nsIn K mainGlobals "_law_right" = some (some (.ref f__law_right)))
    (l__law_right : K.lookup f__law_right = some ⟨oc__law_right, od__law_right, .func (PySem.W.fnOf "_law_right" "_law_right" (defArgs sLRight) (defBody sLRight) (defScope sLRight) .none kV__law_right dc__law_right pm__law_right an__law_right cd__law_right ct__law_right), sl__law_right⟩) (c__law_right : PySem.W.codeIn K cd__law_right "_law_right" = true) (k__law_right : PySem.W.keepIn K (.ref f__law_right) = true)
    (a__law_text : PySem.W.nsIn K mainGlobals "_law_text" = some (some (.ref f__law_text)))
    (l__law_text : K.lookup f__law_text = some ⟨oc__law_text, od__law_text, .func (PySem.W.fnOf "_law_text" "_law_text" (defArgs sLText) (defBody sLText) (defScope sLText) .none kV__law_text dc__law_text pm__law_text an__law_text cd__law_text ct__law_text), sl__law_text⟩) (c__law_text : PySem.W.codeIn K cd__law_text "_law_text" = true) (k__law_text : PySem.W.keepIn K (.ref f__law_text) = true)
    (a__law_odd : PySem.W.nsIn K mainGlobals "_law_odd" = some (some (.ref f__law_odd)))
    (l__law_odd : K.lookup f__law_odd = some ⟨oc__law_odd, od__law_odd, .func (PySem.W.fnOf "_law_odd" "_law_odd" (defArgs sLOdd) (defBody sLOdd) (defScope sLOdd) .none kV__law_odd dc__law_odd pm__law_odd an__law_odd cd__law_odd ct__law_odd), sl__law_odd⟩) (c__law_odd : PySem.W.codeIn K cd__law_odd "_law_odd" = true) (k__law_odd : PySem.W.keepIn K (.ref f__law_odd) = true)
    (a__law_spoiled : PySem.W.nsIn K mainGlobals "_law_spoiled" = some (some (.ref f__law_spoiled)))
    (l__law_spoiled : K.lookup f__law_spoiled = some ⟨oc__law_spoiled, od__law_spoiled, .func (PySem.W.fnOf "_law_spoiled" "_law_spoiled" (defArgs sLSpoiled) (defBody sLSpoiled) (defScope sLSpoiled) .none kV__law_spoiled dc__law_spoiled pm__law_spoiled an__law_spoiled cd__law_spoiled ct__law_spoiled), sl__law_spoiled⟩) (c__law_spoiled : PySem.W.codeIn K cd__law_spoiled "_law_spoiled" = true) (k__law_spoiled : PySem.W.keepIn K (.ref f__law_spoiled) = true)
    (a__law_number : PySem.W.nsIn K mainGlobals "_law_number" = some (some (.ref f__law_number)))
    (l__law_number : K.lookup f__law_number = some ⟨oc__law_number, od__law_number, .func (PySem.W.fnOf "_law_number" "_law_number" (defArgs sLNumber) (defBody sLNumber) (defScope sLNumber) .none kV__law_number dc__law_number pm__law_number an__law_number cd__law_number ct__law_number), sl__law_number⟩) (c__law_number : PySem.W.codeIn K cd__law_number "_law_number" = true) (k__law_number : PySem.W.keepIn K (.ref f__law_number) = true)
    (a__law_due : PySem.W.nsIn K mainGlobals "_law_due" = some (some (.ref f__law_due)))
    (l__law_due : K.lookup f__law_due = some ⟨oc__law_due, od__law_due, .func (PySem.W.fnOf "_law_due" "_law_due" (defArgs sLDue) (defBody sLDue) (defScope sLDue) .none kV__law_due dc__law_due pm__law_due an__law_due cd__law_due ct__law_due), sl__law_due⟩) (c__law_due : PySem.W.codeIn K cd__law_due "_law_due" = true) (k__law_due : PySem.W.keepIn K (.ref f__law_due) = true)
    (a__law_told : PySem.W.nsIn K mainGlobals "_law_told" = some (some (.ref f__law_told)))
    (l__law_told : K.lookup f__law_told = some ⟨oc__law_told, od__law_told, .func (PySem.W.fnOf "_law_told" "_law_told" (defArgs sLTold) (defBody sLTold) (defScope sLTold) .none kV__law_told dc__law_told pm__law_told an__law_told cd__law_told ct__law_told), sl__law_told⟩) (c__law_told : PySem.W.codeIn K cd__law_told "_law_told" = true) (k__law_told : PySem.W.keepIn K (.ref f__law_told) = true)
    (a_law : PySem.W.nsIn K mainGlobals "law" = some (some (.ref f_law)))
    (l_law : K.lookup f_law = some ⟨oc_law, od_law, .func (PySem.W.fnOf "law" "law" (defArgs sLaw) (defBody sLaw) (defScope sLaw) .none kV_law dc_law pm_law an_law cd_law ct_law), sl_law⟩) (c_law : PySem.W.codeIn K cd_law "law" = true) (k_law : PySem.W.keepIn K (.ref f_law) = true)
    (pg : PySem.W.plainGet K C Str.empty = true) (hd : PySem.W.hasDictIn K C = true) (po : PySem.W.plainOver K C = true) (sa : PySem.W.findIn K (.ref C) "__setattr__" = some (some (.builtin "object.__setattr__"))) (mk : PySem.W.makesIn K C = true) (kc : PySem.W.keepIn K (.ref C) = true)
    (nM : PySem.W.findIn K (.ref C) "many" = some none) (nR : PySem.W.findIn K (.ref C) "rule" = some none) (nC : PySem.W.findIn K (.ref C) "cells" = some none)
    (ia : PySem.W.findIn K (.ref C) "__class__" = some (some (.builtin "object.__class__")))
    (ig : PySem.W.specialIn K (.builtin "object.__class__") "__get__" = some (some (.builtin "getset_descriptor.__get__")))
    (ik : PySem.W.takesIn K (.builtin "object.__class__") = some true)
    (im : PySem.W.mroIn K C (.type "object") = some true)
    (it : PySem.W.kitOne K (.type "tuple") (.ref C) = some false)
    (a_YardError : PySem.W.nsIn K mainGlobals "YardError" = some (some (.ref C_YardError)))
    (a_NotLaid : PySem.W.nsIn K mainGlobals "NotLaid" = some (some (.ref C_NotLaid)))
    (e_NotLaid : PySem.W.excIn K C_NotLaid L2.excBm "ValueError.__new__" = true) (m_NotLaid : PySem.W.exmOne K (.ref C_NotLaid) (.ref C_YardError) = some true) (v_NotLaid : PySem.W.kitOne K (.ref C_NotLaid) (.type "ValueError") = some true)
    (cl_NotLaid : PySem.W.hasDictIn K C_NotLaid = true)
    (ga_NotLaid : PySem.W.findIn K (.ref C_NotLaid) "__getattribute__" = some (some (.builtin "BaseException.__getattribute__")))
    (gt_NotLaid : PySem.W.findIn K (.ref C_NotLaid) "__getattr__" = some none)
    (kl_NotLaid : PySem.W.findIn K (.ref C_NotLaid) "__class__" = some (some (.builtin "object.__class__")))
    (gg_NotLaid : PySem.W.specialIn K (.builtin "object.__class__") "__get__" = some (some (.builtin "getset_descriptor.__get__")))
    (tk_NotLaid : PySem.W.takesIn K (.builtin "object.__class__") = some true)
    (ob_NotLaid : PySem.W.mroIn K C_NotLaid (.type "object") = some true)
    (ex_NotLaid : PySem.W.subIn K (.ref C_NotLaid) (.type "BaseException") = some true)
    (a_NotRead : PySem.W.nsIn K mainGlobals "NotRead" = some (some (.ref C_NotRead)))
    (e_NotRead : PySem.W.excIn K C_NotRead L2.excBm "ValueError.__new__" = true) (m_NotRead : PySem.W.exmOne K (.ref C_NotRead) (.ref C_YardError) = some true) (v_NotRead : PySem.W.kitOne K (.ref C_NotRead) (.type "ValueError") = some true)
    (cl_NotRead : PySem.W.hasDictIn K C_NotRead = true)
    (ga_NotRead : PySem.W.findIn K (.ref C_NotRead) "__getattribute__" = some (some (.builtin "BaseException.__getattribute__")))
    (gt_NotRead : PySem.W.findIn K (.ref C_NotRead) "__getattr__" = some none)
    (kl_NotRead : PySem.W.findIn K (.ref C_NotRead) "__class__" = some (some (.builtin "object.__class__")))
    (gg_NotRead : PySem.W.specialIn K (.builtin "object.__class__") "__get__" = some (some (.builtin "getset_descriptor.__get__")))
    (tk_NotRead : PySem.W.takesIn K (.builtin "object.__class__") = some true)
    (ob_NotRead : PySem.W.mroIn K C_NotRead (.type "object") = some true)
    (ex_NotRead : PySem.W.subIn K (.ref C_NotRead) (.type "BaseException") = some true)
    (kk_NotRead_NotLaid : PySem.W.kitOne K (.ref C_NotRead) (.ref C_NotLaid) = some false)
    (kk_NotLaid_NotRead : PySem.W.kitOne K (.ref C_NotLaid) (.ref C_NotRead) = some false)
    (q_FIRST : PySem.W.nsIn K mainGlobals "FIRST" = some (some (.int 0 t_FIRST)))
    (q_FAR : PySem.W.nsIn K mainGlobals "FAR" = some (some (.int 2 t_FAR)))
    (q_LEAST_STALLS : PySem.W.nsIn K mainGlobals "LEAST_STALLS" = some (some (.int 2 t_LEAST_STALLS)))
    (q_MOST_STALLS : PySem.W.nsIn K mainGlobals "MOST_STALLS" = some (some (.int 200 t_MOST_STALLS)))
    (q_MOST_FIGURES : PySem.W.nsIn K mainGlobals "MOST_FIGURES" = some (some (.int 30 t_MOST_FIGURES)))
    (q_WORDS : PySem.W.nsIn K mainGlobals "WORDS" = some (some (.ref aW)))
    (l_WORDS : K.lookup aW = some ⟨.type "tuple", od_W, .seq #[.str (Str.ofString "first") t1_W, .str (Str.ofString "name") t2_W, .str (Str.ofString "far") t3_W] n_W, sl_W⟩)
    (q_FIGURES : PySem.W.nsIn K mainGlobals "FIGURES" = some (some (.str (Str.ofString "0123456789") t_FIG)))
    (q_NO_CART : PySem.W.nsIn K mainGlobals "NO_CART" = some (some (.str (Str.ofString "-") t_NOC)))
    (z_len : PySem.W.nsIn K mainGlobals "len" = some none)
    (z_sorted : PySem.W.nsIn K mainGlobals "sorted" = some none)
    (z_list : PySem.W.nsIn K mainGlobals "list" = some none)
    (z_isinstance : PySem.W.nsIn K mainGlobals "isinstance" = some none)
    (z_int : PySem.W.nsIn K mainGlobals "int" = some none)
    (z_bool : PySem.W.nsIn K mainGlobals "bool" = some none)
    (z_tuple : PySem.W.nsIn K mainGlobals "tuple" = some none)
    (z_range : PySem.W.nsIn K mainGlobals "range" = some none)
    (z_all : PySem.W.nsIn K mainGlobals "all" = some none)
    (z_set : PySem.W.nsIn K mainGlobals "set" = some none)
    (z_enumerate : PySem.W.nsIn K mainGlobals "enumerate" = some none)
    (z_str : PySem.W.nsIn K mainGlobals "str" = some none)
    (z_ValueError : PySem.W.nsIn K mainGlobals "ValueError" = some none) :
    ∃ fd : FuncData, (∀ (s : Shared) (v : Value), BindsTo s fd ⟨[v], []⟩ [("script", v)]) ∧ ∀ base : Heap, K.In base → base.Ns mainGlobals mg → FnOk l.prog w K mg base CX0 8 fa fd ["script"] (spLaw K) := by
  have e := hfa.symm.trans (PySem.W.mg_of X G a_law)
  cases e
  have T : Txt K mg C := ⟨⟨pg, hd, po, sa⟩, nM, nR, nC, ⟨_, PySem.W.mg_of X G q_FIRST⟩, ⟨_, PySem.W.mg_of X G q_FAR⟩, ⟨_, PySem.W.mg_of X G q_LEAST_STALLS⟩, ⟨_, PySem.W.mg_of X G q_MOST_STALLS⟩, PySem.W.mg_none_of X G z_len, PySem.W.mg_none_of X G z_sorted, PySem.W.mg_none_of X G z_list⟩
  have L : LTxt K mg := ⟨PySem.W.mg_none_of X G z_len, PySem.W.mg_none_of X G z_isinstance, PySem.W.mg_none_of X G z_int, PySem.W.mg_none_of X G z_bool, PySem.W.mg_none_of X G z_list, PySem.W.mg_none_of X G z_tuple, kII K, kIB K, kLL K, kTT K⟩
  have F_i := fun_mk (st := sInit) l_i c_i k_i
  have b_i := F_i.binds (ps := ["self", "many", "rule"]) fun _ _ _ _ _ _ us hl => match us, hl with | [_, _, _], _ => rfl
  have F_is_size := fun_mk (st := sSize) l_is_size c_is_size k_is_size
  have b_is_size := F_is_size.binds (ps := ["many"]) fun _ _ _ _ _ _ us hl => match us, hl with | [_], _ => rfl
  have F_way := fun_mk (st := sWay) l_way c_way k_way
  have b_way := F_way.binds (ps := ["name", "at", "many"]) fun _ _ _ _ _ _ us hl => match us, hl with | [_, _, _], _ => rfl
  have F_keeps := fun_mk (st := sKeeps) l_keeps c_keeps k_keeps
  have b_keeps := F_keeps.binds (ps := ["rule", "one", "other", "at", "many"]) fun _ _ _ _ _ _ us hl => match us, hl with | [_, _, _, _, _], _ => rfl
  have F_stalls := fun_mk (st := sStalls) l_stalls c_stalls k_stalls
  have b_stalls := F_stalls.binds (ps := ["self"]) fun _ _ _ _ _ _ us hl => match us, hl with | [_], _ => rfl
  have F_each_once := fun_mk (st := sOnce) l_each_once c_each_once k_each_once
  have b_each_once := F_each_once.binds (ps := ["layout"]) fun _ _ _ _ _ _ us hl => match us, hl with | [_], _ => rfl
  have F_came_rightly := fun_mk (st := sCame) l_came_rightly c_came_rightly k_came_rightly
  have b_came_rightly := F_came_rightly.binds (ps := ["many", "rule", "layout", "at"]) fun _ _ _ _ _ _ us hl => match us, hl with | [_, _, _, _], _ => rfl
  have F_right := fun_mk (st := sRight) l_right c_right k_right
  have b_right := F_right.binds (ps := ["many", "rule", "layout"]) fun _ _ _ _ _ _ us hl => match us, hl with | [_, _, _], _ => rfl
  have F_laid := fun_mk (st := sLaid) l_laid c_laid k_laid
  have b_laid := F_laid.binds (ps := ["many", "rule", "layout"]) fun _ _ _ _ _ _ us hl => match us, hl with | [_, _, _], _ => rfl
  have F_is_number := fun_mk (st := sIsN) l_is_number c_is_number k_is_number
  have b_is_number := F_is_number.binds (ps := ["part"]) fun _ _ _ _ _ _ us hl => match us, hl with | [_], _ => rfl
  have F_read_number := fun_mk (st := sReadN) l_read_number c_read_number k_read_number
  have b_read_number := F_read_number.binds (ps := ["part"]) fun _ _ _ _ _ _ us hl => match us, hl with | [_], _ => rfl
  have F_read_rule := fun_mk (st := sReadR) l_read_rule c_read_rule k_read_rule
  have b_read_rule := F_read_rule.binds (ps := ["part"]) fun _ _ _ _ _ _ us hl => match us, hl with | [_], _ => rfl
  have F_read_cell := fun_mk (st := sReadC) l_read_cell c_read_cell k_read_cell
  have b_read_cell := F_read_cell.binds (ps := ["part"]) fun _ _ _ _ _ _ us hl => match us, hl with | [_], _ => rfl
  have F_read := fun_mk (st := sRead) l_read c_read k_read
  have b_read := F_read.binds (ps := ["text"]) fun _ _ _ _ _ _ us hl => match us, hl with | [_], _ => rfl
  have F__law_cell := fun_mk (st := sCell) l__law_cell c__law_cell k__law_cell
  have b__law_cell := F__law_cell.binds (ps := ["script", "k"]) fun _ _ _ _ _ _ us hl => match us, hl with | [_, _], _ => rfl
  have F__law_whole := fun_mk (st := sWhole) l__law_whole c__law_whole k__law_whole
  have b__law_whole := F__law_whole.binds (ps := ["found"]) fun _ _ _ _ _ _ us hl => match us, hl with | [_], _ => rfl
  have F__law_way := fun_mk (st := sLWay) l__law_way c__law_way k__law_way
  have b__law_way := F__law_way.binds (ps := ["name", "at", "many"]) fun _ _ _ _ _ _ us hl => match us, hl with | [_, _, _], _ => rfl
  have F__law_keeps := fun_mk (st := sLKeeps) l__law_keeps c__law_keeps k__law_keeps
  have b__law_keeps := F__law_keeps.binds (ps := ["rule", "one", "other", "at", "many"]) fun _ _ _ _ _ _ us hl => match us, hl with | [_, _, _, _, _], _ => rfl
  have F__law_put := fun_mk (st := sLPut) l__law_put c__law_put k__law_put
  have b__law_put := F__law_put.binds (ps := ["row", "rule", "name"]) fun _ _ _ _ _ _ us hl => match us, hl with | [_, _, _], _ => rfl
  have F__law_name := fun_mk (st := sName) l__law_name c__law_name k__law_name
  have b__law_name := F__law_name.binds (ps := ["cell", "many", "far"]) fun _ _ _ _ _ _ us hl => match us, hl with | [_, _, _], _ => rfl
  have F__law_row := fun_mk (st := sLRow) l__law_row c__law_row k__law_row
  have b__law_row := F__law_row.binds (ps := ["found", "due"]) fun _ _ _ _ _ _ us hl => match us, hl with | [_, _], _ => rfl
  have F__law_right := fun_mk (st := sLRight) l__law_right c__law_right k__law_right
  have b__law_right := F__law_right.binds (ps := ["row", "rule"]) fun _ _ _ _ _ _ us hl => match us, hl with | [_, _], _ => rfl
  have F__law_text := fun_mk (st := sLText) l__law_text c__law_text k__law_text
  have b__law_text := F__law_text.binds (ps := ["row", "rule"]) fun _ _ _ _ _ _ us hl => match us, hl with | [_, _], _ => rfl
  have F__law_odd := fun_mk (st := sLOdd) l__law_odd c__law_odd k__law_odd
  have b__law_odd := F__law_odd.binds (ps := ["cell"]) fun _ _ _ _ _ _ us hl => match us, hl with | [_], _ => rfl
  have F__law_spoiled := fun_mk (st := sLSpoiled) l__law_spoiled c__law_spoiled k__law_spoiled
  have b__law_spoiled := F__law_spoiled.binds (ps := ["text", "mode", "cell"]) fun _ _ _ _ _ _ us hl => match us, hl with | [_, _, _], _ => rfl
  have F__law_number := fun_mk (st := sLNumber) l__law_number c__law_number k__law_number
  have b__law_number := F__law_number.binds (ps := ["word", "most"]) fun _ _ _ _ _ _ us hl => match us, hl with | [_, _], _ => rfl
  have F__law_due := fun_mk (st := sLDue) l__law_due c__law_due k__law_due
  have b__law_due := F__law_due.binds (ps := ["text"]) fun _ _ _ _ _ _ us hl => match us, hl with | [_], _ => rfl
  have F__law_told := fun_mk (st := sLTold) l__law_told c__law_told k__law_told
  have b__law_told := F__law_told.binds (ps := ["text"]) fun _ _ _ _ _ _ us hl => match us, hl with | [_], _ => rfl
  have F_law := fun_mk (st := sLaw) l_law c_law k_law
  refine ⟨PySem.W.fnOf "law" "law" (defArgs sLaw) (defBody sLaw) (defScope sLaw) .none kV_law dc_law pm_law an_law cd_law ct_law, fun s v => .of_eq rfl, fun base KB _ => ?_⟩
  have E_NotLaid : ExcT K mg base "NotLaid" C_NotLaid C_YardError := ⟨own_at KB (PySem.W.mg_of X G a_NotLaid) e_NotLaid, ⟨cl_NotLaid, ga_NotLaid, gt_NotLaid, kl_NotLaid, gg_NotLaid, tk_NotLaid, ob_NotLaid, ex_NotLaid⟩, m_NotLaid, v_NotLaid⟩
  have E_NotRead : ExcT K mg base "NotRead" C_NotRead C_YardError := ⟨own_at KB (PySem.W.mg_of X G a_NotRead) e_NotRead, ⟨cl_NotRead, ga_NotRead, gt_NotRead, kl_NotRead, gg_NotRead, tk_NotRead, ob_NotRead, ex_NotRead⟩, m_NotRead, v_NotRead⟩
  have M : Mk K C f_i := ⟨mk, a_i, i_i, kc⟩
  have mgY := PySem.W.mg_of X G aC
  have IC : IsC K C := ⟨T.cl, ia, ig, ik, im, it⟩
  have G_is_size : FnG l.prog w K mg base "is_size" ["many"] 1 spSize := ⟨_, _, PySem.W.mg_of X G a_is_size, k_is_size, b_is_size, ok_size F_is_size T⟩
  have G_way : FnG l.prog w K mg base "way" ["name", "at", "many"] 1 spWay := ⟨_, _, PySem.W.mg_of X G a_way, k_way, b_way, ok_way F_way⟩
  have G_keeps : FnG l.prog w K mg base "keeps" ["rule", "one", "other", "at", "many"] 2 spKeeps := ⟨_, _, PySem.W.mg_of X G a_keeps, k_keeps, b_keeps, ok_keeps F_keeps T.first T.far G_way⟩
  have G_stalls : MtG l.prog w K mg base C "stalls" ["self"] 1 (spStalls C) := ⟨_, _, ⟨a_stalls, i_stalls, k_stalls⟩, b_stalls, ok_stalls F_stalls T⟩
  have GI : FnOk l.prog w K mg base CX0 2 f_i _ ["self", "many", "rule"] (spInit C) := ok_init F_i T G_is_size
  have NT : NTxt K mg aW := ⟨PySem.W.mg_of X G q_WORDS, fun H => .inr ⟨_, _, _, l_WORDS, rfl, rfl, (by show 3 ≤ sizeLine; decide), .cons ⟨_, rfl⟩ (.cons ⟨_, rfl⟩ (.cons ⟨_, rfl⟩ .nil))⟩, ⟨_, PySem.W.mg_of X G q_FIGURES⟩, ⟨_, PySem.W.mg_of X G q_MOST_FIGURES⟩, ⟨_, PySem.W.mg_of X G q_NO_CART⟩, PySem.W.mg_none_of X G z_len, PySem.W.mg_none_of X G z_all, PySem.W.mg_none_of X G z_int, PySem.W.mg_none_of X G z_str, PySem.W.mg_none_of X G z_enumerate⟩
  have G_each_once : FnG l.prog w K mg base "each_once" ["layout"] 1 spOnce := ⟨_, _, PySem.W.mg_of X G a_each_once, k_each_once, b_each_once, ok_once F_each_once (PySem.W.mg_none_of X G z_len) (PySem.W.mg_none_of X G z_set)⟩
  have G_came_rightly : FnG l.prog w K mg base "came_rightly" ["many", "rule", "layout", "at"] 3 spCame := ⟨_, _, PySem.W.mg_of X G a_came_rightly, k_came_rightly, b_came_rightly, ok_came F_came_rightly (PySem.W.mg_none_of X G z_range) G_way G_keeps⟩
  have G_right : FnG l.prog w K mg base "right" ["many", "rule", "layout"] 4 spRight := ⟨_, _, PySem.W.mg_of X G a_right, k_right, b_right, ok_right F_right (PySem.W.mg_none_of X G z_range) (PySem.W.mg_none_of X G z_all) G_each_once G_came_rightly⟩
  have G_laid : FnX l.prog w K mg base "laid" ["many", "rule", "layout"] 5 (spLaid C C_NotLaid) := ⟨_, _, PySem.W.mg_of X G a_laid, k_laid, b_laid, ok_laid F_laid T M b_i mgY E_NotLaid GI G_right⟩
  have G_is_number : FnG l.prog w K mg base "is_number" ["part"] 1 spIsN := ⟨_, _, PySem.W.mg_of X G a_is_number, k_is_number, b_is_number, ok_isn F_is_number NT⟩
  have G_read_number : FnX l.prog w K mg base "read_number" ["part"] 2 (spReadN C_NotRead) := ⟨_, _, PySem.W.mg_of X G a_read_number, k_read_number, b_read_number, ok_readn F_read_number NT E_NotRead G_is_number⟩
  have G_read_rule : FnX l.prog w K mg base "read_rule" ["part"] 1 (spReadR0 C_NotRead) := ⟨_, _, PySem.W.mg_of X G a_read_rule, k_read_rule, b_read_rule, ok_readr F_read_rule NT E_NotRead⟩
  have G_read_cell : FnX l.prog w K mg base "read_cell" ["part"] 3 (spReadC C_NotRead) := ⟨_, _, PySem.W.mg_of X G a_read_cell, k_read_cell, b_read_cell, ok_readc F_read_cell NT G_read_number⟩
  have G_read : FnX l.prog w K mg base "read" ["text"] 6 (spRead C C_NotRead C_NotLaid) := ⟨_, _, PySem.W.mg_of X G a_read, k_read, b_read, ok_read F_read NT E_NotRead G_read_number G_read_rule G_read_cell G_is_size G_laid⟩
  have G__law_cell : FnG l.prog w K mg base "_law_cell" ["script", "k"] 1 (spCell K) := ⟨_, _, PySem.W.mg_of X G a__law_cell, k__law_cell, b__law_cell, ok_cell F__law_cell L⟩
  have G__law_whole : FnG l.prog w K mg base "_law_whole" ["found"] 1 spWhole := ⟨_, _, PySem.W.mg_of X G a__law_whole, k__law_whole, b__law_whole, ok_whole F__law_whole L⟩
  have G__law_way : FnG l.prog w K mg base "_law_way" ["name", "at", "many"] 1 spLWay := ⟨_, _, PySem.W.mg_of X G a__law_way, k__law_way, b__law_way, ok_lway F__law_way⟩
  have G__law_keeps : FnG l.prog w K mg base "_law_keeps" ["rule", "one", "other", "at", "many"] 2 spLKeeps := ⟨_, _, PySem.W.mg_of X G a__law_keeps, k__law_keeps, b__law_keeps, ok_lkeeps F__law_keeps G__law_way⟩
  have G__law_put : FnG l.prog w K mg base "_law_put" ["row", "rule", "name"] 3 spLPut := ⟨_, _, PySem.W.mg_of X G a__law_put, k__law_put, b__law_put, ok_lput F__law_put L G__law_keeps⟩
  have G__law_name : FnG l.prog w K mg base "_law_name" ["cell", "many", "far"] 1 spNameB := ⟨_, _, PySem.W.mg_of X G a__law_name, k__law_name, b__law_name, ok_nameB F__law_name⟩
  have G__law_row : FnG l.prog w K mg base "_law_row" ["found", "due"] 2 (spLRow K) := ⟨_, _, PySem.W.mg_of X G a__law_row, k__law_row, b__law_row, ok_lrow F__law_row L G__law_whole⟩
  have G__law_right : FnG l.prog w K mg base "_law_right" ["row", "rule"] 3 spLRightG := ⟨_, _, PySem.W.mg_of X G a__law_right, k__law_right, b__law_right, ok_lrightG F__law_right L (PySem.W.mg_none_of X G z_enumerate) (PySem.W.mg_none_of X G z_set) G__law_keeps⟩
  have G__law_text : FnG l.prog w K mg base "_law_text" ["row", "rule"] 1 spLText := ⟨_, _, PySem.W.mg_of X G a__law_text, k__law_text, b__law_text, ok_ltext F__law_text L (PySem.W.mg_none_of X G z_str)⟩
  have G__law_odd : FnG l.prog w K mg base "_law_odd" ["cell"] 1 spLOdd := ⟨_, _, PySem.W.mg_of X G a__law_odd, k__law_odd, b__law_odd, ok_lodd F__law_odd⟩
  have G__law_spoiled : FnG l.prog w K mg base "_law_spoiled" ["text", "mode", "cell"] 1 spLSpoil := ⟨_, _, PySem.W.mg_of X G a__law_spoiled, k__law_spoiled, b__law_spoiled, ok_lspoil F__law_spoiled L⟩
  have G__law_number : FnG l.prog w K mg base "_law_number" ["word", "most"] 1 spLNumber := ⟨_, _, PySem.W.mg_of X G a__law_number, k__law_number, b__law_number, ok_lnumber F__law_number L⟩
  have G__law_due : FnG l.prog w K mg base "_law_due" ["text"] 2 spLDue := ⟨_, _, PySem.W.mg_of X G a__law_due, k__law_due, b__law_due, ok_ldue F__law_due L G__law_number⟩
  have G__law_told : FnG l.prog w K mg base "_law_told" ["text"] 7 (spLTold15 C) := ⟨_, _, PySem.W.mg_of X G a__law_told, k__law_told, b__law_told, ok_ltold15 F__law_told L (PySem.W.mg_none_of X G z_ValueError) (PySem.W.mg_of X G a_YardError) E_NotRead E_NotLaid kk_NotRead_NotLaid kk_NotLaid_NotRead G_read⟩
  exact ok_law F_law T L IC mgY G__law_cell G__law_name G__law_put G__law_text G__law_spoiled G__law_odd G__law_due G__law_told G__law_right G__law_row G_stalls
theorem walk {l : PySem.W.OpenLaw} {q : Program} {loose : List Str} {XP : (Str → Option Value) → Heap → Prop} {YP : World → Heap → Prop} {d : DefRec} {K : Params → PySem.W.Frag} (hn : l.most = some 63) (hdf : d.params.defaults = [])
    (hY : ∀ (w : World) (h : Heap), YP w h → (K w.params).In h)
    (F : ∀ (w : World) (mg : Str → Option Value) (fa : Addr) (h : Heap), (K w.params).In h → h.Ns mainGlobals mg → mg d.name = some (.ref fa) →
      ∃ fd : FuncData, (∀ (s : Shared) (u : Value), BindsTo s fd ⟨[u], []⟩ [("script", u)]) ∧ ∀ base : Heap, (K w.params).In base → base.Ns mainGlobals mg → FnOk l.prog w (K w.params) mg base CX0 8 fa fd ["script"] (spLaw (K w.params))) :
    PySem.W.WalkO q loose XP YP l.row.toRowW d [] (fun f vs => PySem.call f vs) :=
  L2.walk_of (n := 63) (k := 8) (x := "script") (CX := fun _ => CX0) (sp := fun w => spLaw (K w.params)) hn (by decide) hdf ⟨rfl, by decide, by decide⟩ hY F (fun _ _ a ns hl _ hS => ⟨a, ns, rfl, hS, hl, fun _ => rfl⟩) fun _ _ _ _ _ z => z
end Y
def PySem.W.Fast.tw14550962723486861337 : Unit := ()
def PySem.W.Fast.tw17837583671420033064 : Unit := ()
def PySem.W.Fast.tw3045486795186327092 : Unit := ()
def PySem.W.Fast.tw10522491738166852868 : Unit := ()
def PySem.W.Fast.tw16919386667168263853 : Unit := ()
def PySem.W.Fast.tw14691330756676100875 : Unit := ()
def PySem.W.Fast.tw11974078203071019913 : Unit := ()
def PySem.W.Fast.tw10490364343734561506 : Unit := ()
def PySem.W.Fast.tw15241895437932398212 : Unit := ()
def PySem.W.Fast.tw9494357095789495378 : Unit := ()
def PySem.W.Fast.tw356509613501767576 : Unit := ()
def PySem.W.Fast.tw11744419000772435080 : Unit := ()
open PySem PySem.W PyProof.Rows
set_option maxRecDepth 100000 in
set_option maxHeartbeats 0 in
theorem PySem.Challenge.cw_stallyard_k15_read_holds : PySem.Challenge.rw_stallyard_k15_read.Holds := by
  w_on; o_law; k_head; (case hw => w_witness2)
  k_fill
  refine Y.walk (l := PySem.Challenge.rw_stallyard_k15_read) rfl rfl (fun w h Y => PySem.W.kIn_of Y) ?F
  case F =>
    intro w mg fa h KX G hmg
    refine' Y.all_mk KX G hmg ?aC ?a_i ?i_i ?l_i ?c_i ?k_i ?a_is_size ?l_is_size ?c_is_size ?k_is_size ?a_way ?l_way ?c_way ?k_way ?a_keeps ?l_keeps ?c_keeps ?k_keeps ?a_stalls ?i_stalls ?l_stalls ?c_stalls ?k_stalls ?a_each_once ?l_each_once ?c_each_once ?k_each_once ?a_came_rightly ?l_came_rightly ?c_came_rightly ?k_came_rightly ?a_right ?l_right ?c_right ?k_right ?a_laid ?l_laid ?c_laid ?k_laid ?a_is_number ?l_is_number ?c_is_number ?k_is_number ?a_read_number ?l_read_number ?c_read_number ?k_read_number ?a_read_rule ?l_read_rule ?c_read_rule ?k_read_rule ?a_read_cell ?l_read_cell ?c_read_cell ?k_read_cell ?a_read ?l_read ?c_read ?k_read ?a__law_cell ?l__law_cell ?c__law_cell ?k__law_cell ?a__law_whole ?l__law_whole ?c__law_whole ?k__law_whole ?a__law_way ?l__law_way ?c__law_way ?k__law_way ?a__law_keeps ?l__law_keeps ?c__law_keeps ?k__law_keeps ?a__law_put ?l__law_put ?c__law_put ?k__law_put ?a__law_name ?l__law_name ?c__law_name ?k__law_name ?a__law_row ?l__law_row ?c__law_row ?k__law_row ?a__law_right ?l__law_right ?c__law_right ?k__law_right ?a__law_text ?l__law_text ?c__law_text ?k__law_text ?a__law_odd ?l__law_odd ?c__law_odd ?k__law_odd ?a__law_spoiled ?l__law_spoiled ?c__law_spoiled ?k__law_spoiled ?a__law_number ?l__law_number ?c__law_number ?k__law_number ?a__law_due ?l__law_due ?c__law_due ?k__law_due ?a__law_told ?l__law_told ?c__law_told ?k__law_told ?a_law ?l_law ?c_law ?k_law ?pg ?hd ?po ?sa ?mk ?kc ?nM ?nR ?nC ?ia ?ig ?ik ?im ?it ?a_YardError ?a_NotLaid ?e_NotLaid ?m_NotLaid ?v_NotLaid ?cl_NotLaid ?ga_NotLaid ?gt_NotLaid ?kl_NotLaid ?gg_NotLaid ?tk_NotLaid ?ob_NotLaid ?ex_NotLaid ?a_NotRead ?e_NotRead ?m_NotRead ?v_NotRead ?cl_NotRead ?ga_NotRead ?gt_NotRead ?kl_NotRead ?gg_NotRead ?tk_NotRead ?ob_NotRead ?ex_NotRead ?kk_NotRead_NotLaid ?kk_NotLaid_NotRead ?q_FIRST ?q_FAR ?q_LEAST_STALLS ?q_MOST_STALLS ?q_MOST_FIGURES ?q_WORDS ?l_WORDS ?q_FIGURES ?q_NO_CART ?z_len ?z_sorted ?z_list ?z_isinstance ?z_int ?z_bool ?z_tuple ?z_range ?z_all ?z_set ?z_enumerate ?z_str ?z_ValueError
    (case aC => k_is)
    (case a_i => k_is)
    (case i_i => k_is)
    (case l_i => k_is)
    (case c_i => k_is)
    (case k_i => k_is)
    (case a_is_size => k_is)
    (case l_is_size => k_is)
    (case c_is_size => k_is)
    (case k_is_size => k_is)
    (case a_way => k_is)
    (case l_way => k_is)
    (case c_way => k_is)
    (case k_way => k_is)
    (case a_keeps => k_is)
    (case l_keeps => k_is)
    (case c_keeps => k_is)
    (case k_keeps => k_is)
    (case a_stalls => k_is)
    (case i_stalls => k_is)
    (case l_stalls => k_is)
    (case c_stalls => k_is)
    (case k_stalls => k_is)
    (case a_each_once => k_is)
    (case l_each_once => k_is)
    (case c_each_once => k_is)
    (case k_each_once => k_is)
    (case a_came_rightly => k_is)
    (case l_came_rightly => k_is)
    (case c_came_rightly => k_is)
    (case k_came_rightly => k_is)
    (case a_right => k_is)
    (case l_right => k_is)
    (case c_right => k_is)
    (case k_right => k_is)
    (case a_laid => k_is)
    (case l_laid => k_is)
    (case c_laid => k_is)
    (case k_laid => k_is)
    (case a_is_number => k_is)
    (case l_is_number => k_is)
    (case c_is_number => k_is)
    (case k_is_number => k_is)
    (case a_read_number => k_is)
    (case l_read_number => k_is)
    (case c_read_number => k_is)
    (case k_read_number => k_is)
    (case a_read_rule => k_is)
    (case l_read_rule => k_is)
    (case c_read_rule => k_is)
    (case k_read_rule => k_is)
    (case a_read_cell => k_is)
    (case l_read_cell => k_is)
    (case c_read_cell => k_is)
    (case k_read_cell => k_is)
    (case a_read => k_is)
    (case l_read => k_is)
    (case c_read => k_is)
    (case k_read => k_is)
    (case a__law_cell => k_is)
    (case l__law_cell => k_is)
    (case c__law_cell => k_is)
    (case k__law_cell => k_is)
    (case a__law_whole => k_is)
    (case l__law_whole => k_is)
    (case c__law_whole => k_is)
    (case k__law_whole => k_is)
    (case a__law_way => k_is)
    (case l__law_way => k_is)
    (case c__law_way => k_is)
    (case k__law_way => k_is)
    (case a__law_keeps => k_is)
    (case l__law_keeps => k_is)
    (case c__law_keeps => k_is)
    (case k__law_keeps => k_is)
    (case a__law_put => k_is)
    (case l__law_put => k_is)
    (case c__law_put => k_is)
    (case k__law_put => k_is)
    (case a__law_name => k_is)
    (case l__law_name => k_is)
    (case c__law_name => k_is)
    (case k__law_name => k_is)
    (case a__law_row => k_is)
    (case l__law_row => k_is)
    (case c__law_row => k_is)
    (case k__law_row => k_is)
    (case a__law_right => k_is)
    (case l__law_right => k_is)
    (case c__law_right => k_is)
    (case k__law_right => k_is)
    (case a__law_text => k_is)
    (case l__law_text => k_is)
    (case c__law_text => k_is)
    (case k__law_text => k_is)
    (case a__law_odd => k_is)
    (case l__law_odd => k_is)
    (case c__law_odd => k_is)
    (case k__law_odd => k_is)
    (case a__law_spoiled => k_is)
    (case l__law_spoiled => k_is)
    (case c__law_spoiled => k_is)
    (case k__law_spoiled => k_is)
    (case a__law_number => k_is)
    (case l__law_number => k_is)
    (case c__law_number => k_is)
    (case k__law_number => k_is)
    (case a__law_due => k_is)
    (case l__law_due => k_is)
    (case c__law_due => k_is)
    (case k__law_due => k_is)
    (case a__law_told => k_is)
    (case l__law_told => k_is)
    (case c__law_told => k_is)
    (case k__law_told => k_is)
    (case a_law => k_is)
    (case l_law => k_is)
    (case c_law => k_is)
    (case k_law => k_is)
    (case pg => k_is)
    (case hd => k_is)
    (case po => k_is)
    (case sa => k_is)
    (case mk => k_is)
    (case kc => k_is)
    (case nM => k_is)
    (case nR => k_is)
    (case nC => k_is)
    (case ia => k_is)
    (case ig => k_is)
    (case ik => k_is)
    (case im => k_is)
    (case it => kit_is)
    (case a_YardError => k_is)
    (case a_NotLaid => k_is)
    (case e_NotLaid => k_exc)
    (case m_NotLaid => kts_exm)
    (case v_NotLaid => kit_is)
    (case cl_NotLaid => k_is)
    (case ga_NotLaid => k_is)
    (case gt_NotLaid => k_is)
    (case kl_NotLaid => k_is)
    (case gg_NotLaid => k_is)
    (case tk_NotLaid => k_is)
    (case ob_NotLaid => k_is)
    (case ex_NotLaid => k_is)
    (case a_NotRead => k_is)
    (case e_NotRead => k_exc)
    (case m_NotRead => kts_exm)
    (case v_NotRead => kit_is)
    (case cl_NotRead => k_is)
    (case ga_NotRead => k_is)
    (case gt_NotRead => k_is)
    (case kl_NotRead => k_is)
    (case gg_NotRead => k_is)
    (case tk_NotRead => k_is)
    (case ob_NotRead => k_is)
    (case ex_NotRead => k_is)
    (case kk_NotRead_NotLaid => kit_is)
    (case kk_NotLaid_NotRead => kit_is)
    (case q_FIRST => k_is)
    (case q_FAR => k_is)
    (case q_LEAST_STALLS => k_is)
    (case q_MOST_STALLS => k_is)
    (case q_MOST_FIGURES => k_is)
    (case q_WORDS => k_is)
    (case l_WORDS => k_is)
    (case q_FIGURES => k_is)
    (case q_NO_CART => k_is)
    (case z_len => k_is)
    (case z_sorted => k_is)
    (case z_list => k_is)
    (case z_isinstance => k_is)
    (case z_int => k_is)
    (case z_bool => k_is)
    (case z_tuple => k_is)
    (case z_range => k_is)
    (case z_all => k_is)
    (case z_set => k_is)
    (case z_enumerate => k_is)
    (case z_str => k_is)
    (case z_ValueError => k_is)


