import PyProof.Rows.All
import KE.KIsAll
import Wide.All
import OpenK.AllK
import Wide.FinOn
import PyProof.EqAt
import PyProof.EqKinds
import PyProof.TupleCall
import OpenK.KOwn
import PyProof.NeKinds
import PyProof.ExcBaseAll.ValueError
import PyProof.ExcAttrAll.ValueError
import PyProof.SetKind
import PyProof.Rows.SetFrom
import PyProof.CollectWalk
import PyProof.Rows.SortRuns
import PyProof.Rows.SortShell
import KE.KSortTup
import PyProof.EnumMake
import PyProof.EnumFor
import PyProof.EnumStmt
import PyProof.Rows.ListMul
import PyProof.Rows.ListMulCarried
import PyProof.SeqI3
import Lean
import PySem.Challenge.RW_spantolls_k04_whole_lodged

-- CHANGE: your row's module here, as the last of these rows
set_option Elab.async false
set_option linter.all false
set_option maxRecDepth 100000
/-! THE HAND LAYER, for ints, bools, texts, own classes, LISTS and tuples (index, slices, in, append, pop ..), calls, loops. Paste it whole ahead of your own text; what your proof does not reach may be deleted. -/
namespace L2
open PySem PySem.Spec PyProof.Rows

/-- a key: an int or a str -/
abbrev Key := Sum Int Str
def keyIs : Key → Value → Bool
  | .inl k, v => Value.isInt k v
  | .inr x, v => Value.isStrOf x v
def keyH (w : World) : Key → Int
  | .inl k => hashInt k
  | .inr x => hashStr w x
theorem keyIs_shape : ∀ {k : Key} {v : Value}, keyIs k v = true → (∃ i t, k = Sum.inl i ∧ v = Value.int i t) ∨ (∃ x t, k = Sum.inr x ∧ v = Value.str x t)
  | .inl i, v, h => by
    obtain ⟨t, e⟩ := Value.isInt_shape (k := i) (v := v) h
    exact .inl ⟨i, t, rfl, e⟩
  | .inr x, v, h => by
    obtain ⟨t, e⟩ := Value.isStrOf_shape (x := x) (v := v) h
    exact .inr ⟨x, t, rfl, e⟩
theorem key_ll (a b : Int) : decide ((Sum.inl a : Key) = Sum.inl b) = (a == b) := by
  by_cases e : a = b
  · subst e; simp
  · have h : ¬ (Sum.inl a : Key) = Sum.inl b := fun q => e (Sum.inl.inj q)
    rw [decide_eq_false h]
    exact (beq_eq_false_iff_ne.mpr e).symm
theorem key_rr (a b : Str) : decide ((Sum.inr a : Key) = Sum.inr b) = decide (a = b) := by
  by_cases e : a = b
  · subst e; simp
  · have h : ¬ (Sum.inr a : Key) = Sum.inr b := fun q => e (Sum.inr.inj q)
    rw [decide_eq_false h, decide_eq_false e]
theorem key_lr (a : Int) (b : Str) : decide ((Sum.inl a : Key) = Sum.inr b) = false := decide_eq_false (fun q => nomatch q)
theorem key_rl (a : Str) (b : Int) : decide ((Sum.inr a : Key) = Sum.inl b) = false := decide_eq_false (fun q => nomatch q)

def mixKind (prog : Program) (w : World) : PySem.KeyKind prog w Key where
  is := keyIs
  hash := keyH w
  inj := fun v a b ha hb => by
    rcases keyIs_shape ha with ⟨i, t, rfl, rfl⟩ | ⟨x, t, rfl, rfl⟩
    · rcases keyIs_shape hb with ⟨j, u, rfl, e⟩ | ⟨y, u, rfl, e⟩
      · injection e with e1 _; rw [e1]
      · exact nomatch e
    · rcases keyIs_shape hb with ⟨j, u, rfl, e⟩ | ⟨y, u, rfl, e⟩
      · exact nomatch e
      · injection e with e1 _; rw [e1]
  byValue := fun k v h => by
    rcases keyIs_shape h with ⟨i, t, rfl, rfl⟩ | ⟨x, t, rfl, rfl⟩ <;> rfl
  pyHash := fun hv h => by
    rcases keyIs_shape hv with ⟨i, t, rfl, rfl⟩ | ⟨x, t, rfl, rfl⟩
    · exact wpAny_pyHash_int h
    · exact wpAny_pyHash_str h
  eqBool := fun hu hv h => by
    rcases keyIs_shape hu with ⟨i, t, rfl, rfl⟩ | ⟨x, t, rfl, rfl⟩
    · rcases keyIs_shape hv with ⟨j, u, rfl, rfl⟩ | ⟨y, u, rfl, rfl⟩
      · rw [key_ll] at h; exact wpAny_eqBool_int h
      · rw [key_lr] at h; exact SeqAt.EqAt.int_str i t y u _ _ _ _ h
    · rcases keyIs_shape hv with ⟨j, u, rfl, rfl⟩ | ⟨y, u, rfl, rfl⟩
      · rw [key_rl] at h; exact SeqAt.EqAt.str_int x t j u _ _ _ _ h
      · rw [key_rr] at h; exact wpAny_eqBool_str h
  «strs» := fun k x t v h => by
    rcases keyIs_shape h with ⟨i, u, rfl, e⟩ | ⟨y, u, rfl, e⟩
    · exact nomatch e
    · injection e with e1 _
      subst e1
      cases v <;> rfl

end L2

namespace L2
open PySem PySem.Spec PyProof.Rows

/-- a value, without the heap -/
inductive V where
  | non | bl (b : Bool) | int (i : Int) | str (x : Str) | byt (b : Array UInt8) | flt (b : UInt64) | ref (a : Addr) | ty (n : String)
  deriving DecidableEq

def RelV : V → Value → Prop
  | .non, u => u = Value.none
  | .bl b, u => u = Value.bool b
  | .int i, u => ∃ t, u = Value.int i t
  | .str x, u => ∃ t, u = Value.str x t
  | .byt b, u => ∃ t, u = Value.bytes b t
  | .flt b, u => ∃ t, u = Value.float b t
  | .ref a, u => u = Value.ref a
  | .ty n, u => u = Value.type n

abbrev Vals : List V → List Value → Prop := Paired RelV
theorem Vals.length {xs : List V} {us : List Value} (r : Vals xs us) : xs.length = us.length := Paired.length r
theorem Vals.get : ∀ {xs : List V} {us : List Value} {i : Nat} {x : V}, Vals xs us → xs[i]? = some x → ∃ u, us[i]? = some u ∧ RelV x u
  | _, _, _, _, .nil, e => by simp at e
  | _, _, 0, _, .cons r _, e => by simp at e; subst e; exact ⟨_, rfl, r⟩
  | _, _, i + 1, x, .cons _ t, e => by
    obtain ⟨u, h1, h2⟩ := Vals.get (i := i) (x := x) t (by simpa using e)
    exact ⟨u, by simpa using h1, h2⟩
theorem Vals.set {x : V} {u : Value} (r : RelV x u) : ∀ {xs : List V} {us : List Value} (i : Nat), Vals xs us → Vals (xs.set i x) (us.set i u)
  | _, _, _, .nil => .nil
  | _, _, 0, .cons _ t => .cons r t
  | _, _, i + 1, .cons q t => .cons q (Vals.set r i t)
theorem Vals.append : ∀ {xs ys : List V} {us ws : List Value}, Vals xs us → Vals ys ws → Vals (xs ++ ys) (us ++ ws)
  | _, _, _, _, .nil, s => s
  | _, _, _, _, .cons r t, s => .cons r (Vals.append t s)
theorem Vals.take : ∀ {xs : List V} {us : List Value} (n : Nat), Vals xs us → Vals (xs.take n) (us.take n)
  | _, _, 0, _ => .nil
  | _, _, _ + 1, .nil => .nil
  | _, _, n + 1, .cons r t => .cons r (Vals.take n t)
theorem Vals.drop : ∀ {xs : List V} {us : List Value} (n : Nat), Vals xs us → Vals (xs.drop n) (us.drop n)
  | _, _, 0, r => r
  | _, _, _ + 1, .nil => .nil
  | _, _, n + 1, .cons _ t => Vals.drop n t
def RelO : Option V → Option Value → Prop
  | some v, some u => RelV v u
  | none, none => True
  | _, _ => False
def KV {κ : Type} : List (κ × V) → List (κ × Value) → Prop := Paired fun (p : κ × V) (q : κ × Value) => p.1 = q.1 ∧ RelV p.2 q.2

/-- a key of a dict (00_mix): an int or a text -/
def kV : Key → V
  | .inl i => .int i
  | .inr x => .str x

/-- what stands at a tracked address -/
inductive HO where
  /-- a list -/
  | lst (xs : List V)
  /-- a tuple (never changes) -/
  | tup (xs : List V)
  /-- a dict whose keys are ints and texts; one whose keys are tuples of ints and texts (the empty one is both) -/
  | dK (kvs : List (Key × V)) | dT (kvs : List (List Key × V))
  /-- a set of ints: its members, its size -/
  | set (S : Int → Bool) (n : Nat)
  /-- an instance of the class at C, its dict at dx, its attributes -/
  | ins (C dx : Addr) (fs : List (Str × V))
  /-- the dict of the instance at x -/
  | own (x : Addr)
  /-- the dict of an exception -/
  | xd (fs : List (Str × V))
  /-- a bound method, f of x -/
  | met (f x : Addr)
  /-- a range object lo, lo + 1, .. below hi -/
  | rng (lo hi : Int)
  /-- a thing that is known to the object (the script; a dict while a loop walks it): read, never written while it is so -/
  | frz (o : Obj) (u : HO)
  /-- a code object's table -/
  | tbl (ps : Array Value)
  /-- any other thing, by what is true of its one object (a def of one's own: SetO a S n := HO.ext fun h => ..) -/
  | ext (φ : Heap → Prop)

abbrev Hp := Addr → Option HO
def upd (H : Hp) (a : Addr) (o : HO) : Hp := fun b => if b = a then some o else H b
theorem upd_same {H : Hp} {a : Addr} {o : HO} : upd H a o a = some o := by unfold upd; rw [if_pos rfl]
theorem upd_ne {H : Hp} {a b : Addr} {o : HO} (h : b ≠ a) : upd H a o b = H b := by unfold upd; rw [if_neg h]
/-- two objects of different content stand apart -/
theorem ne_of {H : Hp} {a b : Addr} {o u : HO} (h : H a = some o) (h' : H b = some u) (d : o ≠ u) : a ≠ b := by
  intro e; subst e; rw [h] at h'; exact d (Option.some.inj h')
theorem ne_of_none {H : Hp} {a b : Addr} {o : HO} (h : H a = some o) (h' : H b = none) : a ≠ b := by
  intro e; subst e; rw [h] at h'; cases h'

section
variable (P : Program) (w : World)
def ObjOk (H : Hp) (h : Heap) (a : Addr) : HO → Prop
  | .lst xs => xs.length ≤ sizeLine ∧ ∃ (its : List Value) (n : Nat), Vals xs its ∧ h.get? a = some { cls := .type "list", data := .seq its.toArray n }
  | .tup xs => xs.length ≤ sizeLine ∧ ∃ its : List Value, Vals xs its ∧ IsTup h a its.toArray
  | .dK kvs => kvs.length ≤ sizeLine ∧ (a == sysModules) = false ∧ ∃ vs, KV kvs vs ∧ h.DictOf (mixKind P w) a vs
  | .dT kvs => kvs.length ≤ sizeLine ∧ (a == sysModules) = false ∧ ∃ xs : List (List Key × Addr × Value),
      Paired (fun (p : List Key × V) (q : List Key × Addr × Value) => p.1 = q.1 ∧ H q.2.1 = some (.tup (p.1.map kV)) ∧ RelV p.2 q.2.2) kvs xs ∧
      ∃ o es ep, h.get? a = some o ∧ o.ExactDict ∧ o.data = .dict es ep ∧ es.toList = xs.map (entryOfKey (tupleKind (mixKind P w))) ∧ (xs.map (·.1)).Nodup
  | .set S n => h.SetOf (intKind P w) a S n
  | .ins C dx fs => H dx = some (.own a) ∧ fs.length ≤ 1000 ∧ dx ≠ a ∧ h.get? a = some (PySem.W.instObj C dx) ∧
      ∃ mA, h.Ns1 dx mA ∧ (∀ f, RelO (fs.lookup f) (mA f)) ∧ PySem.Within mA (fs.map (·.1))
  | .own _ => ∃ o, h.get? a = some o
  | .xd fs => ∃ mA, h.Ns1 a mA ∧ ∀ f, RelO (fs.lookup f) (mA f)
  | .rng lo hi => ∃ t u v, h.get? a = some { cls := .type "range", data := .fields #[.int lo t, .int hi u, .int 1 v] }
  | .frz o u => h.get? a = some o ∧ ObjOk H h a u
  | .tbl ps => h.get? a = some { cls := .none, data := .fields ps }
  | .met f x => h.get? a = some (PySem.W.methodObj (.ref f) (.ref x))
  | .ext φ => φ h ∧ (∃ o, h.get? a = some o) ∧ ∀ h1 h2 : Heap, φ h1 → (∀ o, h1.get? a = some o → h2.get? a = some o) → φ h2
/-- the abstract heap is held -/
def HOk (H : Hp) (h : Heap) : Prop := ∀ a o, H a = some o → ObjOk P w H h a o
end

section
variable {P : Program} {w : World} {H H' : Hp} {h h' : Heap} {a : Addr} {o : HO}
theorem ObjOk.lt (x : ObjOk P w H h a o) : a < h.objs.size := by
  cases o with
  | lst xs => obtain ⟨_, _, _, _, e⟩ := x; exact Heap.lt_size e
  | tup xs => obtain ⟨_, _, _, p⟩ := x; exact p.lt
  | dK kvs => obtain ⟨_, _, _, _, o, _, _, e, _⟩ := x; exact Heap.lt_size e
  | dT kvs => obtain ⟨_, _, _, _, o, _, _, e, _⟩ := x; exact Heap.lt_size e
  | set S n => obtain ⟨o, _, _, _, e, _⟩ := x; exact Heap.lt_size e
  | ins C dx fs => obtain ⟨_, _, _, e, _⟩ := x; exact Heap.lt_size e
  | own y => obtain ⟨_, e⟩ := x; exact Heap.lt_size e
  | xd fs => obtain ⟨_, ⟨_, _, _, e, _⟩, _⟩ := x; exact Heap.lt_size e
  | rng lo hi => obtain ⟨_, _, _, e⟩ := x; exact Heap.lt_size e
  | frz ob u => obtain ⟨e, _⟩ := x; exact Heap.lt_size e
  | tbl ps => exact Heap.lt_size (show h.get? a = some _ from x)
  | met f y => exact Heap.lt_size (show h.get? a = some _ from x)
  | ext φ => obtain ⟨_, ⟨_, e⟩, _⟩ := x; exact Heap.lt_size e
theorem Paired.mapP {α β : Type} {F G : α → β → Prop} : ∀ {l₁ : List α} {l₂ : List β}, Paired F l₁ l₂ → (∀ a b, F a b → G a b) → Paired G l₁ l₂
  | _, _, .nil, _ => .nil
  | _, _, .cons r t, f => .cons (f _ _ r) (Paired.mapP t f)
/-- what an object's description leans on: its own object, its own dict, the tuples -/
theorem ObjOk.stay (x : ObjOk P w H h a o) (k : ∀ b u, (b = a ∨ H b = some (.own a)) → h.get? b = some u → h'.get? b = some u)
    (ho : ∀ b, H b = some (.own a) → H' b = some (.own a)) (ht : ∀ b xs, H b = some (.tup xs) → H' b = some (.tup xs)) : ObjOk P w H' h' a o := by
  induction o with
  | lst xs => obtain ⟨z, its, n, r, e⟩ := x; exact ⟨z, its, n, r, k _ _ (.inl rfl) e⟩
  | tup xs => obtain ⟨z, its, r, ob, e, c⟩ := x; exact ⟨z, its, r, ob, k _ _ (.inl rfl) e, c⟩
  | dK kvs => obtain ⟨z, y, vs, r, ob, es, ep, e, c⟩ := x; exact ⟨z, y, vs, r, ob, es, ep, k _ _ (.inl rfl) e, c⟩
  | dT kvs =>
    obtain ⟨z, y, xs, r, ob, es, ep, e, c⟩ := x
    exact ⟨z, y, xs, Paired.mapP r fun p q z => ⟨z.1, ht _ _ z.2.1, z.2.2⟩, ob, es, ep, k _ _ (.inl rfl) e, c⟩
  | set S n => obtain ⟨ob, es, ep, t, e, c⟩ := x; exact ⟨ob, es, ep, t, k _ _ (.inl rfl) e, c⟩
  | ins C dx fs =>
    obtain ⟨d, z, ne, e, mA, ⟨od, es, ep, e2, c⟩, r⟩ := x
    exact ⟨ho _ d, z, ne, k _ _ (.inl rfl) e, mA, ⟨od, es, ep, k _ _ (.inr d) e2, c⟩, r⟩
  | own y => obtain ⟨ob, e⟩ := x; exact ⟨ob, k _ _ (.inl rfl) e⟩
  | xd fs => obtain ⟨mA, ⟨od, es, ep, e, c⟩, r⟩ := x; exact ⟨mA, ⟨od, es, ep, k _ _ (.inl rfl) e, c⟩, r⟩
  | rng lo hi => obtain ⟨t, u, v, e⟩ := x; exact ⟨t, u, v, k _ _ (.inl rfl) e⟩
  | frz ob u ih => obtain ⟨e, q⟩ := x; exact ⟨k _ _ (.inl rfl) e, ih q⟩
  | tbl ps =>
    have e : h.get? a = some { cls := .none, data := .fields ps } := x
    show h'.get? a = some { cls := .none, data := .fields ps }
    exact k a _ (.inl rfl) e
  | met f y =>
    have e : h.get? a = some (PySem.W.methodObj (.ref f) (.ref y)) := x
    show h'.get? a = some (PySem.W.methodObj (.ref f) (.ref y))
    exact k a _ (.inl rfl) e
  | ext φ => obtain ⟨p, ⟨o, e⟩, st⟩ := x; exact ⟨st _ _ p fun o q => k _ _ (.inl rfl) q, ⟨o, k _ _ (.inl rfl) e⟩, st⟩
theorem HOk.lt (x : HOk P w H h) (e : H a = some o) : a < h.objs.size := (x a o e).lt
theorem HOk.fresh (x : HOk P w H h) (e : h.objs.size ≤ a) : H a = none := by
  cases q : H a with
  | none => rfl
  | some u => exact absurd (Nat.lt_of_lt_of_le (x.lt q) e) (Nat.lt_irrefl _)
/-- every object of the heap is kept -/
theorem HOk.kept (x : HOk P w H h) (k : ∀ b u, h.get? b = some u → h'.get? b = some u) : HOk P w H h' := fun a o e =>
  (x a o e).stay (fun b u _ q => k b u q) (fun _ q => q) fun _ _ q => q
/-- a new object is laid and tracked -/
theorem HOk.laid (x : HOk P w H h) (k : ∀ b u, h.get? b = some u → h'.get? b = some u) (hp : h.objs.size ≤ a) (new : ObjOk P w (upd H a o) h' a o) : HOk P w (upd H a o) h' := fun b u e => by
  have hn := x.fresh hp
  by_cases hb : b = a
  · subst hb; rw [upd_same] at e; cases e; exact new
  · rw [upd_ne hb] at e
    exact (x b u e).stay (fun c v _ q => k c v q) (fun c q => by rw [upd_ne (ne_of_none q hn)]; exact q) fun c xs q => by rw [upd_ne (ne_of_none q hn)]; exact q
end

/-- what may be read as u: it is u, or a known u -/
def Rd (H : Hp) (a : Addr) (u : HO) : Prop := H a = some u ∨ ∃ o, H a = some (.frz o u)
theorem Rd.ok {P : Program} {w : World} {H : Hp} {h : Heap} {a : Addr} {u : HO} (r : Rd H a u) (x : HOk P w H h) : ObjOk P w H h a u := by
  rcases r with r | ⟨o, r⟩
  · exact x a u r
  · obtain ⟨_, q⟩ := x a _ r
    exact q
/-- what may be written -/
def Mut : Option HO → Prop
  | some (.lst _) => True
  | some (.dK _) => True
  | some (.dT _) => True
  | some (.set _ _) => True
  | some (.ins _ _ _) => True
  | some (.ext _) => True
  | _ => False
section
variable {P : Program} {w : World} {H : Hp} {h h' : Heap} {x e : Addr} {o' : HO}
/-- the object at e is changed: x itself, or the dict of the instance x -/
theorem HOk.write (ok : HOk P w H h) (mu : Mut (H x)) (he : e = x ∨ H e = some (.own x)) (k : ∀ b u, b ≠ e → h.get? b = some u → h'.get? b = some u) (heo : ∃ u, h'.get? e = some u)
    (new : ObjOk P w (upd H x o') h' x o') : HOk P w (upd H x o') h' := fun b u q => by
  have nown : ∀ c y, H c = some (.own y) → c ≠ x := fun c y r z => by subst z; rw [r] at mu; exact mu
  have ntup : ∀ c xs, H c = some (.tup xs) → c ≠ x := fun c xs r z => by subst z; rw [r] at mu; exact mu
  by_cases hb : b = x
  · subst hb; rw [upd_same] at q; cases q; exact new
  · rw [upd_ne hb] at q
    by_cases hbe : b = e
    · have q' : H b = some (.own x) := by
        rcases he with z | z
        · exact absurd (hbe.trans z) hb
        · rw [hbe]; exact z
      rw [q] at q'; cases q'
      obtain ⟨v, hv⟩ := heo
      exact ⟨v, by rw [hbe]; exact hv⟩
    · refine (ok b u q).stay (fun c v hc r => k c v ?_ r) (fun c r => by rw [upd_ne (nown c b r)]; exact r) fun c xs r => by rw [upd_ne (ntup c xs r)]; exact r
      rcases hc with rfl | hc
      · exact hbe
      · rintro rfl
        rcases he with z | z
        · exact nown c b hc z
        · rw [hc] at z; cases z; exact hb rfl
end

/-! ### kept unless tracked; of the frames at fs (the callers') the slots may change (an exception that passes writes there); of the records at ex (iterators) nothing is said -/
structure Un (fs ex : List Addr) (H H' : Hp) (h h' : Heap) : Prop where
  keep : ∀ b o, h.get? b = some o → H b = none → b ∉ fs → b ∉ ex → h'.get? b = some o
  slot : ∀ b o, h.get? b = some o → H b = none → b ∈ fs → b ∉ ex → ∃ sl, h'.get? b = some { o with slots := sl }
  free : ∀ b o, h.get? b = some o → H b = none → b ∉ ex → H' b = none
  there : ∀ b o, h.get? b = some o → b ∉ ex → ∃ o', h'.get? b = some o'
  tups : ∀ b xs, H b = some (.tup xs) → H' b = some (.tup xs)
  frzs : ∀ b o u, H b = some (.frz o u) → H' b = some (.frz o u)
  tbls : ∀ b ps, H b = some (.tbl ps) → ∃ more, H' b = some (.tbl (ps ++ more))
section
variable {fs fs' ex ex' : List Addr} {H H1 H2 : Hp} {h h1 h2 h' : Heap} {a x e : Addr} {o : HO}
theorem Un.any (u : Un fs ex H H1 h h1) {b : Addr} {ob : Obj} (q : h.get? b = some ob) (n : H b = none) (hx : b ∉ ex) : ∃ sl, h1.get? b = some { ob with slots := sl } := by
  by_cases hb : b ∈ fs
  · exact u.slot b ob q n hb hx
  · exact ⟨ob.slots, u.keep b ob q n hb hx⟩
theorem Un.kept (k : ∀ b u, h.get? b = some u → h'.get? b = some u) : Un fs ex H H h h' :=
  ⟨fun b ob q _ _ _ => k b ob q, fun b ob q _ _ _ => ⟨ob.slots, k b ob q⟩, fun _ _ _ n _ => n, fun b ob q _ => ⟨ob, k b ob q⟩, fun _ _ q => q, fun _ _ _ q => q, fun _ ps q => ⟨#[], by rw [q]; simp⟩⟩
theorem Un.refl : Un fs ex H H h h := Un.kept fun _ _ q => q
theorem Un.laid (k : ∀ b u, h.get? b = some u → h'.get? b = some u) (hp : h.objs.size ≤ a) (hn : H a = none) : Un fs ex H (upd H a o) h h' where
  keep := fun b u q _ _ _ => k b u q
  slot := fun b u q _ _ _ => ⟨u.slots, k b u q⟩
  free := fun b u q n _ => by rw [upd_ne (Nat.ne_of_lt (Nat.lt_of_lt_of_le (Heap.lt_size q) hp))]; exact n
  there := fun b u q _ => ⟨u, k b u q⟩
  tups := fun b xs q => by rw [upd_ne (ne_of_none q hn)]; exact q
  frzs := fun b u xs q => by rw [upd_ne (ne_of_none q hn)]; exact q
  tbls := fun b ps q => ⟨#[], by rw [upd_ne (ne_of_none q hn), q]; simp⟩
theorem Un.write (mu : Mut (H x)) (he : e = x ∨ H e = some (.own x)) (k : ∀ b u, b ≠ e → h.get? b = some u → h'.get? b = some u) (heo : ∃ u, h'.get? e = some u) : Un fs ex H (upd H x o) h h' := by
  have hx : ∀ b, H b = none → b ≠ x := fun b n z => by subst z; rw [n] at mu; exact mu
  have hb : ∀ b, H b = none → b ≠ e := fun b n z => by
    subst z
    rcases he with r | r
    · exact hx b n r
    · rw [n] at r; cases r
  have hm : ∀ b u, H b = some u → ¬ Mut (some u) → b ≠ x := fun b u q nm z => by subst z; rw [q] at mu; exact nm mu
  refine ⟨fun b u q n _ _ => k b u (hb b n) q, fun b u q n _ _ => ⟨u.slots, k b u (hb b n) q⟩, fun b u q n _ => by rw [upd_ne (hx b n)]; exact n, fun b u q _ => ?_,
    fun b xs q => by rw [upd_ne (hm b _ q fun z => z)]; exact q, fun b u xs q => by rw [upd_ne (hm b _ q fun z => z)]; exact q, fun b ps q => ⟨#[], by rw [upd_ne (hm b _ q fun z => z), q]; simp⟩⟩
  by_cases hbe : b = e
  · subst hbe; exact heo
  · exact ⟨u, k b u hbe q⟩
end

/-! ### the heap without what is tracked -/
def trk (h : Heap) (H : Hp) : List Addr := (List.range h.objs.size).filter fun a => (H a).isSome
def hidT (h : Heap) (H : Hp) : Heap := PySem.W.hideAll h (trk h H)
theorem hidT_size (h : Heap) (H : Hp) : (hidT h H).objs.size = h.objs.size := PySem.W.hideAll_size _ _
theorem hidT_get {h : Heap} {H : Hp} {b : Addr} {o : Obj} (e : h.get? b = some o) (n : H b = none) : (hidT h H).get? b = some o :=
  PySem.W.hideAll_get _ e fun hm => by
    have q : (H b).isSome = true := (List.mem_filter.mp hm).2
    rw [n] at q; simp at q
theorem of_hidT {h : Heap} {H : Hp} {b : Addr} {o : Obj} (e : (hidT h H).get? b = some o) : h.get? b = some o ∧ H b = none := by
  have e' : h.get? b = some o := PySem.W.of_hideAll (trk h H) e
  refine ⟨e', ?_⟩
  cases q : H b with
  | none => rfl
  | some x =>
    have hm : b ∈ trk h H := List.mem_filter.mpr ⟨List.mem_range.mpr (Heap.lt_size e'), by simp [q]⟩
    have z : (hidT h H).get? b = none := PySem.W.hideAll_none (trk h H) hm
    rw [z] at e; cases e

/-! ### OpenK's ledger, filled with every new object but one -/
def allNews (g h : Heap) (L : Addr) : List (Addr × Obj) := (List.range h.objs.size).filterMap fun a => if a = L ∨ (g.get? a).isSome = true then none else (h.get? a).map fun o => (a, o)
def rest (g h : Heap) (L d : Addr) : List (Addr × Obj) := (allNews g h L).filter fun p => decide (p.1 ≠ d)
end L2

namespace L2
open PySem PySem.Spec PyProof.Rows

/-- the module's facts, over the base: the heap at the law's entry without what is tracked there -/
structure Mod (K : PySem.W.Frag) (mg : Str → Option Value) (base : Heap) : Prop where
  kin : K.In base
  glob : base.Ns mainGlobals mg
  blt : ∃ mb, base.Ns builtinsNs mb ∧ ∀ x : Str, x ≠ "__name__" → mb x = bootBuiltins x
  nolimit : base.NoLimit

/-- the context: a def's body (or a comprehension's block) running. base: fixed through the whole law; s₀, H₀: the entry; outer: the frames whose slots others may change (a def's callers); stack: all frames that run;
   ex: iterators that were made ahead of the entry and are walked here (a comprehension's); fn: the names whose cells were made at the entry (a def: all; a comprehension's block: its own); calm: not within an except suite; pn: pins that every state bears; xe: what is wanted of an exception that leaves the code -/
structure Cx where
  prog : Program
  w : World
  K : PySem.W.Frag
  mg : Str → Option Value
  base : Heap
  A : Around
  N : List Str
  s₀ : Shared
  H₀ : Hp
  env : Env
  outer : List Env
  stack : List Env
  ex : List Addr
  fn : Str → Bool
  calm : Bool
  pn : List (Addr × Obj)
  xe : Value → Shared → Prop
/-- the callers' frames -/
def frs (l : List Env) : List Addr := l.filterMap (·.frame)
abbrev Cx.fs (X : Cx) : List Addr := frs X.outer

def Vis (sc : Scope) (x : Str) : Prop := sc.names.lookup x = some .local ∨ sc.names.lookup x = some .cell ∨ sc.names.lookup x = some .free
def Loc (sc : Scope) (x : Str) : Prop := sc.names.lookup x = some .local ∨ sc.names.lookup x = some .cell
def Look (env : Env) (h : Heap) (m : Str → Option Value) (x : Str) (u : Value) : Prop :=
  (env.kindOf x = some .local ∧ m x = some u) ∨ ((env.kindOf x = some .cell ∨ env.kindOf x = some .free) ∧ ∃ c, env.cells.lookup x = some c ∧ h.IsCell c (some u))

structure Cx.Ok (X : Cx) : Prop where
  mod : Mod X.K X.mg X.base
  kind : X.env.scope.kind = .function
  glob : X.env.globals = mainGlobals
  blt : X.env.builtins = builtinsNs
  above : X.s₀.heap.objs.size ≤ X.env.locals
  inj : ∀ x y c, X.env.cells.lookup x = some c → X.env.cells.lookup y = some c → x = y
  has : ∀ x, (X.env.kindOf x = some .cell ∨ X.env.kindOf x = some .free) → ∃ c, X.env.cells.lookup x = some c
  cab : ∀ x c, X.fn x = true → X.env.cells.lookup x = some c → X.s₀.heap.objs.size ≤ c
  hd : X.calm = true → X.A.handled = none
  frames : X.A.frames = some X.stack
  stk : X.stack = X.outer ∨ (X.stack = X.env :: X.outer ∧ X.env.frame = some X.env.locals)
  exf : ∀ b ∈ X.ex, b ≠ X.env.locals ∧ ∀ x c, X.env.cells.lookup x = some c → c ≠ b
  bs : ∀ b o, X.base.get? b = some o → X.s₀.heap.get? b = some o ∧ X.H₀ b = none
  bsz : X.base.objs.size ≤ X.s₀.heap.objs.size
  noex : ∀ b o, X.base.get? b = some o → b ∉ X.ex
  exfs : ∀ b ∈ X.ex, b ∉ X.fs
  funs : X.s₀.heap.FunFrames X.base X.outer
  frf : ∀ b ∈ X.fs, X.H₀ b = none

structure Inv (X : Cx) (pins : List (Addr × Obj)) (σ : List (Option V)) (H : Hp) (s : Shared) : Prop where
  ok : X.Ok
  os : s.os = X.s₀.os
  bare : AllBare s.gens
  base : Un X.fs X.ex X.H₀ H X.s₀.heap s.heap
  loc : ∃ m, s.heap.Ns X.env.locals m ∧ ∀ (i : Nat) (x : Str) (v : V), X.N[i]? = some x → σ[i]? = some (some v) → Vis X.env.scope x → ∃ u, RelV v u ∧ Look X.env s.heap m x u
  cell : ∀ x c, X.env.cells.lookup x = some c → ∃ v, s.heap.IsCell c v
  free : H X.env.locals = none
  freeC : ∀ x c, X.env.cells.lookup x = some c → H c = none
  pin : ∀ p ∈ X.pn ++ pins, s.heap.get? p.1 = some p.2 ∧ H p.1 = none ∧ p.1 ≠ X.env.locals ∧ p.1 ∉ X.fs ∧ ∀ v, p.2.data ≠ .cell v
  hok : HOk X.prog X.w H s.heap
  len : σ.length = X.N.length

section
variable {X : Cx} {pins : List (Addr × Obj)} {σ : List (Option V)} {H H' : Hp} {s : Shared} {h' : Heap}

theorem Cx.Ok.nofr (ok : X.Ok) {b : Addr} {o : Obj} (e : X.base.get? b = some o) : b ∉ X.fs := fun hb => by
  have := (ok.funs.mem hb).1
  rw [e] at this; cases this
theorem Inv.bs (I : Inv X pins σ H s) : ∀ b o, X.base.get? b = some o → s.heap.get? b = some o ∧ H b = none := fun b o e =>
  ⟨I.base.keep b o (I.ok.bs b o e).1 (I.ok.bs b o e).2 (I.ok.nofr e) (I.ok.noex b o e), I.base.free b o (I.ok.bs b o e).1 (I.ok.bs b o e).2 (I.ok.noex b o e)⟩
theorem Inv.bk (I : Inv X pins σ H s) : ∀ b o, X.base.get? b = some o → s.heap.get? b = some o := fun b o e => (I.bs b o e).1
theorem Inv.mod (I : Inv X pins σ H s) : Mod X.K X.mg X.base := I.ok.mod
theorem Inv.kIn (I : Inv X pins σ H s) : X.K.In s.heap := I.ok.mod.kin.keeps I.bk
theorem Inv.lt (I : Inv X pins σ H s) : X.env.locals < s.heap.objs.size := let ⟨_, hn, _⟩ := I.loc; hn.lt
theorem Inv.sz (I : Inv X pins σ H s) : X.s₀.heap.objs.size ≤ s.heap.objs.size := Nat.le_trans I.ok.above (Nat.le_of_lt I.lt)
theorem Inv.nofs (I : Inv X pins σ H s) {a : Addr} (h : s.heap.objs.size ≤ a) : a ∉ X.fs := fun hb => by
  obtain ⟨_, o, ho, _⟩ := I.ok.funs.mem hb
  exact absurd (Nat.lt_of_lt_of_le (Heap.lt_size ho) (Nat.le_trans I.sz h)) (Nat.lt_irrefl _)
theorem Inv.cne (I : Inv X pins σ H s) : ∀ x c, X.env.cells.lookup x = some c → c ≠ X.env.locals := fun x c e z => by
  obtain ⟨v, o, ho, hd⟩ := I.cell x c e
  obtain ⟨m, ⟨o', es, ep, ho', hd', _⟩, _⟩ := I.loc
  rw [z, ho'] at ho; cases ho; rw [hd'] at hd; cases hd
theorem Inv.funs (I : Inv X pins σ H s) : s.heap.FunFrames X.base X.outer := by
  have all : ∀ (l : List Env), (∀ b ∈ frs l, b ∈ X.fs) → X.s₀.heap.FunFrames X.base l → s.heap.FunFrames X.base l := by
    intro l
    induction l with
    | nil => intro _ _; trivial
    | cons env r ih =>
      intro hs hl
      obtain ⟨hk, ⟨L, o, hf, hn, ho, hd⟩, hr⟩ := hl
      have hL : L ∈ X.fs := hs L (by unfold frs; rw [List.filterMap_cons, hf]; exact List.mem_cons_self)
      obtain ⟨sl, e⟩ := I.base.slot L o ho (I.ok.frf L hL) hL fun z => I.ok.exfs L z hL
      exact ⟨hk, ⟨L, _, hf, hn, e, hd⟩, ih (fun b hb => hs b (by unfold frs; rw [List.filterMap_cons, hf]; exact List.mem_cons_of_mem _ hb)) hr⟩
  exact all X.outer (fun _ hb => hb) I.ok.funs

/-- the frames that run, for a call -/
theorem Inv.stack (I : Inv X pins σ H s) : s.heap.FunFrames X.base X.stack := by
  rcases I.ok.stk with e | ⟨e, hf⟩
  · rw [e]; exact I.funs
  · rw [e]
    obtain ⟨m, hn, _⟩ := I.loc
    refine .cons (by rw [I.ok.kind]; decide) hf hn ?_ I.funs
    exact Heap.get?_none_of_le (Nat.le_trans I.ok.bsz I.ok.above)
theorem Inv.stkSub (I : Inv X pins σ H s) : ∀ b ∈ frs X.stack, b ∈ X.env.locals :: X.fs := fun b hb => by
  rcases I.ok.stk with e | ⟨e, hf⟩
  · rw [e] at hb; exact List.mem_cons_of_mem _ hb
  · rw [e] at hb
    unfold frs at hb
    rw [List.filterMap_cons, hf] at hb
    exact hb
theorem Inv.stkFree (I : Inv X pins σ H s) : ∀ b ∈ frs X.stack, H b = none := fun b hb => by
  rcases List.mem_cons.mp (I.stkSub b hb) with e | hb
  · rw [e]; exact I.free
  · obtain ⟨_, o, ho, _⟩ := I.ok.funs.mem hb
    exact I.base.free b o ho (I.ok.frf b hb) fun z => I.ok.exfs b z hb

/-- THE STEP: the untracked objects but the frame and the records at ch are kept (the callers' frames up to slots), the frame's map is kept, the new abstract heap is held -/
theorem Inv.step {g' : Array GenState} {t' : Nat} {d' : Drawn} {ch : List Addr} (I : Inv X pins σ H s)
    (hch : ∀ b ∈ ch, (b ∈ X.ex ∨ X.s₀.heap.objs.size ≤ b) ∧ b ≠ X.env.locals ∧ (∀ x c, X.env.cells.lookup x = some c → c ≠ b) ∧ ∀ p ∈ X.pn ++ pins, p.1 ≠ b)
    (keep : ∀ b o, b ≠ X.env.locals → b ∉ X.fs → b ∉ ch → s.heap.get? b = some o → H b = none → h'.get? b = some o)
    (slot : ∀ b o, b ≠ X.env.locals → b ∈ X.fs → b ∉ ch → s.heap.get? b = some o → H b = none → ∃ sl, h'.get? b = some { o with slots := sl }) (free : ∀ b o, b ∉ ch → s.heap.get? b = some o → H b = none → H' b = none)
    (there : ∀ b o, b ∉ ch → s.heap.get? b = some o → ∃ o', h'.get? b = some o')
    (tups : ∀ b xs, H b = some (.tup xs) → H' b = some (.tup xs)) (frzs : ∀ b o u, H b = some (.frz o u) → H' b = some (.frz o u)) (tbls : ∀ b ps, H b = some (.tbl ps) → ∃ more, H' b = some (.tbl (ps ++ more)))
    (ns : ∀ m, s.heap.Ns X.env.locals m → h'.Ns X.env.locals m) (hok : HOk X.prog X.w H' h') (hg : AllBare g') :
    Inv X pins σ H' { s with heap := h', gens := g', drawn := d', toks := t' } := by
  have neL : ∀ b o, X.s₀.heap.get? b = some o → b ≠ X.env.locals := fun b o e => Nat.ne_of_lt (Nat.lt_of_lt_of_le (Heap.lt_size e) I.ok.above)
  have neC : ∀ b o, X.s₀.heap.get? b = some o → b ∉ X.ex → b ∉ ch := fun b o e hx hb => by
    rcases (hch b hb).1 with z | z
    · exact hx z
    · exact absurd (Nat.lt_of_lt_of_le (Heap.lt_size e) z) (Nat.lt_irrefl _)
  have cellK : ∀ x c, X.env.cells.lookup x = some c → ∀ v, s.heap.IsCell c v → h'.IsCell c v := fun x c e v ⟨o, ho, hd⟩ => by
    have nch : c ∉ ch := fun z => (hch c z).2.2.1 x c e rfl
    by_cases hc : c ∈ X.fs
    · obtain ⟨sl, q⟩ := slot c o (I.cne x c e) hc nch ho (I.freeC x c e)
      exact ⟨_, q, hd⟩
    · exact ⟨o, keep c o (I.cne x c e) hc nch ho (I.freeC x c e), hd⟩
  refine ⟨I.ok, I.os, hg, ⟨fun b o e n hb hx => ?_, fun b o e n hb hx => ?_, fun b o e n hx => ?_, fun b o e hx => ?_, fun b xs e => tups b xs (I.base.tups b xs e), fun b o xs e => frzs b o xs (I.base.frzs b o xs e), fun b ps e => ?_⟩, ?_, fun x c e => ?_, ?_, fun x c e => ?_, fun p hp => ?_, hok, I.len⟩
  · exact keep b o (neL b o e) hb (neC b o e hx) (I.base.keep b o e n hb hx) (I.base.free b o e n hx)
  · obtain ⟨sl, e1⟩ := I.base.slot b o e n hb hx
    obtain ⟨sl', e2⟩ := slot b _ (neL b o e) hb (neC b o e hx) e1 (I.base.free b o e n hx)
    exact ⟨sl', e2⟩
  · obtain ⟨o', e1⟩ := I.base.there b o e hx
    exact free b o' (neC b o e hx) e1 (I.base.free b o e n hx)
  · obtain ⟨o', e1⟩ := I.base.there b o e hx
    exact there b o' (neC b o e hx) e1
  · obtain ⟨m1, e1⟩ := I.base.tbls b ps e
    obtain ⟨m2, e2⟩ := tbls b _ e1
    exact ⟨m1 ++ m2, by rw [e2, Array.append_assoc]⟩
  · obtain ⟨m, hn, hl⟩ := I.loc
    refine ⟨m, ns m hn, fun i x v e1 e2 e3 => ?_⟩
    obtain ⟨u, r, l⟩ := hl i x v e1 e2 e3
    refine ⟨u, r, ?_⟩
    rcases l with l | ⟨k, c, e, z⟩
    · exact .inl l
    · exact .inr ⟨k, c, e, cellK x c e _ z⟩
  · obtain ⟨v, z⟩ := I.cell x c e
    exact ⟨v, cellK x c e v z⟩
  · obtain ⟨m, ⟨o, _, _, ho, _⟩, _⟩ := I.loc
    exact free _ o (fun z => (hch _ z).2.1 rfl) ho I.free
  · obtain ⟨v, o, ho, hd⟩ := I.cell x c e
    exact free c o (fun z => (hch c z).2.2.1 x c e rfl) ho (I.freeC x c e)
  · obtain ⟨e, n, ne, nf, d⟩ := I.pin p hp
    have nch : p.1 ∉ ch := fun z => (hch p.1 z).2.2.2 p hp rfl
    exact ⟨keep p.1 p.2 ne nf nch e n, free p.1 p.2 nch e n, ne, nf, d⟩
/-- .. where the frame's own object is kept too -/
theorem Inv.un {t' : Nat} (I : Inv X pins σ H s) (u : Un X.fs [] H H' s.heap h') (hok : HOk X.prog X.w H' h') : Inv X pins σ H' { s with heap := h', toks := t' } := by
  obtain ⟨m, ⟨o, es, ep, ho, r⟩, _⟩ := id I.loc
  obtain ⟨sl, hL⟩ := u.any ho I.free (by simp)
  exact I.step (g' := s.gens) (d' := s.drawn) (ch := []) (fun _ z => nomatch z) (fun b o _ hb _ e n => u.keep b o e n hb (by simp)) (fun b o _ hb _ e n => u.slot b o e n hb (by simp)) (fun b o _ e n => u.free b o e n (by simp)) (fun b o _ e => u.there b o e (by simp)) u.tups u.frzs u.tbls (fun m' hm => by
    obtain ⟨o', es', ep', ho', r'⟩ := hm
    rw [ho] at ho'; cases ho'
    exact ⟨_, es', ep', hL, r'⟩) hok I.bare
/-- behind a call (or a comprehension's block): the slots of this frame may have changed too, the records at ch may have turned -/
theorem Inv.call {g' : Array GenState} {t' : Nat} {d' : Drawn} {ch : List Addr} (I : Inv X pins σ H s) (u : Un (frs X.stack) ch H H' s.heap h') (hok : HOk X.prog X.w H' h') (hg : AllBare g')
    (hch : ∀ b ∈ ch, (b ∈ X.ex ∨ X.s₀.heap.objs.size ≤ b) ∧ b ≠ X.env.locals ∧ (∀ x c, X.env.cells.lookup x = some c → c ≠ b) ∧ ∀ p ∈ X.pn ++ pins, p.1 ≠ b) :
    Inv X pins σ H' { s with heap := h', gens := g', drawn := d', toks := t' } := by
  obtain ⟨m, ⟨o, es, ep, ho, r⟩, _⟩ := id I.loc
  obtain ⟨sl, hL⟩ := u.any ho I.free fun z => (hch _ z).2.1 rfl
  exact I.step (ch := ch) hch (fun b o hL hb hc e n => u.keep b o e n (fun z => (List.mem_cons.mp (I.stkSub b z)).elim hL hb) hc) (fun b o _ _ hc e n => u.any e n hc) (fun b o hc e n => u.free b o e n hc) (fun b o hc e => u.there b o e hc) u.tups u.frzs u.tbls (fun m' hm => by
    obtain ⟨o', es', ep', ho', r'⟩ := hm
    rw [ho] at ho'; cases ho'
    exact ⟨_, es', ep', hL, r'⟩) hok hg
/-- an untracked record of ours (an iterator) has turned -/
theorem Inv.turned {t' : Nat} {it : Addr} (I : Inv X pins σ H s) (k : ∀ b o, b ≠ it → s.heap.get? b = some o → h'.get? b = some o) (hn : H it = none) (hL : it ≠ X.env.locals)
    (h1 : it ∈ X.ex ∨ X.s₀.heap.objs.size ≤ it) (h2 : ∀ x c, X.env.cells.lookup x = some c → c ≠ it) (h3 : ∀ p ∈ X.pn ++ pins, p.1 ≠ it) : Inv X pins σ H { s with heap := h', toks := t' } := by
  have nit : ∀ b u, H b = some u → b ≠ it := fun b u e z => by rw [z, hn] at e; cases e
  refine I.step (g' := s.gens) (d' := s.drawn) (ch := [it]) (fun b hb => ?_) (fun b o _ _ hc e _ => k b o (fun z => hc (by simp [z])) e) (fun b o _ _ hc e _ => ⟨o.slots, k b o (fun z => hc (by simp [z])) e⟩) (fun _ _ _ _ n => n)
    (fun b o hc e => ⟨o, k b o (fun z => hc (by simp [z])) e⟩) (fun _ _ e => e) (fun _ _ _ e => e) (fun b ps e => ⟨#[], by rw [e]; simp⟩) (fun m hm => ?_) (fun b u e => ?_) I.bare
  · have e : b = it := by simpa using hb
    subst e
    exact ⟨h1, hL, h2, h3⟩
  · obtain ⟨o, es, ep, ho, r⟩ := hm
    exact ⟨o, es, ep, k _ o (Ne.symm hL) ho, r⟩
  · refine (I.hok b u e).stay (fun c v hc q => k c v ?_ q) (fun _ q => q) fun _ _ q => q
    rcases hc with z | z
    · rw [z]; exact nit b u e
    · exact nit c _ z
theorem Inv.tok (I : Inv X pins σ H s) (t : Nat) : Inv X pins σ H { s with toks := t } := I.un (h' := s.heap) (t' := t) Un.refl I.hok
/-- all objects kept -/
theorem Inv.kept {t' : Nat} (I : Inv X pins σ H s) (k : ∀ b u, s.heap.get? b = some u → h'.get? b = some u) : Inv X pins σ H { s with heap := h', toks := t' } := I.un (Un.kept k) (I.hok.kept k)
/-- a new object laid and tracked -/
theorem Inv.laid {a : Addr} {o : HO} {t' : Nat} (I : Inv X pins σ H s) (k : ∀ b u, s.heap.get? b = some u → h'.get? b = some u) (hp : s.heap.objs.size ≤ a) (new : ObjOk X.prog X.w (upd H a o) h' a o) :
    Inv X pins σ (upd H a o) { s with heap := h', toks := t' } := I.un (Un.laid k hp (I.hok.fresh hp)) (I.hok.laid k hp new)
/-- an object written -/
theorem Inv.write {x e : Addr} {o : HO} {t' : Nat} (I : Inv X pins σ H s) (mu : Mut (H x)) (he : e = x ∨ H e = some (.own x)) (k : ∀ b u, b ≠ e → s.heap.get? b = some u → h'.get? b = some u) (heo : ∃ u, h'.get? e = some u)
    (new : ObjOk X.prog X.w (upd H x o) h' x o) : Inv X pins σ (upd H x o) { s with heap := h', toks := t' } := I.un (Un.write mu he k heo) (I.hok.write mu he k heo new)
theorem Inv.pins_of {pins' : List (Addr × Obj)} (I : Inv X pins σ H s) (h : ∀ p ∈ pins', s.heap.get? p.1 = some p.2 ∧ H p.1 = none ∧ p.1 ≠ X.env.locals ∧ p.1 ∉ X.fs ∧ ∀ v, p.2.data ≠ .cell v) : Inv X pins' σ H s :=
  ⟨I.ok, I.os, I.bare, I.base, I.loc, I.cell, I.free, I.freeC, fun p hp => (List.mem_append.mp hp).elim (fun z => I.pin p (List.mem_append_left _ z)) (h p), I.hok, I.len⟩

theorem nodup_ix {N : List Str} (hN : N.Nodup) {i j : Nat} {x : Str} (a : N[i]? = some x) (b : N[j]? = some x) : i = j := by
  obtain ⟨h1, e1⟩ := List.getElem?_eq_some_iff.mp a
  obtain ⟨h2, e2⟩ := List.getElem?_eq_some_iff.mp b
  exact (List.getElem_inj hN).mp (e1.trans e2.symm)

/-- a name is stored; what changed -/
theorem store_ok2 {M : Model} {A : Around} {E : Value → Shared → Prop} {i : Nat} {x : Str} {v : V} {u : Value} {Q : Unit → Shared → Prop} (I : Inv X pins σ H s) (hN : X.N.Nodup) (hi : X.N[i]? = some x) (hx : Loc X.env.scope x) (r : RelV v u)
    (h : ∀ s', Inv X pins (σ.set i (some v)) H s' → (∃ a, Heap.SameBut a s.heap s'.heap ∧ (a = X.env.locals ∨ X.env.cells.lookup x = some a)) → Q () s') (hf : X.fn x = true ∨ X.env.scope.names.lookup x = some .local := by first | exact .inl rfl | exact .inr rfl | assumption) : wpAny M A (storeName X.env x u) Q E s := by
  obtain ⟨m, hn, hl⟩ := id I.loc
  have hcls : (X.env.scope.kind == .class || (X.env.scope.kind == .module && X.env.locals != X.env.globals)) = false := by rw [I.ok.kind]; rfl
  have hiσ : i < σ.length := by rw [I.len]; exact (List.getElem?_eq_some_iff.mp hi).1
  have cne := I.cne
  have tracked : ∀ {a : Addr} {h' : Heap}, (∃ o, s.heap.get? a = some o ∧ H a = none) → Heap.SameBut a s.heap h' → HOk X.prog X.w H h' := fun {a h'} ha hs b ob e => by
    obtain ⟨_, _, hfree⟩ := ha
    refine (I.hok b ob e).stay (fun c w' hc q => (hs.2 c ?_).trans q) (fun _ q => q) fun _ _ q => q
    rintro rfl
    rcases hc with rfl | hc
    · rw [hfree] at e; cases e
    · rw [hfree] at hc; cases hc
  rcases hx with hk | hk
  · refine wpAny_storeName_local hk hn (fun h' hn' hs => ?_) hcls
    obtain ⟨oL, _, _, hoL, _⟩ := id hn
    refine h _ ⟨I.ok, I.os, I.bare, ⟨fun b o e n hb hx => ?_, fun b o e n hb hx => ?_, I.base.free, fun b o e hx => ?_, I.base.tups, I.base.frzs, I.base.tbls⟩, ⟨_, hn', fun j y v' e1 e2 e3 => ?_⟩, fun y c e => ?_, I.free, I.freeC, fun p hp => ?_, tracked ⟨oL, hoL, I.free⟩ hs, by simpa using I.len⟩ ⟨_, hs, .inl rfl⟩
    · exact (hs.2 b (Nat.ne_of_lt (Nat.lt_of_lt_of_le (Heap.lt_size e) I.ok.above))).trans (I.base.keep b o e n hb hx)
    · obtain ⟨sl, e1⟩ := I.base.slot b o e n hb hx
      exact ⟨sl, (hs.2 b (Nat.ne_of_lt (Nat.lt_of_lt_of_le (Heap.lt_size e) I.ok.above))).trans e1⟩
    · obtain ⟨o', e1⟩ := I.base.there b o e hx
      exact ⟨o', (hs.2 b (Nat.ne_of_lt (Nat.lt_of_lt_of_le (Heap.lt_size e) I.ok.above))).trans e1⟩
    · by_cases hj : j = i
      · subst hj
        rw [hi] at e1; cases e1
        rw [List.getElem?_set_self hiσ] at e2
        cases e2
        exact ⟨u, r, .inl ⟨hk, by simp⟩⟩
      · rw [List.getElem?_set_ne (Ne.symm hj)] at e2
        obtain ⟨u', r', q⟩ := hl j y v' e1 e2 e3
        refine ⟨u', r', ?_⟩
        rcases q with ⟨k, e⟩ | ⟨k, c, e, z⟩
        · refine .inl ⟨k, ?_⟩
          have : y ≠ x := fun e => hj (nodup_ix hN e1 (e ▸ hi))
          simp [this, e]
        · exact .inr ⟨k, c, e, z.sameBut hs (cne y c e)⟩
    · obtain ⟨w', z⟩ := I.cell y c e
      exact ⟨w', z.sameBut hs (cne y c e)⟩
    · obtain ⟨e, n, ne, nf, d⟩ := I.pin p hp
      exact ⟨(hs.2 p.1 ne).trans e, n, ne, nf, d⟩
  · have hfn : X.fn x = true := by
      rcases hf with z | z
      · exact z
      · rw [z] at hk; cases hk
    obtain ⟨c, hc⟩ := I.ok.has x (.inl hk)
    obtain ⟨w', z⟩ := I.cell x c hc
    refine wpAny_storeName_cell I.ok.kind hk hc z (fun h' hc' hs => ?_)
    obtain ⟨oc, hoc, hocd⟩ := id z
    refine h { s with heap := h' } ⟨I.ok, I.os, I.bare, ⟨fun b o e n hb hx => ?_, fun b o e n hb hx => ?_, I.base.free, fun b o e hx => ?_, I.base.tups, I.base.frzs, I.base.tbls⟩, ⟨m, hn.sameBut hs (Ne.symm (cne x c hc)), fun j y v' e1 e2 e3 => ?_⟩, fun y c' e => ?_, I.free, I.freeC, fun p hp => ?_, tracked ⟨oc, hoc, I.freeC x c hc⟩ hs, by simpa using I.len⟩ ⟨c, hs, .inr hc⟩
    · exact (hs.2 b (Nat.ne_of_lt (Nat.lt_of_lt_of_le (Heap.lt_size e) (I.ok.cab x c hfn hc)))).trans (I.base.keep b o e n hb hx)
    · obtain ⟨sl, e1⟩ := I.base.slot b o e n hb hx
      exact ⟨sl, (hs.2 b (Nat.ne_of_lt (Nat.lt_of_lt_of_le (Heap.lt_size e) (I.ok.cab x c hfn hc)))).trans e1⟩
    · obtain ⟨o', e1⟩ := I.base.there b o e hx
      exact ⟨o', (hs.2 b (Nat.ne_of_lt (Nat.lt_of_lt_of_le (Heap.lt_size e) (I.ok.cab x c hfn hc)))).trans e1⟩
    · by_cases hj : j = i
      · subst hj
        rw [hi] at e1; cases e1
        rw [List.getElem?_set_self hiσ] at e2
        cases e2
        exact ⟨u, r, .inr ⟨.inl hk, c, hc, hc'⟩⟩
      · rw [List.getElem?_set_ne (Ne.symm hj)] at e2
        obtain ⟨u', r', q⟩ := hl j y v' e1 e2 e3
        refine ⟨u', r', ?_⟩
        rcases q with q | ⟨k, c', e, z'⟩
        · exact .inl q
        · refine .inr ⟨k, c', e, z'.sameBut hs ?_⟩
          rintro rfl
          exact hj (nodup_ix hN e1 (I.ok.inj _ _ _ e hc ▸ hi))
    · by_cases hcc : c' = c
      · subst hcc; exact ⟨_, hc'⟩
      · obtain ⟨w2, z2⟩ := I.cell y c' e
        exact ⟨w2, z2.sameBut hs hcc⟩
    · obtain ⟨e, n, ne, nf, d⟩ := I.pin p hp
      refine ⟨(hs.2 p.1 ?_).trans e, n, ne, nf, d⟩
      intro q
      rw [q, hoc] at e
      have q' : oc = p.2 := Option.some.inj e
      exact d w' (by rw [← q']; exact hocd)
theorem store_ok {M : Model} {A : Around} {E : Value → Shared → Prop} {i : Nat} {x : Str} {v : V} {u : Value} {Q : Unit → Shared → Prop} (I : Inv X pins σ H s) (hN : X.N.Nodup) (hi : X.N[i]? = some x) (hx : Loc X.env.scope x) (r : RelV v u)
    (h : ∀ s', Inv X pins (σ.set i (some v)) H s' → Q () s') (hf : X.fn x = true ∨ X.env.scope.names.lookup x = some .local := by first | exact .inl rfl | exact .inr rfl | assumption) : wpAny M A (storeName X.env x u) Q E s :=
  store_ok2 I hN hi hx r (fun s' I' _ => h s' I') hf
/-- behind a call or a block, the state as it is -/
theorem Inv.call' {s' : Shared} {ch : List Addr} (I : Inv X pins σ H s) (ho : s'.os = s.os) (u : Un (frs X.stack) ch H H' s.heap s'.heap) (hok : HOk X.prog X.w H' s'.heap) (hg : AllBare s'.gens)
    (hch : ∀ b ∈ ch, (b ∈ X.ex ∨ X.s₀.heap.objs.size ≤ b) ∧ b ≠ X.env.locals ∧ (∀ x c, X.env.cells.lookup x = some c → c ≠ b) ∧ ∀ p ∈ X.pn ++ pins, p.1 ≠ b) : Inv X pins σ H' s' := by
  obtain ⟨h', g', d', t', o'⟩ := s'
  have e : o' = s.os := ho
  subst e
  exact I.call (g' := g') (t' := t') (d' := d') u hok hg hch
end

/-! ### the judgements -/
/-- an exception: its class, its own dict's address (where it has one), the abstract heap behind it -/
abbrev XK := Value → Option Addr → Hp → Prop
abbrev St := List (Option V)
abbrev VK := V → Hp → Prop
/-- an expression's reading; a test's; an argument list's -/
abbrev TE := St → Hp → VK → Prop
abbrev TT := St → Hp → (Bool → Hp → Prop) → Prop
abbrev TA := St → Hp → (List V → Hp → Prop) → Prop
/-- what is wanted behind a statement -/
structure Ends where
  nx : St → Hp → Prop
  rt : VK
  bk : St → Hp → Prop := fun _ _ => False
  ct : St → Hp → Prop := fun _ _ => False
abbrev TS := Ends → St → Hp → Prop

def EP (X : Cx) (pins : List (Addr × Obj)) (σ : St) (Q : VK) (u : Value) (s' : Shared) : Prop := ∃ v H', Inv X pins σ H' s' ∧ RelV v u ∧ Q v H'
def TP (X : Cx) (pins : List (Addr × Obj)) (σ : St) (Q : Bool → Hp → Prop) (b : Bool) (s' : Shared) : Prop := ∃ H', Inv X pins σ H' s' ∧ Q b H'
def AP (X : Cx) (pins : List (Addr × Obj)) (σ : St) (Q : List V → Hp → Prop) (us : List Value) (s' : Shared) : Prop := ∃ vs H', Inv X pins σ H' s' ∧ Vals vs us ∧ Q vs H'
def SP (X : Cx) (pins : List (Addr × Obj)) (D : Ends) (f : Flow) (s' : Shared) : Prop :=
  match f with
  | .next => ∃ σ' H', Inv X pins σ' H' s' ∧ D.nx σ' H'
  | .brk => ∃ σ' H', Inv X pins σ' H' s' ∧ D.bk σ' H'
  | .cont => ∃ σ' H', Inv X pins σ' H' s' ∧ D.ct σ' H'
  | .ret u => ∃ v σ' H', Inv X pins σ' H' s' ∧ RelV v u ∧ D.rt v H'

def PE (X : Cx) (e : Expr) (t : TE) : Prop :=
  ∀ (pins : List (Addr × Obj)) (s : Shared) (σ : St) (H : Hp) (Q : VK), Inv X pins σ H s → t σ H Q → wpAny (model X.prog X.w) X.A (eval e X.env) (EP X pins σ Q) X.xe s
def PT (X : Cx) (e : Expr) (t : TT) : Prop :=
  ∀ (pins : List (Addr × Obj)) (s : Shared) (σ : St) (H : Hp) (Q : Bool → Hp → Prop), Inv X pins σ H s → t σ H Q → wpAny (model X.prog X.w) X.A (isTrue e X.env (eval e X.env)) (TP X pins σ Q) X.xe s
/-- a test whatever its 'whole' is (and, or) -/
def PW (X : Cx) (e : Expr) (t : TT) : Prop :=
  ∀ (whole : Sem Value) (pins : List (Addr × Obj)) (s : Shared) (σ : St) (H : Hp) (Q : Bool → Hp → Prop), Inv X pins σ H s → t σ H Q → wpAny (model X.prog X.w) X.A (isTrue e X.env whole) (TP X pins σ Q) X.xe s
theorem PW.pt {X : Cx} {e : Expr} {t : TT} (h : PW X e t) : PT X e t := h _
/-- an argument list (no star), from the left -/
def PA (X : Cx) (es : List Expr) (t : TA) : Prop :=
  ∀ (pos : Pos) (pins : List (Addr × Obj)) (s : Shared) (σ : St) (H : Hp) (Q : List V → Hp → Prop), Inv X pins σ H s → t σ H Q → wpAny (model X.prog X.w) X.A (spliced (backTo pos (starEach es X.env))) (AP X pins σ Q) X.xe s
def PS (X : Cx) (st : Stmt) (t : TS) : Prop :=
  ∀ (pins : List (Addr × Obj)) (s : Shared) (σ : St) (H : Hp) (D : Ends), Inv X pins σ H s → t D σ H → wpAny (model X.prog X.w) X.A (exec st X.env) (SP X pins D) X.xe s
def PSs (X : Cx) (st : List Stmt) (t : TS) : Prop :=
  ∀ (pins : List (Addr × Obj)) (s : Shared) (σ : St) (H : Hp) (D : Ends), Inv X pins σ H s → t D σ H → wpAny (model X.prog X.w) X.A (execs st X.env) (SP X pins D) X.xe s
/-- weaken the end -/
theorem thn {α : Type} {t : Sem α} {Q Q' : α → Shared → Prop} {M : Model} {A : Around} {E : Value → Shared → Prop} {s : Shared} (h : wpAny M A t Q E s) (hQ : ∀ a s, Q a s → Q' a s) : wpAny M A t Q' E s := wpAny_mono h hQ fun _ _ x => x
end L2

namespace L2
open PySem PySem.Spec PyProof.Rows
section
variable {X : Cx}

/-- two expressions in a row -/
theorem bin {a b : Expr} {ta tb : TE} (ha : PE X a ta) (hb : PE X b tb) {pins : List (Addr × Obj)} {s : Shared} {σ : St} {H : Hp} {R : V → V → Hp → Prop} (I : Inv X pins σ H s) (h : ta σ H fun x H1 => tb σ H1 fun y H2 => R x y H2)
    {α : Type} {Q : α → Shared → Prop} {f : Value → Value → Sem α}
    (hf : ∀ v u s2 x y H2, Inv X pins σ H2 s2 → RelV x v → RelV y u → R x y H2 → wpAny (model X.prog X.w) X.A (f v u) Q X.xe s2) :
    wpAny (model X.prog X.w) X.A (eval a X.env) (fun v s₁ => wpAny (model X.prog X.w) X.A (eval b X.env) (fun u s₂ => wpAny (model X.prog X.w) X.A (f v u) Q X.xe s₂) X.xe s₁) X.xe s := by
  refine thn (ha pins s σ H _ I h) fun v s1 ⟨x, H1, I1, r1, q1⟩ => ?_
  refine thn (hb pins s1 σ H1 _ I1 q1) fun u s2 ⟨y, H2, I2, r2, q2⟩ => ?_
  exact hf v u s2 x y H2 I2 r1 r2 q2

/-! ### names and constants -/
def tVar (i : Nat) : TE := fun σ H Q => ∃ v, σ[i]? = some (some v) ∧ Q v H
def tC (v : V) : TE := fun _ H Q => Q v H
theorem pe_var {i : Nat} {x : Str} {pos : Pos} (hN : X.N[i]? = some x) (hv : Vis X.env.scope x) (hd : (x == ("__debug__" : Str)) = false := by decide) (hcd : (x == ("__classdict__" : Str)) = false := by decide) : PE X (.Name x pos) (tVar i) := by
  intro pins s σ H Q I h
  obtain ⟨v, e, h⟩ := h
  obtain ⟨m, hn, hl⟩ := I.loc
  obtain ⟨u, r, l⟩ := hl i x v hN e hv
  have fin : EP X pins σ Q u s := ⟨v, H, I, r, h⟩
  rcases l with ⟨hk, hm⟩ | ⟨hk, c, hc, hcell⟩
  · exact wpAny_Name (wpAny_loadName_local I.ok.kind hk hn hm fin) hd
  · rcases hk with hk | hk
    · exact wpAny_Name (wpAny_loadName_cell I.ok.kind hk hc hcell fin) hd
    · exact wpAny_Name (wpAny_loadName_free I.ok.kind hk hc hcell fin hcd) hd
theorem pe_int {i j pos} : PE X (.Constant (.int i) j pos) (tC (.int i)) := fun _ _ _ H _ I h => wpAny_Constant_int ⟨.int i, H, I.tok _, ⟨_, rfl⟩, h⟩
theorem pe_bl {b j pos} : PE X (.Constant (.bool b) j pos) (tC (.bl b)) := fun _ _ _ H _ I h => Constant_bool ⟨.bl b, H, I, rfl, h⟩
theorem pe_str {x j pos} : PE X (.Constant (.str x) j pos) (tC (.str x)) := fun _ _ _ H _ I h => Calls.Constant_str ⟨.str x, H, I.tok _, ⟨_, rfl⟩, h⟩

/-- a global name of the def -/
def Gl (X : Cx) (x : Str) : Prop := X.env.kindOf x = some .globalImplicit
theorem ld_glob {E : Value → Shared → Prop} {pins : List (Addr × Obj)} {s : Shared} {σ : St} {H : Hp} {x : Str} {u : Value} {pos : Pos} {Q : Value → Shared → Prop} (I : Inv X pins σ H s) (hg : Gl X x) (hm : X.mg x = some u) (h : Q u s)
    (hd : (x == ("__debug__" : Str)) = false := by decide) : wpAny (model X.prog X.w) X.A (eval (.Name x pos) X.env) Q E s :=
  Calls.Name_function_global I.ok.kind hg (Calls.loadGlobal_global (by rw [I.ok.glob]; exact I.mod.glob.keeps I.bk) hm h) hd
theorem ld_blt {E : Value → Shared → Prop} {pins : List (Addr × Obj)} {s : Shared} {σ : St} {H : Hp} {x : Str} {u : Value} {pos : Pos} {Q : Value → Shared → Prop} (I : Inv X pins σ H s) (hg : Gl X x) (hm : X.mg x = none) (hv : bootBuiltins x = some u) (h : Q u s)
    (hn : x ≠ "__name__" := by decide) (hd : (x == ("__debug__" : Str)) = false := by decide) : wpAny (model X.prog X.w) X.A (eval (.Name x pos) X.env) Q E s := by
  obtain ⟨mb, h1, h2⟩ := I.mod.blt
  exact Calls.Name_function_global I.ok.kind hg (Calls.loadGlobal_builtin (by rw [I.ok.glob]; exact I.mod.glob.keeps I.bk) hm (by rw [I.ok.blt]; exact h1.keeps I.bk) ((h2 x hn).trans hv) h) hd
/-- a module's constant, a class, a function, as a value -/
theorem pe_glob {x : Str} {v : V} {u : Value} {pos : Pos} (hg : Gl X x) (hm : X.mg x = some u) (r : RelV v u) (hd : (x == ("__debug__" : Str)) = false := by decide) : PE X (.Name x pos) (tC v) :=
  fun _ _ _ H _ I h => ld_glob I hg hm ⟨v, H, I, r, h⟩ hd
theorem pe_bltn {x : Str} {v : V} {u : Value} {pos : Pos} (hg : Gl X x) (hm : X.mg x = none) (hv : bootBuiltins x = some u) (r : RelV v u) (hn : x ≠ "__name__" := by decide) (hd : (x == ("__debug__" : Str)) = false := by decide) : PE X (.Name x pos) (tC v) :=
  fun _ _ _ H _ I h => ld_blt I hg hm hv ⟨v, H, I, r, h⟩ hn hd

/-! ### arithmetic -/
/-- two ints -/
def t2I (ta tb : TE) (k : Int → Int → Hp → Prop) : St → Hp → Prop := fun σ H => ta σ H fun x H1 => tb σ H1 fun y H2 => ∃ i j, x = .int i ∧ y = .int j ∧ k i j H2
def tAdd (ta tb : TE) : TE := fun σ H Q => t2I ta tb (fun i j H2 => Q (.int (i + j)) H2) σ H
def tSub (ta tb : TE) : TE := fun σ H Q => t2I ta tb (fun i j H2 => Q (.int (i - j)) H2) σ H
/-- the left factor below 2^64 -/
def tMul (ta tb : TE) : TE := fun σ H Q => t2I ta tb (fun i j H2 => (-(2 ^ 64) < i ∧ i < 2 ^ 64) ∧ Q (.int (i * j)) H2) σ H
variable {a b : Expr} {ta tb : TE} {pos : Pos}
/-! ### comparisons -/
def PC (X : Cx) (op : CmpOp) (a b : Expr) (t : TE) : Prop :=
  ∀ (pins : List (Addr × Obj)) (s : Shared) (σ : St) (H : Hp) (Q : VK), Inv X pins σ H s → t σ H Q →
    wpAny (model X.prog X.w) X.A (eval a X.env) (fun v s₁ => wpAny (model X.prog X.w) X.A (eval b X.env) (fun u s₂ => wpAny (model X.prog X.w) X.A (compareOp op v u) (EP X pins σ Q) X.xe s₂) X.xe s₁) X.xe s
def tCmp (p : Int → Int → Bool) (ta tb : TE) : TE := fun σ H Q => t2I ta tb (fun i j H2 => Q (.bl (p i j)) H2) σ H
abbrev tLt : TE → TE → TE := tCmp fun i j => decide (i < j)
abbrev tLe : TE → TE → TE := tCmp fun i j => decide (i ≤ j)
abbrev tGt : TE → TE → TE := tCmp fun i j => decide (j < i)
abbrev tGe : TE → TE → TE := tCmp fun i j => decide (j ≤ i)
abbrev tEqI : TE → TE → TE := tCmp fun i j => decide (i = j)
abbrev tNeI : TE → TE → TE := tCmp fun i j => !decide (i = j)
/-- is None -/
def tIsN (ta : TE) : TE := fun σ H Q => ta σ H fun x H1 => Q (.bl (decide (x = .non))) H1
def tNotN (ta : TE) : TE := fun σ H Q => ta σ H fun x H1 => Q (.bl (!decide (x = .non))) H1
/-- a comparison as a value, as a test -/
def tB (t : TE) : TT := fun σ H Q => t σ H fun x H1 => ∃ c, x = .bl c ∧ Q c H1
theorem pt_cmp {op : CmpOp} {t : TE} (h : PC X op a b t) (h1 : behindInMarks op b = false := by first | exact nobehind _ (by decide) (by decide) | rfl) : PT X (.Compare a [op] [b] pos) (tB t) := by
  intro pins s σ H Q I hw
  refine wpAny_isTrue_Compare1 (thn (h pins s σ H _ I hw) fun v s1 h1 => thn h1 fun u s2 h2 => thn h2 fun c s3 ⟨x, H1, I1, r1, q1⟩ => ?_) h1
  obtain ⟨d, rfl, q⟩ := q1
  cases r1
  exact wpAny_truthy_bool ⟨H1, I1, q⟩
/-- an expression whose value is a bool, as a test -/
theorem pt_val {e : Expr} {t : TE} (h : PE X e t) (he : ∀ whole, isTrue e X.env whole = (do let v ← whole; standAt e.pos; holding [v] (truthy v)) := by intro _; rfl) : PT X e (tB t) := by
  intro pins s σ H Q I hw
  refine isTrue_plain (thn (h pins s σ H _ I hw) fun v s1 ⟨x, H1, I1, r1, q1⟩ => ?_) (he _)
  obtain ⟨d, rfl, q⟩ := q1
  cases r1
  exact wpAny_truthy_bool ⟨H1, I1, q⟩

/-! ### and, or, not -/
variable {tA tB' : TT} {rest : List Expr}
def tAnd (t u : TT) : TT := fun σ H Q => t σ H fun c H1 => if c = true then u σ H1 Q else Q false H1
def tOr (t u : TT) : TT := fun σ H Q => t σ H fun c H1 => if c = true then Q true H1 else u σ H1 Q
def tNot (t : TT) : TT := fun σ H Q => t σ H fun c H1 => Q (!c) H1
theorem pw_or1 (ha : PT X a tA) : PW X (.BoolOp .Or [a] pos) tA := by
  intro wh pins s σ H Q I h
  refine isTrue_or (thn (ha pins s σ H Q I h) fun c s1 e => ?_)
  cases c with
  | false => exact isTrue_or_nil e
  | true => exact e
theorem pw_or (ha : PT X a tA) (hb : PW X (.BoolOp .Or (b :: rest) pos) tB') : PW X (.BoolOp .Or (a :: b :: rest) pos) (tOr tA tB') := by
  intro wh pins s σ H Q I h
  refine isTrue_or (thn (ha pins s σ H _ I h) fun c s1 ⟨H1, I1, q1⟩ => ?_)
  cases c with
  | true => exact ⟨H1, I1, q1⟩
  | false => exact hb wh pins s1 σ H1 Q I1 q1
theorem pt_not (ha : PT X a tA) : PT X (.UnaryOp .Not a pos) (tNot tA) := by
  intro pins s σ H Q I h
  exact isTrue_not (ha pins s σ H (fun c H1 => Q (!c) H1) I h)
/-- .. as values (bools) -/
def tAndV (ta tb : TE) : TE := fun σ H Q => ta σ H fun x H1 => ∃ c, x = .bl c ∧ if c = true then tb σ H1 Q else Q (.bl false) H1
def tOrV (ta tb : TE) : TE := fun σ H Q => ta σ H fun x H1 => ∃ c, x = .bl c ∧ if c = true then Q (.bl true) H1 else tb σ H1 Q
def tNotV (ta : TE) : TE := fun σ H Q => ta σ H fun x H1 => ∃ c, x = .bl c ∧ Q (.bl (!c)) H1
theorem pe_one {op} {t : TE} (h : PE X a t) : PE X (.BoolOp op [a] pos) t := fun pins s σ H Q I hw => BoolOp_one (h pins s σ H Q I hw)
theorem pe_and (ha : PE X a ta) (hb : PE X (.BoolOp .And (b :: rest) pos) tb) : PE X (.BoolOp .And (a :: b :: rest) pos) (tAndV ta tb) := by
  intro pins s σ H Q I h
  refine BoolOp_and (thn (ha pins s σ H _ I h) fun v s1 ⟨x, H1, I1, r1, q1⟩ => ?_)
  obtain ⟨c, rfl, q1⟩ := q1
  cases r1
  refine wpAny_truthy_bool ?_
  cases c with
  | true => exact hb pins s1 σ H1 Q I1 q1
  | false => exact ⟨.bl false, H1, I1, rfl, q1⟩
theorem pe_or (ha : PE X a ta) (hb : PE X (.BoolOp .Or (b :: rest) pos) tb) : PE X (.BoolOp .Or (a :: b :: rest) pos) (tOrV ta tb) := by
  intro pins s σ H Q I h
  refine BoolOp_or (thn (ha pins s σ H _ I h) fun v s1 ⟨x, H1, I1, r1, q1⟩ => ?_)
  obtain ⟨c, rfl, q1⟩ := q1
  cases r1
  refine wpAny_truthy_bool ?_
  cases c with
  | false => exact hb pins s1 σ H1 Q I1 q1
  | true => exact ⟨.bl true, H1, I1, rfl, q1⟩
theorem pe_not (ha : PE X a ta) : PE X (.UnaryOp .Not a pos) (tNotV ta) := by
  intro pins s σ H Q I h
  refine UnaryOp_ (thn (ha pins s σ H _ I h) fun v s1 ⟨x, H1, I1, r1, q1⟩ => ?_)
  obtain ⟨c, rfl, q1⟩ := q1
  cases r1
  exact not_of (wpAny_truthy_bool ⟨.bl (!c), H1, I1, rfl, q1⟩)
/-- a if t else b -/
def tIf (t : TT) (ta tb : TE) : TE := fun σ H Q => t σ H fun c H1 => if c = true then ta σ H1 Q else tb σ H1 Q
theorem pe_ifExp {c : Expr} (hc : PT X c tA) (ha : PE X a ta) (hb : PE X b tb) : PE X (.IfExp c a b pos) (tIf tA ta tb) := by
  intro pins s σ H Q I h
  refine wpAny_IfExp (thn (hc pins s σ H _ I h) fun d s1 ⟨H1, I1, q1⟩ => ?_)
  cases d with
  | true => exact ha pins s1 σ H1 Q I1 q1
  | false => exact hb pins s1 σ H1 Q I1 q1
end
end L2

namespace L2
open PySem PySem.Spec PyProof.Rows

/-! ### a list, a tuple that is read: tracked, frozen, or an object of the module -/
def SqL (K : PySem.W.Frag) (H : Hp) (a : Addr) (xs : List V) : Prop :=
  Rd H a (.lst xs) ∨
    ∃ (o : Obj) (its : Array Value) (n : Nat), K.lookup a = some o ∧ o.cls = .type "list" ∧ o.dict = none ∧ o.data = .seq its n ∧ its.size ≤ sizeLine ∧ Vals xs its.toList
def SqT (K : PySem.W.Frag) (H : Hp) (a : Addr) (xs : List V) : Prop :=
  Rd H a (.tup xs) ∨
    ∃ (o : Obj) (its : Array Value) (n : Nat), K.lookup a = some o ∧ o.cls = .type "tuple" ∧ o.data = .seq its n ∧ its.size ≤ sizeLine ∧ Vals xs its.toList
def absV : Value → Option V
  | .none => some .non
  | .bool b => some (.bl b)
  | .int i _ => some (.int i)
  | .str x _ => some (.str x)
  | .bytes b _ => some (.byt b)
  | .float b _ => some (.flt b)
  | .ref a => some (.ref a)
  | .type n => some (.ty n)
  | _ => none
theorem RelV.abs {x : V} {u : Value} (r : RelV x u) : absV u = some x := by
  cases x with
  | non => cases r; rfl
  | bl _ => cases r; rfl
  | int _ => obtain ⟨t, rfl⟩ := r; rfl
  | str _ => obtain ⟨t, rfl⟩ := r; rfl
  | byt _ => obtain ⟨t, rfl⟩ := r; rfl
  | flt _ => obtain ⟨t, rfl⟩ := r; rfl
  | ref _ => cases r; rfl
  | ty _ => cases r; rfl
theorem RelV.inj {x y : V} {u : Value} (r : RelV x u) (q : RelV y u) : x = y := Option.some.inj (r.abs.symm.trans q.abs)
theorem Vals.inj : ∀ {xs ys : List V} {us : List Value}, Vals xs us → Vals ys us → xs = ys
  | _, _, _, .nil, .nil => rfl
  | _, _, _, .cons r t, .cons r' t' => by rw [r.inj r', Vals.inj t t']
section
variable {X : Cx} {pins : List (Addr × Obj)} {σ : St} {H : Hp} {s : Shared} {a : Addr} {xs ys : List V}
theorem SqL.of {K : PySem.W.Frag} (h : H a = some (.lst xs)) : SqL K H a xs := .inl (.inl h)
theorem SqT.of {K : PySem.W.Frag} (h : H a = some (.tup xs)) : SqT K H a xs := .inl (.inl h)
theorem Inv.list (I : Inv X pins σ H s) (h : SqL X.K H a xs) : ∃ its : List Value, Vals xs its ∧ PlainL s.heap a its.toArray ∧ xs.length ≤ sizeLine := by
  rcases h with h | ⟨o, its, n, hk, hc, hd, hs, hz, r⟩
  · obtain ⟨z, its, n, r, e⟩ := h.ok I.hok
    exact ⟨its, r, ⟨_, n, e, rfl, rfl, rfl⟩, z⟩
  · refine ⟨its.toList, r, ⟨o, n, I.kIn a o hk, hc, hd, by simpa using hs⟩, ?_⟩
    have e := r.length
    simp only [Array.length_toList] at e
    omega
theorem Inv.tuple (I : Inv X pins σ H s) (h : SqT X.K H a xs) : ∃ its : List Value, Vals xs its ∧ IsTup s.heap a its.toArray ∧ xs.length ≤ sizeLine := by
  rcases h with h | ⟨o, its, n, hk, hc, hs, hz, r⟩
  · obtain ⟨z, its, r, p⟩ := h.ok I.hok
    exact ⟨its, r, p, z⟩
  · refine ⟨its.toList, r, ⟨o, I.kIn a o hk, hc, n, by simpa using hs⟩, ?_⟩
    have e := r.length
    simp only [Array.length_toList] at e
    omega
theorem Inv.list_inj (I : Inv X pins σ H s) (h : SqL X.K H a xs) (h' : SqL X.K H a ys) : xs = ys := by
  obtain ⟨its, r, ⟨o, n, e, _, _, d⟩, _⟩ := I.list h
  obtain ⟨its', r', ⟨o', n', e', _, _, d'⟩, _⟩ := I.list h'
  rw [e] at e'; cases e'
  rw [d] at d'
  injection d' with d1 _
  have : its = its' := by simpa using congrArg Array.toList d1
  subst this
  exact r.inj r'
theorem Inv.tuple_inj (I : Inv X pins σ H s) (h : SqT X.K H a xs) (h' : SqT X.K H a ys) : xs = ys := by
  obtain ⟨its, r, ⟨o, e, _, n, d⟩, _⟩ := I.tuple h
  obtain ⟨its', r', ⟨o', e', _, n', d'⟩, _⟩ := I.tuple h'
  rw [e] at e'; cases e'
  rw [d] at d'
  injection d' with d1 _
  have : its = its' := by simpa using congrArg Array.toList d1
  subst this
  exact r.inj r'
end

/-! ### another wish about exceptions -/
abbrev Cx.wish (X : Cx) (E : Value → Shared → Prop) : Cx := { X with xe := E }
/-- no exception leaves -/
abbrev Cx.nox (X : Cx) : Cx := X.wish fun _ _ => False
theorem Cx.Ok.wish {X : Cx} (ok : X.Ok) (E : Value → Shared → Prop) : (X.wish E).Ok :=
  ⟨ok.mod, ok.kind, ok.glob, ok.blt, ok.above, ok.inj, ok.has, ok.cab, ok.hd, ok.frames, ok.stk, ok.exf, ok.bs, ok.bsz, ok.noex, ok.exfs, ok.funs, ok.frf⟩
theorem Cx.Ok.unwish {X : Cx} {E : Value → Shared → Prop} (ok : (X.wish E).Ok) : X.Ok :=
  ⟨ok.mod, ok.kind, ok.glob, ok.blt, ok.above, ok.inj, ok.has, ok.cab, ok.hd, ok.frames, ok.stk, ok.exf, ok.bs, ok.bsz, ok.noex, ok.exfs, ok.funs, ok.frf⟩
section
variable {X : Cx} {pins : List (Addr × Obj)} {σ : St} {H : Hp} {s : Shared} {E : Value → Shared → Prop}
theorem Inv.wish (I : Inv X pins σ H s) (E : Value → Shared → Prop) : Inv (X.wish E) pins σ H s := ⟨I.ok.wish E, I.os, I.bare, I.base, I.loc, I.cell, I.free, I.freeC, I.pin, I.hok, I.len⟩
theorem Inv.unwish (I : Inv (X.wish E) pins σ H s) : Inv X pins σ H s := ⟨I.ok.unwish, I.os, I.bare, I.base, I.loc, I.cell, I.free, I.freeC, I.pin, I.hok, I.len⟩
theorem SP.unwish {D : Ends} {f : Flow} {s' : Shared} (h : SP (X.wish E) pins D f s') : SP X pins D f s' := by
  cases f with
  | next => obtain ⟨σ', H', I, q⟩ := h; exact ⟨σ', H', I.unwish, q⟩
  | brk => obtain ⟨σ', H', I, q⟩ := h; exact ⟨σ', H', I.unwish, q⟩
  | cont => obtain ⟨σ', H', I, q⟩ := h; exact ⟨σ', H', I.unwish, q⟩
  | ret u => obtain ⟨v, σ', H', I, r, q⟩ := h; exact ⟨v, σ', H', I.unwish, r, q⟩
theorem PSs.nox {st : List Stmt} {t : TS} (h : PSs X.nox st t) : PSs X st t := fun pins s σ H D I hw =>
  wpAny_mono (h pins s σ H D (I.wish _) hw) (fun _ _ q => q.unwish) fun _ _ z => False.elim z
end

/-! ### blocks and small statements -/
section
variable {X : Cx} {st : Stmt} {rest : List Stmt} {t u : TS} {e : Expr} {te : TE} {pos : Pos}
def tNext : TS := fun D σ H => D.nx σ H
def tSeq (t u : TS) : TS := fun D σ H => t { D with nx := u D } σ H
theorem pss_nil : PSs X [] tNext := fun _ _ σ H _ I h => wpAny_execs_nil ⟨σ, H, I, h⟩
theorem pss_cons (h1 : PS X st t) (h2 : PSs X rest u) : PSs X (st :: rest) (tSeq t u) := by
  intro pins s σ H D I h
  refine wpAny_execs_cons (thn (h1 pins s σ H { D with nx := u D } I h) fun f s1 q => ?_)
  cases f with
  | next =>
    obtain ⟨σ', H', I', q⟩ := q
    exact h2 pins s1 σ' H' D I' q
  | ret v => exact q
  | brk => exact q
  | cont => exact q
theorem pss_one (h1 : PS X st t) : PSs X [st] t := by
  intro pins s σ H D I h
  refine wpAny_execs_cons (thn (h1 pins s σ H D I h) fun f s1 q => ?_)
  cases f with
  | next => exact wpAny_execs_nil q
  | ret v => exact q
  | brk => exact q
  | cont => exact q
def tBreak : TS := fun D σ H => D.bk σ H
def tCont : TS := fun D σ H => D.ct σ H
/-- in a def's body nothing is shown -/
theorem Inv.quiet {pins : List (Addr × Obj)} {σ : St} {H : Hp} {s : Shared} (I : Inv X pins σ H s) : interactive X.env = false := by simp [interactive, I.ok.kind]
/-- an expression whose value is dropped -/
def tDrop (te : TE) : TS := fun D σ H => te σ H fun _ H1 => D.nx σ H1
theorem ps_expr (he : PE X e te) (hs : swapsWith e none pos.line X.env = pure false := by rfl) : PS X (.Expr e pos) (tDrop te) := by
  intro pins s σ H D I h
  exact wpAny_Expr_any (thn (he pins s σ H _ I h) fun v s1 ⟨x, H1, I1, r1, q1⟩ => ⟨σ, H1, I1, q1⟩) I.quiet hs
def tRet (te : TE) : TS := fun D σ H => te σ H D.rt
theorem ps_ret (he : PE X e te) : PS X (.Return (some e) pos) (tRet te) := by
  intro pins s σ H D I h
  exact wpAny_Return_some (thn (he pins s σ H _ I h) fun v s1 ⟨x, H1, I1, r1, q1⟩ => ⟨x, σ, H1, I1, r1, q1⟩)
def tRetN : TS := fun D _ H => D.rt .non H
def tIfS (c : TT) (t u : TS) : TS := fun D σ H => c σ H fun b H1 => if b = true then t D σ H1 else u D σ H1
theorem ps_if {c : Expr} {a b : List Stmt} {tc : TT} (hc : PT X c tc) (ha : PSs X a t) (hb : PSs X b u) : PS X (.If c a b pos) (tIfS tc t u) := by
  intro pins s σ H D I h
  refine wpAny_If (thn (hc pins s σ H _ I h) fun d s1 ⟨H1, I1, q1⟩ => ?_)
  cases d with
  | true => exact ha pins s1 σ H1 D I1 q1
  | false => exact hb pins s1 σ H1 D I1 q1
/-- code that the proof never comes to -/
def tNever : TS := fun _ _ _ => False
end

/-! ### targets -/
abbrev TG := V → St → Hp → (St → Hp → Prop) → Prop
abbrev TGs := List V → St → Hp → (St → Hp → Prop) → Prop
def PG (X : Cx) (target : Expr) (t : TG) : Prop :=
  ∀ (pins : List (Addr × Obj)) (s : Shared) (σ : St) (H : Hp) (v : V) (u : Value) (Q : St → Hp → Prop), Inv X pins σ H s → RelV v u → t v σ H Q →
    wpAny (model X.prog X.w) X.A (assign target X.env u) (fun _ s' => ∃ σ' H', Inv X pins σ' H' s' ∧ Q σ' H') X.xe s
/-- several targets, one after another -/
def PGs (X : Cx) (ts : List Expr) (t : TGs) : Prop :=
  ∀ (pins : List (Addr × Obj)) (s : Shared) (σ : St) (H : Hp) (vs : List V) (us : List Value) (Q : St → Hp → Prop), Inv X pins σ H s → Vals vs us → t vs σ H Q →
    wpAny (model X.prog X.w) X.A (assignInOrder ((assignEach ts X.env).map (·.2)) us) (fun _ s' => ∃ σ' H', Inv X pins σ' H' s' ∧ Q σ' H') X.xe s
/-- o[i] = v, by values -/
abbrev TSet := V → V → V → Hp → (Hp → Prop) → Prop
def PSet (X : Cx) (t : TSet) : Prop :=
  ∀ (pins : List (Addr × Obj)) (s : Shared) (σ : St) (H : Hp) (o i v : V) (ov iv u : Value) (Q : Hp → Prop), Inv X pins σ H s → RelV o ov → RelV i iv → RelV v u → t o i v H Q →
    wpAny (model X.prog X.w) X.A (setItem ov iv u) (fun _ s' => ∃ H', Inv X pins σ H' s' ∧ Q H') X.xe s
/-- a op= b, by values -/
abbrev TIp := V → V → Hp → VK → Prop
def PIp (X : Cx) (op : Operator) (t : TIp) : Prop :=
  ∀ (pins : List (Addr × Obj)) (s : Shared) (σ : St) (H : Hp) (x y : V) (v u : Value) (Q : VK), Inv X pins σ H s → RelV x v → RelV y u → t x y H Q →
    wpAny (model X.prog X.w) X.A (inplaceOp op v u) (EP X pins σ Q) X.xe s
section
variable {X : Cx} {pos : Pos}
def gName (i : Nat) : TG := fun v σ H Q => Q (σ.set i (some v)) H
theorem pg_name {i : Nat} {x : Str} (hN : X.N.Nodup) (hi : X.N[i]? = some x) (hx : Loc X.env.scope x) (hf : X.fn x = true ∨ X.env.scope.names.lookup x = some .local := by first | exact .inl rfl | exact .inr rfl | assumption) : PG X (.Name x pos) (gName i) := by
  intro pins s σ H v u Q I r h
  exact wpAny_assign_Name (store_ok I hN hi hx r (fun s' I' => ⟨_, H, I', h⟩) hf)
def gNil : TGs := fun vs σ H Q => vs = [] ∧ Q σ H
def gCons (t : TG) (u : TGs) : TGs := fun vs σ H Q => ∃ v r, vs = v :: r ∧ t v σ H fun σ' H' => u r σ' H' Q
theorem pgs_nil : PGs X [] gNil := by
  intro pins s σ H vs us Q I r h
  obtain ⟨e, h⟩ := h
  subst e
  cases r
  exact assignInOrder_nil ⟨σ, H, I, h⟩
theorem pgs_cons {e : Expr} {es : List Expr} {t : TG} {u : TGs} (h1 : PG X e t) (h2 : PGs X es u)
    (hs : (assignEach (e :: es) X.env).map (·.2) = assign e X.env :: (assignEach es X.env).map (·.2) := by rfl) : PGs X (e :: es) (gCons t u) := by
  intro pins s σ H vs us Q I r h
  obtain ⟨v, vr, e1, h⟩ := h
  subst e1
  cases r with
  | cons r rr =>
    rw [hs]
    refine assignInOrder_cons (thn (h1 pins s σ H _ _ _ I r h) fun _ s1 ⟨σ1, H1, I1, q1⟩ => ?_)
    exact h2 pins s1 σ1 H1 _ _ Q I1 rr q1
/-- (a, b, ..) = a tuple of that length -/
def gTup (K : PySem.W.Frag) (n : Nat) (t : TGs) : TG := fun v σ H Q => ∃ a xs, v = .ref a ∧ SqT K H a xs ∧ xs.length = n ∧ t xs σ H Q
theorem pg_tup {es : List Expr} {k : Nat} {t : TGs} {n : Nat} (hc : X.calm = true) (h : PGs X es t)
    (hn : (assignEach es X.env).length = n := by rfl) (hst : (assignEach es X.env).findIdx? (·.1) = none := by rfl) : PG X (.Tuple es k pos) (gTup X.K n t) := by
  intro pins s σ H v u Q I r hw
  obtain ⟨a, xs, e1, hq, hl, hw⟩ := hw
  subst e1
  cases r
  obtain ⟨its, rv, ht, hz⟩ := I.tuple hq
  refine assign_Tuple_tuple (I.ok.hd hc) ht (by simp [hn, ← hl, rv.length]) hst fun h' hx => ?_
  have I1 : Inv X pins σ H { s with heap := h' } := I.kept (t' := s.toks) fun b o e => hx b o (Nat.ne_of_lt (Heap.lt_size e)) e
  exact h pins _ σ H xs _ Q I1 (by simpa using rv) hw
/-- o[i] = .. -/
def gSub (to ti : TE) (t : TSet) : TG := fun v σ H Q => to σ H fun o H1 => ti σ H1 fun i H2 => t o i v H2 fun H3 => Q σ H3
theorem pg_sub {o i : Expr} {to ti : TE} {t : TSet} (ho : PE X o to) (hi : PE X i ti) (hs : PSet X t)
    (ha : ∀ v, assign (.Subscript o i pos) X.env v = (do
      let ov ← holding [v] (eval o X.env)
      let iv ← holding [v, ov] (eval i X.env)
      standAt pos
      holding [v, ov, iv] (setItem ov iv v)
      release [v, ov, iv] []) := by intro _; rfl) : PG X (.Subscript o i pos) (gSub to ti t) := by
  intro pins s σ H v u Q I r h
  rw [ha]
  refine wpAny_bind (wpAny_holding (thn (ho pins s σ H _ I h) fun ov s1 ⟨x, H1, I1, r1, q1⟩ => ?_))
  refine wpAny_bind (wpAny_holding (thn (hi pins s1 σ H1 _ I1 q1) fun iv s2 ⟨y, H2, I2, r2, q2⟩ => ?_))
  refine wpAny_bind (wpAny_standAt (wpAny_bind (wpAny_holding (thn (hs pins s2 σ H2 x y v ov iv u _ I2 r1 r2 r q2) fun _ s3 ⟨H3, I3, q3⟩ => ?_))))
  exact wpAny_release ⟨σ, H3, I3, q3⟩
/-- target = value -/
def tAsg (te : TE) (g : TG) : TS := fun D σ H => te σ H fun x H1 => g x σ H1 D.nx
theorem ps_asg {tg e : Expr} {te : TE} {g : TG} (he : PE X e te) (hg : PG X tg g) (hs : swapsWithSole [tg] e pos.line X.env = pure false := by rfl) (hw : swappedStores [tg] e X.env = pure none := by rfl)
    (h1 : (assignEach [tg] X.env).map (·.2) = [assign tg X.env] := by rfl) : PS X (.Assign [tg] e pos) (tAsg te g) := by
  intro pins s σ H D I h
  refine wpAny_Assign_stores (thn (he pins s σ H _ I h) fun v s1 ⟨x, H1, I1, r1, q1⟩ => ?_) hs hw
  rw [h1]
  exact thn (hg pins s1 σ H1 x v _ I1 r1 q1) fun _ s2 q => q
/-- name = value -/
theorem ps_set {i : Nat} {x : Str} {e : Expr} {te : TE} {pos' : Pos} (hN : X.N.Nodup) (hi : X.N[i]? = some x) (hx : Loc X.env.scope x) (he : PE X e te) (hs : swapsWith e (some (.Name x pos')) pos.line X.env = pure false := by rfl) (hf : X.fn x = true ∨ X.env.scope.names.lookup x = some .local := by first | exact .inl rfl | exact .inr rfl | assumption) :
    PS X (.Assign [.Name x pos'] e pos) (tAsg te (gName i)) := by
  intro pins s σ H D I h
  refine wpAny_Assign_Name (thn (he pins s σ H _ I h) fun v s1 ⟨y, H1, I1, r1, q1⟩ => ?_) hs
  exact store_ok I1 hN hi hx r1 (fun s2 I2 => ⟨_, H1, I2, q1⟩) hf
/-- a, b = x, y with plain local names: stored from the right; the pair itself is not tracked (the opening rows as in PyProof/Rows/TupAssign.lean:23) -/
def tPar (i j : Nat) (ta : TA) : TS := fun D σ H => ta σ H fun vs H1 => ∃ v w, vs = [v, w] ∧ D.nx ((σ.set i (some v)).set j (some w)) H1
theorem ps_par {i j : Nat} {x y : Str} {a b : Expr} {ta : TA} {px py pt : Pos} {kt k2 pt2} (hc : X.calm = true) (hN : X.N.Nodup) (hi : X.N[i]? = some x) (hj : X.N[j]? = some y) (hij : i ≠ j)
    (hx : X.env.scope.names.lookup x = some .local) (hy : X.env.scope.names.lookup y = some .local) (ha : PA X [a, b] ta)
    (hw : swappedStores [.Tuple [.Name x px, .Name y py] kt pt] (.Tuple [a, b] k2 pt2) X.env = pure (some [x, y]))
    (hs : swapsWithSole [.Tuple [.Name x px, .Name y py] kt pt] (.Tuple [a, b] k2 pt2) pos.line X.env = pure false := by rfl) :
    PS X (.Assign [.Tuple [.Name x px, .Name y py] kt pt] (.Tuple [a, b] k2 pt2) pos) (tPar i j ta) := by
  intro pins s σ H D I h
  rw [exec_Assign_arm]
  refine wpAny_bind (wpAny_standAt ?_)
  rw [hs]
  refine wpAny_bind (wpAny_pure ?_)
  rw [if_neg (by decide)]
  refine wpAny_bind (Tuple_ (thn (ha _ pins s σ H _ I h) fun us s1 ⟨vs, H1, I1, r1, q1⟩ => ?_))
  obtain ⟨v, w, e1, q1⟩ := q1
  subst e1
  obtain ⟨u1, u2, rfl, rv, rw'⟩ : ∃ u1 u2, us = [u1, u2] ∧ RelV v u1 ∧ RelV w u2 := by
    cases r1 with
    | cons p q =>
      cases q with
      | cons p' q' =>
        cases q'
        exact ⟨_, _, rfl, p, p'⟩
  refine wpAny_newObj_type ?_ (by show 2 ≤ sizeLine; decide)
  have I2 : Inv X pins σ H1 { s1 with heap := s1.heap.push { cls := .type "tuple", data := .seq [u1, u2].toArray } } := I1.kept (t' := s1.toks) fun b o e => Heap.get?_push_of_some _ e
  rw [hw]
  refine wpAny_bind (wpAny_pure ?_)
  show wpAny (model X.prog X.w) X.A (do rule "assign.swapped-stores"; let items ← unpackItems (.ref s1.heap.objs.size) 2 none; assignInOrder [fun v => bindName X.env y v, fun v => bindName X.env x v] items.reverse; pure Flow.next) _ _ _
  refine wpAny_bind (wpAny_rule (wpAny_bind (unpackItems_tuple (items := #[u1, u2]) (I.ok.hd hc) (IsTup.new s1.heap _) fun h' hx' => ?_)))
  have I3 := I2.kept (h' := h') (t' := s1.toks) fun b o e => hx' b o (Nat.ne_of_lt (Heap.lt_size e)) e
  show wpAny _ _ (assignInOrder [fun v => bindName X.env y v, fun v => bindName X.env x v] [u2, u1] >>= fun _ => pure Flow.next) _ _ _
  refine wpAny_bind (assignInOrder_cons (wpAny_bindName (store_ok I3 hN hj (.inl hy) rw' (fun s2 I4 => ?_) (.inr hy))))
  refine assignInOrder_cons (wpAny_bindName (store_ok I4 hN hi (.inl hx) rv (fun s3 I5 => assignInOrder_nil (wpAny_pure ?_)) (.inr hx)))
  rw [List.set_comm _ _ (Ne.symm hij)] at I5
  exact ⟨_, H1, I5, q1⟩
/-- name op= e -/
def tAug (i : Nat) (te : TE) (ti : TIp) : TS := fun D σ H => ∃ x, σ[i]? = some (some x) ∧ te σ H fun y H1 => ti x y H1 fun z H2 => D.nx (σ.set i (some z)) H2
theorem ps_aug {i : Nat} {x : Str} {e : Expr} {te : TE} {op : Operator} {ti : TIp} {pos' : Pos} (hN : X.N.Nodup) (hi : X.N[i]? = some x) (hx : Loc X.env.scope x) (he : PE X e te) (ho : PIp X op ti) (hf : X.fn x = true ∨ X.env.scope.names.lookup x = some .local := by first | exact .inl rfl | exact .inr rfl | assumption) :
    PS X (.AugAssign (.Name x pos') op e pos) (tAug i te ti) := by
  intro pins s σ H D I h
  obtain ⟨v, e1, h⟩ := h
  obtain ⟨m, hn, hl⟩ := I.loc
  have vis : Vis X.env.scope x := by rcases hx with k | k; exact .inl k; exact .inr (.inl k)
  obtain ⟨u, r, l⟩ := hl i x v hi e1 vis
  refine wpAny_AugAssign_Name ?_
  have go : wpAny (model X.prog X.w) X.A (eval e X.env) (fun w s₂ => wpAny (model X.prog X.w) X.A (inplaceOp op u w) (fun r s₃ => wpAny (model X.prog X.w) X.A (storeName X.env x r) (fun _ => SP X pins D .next) X.xe s₃) X.xe s₂) X.xe s := by
    refine thn (he pins s σ H _ I h) fun w s1 ⟨y, H1, I1, r1, q1⟩ => ?_
    refine thn (ho pins s1 σ H1 v y u w _ I1 r r1 q1) fun z s2 ⟨zv, H2, I2, r2, q2⟩ => ?_
    exact store_ok I2 hN hi hx r2 (fun s3 I3 => ⟨_, H2, I3, q2⟩) hf
  rcases l with ⟨hk, hm⟩ | ⟨hk, c, hc, hcell⟩
  · exact wpAny_loadName_local I.ok.kind hk hn hm go
  · rcases hk with hk | hk
    · exact wpAny_loadName_cell I.ok.kind hk hc hcell go
    · rcases hx with k | k
      · have : X.env.scope.names.lookup x = some .free := hk
        rw [k] at this; cases this
      · have : X.env.scope.names.lookup x = some .free := hk
        rw [k] at this; cases this
/-- o[i] op= e -/
def tAugS (to ti te : TE) (tget : V → V → Hp → VK → Prop) (tip : TIp) (tset : TSet) : TS := fun D σ H => to σ H fun o H1 => ti σ H1 fun i H2 => tget o i H2 fun x H3 => te σ H3 fun y H4 => tip x y H4 fun z H5 => tset o i z H5 fun H6 => D.nx σ H6
/-- o[i], by values -/
def PGet (X : Cx) (t : V → V → Hp → VK → Prop) : Prop :=
  ∀ (pins : List (Addr × Obj)) (s : Shared) (σ : St) (H : Hp) (o i : V) (ov iv : Value) (Q : VK), Inv X pins σ H s → RelV o ov → RelV i iv → t o i H Q →
    wpAny (model X.prog X.w) X.A (getItem ov iv) (EP X pins σ Q) X.xe s
/-- ints -/
def ipI (f : Int → Int → Int) : TIp := fun x y H Q => ∃ i j, x = .int i ∧ y = .int j ∧ Q (.int (f i j)) H
theorem ip_add : PIp X .Add (ipI fun i j => i + j) := by
  intro pins s σ H x y v u Q I r1 r2 h
  obtain ⟨i, j, e1, e2, q⟩ := h
  subst e1; subst e2
  obtain ⟨t, rfl⟩ := r1
  obtain ⟨t', rfl⟩ := r2
  exact iadd_int ⟨.int _, H, I.tok _, ⟨_, rfl⟩, q⟩
end

/-! ### while -/
section
variable {X : Cx} {pos : Pos}
/-- the invariant W with its measure -/
def tWhile (c : TT) (tb : TS) : TS := fun D σ H => ∃ W : Nat → St → Hp → Prop, (∃ m, W m σ H) ∧ ∀ m σ H, W m σ H →
  c σ H fun b H1 => if b = true then ∃ N : St → Hp → Prop, (∀ σ' H', N σ' H' → ∃ m', m' < m ∧ W m' σ' H') ∧ tb { D with nx := N, ct := N, bk := D.nx } σ H1 else D.nx σ H1
end

/-! ### what a loop or a comprehension walks -/
/-- at turn i: it yields x (the heap may grow), or it stops -/
structure It where
  go : Nat → Hp → Prop
  yld : Nat → Hp → V → Hp → Prop
  stop : Nat → Hp → Prop
/-- the iterator's own objects may turn: they are not the frame's, not pinned, younger than the entry (or a comprehension's own) -/
def FpOk (X : Cx) (pins : List (Addr × Obj)) (H : Hp) (b : Addr) : Prop :=
  H b = none ∧ b ≠ X.env.locals ∧ b ∉ X.fs ∧ (b ∈ X.ex ∨ X.s₀.heap.objs.size ≤ b) ∧ (∀ x c, X.env.cells.lookup x = some c → c ≠ b) ∧ ∀ p ∈ X.pn ++ pins, p.1 ≠ b
theorem Inv.fpOk {X : Cx} {pins : List (Addr × Obj)} {σ : St} {H H' : Hp} {s : Shared} {b : Addr} (I : Inv X pins σ H s) (hb : s.heap.objs.size ≤ b) (hn : H' b = none) : FpOk X pins H' b := by
  refine ⟨hn, Nat.ne_of_gt (Nat.lt_of_lt_of_le I.lt hb), I.nofs hb, .inr (Nat.le_trans I.sz hb), fun x c e z => ?_, fun p hp z => ?_⟩
  · obtain ⟨v, q⟩ := I.cell x c e
    exact absurd (Nat.lt_of_lt_of_le q.lt (by rw [z]; exact hb)) (Nat.lt_irrefl _)
  · exact absurd (Nat.lt_of_lt_of_le (Heap.lt_size (I.pin p hp).1) (by rw [z]; exact hb)) (Nat.lt_irrefl _)
structure Turn (P : Program) (w : World) (K : PySem.W.Frag) (tg : Expr) (J : It) (fp : List Addr) (it : Addr) (tn : Nat → Heap → Prop) : Prop where
  mem : it ∈ fp
  obj : ∀ i h, tn i h → ∀ b ∈ fp, ∃ o, h.get? b = some o ∧ ∀ v, o.data ≠ .cell v
  keep : ∀ i h h', tn i h → (∀ b ∈ fp, ∀ o, h.get? b = some o → h'.get? b = some o) → tn i h'
  item : ∀ (X : Cx), X.prog = P → X.w = w → X.K = K → X.calm = true → ∀ (i : Nat) (pins : List (Addr × Obj)) (s : Shared) (σ : St) (H : Hp) (E : Value → Shared → Prop), Inv X pins σ H s → (∀ b ∈ fp, FpOk X pins H b) → tn i s.heap → J.go i H →
    wpAny (model P w) X.A (pyNext (.ref it)) (fun r s1 => ∃ u, r = some u ∧
      wpAny (model P w) X.A (letOwnedTupleGo tg (.ref it) u) (fun _ s2 => ∃ x H', Inv X pins σ H' s2 ∧ RelV x u ∧ J.yld i H x H' ∧ tn (i + 1) s2.heap ∧ ∀ b ∈ fp, H' b = none) E s1) E s
  done : ∀ (X : Cx), X.prog = P → X.w = w → X.K = K → X.calm = true → ∀ (i : Nat) (pins : List (Addr × Obj)) (s : Shared) (σ : St) (H : Hp) (E : Value → Shared → Prop), Inv X pins σ H s → (∀ b ∈ fp, FpOk X pins H b) → tn i s.heap → J.stop i H →
    wpAny (model P w) X.A (pyNext (.ref it)) (fun r s1 => r = none ∧ Inv X pins σ H s1) E s
  self : ∀ (A : Around) (i : Nat) (s : Shared) (Q : Value → Shared → Prop) (E : Value → Shared → Prop), tn i s.heap → Q (.ref it) s → wpAny (model P w) A (pyIter (.ref it)) Q E s
abbrev TI := St → Hp → (It → Hp → Prop) → Prop
/-- an iterator has come -/
def PIE (X : Cx) (pins : List (Addr × Obj)) (σ : St) (tg : Expr) (R : It → Hp → Prop) (itv : Value) (s2 : Shared) : Prop :=
  ∃ (it : Addr) (fp : List Addr) (tn : Nat → Heap → Prop) (J : It) (H' : Hp), itv = .ref it ∧ Inv X pins σ H' s2 ∧ Turn X.prog X.w X.K tg J fp it tn ∧ tn 0 s2.heap ∧ (∀ b ∈ fp, FpOk X pins H' b) ∧ R J H'
def PI (X : Cx) (tg iter : Expr) (wi : TI) : Prop :=
  ∀ (pins : List (Addr × Obj)) (s : Shared) (σ : St) (H : Hp) (R : It → Hp → Prop), Inv X pins σ H s → wi σ H R →
    wpAny (model X.prog X.w) X.A (eval iter X.env) (fun v s1 => wpAny (model X.prog X.w) X.A (pyIter v) (PIE X pins σ tg R) X.xe s1) X.xe s

/-- the step ahead of the store is nothing for an iterator that keeps no tuple -/
theorem go_of {M : Model} {A : Around} {E : Value → Shared → Prop} {s : Shared} {tg : Expr} {it : Addr} {u : Value} {o : Obj} {n : String} {vs : Array Value} {Q : Unit → Shared → Prop} (ho : s.heap.get? it = some o) (hc : o.cls = .type n) (hd : o.data = .fields vs)
    (hn : ["enumerate", "zip", "dict_itemiterator", "dict_reverseitemiterator", "odict_iterator", "itertools.zip_longest", "itertools.pairwise"].contains n = false) (hQ : Q () s) : wpAny M A (letOwnedTupleGo tg (.ref it) u) Q E s := by
  unfold letOwnedTupleGo
  cases tg <;> first
    | exact wpAny_pure hQ
    | (cases u <;> first
        | exact wpAny_pure hQ
        | (refine wpAny_bind (wpAny_load ho ?_)
           rw [hc, hd]
           show wpAny M A (if (["enumerate", "zip", "dict_itemiterator", "dict_reverseitemiterator", "odict_iterator", "itertools.zip_longest", "itertools.pairwise"].contains n && vs[0]? == some (rawInt _)) = true then _ else _) Q E s
           rw [if_neg (by intro h; rw [hn, Bool.false_and] at h; cases h)]
           exact wpAny_pure hQ))

/-- the list at a, as it stands at each turn (a loop may append to it) -/
def Itl (K : PySem.W.Frag) (a : Addr) : It :=
  ⟨fun i H => ∃ xs x, SqL K H a xs ∧ xs[i]? = some x, fun i H x H' => H' = H ∧ ∀ xs, SqL K H a xs → xs[i]? = some x, fun i H => ∃ xs, SqL K H a xs ∧ xs.length ≤ i⟩
def Itt (K : PySem.W.Frag) (a : Addr) : It :=
  ⟨fun i H => ∃ xs x, SqT K H a xs ∧ xs[i]? = some x, fun i H x H' => H' = H ∧ ∀ xs, SqT K H a xs → xs[i]? = some x, fun i H => ∃ xs, SqT K H a xs ∧ xs.length ≤ i⟩
/-- lo, lo + 1, .. (n of them) -/
def Itr (lo : Int) (n : Nat) : It := ⟨fun i _ => i < n, fun i H x H' => H' = H ∧ x = .int (lo + i), fun i _ => n ≤ i⟩
theorem turn_list {P : Program} {w : World} {K : PySem.W.Frag} {tg : Expr} (a it : Addr) : Turn P w K tg (Itl K a) [it] it (fun i h => h.IsListIter it a i) where
  mem := by simp
  obj := fun i h st b hb => by
    have e : b = it := by simpa using hb
    subst e
    obtain ⟨o, e, c, d⟩ := st
    exact ⟨o, e, fun v z => by rw [d] at z; cases z⟩
  keep := fun i h h' st k => st.at fun o e => k it (by simp) o e
  item := by
    intro X hP hw hK hc i pins s σ H E I hf st hg
    subst hP hw hK
    obtain ⟨xs, x, hq, hx⟩ := hg
    obtain ⟨its, rv, p, hz⟩ := I.list hq
    obtain ⟨u, hu, ru⟩ := rv.get hx
    obtain ⟨f0, f1, f2, f3, f4, f5⟩ := hf it (by simp)
    refine wpAny_pyNext_list_item st p.isList (x := u) (by simpa using hu) fun h' st' sb => ?_
    have I1 : Inv X pins σ H { s with heap := h' } := I.turned (t' := s.toks) (fun b o hb e => (sb.2 b hb).trans e) f0 f1 f3 f4 f5
    obtain ⟨o, e, c, d⟩ := id st'
    exact ⟨u, rfl, go_of (s := { s with heap := h' }) e c d (by decide) ⟨x, H, I1, ru, ⟨rfl, fun ys hy => by rw [I.list_inj hy hq]; exact hx⟩, st', fun b hb => (hf b hb).1⟩⟩
  done := by
    intro X hP hw hK hc i pins s σ H E I hf st hg
    subst hP hw hK
    obtain ⟨xs, hq, hx⟩ := hg
    obtain ⟨its, rv, p, hz⟩ := I.list hq
    obtain ⟨f0, f1, f2, f3, f4, f5⟩ := hf it (by simp)
    have hl := rv.length
    exact wpAny_pyNext_list_end (I.ok.hd hc) st p.isList (by simp; omega) fun h' eb => ⟨rfl, I.turned (t' := s.toks) (fun b o hb e => eb b o hb e) f0 f1 f3 f4 f5⟩
  self := fun _ _ _ _ _ st h => wpAny_pyIter_listiter st h
theorem turn_tuple {P : Program} {w : World} {K : PySem.W.Frag} {tg : Expr} (a it : Addr) : Turn P w K tg (Itt K a) [it] it (fun i h => h.IsTupleIter it a i) where
  mem := by simp
  obj := fun i h st b hb => by
    have e : b = it := by simpa using hb
    subst e
    obtain ⟨o, e, c, d⟩ := st
    exact ⟨o, e, fun v z => by rw [d] at z; cases z⟩
  keep := fun i h h' st k => st.at fun o e => k it (by simp) o e
  item := by
    intro X hP hw hK hc i pins s σ H E I hf st hg
    subst hP hw hK
    obtain ⟨xs, x, hq, hx⟩ := hg
    obtain ⟨its, rv, p, hz⟩ := I.tuple hq
    obtain ⟨u, hu, ru⟩ := rv.get hx
    obtain ⟨f0, f1, f2, f3, f4, f5⟩ := hf it (by simp)
    refine wpAny_pyNext_tuple_item st (show s.heap.IsTuple a its.toArray from p) (x := u) (by simpa using hu) fun h' st' sb => ?_
    have I1 : Inv X pins σ H { s with heap := h' } := I.turned (t' := s.toks) (fun b o hb e => (sb.2 b hb).trans e) f0 f1 f3 f4 f5
    obtain ⟨o, e, c, d⟩ := id st'
    exact ⟨u, rfl, go_of (s := { s with heap := h' }) e c d (by decide) ⟨x, H, I1, ru, ⟨rfl, fun ys hy => by rw [I.tuple_inj hy hq]; exact hx⟩, st', fun b hb => (hf b hb).1⟩⟩
  done := by
    intro X hP hw hK hc i pins s σ H E I hf st hg
    subst hP hw hK
    obtain ⟨xs, hq, hx⟩ := hg
    obtain ⟨its, rv, p, hz⟩ := I.tuple hq
    obtain ⟨f0, f1, f2, f3, f4, f5⟩ := hf it (by simp)
    have hl := rv.length
    exact wpAny_pyNext_tuple_end (I.ok.hd hc) st (show s.heap.IsTuple a its.toArray from p) (by simp; omega) fun h' eb => ⟨rfl, I.turned (t' := s.toks) (fun b o hb e => eb b o hb e) f0 f1 f3 f4 f5⟩
  self := fun _ _ _ _ _ st h => wpAny_pyIter_tupleiter st h
theorem turn_range {P : Program} {w : World} {K : PySem.W.Frag} {tg : Expr} (it : Addr) (lo : Int) (n : Nat) : Turn P w K tg (Itr lo n) [it] it (fun i h => IsRangeIter h it (lo + (i : Nat) * 1) ((n : Int) - (i : Nat)) 1) where
  mem := by simp
  obj := fun i h st b hb => by
    have e : b = it := by simpa using hb
    subst e
    exact ⟨_, st, fun v z => by
      have z' : Data.fields _ = Data.cell v := z
      cases z'⟩
  keep := fun i h h' st k => k it (by simp) _ st
  item := by
    intro X hP hw hK hc i pins s σ H E I hf st hg
    subst hP hw hK
    obtain ⟨f0, f1, f2, f3, f4, f5⟩ := hf it (by simp)
    have W := Walks.range (prog := X.prog) (w := X.w) (I.ok.hd hc) it lo 1 n
    refine W.item i s _ _ hg st fun v h' tk hv st' kk => ?_
    obtain ⟨t, rfl⟩ := hv
    have I1 : Inv X pins σ H { s with heap := h', toks := tk } := I.turned (fun b o hb e => kk b o (by simpa using hb) e) f0 f1 f3 f4 f5
    refine ⟨_, rfl, go_of (s := { s with heap := h', toks := tk }) (n := "range_iterator") st' rfl rfl (by decide) ⟨.int (lo + i), H, I1, ⟨t, ?_⟩, ⟨rfl, rfl⟩, st', fun b hb => (hf b hb).1⟩⟩
    rw [Int.mul_one]
  done := by
    intro X hP hw hK hc i pins s σ H E I hf st hg
    subst hP hw hK
    obtain ⟨f0, f1, f2, f3, f4, f5⟩ := hf it (by simp)
    exact wpAny_pyNext_range_end (I.ok.hd hc) st (by have : n ≤ i := hg; omega) fun h' eb => ⟨rfl, I.turned (t' := s.toks) (fun b o hb e => eb b o hb e) f0 f1 f3 f4 f5⟩
  self := fun _ _ _ _ _ st h => wpAny_pyIter_rangeiter st h
end L2

namespace L2
open PySem PySem.Spec PyProof.Rows
section
variable {X : Cx} {tg : Expr}
def iList (K : PySem.W.Frag) (tl : TE) : TI := fun σ H R => tl σ H fun x H1 => ∃ a, x = .ref a ∧ (∃ xs, SqL K H1 a xs) ∧ R (Itl K a) H1
def iTup (K : PySem.W.Frag) (tl : TE) : TI := fun σ H R => tl σ H fun x H1 => ∃ a, x = .ref a ∧ (∃ xs, SqT K H1 a xs) ∧ R (Itt K a) H1
theorem pi_list {l : Expr} {tl : TE} (hl : PE X l tl) : PI X tg l (iList X.K tl) := by
  intro pins s σ H R I h
  refine thn (hl pins s σ H _ I h) fun v s1 ⟨x, H1, I1, r1, q1⟩ => ?_
  obtain ⟨a, e, ⟨xs, hq⟩, q⟩ := q1
  subst e
  cases r1
  obtain ⟨its, rv, p, hz⟩ := I1.list hq
  refine wpAny_pyIter_list p.isList ?_
  refine ⟨s1.heap.objs.size, [s1.heap.objs.size], _, _, H1, rfl, I1.kept (t' := s1.toks) fun b o e => Heap.get?_push_of_some _ e, turn_list a _, ⟨_, Heap.get?_push_size _ rfl, rfl, rfl⟩, fun b hb => ?_, q⟩
  have e : b = s1.heap.objs.size := by simpa using hb
  subst e
  exact I1.fpOk (Nat.le_refl _) (I1.hok.fresh (Nat.le_refl _))
theorem pi_tup {l : Expr} {tl : TE} (hl : PE X l tl) : PI X tg l (iTup X.K tl) := by
  intro pins s σ H R I h
  refine thn (hl pins s σ H _ I h) fun v s1 ⟨x, H1, I1, r1, q1⟩ => ?_
  obtain ⟨a, e, ⟨xs, hq⟩, q⟩ := q1
  subst e
  cases r1
  obtain ⟨its, rv, p, hz⟩ := I1.tuple hq
  refine wpAny_pyIter_tuple (show s1.heap.IsTuple a its.toArray from p) ?_
  refine ⟨s1.heap.objs.size, [s1.heap.objs.size], _, _, H1, rfl, I1.kept (t' := s1.toks) fun b o e => Heap.get?_push_of_some _ e, turn_tuple a _, ⟨_, Heap.get?_push_size _ rfl, rfl, rfl⟩, fun b hb => ?_, q⟩
  have e : b = s1.heap.objs.size := by simpa using hb
  subst e
  exact I1.fpOk (Nat.le_refl _) (I1.hok.fresh (Nat.le_refl _))
/-- a range object just made, walked -/
theorem range_it {pins : List (Addr × Obj)} {σ : St} {H : Hp} {s : Shared} {R : It → Hp → Prop} {E : Value → Shared → Prop} {lo hi : Int} {t u v : Tok} {tk : Nat} (I : Inv X pins σ H s) (h1 : -(2 ^ 62) ≤ lo) (h2 : lo < 2 ^ 62) (h3 : -(2 ^ 62) ≤ hi) (h4 : hi < 2 ^ 62)
    (q : R (Itr lo (hi - lo).toNat) H) : wpAny (model X.prog X.w) X.A (pyIter (.ref s.heap.objs.size)) (PIE X pins σ tg R) E { s with heap := s.heap.push { cls := .type "range", data := .fields #[.int lo t, .int hi u, .int 1 v] }, toks := tk } := by
  refine wpAny_pyIter_range (IsRange.new ..) (small_one h1 h2 h3 h4) ?_
  have I1 : Inv X pins σ H { s with heap := s.heap.push { cls := .type "range", data := .fields #[.int lo t, .int hi u, .int 1 v] }, toks := tk } := I.kept fun b o e => Heap.get?_push_of_some _ e
  refine ⟨(s.heap.push { cls := .type "range", data := .fields #[.int lo t, .int hi u, .int 1 v] }).objs.size, [(s.heap.push { cls := .type "range", data := .fields #[.int lo t, .int hi u, .int 1 v] }).objs.size], _, _, H, rfl,
    I1.kept (t' := tk) fun b o e => Heap.get?_push_of_some _ e, turn_range _ lo (hi - lo).toNat, ?_, fun b hb => ?_, q⟩
  · have e1 : lo + ((0 : Nat) : Int) * 1 = lo := by simp
    have e2 : (((hi - lo).toNat : Nat) : Int) - ((0 : Nat) : Int) = Builtin.Range.rangeSize lo hi 1 := by rw [rangeSize_one]; split <;> omega
    show IsRangeIter _ _ (lo + ((0 : Nat) : Int) * 1) ((((hi - lo).toNat : Nat) : Int) - ((0 : Nat) : Int)) 1
    rw [e1, e2]
    exact Heap.get?_push_size _ rfl
  · have e : b = (s.heap.push { cls := .type "range", data := .fields #[.int lo t, .int hi u, .int 1 v] }).objs.size := by simpa using hb
    subst e
    exact I1.fpOk (Nat.le_refl _) (I1.hok.fresh (Nat.le_refl _))
def iRng1 (ta : TA) : TI := fun σ H R => ta σ H fun vs H1 => ∃ j : Int, vs = [.int j] ∧ -(2 ^ 62) ≤ j ∧ j < 2 ^ 62 ∧ R (Itr 0 j.toNat) H1
def iRng2 (ta : TA) : TI := fun σ H R => ta σ H fun vs H1 => ∃ i j : Int, vs = [.int i, .int j] ∧ (-(2 ^ 62) ≤ i ∧ i < 2 ^ 62 ∧ -(2 ^ 62) ≤ j ∧ j < 2 ^ 62) ∧ R (Itr i (j - i).toNat) H1
theorem pi_range1 {a : Expr} {ta : TA} {p pos : Pos} (hg : Gl X "range") (hm : X.mg "range" = none) (ha : PA X [a] ta) (hs : starEach [a] X.env = [(false, eval a X.env)] := by rfl) : PI X tg (.Call (.Name "range" p) [a] [] pos) (iRng1 ta) := by
  intro pins s σ H R I h
  refine Call_ (ld_blt I hg hm boot_range (PyProof.Rows.callWith_type1 (thn (ha pos pins s σ H _ I h) fun us s1 ⟨vs, H1, I1, r1, q1⟩ => ?_) hs rfl))
  obtain ⟨j, e, q1, q2, q⟩ := q1
  subst e
  cases r1 with
  | cons r rr =>
    cases rr
    obtain ⟨t, rfl⟩ := r
    exact call_range_1 (range_it I1 (by omega) (by omega) q1 q2 (by simpa using q))
/-! ### for -/
/-- W: the invariant by the turn and a measure; N: what the body is to reach -/
def tFor (wi : TI) (g : TG) (tb : TS) : TS := fun D σ H => wi σ H fun J H1 => ∃ W : Nat → Nat → St → Hp → Prop, (∃ m, W 0 m σ H1) ∧ ∀ i m σ H, W i m σ H →
  (J.stop i H ∧ D.nx σ H) ∨ (J.go i H ∧ ∃ N : St → Hp → Prop, (∀ σ' H', N σ' H' → ∃ m', m' < m ∧ W (i + 1) m' σ' H') ∧ ∀ x H', J.yld i H x H' → g x σ H' fun σ2 H2 => tb { D with nx := N, ct := N, bk := D.nx } σ2 H2)
/-- the records at fp as they stand -/
def pinsAt (fp : List Addr) (h : Heap) : List (Addr × Obj) := fp.filterMap fun b => (h.get? b).map fun o => (b, o)
theorem mem_pinsAt {fp : List Addr} {h : Heap} {b : Addr} {o : Obj} (hb : b ∈ fp) (e : h.get? b = some o) : (b, o) ∈ pinsAt fp h := List.mem_filterMap.mpr ⟨b, hb, by rw [e]; rfl⟩
theorem of_pinsAt {fp : List Addr} {h : Heap} {p : Addr × Obj} (hp : p ∈ pinsAt fp h) : p.1 ∈ fp ∧ h.get? p.1 = some p.2 := by
  obtain ⟨b, hb, e⟩ := List.mem_filterMap.mp hp
  cases q : h.get? b with
  | none => rw [q] at e; cases e
  | some o =>
    rw [q] at e
    have e' : (b, o) = p := Option.some.inj e
    subst e'
    exact ⟨hb, q⟩
theorem Inv.pinned {pins : List (Addr × Obj)} {σ : St} {H : Hp} {s : Shared} {fp : List Addr} (I : Inv X pins σ H s) (hf : ∀ b ∈ fp, FpOk X pins H b) (ho : ∀ b ∈ fp, ∃ o, s.heap.get? b = some o ∧ ∀ v, o.data ≠ .cell v) : Inv X (pins ++ pinsAt fp s.heap) σ H s :=
  I.pins_of fun p hp => (List.mem_append.mp hp).elim (fun z => I.pin p (List.mem_append_right _ z)) fun z => by
    obtain ⟨hb, e⟩ := of_pinsAt z
    obtain ⟨f0, f1, f2, _⟩ := hf p.1 hb
    obtain ⟨o, e', d⟩ := ho p.1 hb
    rw [e] at e'; cases e'
    exact ⟨e, f0, f1, f2, d⟩
theorem Inv.unpinned {pins pl : List (Addr × Obj)} {σ : St} {H : Hp} {s : Shared} (I : Inv X (pins ++ pl) σ H s) : Inv X pins σ H s := I.pins_of fun p hp => I.pin p (List.mem_append_right _ (List.mem_append_left _ hp))
theorem ps_for {iter : Expr} {body : List Stmt} {wi : TI} {g : TG} {tb : TS} {pos : Pos} (hp : PassesOwn (model X.prog X.w) X.A X.env X.xe) (hc : X.calm = true) (hi : PI X tg iter wi) (hg : PG X tg g) (hb : PSs X body tb)
    (hs : ∀ x, foldedSetIterable iter X.env x = pure x := by intro _; rfl) : PS X (.For tg iter body [] pos) (tFor wi g tb) := by
  intro pins s σ H D I h
  refine wpAny_For (thn (hi pins s σ H _ I h) fun v s1 h1 => thn h1 fun itv s2 h2 => ?_) hs
  obtain ⟨it, fp, tn, J, H2, e, I2, T, st2, f2, W, ⟨m0, w0⟩, turn⟩ := h2
  subst e
  -- what stays true of the iterator's objects through the loop
  have stat : ∀ {H' : Hp}, (∀ b ∈ fp, H' b = none) → ∀ b ∈ fp, FpOk X pins H' b := fun hn b hb => ⟨hn b hb, (f2 b hb).2⟩
  refine codeAny_forLoop_any (fun n s' => ∃ i σ' H', Inv X pins σ' H' s' ∧ tn i s'.heap ∧ (∀ b ∈ fp, H' b = none) ∧ W i n σ' H') ?_ m0 ⟨0, σ, H2, I2, st2, fun b hb => (f2 b hb).1, w0⟩
  rintro n s3 ⟨i, σ3, H3, I3, st3, fr3, w3⟩
  rcases turn i n σ3 H3 w3 with ⟨stop, qn⟩ | ⟨go, N, hN, step⟩
  · refine wpAny_passesOwn hp (thn (T.done X rfl rfl rfl hc i pins s3 σ3 H3 X.xe I3 (stat fr3) st3 stop) fun r s4 ⟨hr, I4⟩ => ?_)
    subst hr
    exact wpAny_execs_nil ⟨σ3, H3, I4, qn⟩
  · refine wpAny_passesOwn hp (thn (T.item X rfl rfl rfl hc i pins s3 σ3 H3 X.xe I3 (stat fr3) st3 go) fun r s4 ⟨u, hr, h4⟩ => ?_)
    subst hr
    refine wpAny_passesOwn hp (thn h4 fun _ s5 ⟨x, H5, I5, r5, y5, st5, fr5⟩ => ?_)
    have I5' := I5.pinned (stat fr5) (T.obj _ _ st5)
    refine wpAny_passesOwn hp (thn (hg _ s5 σ3 H5 x u _ I5' r5 (step x H5 y5)) fun _ s6 ⟨σ6, H6, I6, q6⟩ => ?_)
    refine wpAny_passesOwn hp (thn (hb _ s6 σ6 H6 _ I6 q6) fun f s7 q7 => ?_)
    have again : ∀ {σ7 : St} {H7 : Hp}, Inv X (pins ++ pinsAt fp s5.heap) σ7 H7 s7 → N σ7 H7 → ∃ m, m < n ∧ ∃ i σ' H', Inv X pins σ' H' s7 ∧ tn i s7.heap ∧ (∀ b ∈ fp, H' b = none) ∧ W i m σ' H' := fun {σ7 H7} I7 n7 => by
      obtain ⟨m', hm, w7⟩ := hN σ7 H7 n7
      refine ⟨m', hm, i + 1, σ7, H7, I7.unpinned, T.keep _ _ _ st5 fun b hb o e => (I7.pin (b, o) (List.mem_append_right _ (List.mem_append_right _ (mem_pinsAt hb e)))).1, fun b hb => ?_, w7⟩
      obtain ⟨o, e, d⟩ := T.obj _ _ st5 b hb
      exact (I7.pin (b, o) (List.mem_append_right _ (List.mem_append_right _ (mem_pinsAt hb e)))).2.1
    cases f with
    | next => obtain ⟨σ7, H7, I7, n7⟩ := q7; exact again I7 n7
    | cont => obtain ⟨σ7, H7, I7, n7⟩ := q7; exact again I7 n7
    | brk => obtain ⟨σ7, H7, I7, q7⟩ := q7; exact ⟨σ7, H7, I7.unpinned, q7⟩
    | ret v => obtain ⟨x7, σ7, H7, I7, r7, q7⟩ := q7; exact ⟨x7, σ7, H7, I7.unpinned, r7, q7⟩
end

/-! ### the forms one uses -/
end L2

namespace L2
open PySem PySem.Spec PyProof.Rows

abbrev R2 := V → V → Hp → VK → Prop
/-- a two-place operation on values: f is binaryOp op, inplaceOp op or compareOp op -/
def OpR (X : Cx) (f : Value → Value → Sem Value) (r : R2) : Prop :=
  ∀ (pins : List (Addr × Obj)) (s : Shared) (σ : St) (H : Hp) (x y : V) (v u : Value) (Q : VK), Inv X pins σ H s → RelV x v → RelV y u → r x y H Q →
    wpAny (model X.prog X.w) X.A (f v u) (EP X pins σ Q) X.xe s
/-- a one-place operation -/
def UnR (X : Cx) (f : Value → Sem Value) (r : V → Hp → VK → Prop) : Prop :=
  ∀ (pins : List (Addr × Obj)) (s : Shared) (σ : St) (H : Hp) (x : V) (v : Value) (Q : VK), Inv X pins σ H s → RelV x v → r x H Q →
    wpAny (model X.prog X.w) X.A (f v) (EP X pins σ Q) X.xe s
/-- a call of a value that is known (a builtin, a type) with values -/
def CallR (X : Cx) (f : Value) (r : List V → Hp → VK → Prop) : Prop :=
  ∀ (pins : List (Addr × Obj)) (s : Shared) (σ : St) (H : Hp) (xs : List V) (us : List Value) (Q : VK), Inv X pins σ H s → Vals xs us → r xs H Q →
    wpAny (model X.prog X.w) X.A (call f us) (EP X pins σ Q) X.xe s
/-- a value's truth -/
def TruR (X : Cx) (r : V → Hp → (Bool → Hp → Prop) → Prop) : Prop :=
  ∀ (pins : List (Addr × Obj)) (s : Shared) (σ : St) (H : Hp) (x : V) (v : Value) (Q : Bool → Hp → Prop), Inv X pins σ H s → RelV x v → r x H Q →
    wpAny (model X.prog X.w) X.A (truthy v) (TP X pins σ Q) X.xe s

def tOp (r : R2) (ta tb : TE) : TE := fun σ H Q => ta σ H fun x H1 => tb σ H1 fun y H2 => r x y H2 Q
def tUn (r : V → Hp → VK → Prop) (ta : TE) : TE := fun σ H Q => ta σ H fun x H1 => r x H1 Q
/-- ints in, under C, and a value out -/
def rI (C : Int → Int → Prop) (g : Int → Int → V) : R2 := fun x y H Q => ∃ i j, x = .int i ∧ y = .int j ∧ C i j ∧ Q (g i j) H
def rI0 (g : Int → Int → V) : R2 := fun x y H Q => ∃ i j, x = .int i ∧ y = .int j ∧ Q (g i j) H
def rU (g : Int → V) : V → Hp → VK → Prop := fun x H Q => ∃ i, x = .int i ∧ Q (g i) H

section
variable {X : Cx} {a b c : Expr} {ta tb tc : TE} {pos : Pos}

theorem binT (ha : PE X a ta) (hb : PE X b tb) {pins : List (Addr × Obj)} {s : Shared} {σ : St} {H : Hp} {R : V → V → Hp → Prop} (I : Inv X pins σ H s)
    (h : ta σ H fun x H1 => tb σ H1 fun y H2 => R x y H2) {Q : Value → Shared → Prop} {f : Value → Value → Sem Value}
    (hf : ∀ v u s2 x y H2, Inv X pins σ H2 s2 → RelV x v → RelV y u → R x y H2 → wpAny (model X.prog X.w) X.A (f v u) Q X.xe s2) :
    wpAny (model X.prog X.w) X.A (eval a X.env) (fun v s₁ => wpAny (model X.prog X.w) X.A (eval b X.env) (fun u s₂ => wpAny (model X.prog X.w) X.A (f v u) Q X.xe s₂) X.xe s₁) X.xe s := by
  refine thn (ha pins s σ H _ I h) fun v s1 ⟨x, H1, I1, r1, q1⟩ => ?_
  refine thn (hb pins s1 σ H1 _ I1 q1) fun u s2 ⟨y, H2, I2, r2, q2⟩ => ?_
  exact hf v u s2 x y H2 I2 r1 r2 q2

theorem pe_op {op : Operator} {r : R2} (ho : OpR X (binaryOp op) r) (ha : PE X a ta) (hb : PE X b tb) : PE X (.BinOp a op b pos) (tOp r ta tb) := by
  intro pins s σ H Q I h
  exact wpAny_BinOp (binT ha hb I h fun v u s2 x y H2 I2 rx ry q => ho pins s2 σ H2 x y v u Q I2 rx ry q)
theorem pe_un {op : UnaryOp} {r : V → Hp → VK → Prop} (ho : UnR X (unaryOp op) r) (ha : PE X a ta) : PE X (.UnaryOp op a pos) (tUn r ta) := by
  intro pins s σ H Q I h
  exact UnaryOp_ (thn (ha pins s σ H _ I h) fun v s1 ⟨x, H1, I1, r1, q1⟩ => ho pins s1 σ H1 x v Q I1 r1 q1)
/-! ### ints -/
theorem opI {f : Value → Value → Sem Value} {C : Int → Int → Prop} {g : Int → Int → Int}
    (rule : ∀ (i j : Int) (t u : Tok) (s : Shared) (Q : Value → Shared → Prop) (E : Value → Shared → Prop), C i j → Q (.int (g i j) s.toks) { s with toks := s.toks + 1 } → wpAny (model X.prog X.w) X.A (f (.int i t) (.int j u)) Q E s) :
    OpR X f (rI C fun i j => .int (g i j)) := by
  intro pins s σ H x y v u Q I rx ry h
  obtain ⟨i, j, rfl, rfl, hc, q⟩ := h
  obtain ⟨t, rfl⟩ := rx
  obtain ⟨t', rfl⟩ := ry
  exact rule i j t t' s _ _ hc ⟨.int (g i j), H, I.tok _, ⟨_, rfl⟩, q⟩
theorem opI0 {f : Value → Value → Sem Value} {g : Int → Int → Int}
    (rule : ∀ (i j : Int) (t u : Tok) (s : Shared) (Q : Value → Shared → Prop) (E : Value → Shared → Prop), Q (.int (g i j) s.toks) { s with toks := s.toks + 1 } → wpAny (model X.prog X.w) X.A (f (.int i t) (.int j u)) Q E s) :
    OpR X f (rI0 fun i j => .int (g i j)) := by
  intro pins s σ H x y v u Q I rx ry h
  obtain ⟨i, j, rfl, rfl, q⟩ := h
  obtain ⟨t, rfl⟩ := rx
  obtain ⟨t', rfl⟩ := ry
  exact rule i j t t' s _ _ ⟨.int (g i j), H, I.tok _, ⟨_, rfl⟩, q⟩
theorem opB0 {f : Value → Value → Sem Value} {g : Int → Int → Bool}
    (rule : ∀ (i j : Int) (t u : Tok) (s : Shared) (Q : Value → Shared → Prop) (E : Value → Shared → Prop), Q (.bool (g i j)) s → wpAny (model X.prog X.w) X.A (f (.int i t) (.int j u)) Q E s) :
    OpR X f (rI0 fun i j => .bl (g i j)) := by
  intro pins s σ H x y v u Q I rx ry h
  obtain ⟨i, j, rfl, rfl, q⟩ := h
  obtain ⟨t, rfl⟩ := rx
  obtain ⟨t', rfl⟩ := ry
  exact rule i j t t' s _ _ ⟨.bl (g i j), H, I, rfl, q⟩

def CDiv (i j : Int) : Prop := 0 < j ∧ j < 1073741824
def CDivN (i j : Int) : Prop := j ≠ 0 ∧ j.natAbs < 1073741824
def CPow (i j : Int) : Prop := 0 ≤ j ∧ j ≤ 1000000 ∧ i.natAbs < 2 ^ 64
def CMul (i j : Int) : Prop := (-(2 ^ 64) < i ∧ i < 2 ^ 64) ∨ (-(2 ^ 64) < j ∧ j < 2 ^ 64)
theorem CMul.ok {i j : Int} (h : CMul i j) : IntMulOk i j := by
  rcases h with ⟨h1, h2⟩ | ⟨h1, h2⟩
  · exact .of_left (intBits_le_64 h1 h2)
  · exact .of_right (intBits_le_64 h1 h2)
theorem op_add : OpR X (binaryOp .Add) (rI0 fun i j => .int (i + j)) := opI0 fun _ _ _ _ _ _ _ q => add_int q
theorem op_sub : OpR X (binaryOp .Sub) (rI0 fun i j => .int (i - j)) := opI0 fun _ _ _ _ _ _ _ q => sub_int q
theorem op_mul : OpR X (binaryOp .Mult) (rI CMul fun i j => .int (i * j)) := opI fun _ _ _ _ _ _ _ hc q => mul_int q hc.ok
/-- // by a positive divisor -/
theorem op_fdiv : OpR X (binaryOp .FloorDiv) (rI CDiv fun i j => .int (i / j)) := opI fun i j _ _ _ _ _ hc q => by
  have h1 : (0 : Int) < j := hc.1
  have h2 : j < 1073741824 := hc.2
  exact floordiv_int (by omega) (by rw [Int.fdiv_eq_ediv_of_nonneg i (by omega)]; exact q) (.inl (PyProof.noPylong_small (by omega)))
/-- % by a positive divisor of any size -/
theorem op_mod : OpR X (binaryOp .Mod) (rI (fun _ j => 0 < j) fun i j => .int (i % j)) := opI fun i j _ _ _ _ _ hc q => by
  have h1 : (0 : Int) < j := hc
  exact mod_int' (by omega) (by rw [Int.fmod_eq_emod_of_nonneg i (by omega)]; exact q)
theorem op_pow : OpR X (binaryOp .Pow) (rI CPow fun i j => .int (i ^ j.toNat)) := opI fun _ _ _ _ _ _ _ hc q => pow_int_small hc.1 hc.2.1 hc.2.2 q
theorem unI {f : Value → Sem Value} {g : Int → Int}
    (rule : ∀ (i : Int) (t : Tok) (s : Shared) (Q : Value → Shared → Prop) (E : Value → Shared → Prop), Q (.int (g i) s.toks) { s with toks := s.toks + 1 } → wpAny (model X.prog X.w) X.A (f (.int i t)) Q E s) :
    UnR X f (rU fun i => .int (g i)) := by
  intro pins s σ H x v Q I rx h
  obtain ⟨i, rfl, q⟩ := h
  obtain ⟨t, rfl⟩ := rx
  exact rule i t s _ _ ⟨.int (g i), H, I.tok _, ⟨_, rfl⟩, q⟩
theorem un_neg : UnR X (unaryOp .USub) (rU fun i => .int (-i)) := unI fun _ _ _ _ _ q => neg_int q
/-! ### bools among ints: n += (a < b) -/
end

/-! ### comparisons -/
/-- the scalars that == tells apart as data does -/
def scal : V → V → Bool
  | .non, .non => true | .non, .int _ => true | .int _, .non => true | .non, .bl _ => true | .bl _, .non => true | .non, .str _ => true | .str _, .non => true
  | .int _, .int _ => true | .bl _, .bl _ => true | .str _, .str _ => true | .byt _, .byt _ => true
  | .int _, .str _ => true | .str _, .int _ => true | .bl _, .str _ => true | .str _, .bl _ => true
  | _, _ => false
def rEq : R2 := fun x y H Q => scal x y = true ∧ Q (.bl (decide (x = y))) H
def rNe : R2 := fun x y H Q => scal x y = true ∧ Q (.bl (!decide (x = y))) H

theorem dec_int {i j : Int} : decide (V.int i = V.int j) = (i == j) := by
  rw [Bool.eq_iff_iff]
  simp
theorem dec_bl {i j : Bool} : decide (V.bl i = V.bl j) = (i == j) := by
  rw [Bool.eq_iff_iff]
  simp
theorem dec_str {i j : Str} : decide (V.str i = V.str j) = (i == j) := by
  rw [Bool.eq_iff_iff]
  simp
theorem dec_byt {i j : Array UInt8} : decide (V.byt i = V.byt j) = (i.toList == j.toList) := by
  rw [Bool.eq_iff_iff]
  cases i
  cases j
  simp

section
variable {X : Cx} {a b c : Expr} {ta tb tc : TE} {pos : Pos}
theorem fin_bl {pins : List (Addr × Obj)} {σ : St} {H : Hp} {s : Shared} {Q : VK} {k k' : Bool} (I : Inv X pins σ H s) (q : Q (.bl k) H) (e : k = k') : EP X pins σ Q (.bool k') s := by
  subst e
  exact ⟨.bl k, H, I, rfl, q⟩
theorem op_eq : OpR X (compareOp .Eq) rEq := by
  intro pins s σ H x y v u Q I rx ry h
  obtain ⟨hs, q⟩ := h
  cases x with
  | non =>
    cases rx
    cases y with
    | non => cases ry; exact PySem.EqNone.eq_none_none (fin_bl I q (by simp))
    | bl j => cases ry; exact PySem.EqNone.eq_none_bool (fin_bl I q (by simp))
    | int j => obtain ⟨t', rfl⟩ := ry; exact PySem.EqNone.eq_none_int (fin_bl I q (by simp))
    | str j => obtain ⟨t', rfl⟩ := ry; exact PySem.EqNone.eq_none_str (fin_bl I q (by simp))
    | _ => exact absurd (show false = true from hs) Bool.false_ne_true
  | bl i =>
    cases rx
    cases y with
    | non => cases ry; exact PySem.EqNone.eq_bool_none (fin_bl I q (by simp))
    | bl j => cases ry; exact eq_bool (fin_bl I q dec_bl)
    | str j => obtain ⟨t', rfl⟩ := ry; exact PySem.EqMixed.eq_bool_str (fin_bl I q (by simp))
    | _ => exact absurd (show false = true from hs) Bool.false_ne_true
  | int i =>
    obtain ⟨t, rfl⟩ := rx
    cases y with
    | non => cases ry; exact PySem.EqNone.eq_int_none (fin_bl I q (by simp))
    | int j => obtain ⟨t', rfl⟩ := ry; exact eq_int (fin_bl I q dec_int)
    | str j => obtain ⟨t', rfl⟩ := ry; exact PySem.EqMixed.eq_int_str (fin_bl I q (by simp))
    | _ => exact absurd (show false = true from hs) Bool.false_ne_true
  | str i =>
    obtain ⟨t, rfl⟩ := rx
    cases y with
    | non => cases ry; exact PySem.EqNone.eq_str_none (fin_bl I q (by simp))
    | bl j => cases ry; exact PySem.EqMixed.eq_str_bool (fin_bl I q (by simp))
    | int j => obtain ⟨t', rfl⟩ := ry; exact PySem.EqMixed.eq_str_int (fin_bl I q (by simp))
    | str j => obtain ⟨t', rfl⟩ := ry; exact eq_str (fin_bl I q dec_str)
    | _ => exact absurd (show false = true from hs) Bool.false_ne_true
  | byt i =>
    obtain ⟨t, rfl⟩ := rx
    cases y with
    | byt j => obtain ⟨t', rfl⟩ := ry; exact PySem.W.eq_bytes (fin_bl I q dec_byt)
    | _ => exact absurd (show false = true from hs) Bool.false_ne_true
  | _ => cases y <;> exact absurd (show false = true from hs) Bool.false_ne_true
theorem op_ne : OpR X (compareOp .NotEq) rNe := by
  intro pins s σ H x y v u Q I rx ry h
  obtain ⟨hs, q⟩ := h
  cases x with
  | non =>
    cases rx
    cases y with
    | non => cases ry; exact PySem.EqNone.ne_none_none (fin_bl I q (by simp))
    | bl j => cases ry; exact PySem.EqNone.ne_none_bool (fin_bl I q (by simp))
    | int j => obtain ⟨t', rfl⟩ := ry; exact PySem.EqNone.ne_none_int (fin_bl I q (by simp))
    | str j => obtain ⟨t', rfl⟩ := ry; exact PySem.EqNone.ne_none_str (fin_bl I q (by simp))
    | _ => exact absurd (show false = true from hs) Bool.false_ne_true
  | bl i =>
    cases rx
    cases y with
    | non => cases ry; exact PySem.EqNone.ne_bool_none (fin_bl I q (by simp))
    | bl j => cases ry; exact ne_bool (fin_bl I q (congrArg not dec_bl))
    | str j => obtain ⟨t', rfl⟩ := ry; exact PySem.EqMixed.ne_bool_str (fin_bl I q (by simp))
    | _ => exact absurd (show false = true from hs) Bool.false_ne_true
  | int i =>
    obtain ⟨t, rfl⟩ := rx
    cases y with
    | non => cases ry; exact PySem.EqNone.ne_int_none (fin_bl I q (by simp))
    | int j => obtain ⟨t', rfl⟩ := ry; exact ne_int (fin_bl I q (congrArg not dec_int))
    | str j => obtain ⟨t', rfl⟩ := ry; exact PySem.EqMixed.ne_int_str (fin_bl I q (by simp))
    | _ => exact absurd (show false = true from hs) Bool.false_ne_true
  | str i =>
    obtain ⟨t, rfl⟩ := rx
    cases y with
    | non => cases ry; exact PySem.EqNone.ne_str_none (fin_bl I q (by simp))
    | bl j => cases ry; exact PySem.EqMixed.ne_str_bool (fin_bl I q (by simp))
    | int j => obtain ⟨t', rfl⟩ := ry; exact PySem.EqMixed.ne_str_int (fin_bl I q (by simp))
    | str j => obtain ⟨t', rfl⟩ := ry; exact ne_str (fin_bl I q (congrArg not dec_str))
    | _ => exact absurd (show false = true from hs) Bool.false_ne_true
  | byt i =>
    obtain ⟨t, rfl⟩ := rx
    cases y with
    | byt j => obtain ⟨t', rfl⟩ := ry; exact PySem.W.ne_bytes (fin_bl I q (congrArg not dec_byt))
    | _ => exact absurd (show false = true from hs) Bool.false_ne_true
  | _ => cases y <;> exact absurd (show false = true from hs) Bool.false_ne_true

theorem op_lt : OpR X (compareOp .Lt) (rI0 fun i j => .bl (decide (i < j))) := opB0 fun _ _ _ _ _ _ _ q => lt_int q
theorem op_le : OpR X (compareOp .LtE) (rI0 fun i j => .bl (decide (i ≤ j))) := opB0 fun _ _ _ _ _ _ _ q => le_int q
theorem op_ge : OpR X (compareOp .GtE) (rI0 fun i j => .bl (decide (j ≤ i))) := opB0 fun _ _ _ _ _ _ _ q => ge_int q
/-- is, is not of two objects that are tracked lists or instances -/
def isObj : HO → Bool
  | .lst _ => true
  | .ins _ _ _ => true
  | _ => false
theorem nomark (b : Expr) {op : CmpOp} (h : op ≠ .In := by decide) (h2 : op ≠ .NotIn := by decide) : behindInMarks op b = false := by
  have e1 : (op == CmpOp.In) = false := by cases op <;> first | rfl | exact absurd rfl h
  have e2 : (op == CmpOp.NotIn) = false := by cases op <;> first | rfl | exact absurd rfl h2
  cases b <;> simp [behindInMarks, e1, e2]
/-- a comparison as a value; hm: nomark b, or (for in, not in) by with_unfolding_all rfl -/
theorem pe_cmpR {op : CmpOp} {r : R2} (ho : OpR X (compareOp op) r) (ha : PE X a ta) (hb : PE X b tb) (hm : behindInMarks op b = false) : PE X (.Compare a [op] [b] pos) (tOp r ta tb) := by
  intro pins s σ H Q I h
  exact wpAny_Compare1 (binT ha hb I h fun v u s2 x y H2 I2 rx ry q => ho pins s2 σ H2 x y v u Q I2 rx ry q) hm
/-- a reading of a value as a test -/
def tTest (t : TE) : TT := fun σ H Q => t σ H fun x H' => ∃ k, x = .bl k ∧ Q k H'
theorem pt_cmpR {op : CmpOp} {r : R2} (ho : OpR X (compareOp op) r) (ha : PE X a ta) (hb : PE X b tb) (hm : behindInMarks op b = false) : PT X (.Compare a [op] [b] pos) (tTest (tOp r ta tb)) := by
  intro pins s σ H Q I h
  refine wpAny_isTrue_Compare1 (thn (ha pins s σ H _ I h) fun v s1 ⟨x, H1, I1, r1, q1⟩ => thn (hb pins s1 σ H1 _ I1 q1) fun u s2 ⟨y, H2, I2, r2, q2⟩ =>
    thn (ho pins s2 σ H2 x y v u _ I2 r1 r2 q2) fun c s3 ⟨z, H3, I3, r3, k, e, q3⟩ => ?_) hm
  subst e
  cases r3
  exact wpAny_truthy_bool ⟨H3, I3, q3⟩
/-- a op1 b op2 c -/
def tChain (r r' : R2) (ta tb tc : TE) : TE := fun σ H Q => ta σ H fun x H1 => tb σ H1 fun y H2 => r x y H2 fun z H3 => ∃ k, z = .bl k ∧
  (if k = true then tc σ H3 fun w' H4 => r' y w' H4 Q else Q (.bl false) H3)
theorem pe_chain {op op' : CmpOp} {r r' : R2} (ho : OpR X (compareOp op) r) (ho' : OpR X (compareOp op') r') (ha : PE X a ta) (hb : PE X b tb) (hc : PE X c tc)
    (hm : lastMarks [op, op'] [b, c] = false := by with_unfolding_all rfl) : PE X (.Compare a [op, op'] [b, c] pos) (tChain r r' ta tb tc) := by
  intro pins s σ H Q I h
  refine Compare_chain (thn (ha pins s σ H _ I h) fun v s1 ⟨x, H1, I1, r1, q1⟩ => chain_link (thn (hb pins s1 σ H1 _ I1 q1) fun u s2 ⟨y, H2, I2, r2, q2⟩ =>
    thn (ho pins s2 σ H2 x y v u _ I2 r1 r2 q2) fun d s3 ⟨z, H3, I3, r3, k, e, q3⟩ => ?_)) hm
  subst e
  cases r3
  refine wpAny_truthy_bool ?_
  cases k with
  | false => exact ite_ff ⟨.bl false, H3, I3, rfl, q3⟩
  | true => exact ite_tt (chain_last (thn (hc pins s3 σ H3 _ I3 q3) fun w' s4 ⟨z', H4, I4, r4, q4⟩ => ho' pins s4 σ H4 y z' u w' Q I4 r2 r4 q4))
theorem pt_chain {op op' : CmpOp} {r r' : R2} (ho : OpR X (compareOp op) r) (ho' : OpR X (compareOp op') r') (ha : PE X a ta) (hb : PE X b tb) (hc : PE X c tc)
    (hm : lastMarks [op, op'] [b, c] = false := by with_unfolding_all rfl) : PT X (.Compare a [op, op'] [b, c] pos) (tTest (tChain r r' ta tb tc)) := by
  intro pins s σ H Q I h
  refine isTrue_chain (thn (ha pins s σ H _ I h) fun v s1 ⟨x, H1, I1, r1, q1⟩ => test_link (thn (hb pins s1 σ H1 _ I1 q1) fun u s2 ⟨y, H2, I2, r2, q2⟩ =>
    thn (ho pins s2 σ H2 x y v u _ I2 r1 r2 q2) fun d s3 ⟨z, H3, I3, r3, k, e, q3⟩ => ?_)) hm
  subst e
  cases r3
  refine wpAny_truthy_bool ?_
  cases k with
  | false =>
    obtain ⟨k', e', q'⟩ := q3
    cases e'
    exact ite_ff ⟨H3, I3, q'⟩
  | true =>
    refine ite_tt (test_last (thn (hc pins s3 σ H3 _ I3 q3) fun w' s4 ⟨z', H4, I4, r4, q4⟩ => thn (ho' pins s4 σ H4 y z' u w' _ I4 r2 r4 q4) fun d' s5 ⟨z2, H5, I5, r5, k2, e2, q5⟩ => ?_))
    subst e2
    cases r5
    exact wpAny_truthy_bool ⟨H5, I5, q5⟩

/-! ### truth -/
/-- a value's truth by the abstract heap -/
def TruV (K : PySem.W.Frag) (x : V) (H : Hp) (k : Bool) : Prop :=
  match x with
  | .non => k = false
  | .bl b => k = b
  | .int i => k = (i != 0)
  | .str y => y.length ≤ sizeLine ∧ k = ((y.length : Int) != 0)
  | .byt y => y.size ≤ sizeLine ∧ k = ((y.size : Int) != 0)
  | .ref p => (∃ xs, SqL K H p xs ∧ k = !xs.isEmpty) ∨ (∃ xs, SqT K H p xs ∧ k = !xs.isEmpty) ∨ ∃ kvs, H p = some (.dK kvs) ∧ k = !kvs.isEmpty
  | _ => False
theorem isEmpty_kv {κ : Type} {kvs : List (κ × V)} {vs : List (κ × Value)} (r : KV kvs vs) : (!vs.isEmpty) = !kvs.isEmpty := by
  cases r <;> rfl
theorem isEmpty_of {xs : List V} {its : List Value} (r : Vals xs its) : (!its.toArray.isEmpty) = !xs.isEmpty := by
  cases r <;> simp
theorem line63 : (sizeLine : Nat) < 2 ^ 63 := by rw [sizeLine_eq]; decide
theorem tru_ok : TruR X (fun x H Q => ∃ k, TruV X.K x H k ∧ Q k H) := by
  intro pins s σ H x v Q I rx h
  obtain ⟨k, e, q⟩ := h
  have hl := line63
  have hs : sizeLine = 16777216 := sizeLine_eq
  cases x with
  | non =>
    cases rx
    have e' : k = false := e
    subst e'
    exact truthy_none ⟨H, I, q⟩
  | bl b =>
    cases rx
    have e' : k = b := e
    subst e'
    exact wpAny_truthy_bool ⟨H, I, q⟩
  | int i =>
    obtain ⟨t, rfl⟩ := rx
    have e' : k = (i != 0) := e
    subst e'
    exact PySem.P.truthy_int ⟨H, I, q⟩
  | str y =>
    obtain ⟨t, rfl⟩ := rx
    obtain ⟨hy, e'⟩ : y.length ≤ sizeLine ∧ k = ((y.length : Int) != 0) := e
    subst e'
    exact PySem.P.truthy_str (by omega) ⟨H, I.tok _, q⟩
  | byt y =>
    obtain ⟨t, rfl⟩ := rx
    obtain ⟨hy, e'⟩ : y.size ≤ sizeLine ∧ k = ((y.size : Int) != 0) := e
    subst e'
    exact PySem.W.truthy_bytes (by omega) ⟨H, I.tok _, q⟩
  | ref p =>
    cases rx
    have e' : (∃ xs, SqL X.K H p xs ∧ k = !xs.isEmpty) ∨ (∃ xs, SqT X.K H p xs ∧ k = !xs.isEmpty) ∨ ∃ kvs, H p = some (.dK kvs) ∧ k = !kvs.isEmpty := e
    rcases e' with ⟨xs, hx, e'⟩ | ⟨xs, hx, e'⟩ | ⟨kvs, hx, e'⟩
    · subst e'
      obtain ⟨its, r, pl, hz⟩ := I.list hx
      have hlen := r.length
      exact wpAny_truthy_list pl.isList (by simp only [List.size_toArray]; omega) ⟨H, I.tok _, by rw [isEmpty_of r]; exact q⟩
    · subst e'
      obtain ⟨its, r, pl, hz⟩ := I.tuple hx
      have hlen := r.length
      exact truthy_tuple pl (by simp only [List.size_toArray]; omega) ⟨H, I.tok _, by rw [isEmpty_of r]; exact q⟩
    · subst e'
      obtain ⟨hz, hS, vs, r, m⟩ : kvs.length ≤ sizeLine ∧ (p == sysModules) = false ∧ ∃ vs, KV kvs vs ∧ s.heap.DictOf (mixKind X.prog X.w) p vs := I.hok p _ hx
      have hlen : kvs.length = vs.length := Paired.length r
      exact wpAny_truthy_dict hS m (by omega) ⟨H, I.tok _, by rw [isEmpty_kv r]; exact q⟩
  | _ => exact (show False from e).elim
/-- any expression whose test is its value's truth (a name, a call, a subscript, a field ..: he by fun _ => rfl) -/
theorem pt_truth (ha : PE X a ta) (he : ∀ whole, isTrue a X.env whole = (do let v ← whole; standAt a.pos; holding [v] (truthy v))) :
    PT X a (fun σ H Q => ta σ H fun x H' => ∃ k, TruV X.K x H' k ∧ Q k H') := by
  intro pins s σ H Q I h
  exact isTrue_plain (thn (ha pins s σ H _ I h) fun v s1 ⟨x, H1, I1, r1, q1⟩ => tru_ok pins s1 σ H1 x v Q I1 r1 q1) (he _)

/-! ### strs and bytes -/
def PlainIxT (b : Expr) : Prop := ∀ o i, subscripted b false o i = operate [o, i] (getItem o i)
/-! ### scalar builtins, by CallR -/
theorem vals1 {x : V} {us : List Value} (r : Vals [x] us) : ∃ u, us = [u] ∧ RelV x u := by
  cases r with
  | cons r1 r2 => cases r2; exact ⟨_, rfl, r1⟩
theorem vals2 {x y : V} {us : List Value} (r : Vals [x, y] us) : ∃ u w', us = [u, w'] ∧ RelV x u ∧ RelV y w' := by
  cases r with
  | cons r1 r2 =>
    cases r2 with
    | cons r3 r4 => cases r4; exact ⟨_, _, rfl, r1, r3⟩
theorem call_max2 (hc : X.calm = true) : CallR X (.builtin "max") (fun xs H Q => ∃ i j, xs = [.int i, .int j] ∧ Q (.int (if j > i then j else i)) H) := by
  intro pins s σ H xs us Q I r h
  obtain ⟨i, j, rfl, q⟩ := h
  obtain ⟨u, w', rfl, ⟨t, rfl⟩, ⟨t', rfl⟩⟩ := vals2 r
  refine max_two_ints (I.ok.hd hc) fun h' tk k => ⟨_, H, I.kept k, ?_, q⟩
  by_cases hj : j > i
  · rw [if_pos hj, if_pos hj]; exact ⟨_, rfl⟩
  · rw [if_neg hj, if_neg hj]; exact ⟨_, rfl⟩
/-- len of a str, a bytes, a list, a tuple -/
def LenV (K : PySem.W.Frag) (x : V) (H : Hp) (n : Nat) : Prop :=
  match x with
  | .str y => y.length ≤ sizeLine ∧ n = y.length
  | .byt y => y.size ≤ sizeLine ∧ n = y.size
  | .ref p => (∃ xs, SqL K H p xs ∧ n = xs.length) ∨ ∃ xs, SqT K H p xs ∧ n = xs.length
  | _ => False
end
end L2

namespace L2
open PySem PySem.Spec PyProof.Rows

/-! ### an instance, its attributes a map -/
structure ObjM (h : Heap) (x dx C : Addr) (mA : Str → Option Value) : Prop where
  obj : h.get? x = some (PySem.W.instObj C dx)
  ns : h.Ns1 dx mA
  ne : dx ≠ x

theorem lookIn_ns {h : Heap} {dx : Addr} {mA : Str → Option Value} (n : h.Ns1 dx mA) : ∃ od, h.get? dx = some od ∧ ∀ name, PySem.W.lookIn name od = some (mA name) := by
  obtain ⟨o, es, ep, ho, hd, hk, _, hm⟩ := n
  refine ⟨o, ho, fun name => ?_⟩
  have e := hm name
  unfold nsFind findBy at e
  rw [← Array.find?_toList] at e
  unfold PySem.W.lookIn
  rw [hd]
  dsimp only
  split
  · rename_i y q
    rw [q] at e
    exact congrArg some e
  · rename_i q
    rw [q] at e
    have a : es.toList.any (·.refKey) = false := by
      rw [List.any_eq_false]
      intro y hy
      obtain ⟨z, t, hkey⟩ := hk y (Array.mem_toList_iff.mp hy)
      simp [DictEntry.refKey, hkey]
    have a' : ¬ es.toList.any (·.refKey) = true := by rw [a]; exact Bool.false_ne_true
    rw [if_neg a']
    exact congrArg some e

theorem ObjM.look {h : Heap} {x dx C : Addr} {mA : Str → Option Value} (I : ObjM h x dx C mA) : ∃ od, PySem.W.InstAt h x (PySem.W.instObj C dx) C (some od) ∧ ∀ name, PySem.W.lookIn name od = some (mA name) :=
  let ⟨od, ho, hl⟩ := lookIn_ns I.ns
  ⟨od, ⟨I.obj, rfl, rfl, ho⟩, hl⟩

section
variable {prog : Program} {w : World} {A : Around} {E : Value → Shared → Prop} {s : Shared} {K : PySem.W.Frag} {x dx C f : Addr} {mA : Str → Option Value} {name : Str} {v : Value}

theorem get_map {expr : Bool} {Q : Value → Shared → Prop} (X : K.In s.heap) (I : ObjM s.heap x dx C mA) (hg : PySem.W.plainGet K C name = true) (hh : PySem.W.hasDictIn K C = true)
    (ha : PySem.W.findIn K (.ref C) name = some none) (hv : mA name = some v) (hv' : PySem.W.handedIn v = true) (h : Q v { s with toks := s.toks + 1 }) :
    wpAny (model prog w) A (getAttr (.ref x) name expr) Q E s := by
  obtain ⟨od, J, hl⟩ := I.look
  exact PySem.W.get_value X J (PySem.W.plainGet_of hg).1 (PySem.W.findObj_own hh ha rfl (by rw [hl, hv])) hv' h

theorem get_meth {pl : Sem Bool} {Q : Value × List Value → Shared → Prop} (X : K.In s.heap) (I : ObjM s.heap x dx C mA) (hg : PySem.W.plainGet K C name = true)
    (hf : PySem.W.findIn K (.ref C) name = some (some (.ref f))) (ht : PySem.W.isFn K (.ref f) = true) (hv : mA name = none) (h : Q (.ref f, [.ref x]) s) :
    wpAny (model prog w) A (getMethod (.ref x) name pl) Q E s := by
  obtain ⟨od, J, hl⟩ := I.look
  exact PySem.W.method_fn X J (PySem.W.plainGet_of hg).1 (PySem.W.plainGet_of hg).2 hf (beq_iff_eq.mp ht) (by show (PySem.W.lookIn name od).map (·.isSome) = some false; rw [hl, hv]; rfl) h

theorem set_map {ns : List Str} {Q : Unit → Shared → Prop} (X : K.In s.heap) (I : ObjM s.heap x dx C mA)
    (hs : PySem.W.findIn K (.ref C) "__setattr__" = some (some (.builtin "object.__setattr__"))) (hp : PySem.W.plainOver K C = true) (ht : PySem.W.takerIn K C name = some none) (hh : PySem.W.hasDictIn K C = true)
    (hw : PySem.Within mA ns) (hsz : ns.length ≤ sizeLine)
    (h : ∀ h', ObjM h' x dx C (fun y => if y = name then some v else mA y) → Heap.SameBut dx s.heap h' → Q () { s with heap := h', toks := s.toks + 2 }) :
    wpAny (model prog w) A (setAttr (.ref x) name v) Q E s := by
  obtain ⟨od, J, hl⟩ := I.look
  refine PySem.W.set_plain X J hs (PySem.W.osa_open (s := { s with toks := s.toks + 1 }) (r := none) X J hp ht fun b => ?_)
  obtain ⟨cd, hc, hd'⟩ := PySem.W.any_some hh
  have hx : s.heap.get? x = some ⟨.ref C, some dx, .plain, #[]⟩ := I.obj
  refine wpAny_bind (wpAny_pure (wpAny_bind (wpAny_bind (wpAny_loadPart hx (wpAny_bind (PySem.W.Looks.here (s := { s with toks := s.toks + 1 }) (PySem.W.looks_clsIn X hc) ?_))))))
  rw [hd']
  refine wpAny_pure (a := some dx) (wpAny_bind (wpAny_pure (wpAny_bind ?_)))
  refine wpAny_nsSet1 (s := { s with toks := s.toks + 1 }) I.ns fun h' hn2 hs2 => ?_
  obtain ⟨oD, esD, epD, hoD, hdD, hcD⟩ := hn2.count (PySem.Within.cons name v hw)
  refine wpAny_bind (wpAny_lookBehind hoD (by rw [hdD]; exact pastItsLine_dict (Nat.le_trans hcD (by rw [List.length_cons]; omega))) ?_)
  exact wpAny_pure (h _ ⟨(hs2.2 _ (Ne.symm I.ne)).trans I.obj, hn2, I.ne⟩ hs2)

/-- C(..): the dict at the heap's end, the instance behind it; then its __init__ -/
theorem make_map {R : Result → Shared → Prop} {vs : List Value} {kw : List (Str × Value)} (X : K.In s.heap) (hm : PySem.W.makesIn K C = true)
    (hi : PySem.W.findIn K (.ref C) "__init__" = some (some (.ref f))) (hf : PySem.W.typeIn K (.ref f) = some (.type "function"))
    (h : codeAny (model prog w) (A.under (.builtin "type.__call__" ⟨.ref C :: vs, kw⟩)) (.call (.ref f) ⟨.ref (s.heap.objs.size + 1) :: vs, kw⟩) (PySem.W.InitBack (s.heap.objs.size + 1) R)
      { s with heap := (s.heap.push PySem.W.emptyDict).push (PySem.W.instObj C s.heap.objs.size) }) :
    codeAny (model prog w) A (.call (.ref C) ⟨vs, kw⟩) R s := by
  obtain ⟨hh, g, d, t, os⟩ := s
  exact PySem.W.make_core (PySem.W.makes_of X hm) (PySem.W.looks_findIn X hi) (fun self => PySem.W.bind_fn X self hf) (.inl rfl) h
end

/-! ### the attributes as a list of pairs -/
def putF (f : Str) (v : V) : List (Str × V) → List (Str × V)
  | [] => [(f, v)]
  | (g, x) :: r => if g = f then (g, v) :: r else (g, x) :: putF f v r
theorem lookup_putF (f g : Str) (v : V) : ∀ fs : List (Str × V), (putF f v fs).lookup g = if g = f then some v else fs.lookup g
  | [] => by
    show List.lookup g [(f, v)] = _
    by_cases h : g = f
    · have hb : (g == f) = true := beq_iff_eq.mpr h
      simp only [List.lookup, hb, if_pos h]
    · have hb : (g == f) = false := beq_eq_false_iff_ne.mpr h
      simp only [List.lookup, hb, if_neg h]
  | (k, x) :: r => by
    have ih := lookup_putF f g v r
    rw [show putF f v ((k, x) :: r) = (if k = f then (k, v) :: r else (k, x) :: putF f v r) from rfl]
    by_cases hk : k = f
    · rw [if_pos hk]
      by_cases h : g = k
      · have hb : (g == k) = true := beq_iff_eq.mpr h
        simp only [List.lookup, hb, if_pos (h.trans hk)]
      · have hb : (g == k) = false := beq_eq_false_iff_ne.mpr h
        simp only [List.lookup, hb, if_neg (fun e : g = f => h (e.trans hk.symm))]
    · rw [if_neg hk]
      by_cases h : g = k
      · have hb : (g == k) = true := beq_iff_eq.mpr h
        simp only [List.lookup, hb, if_neg (fun e : g = f => hk (h.symm.trans e))]
      · have hb : (g == k) = false := beq_eq_false_iff_ne.mpr h
        simp only [List.lookup, hb]
        exact ih
theorem keys_putF (f : Str) (v : V) : ∀ fs : List (Str × V), f ∈ (putF f v fs).map (·.1) ∧ ∀ g, g ∈ fs.map (·.1) → g ∈ (putF f v fs).map (·.1)
  | [] => ⟨by simp [putF], fun g h => by simp at h⟩
  | (k, x) :: r => by
    obtain ⟨i1, i2⟩ := keys_putF f v r
    rw [show putF f v ((k, x) :: r) = (if k = f then (k, v) :: r else (k, x) :: putF f v r) from rfl]
    by_cases hk : k = f
    · rw [if_pos hk]
      subst hk
      exact ⟨by simp, fun g h => by simpa using h⟩
    · rw [if_neg hk]
      refine ⟨?_, fun g h => ?_⟩
      · rw [List.map_cons]
        exact List.mem_cons_of_mem _ i1
      · rw [List.map_cons] at h ⊢
        rcases List.mem_cons.mp h with e | e
        · exact List.mem_cons.mpr (.inl e)
        · exact List.mem_cons_of_mem _ (i2 g e)
theorem length_putF (f : Str) (v : V) : ∀ fs : List (Str × V), (putF f v fs).length ≤ fs.length + 1
  | [] => by simp [putF]
  | (k, x) :: r => by
    have ih := length_putF f v r
    rw [show putF f v ((k, x) :: r) = (if k = f then (k, v) :: r else (k, x) :: putF f v r) from rfl]
    by_cases hk : k = f
    · rw [if_pos hk, List.length_cons, List.length_cons]; omega
    · rw [if_neg hk, List.length_cons, List.length_cons]; omega

theorem RelO.some_of {v : V} {o : Option Value} (r : RelO (some v) o) : ∃ u, o = some u ∧ RelV v u := by
  cases o with
  | none => exact (show False from r).elim
  | some u => exact ⟨u, rfl, r⟩
theorem RelO.none_of {o : Option Value} (r : RelO none o) : o = none := by
  cases o with
  | none => rfl
  | some u => exact (show False from r).elim
theorem handed_of {v : V} {u : Value} (r : RelV v u) : PySem.W.handedIn u = true := by
  cases v with
  | non => cases (show u = Value.none from r); rfl
  | bl b => cases (show u = Value.bool b from r); rfl
  | int i => obtain ⟨t, e⟩ := (show ∃ t, u = Value.int i t from r); cases e; rfl
  | str x => obtain ⟨t, e⟩ := (show ∃ t, u = Value.str x t from r); cases e; rfl
  | byt b => obtain ⟨t, e⟩ := (show ∃ t, u = Value.bytes b t from r); cases e; rfl
  | flt b => obtain ⟨t, e⟩ := (show ∃ t, u = Value.float b t from r); cases e; rfl
  | ref a => cases (show u = Value.ref a from r); rfl
  | ty n => cases (show u = Value.type n from r); rfl

section
variable {P : Program} {w : World} {H H' : Hp} {h h' : Heap} {a C dx : Addr} {fs fs' : List (Str × V)}
theorem ins_get (hok : HOk P w H h) (e : H a = some (.ins C dx fs)) : ∃ mA, ObjM h a dx C mA ∧ (∀ f, RelO (fs.lookup f) (mA f)) ∧ PySem.Within mA (fs.map (·.1)) ∧ fs.length ≤ 1000 ∧ H dx = some (.own a) := by
  obtain ⟨d, z, ne, ob, mA, n, r, q⟩ := (show ObjOk P w H h a (.ins C dx fs) from hok a _ e)
  exact ⟨mA, ⟨ob, n, ne⟩, r, q, z, d⟩
end

/-! ### what of the text a class must have -/
structure Cls (K : PySem.W.Frag) (C : Addr) : Prop where
  pg : PySem.W.plainGet K C Str.empty = true
  hd : PySem.W.hasDictIn K C = true
  po : PySem.W.plainOver K C = true
  sa : PySem.W.findIn K (.ref C) "__setattr__" = some (some (.builtin "object.__setattr__"))
theorem Cls.get {K : PySem.W.Frag} {C : Addr} (c : Cls K C) (f : Str) : PySem.W.plainGet K C f = true := c.pg
/-- no class of it has the name -/
def NoAttr (K : PySem.W.Frag) (C : Addr) (f : Str) : Prop := PySem.W.findIn K (.ref C) f = some none
theorem NoAttr.taker {K : PySem.W.Frag} {C : Addr} {f : Str} (n : NoAttr K C f) : PySem.W.takerIn K C f = some none := by
  unfold PySem.W.takerIn
  rw [show PySem.W.findIn K (.ref C) f = some none from n]
  rfl
/-- a constant of the class -/
structure Con (K : PySem.W.Frag) (C : Addr) (f : Str) (v : V) (u : Value) : Prop where
  at_ : PySem.W.findIn K (.ref C) f = some (some u)
  rel : RelV v u
  get : PySem.W.specialIn K u "__get__" = some none
  cp : PySem.W.copiedNames.contains f = false
/-- a method: a plain def of the class or of one above it -/
structure Meth (K : PySem.W.Frag) (C : Addr) (m : Str) (f : Addr) : Prop where
  at_ : PySem.W.findIn K (.ref C) m = some (some (.ref f))
  fn : PySem.W.isFn K (.ref f) = true
  kp : PySem.W.keepIn K (.ref f) = true

section
variable {X : Cx} {pins : List (Addr × Obj)} {σ : St} {H : Hp} {s : Shared} {a C dx : Addr} {fs : List (Str × V)} {f : Str} {v : V} {A : Around} {E : Value → Shared → Prop}

theorem getattr_ok {b : Bool} {Q : Value → Shared → Prop} (I : Inv X pins σ H s) (e : H a = some (.ins C dx fs)) (c : Cls X.K C) (n : NoAttr X.K C f) (l : fs.lookup f = some v)
    (h : ∀ u s', Inv X pins σ H s' → RelV v u → Q u s') : wpAny (model X.prog X.w) A (getAttr (.ref a) f b) Q E s := by
  obtain ⟨mA, O, r, _, _, _⟩ := ins_get I.hok e
  obtain ⟨u, hu, ru⟩ := RelO.some_of (v := v) (o := mA f) (by rw [← l]; exact r f)
  exact get_map I.kIn O (c.get f) c.hd n hu (handed_of ru) (h u _ (I.tok _) ru)

theorem getmeth_ok {m : Str} {g : Addr} {pl : Sem Bool} {Q : Value × List Value → Shared → Prop} (I : Inv X pins σ H s) (e : H a = some (.ins C dx fs)) (c : Cls X.K C) (k : Meth X.K C m g) (l : fs.lookup m = none)
    (h : Q (.ref g, [.ref a]) s) : wpAny (model X.prog X.w) A (getMethod (.ref a) m pl) Q E s := by
  obtain ⟨mA, O, r, _, _, _⟩ := ins_get I.hok e
  have hn : mA m = none := RelO.none_of (by rw [← l]; exact r m)
  exact get_meth I.kIn O (c.get m) k.at_ k.fn hn h

theorem setattr_ok {y : V} {u : Value} {Q : Unit → Shared → Prop} (I : Inv X pins σ H s) (e : H a = some (.ins C dx fs)) (c : Cls X.K C) (n : NoAttr X.K C f) (hl : fs.length < 1000) (ry : RelV y u)
    (h : ∀ s', Inv X pins σ (upd H a (.ins C dx (putF f y fs))) s' → Q () s') : wpAny (model X.prog X.w) A (setAttr (.ref a) f u) Q E s := by
  obtain ⟨mA, O, r, wi, _, ho⟩ := ins_get I.hok e
  have hz : (fs.map (·.1)).length ≤ sizeLine := by rw [List.length_map, sizeLine_eq]; omega
  refine set_map I.kIn O c.sa c.po n.taker c.hd wi hz fun h' O' sb => h _ ?_
  have hd : ∃ o, h'.get? dx = some o := let ⟨o, _, _, e', _⟩ := O'.ns; ⟨o, e'⟩
  refine I.write (x := a) (e := dx) (by rw [e]; exact True.intro) (.inr ho) (fun b q hb z => (sb.2 b hb).trans z) hd ?_
  refine ⟨by rw [upd_ne O.ne]; exact ho, ?_, O.ne, O'.obj, _, O'.ns, fun g => ?_, fun g hg => ?_⟩
  · have := length_putF f y fs; omega
  · show RelO ((putF f y fs).lookup g) (if g = f then some u else mA g)
    rw [lookup_putF]
    by_cases q : g = f
    · rw [if_pos q, if_pos q]; exact ry
    · rw [if_neg q, if_neg q]; exact r g
  · by_cases q : g = f
    · rw [q]; exact (keys_putF f y fs).1
    · refine (keys_putF f y fs).2 g (wi g fun z => hg ?_)
      show (if g = f then some u else mA g) = none
      rw [if_neg q]; exact z

/-- a new instance, tracked, without attributes -/
theorem Inv.made (I : Inv X pins σ H s) : Inv X pins σ (upd (upd H s.heap.objs.size (.own (s.heap.objs.size + 1))) (s.heap.objs.size + 1) (.ins C s.heap.objs.size []))
    { s with heap := (s.heap.push PySem.W.emptyDict).push (PySem.W.instObj C s.heap.objs.size) } := by
  have e1 : (s.heap.push PySem.W.emptyDict).get? s.heap.objs.size = some PySem.W.emptyDict := Heap.get?_push_size s.heap rfl
  have e2 : ((s.heap.push PySem.W.emptyDict).push (PySem.W.instObj C s.heap.objs.size)).get? (s.heap.objs.size + 1) = some (PySem.W.instObj C s.heap.objs.size) := by
    have := Heap.get?_push_size (s.heap.push PySem.W.emptyDict) (o := PySem.W.instObj C s.heap.objs.size) rfl
    rwa [Heap.size_push] at this
  have e3 : (s.heap.push PySem.W.emptyDict).Ns s.heap.objs.size (fun _ => none) := ⟨PySem.W.emptyDict, #[], _, e1, rfl, (fun e he => absurd he (by simp)), fun _ => rfl⟩
  have I1 := I.laid (a := s.heap.objs.size) (o := .own (s.heap.objs.size + 1)) (h' := s.heap.push PySem.W.emptyDict) (t' := s.toks) (fun b u q => Heap.get?_push_of_some _ q) (Nat.le_refl _) ⟨_, e1⟩
  refine I1.laid (a := s.heap.objs.size + 1) (o := .ins C s.heap.objs.size []) (t' := s.toks) (fun b u q => Heap.get?_push_of_some _ q) (Nat.le_of_eq (Heap.size_push _ _)) ?_
  have ne : s.heap.objs.size ≠ s.heap.objs.size + 1 := Nat.ne_of_lt (Nat.lt_succ_self _)
  refine ⟨by rw [upd_ne ne, upd_same], Nat.zero_le _, ne, e2, fun _ => none, (Heap.Ns1.of_empty e3).at fun o q => Heap.get?_push_of_some _ q, fun _ => True.intro, fun y hy => absurd rfl hy⟩

/-- e.f where nothing but the object is asked: through attributeBase (super) and the last hold -/
theorem attr_of {prog : Program} {w : World} {env : Env} {e : Expr} {f : Str} {pos : Pos} {s : Shared} {Q : Value → Shared → Prop} (hb : attributeBase e f env (eval e env) = eval e env)
    (h : wpAny (model prog w) A (eval e env) (fun o s₁ => wpAny (model prog w) A (getAttr o f true) Q E s₁) E s) : wpAny (model prog w) A (eval (.Attribute e f pos) env) Q E s :=
  Attribute_any_ h (by rw [arm_eval_Attribute, hb])
end

/-! ### readings and rules -/
/-- e.f, an attribute of the instance -/
def tFld (K : PySem.W.Frag) (ta : TE) (f : Str) : TE := fun σ H Q => ta σ H fun x H1 => ∃ a C dx fs v, x = .ref a ∧ H1 a = some (.ins C dx fs) ∧ Cls K C ∧ NoAttr K C f ∧ fs.lookup f = some v ∧ Q v H1
/-- e.f, a constant of the class -/
def tCon (K : PySem.W.Frag) (ta : TE) (f : Str) : TE := fun σ H Q => ta σ H fun x H1 => ∃ a C dx fs v u, x = .ref a ∧ H1 a = some (.ins C dx fs) ∧ Cls K C ∧ Con K C f v u ∧ fs.lookup f = none ∧ Q v H1
/-- e.f = value -/
def sFld (K : PySem.W.Frag) (ta tv : TE) (f : Str) : TS := fun D σ H => tv σ H fun y H1 => ta σ H1 fun x H2 => ∃ a C dx fs, x = .ref a ∧ H2 a = some (.ins C dx fs) ∧ Cls K C ∧ NoAttr K C f ∧ fs.length < 1000 ∧
  D.nx σ (upd H2 a (.ins C dx (putF f y fs)))
/-- an augmented operator on two values -/
def InOp (X : Cx) (op : Operator) (rd : V → V → Hp → VK → Prop) : Prop :=
  ∀ (pins : List (Addr × Obj)) (s : Shared) (σ : St) (H : Hp) (x y : V) (u v : Value) (Q : VK), Inv X pins σ H s → RelV x u → RelV y v → rd x y H Q → wpAny (model X.prog X.w) X.A (inplaceOp op u v) (EP X pins σ Q) X.xe s
/-- e.f op= value -/
def sFldAug (K : PySem.W.Frag) (ta tv : TE) (rd : V → V → Hp → VK → Prop) (f : Str) : TS := fun D σ H => ta σ H fun x H1 => ∃ a C dx fs v, x = .ref a ∧ H1 a = some (.ins C dx fs) ∧ Cls K C ∧ NoAttr K C f ∧ fs.lookup f = some v ∧
  tv σ H1 fun y H2 => rd v y H2 fun z H3 => ∃ dx' fs', H3 a = some (.ins C dx' fs') ∧ fs'.length < 1000 ∧ D.nx σ (upd H3 a (.ins C dx' (putF f z fs')))

section
variable {X : Cx} {o e value : Expr} {f : Str} {pos pos' tpos : Pos} {ta tv : TE}
theorem pe_fld (he : PE X e ta) (hb : attributeBase e f X.env (eval e X.env) = eval e X.env) : PE X (.Attribute e f pos) (tFld X.K ta f) := by
  intro pins s σ H Q I h
  refine attr_of hb (thn (he pins s σ H _ I h) fun u s1 ⟨x, H1, I1, rx, a, C, dx, fs, v, ex, ea, c, n, l, q⟩ => ?_)
  subst ex
  obtain rfl : u = Value.ref a := rx
  exact getattr_ok I1 ea c n l fun u' s2 I2 ru => ⟨v, H1, I2, ru, q⟩
theorem ps_fld (ha : PE X o ta) (hv : PE X value tv) (hs : swapsWith value (some (.Attribute o f pos')) pos.line X.env = pure false) : PS X (.Assign [.Attribute o f pos'] value pos) (sFld X.K ta tv f) := by
  intro pins s σ H D I h
  refine plainObj_wpAny_Assign_Attribute (thn (hv pins s σ H _ I h) fun u s1 ⟨y, H1, I1, ry, q⟩ => thn (ha pins s1 σ H1 _ I1 q) fun ov s2 ⟨x, H2, I2, rx, a, C, dx, fs, ex, ea, c, n, l, q2⟩ => ?_) hs
  subst ex
  obtain rfl : ov = Value.ref a := rx
  exact setattr_ok I2 ea c n l ry fun s3 I3 => ⟨σ, _, I3, q2⟩
def rAdd : V → V → Hp → VK → Prop := fun x y H Q => ∃ i j, x = .int i ∧ y = .int j ∧ Q (.int (i + j)) H
def rSub : V → V → Hp → VK → Prop := fun x y H Q => ∃ i j, x = .int i ∧ y = .int j ∧ Q (.int (i - j)) H
/-- what is between an instance and its method: the tree of a method call -/
theorem methcall_of {pl : Sem Bool} {m : Str} {apos : Pos} {args : List Expr} {pins : List (Addr × Obj)} {s : Shared} {σ : St} {H : Hp} {Q : Value → Shared → Prop} {te : TE} (he : PE X e te) (I : Inv X pins σ H s)
    (h : te σ H fun x H1 => ∃ a C dx fs g, x = .ref a ∧ H1 a = some (.ins C dx fs) ∧ Cls X.K C ∧ Meth X.K C m g ∧ fs.lookup m = none ∧
      ∀ s1, Inv X pins σ H1 s1 → wpAny (model X.prog X.w) X.A (callWith pos (.ref g) [.ref a] (backTo pos (starEach args X.env)) (backToKw pos (keywordEach [] X.env))) Q X.xe s1)
    (ht : eval (.Call (.Attribute e m apos) args [] pos) X.env = (do
      let ov ← eval e X.env
      standAt apos.atName
      let (f, first) ← holding [ov] (getMethod ov m pl)
      callWith pos f first (backTo pos (starEach args X.env)) (backToKw pos (keywordEach [] X.env)))) :
    wpAny (model X.prog X.w) X.A (eval (.Call (.Attribute e m apos) args [] pos) X.env) Q X.xe s := by
  refine PySem.W.methodCall_KW (pl := pl) (thn (he pins s σ H _ I h) fun u s1 ⟨x, H1, I1, rx, a, C, dx, fs, g, ex, ea, c, k, l, q⟩ => ?_) ht
  subst ex
  obtain rfl : u = Value.ref a := rx
  exact getmeth_ok I1 ea c k l (q s1 I1)
end

/-! ### isinstance -/
section
variable {X : Cx} {pins : List (Addr × Obj)} {σ : St} {H : Hp} {s : Shared} {A : Around} {E : Value → Shared → Prop} {Q : Value → Shared → Prop} {c : Value} {b : Bool}
/-- the type of a value, as the fragment's deciders take it; for an instance its class -/
inductive TyOf (K : PySem.W.Frag) (H : Hp) : V → Value → Prop where
  | non : TyOf K H .non (.type "NoneType")
  | bl (x : Bool) : TyOf K H (.bl x) (.type "bool")
  | int (i : Int) : TyOf K H (.int i) (.type "int")
  | str (x : Str) : TyOf K H (.str x) (.type "str")
  | flt (x : UInt64) : TyOf K H (.flt x) (.type "float")
  | lst {a : Addr} {xs : List V} (e : H a = some (.lst xs)) : TyOf K H (.ref a) (.type "list")
  | frz {a : Addr} {o : Obj} {xs : List V} (e : H a = some (.frz o (.lst xs))) : TyOf K H (.ref a) (.type "list")
  | tup {a : Addr} {xs : List V} (e : H a = some (.tup xs)) : TyOf K H (.ref a) (.type "tuple")
  | dK {a : Addr} {kvs : List (Key × V)} (e : H a = some (.dK kvs)) : TyOf K H (.ref a) (.type "dict")
  | dT {a : Addr} {kvs : List (List Key × V)} (e : H a = some (.dT kvs)) : TyOf K H (.ref a) (.type "dict")
  | ins {a C dx : Addr} {fs : List (Str × V)} (e : H a = some (.ins C dx fs)) (cl : Cls K C) (ha : PySem.W.findIn K (.ref C) "__class__" = some (some (.builtin "object.__class__")))
      (hn : PySem.W.specialIn K (.builtin "object.__class__") "__get__" = some (some (.builtin "getset_descriptor.__get__"))) (htk : PySem.W.takesIn K (.builtin "object.__class__") = some true)
      (hm : PySem.W.mroIn K C (.type "object") = some true) : TyOf K H (.ref a) (.ref C)
/-- isinstance(x, c) for one class c, a built-in or an own one: kitOne's answer -/
theorem isinst_ok {x : V} {u t : Value} (I : Inv X pins σ H s) (rx : RelV x u) (ty : TyOf X.K H x t) (e : PySem.W.kitOne X.K t c = some b) (h : ∀ tk, Q (.bool b) { s with toks := tk }) :
    wpAny (model X.prog X.w) A (call (.builtin "isinstance") [u, c]) Q E s := by
  cases ty with
  | non => cases (show u = Value.none from rx); exact PySem.W.kia_one PySem.W.kitx_none I.kIn True.intro e (fun z => nomatch z) h
  | bl y => cases (show u = Value.bool y from rx); exact PySem.W.kia_one PySem.W.kitx_bool I.kIn True.intro e (fun z => nomatch z) h
  | int i => obtain ⟨t, q⟩ := (show ∃ t, u = Value.int i t from rx); cases q; exact PySem.W.kia_one PySem.W.kitx_int I.kIn True.intro e (fun z => nomatch z) h
  | str y => obtain ⟨t, q⟩ := (show ∃ t, u = Value.str y t from rx); cases q; exact PySem.W.kia_one PySem.W.kitx_str I.kIn True.intro e (fun z => nomatch z) h
  | flt y => obtain ⟨t, q⟩ := (show ∃ t, u = Value.float y t from rx); cases q; exact PySem.W.kia_one PySem.W.kitx_float I.kIn True.intro e (fun z => nomatch z) h
  | @lst a xs ea =>
    cases (show u = Value.ref a from rx)
    obtain ⟨_, _, n, _, h1⟩ := (show ObjOk X.prog X.w H s.heap a (.lst xs) from I.hok a _ ea)
    exact PySem.W.kia_one PySem.W.kitx_list I.kIn ⟨_, h1, rfl⟩ e (fun z => nomatch z) h
  | @frz a ob xs ea =>
    cases (show u = Value.ref a from rx)
    obtain ⟨_, _, _, n, _, h1⟩ := (show ObjOk X.prog X.w H s.heap a (.frz ob (.lst xs)) from I.hok a _ ea)
    exact PySem.W.kia_one PySem.W.kitx_list I.kIn ⟨_, h1, rfl⟩ e (fun z => nomatch z) h
  | @tup a xs ea =>
    cases (show u = Value.ref a from rx)
    obtain ⟨_, _, _, p⟩ := (show ObjOk X.prog X.w H s.heap a (.tup xs) from I.hok a _ ea)
    obtain ⟨o, h1, h2, _⟩ := p
    exact PySem.W.kia_one PySem.W.kitx_tuple I.kIn ⟨o, h1, h2⟩ e (fun z => nomatch z) h
  | @dK a kvs ea =>
    cases (show u = Value.ref a from rx)
    obtain ⟨_, _, vs, _, p⟩ := (show ObjOk X.prog X.w H s.heap a (.dK kvs) from I.hok a _ ea)
    obtain ⟨o, es, ep, h1, h2, _⟩ := p
    exact PySem.W.kia_one PySem.W.kitx_dict I.kIn ⟨o, h1, h2.1⟩ e (fun z => nomatch z) h
  | @dT a kvs ea =>
    cases (show u = Value.ref a from rx)
    obtain ⟨_, _, xs, _, o, es, ep, h1, h2, _⟩ := (show ObjOk X.prog X.w H s.heap a (.dT kvs) from I.hok a _ ea)
    exact PySem.W.kia_one PySem.W.kitx_dict I.kIn ⟨o, h1, h2.1⟩ e (fun z => nomatch z) h
  | @ins a C dx fs ea cl ha hn htk hm =>
    cases (show u = Value.ref a from rx)
    obtain ⟨mA, O, _⟩ := ins_get I.hok ea
    obtain ⟨od, J, _⟩ := O.look
    exact PySem.W.kia_one (PySem.W.kitx_own (cl.get _) cl.hd ha hn htk hm) I.kIn J e (fun z => nomatch z) h
end
end L2

namespace L2
open PySem PySem.Spec PyProof.Rows

/-! ### room -/
structure Room (k : Nat) (A : Around) : Prop where
  hd : A.handled = none
  dp : A.depth + 3 * k + 5 < recursionLimit
  un : A.units + 16 * k + 200 < cLine
theorem Room.mono {j k : Nat} {A : Around} (r : Room k A) (h : j ≤ k) : Room j A := ⟨r.hd, by have := r.dp; omega, by have := r.un; omega⟩
theorem Room.deeper {k : Nat} {A : Around} (r : Room (k + 1) A) (env : Env) : Room k (A.deeper env) :=
  ⟨r.hd, by have := r.dp; show A.depth + 1 + 3 * k + 5 < _; omega, by have := r.un; show A.units + 3 + 16 * k + 200 < _; omega⟩
theorem make_depth {A : Around} {C : Addr} {us : List Value} {kw : List (Str × Value)} : (A.under (.builtin "type.__call__" ⟨.ref C :: us, kw⟩)).depth = A.depth + 1 := by
  first | rfl | simp [Around.under, Code.weight, Code.isCreation, Code.isGuard, Code.isCaller, Code.frames, Code.isFrame, guardIds]
theorem make_units {A : Around} {C : Addr} {us : List Value} {kw : List (Str × Value)} : (A.under (.builtin "type.__call__" ⟨.ref C :: us, kw⟩)).units = A.units + 1 := by
  first | rfl | simp [Around.under, Code.cUnits, Code.frames, Code.isFrame]
theorem Room.make {k : Nat} {A : Around} (r : Room (k + 1) A) (C : Addr) (us : List Value) (kw : List (Str × Value)) : Room k (A.under (.builtin "type.__call__" ⟨.ref C :: us, kw⟩)) :=
  ⟨r.hd, by have := r.dp; rw [make_depth]; omega, by have := r.un; rw [make_units]; omega⟩
theorem Room.depth {k : Nat} {A : Around} (r : Room k A) : A.depth < recursionLimit := by have := r.dp; omega
theorem Room.units {k : Nat} {A : Around} (r : Room k A) : A.units + 64 < cLine := by have := r.un; omega
/-! ### argument lists and displays -/
def tNil : TA := fun _ H Q => Q [] H
def tCons (ta : TE) (tr : TA) : TA := fun σ H Q => ta σ H fun x H1 => tr σ H1 fun xs H2 => Q (x :: xs) H2
section
variable {X : Cx} {e : Expr} {es : List Expr} {te : TE} {t : TA} {pos : Pos}
theorem pa_nil : PA X [] tNil := fun _ _ _ _ H Q I h => Calls.spliced_nil ⟨[], H, I, .nil, h⟩
theorem pa_cons (ha : PE X e te) (hr : PA X es t) (hs : starEach (e :: es) X.env = (false, eval e X.env) :: starEach es X.env := by rfl) : PA X (e :: es) (tCons te t) := by
  intro pos pins s σ H Q I h
  rw [hs]
  show wpAny _ _ (spliced ((false, eval e X.env) :: backTo pos (starEach es X.env))) _ _ s
  refine Calls.spliced_cons (thn (ha pins s σ H _ I h) fun u s1 ⟨x, H1, I1, r1, q1⟩ => ?_)
  exact thn (hr pos pins s1 σ H1 _ I1 q1) fun us s2 ⟨xs, H2, I2, r2, q2⟩ => ⟨x :: xs, H2, I2, .cons r1 r2, q2⟩

/-- a tuple, a list of written items -/
def tTup (t : TA) : TE := fun σ H Q => t σ H fun xs H1 => xs.length ≤ sizeLine ∧ ∀ p, H1 p = none → Q (.ref p) (upd H1 p (.tup xs))
def tLst (t : TA) : TE := fun σ H Q => t σ H fun xs H1 => xs.length ≤ sizeLine ∧ ∀ p, H1 p = none → Q (.ref p) (upd H1 p (.lst xs))
theorem pe_tup {x1} (h : PA X es t) : PE X (.Tuple es x1 pos) (tTup t) := by
  intro pins s σ H Q I hq
  refine wpAny_Tuple_spliced (thn (h pos pins s σ H _ I hq) fun us s1 ⟨xs, H1, I1, r, z, q⟩ => ⟨by rw [← r.length]; exact z, ?_⟩)
  have hf : H1 s1.heap.objs.size = none := I1.hok.fresh (Nat.le_refl _)
  refine ⟨.ref s1.heap.objs.size, upd H1 s1.heap.objs.size (.tup xs), I1.laid (t' := s1.toks) (fun b u e => Heap.get?_push_of_some _ e) (Nat.le_refl _) ?_, rfl, q _ hf⟩
  exact ⟨z, us, r, ⟨_, Heap.get?_push_size _ rfl, rfl, _, rfl⟩⟩
theorem pe_lst (h : PA X es t) : PE X (.List es pos) (tLst t) := by
  intro pins s σ H Q I hq
  refine wpAny_List_spliced (thn (h pos pins s σ H _ I hq) fun us s1 ⟨xs, H1, I1, r, z, q⟩ => ⟨by rw [← r.length]; exact z, ?_⟩)
  have hf : H1 s1.heap.objs.size = none := I1.hok.fresh (Nat.le_refl _)
  refine ⟨.ref s1.heap.objs.size, upd H1 s1.heap.objs.size (.lst xs), I1.laid (t' := s1.toks) (fun b u e => Heap.get?_push_of_some _ e) (Nat.le_refl _) ?_, rfl, q _ hf⟩
  exact ⟨z, us, 0, r, Heap.get?_push_size _ rfl⟩
end

/-! ### what a def promises -/
/-- a def's promise: the bound arguments in the parameters' order, the heap, the wanted end, the wanted exception -/
abbrev Sp := List V → Hp → VK → XK → Prop
/-- how an exception lies behind a call (file 08 gives it): the callers' frames, abstract heap and state ahead of the call, the wish, the exception, the state -/
abbrev CXT := List Env → Hp → Shared → XK → Value → Shared → Prop

/-- the state at a call -/
structure Env0 (P : Program) (w : World) (K : PySem.W.Frag) (mg : Str → Option Value) (base : Heap) (A : Around) (outer : List Env) (s : Shared) (H : Hp) : Prop where
  frames : A.frames = some outer
  mod : Mod K mg base
  bs : ∀ b o, base.get? b = some o → s.heap.get? b = some o ∧ H b = none
  bsz : base.objs.size ≤ s.heap.objs.size
  funs : s.heap.FunFrames base outer
  frf : ∀ b ∈ frs outer, H b = none
  hok : HOk P w H s.heap
  bare : AllBare s.gens
/-- a call's end -/
def CE (outer : List Env) (P : Program) (w : World) (H : Hp) (s : Shared) (Q : VK) (u : Value) (s' : Shared) : Prop :=
  ∃ v H', s'.os = s.os ∧ AllBare s'.gens ∧ Un (frs outer) [] H H' s.heap s'.heap ∧ HOk P w H' s'.heap ∧ RelV v u ∧ Q v H'
def CR (CX : CXT) (outer : List Env) (P : Program) (w : World) (H : Hp) (s : Shared) (Q : VK) (E : XK) (r : Result) (s' : Shared) : Prop :=
  match r with
  | .ok (.ret u) => CE outer P w H s Q u s'
  | .ok _ => False
  | .error e => CX outer H s E e s'
structure FnOk (P : Program) (w : World) (K : PySem.W.Frag) (mg : Str → Option Value) (base : Heap) (CX : CXT) (k : Nat) (f : Addr) (fd : FuncData) (ps : List Str) (sp : Sp) : Prop where
  len : ∀ vs H Q E, sp vs H Q E → vs.length = ps.length
  run : ∀ (A : Around) (outer : List Env) (s : Shared) (H : Hp) (args : Args) (us : List Value) (vs : List V) (Q : VK) (E : XK), Room k A → Env0 P w K mg base A outer s H → BindsTo s fd args (ps.zip us) → Vals vs us → sp vs H Q E →
    codeAny (model P w) A (.call (.ref f) args) (CR CX outer P w H s Q E) s
theorem Env0.make {P : Program} {w : World} {K : PySem.W.Frag} {mg : Str → Option Value} {base : Heap} {A : Around} {outer : List Env} {s : Shared} {H : Hp} (e : Env0 P w K mg base A outer s H) (C : Addr) (us : List Value) (kw : List (Str × Value)) :
    Env0 P w K mg base (A.under (.builtin "type.__call__" ⟨.ref C :: us, kw⟩)) outer s H := ⟨by first | exact e.frames | (simpa [Around.under, Code.envs, Code.isFrame, pushEnvs] using e.frames), e.mod, e.bs, e.bsz, e.funs, e.frf, e.hok, e.bare⟩
section
variable {X : Cx} {pins : List (Addr × Obj)} {σ : St} {H : Hp} {s s' : Shared}
/-- from a body: what a callee wants -/
theorem Inv.env0 (I : Inv X pins σ H s) : Env0 X.prog X.w X.K X.mg X.base X.A X.stack s H :=
  ⟨I.ok.frames, I.ok.mod, I.bs, Nat.le_trans I.ok.bsz I.sz, I.stack, I.stkFree, I.hok, I.bare⟩
/-- behind a call -/
theorem Inv.after {Q : VK} {u : Value} (I : Inv X pins σ H s) (h : CE X.stack X.prog X.w H s Q u s') : EP X pins σ Q u s' := by
  obtain ⟨v, H', os, bare, un, hok, r, q⟩ := h
  obtain ⟨hh, g, d, t, os'⟩ := s'
  obtain rfl : os' = s.os := os
  exact ⟨v, H', I.call (h' := hh) (g' := g) (d' := d) (t' := t) (ch := []) un hok bare (fun b z => absurd z (by simp)), r, q⟩
end

/-! ### calls -/
/-- f(..): the written arguments, then the defaults dvs; E: what is wanted of an exception -/
def tCall (sp : Sp) (dvs : List V) (E : XK) (t : TA) : TE := fun σ H Q => t σ H fun vs H1 => sp (vs ++ dvs) H1 Q E
/-- o.m(..) of an instance of the class at C -/
def tMeth (C : Addr) (m : Str) (sp : Sp) (dvs : List V) (E : XK) (ta : TE) (t : TA) : TE := fun σ H Q => ta σ H fun x H1 => ∃ a dx fs, x = .ref a ∧ H1 a = some (.ins C dx fs) ∧ fs.lookup m = none ∧
  t σ H1 fun vs H2 => sp (x :: (vs ++ dvs)) H2 Q E
/-- C(..): a new instance and its dict, then __init__ -/
def tMake (C : Addr) (sp : Sp) (dvs : List V) (E : XK) (t : TA) : TE := fun σ H Q => t σ H fun vs H1 => ∀ x dx, H1 x = none → H1 dx = none → dx ≠ x →
  sp (.ref x :: (vs ++ dvs)) (upd (upd H1 dx (.own x)) x (.ins C dx [])) (fun v H2 => v = .non ∧ Q (.ref x) H2) E

/-- how the parameters are bound: us the positional arguments, kw the keywords' values by name, ds the defaults that fill up -/
def Binds (K : PySem.W.Frag) (fd : FuncData) (ps : List Str) (ds : List Value) : Prop :=
  ∀ (s : Shared) (us : List Value), K.In s.heap → (us ++ ds).length = ps.length → BindsTo s fd ⟨us, []⟩ (ps.zip (us ++ ds))
/-- every parameter is given -/
theorem Binds.all {K : PySem.W.Frag} {fd : FuncData} {ps : List Str} (h : ∀ us : List Value, us.length = ps.length → bindArgs fd ⟨us, []⟩ = pure (ps.zip us)) : Binds K fd ps [] := fun s us _ hl => by
  rw [List.append_nil] at hl ⊢
  exact .of_eq (h us hl)

/-- an exception of a callee reaches what this body wants of exceptions -/
def Passes (CX : CXT) (X : Cx) (E : XK) : Prop := ∀ (pins : List (Addr × Obj)) (σ : St) (H : Hp) (s : Shared) (e : Value) (s' : Shared), Inv X pins σ H s → CX X.stack H s E e s' → X.xe e s'

section
variable {X : Cx} {CX : CXT} {k : Nat} {f C : Addr} {fd : FuncData} {ps : List Str} {sp : Sp} {dvs : List V} {ds : List Value} {E : XK} {x m : Str} {p pos apos : Pos} {e o : Expr} {es : List Expr} {ta : TE} {t : TA}

/-- the callee runs -/
theorem run_fn {pins : List (Addr × Obj)} {σ : St} {H : Hp} {s : Shared} {Q : VK} {us : List Value} {vs : List V} (F : FnOk X.prog X.w X.K X.mg X.base CX k f fd ps sp) (hr : Room k X.A) (hb : Binds X.K fd ps ds) (hd : Vals dvs ds) (hx : Passes CX X E)
    (I : Inv X pins σ H s) (r : Vals vs us) (h : sp (vs ++ dvs) H Q E) : wpAny (model X.prog X.w) X.A (call (.ref f) us) (EP X pins σ Q) X.xe s := by
  have r2 : Vals (vs ++ dvs) (us ++ ds) := r.append hd
  have hl : (us ++ ds).length = ps.length := by rw [← r2.length]; exact F.len _ _ _ _ h
  refine wpAny_call (codeAny_mono (F.run X.A X.stack s H ⟨us, []⟩ (us ++ ds) (vs ++ dvs) Q E hr I.env0 (hb s us I.kIn hl) r2 h) fun r s' hq => ?_)
  cases r with
  | error e => exact hx pins σ H s e s' I hq
  | ok fl =>
    cases fl with
    | ret u => exact I.after hq
    | next => exact False.elim hq
    | brk => exact False.elim hq
    | cont => exact False.elim hq

theorem pe_call (F : FnOk X.prog X.w X.K X.mg X.base CX k f fd ps sp) (hr : Room k X.A) (hg : Gl X x) (hm : X.mg x = some (.ref f)) (hk : PySem.W.keepIn X.K (.ref f) = true) (hb : Binds X.K fd ps ds) (hd : Vals dvs ds) (hx : Passes CX X E)
    (ha : PA X (e :: es) t) (hdb : (x == ("__debug__" : Str)) = false := by decide) (he : starEach (e :: es) X.env = (false, eval e X.env) :: starEach es X.env := by rfl) (hpl : (backTo pos (starEach es X.env)).any (·.1) = false := by rfl) :
    PE X (.Call (.Name x p) (e :: es) [] pos) (tCall sp dvs E t) := by
  intro pins s σ H Q I h
  refine wpAny_Call_Name_kw (ld_glob I hg hm ?_ hdb)
  refine PySem.W.callWith_K (h₀ := X.base) I.ok.mod.kin hk (thn (ha pos pins s σ H _ I h) fun us s1 ⟨vs, H1, I1, r, q⟩ => ⟨I1.kIn, ?_⟩) he hpl
  exact run_fn F hr hb hd hx I1 r q
/-- o.m(e, ..) -/
theorem pe_meth {pl : Sem Bool} (he : PE X o ta) (c : Cls X.K C) (hm : Meth X.K C m f) (F : FnOk X.prog X.w X.K X.mg X.base CX k f fd ps sp) (hr : Room k X.A) (hb : Binds X.K fd ps ds) (hd : Vals dvs ds) (hx : Passes CX X E) (ha : PA X (e :: es) t)
    (hst : starEach (e :: es) X.env = (false, eval e X.env) :: starEach es X.env := by rfl) (hpl : (backTo pos (starEach es X.env)).any (·.1) = false := by rfl)
    (ht : eval (.Call (.Attribute o m apos) (e :: es) [] pos) X.env = (do
      let ov ← eval o X.env
      standAt apos.atName
      let (f, first) ← holding [ov] (getMethod ov m pl)
      callWith pos f first (backTo pos (starEach (e :: es) X.env)) (backToKw pos (keywordEach [] X.env))) := by rfl) :
    PE X (.Call (.Attribute o m apos) (e :: es) [] pos) (tMeth C m sp dvs E ta t) := by
  intro pins s σ H Q I h
  refine PySem.W.methodCall_KW (pl := pl) (thn (he pins s σ H _ I h) fun u s1 ⟨x, H1, I1, rx, a, dx, fs, ex, ea, l, q⟩ => ?_) ht
  subst ex
  obtain rfl : u = Value.ref a := rx
  refine getmeth_ok I1 ea c hm l ?_
  refine PySem.W.callWith_K (first := [.ref a]) (h₀ := X.base) I.ok.mod.kin hm.kp (thn (ha pos pins s1 σ H1 _ I1 q) fun us s2 ⟨vs, H2, I2, r, q2⟩ => ⟨I2.kIn, ?_⟩) hst hpl
  exact run_fn (us := .ref a :: us) (vs := .ref a :: vs) F hr hb hd hx I2 (.cons rfl r) q2
/-- what a class must have to be made -/
structure Mk (K : PySem.W.Frag) (C f : Addr) : Prop where
  makes : PySem.W.makesIn K C = true
  init : PySem.W.findIn K (.ref C) "__init__" = some (some (.ref f))
  fn : PySem.W.isFn K (.ref f) = true
  kp : PySem.W.keepIn K (.ref C) = true

theorem run_make {pins : List (Addr × Obj)} {σ : St} {H : Hp} {s : Shared} {Q : VK} {us : List Value} {vs : List V} (M : Mk X.K C f) (F : FnOk X.prog X.w X.K X.mg X.base CX k f fd ps sp) (hr : Room (k + 1) X.A) (hb : Binds X.K fd ps ds) (hd : Vals dvs ds)
    (hx : Passes CX X E) (I : Inv X pins σ H s) (r : Vals vs us)
    (h : ∀ x dx, H x = none → H dx = none → dx ≠ x → sp (.ref x :: (vs ++ dvs)) (upd (upd H dx (.own x)) x (.ins C dx [])) (fun v H2 => v = .non ∧ Q (.ref x) H2) E) :
    wpAny (model X.prog X.w) X.A (call (.ref C) us) (EP X pins σ Q) X.xe s := by
  have hq := h (s.heap.objs.size + 1) s.heap.objs.size (I.hok.fresh (Nat.le_succ _)) (I.hok.fresh (Nat.le_refl _)) (Nat.ne_of_lt (Nat.lt_succ_self _))
  have I2 := Inv.made (C := C) I
  have r2 : Vals (V.ref (s.heap.objs.size + 1) :: (vs ++ dvs)) (Value.ref (s.heap.objs.size + 1) :: (us ++ ds)) := .cons rfl (r.append hd)
  have hl : (Value.ref (s.heap.objs.size + 1) :: us ++ ds).length = ps.length := by
    have e := r2.length
    rw [F.len _ _ _ _ hq] at e
    exact e.symm
  refine wpAny_call (make_map (f := f) I.kIn M.makes M.init (beq_iff_eq.mp M.fn) (codeAny_mono (F.run _ X.stack _ _ ⟨Value.ref (s.heap.objs.size + 1) :: us, []⟩ (Value.ref (s.heap.objs.size + 1) :: (us ++ ds)) _ _ E (hr.make C us [])
    (I2.env0.make C us []) (hb _ (Value.ref (s.heap.objs.size + 1) :: us) I2.kIn hl) r2 hq) fun r s' hq' => ?_))
  cases r with
  | error e => exact hx pins σ _ _ e s' I2 hq'
  | ok fl =>
    cases fl with
    | ret u =>
      obtain ⟨v, H', I3, rv, ev, q3⟩ := I2.after hq'
      subst ev
      exact ⟨rv, ⟨V.ref (s.heap.objs.size + 1), H', I3, rfl, q3⟩⟩
    | next => exact False.elim hq'
    | brk => exact False.elim hq'
    | cont => exact False.elim hq'
theorem pe_make (M : Mk X.K C f) (F : FnOk X.prog X.w X.K X.mg X.base CX k f fd ps sp) (hr : Room (k + 1) X.A) (hg : Gl X x) (hm : X.mg x = some (.ref C)) (hb : Binds X.K fd ps ds) (hd : Vals dvs ds) (hx : Passes CX X E)
    (ha : PA X (e :: es) t) (hdb : (x == ("__debug__" : Str)) = false := by decide) (he : starEach (e :: es) X.env = (false, eval e X.env) :: starEach es X.env := by rfl) (hpl : (backTo pos (starEach es X.env)).any (·.1) = false := by rfl) :
    PE X (.Call (.Name x p) (e :: es) [] pos) (tMake C sp dvs E t) := by
  intro pins s σ H Q I h
  refine wpAny_Call_Name_kw (ld_glob I hg hm ?_ hdb)
  refine PySem.W.callWith_K (h₀ := X.base) I.ok.mod.kin M.kp (thn (ha pos pins s σ H _ I h) fun us s1 ⟨vs, H1, I1, r, q⟩ => ⟨I1.kIn, ?_⟩) he hpl
  exact run_make M F hr hb hd hx I1 r q
end

/-! ### keywords -/
/-- the values of the keywords, from the left -/
def PK (X : Cx) (kws : List Keyword) (t : TA) : Prop :=
  ∀ (pos : Pos) (pins : List (Addr × Obj)) (s : Shared) (σ : St) (H : Hp) (Q : List V → Hp → Prop), Inv X pins σ H s → t σ H Q → wpAny (model X.prog X.w) X.A (evalAll ((backToKw pos (keywordEach kws X.env)).map (·.2))) (AP X pins σ Q) X.xe s
section
variable {X : Cx} {CX : CXT} {k : Nat} {f C : Addr} {fd : FuncData} {ps ks : List Str} {sp : Sp} {E : XK} {x m : Str} {p pos apos kpos : Pos} {e o : Expr} {es : List Expr} {kws : List Keyword} {te ta : TE} {t tk : TA} {nm : Option Str}
/-- how a call with keywords binds: g puts the positional values us and the keywords' values ws (names ks) in the parameters' order, defaults among them -/
structure KBinds (K : PySem.W.Frag) (fd : FuncData) (ps ks : List Str) (g : List Value → List Value → List Value) (gV : List V → List V → List V) : Prop where
  to : ∀ (s : Shared) (us ws : List Value), K.In s.heap → (g us ws).length = ps.length → BindsTo s fd ⟨us, ks.zip ws⟩ (ps.zip (g us ws))
  rel : ∀ {vs : List V} {us : List Value} {zs : List V} {ws : List Value}, Vals vs us → Vals zs ws → Vals (gV vs zs) (g us ws)
def tCallK (sp : Sp) (gV : List V → List V → List V) (E : XK) (t tk : TA) : TE := fun σ H Q => t σ H fun vs H1 => tk σ H1 fun zs H2 => sp (gV vs zs) H2 Q E
variable {g : List Value → List Value → List Value} {gV : List V → List V → List V}
end

/-! ### a def's body keeps its promise -/
/-- names: the parameters first -/
structure FnScope (N P : List Str) (sc : Scope) : Prop where
  kind : sc.kind = .function
  co : sc.isCoroutine = false
  gen : sc.isGenerator = false
  nd : N.Nodup
  pre : N.take P.length = P
  par : ∀ x ∈ P, sc.names.lookup x = some .local ∨ sc.names.lookup x = some .cell
  nofree : ∀ y ∈ sc.names, y.2 ≠ .free

theorem bindL_out {kindOf : Str → Option NameKind} {x : Str} : ∀ {binds : List (Str × Value)} {m : Str → Option Value}, (∀ v, (x, v) ∉ binds) → bindL kindOf binds m x = m x
  | [], _, _ => rfl
  | (n, v) :: r, m, h => by
    unfold bindL
    rw [bindL_out fun w hw => h w (List.mem_cons_of_mem _ hw)]
    split
    · have : x ≠ n := by rintro rfl; exact h v List.mem_cons_self
      simp [this]
    · rfl
theorem bindC_out {kindOf : Str → Option NameKind} {x : Str} : ∀ {binds : List (Str × Value)} {m : Str → Option Value}, (∀ v, (x, v) ∉ binds) → bindC kindOf binds m x = m x
  | [], _, _ => rfl
  | (n, v) :: r, m, h => by
    unfold bindC
    rw [bindC_out fun w hw => h w (List.mem_cons_of_mem _ hw)]
    split
    · rfl
    · have : x ≠ n := by rintro rfl; exact h v List.mem_cons_self
      simp [this]
theorem bindL_get {kindOf : Str → Option NameKind} {x : Str} {v : Value} : ∀ {P : List Str} {vs : List Value} {i : Nat} {m : Str → Option Value}, P.Nodup → P[i]? = some x → vs[i]? = some v → kindOf x = some .local →
    bindL kindOf (P.zip vs) m x = some v
  | [], _, _, _, _, h, _, _ => by simp at h
  | _ :: _, [], _, _, _, _, h, _ => by simp at h
  | p :: P, w :: vs, 0, m, nd, h1, h2, hk => by
    simp at h1 h2; subst h1; subst h2
    show bindL kindOf ((p, w) :: P.zip vs) m p = _
    unfold bindL
    rw [bindL_out fun v hv => (List.nodup_cons.mp nd).1 (List.of_mem_zip hv).1, if_pos hk]
    simp
  | p :: P, w :: vs, i + 1, m, nd, h1, h2, hk => by
    show bindL kindOf ((p, w) :: P.zip vs) m x = _
    unfold bindL
    exact bindL_get (i := i) (List.nodup_cons.mp nd).2 (by simpa using h1) (by simpa using h2) hk
theorem bindC_get {kindOf : Str → Option NameKind} {x : Str} {v : Value} : ∀ {P : List Str} {vs : List Value} {i : Nat} {m : Str → Option Value}, P.Nodup → P[i]? = some x → vs[i]? = some v → kindOf x ≠ some .local →
    bindC kindOf (P.zip vs) m x = some v
  | [], _, _, _, _, h, _, _ => by simp at h
  | _ :: _, [], _, _, _, _, h, _ => by simp at h
  | p :: P, w :: vs, 0, m, nd, h1, h2, hk => by
    simp at h1 h2; subst h1; subst h2
    show bindC kindOf ((p, w) :: P.zip vs) m p = _
    unfold bindC
    rw [bindC_out fun v hv => (List.nodup_cons.mp nd).1 (List.of_mem_zip hv).1, if_neg hk]
    simp
  | p :: P, w :: vs, i + 1, m, nd, h1, h2, hk => by
    show bindC kindOf ((p, w) :: P.zip vs) m x = _
    unfold bindC
    exact bindC_get (i := i) (List.nodup_cons.mp nd).2 (by simpa using h1) (by simpa using h2) hk

/-- the names' values at the entry -/
def start (N : List Str) (vs : List V) : St := vs.map some ++ List.replicate (N.length - vs.length) none

/-- the context of a def's body, at its entry; an exception leaves the frame, then lies as CX says -/
def cxOf (CX : CXT) (P : Program) (w : World) (K : PySem.W.Frag) (mg : Str → Option Value) (base : Heap) (N : List Str) (qual : Str) (scope : Scope) (f : Addr) (cd : Value) (A : Around) (outer : List Env) (s : Shared) (H : Hp) (E : XK) : Cx where
  prog := P
  w := w
  K := K
  mg := mg
  base := base
  A := A.deeper (envOfC qual scope s.heap.objs.size f cd)
  N := N
  s₀ := s
  H₀ := H
  env := envOfC qual scope s.heap.objs.size f cd
  outer := outer
  stack := envOfC qual scope s.heap.objs.size f cd :: outer
  ex := []
  calm := true
  fn := fun _ => true
  pn := []
  xe := fun e s' => wpAny (model P w) (A.deeper (envOfC qual scope s.heap.objs.size f cd)) (leaving (envOfC qual scope s.heap.objs.size f cd) e) (fun _ s'' => CX outer H s E e s'') (fun e' s'' => CX outer H s E e' s'') s'

theorem cell_has {sc : Scope} {n : Nat} {x : Str} (h : sc.names.lookup x = some .cell) : ∃ c, (cellsFrom n sc.names []).lookup x = some c := by
  have q := PySem.W.cellsFrom_some sc.names n [] (.inl h)
  exact Option.isSome_iff_exists.mp q

theorem inv_start {CX : CXT} {P : Program} {w : World} {K : PySem.W.Frag} {mg : Str → Option Value} {base : Heap} {N ps : List Str} {qual : Str} {scope : Scope} {f : Addr} {cd : Value} {A : Around} {outer : List Env} {s s1 : Shared} {H : Hp} {E : XK} {us : List Value} {vs : List V}
    (S : FnScope N ps scope) (hd : A.handled = none) (e0 : Env0 P w K mg base A outer s H) (hl : vs.length = ps.length) (r : Vals vs us)
    (x : InCallC s s.heap.objs.size (bindL (envOfC qual scope s.heap.objs.size f cd).kindOf (ps.zip us) fun _ => none) (cellsFrom (s.heap.objs.size + 1) scope.names []) (bindC (envOfC qual scope s.heap.objs.size f cd).kindOf (ps.zip us) fun _ => none) s1) :
    Inv (cxOf CX P w K mg base N qual scope f cd A outer s H E) [] (start N vs) H s1 := by
  have hpl : ps.length ≤ N.length := by have := congrArg List.length S.pre; rw [List.length_take] at this; omega
  obtain ⟨h1, tk, rfl, hk⟩ := x.done
  have noA : ∀ b : Addr, b ∉ (cxOf CX P w K mg base N qual scope f cd A outer s H E).ex := fun b z => absurd (show b ∈ ([] : List Addr) from z) (by simp)
  refine ⟨⟨e0.mod, S.kind, rfl, rfl, Nat.le_refl _, fun y z c h1 h2 => ?_, fun y hy => ?_, fun y c _ h => ?_, fun _ => hd, Around.frames_deeper e0.frames, .inr ⟨rfl, rfl⟩, fun b z => absurd z (noA b), e0.bs, e0.bsz, fun b _ _ => noA b, fun b z => absurd z (noA b), e0.funs, e0.frf⟩,
    rfl, e0.bare, Un.kept hk, ⟨_, x.toInCall.ns, fun i y v h1 h2 h3 => ?_⟩, fun y c h => ⟨_, x.cell y c h⟩, e0.hok.fresh (Nat.le_refl _), fun y c h => ?_, fun p hp => absurd (show p ∈ ([] : List (Addr × Obj)) from hp) (by simp), e0.hok.kept hk, ?_⟩
  · exact name_of_addr x.apart (PySem.mem_of_lookup h1) (PySem.mem_of_lookup h2)
  · have hy : scope.names.lookup y = some .cell ∨ scope.names.lookup y = some .free := hy
    rcases hy with hy | hy
    · exact cell_has hy
    · exact absurd rfl (S.nofree _ (PySem.mem_of_lookup hy))
  · exact Nat.le_of_lt (x.above y c (PySem.mem_of_lookup h))
  · have hi : i < vs.length := by
      unfold start at h2
      by_cases hi : i < vs.length
      · exact hi
      · rw [List.getElem?_append_right (by simpa using hi)] at h2
        rw [List.getElem?_replicate] at h2
        split at h2 <;> cases h2
    have ha : vs[i]? = some v := by
      unfold start at h2
      rw [List.getElem?_append_left (by simpa using hi), List.getElem?_map] at h2
      cases e : vs[i]? with
      | none => rw [e] at h2; cases h2
      | some a => rw [e] at h2; cases h2; rfl
    obtain ⟨u, hu, rv⟩ := r.get ha
    have hp : ps[i]? = some y := by
      rw [← S.pre, List.getElem?_take_of_lt (by omega)]; exact h1
    have ndP : ps.Nodup := by rw [← S.pre]; exact S.nd.sublist (List.take_sublist _ _)
    refine ⟨u, rv, ?_⟩
    rcases S.par y (List.mem_of_getElem? hp) with k | k
    · exact .inl ⟨k, bindL_get ndP hp hu k⟩
    · obtain ⟨c, e⟩ := cell_has (n := s.heap.objs.size + 1) k
      refine .inr ⟨.inl k, c, e, ?_⟩
      have q := x.cell y c e
      rw [bindC_get ndP hp hu (by show scope.names.lookup y ≠ _; rw [k]; decide)] at q
      exact q
  · exact e0.hok.fresh (Nat.le_of_lt (x.above y c (PySem.mem_of_lookup h)))
  · unfold start
    show _ = N.length
    rw [List.length_append, List.length_map, List.length_replicate]
    omega

/-- THE RULE: a def (or a method) of the text, by its body. The body's reading t is chosen for each entry; it is run at the parameters' values -/
theorem fn_of {CX : CXT} {P : Program} {w : World} {K : PySem.W.Frag} {mg : Str → Option Value} {base : Heap} {k : Nat} {f : Addr} {name qual : Str} {params : Arguments} {body : List Stmt} {scope : Scope} {dV kV doc pm cdv ct oc : Value} {an od : Option Addr}
    {osl : Array (Option Value)} {N ps : List Str} {sp : Sp} (lk : K.lookup f = some ⟨oc, od, .func (PySem.W.fnOf name qual params body scope dV kV doc pm an cdv ct), osl⟩) (hcd : PySem.W.codeIn K cdv qual = true) (S : FnScope N ps scope)
    (len : ∀ vs H Q E, sp vs H Q E → vs.length = ps.length)
    (hbody : ∀ (A : Around) (outer : List Env) (s : Shared) (H : Hp) (vs : List V) (Q : VK) (E : XK), Room k (A.deeper (envOfC qual scope s.heap.objs.size f cdv)) → sp vs H Q E →
      ∃ t, PSs (cxOf CX P w K mg base N qual scope f cdv A outer s H E) body t ∧ t { nx := fun _ H' => Q .non H', rt := Q } (start N vs) H) :
    FnOk P w K mg base CX (k + 1) f (PySem.W.fnOf name qual params body scope dV kV doc pm an cdv ct) ps sp := by
  refine ⟨len, fun A outer s H args us vs Q E hr e0 hb r hsp => ?_⟩
  have hl := len _ _ _ _ hsp
  have KX : K.In s.heap := e0.mod.kin.keeps fun b o e => (e0.bs b o e).1
  have lim : s.heap.NoLimit := e0.mod.nolimit.keeps fun b o e => (e0.bs b o e).1
  have hkind : ∀ y ∈ ps.zip us, scope.names.lookup y.1 = some .local ∨ (scope.names.lookup y.1 = some .cell ∧ ((cellsFrom (s.heap.objs.size + 1) scope.names []).lookup y.1).isSome = true) := fun ⟨n, v⟩ hy => by
    rcases S.par n (List.of_mem_zip hy).1 with q | q
    · exact .inl q
    · exact .inr ⟨q, PySem.W.cellsFrom_some _ _ _ (.inl q)⟩
  refine codeAny_call_function hr.depth (KX _ _ lk) rfl S.co S.gen rfl (PySem.W.codeRec_of KX hcd) (hb _ _ _ _ ?_)
  refine wpAny_newFunctionEnv_cells S.kind hkind fun env he s1 x => ?_
  subst he
  refine ⟨lim.keeps x.toInCall.keep, codeAny_func ?_⟩
  obtain ⟨t, ht, hq⟩ := hbody A outer s H vs Q E (hr.deeper _) hsp
  have I : Inv (cxOf CX P w K mg base N qual scope f cdv A outer s H E) [] (start N vs) H s1 := inv_start S hr.hd e0 hl r x
  refine wpAny_mono (ht [] s1 (start N vs) H _ I hq) (fun fl s' hs => ?_) fun e s' hs => hs
  have fin : ∀ {σ' : St} {H' : Hp} {v : V} {u : Value}, Inv (cxOf CX P w K mg base N qual scope f cdv A outer s H E) [] σ' H' s' → RelV v u → Q v H' → CE outer P w H s Q u s' :=
    fun {σ' H' v u} J rv q => ⟨v, H', J.os, J.bare, J.base, J.hok, rv, q⟩
  cases fl with
  | ret u =>
    obtain ⟨v, σ', H', J, rv, q⟩ := hs
    exact fin J rv q
  | next =>
    obtain ⟨σ', H', J, q⟩ := hs
    exact fin (v := V.non) (u := Value.none) J rfl q
  | brk =>
    obtain ⟨_, _, _, q⟩ := hs
    exact False.elim q
  | cont =>
    obtain ⟨_, _, _, q⟩ := hs
    exact False.elim q
end L2

namespace L2
open PySem PySem.Spec PyProof.Rows
section
variable {X : Cx} {x : Str} {p pos : Pos} {e : Expr} {es : List Expr} {t : TA} {id T : String} {r : List V → Hp → VK → Prop}

def tCB (r : List V → Hp → VK → Prop) (t : TA) : TE := fun σ H Q => t σ H fun vs H1 => r vs H1 Q
/-- f(e, ..), f a built-in function -/
theorem pe_callB (hc : CallR X (.builtin id) r) (hg : Gl X x) (hm : X.mg x = none) (hv : bootBuiltins x = some (.builtin id)) (ha : PA X (e :: es) t) (hn : x ≠ "__name__" := by decide) (hdb : (x == ("__debug__" : Str)) = false := by decide)
    (he : starEach (e :: es) X.env = (false, eval e X.env) :: starEach es X.env := by rfl) (hpl : (backTo pos (starEach es X.env)).any (·.1) = false := by rfl) : PE X (.Call (.Name x p) (e :: es) [] pos) (tCB r t) := by
  intro pins s σ H Q I h
  refine wpAny_Call_Name_kw (ld_blt I hg hm hv ?_ hn hdb)
  exact PyProof.Rows.callWith_builtin1 (thn (ha pos pins s σ H _ I h) fun us s1 ⟨vs, H1, I1, r1, q1⟩ => hc pins s1 σ H1 vs us Q I1 r1 q1) he hpl
/-- T(e, ..), T a built-in type -/
theorem pe_callTy (hc : CallR X (.type T) r) (hg : Gl X x) (hm : X.mg x = none) (hv : bootBuiltins x = some (.type T)) (ha : PA X (e :: es) t) (hn : x ≠ "__name__" := by decide) (hdb : (x == ("__debug__" : Str)) = false := by decide)
    (he : starEach (e :: es) X.env = (false, eval e X.env) :: starEach es X.env := by rfl) (hpl : (backTo pos (starEach es X.env)).any (·.1) = false := by rfl) : PE X (.Call (.Name x p) (e :: es) [] pos) (tCB r t) := by
  intro pins s σ H Q I h
  refine wpAny_Call_Name_kw (ld_blt I hg hm hv ?_ hn hdb)
  exact PyProof.Rows.callWith_type1 (thn (ha pos pins s σ H _ I h) fun us s1 ⟨vs, H1, I1, r1, q1⟩ => hc pins s1 σ H1 vs us Q I1 r1 q1) he hpl
end
end L2

namespace HT
open PySem PyProof.Rows

/-- t < u of tuples of ints -/
def lexLt : List Int → List Int → Bool
  | [], [] => false
  | [], _ :: _ => true
  | _ :: _, [] => false
  | x :: xs, y :: ys => if x = y then lexLt xs ys else decide (x < y)
section
open PySem.SeqAt
open PySem.AutoSeq1 (wpAny_loadPart')
open PySem.MeetsSeq PySem.MeetsSeq2 PySem.MeetsSeq3

end

section
variable {prog : Program} {w : World} {A : Around} {E : Value → Shared → Prop} {s : Shared}

/-! ### t[a:b], not the whole -/
/-- a slice's bound as a place among n (d where it is left out) -/
def sIx (n d : Nat) : Option Int → Nat
  | none => d
  | some v => if v < 0 then (v + (n : Int)).toNat else min v.toNat n
theorem sIx_none (n d : Nat) : sIx n d none = d := rfl
theorem sIx_nat (n d k : Nat) : sIx n d (some (k : Int)) = min k n := by
  show (if (k : Int) < 0 then ((k : Int) + (n : Int)).toNat else min (k : Int).toNat n) = min k n
  rw [if_neg (by omega), Int.toNat_natCast]
end
end HT

namespace L2
open PySem PySem.Spec PyProof.Rows

/-! ### the parts of a slice -/
abbrev TO := St → Hp → (Option Int → Hp → Prop) → Prop
/-- a slice's part (left out, or an int) -/
def PO (X : Cx) (e : Option Expr) (t : TO) : Prop :=
  ∀ (pins : List (Addr × Obj)) (s : Shared) (σ : St) (H : Hp) (Q : Option Int → Hp → Prop), Inv X pins σ H s → t σ H Q →
    wpAny (model X.prog X.w) X.A (evalPart e X.env) (fun u s' => ∃ o H', Inv X pins σ H' s' ∧ IsPart u o ∧ Q o H') X.xe s
def tNoPart : TO := fun _ H Q => Q none H
def tPart (t : TE) : TO := fun σ H Q => t σ H fun x H1 => ∃ i, x = .int i ∧ Q (some i) H1

theorem intsAre_of {ns : List Int} : ∀ {us : List Value}, Vals (ns.map V.int) us → IntsAre us ns := by
  induction ns with
  | nil => intro us r; rw [List.map_nil] at r; cases r; exact .nil
  | cons n ns ih =>
    intro us r
    rw [List.map_cons] at r
    cases r with
    | cons r1 r2 =>
      obtain ⟨t, e⟩ := r1
      subst e
      exact .cons n t (ih r2)

section
variable {X : Cx} {e : Expr} {te : TE} {lo hi : Option Expr} {tl th : TO} {pos p2 : Pos}

theorem po_none : PO X none tNoPart := by
  intro pins s σ H Q I h
  rw [evalPart_none]
  exact wpAny_pure ⟨none, H, I, .none, h⟩
theorem po_some (h : PE X e te) : PO X (some e) (tPart te) := by
  intro pins s σ H Q I hw
  rw [evalPart_some]
  refine thn (h pins s σ H _ I hw) fun u s1 ⟨x, H1, I1, r1, q1⟩ => ?_
  obtain ⟨i, rfl, q⟩ := q1
  obtain ⟨t, rfl⟩ := r1
  exact ⟨some i, H1, I1, .int i t, q⟩

/-- what a slice of a value is, by values: the slice object stands at sl -/
def SlR (X : Cx) (r : V → Option Int → Option Int → Hp → VK → Prop) : Prop :=
  ∀ (pins : List (Addr × Obj)) (s : Shared) (σ : St) (H : Hp) (x : V) (v vl vu : Value) (lo hi : Option Int) (sl : Addr) (Q : VK), Inv X pins σ H s → RelV x v → s.heap.IsSliceOf sl vl vu .none → IsPart vl lo → IsPart vu hi → r x lo hi H Q →
    ∃ T id, typeLookup (.type T) "__getitem__" = pure (some (.builtin id)) ∧ s.TypeIs v T ∧ wpAny (model X.prog X.w) X.A (getItem v (.ref sl)) (EP X pins σ Q) X.xe s
def tSl (r : V → Option Int → Option Int → Hp → VK → Prop) (te : TE) (tl th : TO) : TE := fun σ H Q => te σ H fun x H1 => tl σ H1 fun l H2 => th σ H2 fun u H3 => r x l u H3 Q
/-- a[lo:hi], any a -/
theorem pe_slice {r : V → Option Int → Option Int → Hp → VK → Prop} (hr : SlR X r) (he : PE X e te) (hl : PO X lo tl) (hu : PO X hi th) : PE X (.Subscript e (.Slice lo hi none p2) pos) (tSl r te tl th) := by
  intro pins s σ H Q I h
  refine Subscript_ (thn (he pins s σ H _ I h) fun v s1 ⟨x, H1, I1, r1, q1⟩ => ?_)
  refine wpAny_Slice (thn (hl pins s1 σ H1 _ I1 q1) fun vl s2 ⟨l, H2, I2, pl, q2⟩ => thn (hu pins s2 σ H2 _ I2 q2) fun vu s3 ⟨u, H3, I3, pu, q3⟩ => ?_)
  rw [evalPart_none]
  refine wpAny_pure ?_
  have I4 : Inv X pins σ H3 { s3 with heap := s3.heap.push { cls := .type "slice", data := .fields #[vl, vu, .none] } } := I3.kept (t' := s3.toks) fun b ob q => Heap.get?_push_of_some _ q
  obtain ⟨T, id, hT, ht, hg⟩ := hr pins { s3 with heap := s3.heap.push { cls := .type "slice", data := .fields #[vl, vu, .none] } } σ H3 x v vl vu l u s3.heap.objs.size Q I4 r1 (Heap.IsSliceOf.new ..) pl pu q3
  show wpAny (model X.prog X.w) X.A (subscriptTail e (.Slice lo hi none p2) v (.ref s3.heap.objs.size)) (EP X pins σ Q) X.xe { s3 with heap := s3.heap.push { cls := .type "slice", data := .fields #[vl, vu, .none] } }
  exact tail_any (ops := [.ref s3.heap.objs.size, v]) ht hT hg (by with_unfolding_all rfl)

/-- the items of xs[lo:hi] -/
def cutV (xs : List V) (lo hi : Option Int) : List V := (xs.drop (HT.sIx xs.length 0 lo)).take (HT.sIx xs.length xs.length hi - HT.sIx xs.length 0 lo)
theorem cutV_length (xs : List V) (lo hi : Option Int) : (cutV xs lo hi).length ≤ xs.length := by
  unfold cutV
  rw [List.length_take, List.length_drop]
  omega
/-- t[lo:hi], not the whole of it (the whole would be t itself) -/
def rSlT (K : PySem.W.Frag) : V → Option Int → Option Int → Hp → VK → Prop := fun x lo hi H Q => ∃ a xs, x = .ref a ∧ SqT K H a xs ∧
  ¬ (HT.sIx xs.length 0 lo = 0 ∧ HT.sIx xs.length xs.length hi = xs.length) ∧ ∀ p, H p = none → Q (.ref p) (upd H p (.tup (cutV xs lo hi)))
/-! ### t < u, t + u -/
def rLtT (K : PySem.W.Frag) : R2 := fun x y H Q => ∃ a b ns ms, x = .ref a ∧ y = .ref b ∧ SqT K H a (ns.map V.int) ∧ SqT K H b (ms.map V.int) ∧ Q (.bl (HT.lexLt ns ms)) H
/-- t + u, t not empty: u empty gives t itself -/
def rCatT (K : PySem.W.Frag) : R2 := fun x y H Q => ∃ a b xs ys, x = .ref a ∧ y = .ref b ∧ SqT K H a xs ∧ SqT K H b ys ∧ xs ≠ [] ∧ xs.length + ys.length ≤ sizeLine ∧
  (ys = [] → Q (.ref a) H) ∧ (ys ≠ [] → ∀ p, H p = none → Q (.ref p) (upd H p (.tup (xs ++ ys))))
end
end L2

namespace L2
open PySem PySem.Spec PyProof.Rows

/-! ### places -/
/-- the place that an index of any sign means -/
def ixN (n : Nat) (i : Int) : Option Nat := if 0 ≤ i then (if i < n then some i.toNat else none) else if -(n : Int) ≤ i then some (i + n).toNat else none
def atI {α : Type} (xs : List α) (i : Int) : Option α := (ixN xs.length i).bind fun j => xs[j]?
theorem ixN_seq {n : Nat} {i : Int} {j : Nat} (h : ixN n i = some j) : seqIndex? i n = some j ∧ j < n ∧ -(n : Int) ≤ i ∧ i < n := by
  unfold ixN at h
  by_cases h0 : 0 ≤ i
  · rw [if_pos h0] at h
    by_cases h1 : i < n
    · rw [if_pos h1] at h
      have e : i.toNat = j := Option.some.inj h
      exact ⟨by rw [seqIndex_of h0 h1, e], by omega, by omega, h1⟩
    · rw [if_neg h1] at h; cases h
  · rw [if_neg h0] at h
    by_cases h1 : -(n : Int) ≤ i
    · rw [if_pos h1] at h
      have e : (i + n).toNat = j := Option.some.inj h
      exact ⟨by rw [seqIndex_neg (by omega) h1, e], by omega, h1, by omega⟩
    · rw [if_neg h1] at h; cases h
theorem atI_get {α : Type} {xs : List α} {i : Int} {v : α} (h : atI xs i = some v) : ∃ j, seqIndex? i xs.length = some j ∧ xs[j]? = some v ∧ j < xs.length ∧ -(xs.length : Int) ≤ i ∧ i < xs.length := by
  unfold atI at h
  cases e : ixN xs.length i with
  | none => rw [e] at h; cases h
  | some j =>
    rw [e] at h
    obtain ⟨h1, h2, h3, h4⟩ := ixN_seq e
    exact ⟨j, h1, h, h2, h3, h4⟩
theorem atI_nat {α : Type} {xs : List α} {j : Nat} {v : α} (h : xs[j]? = some v) : atI xs (j : Int) = some v := by
  have hj : j < xs.length := (List.getElem?_eq_some_iff.mp h).1
  have e : ixN xs.length (j : Int) = some j := by
    unfold ixN
    rw [if_pos (by omega), if_pos (by omega)]; simp
  unfold atI; rw [e]; exact h
/-! ### what may be subscripted -/
/-- what stands as an index of a plain subscript -/
def PlainIx (b : Expr) : Prop := ∀ o i, subscripted b false o i = operate [o, i] (getItem o i)
/-- a subscript by values -/
def IxR (X : Cx) (r : R2) : Prop :=
  ∀ (value slice : Expr) (pins : List (Addr × Obj)) (s : Shared) (σ : St) (H : Hp) (x y : V) (v u : Value) (Q : VK), Inv X pins σ H s → RelV x v → RelV y u → r x y H Q →
    subscripted slice false v u = operate [v, u] (getItem v u) → wpAny (model X.prog X.w) X.A (subscriptTail value slice v u) (EP X pins σ Q) X.xe s
/-- a call of a builtin's method by values: the receiver, the arguments -/
def MtR (X : Cx) (id : String) (r : V → List V → Hp → VK → Prop) : Prop :=
  ∀ (pins : List (Addr × Obj)) (s : Shared) (σ : St) (H : Hp) (x : V) (xs : List V) (v : Value) (us : List Value) (Q : VK), Inv X pins σ H s → RelV x v → Vals xs us → r x xs H Q →
    wpAny (model X.prog X.w) X.A (call (.builtin id) (v :: us)) (EP X pins σ Q) X.xe s
section
variable {X : Cx} {a b : Expr} {ta tb : TE} {pos : Pos}
/-- a[b] -/
theorem pe_ix {r : R2} (hr : IxR X r) (ha : PE X a ta) (hb : PE X b tb) (hs : PlainIx b) : PE X (.Subscript a b pos) (tOp r ta tb) := by
  intro pins s σ H Q I h
  exact Subscript_ (binT ha hb I h fun v u s2 x y H2 I2 rx ry q => hr a b pins s2 σ H2 x y v u Q I2 rx ry q (hs _ _))

def rIxL (K : PySem.W.Frag) : R2 := fun x y H Q => ∃ p xs i v, x = .ref p ∧ y = .int i ∧ SqL K H p xs ∧ atI xs i = some v ∧ Q v H
def rIxT (K : PySem.W.Frag) : R2 := fun x y H Q => ∃ p xs i v, x = .ref p ∧ y = .int i ∧ SqT K H p xs ∧ atI xs i = some v ∧ Q v H
def rIxS : R2 := fun x y H Q => ∃ z i c, x = .str z ∧ y = .int i ∧ z.length ≤ sizeLine ∧ atI z.cps.toList i = some c ∧ Q (.str ⟨#[c]⟩) H
theorem ix_list : IxR X (rIxL X.K) := by
  intro value slice pins s σ H x y v u Q I rx ry h hs
  obtain ⟨p, xs, i, z, rfl, rfl, hq, he, q⟩ := h
  cases rx
  obtain ⟨t, rfl⟩ := ry
  obtain ⟨its, r, pl, hz⟩ := I.list hq
  obtain ⟨j, h1, h2, h3, h4, h5⟩ := atI_get he
  obtain ⟨w, ew, rw'⟩ := r.get h2
  have hl := r.length
  have hn := line63
  have fin : EP X pins σ Q w s := ⟨z, H, I, rw', q⟩
  by_cases h0 : 0 ≤ i
  · have hj : i.toNat = j := by
      rw [seqIndex_of h0 h5] at h1
      exact Option.some.inj h1
    exact item_listR pl.isList h0 (by omega) (by rw [hj]; simpa using ew) fin hs
  · have hj : (i + (its.toArray.size : Int)).toNat = j := by
      rw [seqIndex_neg (by omega) h4] at h1
      rw [List.size_toArray, ← hl]
      exact Option.some.inj h1
    exact subscriptTail_builtinR (x := w) pl.isList.typeIs slot_list_getitem.lookup
      (wpAny_getItem_list_neg (Q := fun r s' => r = w ∧ EP X pins σ Q r s') pl.isList (by omega) (by rw [List.size_toArray] <;> omega) (by omega) (by rw [hj]; simpa using ew) ⟨rfl, fin⟩) hs
theorem ix_tup : IxR X (rIxT X.K) := by
  intro value slice pins s σ H x y v u Q I rx ry h hs
  obtain ⟨p, xs, i, z, rfl, rfl, hq, he, q⟩ := h
  cases rx
  obtain ⟨t, rfl⟩ := ry
  obtain ⟨its, r, pl, hz⟩ := I.tuple hq
  obtain ⟨j, h1, h2, h3, h4, h5⟩ := atI_get he
  obtain ⟨w, ew, rw'⟩ := r.get h2
  have hl := r.length
  have hn := line63
  have fin : EP X pins σ Q w s := ⟨z, H, I, rw', q⟩
  exact subscriptTail_builtinR (x := w) pl.typeIs slot_tuple_getitem.lookup
    (getItem_tuple (j := j) (Q := fun r s' => r = w ∧ EP X pins σ Q r s') pl (by omega) (by omega) (by rw [List.size_toArray, ← hl]; exact h1) (by simpa using ew) ⟨rfl, fin⟩) hs
/-- list, tuple or str -/
def rIx (K : PySem.W.Frag) : R2 := fun x y H Q => rIxL K x y H Q ∨ rIxT K x y H Q ∨ rIxS x y H Q
/-! ### xs[i] = v, any sign -/
/-- the list's object behind a store -/
theorem mapSeq_set (its : List Value) (n j : Nat) (u : Value) : Obj.mapSeq (·.setIfInBounds j u) { cls := .type "list", data := .seq its.toArray n } = { cls := .type "list", data := .seq (its.set j u).toArray n } := by
  simp [Obj.mapSeq]
theorem Inv.lst {pins : List (Addr × Obj)} {σ : St} {H : Hp} {s : Shared} {p : Addr} {xs : List V} (I : Inv X pins σ H s) (h : H p = some (.lst xs)) :
    ∃ (its : List Value) (n : Nat), Vals xs its ∧ s.heap.get? p = some { cls := .type "list", data := .seq its.toArray n } ∧ xs.length ≤ sizeLine := by
  obtain ⟨z, its, n, r, e⟩ := I.hok p _ h
  exact ⟨its, n, r, e, z⟩
/-- the list at p is written by an update of its object -/
theorem Inv.lstUpd {pins : List (Addr × Obj)} {σ : St} {H : Hp} {s : Shared} {p : Addr} {xs ys : List V} {its its' : List Value} {n n' : Nat} {f : Obj → Obj} (I : Inv X pins σ H s) (h : H p = some (.lst xs))
    (ho : s.heap.get? p = some { cls := .type "list", data := .seq its.toArray n }) (hf : f { cls := .type "list", data := .seq its.toArray n } = { cls := .type "list", data := .seq its'.toArray n' }) (r : Vals ys its') (hz : ys.length ≤ sizeLine) (t : Nat) :
    Inv X pins σ (upd H p (.lst ys)) { s with heap := s.heap.update p f, toks := t } := by
  have e : (s.heap.update p f).get? p = some { cls := .type "list", data := .seq its'.toArray n' } := by
    rw [Heap.get?_update_self f ho (by rw [hf] <;> rfl), hf]
  refine I.write (x := p) (e := p) (by rw [h]; trivial) (.inl rfl) (fun b u hb q => (Heap.get?_update_other _ _ (Ne.symm hb)).trans q) ⟨_, e⟩ ?_
  exact ⟨hz, its', n', r, e⟩
def rSetL : V → V → V → Hp → (Hp → Prop) → Prop := fun o i v H Q => ∃ p xs k j, o = .ref p ∧ i = .int k ∧ H p = some (.lst xs) ∧ ixN xs.length k = some j ∧ Q (upd H p (.lst (xs.set j v)))
theorem set_list : PSet X rSetL := by
  intro pins s σ H o i v ov iv u Q I ro ri rv h
  obtain ⟨p, xs, k, j, rfl, rfl, hp, hj, q⟩ := h
  cases ro
  obtain ⟨t, rfl⟩ := ri
  obtain ⟨its, n, r, ho, hz⟩ := I.lst hp
  obtain ⟨h1, h2, h3, h4⟩ := ixN_seq hj
  have hl := r.length
  have hn := line63
  have I' : Inv X pins σ (upd H p (.lst (xs.set j v))) { s with heap := s.heap.update p (Obj.mapSeq (·.setIfInBounds j u)) } :=
    I.lstUpd hp ho (mapSeq_set its n j u) (r.set rv j) (by rw [List.length_set]; exact hz) s.toks
  by_cases h0 : 0 ≤ k
  · have hk : k.toNat = j := by
      rw [seqIndex_of h0 h4] at h1
      exact Option.some.inj h1
    exact PySem.W.ki_setAt ho h0 (by omega) (by rw [List.size_toArray, ← hl]; exact h4) (by rw [hk]; exact ⟨_, I', q⟩)
  · have hk : (k + (its.toArray.size : Int)).toNat = j := by
      rw [seqIndex_neg (by omega) h3] at h1
      rw [List.size_toArray, ← hl]
      exact Option.some.inj h1
    exact PySem.W.ki_setBack ho (by omega) (by rw [List.size_toArray, ← hl]; exact h3) (by omega) (by rw [hk]; exact ⟨_, I', q⟩)

/-! ### slices -/
theorem slice_bounds (lo hi : Option Int) (n : Nat) : (sliceBounds lo hi none n).1 = ((HT.sIx n 0 lo : Nat) : Int) ∧ (sliceBounds lo hi none n).2.1 = ((HT.sIx n n hi : Nat) : Int) ∧ (sliceBounds lo hi none n).2.2 = 1 := by
  refine ⟨?_, ?_, rfl⟩
  · cases lo with
    | none => simp [sliceBounds, HT.sIx]
    | some i =>
      simp only [sliceBounds, HT.sIx, Option.getD_none, show (1 : Int) > 0 by decide, if_true]
      by_cases h : i < 0
      · simp only [h, if_true] <;> omega
      · simp only [h, if_false] <;> omega
  · cases hi with
    | none => simp [sliceBounds, HT.sIx]
    | some i =>
      simp only [sliceBounds, HT.sIx, Option.getD_none, show (1 : Int) > 0 by decide, if_true]
      by_cases h : i < 0
      · simp only [h, if_true] <;> omega
      · simp only [h, if_false] <;> omega
theorem slicePick_cut (its : List Value) (lo hi : Option Int) : slicePick its.toArray lo hi none = ((its.drop (HT.sIx its.length 0 lo)).take (HT.sIx its.length its.length hi - HT.sIx its.length 0 lo)).toArray := by
  obtain ⟨h1, h2, h3⟩ := slice_bounds lo hi its.toArray.size
  unfold slicePick
  rw [h1, h2, h3]
  simp only [sliceRange_one, pick_run, List.size_toArray] <;> rfl
/-- xs[lo:hi] of a list: a new list -/
def rSlL (K : PySem.W.Frag) : V → Option Int → Option Int → Hp → VK → Prop := fun x lo hi H Q => ∃ a xs, x = .ref a ∧ SqL K H a xs ∧ ∀ p, H p = none → Q (.ref p) (upd H p (.lst (cutV xs lo hi)))
theorem sl_list : SlR X (rSlL X.K) := by
  intro pins s σ H x v vl vu lo hi sl Q I rx hs pl pu h
  obtain ⟨a, xs, rfl, hx, q⟩ := h
  cases rx
  obtain ⟨its, r, ht, hz⟩ := I.list hx
  have hlen := r.length
  refine ⟨"list", _, slot_list_getitem.lookup, ht.isList.typeIs, ?_⟩
  refine wpAny_getItem_list_slice ht.isList hs pl pu .none (by simp) ?_ (by rw [List.size_toArray] <;> omega)
  rw [slicePick_cut, ← hlen]
  refine ⟨.ref s.heap.objs.size, _, I.laid (t' := s.toks) (o := .lst (cutV xs lo hi)) (fun b ob q => Heap.get?_push_of_some _ q) (Nat.le_refl _) ?_, rfl, q _ (I.hok.fresh (Nat.le_refl _))⟩
  exact ⟨Nat.le_trans (cutV_length xs lo hi) hz, _, 0, (r.drop (HT.sIx xs.length 0 lo)).take (HT.sIx xs.length xs.length hi - HT.sIx xs.length 0 lo), Heap.get?_push_size _ rfl⟩

/-! ### in, not in: flat items -/
def flatV : V → Bool
  | .non => true
  | .bl _ => true
  | .int _ => true
  | .str _ => true
  | _ => false
/-- == of flat values -/
def eqV : V → V → Bool
  | .non, .non => true
  | .bl a, .bl b => a == b
  | .bl a, .int b => (if a then 1 else 0) == b
  | .int a, .bl b => a == (if b then 1 else 0)
  | .int a, .int b => a == b
  | .str a, .str b => a == b
  | _, _ => false
theorem eqAt_V {A : Around} {s : Shared} {y x : V} {u v : Value} (ry : RelV y u) (rx : RelV x v) (fy : flatV y = true) (fx : flatV x = true) : SeqAt.EqAt A s u v (eqV y x) := by
  cases y with
  | non =>
    cases ry
    cases x with
    | non => cases rx; exact SeqAt.EqAt.same _
    | bl b => cases rx; exact SeqAt.EqAt.none_bool b
    | int b => obtain ⟨t, rfl⟩ := rx; exact SeqAt.EqAt.none_int b t
    | str b => obtain ⟨t, rfl⟩ := rx; exact SeqAt.EqAt.none_str b t
    | _ => exact absurd (show false = true from fx) Bool.false_ne_true
  | bl a =>
    cases ry
    cases x with
    | non => cases rx; exact SeqAt.EqAt.bool_none a
    | bl b => cases rx; exact SeqAt.EqAt.bool_bool a b
    | int b => obtain ⟨t, rfl⟩ := rx; exact SeqAt.EqAt.bool_int a b t
    | str b => obtain ⟨t, rfl⟩ := rx; exact SeqAt.EqAt.bool_str a b t
    | _ => exact absurd (show false = true from fx) Bool.false_ne_true
  | int a =>
    obtain ⟨t', rfl⟩ := ry
    cases x with
    | non => cases rx; exact SeqAt.EqAt.int_none a t'
    | bl b => cases rx; exact SeqAt.EqAt.int_bool a t' b
    | int b => obtain ⟨t, rfl⟩ := rx; exact SeqAt.EqAt.int_int a t' b t
    | str b => obtain ⟨t, rfl⟩ := rx; exact SeqAt.EqAt.int_str a t' b t
    | _ => exact absurd (show false = true from fx) Bool.false_ne_true
  | str a =>
    obtain ⟨t', rfl⟩ := ry
    cases x with
    | non => cases rx; exact SeqAt.EqAt.str_none a t'
    | bl b => cases rx; exact SeqAt.EqAt.str_bool a t' b
    | int b => obtain ⟨t, rfl⟩ := rx; exact SeqAt.EqAt.str_int a t' b t
    | str b => obtain ⟨t, rfl⟩ := rx; exact SeqAt.EqAt.str_str a t' b t
    | _ => exact absurd (show false = true from fx) Bool.false_ne_true
  | _ => exact absurd (show false = true from fy) Bool.false_ne_true
/-- the items' answers, read off the values (a value's own answer does not lean on its token) -/
def eqU (x : V) (u : Value) : Bool := match u with
  | .none => eqV .non x
  | .bool b => eqV (.bl b) x
  | .int i _ => eqV (.int i) x
  | .str z _ => eqV (.str z) x
  | _ => false
theorem eqU_of {x y : V} {u : Value} (r : RelV y u) (f : flatV y = true) : eqU x u = eqV y x := by
  cases y with
  | non => cases r; rfl
  | bl b => cases r; rfl
  | int i => obtain ⟨t, rfl⟩ := r; rfl
  | str z => obtain ⟨t, rfl⟩ := r; rfl
  | _ => exact absurd (show false = true from f) Bool.false_ne_true
theorem any_eqU {x : V} : ∀ {xs : List V} {us : List Value}, Vals xs us → xs.all flatV = true → us.any (eqU x) = xs.any fun y => eqV y x
  | _, _, .nil, _ => rfl
  | y :: xs, u :: us, .cons r t, f => by
    rw [List.all_cons, Bool.and_eq_true] at f
    rw [List.any_cons, List.any_cons, eqU_of r f.1, any_eqU t f.2]
theorem mem_eqAt {A : Around} {s : Shared} {x : V} {v : Value} (rx : RelV x v) (fx : flatV x = true) : ∀ {xs : List V} {us : List Value}, Vals xs us → xs.all flatV = true → ∀ u ∈ us, SeqAt.EqAt A s u v (eqU x u)
  | _, _, .nil, _ => fun u hu => by cases hu
  | y :: xs, u :: us, .cons r t, f => fun u' hu => by
    rw [List.all_cons, Bool.and_eq_true] at f
    rcases List.mem_cons.mp hu with rfl | hu
    · rw [eqU_of r f.1]; exact eqAt_V r rx f.1 fx
    · exact mem_eqAt rx fx t f.2 u' hu
def inV (x : V) (xs : List V) : Bool := xs.any fun y => eqV y x
/-- x in a list or tuple of flat items -/
def rIn (K : PySem.W.Frag) (neg : Bool) : R2 := fun x y H Q => ∃ p xs, y = .ref p ∧ (SqL K H p xs ∨ SqT K H p xs) ∧ flatV x = true ∧ xs.all flatV = true ∧ Q (.bl (if neg then !inV x xs else inV x xs)) H
theorem op_in_seq : OpR X (compareOp .In) (rIn X.K false) := by
  intro pins s σ H x y v u Q I rx ry h
  obtain ⟨p, xs, rfl, hq, fx, fs, q⟩ := h
  cases ry
  rcases hq with hq | hq
  · obtain ⟨its, r, pl, hz⟩ := I.list hq
    refine SeqAt.in_listAt (eqU x) pl.isList (fun w hw => mem_eqAt rx fx r fs w (by simpa using hw)) ⟨.bl _, H, I, rfl, ?_⟩
    rw [show its.toArray.any (eqU x) = its.any (eqU x) by simp, any_eqU r fs]
    exact q
  · obtain ⟨its, r, pl, hz⟩ := I.tuple hq
    refine SeqAt.in_tupleAt (eqU x) pl (fun w hw => mem_eqAt rx fx r fs w (by simpa using hw)) ⟨.bl _, H, I, rfl, ?_⟩
    rw [show its.toArray.any (eqU x) = its.any (eqU x) by simp, any_eqU r fs]
    exact q
/-! ### len, list(x), tuple(x) of any list or tuple that is read -/
theorem call_len_seq : CallR X (.builtin "len") (fun xs H Q => ∃ p ys, xs = [.ref p] ∧ (SqL X.K H p ys ∨ SqT X.K H p ys) ∧ Q (.int ys.length) H) := by
  intro pins s σ H xs us Q I r h
  obtain ⟨p, ys, rfl, hq, q⟩ := h
  obtain ⟨u, rfl, rx⟩ := vals1 r
  cases rx
  have hn := line63
  rcases hq with hq | hq
  · obtain ⟨its, r', pl, hz⟩ := I.list hq
    have hlen := r'.length
    exact Calls.call_len_list pl.isList (by simp only [List.size_toArray] <;> omega) ⟨.int ys.length, H, I.tok _, ⟨s.toks + 1, by rw [List.size_toArray, hlen]⟩, q⟩
  · obtain ⟨its, r', pl, hz⟩ := I.tuple hq
    have hlen := r'.length
    exact len_tuple pl (by simp only [List.size_toArray] <;> omega) ⟨.int ys.length, H, I.tok _, ⟨s.toks + 1, by rw [List.size_toArray, hlen]⟩, q⟩
theorem call_list_of : CallR X (.type "list") (fun xs H Q => ∃ p ys, xs = [.ref p] ∧ (SqL X.K H p ys ∨ SqT X.K H p ys) ∧ ∀ l, H l = none → Q (.ref l) (upd H l (.lst ys))) := by
  intro pins s σ H xs us Q I r h
  obtain ⟨p, ys, rfl, hq, q⟩ := h
  obtain ⟨u, rfl, rx⟩ := vals1 r
  cases rx
  have fin : ∀ (its : List Value), Vals ys its → ys.length ≤ sizeLine → ∀ (h' : Heap) (c' : Nat), (∀ b o', s.heap.get? b = some o' → h'.get? b = some o') →
      h'.get? s.heap.objs.size = some { cls := .type "list", dict := none, data := .seq its.toArray c', slots := #[] } → EP X pins σ Q (.ref s.heap.objs.size) { s with heap := h' } := fun its r' hz h' c' kp e =>
    ⟨.ref s.heap.objs.size, _, I.laid (t' := s.toks) kp (Nat.le_refl _) (show ObjOk X.prog X.w _ h' _ (.lst ys) from ⟨hz, its, c', r', e⟩), rfl, q _ (I.hok.fresh (Nat.le_refl _))⟩
  rcases hq with hq | hq
  · obtain ⟨its, r', pl, hz⟩ := I.list hq
    have hlen := r'.length
    obtain ⟨o, ho, hc, n, hd⟩ := pl.isList
    exact call_list_seq p (.inl rfl) ho hc hd (fun h' c' kp e => fin its r' hz h' c' kp e) (by simp only [List.size_toArray] <;> omega)
  · obtain ⟨its, r', pl, hz⟩ := I.tuple hq
    have hlen := r'.length
    obtain ⟨o, ho, hc, n, hd⟩ := pl
    exact call_list_seq p (.inr rfl) ho hc hd (fun h' c' kp e => fin its r' hz h' c' kp e) (by simp only [List.size_toArray] <;> omega)
/-! ### the call of a builtin's method: o.m(..) -/
/-- the value is of that builtin type -/
def tyV (K : PySem.W.Frag) (T : String) (x : V) (H : Hp) : Prop := match x with
  | .str _ => T = "str"
  | .int _ => T = "int"
  | .ref p => (T = "list" ∧ ∃ xs, SqL K H p xs) ∨ (T = "tuple" ∧ ∃ o, K.lookup p = some o ∧ o.cls = .type "tuple" ∧ o.dict = none) ∨
      (T = "dict" ∧ ((∃ kvs, H p = some (.dK kvs)) ∨ ∃ kvs, H p = some (.dT kvs))) ∨ (T = "set" ∧ ∃ S n, H p = some (.set S n))
  | _ => False
theorem tyV_is {pins : List (Addr × Obj)} {σ : St} {H : Hp} {s : Shared} {T : String} {x : V} {v : Value} (I : Inv X pins σ H s) (r : RelV x v) (ty : tyV X.K T x H) :
    s.TypeIs v T ∧ ∀ a, v = .ref a → ∃ ob, s.heap.get? a = some ob ∧ ob.dict = none := by
  cases x with
  | str z =>
    obtain ⟨t, rfl⟩ := r
    cases (show T = "str" from ty)
    exact ⟨typeIs_str s z t, fun _ e => nomatch e⟩
  | int i =>
    obtain ⟨t, rfl⟩ := r
    cases (show T = "int" from ty)
    exact ⟨typeIs_int s i t, fun _ e => nomatch e⟩
  | ref p =>
    cases r
    rcases ty with ⟨rfl, xs, hq⟩ | ⟨rfl, o, hk, hc, hd⟩ | ⟨rfl, hk⟩ | ⟨rfl, S, n, hk⟩
    · obtain ⟨its, _, pl, _⟩ := I.list hq
      refine ⟨pl.isList.typeIs, fun a e => ?_⟩
      cases e
      obtain ⟨o, n, e, c, hd, _⟩ := pl
      exact ⟨o, e, hd⟩
    · refine ⟨⟨o, I.kIn p o hk, hc⟩, fun a e => ?_⟩
      cases e
      exact ⟨o, I.kIn _ o hk, hd⟩
    · have z : ∃ o, s.heap.get? p = some o ∧ o.ExactDict := by
        rcases hk with ⟨kvs, hk⟩ | ⟨kvs, hk⟩
        · obtain ⟨_, _, _, _, o, _, _, e, ex, _⟩ := I.hok p _ hk
          exact ⟨o, e, ex⟩
        · obtain ⟨_, _, _, _, o, _, _, e, ex, _⟩ := I.hok p _ hk
          exact ⟨o, e, ex⟩
      obtain ⟨o, e, ex⟩ := z
      refine ⟨⟨o, e, ex.1⟩, fun a e2 => ?_⟩
      cases e2
      exact ⟨o, e, ex.2.1⟩
    · obtain ⟨o, _, _, _, e, ex, _⟩ := I.hok p _ hk
      refine ⟨⟨o, e, ex.1⟩, fun a e2 => ?_⟩
      cases e2
      exact ⟨o, e, ex.2.1⟩
  | _ => exact False.elim ty
def tBM0 (K : PySem.W.Frag) (T : String) (r : V → List V → Hp → VK → Prop) (to : TE) : TE := fun σ H Q => to σ H fun x H1 => tyV K T x H1 ∧ r x [] H1 Q
def tBM (K : PySem.W.Frag) (T : String) (r : V → List V → Hp → VK → Prop) (to : TE) (t : TA) : TE := fun σ H Q => to σ H fun x H1 => tyV K T x H1 ∧ t σ H1 fun xs H2 => r x xs H2 Q
variable {o e : Expr} {es : List Expr} {to : TE} {t : TA} {name : Str} {apos cpos : Pos} {T id : String} {r : V → List V → Hp → VK → Prop}
theorem pe_bm0 (pa : PlainAttrs T) (slot : Slot T name id) (hty : typeOf (.builtin id) = pure (.type "method_descriptor")) (hm : MtR X id r) (ho : PE X o to)
    (hbase : attributeBase o name X.env (eval o X.env) = eval o X.env := by rfl) (hline : (apos.endLine == cpos.line) = true := by rfl) : PE X (.Call (.Attribute o name apos) [] [] cpos) (tBM0 X.K T r to) := by
  intro pins s σ H Q I h
  refine wpAny_Call_method0_late hbase hline (thn (ho pins s σ H _ I h) fun v s1 ⟨x, H1, I1, r1, ty, q1⟩ => ?_)
  obtain ⟨h1, h2⟩ := tyV_is I1 r1 ty
  exact ⟨T, id, pa, slot, hty, h1, h2, Calls.callWith_builtin rfl (PySem.evalArgs_none (hm pins s1 σ H1 x [] v [] Q I1 r1 .nil q1))⟩
theorem pe_bm (pa : PlainAttrs T) (slot : Slot T name id) (hty : typeOf (.builtin id) = pure (.type "method_descriptor")) (hm : MtR X id r) (ho : PE X o to) (ha : PA X (e :: es) t)
    (hbase : attributeBase o name X.env (eval o X.env) = eval o X.env := by rfl)
    (hfew : ((backTo cpos (starEach (e :: es) X.env)).all (fun x => !x.1) && (backToKw cpos (keywordEach [] X.env)).all (fun x => x.1.isSome)
      && decide ((e :: es).length + ([] : List Keyword).length + (if ([] : List Keyword).isEmpty then 0 else 1) < 30)) = true := by rfl)
    (hline : (apos.endLine == cpos.line) = true := by rfl) (hs : starEach (e :: es) X.env = (false, eval e X.env) :: starEach es X.env := by rfl) (hplain : (backTo cpos (starEach es X.env)).any (·.1) = false := by rfl) :
    PE X (.Call (.Attribute o name apos) (e :: es) [] cpos) (tBM X.K T r to t) := by
  intro pins s σ H Q I h
  refine wpAny_Call_method_late hbase hfew hline rfl (thn (ho pins s σ H _ I h) fun v s1 ⟨x, H1, I1, r1, ty, q1⟩ => ?_)
  obtain ⟨h1, h2⟩ := tyV_is I1 r1 ty
  refine ⟨T, id, pa, slot, hty, h1, h2, ?_⟩
  have hA := ha cpos pins s1 σ H1 _ I1 q1
  rw [hs] at hA ⊢
  refine Calls.callWith_builtin (by show (false || (backTo cpos (starEach es X.env)).any (·.1)) = false; rw [hplain] <;> rfl) (Calls.evalArgs_plain ?_)
  exact thn hA fun us s2 ⟨vs, H2, I2, r2, q2⟩ => hm pins s2 σ H2 x vs v us Q I2 r1 r2 q2
/- xs.append(e), list.index on a module's tuple .. are MtR facts of 06m -/
end
end L2

namespace L2
open PySem PySem.Spec PyProof.Rows

def MtM (X : Cx) (id : String) (r : V → List V → Hp → VK → Prop) : Prop :=
  ∀ (pins : List (Addr × Obj)) (s : Shared) (σ : St) (H : Hp) (x : V) (xs : List V) (v : Value) (us : List Value) (Q : VK), Inv X pins σ H s → RelV x v → Vals xs us → r x xs H Q →
    wpAny (model X.prog X.w) X.A (call (.builtin id) (v :: us)) (EP X pins σ Q) X.xe s

/-! ### lists of values -/
theorem Vals.one : ∀ {x : V} {us : List Value}, Vals [x] us → ∃ u, us = [u] ∧ RelV x u
  | _, _, .cons r .nil => ⟨_, rfl, r⟩
theorem Vals.zero : ∀ {us : List Value}, Vals [] us → us = []
  | _, .nil => rfl
theorem Vals.dropLast {xs : List V} {us : List Value} (h : Vals xs us) : Vals xs.dropLast us.dropLast := by
  induction h with
  | nil => exact .nil
  | cons r t ih =>
    cases t with
    | nil => exact .nil
    | cons q t' => exact .cons r ih
theorem Vals.rep {xs : List V} {us : List Value} (h : Vals xs us) : ∀ k : Nat, Vals (List.replicate k xs).flatten (List.replicate k us).flatten
  | 0 => .nil
  | k + 1 => by
    rw [List.replicate_succ, List.replicate_succ, List.flatten_cons, List.flatten_cons]
    exact Vals.append h (Vals.rep h k)
theorem erase_last {α : Type} (l : List α) : l.eraseIdx (l.length - 1) = l.dropLast := by
  induction l with
  | nil => rfl
  | cons a r ih =>
    cases r with
    | nil => rfl
    | cons b r =>
      have e : (a :: b :: r).length - 1 = ((b :: r).length - 1) + 1 := by
        have h1 : (a :: b :: r).length = r.length + 2 := rfl
        have h2 : (b :: r).length = r.length + 1 := rfl
        omega
      rw [e, List.eraseIdx_cons_succ, ih]
      all_goals rfl
theorem foldl_rep (its : List Value) : ∀ (k : Nat) (acc : List Value),
    List.foldl (fun x1 x2 => x1 ++ x2) acc.toArray (List.replicate k its.toArray) = (acc ++ (List.replicate k its).flatten).toArray
  | 0, acc => by simp
  | k + 1, acc => by
    have e : acc.toArray ++ its.toArray = (acc ++ its).toArray := by simp
    have e2 : (acc ++ its) ++ (List.replicate k its).flatten = acc ++ (List.replicate (k + 1) its).flatten := by
      rw [List.replicate_succ, List.flatten_cons, List.append_assoc]
    rw [← e2, ← foldl_rep its k (acc ++ its), ← e, List.replicate_succ, List.foldl_cons]

section
variable {X : Cx} {pins : List (Addr × Obj)} {σ : St} {H : Hp} {s : Shared} {l b : Addr} {xs ys zs : List V}

/-! ### the two steps: a tracked list is rewritten, a new list is laid -/
theorem Inv.lset {its its' : List Value} {n : Nat} {f : Array Value → Array Value} {t' : Nat} (I : Inv X pins σ H s) (hH : H l = some (.lst xs))
    (e : s.heap.get? l = some { cls := .type "list", data := .seq its.toArray n }) (hf : f its.toArray = its'.toArray) (hv : Vals ys its') (hz : ys.length ≤ sizeLine) :
    Inv X pins σ (upd H l (.lst ys)) { s with heap := s.heap.update l (Obj.mapSeq f), toks := t' } := by
  have q := PySem.IsL.update e f
  rw [hf] at q
  refine I.write (x := l) (e := l) (by rw [hH]; exact trivial) (.inl rfl) (fun b' u hb hu => (Heap.get?_update_other s.heap (Obj.mapSeq f) (Ne.symm hb)).trans hu) ⟨_, q⟩ ?_
  exact ⟨hz, its', _, hv, q⟩
theorem Inv.lnew {its : List Value} {t' : Nat} (I : Inv X pins σ H s) (hv : Vals ys its) (hz : ys.length ≤ sizeLine) :
    Inv X pins σ (upd H s.heap.objs.size (.lst ys)) { s with heap := s.heap.push { cls := .type "list", data := .seq its.toArray }, toks := t' } :=
  I.laid (fun _ _ q => Heap.get?_push_of_some _ q) (Nat.le_refl _) ⟨hz, its, 0, hv, Heap.get?_push_size _ rfl⟩
theorem Inv.fresh (I : Inv X pins σ H s) : H s.heap.objs.size = none := I.hok.fresh (Nat.le_refl _)
theorem Inv.lstM (I : Inv X pins σ H s) (hH : H l = some (.lst xs)) : xs.length ≤ sizeLine ∧ ∃ (its : List Value) (n : Nat), Vals xs its ∧ xs.length = its.length ∧ s.heap.get? l = some { cls := .type "list", data := .seq its.toArray n } := by
  obtain ⟨z, its, n, r, e⟩ := I.hok l _ hH
  exact ⟨z, its, n, r, r.length, e⟩

theorem notLongL {n : Nat} (h : n ≤ sizeLine) : Builtin.List.listTooLong n = false := by
  unfold Builtin.List.listTooLong
  exact decide_eq_false (by omega)
end

section
variable {X : Cx}

/-! ### methods -/
def rAppend : V → List V → Hp → VK → Prop := fun x vs H Q => ∃ l xs y, x = .ref l ∧ vs = [y] ∧ H l = some (.lst xs) ∧ xs.length < sizeLine ∧ Q .non (upd H l (.lst (xs ++ [y])))
theorem mt_append : MtM X "list.append" rAppend := by
  intro pins s σ H x vs v us Q I rx rv h
  obtain ⟨l, xs, y, rfl, rfl, hH, hz, q⟩ := h
  cases rx
  obtain ⟨u, rfl, ru⟩ := rv.one
  obtain ⟨z, its, n, r, hl, e⟩ := I.lstM hH
  refine call_meets F.slot_list_append ⟨_, e, rfl⟩ F.entry_list_append (F.args_list_append_2 _ _) (PySem.list_append l its.toArray n u (by rw [List.size_toArray]; omega)) ⟨e, ?_⟩
  refine ⟨.non, _, I.lset (its' := its ++ [u]) hH e (by simp) (r.append (.cons ru .nil)) ?_, rfl, q⟩
  rw [List.length_append, List.length_singleton]
  omega

def rExtend : V → List V → Hp → VK → Prop := fun x vs H Q => ∃ l b xs zs, x = .ref l ∧ vs = [.ref b] ∧ H l = some (.lst xs) ∧ H b = some (.lst zs) ∧ xs.length + zs.length ≤ sizeLine ∧ Q .non (upd H l (.lst (xs ++ zs)))
theorem mt_extend : MtM X "list.extend" rExtend := by
  intro pins s σ H x vs v us Q I rx rv h
  obtain ⟨l, b, xs, zs, rfl, rfl, hH, hB, hz, q⟩ := h
  cases rx
  obtain ⟨u, rfl, ru⟩ := rv.one
  cases ru
  obtain ⟨z, its, n, r, hl, e⟩ := I.lstM hH
  obtain ⟨z2, its2, n2, r2, hl2, e2⟩ := I.lstM hB
  have hsz : its.toArray.size + its2.toArray.size ≤ sizeLine := by rw [List.size_toArray, List.size_toArray]; omega
  have hlong : ¬ (!its.toArray.isEmpty && Builtin.List.listTooLong (its.toArray.size + its2.toArray.size)) = true := by
    rw [notLongL hsz, Bool.and_false]
    exact Bool.false_ne_true
  refine call_meets F.slot_list_extend ⟨_, e, rfl⟩ F.entry_list_extend (F.args_list_extend_2 _ _)
    (AutoSeq1.list_extend_list_list_0 l its.toArray n b its2.toArray n2 hlong (by rw [List.size_toArray]; omega) (by omega)) ⟨e, e2, ?_⟩
  refine ⟨.non, _, I.lset (its' := its ++ its2) hH e (by simp) (r.append r2) ?_, rfl, q⟩
  rw [List.length_append]
  omega

def rPop : V → List V → Hp → VK → Prop := fun x vs H Q => ∃ l xs y, x = .ref l ∧ vs = [] ∧ H l = some (.lst xs) ∧ xs[xs.length - 1]? = some y ∧ Q y (upd H l (.lst xs.dropLast))
theorem mt_pop : MtM X "list.pop" rPop := by
  intro pins s σ H x vs v us Q I rx rv h
  obtain ⟨l, xs, y, rfl, rfl, hH, hy, q⟩ := h
  cases rx
  have hus := rv.zero
  subst hus
  obtain ⟨z, its, n, r, hl, e⟩ := I.lstM hH
  obtain ⟨u, hu, ru⟩ := r.get hy
  have hy' : its.toArray[its.toArray.size - 1]? = some u := by
    show its.toArray[its.length - 1]? = some u
    rw [← Array.getElem?_toList, ← hl]
    exact hu
  refine call_meets F.slot_list_pop ⟨_, e, rfl⟩ F.entry_list_pop (F.args_list_pop_1 _) (MeetsSeq.list_pop_last l its.toArray n u hy' (by rw [List.size_toArray]; omega)) ⟨e, ?_⟩
  refine ⟨y, _, I.lset (its' := its.dropLast) hH e ?_ r.dropLast ?_, ru, q⟩
  · show its.toArray.eraseIdxIfInBounds (its.toArray.size - 1) = its.dropLast.toArray
    rw [List.size_toArray, List.eraseIdxIfInBounds_toArray, erase_last]
  · rw [List.length_dropLast]
    omega

def rPopAt : V → List V → Hp → VK → Prop := fun x vs H Q => ∃ l xs i k y, x = .ref l ∧ vs = [.int i] ∧ H l = some (.lst xs) ∧ -(2 ^ 63) ≤ i ∧ i < 2 ^ 63 ∧ seqIndex? i xs.length = some k ∧ xs[k]? = some y ∧ Q y (upd H l (.lst (xs.eraseIdx k)))
def rReverse : V → List V → Hp → VK → Prop := fun x vs H Q => ∃ l xs, x = .ref l ∧ vs = [] ∧ H l = some (.lst xs) ∧ Q .non (upd H l (.lst xs.reverse))
def rClear : V → List V → Hp → VK → Prop := fun x vs H Q => ∃ l xs, x = .ref l ∧ vs = [] ∧ H l = some (.lst xs) ∧ Q .non (upd H l (.lst []))
/-! ### list + list, list += list, list * int -/
def rCat : R2 := fun x y H Q => ∃ l b xs zs, x = .ref l ∧ y = .ref b ∧ H l = some (.lst xs) ∧ H b = some (.lst zs) ∧ xs.length + zs.length ≤ sizeLine ∧ ∀ p, H p = none → Q (.ref p) (upd H p (.lst (xs ++ zs)))
theorem op_cat : OpR X (binaryOp .Add) rCat := by
  intro pins s σ H x y v u Q I rx ry h
  obtain ⟨l, b, xs, zs, rfl, rfl, hH, hB, hz, q⟩ := h
  cases rx
  cases ry
  obtain ⟨z, its, n, r, hl, e⟩ := I.lstM hH
  obtain ⟨z2, its2, n2, r2, hl2, e2⟩ := I.lstM hB
  refine PySem.P.add_list e e2 ?_ (by rw [List.size_toArray, List.size_toArray]; omega)
  have ea : its.toArray ++ its2.toArray = (its ++ its2).toArray := by simp
  rw [ea]
  exact ⟨.ref _, _, I.lnew (t' := s.toks) (r.append r2) (by rw [List.length_append]; omega), rfl, q _ I.fresh⟩
/-- a list times an int (a negative one is nothing) -/
def rRep : R2 := fun x y H Q => ∃ l k xs, x = .ref l ∧ y = .int k ∧ H l = some (.lst xs) ∧ -(2 ^ 63) ≤ k ∧ k < 2 ^ 63 ∧ xs.length * k.toNat ≤ sizeLine ∧
  ∀ p, H p = none → Q (.ref p) (upd H p (.lst (List.replicate k.toNat xs).flatten))
theorem len_rep {α : Type} (xs : List α) (k : Nat) : (List.replicate k xs).flatten.length = k * xs.length := by
  induction k with
  | zero => simp
  | succ k ih => rw [List.replicate_succ, List.flatten_cons, List.length_append, ih, Nat.succ_mul, Nat.add_comm]
theorem op_rep : OpR X (binaryOp .Mult) rRep := by
  intro pins s σ H x y v u Q I rx ry h
  obtain ⟨l, k, xs, rfl, rfl, hH, h1, h2, hz, q⟩ := h
  cases rx
  obtain ⟨t, rfl⟩ := ry
  obtain ⟨z, its, n, r, hl, e⟩ := I.lstM hH
  have hlen : its.toArray.size * k.toNat ≤ sizeLine := by rw [List.size_toArray, ← hl]; exact hz
  have hcap : ¬ its.toArray.size * k.toNat > (2 ^ 63 - 1) / 8 := by
    have : (sizeLine : Nat) ≤ (2 ^ 63 - 1) / 8 := by decide
    omega
  have hfit : ¬ (!Builtin.List.listFitsIndex k) = true := by
    rw [fitsIndex_both h1 h2]
    exact Bool.false_ne_true
  have hlong : ¬ Builtin.List.listTooLong (its.toArray.size * k.toNat) = true := by
    rw [notLongL hlen]
    exact Bool.false_ne_true
  have hnew : List.foldl (fun x1 x2 => x1 ++ x2) #[] (List.replicate (if its.toArray.isEmpty = true then 0 else k.toNat) its.toArray) = (List.replicate k.toNat its).flatten.toArray := by
    have f0 : ∀ m : Nat, List.foldl (fun x1 x2 => x1 ++ x2) #[] (List.replicate m its.toArray) = (List.replicate m its).flatten.toArray := fun m => by
      have := foldl_rep its m []
      rw [List.nil_append] at this
      exact this
    rw [f0]
    cases its with
    | nil => simp
    | cons a r' => rw [if_neg (by simp)]
  refine wpAny_binaryOp_repeat_ref (T := "list") (U := "int") (by decide) ⟨_, e, rfl⟩ (fun s' => typeIs_int s' k t) noFill_list_mul F.fills_int_mul F.slot_int_rmul repeat_list F.slot_int_index.lookup
    (call_meets F.slot_int_rmul (typeIs_int s k t) F.entry_int_rmul (F.args_int_rmul_2 _ _) (int___rmul___int_list k t l its.toArray n)
      ⟨e, rfl, ⟨_, e, rfl⟩, call_meets F.slot_list_mul ⟨_, e, rfl⟩ F.entry_list_mul (F.args_list_mul_2 _ _) (AutoListH.list___mul___list_int_3 l its.toArray n k t hfit hcap hlong) ⟨e, ?_⟩⟩)
  rw [hnew]
  exact ⟨.ref _, _, I.lnew (t' := s.toks) (r.rep k.toNat) (by rw [len_rep, Nat.mul_comm]; exact hz), rfl, q _ I.fresh⟩

/-! ### del xs[i] -/
end

/-! ### xs[a:b] = ys -/
section
variable {prog : Program} {w : World} {A : Around} {E : Value → Shared → Prop} {s : Shared}
set_option maxRecDepth 100000 in
end

section
variable {X : Cx}
end
end L2

namespace Att
open PySem PySem.W PySem.Calls PyProof.Rows

/-! ### the script -/
theorem ints_of_wellAll {P : Params} {h : Heap} : ∀ (ns : List Int) (vs : List Value), WellAll P h vs (ns.map WData.int) → IntsAre vs ns := by
  intro ns
  induction ns with
  | nil =>
    intro vs w
    rw [List.map_nil] at w
    cases w
    exact .nil
  | cons n ns ih =>
    intro vs w
    rw [List.map_cons] at w
    cases w with
    | cons a b =>
      cases a
      exact .cons _ _ (ih _ b)

theorem script_of {l : OpenLaw} {n : Nat} (hn : l.most = some n) {P : Params} {h : Heap} {args : List WData} {vals : List Value}
    (hpre : l.row.toRowW.claim.pre args = true) (hwl : WellAll P h vals args) :
    ∃ a vs ns, vals = [Value.ref a] ∧ args = [WData.list (ns.map WData.int)] ∧ h.get? a = some { cls := .type "list", data := .seq vs.toArray } ∧ IntsAre vs ns ∧ ns.length ≤ n := by
  have hsh : WShape.hasAll [] args [.list .int] = true := (pre_splitW hpre).1
  have hc : l.pre.holds [] { args := args } = true := (pre_splitW hpre).2
  obtain ⟨d, r, rfl, h1, h2⟩ := hasAllW_cons hsh
  obtain rfl := hasAllW_nil h2
  obtain ⟨xs, rfl, h3⟩ := hasW_list h1
  obtain ⟨ns, rfl⟩ := items_int h3
  have hlen : ns.length ≤ n := by
    unfold OpenLaw.pre at hc
    have h4 : (WTm.not (.lt (.lit (.int (n : Int))) (.len (.arg 0)))).holds [] { args := [.list (ns.map .int)] } = true := by
      have h4 := (holds_andW hc).1
      rw [hn] at h4
      exact h4
    have h5 := condW_of h4 (w_not (w_lt w_lit (w_len_list (w_arg rfl))))
    rw [List.length_map] at h5
    refine Nat.le_of_not_lt fun q => ?_
    have q' : (n : Int) < ((ns.length : Nat) : Int) := by omega
    first
      | (rw [decide_eq_true q'] at h5; exact absurd h5 (by decide))
      | (simp at h5; omega)
  cases hwl with
  | cons w1 w2 =>
    cases w2
    cases w1 with
    | list ho hall => exact ⟨_, _, ns, rfl, rfl, ho, ints_of_wellAll ns _ hall, hlen⟩

theorem post_true (l : OpenLaw) (args : List WData) : l.row.toRowW.claim.post args (.bool true) args = true :=
  postW_of (r := l.row.toRowW) (X := (true == true))
    (show WShape.has [] (.bool true) .bool = true by first | rfl | decide | simp [WShape.has, WShape.arms, WShape.armsAll])
    (show (WTm.eq .res (.lit (.bool true))).value [] { args := args, res := some (.bool true), after := args } = some (.bool (true == true)) from w_eq_bool (w_res rfl) w_lit) rfl

/-! ### the attachment: holds_open's last premise (the goal 'hc' behind k_head) from a wpAny of the law's body -/
/-- the same from a codeAny of the CALL (for a layer whose function contracts speak of calls) -/
theorem attach_call {l : OpenLaw} {n : Nat} {q : Program} {loose : List Str} {XP : (Str → Option Value) → Heap → Prop} {YP : World → Heap → Prop} {d : DefRec}
    (hn : l.most = some n) (hdf : d.params.defaults = [])
    (call : ∀ (w : World) (s₀ s₁ : Shared) (mg mb : Str → Option Value) (fa : Addr) (o : Obj) (pm cd doc : Value) (a : Addr) (vs : List Value) (ns : List Int),
      Ground q loose [] XP w s₀ mg mb s₁.heap → YP w s₁.heap →
      s₁.heap.get? fa = some o → o.data = .func (docDef d.name d.params d.body d.scope pm cd doc) → s₁.heap.CodeRec cd d.name → mg d.name = some (.ref fa) →
      s₁.heap.get? a = some { cls := .type "list", data := .seq vs.toArray } → IntsAre vs ns → ns.length ≤ n → s₁.gens = #[] →
      codeAny (model l.prog w) callerA (.call (.ref fa) ⟨[.ref a], []⟩) (fun r s' => r = .ok (.ret (.bool true)) ∧ OldK s₁.heap s'.heap ∧ s'.os = s₁.os ∧ AllBare s'.gens) s₁) :
    WalkO q loose XP YP l.row.toRowW d [] (fun f vs => PySem.call f vs) := by
  intro w s₀ s₁ mg mb G Y fa o pm cd doc dV kV ho hd hcd hD hmg hg args vals as hpre hlay hrd hwl hlo
  obtain rfl : dV = .none := Dflts.none hD hdf
  obtain rfl : kV = .none := Dflts.noKw hD
  obtain ⟨a, vs, ns, rfl, rfl, hobj, hints, hlen⟩ := script_of hn hpre hwl
  refine enter_call (codeAny_mono (call w s₀ s₁ mg mb fa o pm cd doc a vs ns G Y ho (fd_plain hd) hcd hmg hobj hints hlen hg) fun r s' hq => ?_)
  obtain ⟨rfl, h2, h3, h4⟩ := hq
  exact ⟨.inl ⟨.bool true, .bool true, [], rfl, fun _ => rfl, .bool true, post_true l _, fun _ => ⟨List.Pairwise.nil, fun _ hm => (nomatch hm)⟩⟩, h2, h3, h4⟩

/-! ### rules over ANY heap (no ledger) from facts about the written part K: the library's own take a ledger (News) for what they write -/
section
variable {prog : Program} {w : World} {A : Around} {E : Value → Shared → Prop} {s : Shared} {K : Frag}

/-! the whole heap as the ledger: makes every rule that writes through a ledger a rule over any heap -/
def noObjs (h : Heap) : Heap := { h with objs := #[] }
def ledger (h : Heap) (L d : Addr) : List (Addr × Obj) := (List.range h.objs.size).filterMap fun a => if a = L ∨ a = d then none else (h.get? a).map fun o => (a, o)
end
end Att

namespace L2
open PySem PySem.Spec PyProof.Rows

theorem vals_ints : ∀ {vs : List Value} {ns : List Int}, IntsAre vs ns → Vals (ns.map V.int) vs
  | _, _, .nil => .nil
  | _, _, .cons n t h => .cons ⟨t, rfl⟩ (vals_ints h)

/-- nothing is tracked but the script, known to the object (or it is an object of the module) -/
def Only (H : Hp) : Prop := ∀ b, H b = none ∨ ∃ o xs, H b = some (.frz o (.lst xs))

/-- THE HEAD: the law's promise, at the heap behind the top. F, the promise of the law's def, may use that base is part of the heap (so K.In base, base.Ns mainGlobals mg stand in Mod) -/
theorem law_call {P : Program} {w : World} {K : PySem.W.Frag} {mg mb : Str → Option Value} {CX : CXT} {k : Nat} {fa a : Addr} {fd : FuncData} {x : Str} {sp : Sp} {s₁ : Shared} {vs : List Value} {ns : List Int}
    (KX : K.In s₁.heap) (hns : s₁.heap.Ns mainGlobals mg) (hb : s₁.heap.Ns builtinsNs mb) (hbb : ∀ x : Str, x ≠ "__name__" → mb x = bootBuiltins x) (hlim : s₁.heap.NoLimit) (hg : s₁.gens = #[])
    (ha : s₁.heap.get? a = some { cls := .type "list", data := .seq vs.toArray }) (hi : IntsAre vs ns) (hl : ns.length ≤ sizeLine) (hr : Room k callerA)
    (F : ∀ base : Heap, K.In base → base.Ns mainGlobals mg → FnOk P w K mg base CX k fa fd [x] sp) (hbind : ∀ (s : Shared) (u : Value), BindsTo s fd ⟨[u], []⟩ [(x, u)])
    (hsp : ∀ H : Hp, Only H → SqL K H a (ns.map V.int) → sp [.ref a] H (fun v _ => v = .bl true) fun _ _ _ => False)
    (hCX : ∀ H e s', CX [] H s₁ (fun _ _ _ => False) e s' → False) :
    codeAny (model P w) callerA (.call (.ref fa) ⟨[.ref a], []⟩) (fun r s' => r = .ok (.ret (.bool true)) ∧ OldK s₁.heap s'.heap ∧ s'.os = s₁.os ∧ AllBare s'.gens) s₁ := by
  have rv := vals_ints hi
  have lenV := hi.length
  -- from an abstract heap in which nothing but the script may be tracked
  have core : ∀ H : Hp, Only H → SqL K H a (ns.map V.int) → HOk P w H s₁.heap → (∀ b, H b ≠ none → b = a) → (H a ≠ none → K.lookup a = none) →
      codeAny (model P w) callerA (.call (.ref fa) ⟨[.ref a], []⟩) (fun r s' => r = .ok (.ret (.bool true)) ∧ OldK s₁.heap s'.heap ∧ s'.os = s₁.os ∧ AllBare s'.gens) s₁ := by
    intro H hO hS hok hA hK
    have base_of : ∀ {b : Addr} {o : Obj}, s₁.heap.get? b = some o → H b = none → (hidT s₁.heap H).get? b = some o := fun e n => hidT_get e n
    have noA : ∀ {b : Addr} {o : Obj} {es : Array DictEntry} {ep : Nat}, s₁.heap.get? b = some o → o.data = .dict es ep → H b = none := fun {b o es ep} e d => by
      cases q : H b with
      | none => rfl
      | some u =>
        have e' : b = a := hA b (by rw [q]; simp)
        subst e'
        rw [ha] at e; cases e
        have d' : Data.seq vs.toArray _ = Data.dict es ep := d
        cases d'
    have nsK : ∀ {b : Addr} {m : Str → Option Value}, s₁.heap.Ns b m → (hidT s₁.heap H).Ns b m := fun {b m} ⟨o, es, ep, e, d, r⟩ => ⟨o, es, ep, base_of e (noA e d), d, r⟩
    have hKb : K.In (hidT s₁.heap H) := fun b o e => base_of (KX b o e) (by
      cases q : H b with
      | none => rfl
      | some u =>
        have e' : b = a := hA b (by rw [q]; simp)
        subst e'
        rw [hK (by rw [q]; simp)] at e; cases e)
    have hM : Mod K mg (hidT s₁.heap H) := ⟨hKb, nsK hns, ⟨mb, nsK hb, hbb⟩, let ⟨mc, h1, h2⟩ := hlim; ⟨mc, nsK h1, h2⟩⟩
    have e0 : Env0 P w K mg (hidT s₁.heap H) callerA [] s₁ H := ⟨rfl, hM, fun b o e => of_hidT e, Nat.le_of_eq (hidT_size _ _), trivial, fun b hb => absurd (show b ∈ ([] : List Addr) from hb) (by simp), hok, .of_eq hg⟩
    refine codeAny_mono ((F _ hKb (nsK hns)).run callerA [] s₁ H ⟨[.ref a], []⟩ [.ref a] [.ref a] _ _ hr e0 (hbind s₁ (.ref a)) (.cons rfl .nil) (hsp H hO hS)) fun r s' h => ?_
    cases r with
    | error e => exact (hCX H e s' h).elim
    | ok fl =>
      cases fl with
      | next => exact False.elim h
      | brk => exact False.elim h
      | cont => exact False.elim h
      | ret u =>
        obtain ⟨v, H', os, bare, un, hok', r', q⟩ := h
        have q' : v = .bl true := q
        subst q'
        obtain rfl : u = Value.bool true := r'
        refine ⟨rfl, OldK.of_keep fun b o e => ?_, os, bare⟩
        cases q : H b with
        | none => exact un.keep b o e q (by intro z; exact absurd (show b ∈ ([] : List Addr) from z) (by simp)) (by simp)
        | some u =>
          rcases hO b with z | ⟨ob, xs, z⟩
          · rw [q] at z; cases z
          · have z2 := un.frzs b ob _ z
            obtain ⟨e1, _⟩ := hok b _ z
            obtain ⟨e2, _⟩ := hok' b _ z2
            rw [e] at e1; cases e1
            exact e2
  cases hk : K.lookup a with
  | some o =>
    -- the script is one of the module's own objects
    have e := KX a o hk
    rw [ha] at e
    cases e
    refine core (fun _ => none) (fun _ => .inl rfl) (.inr ⟨_, vs.toArray, _, hk, rfl, rfl, rfl, by rw [List.size_toArray, lenV]; exact hl, by simpa using rv⟩) (fun b u z => by have z' : (none : Option HO) = some u := z; cases z') (fun b z => absurd rfl z) fun z => absurd rfl z
  | none =>
    refine core (fun b => if b = a then some (.frz { cls := .type "list", data := .seq vs.toArray } (.lst (ns.map V.int))) else none) (fun b => ?_) (.inl (.inr ⟨{ cls := .type "list", data := .seq vs.toArray }, if_pos rfl⟩)) (fun b u z => ?_) (fun b z => ?_) fun _ => hk
    · by_cases hb : b = a
      · exact .inr ⟨_, _, if_pos hb⟩
      · exact .inl (if_neg hb)
    · by_cases hb : b = a
      · have z' := (if_pos hb).symm.trans z
        cases z'
        subst hb
        exact ⟨ha, by rw [List.length_map]; exact hl, vs, _, rv, ha⟩
      · have z' := (if_neg hb).symm.trans z
        cases z'
    · by_cases hb : b = a
      · exact hb
      · exact absurd (if_neg hb) z
end L2

namespace L2
open PySem PySem.Spec PyProof.Rows

abbrev KOf {K : PySem.W.Frag} {h : Heap} (_ : K.In h) : PySem.W.Frag := K

/-- the goal that k_head leaves (case hc), from the law's promise. F gives the function object fd (K's own) once, then the promise over every base -/
theorem walk_of {l : PySem.W.OpenLaw} {n k : Nat} {q : Program} {loose : List Str} {XP : (Str → Option Value) → Heap → Prop} {YP : World → Heap → Prop} {d : DefRec} {K : Params → PySem.W.Frag} {CX : World → CXT} {sp : World → Sp} {x : Str}
    (hn : l.most = some n) (hn2 : n ≤ sizeLine) (hdf : d.params.defaults = []) (hr : Room k callerA)
    (hY : ∀ (w : World) (h : Heap), YP w h → (K w.params).In h)
    (F : ∀ (w : World) (mg : Str → Option Value) (fa : Addr) (h : Heap), (K w.params).In h → h.Ns mainGlobals mg → mg d.name = some (.ref fa) →
      ∃ fd : FuncData, (∀ (s : Shared) (u : Value), BindsTo s fd ⟨[u], []⟩ [(x, u)]) ∧
        ∀ base : Heap, (K w.params).In base → base.Ns mainGlobals mg → FnOk l.prog w (K w.params) mg base (CX w) k fa fd [x] (sp w))
    (hsp : ∀ (w : World) (H : Hp) (a : Addr) (ns : List Int), ns.length ≤ n → Only H → SqL (K w.params) H a (ns.map V.int) → sp w [.ref a] H (fun v _ => v = .bl true) fun _ _ _ => False)
    (hCX : ∀ (w : World) (H : Hp) (s : Shared) (e : Value) (s' : Shared), CX w [] H s (fun _ _ _ => False) e s' → False) :
    PySem.W.WalkO q loose XP YP l.row.toRowW d [] (fun f vs => PySem.call f vs) := by
  refine Att.attach_call hn hdf fun w s₀ s₁ mg mb fa o pm cd doc a vs ns G Y ho hd hcd hmg hobj hints hlen hg => ?_
  have KX := hY w _ Y
  obtain ⟨fd, hb, hF⟩ := F w mg fa _ KX G.T.g hmg
  exact law_call KX G.T.g G.T.b G.T.builtins G.T.nolimit hg hobj hints (Nat.le_trans hlen hn2) hr hF hb (fun H hO hS => hsp w H a ns hlen hO hS) fun H e s' => hCX w H s₁ e s'
end L2

/- THE LAST THEOREM (shape; LID, My.* are yours):
   My.Adr: a structure of the addresses that your layer names (classes, functions); My.Txt K t: a structure (Prop) of the equations over K;
   My.txt_mk : {K} {implicit addresses ..} (e1 : nsIn K mainGlobals "law" = some (some (.ref f))) (e2 : K.lookup f = some ⟨oc, od, .func (fnOf "law" "law" params body scope dV kV doc pm an cdv ct), sl⟩) (e3 : codeIn K cdv "law" = true) .. : ∃ t, My.Txt K t

set_option maxRecDepth 100000 in
set_option maxHeartbeats 0 in
theorem PySem.Challenge.cw_LID_holds : PySem.Challenge.rw_LID.Holds := by
  w_on; o_law; k_head; (case hw => w_witness2)
  k_fill
  refine L2.walk_of (l := PySem.Challenge.rw_LID) (n := 63) (k := 40) (x := "script") (CX := fun w => ..) (sp := fun _ => My.sp_law) rfl (by decide) rfl ⟨rfl, by decide, by decide⟩ (fun w h Y => PySem.W.kIn_of Y) ?F ?S ?C
  case F =>
    intro w mg fa h KX G hmg
    have T : ∃ t, My.Txt (L2.KOf KX) t := by
      dsimp only [L2.KOf]                          -- K must stand as «<heap const> w.params» for k_is
      refine' My.txt_mk ?e1 ?e2 ?e3 ..
      (case e1 => PySem.W.k_is)                    -- in the order: a name -> its address -> its object -> its parts
      (case e2 => PySem.W.k_is)
      ..
    obtain ⟨t, T⟩ := T
    have e0 := hmg.symm.trans (PySem.W.mg_of KX G T.law)
    cases e0                                       -- fa is the law's own address
    exact ⟨_, fun s u => .of_eq rfl, fun base kb nb => My.law_fn T kb nb⟩     -- if «.of_eq rfl» comes too early: refine' ⟨_, ?b, fun base kb nb => My.law_fn T kb nb⟩; exact fun s u => .of_eq rfl
  case S => exact fun w H a ns hl hO hS => ..
  case C => exact ..
(the tactic k_is has no namespace: write k_is) -/

/-! SHORT WORDS over the layer: a def of the text, its body, what a loop and a test want. -/
namespace L2
open PySem PySem.Spec PyProof.Rows

/-! ### the text by places -/
/-- the j-th statement of a class's body -/
def inClass (s : Stmt) (j : Nat) : Stmt := match s with
  | .ClassDef _ _ _ body _ _ _ _ _ _ _ => body.getD j (.Pass ⟨0, 0, 0, 0⟩)
  | _ => .Pass ⟨0, 0, 0, 0⟩
def defArgs (s : Stmt) : Arguments := match s with
  | .FunctionDef _ a _ _ _ _ _ _ _ _ => a
  | _ => { posonlyargs := [], args := [], vararg := none, kwonlyargs := [], kw_defaults := [], kwarg := none, defaults := [] }
def defBody (s : Stmt) : List Stmt := match s with
  | .FunctionDef _ _ b _ _ _ _ _ _ _ => b
  | _ => []
def defScope (s : Stmt) : Scope := match s with
  | .FunctionDef _ _ _ _ _ _ sc _ _ _ => sc
  | _ => { kind := .function, names := [], isGenerator := false, isCoroutine := false }

/-! ### no exception leaves a def -/
abbrev CX0 : CXT := fun _ _ _ _ _ _ => False
abbrev E0 : XK := fun _ _ _ => False
theorem pass0 {X : Cx} : Passes CX0 X E0 := fun _ _ _ _ _ _ _ h => h.elim

/-! ### a def (or method) of the text as it stands behind the top -/
structure Fun (K : PySem.W.Frag) (x qual : Str) (st : Stmt) (f : Addr) (fd : FuncData) : Prop where
  ex : ∃ (oc : Value) (od : Option Addr) (kV doc pm : Value) (an : Option Addr) (cdv ct : Value) (osl : Array (Option Value)),
    fd = PySem.W.fnOf x qual (defArgs st) (defBody st) (defScope st) .none kV doc pm an cdv ct ∧ K.lookup f = some ⟨oc, od, .func fd, osl⟩ ∧ PySem.W.codeIn K cdv qual = true
  kp : PySem.W.keepIn K (.ref f) = true
section
variable {P : Program} {w : World} {K : PySem.W.Frag} {mg : Str → Option Value} {base : Heap}
/-- THE RULE for a def: its body as a term of rules, and the reading of that term -/
theorem Fun.ok {x qual : Str} {st : Stmt} {f : Addr} {fd : FuncData} {N ps : List Str} {k : Nat} {sp : Sp} (F : Fun K x qual st f fd) (S : FnScope N ps (defScope st)) (len : ∀ vs H Q E, sp vs H Q E → vs.length = ps.length)
    (hbody : ∀ (cdv : Value) (A : Around) (outer : List Env) (s : Shared) (H : Hp) (vs : List V) (Q : VK) (E : XK), Room k (A.deeper (envOfC qual (defScope st) s.heap.objs.size f cdv)) → sp vs H Q E →
      ∃ t, PSs (cxOf CX0 P w K mg base N qual (defScope st) f cdv A outer s H E).nox (defBody st) t ∧ t { nx := fun _ H' => Q .non H', rt := Q } (start N vs) H) : FnOk P w K mg base CX0 (k + 1) f fd ps sp := by
  obtain ⟨oc, od, kV, doc, pm, an, cdv, ct, osl, rfl, lk, hcd⟩ := F.ex
  refine fn_of lk hcd S len fun A outer s H vs Q E hr hsp => ?_
  obtain ⟨t, h, q⟩ := hbody cdv A outer s H vs Q E hr hsp
  exact ⟨t, h.nox, q⟩
/-- how its arguments bind (no defaults): h is «fun _ _ _ _ _ _ us hl => match us, hl with | [_, _], _ => rfl», one _ a parameter -/
theorem Fun.binds {x qual : Str} {st : Stmt} {f : Addr} {fd : FuncData} {ps : List Str} (F : Fun K x qual st f fd)
    (h : ∀ (kV doc pm : Value) (an : Option Addr) (cdv ct : Value) (us : List Value), us.length = ps.length → bindArgs (PySem.W.fnOf x qual (defArgs st) (defBody st) (defScope st) .none kV doc pm an cdv ct) ⟨us, []⟩ = pure (ps.zip us)) : Binds K fd ps [] := by
  obtain ⟨oc, od, kV, doc, pm, an, cdv, ct, osl, rfl, lk, hcd⟩ := F.ex
  exact .all (h kV doc pm an cdv ct)
theorem fun_mk {x qual : Str} {st : Stmt} {f : Addr} {oc : Value} {od an : Option Addr} {osl : Array (Option Value)} {kV doc pm cdv ct : Value} (l : K.lookup f = some ⟨oc, od, .func (PySem.W.fnOf x qual (defArgs st) (defBody st) (defScope st) .none kV doc pm an cdv ct), osl⟩)
    (c : PySem.W.codeIn K cdv qual = true) (k : PySem.W.keepIn K (.ref f) = true) : Fun K x qual st f (PySem.W.fnOf x qual (defArgs st) (defBody st) (defScope st) .none kV doc pm an cdv ct) := ⟨⟨oc, od, kV, doc, pm, an, cdv, ct, osl, rfl, l, c⟩, k⟩
end
theorem small1000 {n : Nat} (h : n ≤ 1000) : n < sizeLine := Nat.lt_of_le_of_lt h (by decide)

/-! ### expressions in short: the name that stands in the i-th slot -/
section
variable {X : Cx}
theorem pv (i : Nat) {x : Str} {pos : Pos} (hN : X.N[i]? = some x := by rfl) (hv : Vis X.env.scope x := by first | exact Or.inl rfl | exact Or.inr (Or.inl rfl) | exact Or.inr (Or.inr rfl)) (hd : (x == ("__debug__" : Str)) = false := by decide)
    (hcd : (x == ("__classdict__" : Str)) = false := by decide) : PE X (.Name x pos) (tVar i) := pe_var hN hv hd hcd
end

/-! ### tests -/
theorem iteF {A B : Prop} (h : B) : if false = true then A else B := by
  rw [if_neg Bool.false_ne_true]
  exact h
theorem iteT {A B : Prop} (h : A) : if true = true then A else B := by
  rw [if_pos rfl]
  exact h
theorem ite2 {c A B : Prop} [Decidable c] (h1 : c → A) (h2 : ¬ c → B) : if c then A else B := by
  by_cases h : c
  · rw [if_pos h]
    exact h1 h
  · rw [if_neg h]
    exact h2 h
/-! ### heaps -/
/-- all that was tracked is as it was -/
def Same (H H' : Hp) : Prop := ∀ b o, H b = some o → H' b = some o
theorem Same.refl (H : Hp) : Same H H := fun _ _ h => h
theorem Same.trans {H H1 H2 : Hp} (a : Same H H1) (b : Same H1 H2) : Same H H2 := fun c o h => b c o (a c o h)
theorem Same.free {H H' : Hp} (e : Same H H') {l : Addr} (h : H' l = Option.none) : H l = Option.none := by
  cases q : H l with
  | none => rfl
  | some o =>
    rw [e l o q] at h
    cases h
theorem Same.seq {K : PySem.W.Frag} {H H' : Hp} {a : Addr} {xs : List V} (e : Same H H') (h : SqL K H a xs) : SqL K H' a xs := by
  rcases h with (h | ⟨o, h⟩) | h
  · exact .inl (.inl (e _ _ h))
  · exact .inl (.inr ⟨o, e _ _ h⟩)
  · exact .inr h

end L2

set_option Elab.async false
set_option linter.all false
set_option maxRecDepth 100000
set_option maxHeartbeats 4000000

/-! ### list comprehensions -/
namespace L2
open PySem PySem.Spec PyProof.Rows

/-- the values of a comprehension's names at its start: its own (none yet), then the captured ones -/
def capS (n : Nat) (cap : List Nat) (σ : St) : St := List.replicate n none ++ cap.map fun j => (σ[j]?).getD none
def capN (NX : List Str) (own : List Str) (cap : List Nat) : List Str := own ++ cap.map fun j => (NX[j]?).getD Str.empty

/-- the context of a comprehension's block -/
def compCx (X : Cx) (scope : Scope) (cl : List (Str × Addr)) (N : List Str) (s : Shared) (H : Hp) (fp : List Addr) (C : Addr) : Cx where
  prog := X.prog
  w := X.w
  K := X.K
  mg := X.mg
  base := X.base
  A := X.A
  N := N
  s₀ := s
  H₀ := H
  env := compEnvC scope cl C X.env
  outer := X.stack
  stack := X.stack
  ex := fp
  fn := fun _ => false
  calm := X.calm
  pn := []
  xe := fun _ _ => False

def compOk (sc : Scope) (NX : List Str) (scope : Scope) (cap : List Nat) : Bool :=
  decide (scope.kind = .function) &&
  scope.names.all (fun y => !decide (y.2 = .cell) && (!decide (y.2 = .local) || decide (scope.names.lookup y.1 = some .local)) &&
    (!decide (y.2 = .free) || decide (sc.names.lookup y.1 = some .cell) || decide (sc.names.lookup y.1 = some .free))) &&
  cap.all (fun j => match NX[j]? with
    | some x => decide (scope.names.lookup x = some .free)
    | none => false)

structure CompOk (sc : Scope) (NX : List Str) (scope : Scope) (cap : List Nat) : Prop where
  kind : scope.kind = .function
  nocell : ∀ y ∈ scope.names, y.2 ≠ .cell
  names : ∀ y ∈ scope.names, y.2 = .local → scope.names.lookup y.1 = some .local
  free : ∀ y ∈ scope.names, y.2 = .free → sc.names.lookup y.1 = some .cell ∨ sc.names.lookup y.1 = some .free
  capf : ∀ j ∈ cap, ∃ x, NX[j]? = some x ∧ scope.names.lookup x = some .free

theorem compOk_of {sc : Scope} {NX : List Str} {scope : Scope} {cap : List Nat} (h : compOk sc NX scope cap = true) : CompOk sc NX scope cap := by
  unfold compOk at h
  rw [Bool.and_eq_true, Bool.and_eq_true, decide_eq_true_eq, List.all_eq_true, List.all_eq_true] at h
  obtain ⟨⟨h1, h2⟩, h3⟩ := h
  refine ⟨h1, fun y hy e => ?_, fun y hy e => ?_, fun y hy e => ?_, fun j hj => ?_⟩
  · have q := h2 y hy
    simp [e] at q
  · have q := h2 y hy
    simpa [e] using q
  · have q := h2 y hy
    simpa [e] using q
  · have q := h3 j hj
    cases e : NX[j]? with
    | none => rw [e] at q; cases q
    | some x => rw [e] at q; exact ⟨x, rfl, by simpa using q⟩

theorem lookup_relabel {env : Env} {x : Str} : ∀ {names : List (Str × NameKind)},
    (names.map fun (n, k) => if (k == NameKind.free && env.scope.kind == .function && env.kindOf n == some .cell) then (n, NameKind.cell) else (n, k)).lookup x =
      (names.lookup x).map fun k => if (k == NameKind.free && env.scope.kind == .function && env.kindOf x == some .cell) then NameKind.cell else k
  | [] => rfl
  | (n, k) :: r => by
    have ih := @lookup_relabel env x r
    show List.lookup x ((if (k == NameKind.free && env.scope.kind == .function && env.kindOf n == some .cell) = true then (n, NameKind.cell) else (n, k)) :: _) = _
    by_cases hx : x = n
    · subst hx
      by_cases hc : (k == NameKind.free && env.scope.kind == .function && env.kindOf x == some .cell) = true
      · rw [if_pos hc]; simp only [List.lookup_cons, beq_self_eq_true, Option.map_some]; rw [if_pos hc]
      · rw [if_neg hc]; simp only [List.lookup_cons, beq_self_eq_true, Option.map_some]; rw [if_neg hc]
    · have hb : (x == n) = false := by simpa using hx
      by_cases hc : (k == NameKind.free && env.scope.kind == .function && env.kindOf n == some .cell) = true
      · rw [if_pos hc]; simp only [List.lookup_cons, hb]; exact ih
      · rw [if_neg hc]; simp only [List.lookup_cons, hb]; exact ih

theorem relabel_free {scope : Scope} {env : Env} {x : Str} (h : scope.names.lookup x = some .free) : (relabel scope env).names.lookup x = some .cell ∨ (relabel scope env).names.lookup x = some .free := by
  have e : (relabel scope env).names.lookup x = _ := lookup_relabel
  rw [e, h]
  show some (if _ then _ else _) = _ ∨ some (if _ then _ else _) = _
  split
  · exact .inl rfl
  · exact .inr rfl
theorem relabel_captured {scope : Scope} {env : Env} {x : Str} (nc : ∀ y ∈ scope.names, y.2 ≠ .cell) (h : (relabel scope env).names.lookup x = some .cell ∨ (relabel scope env).names.lookup x = some .free) : scope.names.lookup x = some .free := by
  have e : (relabel scope env).names.lookup x = _ := lookup_relabel
  rw [e] at h
  cases q : scope.names.lookup x with
  | none => rw [q] at h; rcases h with h | h <;> cases h
  | some k =>
    have hk : k ≠ .cell := nc _ (PySem.mem_of_lookup q)
    rw [q] at h
    cases k <;> first | rfl | exact absurd rfl hk | (rcases h with h | h <;> simp at h)

/-- the closure of a comprehension's block: the cells of the frame around it -/
theorem closure_of {scope : Scope} {env : Env} (h : ∀ y ∈ scope.names, y.2 = .free → ∃ c, env.cells.lookup y.1 = some c) :
    ∃ cl, closureFor scope env = pure cl ∧ (∀ x c, cl.lookup x = some c → env.cells.lookup x = some c) ∧ ∀ y ∈ scope.names, y.2 = .free → cl.lookup y.1 = env.cells.lookup y.1 := by
  unfold closureFor
  have go : ∀ (names : List (Str × NameKind)) (cs : List (Str × Addr)), (∀ y ∈ names, y.2 = .free → ∃ c, env.cells.lookup y.1 = some c) → (∀ x c, cs.lookup x = some c → env.cells.lookup x = some c) →
      ∃ cl, (forIn names cs fun (p : Str × NameKind) (r : List (Str × Addr)) => (match p with
          | (name, kind) => if (kind == NameKind.free) = true then do let c ← cellOf env name; pure (ForInStep.yield ((name, c) :: r)) else pure (ForInStep.yield r) : Sem (ForInStep (List (Str × Addr))))) = pure cl ∧
        (∀ x c, cl.lookup x = some c → env.cells.lookup x = some c) ∧ (∀ x c, cs.lookup x = some c → cl.lookup x = env.cells.lookup x) ∧ ∀ y ∈ names, y.2 = .free → cl.lookup y.1 = env.cells.lookup y.1 := by
    intro names
    induction names with
    | nil => intro cs _ hc; exact ⟨cs, rfl, hc, fun x c e => by rw [e, hc x c e], fun y hy => nomatch hy⟩
    | cons p r ih =>
      intro cs hn hc
      obtain ⟨n, k⟩ := p
      by_cases hk : k = .free
      · subst hk
        obtain ⟨c, ec⟩ := hn (n, .free) List.mem_cons_self rfl
        have ecell : cellOf env n = pure c := by unfold cellOf; rw [ec]
        have hc' : ∀ x c', ((n, c) :: cs).lookup x = some c' → env.cells.lookup x = some c' := fun x c' e => by
          by_cases hx : x = n
          · subst hx
            simp only [List.lookup_cons, beq_self_eq_true] at e
            rw [ec]; exact e
          · have hb : (x == n) = false := by simpa using hx
            simp only [List.lookup_cons, hb] at e
            exact hc x c' e
        obtain ⟨cl, e1, e2, e3, e4⟩ := ih ((n, c) :: cs) (fun y hy => hn y (List.mem_cons_of_mem _ hy)) hc'
        refine ⟨cl, ?_, e2, fun x c' e => ?_, fun y hy hf => ?_⟩
        · rw [List.forIn_cons]
          simp only [beq_self_eq_true, if_true, ecell, pure_bind]
          exact e1
        · by_cases hx : x = n
          · subst hx
            exact e3 x c (by simp only [List.lookup_cons, beq_self_eq_true])
          · have hb : (x == n) = false := by simpa using hx
            exact e3 x c' (by simp only [List.lookup_cons, hb]; exact e)
        · rcases List.mem_cons.mp hy with rfl | hy
          · exact e3 n c (by simp only [List.lookup_cons, beq_self_eq_true])
          · exact e4 y hy hf
      · obtain ⟨cl, e1, e2, e3, e4⟩ := ih cs (fun y hy => hn y (List.mem_cons_of_mem _ hy)) hc
        refine ⟨cl, ?_, e2, e3, fun y hy hf => ?_⟩
        · rw [List.forIn_cons]
          have hb : (k == NameKind.free) = false := by simpa using hk
          simp only [hb, Bool.false_eq_true, if_false, pure_bind]
          exact e1
        · rcases List.mem_cons.mp hy with rfl | hy
          · exact absurd hf hk
          · exact e4 y hy hf
  obtain ⟨cl, e1, e2, _, e4⟩ := go scope.names [] h (fun x c e => by simp at e)
  refine ⟨cl, ?_, e2, e4⟩
  show (forIn scope.names [] _ >>= fun cs => pure cs) = pure cl
  rw [bind_pure]
  exact e1

/-! the tests behind the clause -/
def PTs (X : Cx) (ifs : List Expr) (t : TT) : Prop :=
  ∀ (pins : List (Addr × Obj)) (s : Shared) (σ : St) (H : Hp) (Q : Bool → Hp → Prop), Inv X pins σ H s → t σ H Q →
    wpAny (model X.prog X.w) X.A (forIn ifs true fun c r => if r = true then do let ok ← isTrue c X.env (eval c X.env); pure (ForInStep.yield ok) else pure (ForInStep.yield r)) (TP X pins σ Q) X.xe s
def tYes : TT := fun _ H Q => Q true H
section
variable {X : Cx}
theorem pts_nil : PTs X [] tYes := fun _ _ _ H _ I h => wpAny_tests_nil ⟨H, I, h⟩
theorem pts_one {c : Expr} {t : TT} (h : PT X c t) : PTs X [c] t := fun pins s σ H Q I q => wpAny_tests_one (h pins s σ H Q I q)

/-- several untracked records of ours have turned -/
theorem Inv.turnedL {t' : Nat} {its : List Addr} {pins : List (Addr × Obj)} {σ : St} {H : Hp} {s : Shared} {h' : Heap} (I : Inv X pins σ H s) (k : ∀ b o, b ∉ its → s.heap.get? b = some o → h'.get? b = some o)
    (hf : ∀ b ∈ its, FpOk X pins H b) : Inv X pins σ H { s with heap := h', toks := t' } := by
  have nit : ∀ b u, H b = some u → b ∉ its := fun b u e z => by rw [(hf b z).1] at e; cases e
  refine I.step (g' := s.gens) (d' := s.drawn) (ch := its) (fun b hb => ?_) (fun b o _ _ hc e _ => k b o hc e) (fun b o _ _ hc e _ => ⟨o.slots, k b o hc e⟩) (fun _ _ _ _ n => n)
    (fun b o hc e => ⟨o, k b o hc e⟩) (fun _ _ e => e) (fun _ _ _ e => e) (fun b ps e => ⟨#[], by rw [e]; simp⟩) (fun m hm => ?_) (fun b u e => ?_) I.bare
  · obtain ⟨_, f1, _, f3, f4, f5⟩ := hf b hb
    exact ⟨f3, f1, f4, f5⟩
  · obtain ⟨o, es, ep, ho, r⟩ := hm
    exact ⟨o, es, ep, k _ o (fun z => (hf _ z).2.1 rfl) ho, r⟩
  · refine (I.hok b u e).stay (fun c v hc q => k c v ?_ q) (fun _ q => q) fun _ _ q => q
    rcases hc with z | z
    · rw [z]; exact nit b u e
    · exact nit c _ z

/-- what a comprehension's reading asks: its iterator; then, the new list at D, an invariant by the turn, a measure and the list so far -/
def tComp (n : Nat) (cap : List Nat) (wi : TI) (g : TG) (tt : TT) (te : TE) : TE := fun σ H Q => wi σ H fun J H1 => ∀ D, H1 D = none →
  ∃ W : Nat → Nat → List V → St → Hp → Prop, (∃ m, W 0 m [] (capS n cap σ) (upd H1 D (.lst []))) ∧ ∀ i m ys σ' H', W i m ys σ' H' →
    (J.stop i H' ∧ Q (.ref D) H') ∨ (J.go i H' ∧ ∃ N : List V → St → Hp → Prop, (∀ zs σ2 H2, N zs σ2 H2 → ∃ m', m' < m ∧ W (i + 1) m' zs σ2 H2) ∧ ∀ x H2, J.yld i H' x H2 → g x σ' H2 fun σ3 H3 => tt σ3 H3 fun b H4 =>
      if b = true then te σ3 H4 fun y H5 => H5 D = some (.lst ys) ∧ ys.length < sizeLine ∧ N (ys ++ [y]) σ3 (upd H5 D (.lst (ys ++ [y])))
      else N ys σ3 H4)

theorem compStart_inv {scope : Scope} {cl : List (Str × Addr)} {own : List Str} {cap : List Nat} {pins : List (Addr × Obj)} {σ : St} {H : Hp} {s : Shared} {fp : List Addr} {h₁ : Heap} {m₁ : Str → Option Value} {tk : Nat} (I : Inv X pins σ H s)
    (S : CompOk X.env.scope X.N scope cap) (c2 : ∀ x c, cl.lookup x = some c → X.env.cells.lookup x = some c) (c3 : ∀ y ∈ scope.names, y.2 = .free → cl.lookup y.1 = X.env.cells.lookup y.1)
    (hf : ∀ b ∈ fp, FpOk X pins H b) (hfo : ∀ b ∈ fp, b < s.heap.objs.size) (old : ∀ b o, s.heap.get? b = some o → h₁.get? b = some o)
    (hD : h₁.get? s.heap.objs.size = some { cls := .type "list", data := .seq #[] 0 }) (hC : h₁.Ns (s.heap.objs.size + 1) m₁) :
    Inv (compCx X scope cl (capN X.N own cap) s H fp (s.heap.objs.size + 1)) [] (capS own.length cap σ) (upd H s.heap.objs.size (.lst [])) { s with heap := h₁, toks := tk } := by
  have newD : ObjOk X.prog X.w (upd H s.heap.objs.size (.lst [])) h₁ s.heap.objs.size (.lst []) := ⟨Nat.zero_le _, [], 0, .nil, hD⟩
  have I' : Inv X pins σ (upd H s.heap.objs.size (.lst [])) { s with heap := h₁, toks := tk } := I.laid old (Nat.le_refl _) newD
  have hfr : ∀ a, s.heap.objs.size ≤ a → H a = none := fun a ha => I.hok.fresh ha
  refine ⟨⟨I.ok.mod, S.kind, I.ok.glob, I.ok.blt, Nat.le_succ _, fun x y c e1 e2 => I.ok.inj x y c (c2 _ _ e1) (c2 _ _ e2), fun x hx => ?_, fun x c z => absurd z (by intro q; cases q), I.ok.hd, I.ok.frames, .inl rfl, fun b hb => ?_, I.bs, Nat.le_trans I.ok.bsz I.sz, fun b o e hb => ?_, fun b hb => ?_, I.stack, I.stkFree⟩,
    rfl, I.bare, Un.laid old (Nat.le_refl _) (hfr _ (Nat.le_refl _)), ⟨m₁, hC, fun i x v e1 e2 e3 => ?_⟩, fun x c e => I'.cell x c (c2 _ _ e), ?_, fun x c e => I'.freeC x c (c2 _ _ e), fun p hp => absurd (show p ∈ ([] : List (Addr × Obj)) from hp) (by simp), I'.hok, ?_⟩
  · have hx' : (relabel scope X.env).names.lookup x = some .cell ∨ (relabel scope X.env).names.lookup x = some .free := hx
    have hfree := relabel_captured S.nocell hx'
    have hm := PySem.mem_of_lookup hfree
    obtain ⟨c, ec⟩ := I.ok.has x (S.free _ hm rfl)
    exact ⟨c, (c3 _ hm rfl).trans ec⟩
  · obtain ⟨f0, f1, f2, f3, f4, f5⟩ := hf b hb
    exact ⟨Nat.ne_of_lt (Nat.lt_succ_of_lt (hfo b hb)), fun x c e => f4 x c (c2 _ _ e)⟩
  · obtain ⟨f0, f1, f2, f3, f4, f5⟩ := hf b hb
    rcases f3 with z | z
    · exact I.ok.noex b o e z
    · exact absurd (Nat.lt_of_lt_of_le (Heap.lt_size (I.ok.bs b o e).1) z) (Nat.lt_irrefl _)
  · obtain ⟨f0, f1, f2, f3, f4, f5⟩ := hf b hb
    intro z
    rcases List.mem_cons.mp (I.stkSub b z) with q | q
    · exact f1 q
    · exact f2 q
  · have e2' : (List.replicate own.length none ++ cap.map fun j => (σ[j]?).getD none)[i]? = some (some v) := e2
    have e1' : (own ++ cap.map fun j => (X.N[j]?).getD Str.empty)[i]? = some x := e1
    by_cases hi : i < own.length
    · rw [List.getElem?_append_left (by simpa using hi), List.getElem?_replicate] at e2'
      split at e2' <;> cases e2'
    · rw [List.getElem?_append_right (by simpa using Nat.le_of_not_lt hi)] at e2'
      rw [List.getElem?_append_right (Nat.le_of_not_lt hi)] at e1'
      simp only [List.length_replicate, List.getElem?_map] at e2'
      simp only [List.getElem?_map] at e1'
      cases ej : cap[i - own.length]? with
      | none => rw [ej] at e1'; cases e1'
      | some j =>
        rw [ej] at e1' e2'
        obtain ⟨x', hx', hfree⟩ := S.capf j (List.mem_of_getElem? ej)
        have ex : x' = x := by
          have q : some ((X.N[j]?).getD Str.empty) = some x := e1'
          rw [hx'] at q; exact Option.some.inj q
        subst ex
        have eσ : σ[j]? = some (some v) := by
          have q : some ((σ[j]?).getD none) = some (some v) := e2'
          cases eq : σ[j]? with
          | none => rw [eq] at q; cases q
          | some o => rw [eq] at q; rw [← Option.some.inj q]; rfl
        have hm := PySem.mem_of_lookup hfree
        have hvis : Vis X.env.scope x' := .inr (S.free _ hm rfl)
        obtain ⟨m, _, hl⟩ := I'.loc
        obtain ⟨u, r, l⟩ := hl j x' v hx' eσ hvis
        refine ⟨u, r, .inr ⟨relabel_free hfree, ?_⟩⟩
        rcases l with ⟨k, _⟩ | ⟨_, c, ec, z⟩
        · rcases S.free _ hm rfl with q | q
          · have k' : X.env.scope.names.lookup x' = some .local := k
            rw [q] at k'; cases k'
          · have k' : X.env.scope.names.lookup x' = some .local := k
            rw [q] at k'; cases k'
        · exact ⟨c, (c3 _ hm rfl).trans ec, z⟩
  · show upd H s.heap.objs.size (.lst []) (s.heap.objs.size + 1) = none
    rw [upd_ne (Nat.succ_ne_self _)]
    exact hfr _ (Nat.le_succ _)
  · show (List.replicate own.length none ++ cap.map fun j => (σ[j]?).getD none).length = (own ++ cap.map fun j => (X.N[j]?).getD Str.empty).length
    simp

/-- behind the block: the frame around it again -/
theorem comp_back {scope : Scope} {cl : List (Str × Addr)} {N : List Str} {pins : List (Addr × Obj)} {σ σ' : St} {H H' : Hp} {s s' : Shared} {fp : List Addr} {C : Addr} (I : Inv X pins σ H s) (hf : ∀ b ∈ fp, FpOk X pins H b)
    (IY : Inv (compCx X scope cl N s H fp C) [] σ' H' s') : Inv X pins σ H' s' :=
  I.call' (ch := fp) IY.os IY.base IY.hok IY.bare fun b hb => by
    obtain ⟨f0, f1, f2, f3, f4, f5⟩ := hf b hb
    exact ⟨f3, f1, f4, f5⟩

theorem codeAny_compLoop_gen {prog : Program} {w : World} {A : Around} {R : Result → Shared → Prop} {s : Shared} {elt target iter : Expr} {ifs : List Expr} {scope : Scope} {pos : Pos} {it acc : Value} {env : Env} (I : Nat → Shared → Prop)
    (turn : ∀ n s, I n s → wpAny (model prog w) A (pyNext it) (fun r s₁ => match r with
      | none => R (.ok .next) s₁
      | some v => wpAny (model prog w) A (letOwnedTupleGo target it v) (fun _ s₁ => wpAny (model prog w) A (assign target env v) (fun _ s₂ =>
          wpAny (model prog w) A (forIn ifs true fun c r => if r = true then do let ok ← isTrue c env (eval c env); pure (ForInStep.yield ok) else pure (ForInStep.yield r)) (fun ok s₃ =>
            if ok = true then wpAny (model prog w) A (eval elt env) (fun x s₄ =>
              wpAny (model prog w) A (call (.builtin "list.append") [acc, x]) (fun _ s₅ => ∃ m, m < n ∧ I m s₅) (fun _ _ => False) s₄) (fun _ _ => False) s₃
            else ∃ m, m < n ∧ I m s₃) (fun _ _ => False) s₂) (fun _ _ => False) s₁) (fun _ _ => False) s₁) (fun _ _ => False) s)
    (n : Nat) (h : I n s) :
    codeAny (model prog w) A (.compLoop (.ListComp elt [⟨target, iter, ifs, 0⟩] scope pos) 0 it acc env) R s := by
  refine codeAny_loop rfl I (fun n s hI => ?_) n h
  show wpAny _ A ((compTurn (.ListComp elt [⟨target, iter, ifs, 0⟩] scope pos) 0 it acc env).onRaise (fun x => do noteFrame x env; theTreesLotGoes x)) _ _ s
  refine wpAny_noted ?_
  rw [compTurn_list]
  refine wpAny_bind (wpAny_standAt (wpAny_bind (wpAny_mono (turn n s hI) (fun r s₁ h₁ => ?_) fun _ _ h' => h'.elim)))
  cases r with
  | none => exact wpAny_pure h₁
  | some v =>
    refine wpAny_bind (wpAny_mono h₁ (fun _ s₁' h₁' => ?_) fun _ _ h' => h'.elim)
    refine wpAny_bind (wpAny_mono h₁' (fun _ s₂ h₂ => wpAny_bind (wpAny_mono h₂ (fun ok s₃ h₃ => ?_) fun _ _ h' => h'.elim)) fun _ _ h' => h'.elim)
    cases ok with
    | false => exact wpAny_pure ⟨rfl, h₃⟩
    | true =>
      exact wpAny_bind (wpAny_bind (wpAny_mono h₃ (fun x s₄ h₄ => wpAny_bind (wpAny_mono h₄ (fun _ s₅ h₅ => wpAny_pure (wpAny_pure ⟨rfl, h₅⟩)) fun _ _ h' => h'.elim)) fun _ _ h' => h'.elim))

/-- the block, ahead of what is done with the list -/
theorem comp_block {elt tg iter : Expr} {ifs : List Expr} {scope : Scope} {cl : List (Str × Addr)} {pos : Pos} {own : List Str} {cap : List Nat} {g : TG} {tt : TT} {te : TE} {E : Value → Shared → Prop}
    {pins : List (Addr × Obj)} {σ : St} {H : Hp} {s : Shared} {it : Addr} {fp : List Addr} {tn : Nat → Heap → Prop} {J : It} {Q : VK} {RR : Value → Addr → Result → Shared → Prop}
    (hc : X.calm = true) (S : CompOk X.env.scope X.N scope cap) (c2 : ∀ x c, cl.lookup x = some c → X.env.cells.lookup x = some c) (c3 : ∀ y ∈ scope.names, y.2 = .free → cl.lookup y.1 = X.env.cells.lookup y.1)
    (hb : ∀ cl s H fp C, PG (compCx X scope cl (capN X.N own cap) s H fp C) tg g ∧ PTs (compCx X scope cl (capN X.N own cap) s H fp C) ifs tt ∧ PE (compCx X scope cl (capN X.N own cap) s H fp C) elt te)
    (I : Inv X pins σ H s) (T : Turn X.prog X.w X.K tg J fp it tn) (st : tn 0 s.heap) (hf : ∀ b ∈ fp, FpOk X pins H b)
    (R : ∀ D, H D = none → ∃ W : Nat → Nat → List V → St → Hp → Prop, (∃ m, W 0 m [] (capS own.length cap σ) (upd H D (.lst []))) ∧ ∀ i m ys σ' H', W i m ys σ' H' →
      (J.stop i H' ∧ Q (.ref D) H') ∨ (J.go i H' ∧ ∃ N : List V → St → Hp → Prop, (∀ zs σ2 H2, N zs σ2 H2 → ∃ m', m' < m ∧ W (i + 1) m' zs σ2 H2) ∧ ∀ x H2, J.yld i H' x H2 → g x σ' H2 fun σ3 H3 => tt σ3 H3 fun b H4 =>
        if b = true then te σ3 H4 fun y H5 => H5 D = some (.lst ys) ∧ ys.length < sizeLine ∧ N (ys ++ [y]) σ3 (upd H5 D (.lst (ys ++ [y])))
        else N ys σ3 H4))
    (hRR : ∀ D C H' s' m, Inv X pins σ H' s' → s'.heap.Ns C m → FpOk X pins H' C → Q (.ref D) H' → RR (.ref D) C (.ok .next) s') :
    wpAny (model X.prog X.w) X.A (newList []) (fun acc s₃ => wpAny (model X.prog X.w) X.A (newFunctionEnv scope X.env.globals cl [] X.env.qual none .none (some X.env)) (fun cenv s₄ =>
      codeAny (model X.prog X.w) X.A (.compStart (.ListComp elt [⟨tg, iter, ifs, 0⟩] scope pos) 0 (.ref it) acc { cenv with scope := relabel scope X.env }) (RR acc cenv.locals) s₄) E s₃) E s := by
  refine wpAny_newObj_type (wpAny_newFunctionEnv S.nocell (by intro y hy; simp at hy) (fun h₁ hns₁ hsb₁ => ?_) S.kind)
  dsimp only at hns₁ hsb₁ ⊢
  generalize hH2 : s.heap.push { cls := .type "list", dict := none, data := .seq ([] : List Value).toArray } = H2 at hns₁ hsb₁ ⊢
  have hC : H2.objs.size = s.heap.objs.size + 1 := by rw [← hH2, Heap.size_push]
  have hfo : ∀ b ∈ fp, b < s.heap.objs.size := fun b hb => by obtain ⟨o, e, _⟩ := T.obj _ _ st b hb; exact Heap.lt_size e
  have old : ∀ b o, s.heap.get? b = some o → h₁.get? b = some o := fun b o e =>
    hsb₁.extBut b o (by rw [hC]; exact Nat.ne_of_lt (Nat.lt_succ_of_lt (Heap.lt_size e))) (Heap.get?_push_of_some _ (hH2 ▸ Heap.get?_push_of_some _ e))
  have hDl : h₁.get? s.heap.objs.size = some { cls := .type "list", data := .seq #[] 0 } :=
    hsb₁.extBut _ _ (by rw [hC]; exact Nat.ne_of_lt (Nat.lt_succ_self _)) (Heap.get?_push_of_some _ (hH2 ▸ Heap.get?_push_size _ rfl))
  rw [hC] at hns₁
  have hfr : H s.heap.objs.size = none := I.hok.fresh (Nat.le_refl _)
  obtain ⟨W, ⟨m0, w0⟩, turn⟩ := R s.heap.objs.size hfr
  have IY := compStart_inv (own := own) (tk := s.toks + ([] : List (Str × Value)).length) I S c2 c3 hf hfo old hDl hns₁
  have e0 : (newEnv scope H2.objs.size X.env.globals cl X.env.qual none Value.none (some X.env) builtinsNs).locals = s.heap.objs.size + 1 := hC
  obtain ⟨hg, ht, he⟩ := hb cl s H fp (s.heap.objs.size + 1)
  -- what stays true of the iterator's objects
  have stat : ∀ {H' : Hp}, (∀ b ∈ fp, H' b = none) → ∀ b ∈ fp, FpOk (compCx X scope cl (capN X.N own cap) s H fp (s.heap.objs.size + 1)) [] H' b := fun {H'} hn b hb => by
    obtain ⟨f0, f1, f2, f3, f4, f5⟩ := hf b hb
    refine ⟨hn b hb, Nat.ne_of_lt (Nat.lt_succ_of_lt (hfo b hb)), fun z => ?_, .inl hb, fun x c e => f4 x c (c2 _ _ e), fun p hp => absurd (show p ∈ ([] : List (Addr × Obj)) from hp) (by simp)⟩
    rcases List.mem_cons.mp (I.stkSub b z) with q | q
    · exact f1 q
    · exact f2 q
  have fpn : ∀ b ∈ fp, upd H s.heap.objs.size (.lst []) b = none := fun b hb => by
    rw [upd_ne (Nat.ne_of_lt (hfo b hb))]; exact (hf b hb).1
  have hCfp : ∀ {H' : Hp} {σ' : St} {s' : Shared}, Inv (compCx X scope cl (capN X.N own cap) s H fp (s.heap.objs.size + 1)) [] σ' H' s' → FpOk X pins H' (s.heap.objs.size + 1) := fun {H' σ' s'} I3 => by
    exact I.fpOk (Nat.le_succ _) I3.free
  have loop : ∀ s₃ : Shared, s₃ = { s with heap := h₁, toks := s.toks + ([] : List (Str × Value)).length } →
      codeAny (model X.prog X.w) X.A (.compLoop (.ListComp elt [⟨tg, iter, ifs, 0⟩] scope pos) 0 (.ref it) (.ref s.heap.objs.size) (compEnvC scope cl (s.heap.objs.size + 1) X.env))
        (RR (.ref s.heap.objs.size) (s.heap.objs.size + 1)) s₃ := by
    rintro s₃ rfl
    refine codeAny_compLoop_gen (fun n s' => ∃ i ys σ' H', Inv (compCx X scope cl (capN X.N own cap) s H fp (s.heap.objs.size + 1)) [] σ' H' s' ∧ tn i s'.heap ∧ (∀ b ∈ fp, H' b = none) ∧ W i n ys σ' H') ?_ m0
      ⟨0, [], _, _, IY, T.keep _ _ _ st (fun b _ o e => old b o e), fpn, w0⟩
    rintro n s3 ⟨i, ys, σ3, H3, I3, st3, fr3, w3⟩
    rcases turn i n ys σ3 H3 w3 with ⟨stop, q⟩ | ⟨go, Nx, hNx, step⟩
    · refine thn (T.done (compCx X scope cl (capN X.N own cap) s H fp (s.heap.objs.size + 1)) rfl rfl rfl hc i [] s3 σ3 H3 (fun _ _ => False) I3 (stat fr3) st3 stop) fun r s4 ⟨hr, I4⟩ => ?_
      subst hr
      obtain ⟨m4, hn4, _⟩ := I4.loc
      exact hRR _ _ H3 s4 m4 (comp_back I hf I4) hn4 (hCfp I4) q
    · refine thn (T.item (compCx X scope cl (capN X.N own cap) s H fp (s.heap.objs.size + 1)) rfl rfl rfl hc i [] s3 σ3 H3 (fun _ _ => False) I3 (stat fr3) st3 go) fun r s4 ⟨u, hr, h4⟩ => ?_
      subst hr
      refine thn h4 fun _ s5 ⟨x, H5, I5, r5, y5, st5, fr5⟩ => ?_
      have I5' := I5.pinned (stat fr5) (T.obj _ _ st5)
      refine thn (hg _ s5 σ3 H5 x u _ I5' r5 (step x H5 y5)) fun _ s6 ⟨σ6, H6, I6, q6⟩ => ?_
      refine thn (ht _ s6 σ6 H6 _ I6 q6) fun ok s7 ⟨H7, I7, q7⟩ => ?_
      have back : ∀ {σ8 : St} {H8 : Hp} {s8 : Shared}, Inv (compCx X scope cl (capN X.N own cap) s H fp (s.heap.objs.size + 1)) ([] ++ pinsAt fp s5.heap) σ8 H8 s8 → tn (i + 1) s8.heap ∧ ∀ b ∈ fp, H8 b = none := fun {σ8 H8 s8} I8 => by
        refine ⟨T.keep _ _ _ st5 fun b hb o e => (I8.pin (b, o) (List.mem_append_right _ (List.mem_append_right _ (mem_pinsAt hb e)))).1, fun b hb => ?_⟩
        obtain ⟨o, e, d⟩ := T.obj _ _ st5 b hb
        exact (I8.pin (b, o) (List.mem_append_right _ (List.mem_append_right _ (mem_pinsAt hb e)))).2.1
      cases ok with
      | false =>
        rw [if_neg Bool.false_ne_true] at q7 ⊢
        obtain ⟨m', hm, w7⟩ := hNx _ _ _ q7
        exact ⟨m', hm, i + 1, ys, σ6, H7, I7.unpinned, (back I7).1, (back I7).2, w7⟩
      | true =>
        rw [if_pos rfl] at q7 ⊢
        refine thn (he _ s7 σ6 H7 _ I7 q7) fun y s8 ⟨z, H8, I8, r8, q8⟩ => ?_
        obtain ⟨hD8, hz8, q8⟩ := q8
        obtain ⟨m', hm, w8⟩ := hNx _ _ _ q8
        refine thn (mt_append _ s8 σ6 H8 (.ref s.heap.objs.size) [z] (.ref s.heap.objs.size) [y] (fun _ H9 => H9 = upd H8 s.heap.objs.size (.lst (ys ++ [z]))) I8 rfl (.cons r8 .nil) ⟨_, ys, z, rfl, rfl, hD8, hz8, rfl⟩) fun _ s9 ⟨_, H9, I9, _, q9⟩ => ?_
        subst q9
        exact ⟨m', hm, i + 1, ys ++ [z], σ6, _, I9.unpinned, (back I9).1, (back I9).2, w8⟩
  show codeAny (model X.prog X.w) X.A (.compStart (.ListComp elt [⟨tg, iter, ifs, 0⟩] scope pos) 0 (.ref it) (.ref s.heap.objs.size) (compEnvC scope cl H2.objs.size X.env)) (RR (.ref s.heap.objs.size) H2.objs.size) _
  rw [hC]
  exact codeAny_compStart_list (loop _ rfl) (T.self _ 0 _ _ _ (T.keep _ _ _ st (fun b _ o e => old b o e)) (loop _ rfl))

/-- [elt for tg in iter if ..] -/
theorem pe_comp {elt tg iter : Expr} {ifs : List Expr} {scope : Scope} {pos : Pos} {wi : TI} {g : TG} {tt : TT} {te : TE} (own : List Str) (cap : List Nat) (hc : X.calm = true) (hi : PI X tg iter wi)
    (hb : ∀ cl s H fp C, PG (compCx X scope cl (capN X.N own cap) s H fp C) tg g ∧ PTs (compCx X scope cl (capN X.N own cap) s H fp C) ifs tt ∧ PE (compCx X scope cl (capN X.N own cap) s H fp C) elt te)
    (hS : compOk X.env.scope X.N scope cap = true := by kernel_rfl) (hs : ∀ x, foldedSetIterable iter X.env x = pure x := by intro _; rfl) :
    PE X (.ListComp elt [⟨tg, iter, ifs, 0⟩] scope pos) (tComp own.length cap wi g tt te) := by
  intro pins s σ H Q I h
  have S := compOk_of hS
  obtain ⟨cl, c1, c2, c3⟩ := closure_of (scope := scope) (env := X.env) fun y hy hf => I.ok.has y.1 (S.free y hy hf)
  rw [eval_ListComp]
  refine wpAny_comprehension_free (use := none) rfl hs c1 S.kind S.names (thn (hi pins s σ H _ I h) fun v s1 h1 => thn h1 fun itv s2 h2 => ?_)
  obtain ⟨it, fp, tn, J, H2, e, I2, T, st2, f2, R⟩ := h2
  subst e
  refine comp_block (Q := Q) (RR := fun acc C => compPost (model X.prog X.w) X.A X.xe none (EP X pins σ Q) acc C) hc S c2 c3 hb I2 T st2 f2 R ?_
  intro D C H' s' m I' hn hC q
  refine ⟨m, hn, fun h' hs' => ⟨.ref D, H', ?_, rfl, q⟩⟩
  exact I'.turnedL (t' := s'.toks) (its := [C]) (fun b o hb e => hs'.extBut b o (by simpa using hb) e) (fun b hb => by rw [List.mem_singleton.mp hb]; exact hC)

/-- name = [elt for tg in iter if ..], where the list is stored ahead of the block's end -/
theorem ps_setC {elt tg iter : Expr} {ifs : List Expr} {scope : Scope} {pos pos' spos : Pos} {wi : TI} {g : TG} {tt : TT} {te : TE} {i : Nat} {x : Str} (hN : X.N.Nodup) (hx : X.N[i]? = some x) (own : List Str) (cap : List Nat) (hc : X.calm = true) (hi : PI X tg iter wi)
    (hb : ∀ cl s H fp C, PG (compCx X scope cl (capN X.N own cap) s H fp C) tg g ∧ PTs (compCx X scope cl (capN X.N own cap) s H fp C) ifs tt ∧ PE (compCx X scope cl (capN X.N own cap) s H fp C) elt te)
    (hl : X.env.scope.names.lookup x = some .local := by rfl)
    (hsw : swapsWith (.ListComp elt [⟨tg, iter, ifs, 0⟩] scope pos) (some (.Name x pos')) spos.line X.env = pure true := by rfl)
    (hS : compOk X.env.scope X.N scope cap = true := by kernel_rfl) (hs : ∀ x, foldedSetIterable iter X.env x = pure x := by intro _; rfl) :
    PS X (.Assign [.Name x pos'] (.ListComp elt [⟨tg, iter, ifs, 0⟩] scope pos) spos) (tAsg (tComp own.length cap wi g tt te) (gName i)) := by
  intro pins s σ H D I h
  have S := compOk_of hS
  obtain ⟨cl, c1, c2, c3⟩ := closure_of (scope := scope) (env := X.env) fun y hy hf => I.ok.has y.1 (S.free y hy hf)
  rw [exec_Assign_Name_used _ _ _ _ hsw]
  refine wpAny_bind (wpAny_standAt (wpAny_bind ?_))
  show wpAny _ X.A (do let _ ← comprehension (.ListComp elt [⟨tg, iter, ifs, 0⟩] scope pos) scope X.env _ (newList []) false (eval iter X.env) (some (assign (.Name x pos') X.env))) _ _ s
  refine wpAny_bind (wpAny_mono (wpAny_comprehension_free (use := some (assign (.Name x pos') X.env)) (Q := fun _ s' => SP X pins D .next s') rfl hs c1 S.kind S.names (thn (hi pins s σ H _ I h) fun v s1 h1 => thn h1 fun itv s2 h2 => ?_)) (fun _ s' hq => wpAny_pure (wpAny_pure hq)) fun _ _ e => e)
  obtain ⟨it, fp, tn, J, H2, e, I2, T, st2, f2, R⟩ := h2
  subst e
  refine comp_block (Q := fun v H1 => D.nx (σ.set i (some v)) H1) (RR := fun acc C => compPost (model X.prog X.w) X.A X.xe (some (assign (.Name x pos') X.env)) (fun _ s' => SP X pins D .next s') acc C) hc S c2 c3 hb I2 T st2 f2 R ?_
  intro D' C H' s' m I' hn hC q
  show wpAny _ X.A (assign (.Name x pos') X.env (.ref D')) _ _ _
  refine wpAny_assign_Name (store_ok2 I' hN hx (.inl hl) (v := .ref D') (u := .ref D') rfl (fun s2 I2 ⟨a, hsb, ha⟩ => ?_) (.inr hl))
  have hCa : C ≠ a := by
    rcases ha with z | z
    · rw [z]; exact hC.2.1
    · intro q'; exact hC.2.2.2.2.1 x a z q'.symm
  refine ⟨m, hn.sameBut hsb hCa, fun h' hs' => ⟨σ.set i (some (.ref D')), H', ?_, q⟩⟩
  exact I2.turnedL (t' := s2.toks) (its := [C]) (fun b o hb e => hs'.extBut b o (by simpa using hb) e) (fun b hb => by rw [List.mem_singleton.mp hb]; exact hC)
end
end L2

set_option Elab.async false
set_option linter.all false
set_option maxRecDepth 100000
set_option maxHeartbeats 4000000

/-! ### built-in calls over lists: all, any, sum, max; isinstance; zip; range with a step -/
namespace L2
open PySem PySem.Spec PyProof.Rows
section
variable {X : Cx}

theorem boolsAre_of : ∀ {bs : List Bool} {us : List Value}, Vals (bs.map V.bl) us → LSm.BoolsAre us bs
  | [], _, .nil => .nil
  | b :: bs, _, .cons r t => by
    cases (show _ = Value.bool b from r)
    exact .cons b (boolsAre_of t)

theorem call_all_bools (hc : X.calm = true) : CallR X (.builtin "all") (fun xs H Q => ∃ (p : Addr) (bs : List Bool), xs = [.ref p] ∧ SqL X.K H p (bs.map V.bl) ∧ Q (.bl (bs.all id)) H) := by
  intro pins s σ H xs us Q I r h
  obtain ⟨p, bs, rfl, hq, q⟩ := h
  obtain ⟨u, rfl, rx⟩ := vals1 r
  cases rx
  obtain ⟨its, rv, pl, hz⟩ := I.list hq
  have hl : s.heap.IsList p its.toArray := pl.isList
  have hb : LSm.BoolsAre its bs := boolsAre_of rv
  have hlt : p < s.heap.objs.size := by obtain ⟨_, e, _⟩ := hl; exact Heap.lt_size e
  refine call_all_walk (wpAny_pyIter_list hl ?_)
  refine ⟨s.heap.objs.size, [s.heap.objs.size, p], [s.heap.objs.size], its.toArray.size, _, _, fun i => (bs[i]?).getD true, rfl, Walks.list (A := X.A.in1) (I.ok.hd hc) _ p (Nat.ne_of_lt hlt) its.toArray,
    ⟨⟨_, Heap.get?_push_size _ rfl, rfl, rfl⟩, hl.push _⟩, fun i v s' Q' E' hP hQ => ?_, fun h' tk hk => ?_⟩
  · obtain ⟨b, e, rfl⟩ := hb.get i v (by simpa using hP)
    simp only [e, Option.getD_some] at hQ
    exact wpAny_truthy_bool hQ
  · have e : ((List.range its.toArray.size).all fun i => (bs[i]?).getD true) = bs.all id := by rw [List.size_toArray, hb.length]; exact LSm.range_all bs
    rw [e]
    exact ⟨.bl _, H, I.kept (LSm.kept_iter hk), rfl, q⟩
/-- isinstance(x, c), c a class as it is loaded -/
theorem call_isinst : CallR X (.builtin "isinstance") (fun xs H Q => ∃ x c t u b, xs = [x, c] ∧ (RelV c u ∧ ∀ v, RelV c v → v = u) ∧ TyOf X.K H x t ∧ PySem.W.kitOne X.K t u = some b ∧ Q (.bl b) H) := by
  intro pins s σ H xs us Q I r h
  obtain ⟨x, c, t, u, b, rfl, ⟨rc, ru⟩, ty, hk, q⟩ := h
  obtain ⟨v, w', rfl, rx, rc'⟩ := vals2 r
  have e := ru w' rc'
  subst e
  exact isinst_ok I rx ty hk fun tk => ⟨.bl b, H, I.tok _, rfl, q⟩

/-! range(a, b, c), c > 0 -/
def Itr3 (lo c : Int) (n : Nat) : It := ⟨fun i _ => i < n, fun i H x H' => H' = H ∧ x = .int (lo + i * c), fun i _ => n ≤ i⟩
theorem turn_range3 {P : Program} {w : World} {K : PySem.W.Frag} {tg : Expr} (it : Addr) (lo c : Int) (n : Nat) : Turn P w K tg (Itr3 lo c n) [it] it (fun i h => IsRangeIter h it (lo + (i : Nat) * c) ((n : Int) - (i : Nat)) c) where
  mem := by simp
  obj := fun i h st b hb => by
    have e : b = it := by simpa using hb
    subst e
    exact ⟨_, st, fun v z => by
      have z' : Data.fields _ = Data.cell v := z
      cases z'⟩
  keep := fun i h h' st k => k it (by simp) _ st
  item := by
    intro X hP hw hK hc i pins s σ H E I hf st hg
    subst hP hw hK
    obtain ⟨f0, f1, f2, f3, f4, f5⟩ := hf it (by simp)
    have W := Walks.range (prog := X.prog) (w := X.w) (I.ok.hd hc) it lo c n
    refine W.item i s _ _ hg st fun v h' tk hv st' kk => ?_
    obtain ⟨t, rfl⟩ := hv
    have I1 : Inv X pins σ H { s with heap := h', toks := tk } := I.turned (fun b o hb e => kk b o (by simpa using hb) e) f0 f1 f3 f4 f5
    exact ⟨_, rfl, go_of (s := { s with heap := h', toks := tk }) (n := "range_iterator") st' rfl rfl (by decide) ⟨.int (lo + i * c), H, I1, ⟨t, rfl⟩, ⟨rfl, rfl⟩, st', fun b hb => (hf b hb).1⟩⟩
  done := by
    intro X hP hw hK hc i pins s σ H E I hf st hg
    subst hP hw hK
    obtain ⟨f0, f1, f2, f3, f4, f5⟩ := hf it (by simp)
    exact wpAny_pyNext_range_end (I.ok.hd hc) st (by have : n ≤ i := hg; omega) fun h' eb => ⟨rfl, I.turned (t' := s.toks) (fun b o hb e => eb b o hb e) f0 f1 f3 f4 f5⟩
  self := fun _ _ _ _ _ st h => wpAny_pyIter_rangeiter st h
/-- the count of turns -/
def steps (a b c : Int) : Nat := (Builtin.Range.rangeSize a b c).toNat
theorem small_three {a b c : Int} (ha : -(2 ^ 40) ≤ a) (ha' : a < 2 ^ 40) (hb : -(2 ^ 40) ≤ b) (hb' : b < 2 ^ 40) (hc : 0 < c) (hc' : c < 2 ^ 40) : Builtin.Range.small a b c = true ∧ 0 ≤ Builtin.Range.rangeSize a b c := by
  unfold Builtin.Range.small
  have e : Builtin.Range.rangeSize a b c = if a < b then (b - a - 1) / c + 1 else 0 := by
    unfold Builtin.Range.rangeSize
    rw [if_pos hc]
  have q : a < b → 0 ≤ (b - a - 1) / c ∧ (b - a - 1) / c ≤ b - a - 1 := fun h =>
    ⟨Int.ediv_nonneg (by omega) (by omega), Int.ediv_le_self _ (by omega)⟩
  rw [e]
  simp only [Builtin.Range.rangeFitsLong, Bool.and_eq_true, Bool.or_eq_true, decide_eq_true_eq, beq_iff_eq, if_pos hc]
  by_cases h : a < b
  · have := q h
    rw [if_pos h]
    omega
  · rw [if_neg h]
    omega
def iRng3 (ta : TA) : TI := fun σ H R => ta σ H fun vs H1 => ∃ i j c : Int, vs = [.int i, .int j, .int c] ∧ (-(2 ^ 40) ≤ i ∧ i < 2 ^ 40 ∧ -(2 ^ 40) ≤ j ∧ j < 2 ^ 40 ∧ 0 < c ∧ c < 1000000) ∧ R (Itr3 i c (steps i j c)) H1
theorem pi_range3 {tg a b c : Expr} {ta : TA} {p pos : Pos} (hg : Gl X "range") (hm : X.mg "range" = none) (ha : PA X [a, b, c] ta) (hs : starEach [a, b, c] X.env = [(false, eval a X.env), (false, eval b X.env), (false, eval c X.env)] := by rfl)
    (hs2 : starEach [b, c] X.env = [(false, eval b X.env), (false, eval c X.env)] := by rfl) : PI X tg (.Call (.Name "range" p) [a, b, c] [] pos) (iRng3 ta) := by
  intro pins s σ H R I h
  refine Call_ (ld_blt I hg hm boot_range (PyProof.Rows.callWith_type1 (thn (ha pos pins s σ H _ I h) fun us s1 ⟨vs, H1, I1, r1, q1⟩ => ?_) (by rw [hs, hs2]) (by rw [hs2]; rfl)))
  obtain ⟨i, j, k, e, ⟨q1, q2, q3, q4, q5, q6⟩, q⟩ := q1
  subst e
  cases r1 with
  | cons r rr =>
    cases rr with
    | cons r' rr =>
      cases rr with
      | cons r'' rr =>
        cases rr
        obtain ⟨t, rfl⟩ := r
        obtain ⟨t', rfl⟩ := r'
        obtain ⟨t'', rfl⟩ := r''
        obtain ⟨sm, nn⟩ := small_three q1 q2 q3 q4 q5 (by omega : k < 2 ^ 40)
        refine call_range_3 (by omega) ?_ (.inl (PyProof.noPylong_small (by omega)))
        refine wpAny_pyIter_range (IsRange.new ..) sm ?_
        have I2 : Inv X pins σ H1 { s1 with heap := s1.heap.push { cls := .type "range", data := .fields #[.int i t, .int j t', .int k t''] }, toks := s1.toks } := I1.kept fun b o e => Heap.get?_push_of_some _ e
        refine ⟨(s1.heap.push { cls := .type "range", data := .fields #[.int i t, .int j t', .int k t''] }).objs.size, [(s1.heap.push { cls := .type "range", data := .fields #[.int i t, .int j t', .int k t''] }).objs.size], _, _, H1, rfl,
          I2.kept (t' := s1.toks) fun b o e => Heap.get?_push_of_some _ e, turn_range3 _ i k (steps i j k), ?_, fun b hb => ?_, q⟩
        · have e1 : i + ((0 : Nat) : Int) * k = i := by simp
          have e2 : ((steps i j k : Nat) : Int) - ((0 : Nat) : Int) = Builtin.Range.rangeSize i j k := by unfold steps; omega
          show IsRangeIter _ _ (i + ((0 : Nat) : Int) * k) (((steps i j k : Nat) : Int) - ((0 : Nat) : Int)) k
          rw [e1, e2]
          exact Heap.get?_push_size _ rfl
        · have e : b = (s1.heap.push { cls := .type "range", data := .fields #[.int i t, .int j t', .int k t''] }).objs.size := by simpa using hb
          subst e
          exact I2.fpOk (Nat.le_refl _) (I2.hok.fresh (Nat.le_refl _))

/-! for a, b in zip(xs, ys) -/
def Itz (K : PySem.W.Frag) (a b : Addr) : It :=
  ⟨fun i H => ∃ xs ys x y, SqL K H a xs ∧ SqL K H b ys ∧ xs[i]? = some x ∧ ys[i]? = some y,
   fun i H v H' => ∃ T x y, H T = none ∧ v = .ref T ∧ H' = upd H T (.tup [x, y]) ∧ (∀ xs, SqL K H a xs → xs[i]? = some x) ∧ ∀ ys, SqL K H b ys → ys[i]? = some y,
   fun i H => ∃ xs ys, SqL K H a xs ∧ SqL K H b ys ∧ (xs.length ≤ i ∨ ys.length ≤ i)⟩
theorem turn_zip {P : Program} {w : World} {K : PySem.W.Frag} {es : List Expr} {k : Nat} {tp : Pos} {z TI TO i1 i2 : Addr} (a b : Addr) (D : ZipApart z TI TO i1 i2 a b) :
    Turn P w K (.Tuple es k tp) (Itz K a b) [z, TI, TO, i1, i2] z (fun i h => IsZip h z TI TO .none ∧ IsPair h TI (.ref i1) (.ref i2) ∧ (∃ u v, IsPair h TO u v) ∧ h.IsListIter i1 a i ∧ h.IsListIter i2 b i) where
  mem := by simp
  obj := fun i h st c hc => by
    obtain ⟨hz, hTI, ⟨u, v, hTO⟩, ⟨o1, e1, c1, d1⟩, ⟨o2, e2, c2, d2⟩⟩ := st
    simp only [List.mem_cons, List.not_mem_nil, or_false] at hc
    rcases hc with rfl | rfl | rfl | rfl | rfl
    · exact ⟨_, hz, fun v q => by have q' : Data.fields _ = Data.cell v := q; cases q'⟩
    · exact ⟨_, hTI, fun v q => by have q' : Data.seq _ _ = Data.cell v := q; cases q'⟩
    · exact ⟨_, hTO, fun v q => by have q' : Data.seq _ _ = Data.cell v := q; cases q'⟩
    · exact ⟨o1, e1, fun v q => by rw [d1] at q; cases q⟩
    · exact ⟨o2, e2, fun v q => by rw [d2] at q; cases q⟩
  keep := fun i h h' st k => by
    obtain ⟨hz, hTI, ⟨u, v, hTO⟩, h1, h2⟩ := st
    exact ⟨k z (by simp) _ hz, k TI (by simp) _ hTI, ⟨u, v, k TO (by simp) _ hTO⟩, h1.at fun o e => k i1 (by simp) o e, h2.at fun o e => k i2 (by simp) o e⟩
  item := by
    intro X hP hw hK hc i pins s σ H E I hf st hg
    subst hP hw hK
    obtain ⟨hz, hTI, ⟨u, v, hTO⟩, h1, h2⟩ := st
    obtain ⟨xs, ys, x, y, qa, qb, hx, hy⟩ := hg
    obtain ⟨its, rv, pl, hzl⟩ := I.list qa
    obtain ⟨jts, rw', pl', hzl'⟩ := I.list qb
    obtain ⟨ux, hux, rux⟩ := rv.get hx
    obtain ⟨uy, huy, ruy⟩ := rw'.get hy
    refine wpAny_pyNext_zip_item D hz hTI hTO h1 h2 pl.isList pl'.isList (x := ux) (y := uy) (by simpa using hux) (by simpa using huy) fun h' a1 a2 a3 a4 a5 a6 hk => ?_
    have nin : ∀ b, b ∉ [z, TI, TO, i1, i2] → b ≠ z ∧ b ≠ TO ∧ b ≠ i1 ∧ b ≠ i2 := fun b hb => by
      simp only [List.mem_cons, List.not_mem_nil, or_false, not_or] at hb
      exact ⟨hb.1, hb.2.2.1, hb.2.2.2.1, hb.2.2.2.2⟩
    have I1 : Inv X pins σ H { s with heap := h', toks := s.toks } := I.turnedL (its := [z, TI, TO, i1, i2]) (fun b o hb e => hk b o (nin b hb).1 (nin b hb).2.1 (nin b hb).2.2.1 (nin b hb).2.2.2 e) hf
    have ht' : H s.heap.objs.size = none := I.hok.fresh (Nat.le_refl _)
    refine ⟨.ref s.heap.objs.size, rfl, wpAny_letOwnedTupleGo_zip a1 fun h'' hz' hs' => ?_⟩
    have neq : s.heap.objs.size ≠ z := Nat.ne_of_gt (Heap.lt_size hz)
    have I2 : Inv X pins σ H { s with heap := h'', toks := s.toks } := I1.turnedL (its := [z, TI, TO, i1, i2]) (fun b o hb e => hs'.extBut b o (nin b hb).1 e) hf
    have hT2 : IsPair h'' s.heap.objs.size ux uy := hs'.extBut _ _ neq a5
    -- the pair is laid and tracked: it was there already, unknown
    refine ⟨.ref s.heap.objs.size, upd H s.heap.objs.size (.tup [x, y]), ?_, rfl, ⟨_, x, y, ht', rfl, rfl, fun xs' q => by rw [I.list_inj q qa]; exact hx, fun ys' q => by rw [I.list_inj q qb]; exact hy⟩,
      ⟨hz', hs'.extBut _ _ D.TIz (hk _ _ D.TIz D.TITO D.TIi1 D.TIi2 hTI), ⟨_, _, hs'.extBut _ _ D.TOz a2⟩, a3.extBut hs'.extBut D.i1z, a4.extBut hs'.extBut D.i2z⟩, fun b hb => ?_⟩
    · -- from s, in one step: the pair is new there
      have old : ∀ b o, b ∉ [z, TI, TO, i1, i2] → s.heap.get? b = some o → h''.get? b = some o := fun b o hb e => hs'.extBut b o (nin b hb).1 (hk b o (nin b hb).1 (nin b hb).2.1 (nin b hb).2.2.1 (nin b hb).2.2.2 e)
      have new : ObjOk X.prog X.w (upd H s.heap.objs.size (.tup [x, y])) h'' s.heap.objs.size (.tup [x, y]) :=
        ⟨by show 2 ≤ sizeLine; rw [sizeLine_eq]; decide, [ux, uy], .cons rux (.cons ruy .nil), ⟨_, hT2, rfl, 0, rfl⟩⟩
      have nit : ∀ b u, H b = some u → b ∉ [z, TI, TO, i1, i2] := fun b u e q => by rw [(hf b q).1] at e; cases e
      have nT : ∀ b o, s.heap.get? b = some o → b ≠ s.heap.objs.size := fun b o e => Nat.ne_of_lt (Heap.lt_size e)
      have nH : ∀ b u, H b = some u → b ≠ s.heap.objs.size := fun b u e q => by rw [q, ht'] at e; cases e
      suffices J : Inv X pins σ (upd H s.heap.objs.size (.tup [x, y])) { s with heap := h'', gens := s.gens, drawn := s.drawn, toks := s.toks } from J
      refine I.step (g' := s.gens) (d' := s.drawn) (t' := s.toks) (ch := [z, TI, TO, i1, i2]) (fun b hb => ?_) (fun b o _ _ hc' e _ => old b o hc' e) (fun b o _ _ hc' e _ => ⟨o.slots, old b o hc' e⟩) (fun b o _ e n => by rw [upd_ne (nT b o e)]; exact n)
        (fun b o hc' e => ⟨o, old b o hc' e⟩) (fun b xs' e => by rw [upd_ne (nH b _ e)]; exact e) (fun b o u' e => by rw [upd_ne (nH b _ e)]; exact e) (fun b ps e => ⟨#[], by rw [upd_ne (nH b _ e), e]; simp⟩) (fun m hm => ?_) (fun b u' e => ?_) I.bare
      · obtain ⟨_, f1, _, f3, f4, f5⟩ := hf b hb
        exact ⟨f3, f1, f4, f5⟩
      · obtain ⟨o, es', ep, ho, r⟩ := hm
        exact ⟨o, es', ep, old _ o (fun q => (hf _ q).2.1 rfl) ho, r⟩
      · by_cases hb : b = s.heap.objs.size
        · subst hb; rw [upd_same] at e; cases e; exact new
        · rw [upd_ne hb] at e
          refine (I.hok b u' e).stay (fun c v' hc' q => old c v' ?_ q) (fun c q => by rw [upd_ne (nH c _ q)]; exact q) fun c xs' q => by rw [upd_ne (nH c _ q)]; exact q
          rcases hc' with q' | q'
          · rw [q']; exact nit b u' e
          · exact nit c _ q'
    · have hb' : b ≠ s.heap.objs.size := by
        intro q
        have ol := hf b hb
        rw [q] at hb
        simp only [List.mem_cons, List.not_mem_nil, or_false] at hb
        have l1 := Heap.lt_size hz
        have l2 := Heap.lt_size hTI
        have l3 := Heap.lt_size hTO
        obtain ⟨_, l4, _⟩ := h1
        obtain ⟨_, l5, _⟩ := h2
        have l4' := Heap.lt_size l4
        have l5' := Heap.lt_size l5
        rcases hb with q | q | q | q | q
        · exact Nat.ne_of_gt l1 q
        · exact Nat.ne_of_gt l2 q
        · exact Nat.ne_of_gt l3 q
        · exact Nat.ne_of_gt l4' q
        · exact Nat.ne_of_gt l5' q
      rw [upd_ne hb']
      exact (hf b hb).1
  done := by
    intro X hP hw hK hc i pins s σ H E I hf st hg
    subst hP hw hK
    obtain ⟨hz, hTI, ⟨u, v, hTO⟩, h1, h2⟩ := st
    obtain ⟨xs, ys, qa, qb, hend⟩ := hg
    obtain ⟨its, rv, pl, hzl⟩ := I.list qa
    obtain ⟨jts, rw', pl', hzl'⟩ := I.list qb
    have la := rv.length
    have lb := rw'.length
    refine wpAny_pyNext_zip_end (I.ok.hd hc) D hz hTI hTO h1 h2 pl.isList pl'.isList ?_ fun h' hk => ⟨rfl, ?_⟩
    · rcases hend with q | q
      · exact .inl (by rw [List.getElem?_toArray]; exact List.getElem?_eq_none (by omega))
      · exact .inr (by rw [List.getElem?_toArray]; exact List.getElem?_eq_none (by omega))
    · refine I.turnedL (t' := s.toks) (its := [z, TI, TO, i1, i2]) (fun b o hb e => ?_) hf
      simp only [List.mem_cons, List.not_mem_nil, or_false, not_or] at hb
      exact hk b o hb.1 hb.2.2.1 hb.2.2.2.1 hb.2.2.2.2 e
  self := fun _ _ _ _ _ st h => wpAny_pyIter_zip st.1 h
theorem zip_apart (n a b : Nat) (ha : a < n) (hb : b < n) : ZipApart (n + 4) (n + 2) (n + 3) n (n + 1) a b := by
  constructor <;> (intro q; have q' : @Eq Nat _ _ := q; omega)
def iZip (K : PySem.W.Frag) (ta : TA) : TI := fun σ H R => ta σ H fun vs H1 => ∃ a b, vs = [.ref a, .ref b] ∧ (∃ xs, SqL K H1 a xs) ∧ (∃ ys, SqL K H1 b ys) ∧ R (Itz K a b) H1
theorem pi_zip {es : List Expr} {k : Nat} {tp : Pos} {a b : Expr} {ta : TA} {p pos : Pos} (hg : Gl X "zip") (hm : X.mg "zip" = none) (ha : PA X [a, b] ta) (hs : starEach [a, b] X.env = [(false, eval a X.env), (false, eval b X.env)] := by rfl)
    (hs2 : starEach [b] X.env = [(false, eval b X.env)] := by rfl) : PI X (.Tuple es k tp) (.Call (.Name "zip" p) [a, b] [] pos) (iZip X.K ta) := by
  intro pins s σ H R I h
  refine Call_ (ld_blt I hg hm boot_zip (PyProof.Rows.callWith_type1 (thn (ha pos pins s σ H _ I h) fun us s1 ⟨vs, H1, I1, r1, q1⟩ => ?_) (by rw [hs, hs2]) (by rw [hs2]; rfl)))
  obtain ⟨a, b, e, ⟨xs, qa⟩, ⟨ys, qb⟩, q⟩ := q1
  subst e
  cases r1 with
  | cons r rr =>
    cases rr with
    | cons r' rr =>
      cases rr
      cases r
      cases r'
      obtain ⟨its, rv, pl, hzl⟩ := I1.list qa
      obtain ⟨jts, rw', pl', hzl'⟩ := I1.list qb
      have la : a < s1.heap.objs.size := by obtain ⟨_, e, _⟩ := pl.isList; exact Heap.lt_size e
      have lb : b < s1.heap.objs.size := by obtain ⟨_, e, _⟩ := pl'.isList; exact Heap.lt_size e
      have D : ZipApart (s1.heap.objs.size + 4) (s1.heap.objs.size + 2) (s1.heap.objs.size + 3) s1.heap.objs.size (s1.heap.objs.size + 1) a b := zip_apart _ _ _ la lb
      refine call_zip_2 pl.isList pl'.isList fun h' hz hTI hTO h1 h2 hsz hk => wpAny_pyIter_zip hz ?_
      have I2 : Inv X pins σ H1 { s1 with heap := h' } := I1.kept (t' := s1.toks) hk
      refine ⟨s1.heap.objs.size + 4, [s1.heap.objs.size + 4, s1.heap.objs.size + 2, s1.heap.objs.size + 3, s1.heap.objs.size, s1.heap.objs.size + 1], _, _, H1, rfl, I2, turn_zip a b D, ⟨hz, hTI, ⟨_, _, hTO⟩, h1, h2⟩, fun c hc => ?_, q⟩
      have hge : s1.heap.objs.size ≤ c := by
        simp only [List.mem_cons, List.not_mem_nil, or_false] at hc
        rcases hc with rfl | rfl | rfl | rfl | rfl <;> omega
      exact I1.fpOk hge (I1.hok.fresh hge)
end
end L2

set_option Elab.async false
set_option linter.all false
set_option maxRecDepth 100000
set_option maxHeartbeats 4000000

/-! ### an error in flight that stands in no other's context -/
namespace L2
open PySem PySem.Spec PyProof.Rows
/-- its third field, the context, is none -/
def C2 (h : Heap) (e : Addr) : Prop := ∃ o vs, h.get? e = some o ∧ o.data = .fields vs ∧ vs[2]? = some Value.none
/-- held in the frames l, in flight at fl -/
def HC (B : Heap) (l : List Env) (e : Addr) (k a0 fl : Value) (h : Heap) : Prop := (B.StaysIn h ∧ B.get? e = none ∧ h.FunFrames B l ∧ h.TracedAtW B e k a0 fl) ∧ C2 h e
theorem HC.tail {B : Heap} {env : Env} {l : List Env} {e : Addr} {k a0 fl : Value} {h : Heap} (x : HC B (env :: l) e k a0 fl h) : HC B l e k a0 fl h := ⟨⟨x.1.1, x.1.2.1, x.1.2.2.1.2.2, x.1.2.2.2⟩, x.2⟩
theorem C2.at_ {h h' : Heap} {e : Addr} (c : C2 h e) (k : ∀ o, h.get? e = some o → h'.get? e = some o) : C2 h' e := by
  obtain ⟨o, vs, h1, h2⟩ := c
  exact ⟨o, vs, k o h1, h2⟩
/-- a record turned at one place: what is no record stays -/
theorem turn_other {h : Heap} {T : Addr} {oT : Obj} {ts : Array Value} (hT : h.get? T = some oT) (dT : oT.data = .fields ts) (f : Array Value → Array Value) {b : Addr} {o : Obj} (hb : h.get? b = some o) (nf : ∀ vs, o.data ≠ .fields vs) : (h.update T (Obj.mapFields f)).get? b = some o := by
  have ne : T ≠ b := fun q => by
    rw [q, hb] at hT
    cases hT
    exact nf ts dT
  exact (Heap.get?_update_other _ _ ne).trans hb
section
variable {M : Model} {A : Around} {E : Value → Shared → Prop} {s : Shared} {B : Heap} {env : Env} {outer l : List Env} {L e : Addr} {k a0 fl : Value} {Q : Unit → Shared → Prop}
theorem flightC (x : Option Addr) (hh : HC B l e k a0 fl s.heap) (hQ : ∀ h', HC B l e k a0 (x.elim Value.none fun f => rawInt f) h' → s.heap.UpToSlots h' → Q () { s with heap := h' }) : wpAny M A (setFlight (.ref e) x) Q E s := by
  obtain ⟨⟨kb, en, ff, oe, vs, T, oT, ts, he, hk, dE, e1, nT, tE, hT, dT, t3⟩, c⟩ := hh
  have z3 : 3 < ts.size := (Array.getElem?_eq_some_iff.mp t3).1
  unfold setFlight
  refine wpAny_bind (wpAny_field he dE e1 ?_)
  rw [if_pos (by simp : (Value.ref T != Value.none) = true)]
  refine wpAny_setField hT dT z3 (hQ _ ?_ fun b o hb nf => ⟨o.slots, turn_other hT dT _ hb nf⟩)
  have oth : ∀ b, b ≠ T → (s.heap.update T (Obj.mapFields (·.setIfInBounds 3 (x.elim Value.none fun f => rawInt f)))).get? b = s.heap.get? b := fun b hb => Heap.get?_update_other _ _ (Ne.symm hb)
  refine ⟨⟨fun b o hb => (oth b ?_).trans (kb b o hb), en, ff.of_keeps fun b o hb nf => ⟨o, turn_other hT dT _ hb nf, rfl⟩,
    ⟨oe, vs, T, _, _, (oth e (Ne.symm tE)).trans he, hk, dE, e1, nT, tE, Heap.get?_update_self _ hT (Obj.isFreed_of_fields (Obj.data_mapFields dT _)), Obj.data_mapFields dT _, by simp [z3]⟩⟩, c.at_ fun o q => (oth e (Ne.symm tE)).trans q⟩
  rintro rfl
  rw [nT] at hb
  cases hb
theorem entryC {oe : Obj} {vs : Array Value} {hd : Value} {hn : Bool} (hfr : A.frames = some (env :: outer)) (hf : env.frame = some L) (kb : B.StaysIn s.heap) (en : B.get? e = none) (ff : s.heap.FunFrames B (env :: outer))
    (he : s.heap.get? e = some oe) (dE : oe.data = .fields vs) (z0 : vs[0]? = some a0) (z2 : vs[2]? = some Value.none) (hQ : ∀ h', HC B (env :: outer) e oe.cls a0 (rawInt L) h' → s.heap.UpToSlots h' → Q () { s with heap := h' }) :
    wpAny M A (do let a ← frameOf env; let pl ← entryPlaceOf L hn; let b ← EntryCells.newEntry hd a .none (rawInt L) .none pl; setField (.ref e) 1 b) Q E s := by
  have nfr : e ∉ (env :: outer).filterMap (·.frame) := fun m => by
    obtain ⟨_, o, q, d⟩ := ff.mem m
    rw [he] at q
    cases q
    exact d vs dE
  refine wpAny_bind (wpAny_frameOf_fun hfr ff hf fun g sg => wpAny_bind (wpAny_entryPlaceOf fun pl hpl => ?_))
  have zs : 2 < vs.size := (Array.getElem?_eq_some_iff.mp z2).1
  unfold EntryCells.newEntry newFields
  refine wpAny_bind (wpAny_newObj_type ?_ (hpl.sizeOk5 _ _ _ _ _))
  have dtb : ([hd, Value.ref L, Value.none, rawInt L, Value.none] ++ (if pl.isEmpty then List.replicate 6 Value.none else pl)).toArray[3]? = some (rawInt L) := by
    simp
  dsimp only
  generalize ([hd, Value.ref L, Value.none, rawInt L, Value.none] ++ (if pl.isEmpty then List.replicate 6 Value.none else pl)).toArray = ts at dtb ⊢
  have ge : g.get? e = some oe := (sg.2.1 e nfr).trans he
  have gT : g.objs.size ≠ e := Nat.ne_of_gt (Heap.lt_size ge)
  have gB : B.StaysIn g := fun b o q => (sg.2.1 b fun m => by rw [(ff.mem m).1] at q; cases q).trans (kb b o q)
  refine wpAny_setField (Heap.get?_push_of_some _ ge) dE (by omega) (hQ _ ?_ fun b o hb nf => ?_)
  · have keep : ∀ b o, b ≠ e → g.get? b = some o → ((g.push { cls := .type "traceback", dict := none, data := .fields ts }).update e (Obj.mapFields (·.setIfInBounds 1 (Value.ref g.objs.size)))).get? b = some o := fun b o hb q =>
      (Heap.get?_update_other _ _ (Ne.symm hb)).trans (Heap.get?_push_of_some _ q)
    have dm := Obj.data_mapFields dE (·.setIfInBounds 1 (Value.ref g.objs.size))
    have self := Heap.get?_update_self (Obj.mapFields (·.setIfInBounds 1 (Value.ref g.objs.size))) (Heap.get?_push_of_some { cls := .type "traceback", dict := none, data := .fields ts } ge) (Obj.isFreed_of_fields dm)
    refine ⟨⟨fun b o q => keep b o (fun z => by rw [z, en] at q; cases q) (gB b o q), en, ff.of_keeps fun b o hb nf => ?_, ⟨_, _, g.objs.size, { cls := .type "traceback", dict := none, data := .fields ts }, ts, self, ⟨Obj.cls_mapFields _ _, ?_⟩, dm, ?_, gB.fresh, gT, ?_, rfl, dtb⟩⟩, ⟨_, _, self, dm, ?_⟩⟩
    · obtain ⟨sl, q⟩ := sg.2.2 b o hb
      refine ⟨_, keep b _ (fun z => ?_) q, rfl⟩
      rw [z, he] at hb
      cases hb
      exact nf vs dE
    · rw [Array.getElem?_setIfInBounds_ne (by decide)]; exact z0
    · rw [Array.getElem?_setIfInBounds_self_of_lt (by omega)]
    · exact (Heap.get?_update_other _ _ (Ne.symm gT)).trans (Heap.get?_push_size _ rfl)
    · rw [Array.getElem?_setIfInBounds_ne (by decide)]; exact z2
  · obtain ⟨sl, q⟩ := sg.2.2 b o hb
    have nb : b ≠ e := fun z => by
      rw [z, he] at hb
      cases hb
      exact nf vs dE
    exact ⟨sl, (Heap.get?_update_other _ _ (Ne.symm nb)).trans (Heap.get?_push_of_some _ q)⟩
theorem leave_newC {h : Heap} {vs : List Value} (hfr : A.frames = some (env :: outer)) (hf : env.frame = some L) (kb : B.StaysIn h) (ff : h.FunFrames B (env :: outer)) (hx : Heap.MadeExcOf h s.heap e k vs)
    (hQ : ∀ h' t, HC B outer e k (.ref t) .none h' → s.heap.UpToSlots h' → Q () { s with heap := h' }) : wpAny M A (leaving env (.ref e)) Q E s := by
  obtain ⟨t, he, _, _⟩ := hx.there
  have en : B.get? e = none := PySem.W.fresh_of_stays kb hx.new
  unfold leaving
  refine wpAny_bind ?_
  unfold noteFrame
  simp only [hf]
  refine wpAny_bind (wpAny_field he rfl (x := Value.none) rfl ?_)
  rw [if_neg (by decide)]
  exact entryC (a0 := .ref t) hfr hf (fun b o q => hx.keeps b o (kb b o q)) en (ff.of_keeps fun b o q _ => ⟨o, hx.keeps b o q, rfl⟩) he rfl rfl rfl fun h1 x1 u1 =>
    flightC (s := { s with heap := h1 }) none x1 fun h2 x2 u2 => hQ h2 t x2.tail (u1.trans u2)
end
end L2

set_option Elab.async false
set_option linter.all false
set_option maxRecDepth 100000
set_option maxHeartbeats 4000000

/-! ### own exceptions: raised, passing through a def, caught -/
namespace L2
open PySem PySem.Spec PyProof.Rows

theorem ObjOk.ex {P : Program} {w : World} {H : Hp} {h : Heap} {a : Addr} {o : HO} (x : ObjOk P w H h a o) : ∃ ob, h.get? a = some ob := by
  cases o with
  | lst xs => obtain ⟨_, _, _, _, e⟩ := x; exact ⟨_, e⟩
  | tup xs => obtain ⟨_, _, _, ob, e, _⟩ := x; exact ⟨ob, e⟩
  | dK kvs => obtain ⟨_, _, _, _, o, _, _, e, _⟩ := x; exact ⟨o, e⟩
  | dT kvs => obtain ⟨_, _, _, _, o, _, _, e, _⟩ := x; exact ⟨o, e⟩
  | set S n => obtain ⟨o, _, _, _, e, _⟩ := x; exact ⟨o, e⟩
  | ins C dx fs => obtain ⟨_, _, _, e, _⟩ := x; exact ⟨_, e⟩
  | own y => exact x
  | xd fs => obtain ⟨_, ⟨o, _, _, e, _⟩, _⟩ := x; exact ⟨o, e⟩
  | rng lo hi => obtain ⟨_, _, _, e⟩ := x; exact ⟨_, e⟩
  | frz ob u => obtain ⟨e, _⟩ := x; exact ⟨_, e⟩
  | tbl ps => exact ⟨_, (show h.get? a = some _ from x)⟩
  | met f y => exact ⟨_, (show h.get? a = some _ from x)⟩
  | ext φ => obtain ⟨_, e, _⟩ := x; exact e

/-- an exception of the class at C flies out of a call: H', s' as it lies behind it; outer, H, s as they were ahead of the call -/
structure Fly (P : Program) (w : World) (outer : List Env) (H : Hp) (s : Shared) (C : Addr) (e : Value) (H' : Hp) (s' : Shared) : Prop where
  os : s'.os = s.os
  bare : AllBare s'.gens
  un : Un (frs outer) [] H H' s.heap s'.heap
  hok : HOk P w H' s'.heap
  fl : ∃ (ea t : Addr) (B : Heap), e = .ref ea ∧ HC B outer ea (.ref C) (.ref t) .none s'.heap ∧ (∀ b o, s.heap.get? b = some o → b ∉ frs outer → ∃ o', B.get? b = some o') ∧
    ∀ b u, H' b = some u → ∃ o, B.get? b = some o
/-- how an exception lies behind a call -/
abbrev CXE (P : Program) (w : World) : CXT := fun outer H s E e s' => ∃ C H', Fly P w outer H s C e H' s' ∧ E (.ref C) none H'

section
variable {X : Cx} {M : Model} {pins : List (Addr × Obj)} {σ : St} {H H' : Hp} {s s' : Shared} {C : Addr} {Q : Unit → Shared → Prop} {E' : Value → Shared → Prop}
theorem Inv.notStack (I : Inv X pins σ H s) {b : Addr} {o : Obj} (e : X.s₀.heap.get? b = some o) (hb : b ∉ X.fs) : b ∉ frs X.stack := fun z => by
  rcases List.mem_cons.mp (I.stkSub b z) with q | q
  · exact absurd (Nat.lt_of_lt_of_le (Heap.lt_size e) I.ok.above) (by rw [q]; exact Nat.lt_irrefl _)
  · exact hb q
theorem Inv.frData (I : Inv X pins σ H s) {b : Addr} (hb : b ∈ frs X.stack) : ∃ o, s.heap.get? b = some o ∧ ∀ vs, o.data ≠ .fields vs := (I.stack.mem hb).2

/-- an exception just made leaves the frame -/
theorem fly_made {h' : Heap} {e : Addr} {vs : List Value} (I : Inv X pins σ H s) (hst : X.stack = X.env :: X.outer) (hfr : X.env.frame = some X.env.locals) (hex : X.ex = []) (hx : Heap.MadeExcOf s.heap h' e (.ref C) vs)
    (hQ : ∀ h'', Fly X.prog X.w X.outer X.H₀ X.s₀ C (.ref e) H { s with heap := h'' } → Q () { s with heap := h'' }) : wpAny M X.A (leaving X.env (.ref e)) Q E' { s with heap := h' } := by
  have hfrm : X.A.frames = some (X.env :: X.outer) := by rw [← hst]; exact I.ok.frames
  have nex : ∀ b : Addr, b ∉ X.ex := fun b z => by rw [hex] at z; cases z
  have sub : ∀ b, b ∈ X.fs → b ∈ frs X.stack := fun b hb => by
    have hb' : b ∈ X.outer.filterMap (·.frame) := hb
    show b ∈ X.stack.filterMap (·.frame)
    rw [hst, List.filterMap_cons, hfr]
    exact List.mem_cons_of_mem _ hb'
  have hkb : (PySem.W.hideAll s.heap (frs X.stack)).StaysIn s.heap := fun b o q => PySem.W.of_hideAll _ q
  have hl : s.heap.FunFrames (PySem.W.hideAll s.heap (frs X.stack)) (X.env :: X.outer) := by
    rw [← hst]
    exact PySem.W.funFrames_hide I.stack fun env he a ha => List.mem_filterMap.mpr ⟨env, he, ha⟩
  refine leave_newC (s := { s with heap := h' }) hfrm hfr hkb hl hx fun h'' t fl ups => hQ h'' ?_
  have toB : ∀ b o, s.heap.get? b = some o → b ∉ frs X.stack → h''.get? b = some o := fun b o q n => fl.1.1 b o (PySem.W.hideAll_get _ q n)
  have toS : ∀ b o, s.heap.get? b = some o → b ∈ frs X.stack → ∃ sl, h''.get? b = some { o with slots := sl } := fun b o q m => by
    obtain ⟨o', q', d⟩ := I.frData m
    rw [q] at q'; cases q'
    exact ups b o (hx.keeps b o q) d
  have trk : ∀ b u, H b = some u → b ∉ frs X.stack := fun b u q m => by rw [I.stkFree b m] at q; cases q
  refine ⟨I.os, I.bare, ⟨fun b o q n hb _ => ?_, fun b o q n hb _ => ?_, fun b o q n _ => I.base.free b o q n (nex b), fun b o q _ => ?_, I.base.tups, I.base.frzs, I.base.tbls⟩, fun b u q => ?_, e, t, _, rfl, fl, fun b o q hb => ?_, fun b u q => ?_⟩
  · exact toB b o (I.base.keep b o q n hb (nex b)) (I.notStack q hb)
  · obtain ⟨sl, q1⟩ := I.base.slot b o q n hb (nex b)
    obtain ⟨sl', q2⟩ := toS b _ q1 (sub b hb)
    exact ⟨sl', q2⟩
  · obtain ⟨o', q1⟩ := I.base.there b o q (nex b)
    by_cases m : b ∈ frs X.stack
    · obtain ⟨sl, q2⟩ := toS b o' q1 m
      exact ⟨_, q2⟩
    · exact ⟨o', toB b o' q1 m⟩
  · refine (I.hok b u q).stay (fun c v hc r => toB c v r ?_) (fun _ r => r) fun _ _ r => r
    rcases hc with z | z
    · rw [z]; exact trk b u q
    · exact trk c _ z
  · obtain ⟨o', q1⟩ := I.base.there b o q (nex b)
    exact ⟨o', PySem.W.hideAll_get _ q1 (I.notStack q hb)⟩
  · obtain ⟨ob, q1⟩ := (I.hok b u q).ex
    exact ⟨ob, PySem.W.hideAll_get _ q1 (trk b u q)⟩

end

/-- what is wanted where an exception of the class at C is raised in a body -/
def Raises (X : Cx) (C : Addr) (E : XK) : Prop := ∀ (pins : List (Addr × Obj)) (σ : St) (H : Hp) (s : Shared) (h' : Heap) (e : Addr) (vs : List Value), Inv X pins σ H s → Heap.MadeExcOf s.heap h' e (.ref C) vs → E (.ref C) none H → X.xe (.ref e) { s with heap := h' }
theorem raiseE {P : Program} {w : World} {K : PySem.W.Frag} {mg : Str → Option Value} {base : Heap} {N : List Str} {qual : Str} {scope : Scope} {f : Addr} {cd : Value} {A : Around} {outer : List Env} {s : Shared} {H : Hp} {E : XK} {C : Addr} :
    Raises (cxOf (CXE P w) P w K mg base N qual scope f cd A outer s H E) C E := by
  intro pins σ H1 s1 h' e vs I hx q
  exact fly_made (X := cxOf (CXE P w) P w K mg base N qual scope f cd A outer s H E) I rfl rfl rfl hx fun h'' F' => ⟨C, H1, F', q⟩

/-! an own error class as the top has made it -/
theorem exc_obj {K : PySem.W.Frag} {h : Heap} {C : Addr} {bmB : List Value} {newId : String} (X : K.In h) (q : PySem.W.excIn K C bmB newId = true) :
    ∃ bm N nm qn bs hdct sn sub ab col dd k0 k1 k2 k3 k5 mN, h.get? C = some (excClassObj nm qn C N bs bm hdct sn sub ab col dd k0 k1 k2 k3 k5 newId) ∧ h.Ns N mN ∧ mN "__init__" = none ∧ OwnTail h bmB bm := by
  unfold PySem.W.excIn at q
  split at q
  · rename_i dd cd sl ho
    split at q
    · rename_i C' bm k0 k1 k2 k3 n k5 hm hs
      simp only [Bool.and_eq_true, beq_iff_eq, Bool.not_eq_true'] at q
      obtain ⟨⟨⟨⟨⟨rfl, rfl⟩, hdel⟩, ht⟩, hok⟩, hni⟩ := q
      obtain ⟨nm, bs, mro, ns, qn, hd, sn, sub, ab, col, del⟩ := cd
      dsimp only at hm hdel hok hni
      subst hm hdel
      have hsl : sl = #[k0, k1, k2, k3, some (.builtin n), k5] := by
        obtain ⟨l⟩ := sl
        simp only at hs
        rw [hs]
      subst hsl
      exact ⟨bm, ns, nm, qn, bs, hd, sn, sub, ab, col, dd, k0, k1, k2, k3, k5, _, X _ _ ho, .of_isNs (PySem.W.isNs_of_in X hok), PySem.W.nsMap_none_of_in X hok hni, PySem.W.tail_of_in X ht⟩
    · cases q
  · cases q

section
variable {X : Cx} {C : Addr} {bmB : List Value} {B newId initId : String} {x : Str} {np cpos pos : Pos} {e : Expr} {es : List Expr} {t : TA} {E : XK}
/-- raise x(e, ..), x an own class -/
theorem ps_raise (FB : ExcBaseFacts B newId initId bmB) (hx : PySem.W.excIn X.K C bmB newId = true) (hc : X.calm = true) (hg : Gl X x) (hm : X.mg x = some (.ref C)) (ha : PA X (e :: es) t) (hR : Raises X C E)
    (hd : (x == ("__debug__" : Str)) = false := by decide) (he : starEach (e :: es) X.env = (false, eval e X.env) :: starEach es X.env := by rfl) (hpl : (backTo cpos (starEach es X.env)).any (·.1) = false := by rfl) :
    PS X (.Raise (some (.Call (.Name x np) (e :: es) [] cpos)) none pos) (fun _ σ H => t σ H fun vs H1 => vs.length ≤ sizeLine ∧ E (.ref C) none H1) := by
  intro pins s σ H D I h
  obtain ⟨tl, N, nm, q, bs, hdct, sn, sub, ab, col, dd, k0, k1, k2, k3, k5, mN, hC, hN, hni, T⟩ := exc_obj (h := X.base) I.mod.kin hx
  refine wpAny_Raise_call_subT (C := C) (nm := nm) (q := q) (N := N) (bs := bs) (bm := tl) (hdct := hdct) (sn := sn) (sub := sub) (ab := ab) (col := col) (dd := dd) (k0 := k0) (k1 := k1) (k2 := k2) (k3 := k3) (k5 := k5)
    FB (mN := mN) (T.hasType FB.hasBase) (I.ok.hd hc) (by rw [he]; show (false || (backTo cpos (starEach es X.env)).any (·.1)) = false; rw [hpl]; rfl) hni (ld_glob I hg hm ⟨rfl, ?_⟩ hd)
  have h0 := thn (ha cpos pins s σ H _ I h) (Q' := fun vs s₂ => vs.length ≤ sizeLine ∧ (∀ b o, X.base.get? b = some o → s₂.heap.get? b = some o) ∧ ∀ h' e, Heap.MadeExcOf s₂.heap h' e (.ref C) vs → X.xe (.ref e) { s₂ with heap := h' })
    fun us s1 ⟨vs, H1, I1, r1, q1, q2⟩ => ⟨by rw [← r1.length]; exact q1, I1.bk, fun h' e hx' => hR pins σ H1 s1 h' e us I1 hx' q2⟩
  rw [he] at h0 ⊢
  exact Calls.evalArgs_plain (wpAny_mono h0 (fun vs s₂ h₂ => ⟨rfl, h₂.1, h₂.2.1 _ _ hC, hN.keeps h₂.2.1, T.keeps h₂.2.1, h₂.2.2⟩) fun _ _ y => y)
end

/-- THE RULE for a def that may raise own errors -/
theorem Fun.okE {P : Program} {w : World} {K : PySem.W.Frag} {mg : Str → Option Value} {base : Heap} {x qual : Str} {st : Stmt} {f : Addr} {fd : FuncData} {N ps : List Str} {k : Nat} {sp : Sp} (F : Fun K x qual st f fd) (S : FnScope N ps (defScope st)) (len : ∀ vs H Q E, sp vs H Q E → vs.length = ps.length)
    (hbody : ∀ (cdv : Value) (A : Around) (outer : List Env) (s : Shared) (H : Hp) (vs : List V) (Q : VK) (E : XK), Room k (A.deeper (envOfC qual (defScope st) s.heap.objs.size f cdv)) → sp vs H Q E →
      ∃ t, PSs (cxOf (CXE P w) P w K mg base N qual (defScope st) f cdv A outer s H E) (defBody st) t ∧ t { nx := fun _ H' => Q .non H', rt := Q } (start N vs) H) : FnOk P w K mg base (CXE P w) (k + 1) f fd ps sp := by
  obtain ⟨oc, od, kV, doc, pm, an, cdv, ct, osl, rfl, lk, hcd⟩ := F.ex
  exact fn_of lk hcd S len fun A outer s H vs Q E hr hsp => hbody cdv A outer s H vs Q E hr hsp

/-! ### try: f(..) except C0 as n: .. -/
/-- an expression that may end in an exception: te also takes the wish of it -/
def PEx (X : Cx) (e : Expr) (te : St → Hp → VK → XK → Prop) : Prop :=
  ∀ (pins : List (Addr × Obj)) (s : Shared) (σ : St) (H : Hp) (Q : VK) (E : XK), Inv X pins σ H s → te σ H Q E →
    wpAny (model X.prog X.w) X.A (eval e X.env) (EP X pins σ Q) (fun e' s' => ∃ C H1 s1 H', Inv X pins σ H1 s1 ∧ Fly X.prog X.w X.stack H1 s1 C e' H' s' ∧ E (.ref C) none H') s
section
variable {X : Cx} {k : Nat} {f : Addr} {fd : FuncData} {ps : List Str} {sp : Sp} {dvs : List V} {ds : List Value} {x : Str} {p pos : Pos} {e : Expr} {es : List Expr} {t : TA}
end
end L2

set_option Elab.async false
set_option linter.all false
set_option maxRecDepth 100000
set_option maxHeartbeats 4000000

/-! ### == and != of lists and tuples, item by item -/
namespace L2
open PySem PySem.Spec PyProof.Rows

/-- x == y comes out as b; n: how deep it goes -/
def EqD (X : Cx) (H : Hp) (n : Nat) (x y : V) (b : Bool) : Prop :=
  ∀ (pins : List (Addr × Obj)) (σ : St) (s : Shared) (u v : Value) (A : Around), Inv X pins σ H s → RelV x u → RelV y v → A.units + n < cLine → SeqAt.EqAt A s u v b

section
variable {X : Cx} {H : Hp}
theorem eqd_flat {x y : V} (fx : flatV x = true) (fy : flatV y = true) : EqD X H 0 x y (eqV x y) := fun _ _ _ _ _ _ _ rx ry _ => eqAt_V rx ry fx fy
theorem EqD.mono {m n : Nat} {x y : V} {b : Bool} (h : EqD X H m x y b) (hn : m ≤ n) : EqD X H n x y b := fun pins σ s u v A I rx ry hu => h pins σ s u v A I rx ry (by omega)
theorem eqd_tup {n : Nat} {a b : Addr} {xs ys : List V} {e : Nat → Bool} (ha : SqT X.K H a xs) (hb : SqT X.K H b ys) (hl : xs.length = ys.length) (hs : a = b → ∀ j, j < xs.length → e j = true)
    (he : ∀ j x y, xs[j]? = some x → ys[j]? = some y → EqD X H n x y (e j)) : EqD X H (n + 1) (.ref a) (.ref b) ((List.range xs.length).all e) := by
  intro pins σ s u v A I rx ry hu
  cases rx
  cases ry
  obtain ⟨its, r, p, hz⟩ := I.tuple ha
  obtain ⟨jts, r', p', hz'⟩ := I.tuple hb
  have l1 := r.length
  have l2 := r'.length
  by_cases hab : a = b
  · subst hab
    have q : (List.range xs.length).all e = true := List.all_eq_true.mpr fun j hj => hs rfl j (List.mem_range.mp hj)
    rw [q]
    exact SeqAt.EqAt.same _
  · have R := SeqAt.RcAt.tuples (A := A) (e := e) (show s.heap.IsTuple a its.toArray from p) (show s.heap.IsTuple b jts.toArray from p') (by omega) fun j h1 h2 => by
      have h1' : j < its.length := by simpa using h1
      have h2' : j < jts.length := by simpa using h2
      obtain ⟨x, ex⟩ : ∃ x, xs[j]? = some x := ⟨_, List.getElem?_eq_getElem (by omega)⟩
      obtain ⟨y, ey⟩ : ∃ y, ys[j]? = some y := ⟨_, List.getElem?_eq_getElem (by omega)⟩
      obtain ⟨ux, eu, ru⟩ := r.get ex
      obtain ⟨uy, ev, rv⟩ := r'.get ey
      have e1 : its.toArray[j] = ux := by
        have := List.getElem?_eq_getElem h1'
        rw [eu] at this
        simpa using (Option.some.inj this).symm
      have e2 : jts.toArray[j] = uy := by
        have := List.getElem?_eq_getElem h2'
        rw [ev] at this
        simpa using (Option.some.inj this).symm
      rw [e1, e2]
      exact he j x y ex ey pins σ s ux uy A.in1 I ru rv (by show A.units + 1 + n < cLine; omega)
    have q : ((List.range (min its.toArray.size jts.toArray.size)).all e && its.toArray.size == jts.toArray.size) = (List.range xs.length).all e := by
      have s1 : its.toArray.size = xs.length := by simp [l1]
      have s2 : jts.toArray.size = xs.length := by simp [← l2, hl]
      rw [s1, s2, Nat.min_self, beq_self_eq_true, Bool.and_true]
    rw [q] at R
    exact .of_refs hab R
theorem lst_items {pins : List (Addr × Obj)} {σ : St} {s : Shared} {n : Nat} {xs ys : List V} {its jts : List Value} {A : Around} {e : Nat → Bool} (I : Inv X pins σ H s) (r : Vals xs its) (r' : Vals ys jts) (hu : A.units + 1 + n < cLine)
    (he : ∀ j x y, xs[j]? = some x → ys[j]? = some y → EqD X H n x y (e j)) : ∀ j (h1 : j < its.toArray.size) (h2 : j < jts.toArray.size), SeqAt.EqAt A.in1 s its.toArray[j] jts.toArray[j] (e j) := fun j h1 h2 => by
  have l1 := r.length
  have l2 := r'.length
  have h1' : j < its.length := by simpa using h1
  have h2' : j < jts.length := by simpa using h2
  obtain ⟨x, ex⟩ : ∃ x, xs[j]? = some x := ⟨_, List.getElem?_eq_getElem (by omega)⟩
  obtain ⟨y, ey⟩ : ∃ y, ys[j]? = some y := ⟨_, List.getElem?_eq_getElem (by omega)⟩
  obtain ⟨ux, eu, ru⟩ := r.get ex
  obtain ⟨uy, ev, rv⟩ := r'.get ey
  have e1 : its.toArray[j] = ux := by
    have := List.getElem?_eq_getElem h1'
    rw [eu] at this
    simpa using (Option.some.inj this).symm
  have e2 : jts.toArray[j] = uy := by
    have := List.getElem?_eq_getElem h2'
    rw [ev] at this
    simpa using (Option.some.inj this).symm
  rw [e1, e2]
  exact he j x y ex ey pins σ s ux uy A.in1 I ru rv (by show A.units + 1 + n < cLine; omega)
/-- two lists compared: of one length, item by item; or of two lengths -/
def rEqL (X : Cx) (neg : Bool) : R2 := fun x y H Q => ∃ a b xs ys, x = .ref a ∧ y = .ref b ∧ SqL X.K H a xs ∧ SqL X.K H b ys ∧
  ((xs.length = ys.length ∧ ∃ e : Nat → Bool, (∀ j x y, xs[j]? = some x → ys[j]? = some y → EqD X H 8 x y (e j)) ∧ Q (.bl (if neg then !(List.range xs.length).all e else (List.range xs.length).all e)) H) ∨
   (xs.length ≠ ys.length ∧ Q (.bl neg) H))
theorem op_eq_lst (hu : X.A.units + 64 < cLine) : OpR X (compareOp .Eq) (rEqL X false) := by
  intro pins s σ H x y v u Q I rx ry h
  obtain ⟨a, b, xs, ys, rfl, rfl, ha, hb, h⟩ := h
  cases rx
  cases ry
  obtain ⟨its, r, p, hz⟩ := I.list ha
  obtain ⟨jts, r', p', hz'⟩ := I.list hb
  have l1 := r.length
  have l2 := r'.length
  rcases h with ⟨hl, e, he, q⟩ | ⟨hl, q⟩
  · refine SeqAt.eq_listAt (e := e) p.isList p'.isList (by simp; omega) (by omega) (lst_items I r r' (by omega) he) ⟨.bl _, H, I, rfl, ?_⟩
    have s1 : its.toArray.size = xs.length := by simp [l1]
    rw [s1]
    exact q
  · exact SeqAt.eq_list_lengthsAt p.isList p'.isList (by simp; omega) (by omega) ⟨.bl false, H, I, rfl, q⟩
theorem op_ne_lst (hu : X.A.units + 64 < cLine) : OpR X (compareOp .NotEq) (rEqL X true) := by
  intro pins s σ H x y v u Q I rx ry h
  obtain ⟨a, b, xs, ys, rfl, rfl, ha, hb, h⟩ := h
  cases rx
  cases ry
  obtain ⟨its, r, p, hz⟩ := I.list ha
  obtain ⟨jts, r', p', hz'⟩ := I.list hb
  have l1 := r.length
  have l2 := r'.length
  rcases h with ⟨hl, e, he, q⟩ | ⟨hl, q⟩
  · refine SeqAt.RcNeAt.lists (e := e) p.isList p'.isList (by simp; omega) (by omega) (lst_items I r r' (by omega) he) X.prog X.w _ _ ⟨.bl _, H, I, rfl, ?_⟩
    have s1 : its.toArray.size = xs.length := by simp [l1]
    rw [s1]
    exact q
  · exact SeqAt.RcNeAt.lists_lengths p.isList p'.isList (by simp; omega) (by omega) X.prog X.w _ _ ⟨.bl true, H, I, rfl, q⟩
end
end L2

set_option Elab.async false
set_option linter.all false
set_option maxRecDepth 100000
set_option maxHeartbeats 4000000

/-! ### a def of the text, with all that a caller asks of it -/
namespace L2
open PySem PySem.Spec PyProof.Rows

/-- the def as the top has made it -/
def FnAt (K : PySem.W.Frag) (mg : Str → Option Value) (x : Str) (st : Stmt) (ps : List Str) : Prop := ∃ f fd, mg x = some (.ref f) ∧ Fun K x x st f fd ∧ Binds K fd ps []
/-- the def keeps a promise -/
def Def (P : Program) (w : World) (K : PySem.W.Frag) (mg : Str → Option Value) (base : Heap) (CX : CXT) (k : Nat) (x : Str) (ps : List Str) (sp : Sp) : Prop :=
  ∃ f fd, mg x = some (.ref f) ∧ PySem.W.keepIn K (.ref f) = true ∧ Binds K fd ps [] ∧ FnOk P w K mg base CX k f fd ps sp
section
variable {P : Program} {w : World} {K : PySem.W.Frag} {mg : Str → Option Value} {base : Heap} {x : Str} {st : Stmt} {N ps : List Str} {k : Nat} {sp : Sp}
theorem FnAt.ok (D : FnAt K mg x st ps) (S : FnScope N ps (defScope st)) (len : ∀ vs H Q E, sp vs H Q E → vs.length = ps.length)
    (hbody : ∀ (f : Addr) (cdv : Value) (A : Around) (outer : List Env) (s : Shared) (H : Hp) (vs : List V) (Q : VK) (E : XK), Room k (A.deeper (envOfC x (defScope st) s.heap.objs.size f cdv)) → sp vs H Q E →
      ∃ t, PSs (cxOf CX0 P w K mg base N x (defScope st) f cdv A outer s H E).nox (defBody st) t ∧ t { nx := fun _ H' => Q .non H', rt := Q } (start N vs) H) : Def P w K mg base CX0 (k + 1) x ps sp := by
  obtain ⟨f, fd, hm, F, b⟩ := D
  exact ⟨f, fd, hm, F.kp, b, F.ok S len (hbody f)⟩
theorem FnAt.okE (D : FnAt K mg x st ps) (S : FnScope N ps (defScope st)) (len : ∀ vs H Q E, sp vs H Q E → vs.length = ps.length)
    (hbody : ∀ (f : Addr) (cdv : Value) (A : Around) (outer : List Env) (s : Shared) (H : Hp) (vs : List V) (Q : VK) (E : XK), Room k (A.deeper (envOfC x (defScope st) s.heap.objs.size f cdv)) → sp vs H Q E →
      ∃ t, PSs (cxOf (CXE P w) P w K mg base N x (defScope st) f cdv A outer s H E) (defBody st) t ∧ t { nx := fun _ H' => Q .non H', rt := Q } (start N vs) H) : Def P w K mg base (CXE P w) (k + 1) x ps sp := by
  obtain ⟨f, fd, hm, F, b⟩ := D
  exact ⟨f, fd, hm, F.kp, b, F.okE S len (hbody f)⟩
end
section
variable {X : Cx} {CX : CXT} {k : Nat} {x : Str} {ps : List Str} {sp : Sp} {E : XK} {p pos : Pos} {e : Expr} {es : List Expr} {t : TA}
/-- f(e, ..) -/
theorem pe_def (D : Def X.prog X.w X.K X.mg X.base CX k x ps sp) (hr : Room k X.A) (hg : Gl X x) (hx : Passes CX X E) (ha : PA X (e :: es) t) (hdb : (x == ("__debug__" : Str)) = false := by decide)
    (he : starEach (e :: es) X.env = (false, eval e X.env) :: starEach es X.env := by rfl) (hpl : (backTo pos (starEach es X.env)).any (·.1) = false := by rfl) : PE X (.Call (.Name x p) (e :: es) [] pos) (tCall sp [] E t) := by
  obtain ⟨f, fd, hm, kp, b, F⟩ := D
  exact pe_call F hr hg hm kp b .nil hx ha hdb he hpl
end

theorem iteN {c A B : Prop} [Decidable c] (h : ¬ c) (b : B) : if c then A else B := by rw [if_neg h]; exact b
theorem iteP {c A B : Prop} [Decidable c] (h : c) (a : A) : if c then A else B := by rw [if_pos h]; exact a
/-! ### a comprehension over a list that stays, a range, two lists side by side -/
/-- Pv: by the turn, the list so far, the names, the heap -/
theorem comp_list {K : PySem.W.Frag} {a : Addr} {xs : List V} {g : TG} {tt : TT} {te : TE} {R : Hp → Prop} {H1 : Hp} {σ0 : St} {D : Addr} (Pv : Nat → List V → St → Hp → Prop) (hl : ∀ i ys σ H, i ≤ xs.length → Pv i ys σ H → SqL K H a xs) (h0 : Pv 0 [] σ0 (upd H1 D (.lst [])))
    (hs : ∀ i x ys σ H, xs[i]? = some x → Pv i ys σ H → g x σ H fun σ3 H3 => tt σ3 H3 fun b H4 => if b = true then te σ3 H4 fun y H5 => H5 D = some (.lst ys) ∧ ys.length < sizeLine ∧ Pv (i + 1) (ys ++ [y]) σ3 (upd H5 D (.lst (ys ++ [y]))) else Pv (i + 1) ys σ3 H4)
    (hq : ∀ ys σ H, Pv xs.length ys σ H → R H) :
    ∃ W : Nat → Nat → List V → St → Hp → Prop, (∃ m, W 0 m [] σ0 (upd H1 D (.lst []))) ∧ ∀ i m ys σ' H', W i m ys σ' H' →
      ((Itl K a).stop i H' ∧ R H') ∨ ((Itl K a).go i H' ∧ ∃ N : List V → St → Hp → Prop, (∀ zs σ2 H2, N zs σ2 H2 → ∃ m', m' < m ∧ W (i + 1) m' zs σ2 H2) ∧ ∀ x H2, (Itl K a).yld i H' x H2 → g x σ' H2 fun σ3 H3 => tt σ3 H3 fun b H4 =>
        if b = true then te σ3 H4 fun y H5 => H5 D = some (.lst ys) ∧ ys.length < sizeLine ∧ N (ys ++ [y]) σ3 (upd H5 D (.lst (ys ++ [y])))
        else N ys σ3 H4) := by
  refine ⟨fun i m ys σ H => m = xs.length - i ∧ i ≤ xs.length ∧ Pv i ys σ H, ⟨xs.length, by simp, Nat.zero_le _, h0⟩, ?_⟩
  rintro i m ys σ H ⟨rfl, hi, p⟩
  have q2 := hl i ys σ H hi p
  by_cases hlt : i < xs.length
  · refine .inr ⟨⟨xs, xs[i], q2, by simp [hlt]⟩, Pv (i + 1), fun zs σ2 H2 p' => ⟨xs.length - (i + 1), by omega, rfl, hlt, p'⟩, fun x H2 y => ?_⟩
    obtain ⟨e, y⟩ := y
    subst e
    exact hs i x ys σ _ (y xs q2) p
  · have e : i = xs.length := by omega
    subst e
    exact .inl ⟨⟨xs, q2, Nat.le_refl _⟩, hq ys σ H p⟩
end L2

set_option Elab.async false
set_option linter.all false
set_option maxRecDepth 100000
set_option maxHeartbeats 4000000

/-! ### more rules: list(range(n)), a range by steps, f-strings, join, text times int -/
namespace L2
open PySem PySem.Spec PyProof.Rows
theorem vals_of_get : ∀ {xs : List V} {us : List Value}, xs.length = us.length → (∀ (i : Nat) (x : V) (u : Value), xs[i]? = some x → us[i]? = some u → RelV x u) → Vals xs us
  | [], [], _, _ => .nil
  | x :: xs, u :: us, hl, h => .cons (h 0 x u rfl rfl) (vals_of_get (by simpa using hl) fun i x' u' e1 e2 => h (i + 1) x' u' (by simpa using e1) (by simpa using e2))
  | [], _ :: _, hl, _ => by simp at hl
  | _ :: _, [], hl, _ => by simp at hl
/-- the ints 0, 1, .. -/
def upTo (n : Nat) : List V := (List.range n).map fun i => V.int (i : Nat)
theorem upTo_length (n : Nat) : (upTo n).length = n := by simp [upTo]
theorem upTo_get {n i : Nat} {x : V} (h : (upTo n)[i]? = some x) : i < n ∧ x = .int (i : Nat) := by
  have hi : i < n := by have := (List.getElem?_eq_some_iff.mp h).1; rwa [upTo_length] at this
  refine ⟨hi, ?_⟩
  unfold upTo at h
  rw [List.getElem?_map, List.getElem?_range hi] at h
  exact (Option.some.inj h).symm
section
variable {X : Cx}
/-- range(n) as a value -/
def tRngV (ta : TA) : TE := fun σ H Q => ta σ H fun vs H1 => ∃ j : Int, vs = [.int j] ∧ ∀ r, H1 r = none → Q (.ref r) (upd H1 r (.rng 0 j))
theorem pe_rangeV {a : Expr} {ta : TA} {p pos : Pos} (hg : Gl X "range") (hm : X.mg "range" = none) (ha : PA X [a] ta) (hs : starEach [a] X.env = [(false, eval a X.env)] := by rfl) : PE X (.Call (.Name "range" p) [a] [] pos) (tRngV ta) := by
  intro pins s σ H Q I h
  refine Call_ (ld_blt I hg hm boot_range (PyProof.Rows.callWith_type1 (thn (ha pos pins s σ H _ I h) fun us s1 ⟨vs, H1, I1, r1, q1⟩ => ?_) hs rfl))
  obtain ⟨j, e, q⟩ := q1
  subst e
  obtain ⟨u, rfl, t, rfl⟩ := vals1 r1
  exact call_range_1 ⟨.ref s1.heap.objs.size, _, I1.laid (a := s1.heap.objs.size) (o := .rng 0 j) (fun _ _ q => Heap.get?_push_of_some _ q) (Nat.le_refl _) ⟨_, _, _, Heap.get?_push_size _ rfl⟩, rfl, q _ I1.fresh⟩
/-- list(r), r a range -/
def rListRng : List V → Hp → VK → Prop := fun xs H Q => ∃ (p : Addr) (j : Int), xs = [.ref p] ∧ H p = some (.rng 0 j) ∧ -(2 ^ 62) ≤ j ∧ j ≤ 16777216 ∧ ∀ l, H l = none → Q (.ref l) (upd H l (.lst (upTo j.toNat)))
theorem call_list_rng (hc : X.calm = true) : CallR X (.type "list") rListRng := by
  intro pins s σ H xs us Q I r h
  obtain ⟨p, j, rfl, hp, h1, h2, q⟩ := h
  obtain ⟨u, rfl, rx⟩ := vals1 r
  cases rx
  obtain ⟨t, u, v, e⟩ := I.hok p _ hp
  refine call_list_range (n := j.toNat) (I.ok.hd hc) e (small_one (by omega) (by omega) h1 (by omega)) (by rw [rangeSize_one]; split <;> omega) (by omega) fun h' tk acc c hk hl hi => ?_
  refine ⟨.ref s.heap.objs.size, _, I.laid (a := s.heap.objs.size) (o := .lst (upTo j.toNat)) hk (Nat.le_refl _) ⟨?_, acc.toList, c, ?_, by simpa using hl⟩, rfl, q _ I.fresh⟩
  · rw [upTo_length, sizeLine_eq]; omega
  · obtain ⟨i1, i2⟩ := hi
    refine vals_of_get (by simp [upTo_length, i1]) fun i x u ex eu => ?_
    obtain ⟨_, rfl⟩ := upTo_get ex
    obtain ⟨t, e⟩ := i2 i u (by simpa using eu)
    subst e
    exact ⟨t, by simp⟩
/-! f-strings -/
def PJ (X : Cx) (es : List Expr) (t : Str → TE) : Prop :=
  ∀ (out : Str) (pins : List (Addr × Obj)) (s : Shared) (σ : St) (H : Hp) (Q : VK), Inv X pins σ H s → t out σ H Q → wpAny (model X.prog X.w) X.A (joinParts out (evalEach es X.env)) (EP X pins σ Q) X.xe s
def jNil : Str → TE := fun out _ H Q => out.length ≤ sizeLine ∧ Q (.str out) H
def jCons (te : TE) (t : Str → TE) : Str → TE := fun out σ H Q => te σ H fun v H1 => ∃ y, v = .str y ∧ (out ++ y).length ≤ sizeLine ∧ t (out ++ y) σ H1 Q
def tFmt (te : TE) : TE := fun σ H Q => te σ H fun v H1 => ∃ i : Int, v = .int i ∧ i.natAbs.log2 < 1920 ∧ Q (.str (toString i)) H1
def tJoined (t : Str → TE) : TE := t Str.empty
/-! join, times -/
def rJoin (K : PySem.W.Frag) : V → List V → Hp → VK → Prop := fun x xs H Q => ∃ (z : Str) (p : Addr) (ys : List Str), x = .str z ∧ xs = [.ref p] ∧ SqL K H p (ys.map V.str) ∧ (ys.map (·.length)).sum + ys.length * z.length ≤ 16777216 ∧ Q (.str (PySem.Txt.join z ys)) H
end
end L2

set_option Elab.async false
set_option linter.all false
set_option maxRecDepth 100000
set_option maxHeartbeats 4000000
namespace Sp
open PySem L2
def top (i : Nat) : Stmt := PySem.Challenge.pw_spantolls_k04_whole_lodged.main.body.getD i (.Pass ⟨0, 0, 0, 0⟩)
abbrev s_is_whole : Stmt := top 5
abbrev s_are_days : Stmt := top 6
abbrev s_is_request : Stmt := top 7
abbrev s_are_requests : Stmt := top 8
abbrev s_are_rooms : Stmt := top 9
abbrev s_check_requests : Stmt := top 10
abbrev s_check_rooms : Stmt := top 11
abbrev s_is_rising : Stmt := top 13
abbrev s_is_choice : Stmt := top 14
abbrev s_worth_of : Stmt := top 15
abbrev s_fits : Stmt := top 16
abbrev s_is_toll : Stmt := top 17
abbrev s_are_tolls : Stmt := top 18
abbrev s_count_below : Stmt := top 19
abbrev s_sums_of : Stmt := top 20
abbrev s_gains_of : Stmt := top 21
abbrev s_is_best : Stmt := top 22
abbrev s_are_apart : Stmt := top 23
abbrev s_Best___init__ : Stmt := inClass (top 25) 0
abbrev s_Best_shows : Stmt := inClass (top 25) 1
abbrev s_Due___init__ : Stmt := inClass (top 26) 0
abbrev s_Due_shows : Stmt := inClass (top 26) 1
abbrev s_Lodged___init__ : Stmt := inClass (top 27) 0
abbrev s_Lodged_shows : Stmt := inClass (top 27) 1
abbrev s_Crowd___init__ : Stmt := inClass (top 28) 0
abbrev s_Crowd_shows : Stmt := inClass (top 28) 1
abbrev s_turns_of : Stmt := top 32
abbrev s_asking_for : Stmt := top 33
abbrev s_lodged : Stmt := top 34
abbrev s__law_cell_at : Stmt := top 36
abbrev s__law_draw : Stmt := top 37
abbrev s__law_requests : Stmt := top 38
abbrev s__law_rooms : Stmt := top 39
abbrev s__law_whole : Stmt := top 40
abbrev s__law_chosen : Stmt := top 41
abbrev s__law_there : Stmt := top 42
abbrev s__law_worth : Stmt := top 43
abbrev s__law_best : Stmt := top 44
abbrev s__law_due : Stmt := top 45
abbrev s_law : Stmt := top 46

/-- the built-in names that the text calls: none of them is bound by the text -/
structure Bl (mg : Str → Option Value) : Prop where
  isinstance : mg "isinstance" = none
  int : mg "int" = none
  bool : mg "bool" = none
  list : mg "list" = none
  tuple : mg "tuple" = none
  len : mg "len" = none
  all : mg "all" = none
  any : mg "any" = none
  sum : mg "sum" = none
  zip : mg "zip" = none
  range : mg "range" = none
  max : mg "max" = none
  sorted : mg "sorted" = none
  set : mg "set" = none
  abs : mg "abs" = none
  dict : mg "dict" = none
  enumerate : mg "enumerate" = none
  ValueError : mg "ValueError" = none
  str : mg "str" = none
end Sp


set_option Elab.async false
set_option linter.all false
set_option maxRecDepth 100000
set_option maxHeartbeats 4000000
namespace Sp
open PySem L2
section
variable {P : Program} {w : World} {K : PySem.W.Frag} {mg : Str → Option Value} {base : Heap}
/-! ### kinds -/
theorem kits {H : Hp} {v : V} {T : String} (ty : TyOf K H v (.type T)) :
    PySem.W.kitOne K (.type T) (.type "int") = some (T == "int" || T == "bool") ∧ PySem.W.kitOne K (.type T) (.type "bool") = some (T == "bool") ∧ PySem.W.kitOne K (.type T) (.type "list") = some (T == "list") ∧ PySem.W.kitOne K (.type T) (.type "tuple") = some (T == "tuple") := by
  cases ty <;> exact ⟨by kernel_rfl, by kernel_rfl, by kernel_rfl, by kernel_rfl⟩
/-- isinstance(e, T) for a built-in T -/
theorem pe_isi {X : Cx} {e : Expr} {te : TE} {T : String} {n : Str} {p1 p2 pos : Pos} (B : X.mg "isinstance" = none) (hT : X.mg n = none) (hb : bootBuiltins n = some (.type T)) (he : PE X e te) (hg : Gl X "isinstance" := by rfl) (hgT : Gl X n := by rfl)
    (hn : n ≠ "__name__" := by decide) (hd : (n == ("__debug__" : Str)) = false := by decide) (hs : starEach [e, .Name n p2] X.env = (false, eval e X.env) :: starEach [.Name n p2] X.env := by rfl) (hs2 : starEach [.Name n p2] X.env = (false, eval (.Name n p2) X.env) :: starEach [] X.env := by rfl)
    (hpl : (backTo pos (starEach [.Name n p2] X.env)).any (·.1) = false := by rfl) :
    PE X (.Call (.Name "isinstance" p1) [e, .Name n p2] [] pos) (tCB (fun xs H Q => ∃ x t b, xs = [x, .ty T] ∧ TyOf X.K H x t ∧ PySem.W.kitOne X.K t (.type T) = some b ∧ Q (.bl b) H) (tCons te (tCons (tC (.ty T)) tNil))) := by
  have c : CallR X (.builtin "isinstance") (fun xs H Q => ∃ x t b, xs = [x, .ty T] ∧ TyOf X.K H x t ∧ PySem.W.kitOne X.K t (.type T) = some b ∧ Q (.bl b) H) := fun pins s σ H xs us Q I r ⟨x, t, b, e1, ty, k, q⟩ =>
    call_isinst pins s σ H xs us Q I r ⟨x, _, t, .type T, b, e1, ⟨rfl, fun _ h => h⟩, ty, k, q⟩
  exact pe_callB c hg B PyProof.Rows.Boot.«isinstance» (pa_cons he (pa_cons (pe_bltn hgT hT hb (show RelV (.ty T) (.type T) from rfl) hn hd) pa_nil hs2) hs) (by decide) (by decide) hs hpl
/-! ### is_whole -/
theorem sc_whole : FnScope ["value"] ["value"] (defScope s_is_whole) := ⟨rfl, rfl, rfl, by decide +kernel, rfl, by decide +kernel, by decide +kernel⟩
def sp_whole (K : PySem.W.Frag) : Sp := fun vs H Q _ => ∃ v T, vs = [v] ∧ TyOf K H v (.type T) ∧ Q (.bl (T == "int")) H
theorem ok_whole (B : Bl mg) (D : FnAt K mg "is_whole" s_is_whole ["value"]) : Def P w K mg base CX0 1 "is_whole" ["value"] (sp_whole K) := by
  refine D.ok sc_whole (fun vs H Q E h => ?_) fun f cdv A outer s H vs Q E hr h => ?_
  · obtain ⟨v, T, rfl, _⟩ := h; rfl
  · obtain ⟨v, T, rfl, ty, q⟩ := h
    refine ⟨_, pss_one (ps_ret (pe_and (pe_isi B.isinstance B.int PyProof.Rows.Boot.«int» (pv 0)) (pe_one (pe_not (pe_isi B.isinstance B.bool PyProof.Rows.Boot.«bool» (pv 0)))))), ?_⟩
    obtain ⟨k1, k2, _⟩ := kits ty
    refine ⟨_, rfl, _, _, _, rfl, ty, k1, _, rfl, ?_⟩
    by_cases h1 : (T == "int" || T == "bool") = true
    · rw [if_pos h1]
      refine ⟨_, rfl, _, _, _, rfl, ty, k2, _, rfl, ?_⟩
      have e : (!(T == "bool")) = (T == "int") := by
        rcases Bool.or_eq_true_iff.mp h1 with z | z
        · rw [beq_iff_eq.mp z]; decide
        · rw [beq_iff_eq.mp z]; decide
      rw [e]
      exact q
    · rw [if_neg h1]
      have e : (T == "int") = false := (Bool.or_eq_false_iff.mp (Bool.eq_false_iff.mpr h1)).1
      rw [e] at q
      exact q
/-! ### are_days -/
def daysV : V → V → Bool
  | .int i, .int j => decide (i ≤ j)
  | _, _ => false
def wholeV : V → Bool
  | .int _ => true
  | _ => false
theorem wholeV_of {H : Hp} {v : V} {t : Value} (ty : TyOf K H v t) : ∀ T, t = .type T → wholeV v = (T == "int") := by
  intro T e
  cases ty <;> first | (cases e; simp [wholeV]; done) | (cases e; done)
theorem sc_days : FnScope ["first", "last"] ["first", "last"] (defScope s_are_days) := ⟨rfl, rfl, rfl, by decide +kernel, rfl, by decide +kernel, by decide +kernel⟩
def sp_days (K : PySem.W.Frag) : Sp := fun vs H Q _ => ∃ v u T S, vs = [v, u] ∧ TyOf K H v (.type T) ∧ TyOf K H u (.type S) ∧ Q (.bl (daysV v u)) H
theorem ok_days (G : Def P w K mg base CX0 1 "is_whole" ["value"] (sp_whole K)) (D : FnAt K mg "are_days" s_are_days ["first", "last"]) : Def P w K mg base CX0 2 "are_days" ["first", "last"] (sp_days K) := by
  refine D.ok sc_days (fun vs H Q E h => ?_) fun f cdv A outer s H vs Q E hr h => ?_
  · obtain ⟨v, u, T, S, rfl, _⟩ := h; rfl
  · obtain ⟨v, u, T, S, rfl, tv, tu, q⟩ := h
    refine ⟨_, pss_one (ps_ret (pe_and (pe_def G hr rfl pass0 (pa_cons (pv 0) pa_nil)) (pe_and (pe_def G hr rfl pass0 (pa_cons (pv 1) pa_nil)) (pe_one (pe_cmpR op_le (pv 0) (pv 1) (nomark _)))))), ?_⟩
    refine ⟨_, rfl, v, T, rfl, tv, _, rfl, ?_⟩
    rw [← wholeV_of tv T rfl]
    cases v with
    | int i =>
      refine iteT ⟨_, rfl, u, S, rfl, tu, _, rfl, ?_⟩
      rw [← wholeV_of tu S rfl]
      cases u with
      | int j => exact iteT ⟨_, rfl, _, rfl, _, _, rfl, rfl, q⟩
      | _ => exact iteF q
    | _ => exact iteF q
/-! ### is_request -/
/-- a value of plain kinds: no tuple, or a tuple of such as are of a plain kind -/
def PlainV (K : PySem.W.Frag) (H : Hp) (v : V) : Prop := (∃ T, T ≠ "tuple" ∧ TyOf K H v (.type T)) ∨ ∃ a xs, v = .ref a ∧ H a = some (.tup xs) ∧ ∀ x ∈ xs, ∃ T, TyOf K H x (.type T)
def natV : V → Bool
  | .int i => decide (0 ≤ i)
  | _ => false
def tripV : List V → Bool
  | [x, y, z] => daysV x y && natV z
  | _ => false
/-- whether v is a request -/
def ReqB (K : PySem.W.Frag) (H : Hp) (v : V) (b : Bool) : Prop := (b = false ∧ ∃ T, T ≠ "tuple" ∧ TyOf K H v (.type T)) ∨ ∃ a xs, v = .ref a ∧ H a = some (.tup xs) ∧ b = tripV xs
theorem tup_kind {H : Hp} {a : Addr} {xs : List V} {t : Value} (ty : TyOf K H (.ref a) t) (ha : H a = some (.tup xs)) : ∀ {T : String}, t = .type T → T = "tuple" := by
  intro T e
  cases ty with
  | lst q => rw [ha] at q; cases q
  | frz q => rw [ha] at q; cases q
  | tup q => cases e; rfl
  | dK q => rw [ha] at q; cases q
  | dT q => rw [ha] at q; cases q
  | ins q => rw [ha] at q; cases q
theorem sc_req : FnScope ["value"] ["value"] (defScope s_is_request) := ⟨rfl, rfl, rfl, by decide +kernel, rfl, by decide +kernel, by decide +kernel⟩
def sp_req (K : PySem.W.Frag) : Sp := fun vs H Q _ => ∃ v, vs = [v] ∧ PlainV K H v ∧ ∀ b, ReqB K H v b → Q (.bl b) H
theorem ok_req (B : Bl mg) (GW : Def P w K mg base CX0 1 "is_whole" ["value"] (sp_whole K)) (GD : Def P w K mg base CX0 2 "are_days" ["first", "last"] (sp_days K)) (D : FnAt K mg "is_request" s_is_request ["value"]) : Def P w K mg base CX0 3 "is_request" ["value"] (sp_req K) := by
  refine D.ok sc_req (fun vs H Q E h => ?_) fun f cdv A outer s H vs Q E hr h => ?_
  · obtain ⟨v, rfl, _⟩ := h; rfl
  · obtain ⟨v, rfl, pv', q⟩ := h
    have hr1 : Room 1 _ := hr.mono (by decide)
    refine ⟨_, pss_cons (ps_if (PW.pt (pw_or (pt_not (pt_val (pe_isi B.isinstance B.tuple PyProof.Rows.Boot.«tuple» (pv 0)))) (pw_or1 (pt_cmpR op_ne (pe_callB call_len_seq (by rfl) B.len PySem.boot_len (pa_cons (pv 0) pa_nil)) pe_int (nomark _))))) (pss_one (ps_ret pe_bl)) pss_nil)
      (pss_one (ps_ret (pe_and (pe_def GD hr rfl pass0 (pa_cons (pe_ix ix_tup (pv 0) pe_int (fun _ _ => rfl)) (pa_cons (pe_ix ix_tup (pv 0) pe_int (fun _ _ => rfl)) pa_nil)))
        (pe_and (pe_def GW hr1 rfl pass0 (pa_cons (pe_ix ix_tup (pv 0) pe_int (fun _ _ => rfl)) pa_nil)) (pe_one (pe_cmpR op_ge (pe_ix ix_tup (pv 0) pe_int (fun _ _ => rfl)) pe_int (nomark _))))))), ?_⟩
    rcases pv' with ⟨T, hT, ty⟩ | ⟨a, xs, rfl, ha, hx⟩
    · refine ⟨_, rfl, _, _, _, rfl, ty, (kits ty).2.2.2, _, rfl, ?_⟩
      have e : (T == "tuple") = false := by simpa using hT
      rw [e]
      exact iteT (iteT (q false (.inl ⟨rfl, T, hT, ty⟩)))
    · refine ⟨_, rfl, _, _, _, rfl, TyOf.tup ha, (kits (TyOf.tup ha)).2.2.2, _, rfl, ?_⟩
      refine iteN (by decide) ?_
      refine ⟨_, rfl, a, xs, rfl, .inr (SqT.of ha), rfl, _, rfl, ?_⟩
      by_cases hl : xs.length = 3
      · obtain ⟨x, y, z, rfl⟩ : ∃ x y z, xs = [x, y, z] := by
          match xs, hl with
          | [x, y, z], _ => exact ⟨x, y, z, rfl⟩
        obtain ⟨T, tx⟩ := hx x (by simp)
        obtain ⟨S, ty⟩ := hx y (by simp)
        obtain ⟨R, tz⟩ := hx z (by simp)
        refine iteN (by simp) ?_
        have at0 : atI [x, y, z] 0 = some x := rfl
        have at1 : atI [x, y, z] 1 = some y := rfl
        have at2 : atI [x, y, z] 2 = some z := rfl
        refine ⟨_, rfl, a, _, _, _, rfl, rfl, SqT.of ha, at0, _, rfl, a, _, _, _, rfl, rfl, SqT.of ha, at1, x, y, T, S, rfl, tx, ty, _, rfl, ?_⟩
        have fin : ∀ b, b = (daysV x y && natV z) → Q (.bl b) H := fun b e => q b (.inr ⟨a, _, rfl, ha, e⟩)
        cases hd : daysV x y with
        | false => exact iteF (fin false (by rw [hd]; rfl))
        | true =>
          refine iteT ⟨_, rfl, a, _, _, _, rfl, rfl, SqT.of ha, at2, z, R, rfl, tz, _, rfl, ?_⟩
          rw [← wholeV_of tz R rfl]
          cases z with
          | int k => exact iteT ⟨_, rfl, a, _, _, _, rfl, rfl, SqT.of ha, at2, _, _, rfl, rfl, fin _ (by rw [hd]; rfl)⟩
          | _ => exact iteF (fin false (by rw [hd]; rfl))
      · refine iteP (by simp; omega) (q false (.inr ⟨a, xs, rfl, ha, ?_⟩))
        match xs, hl with
        | [], _ => rfl
        | [_], _ => rfl
        | [_, _], _ => rfl
        | [_, _, _], h => exact absurd rfl h
        | _ :: _ :: _ :: _ :: _, _ => rfl
end
end Sp

set_option Elab.async false
set_option linter.all false
set_option maxRecDepth 100000
set_option maxHeartbeats 4000000
namespace Sp
open PySem L2
section
variable {P : Program} {w : World} {K : PySem.W.Frag} {mg : Str → Option Value} {base : Heap}
theorem ty_same {H H' : Hp} {v : V} {t : Value} (s : Same H H') (ty : TyOf K H v t) : TyOf K H' v t := by
  cases ty with
  | non => exact .non
  | bl x => exact .bl x
  | int i => exact .int i
  | str x => exact .str x
  | flt x => exact .flt x
  | lst e => exact .lst (s _ _ e)
  | frz e => exact .frz (s _ _ e)
  | tup e => exact .tup (s _ _ e)
  | dK e => exact .dK (s _ _ e)
  | dT e => exact .dT (s _ _ e)
  | ins e cl ha hn htk hm => exact .ins (s _ _ e) cl ha hn htk hm
theorem plain_same {H H' : Hp} {v : V} (s : Same H H') (p : PlainV K H v) : PlainV K H' v := by
  rcases p with ⟨T, hT, ty⟩ | ⟨a, xs, e, ha, hx⟩
  · exact .inl ⟨T, hT, ty_same s ty⟩
  · exact .inr ⟨a, xs, e, s _ _ ha, fun x hx' => let ⟨T, ty⟩ := hx x hx'; ⟨T, ty_same s ty⟩⟩
theorem req_same {H H' : Hp} {v : V} {b : Bool} (s : Same H H') (p : ReqB K H v b) : ReqB K H' v b := by
  rcases p with ⟨e, T, hT, ty⟩ | ⟨a, xs, e, ha, hb⟩
  · exact .inl ⟨e, T, hT, ty_same s ty⟩
  · exact .inr ⟨a, xs, e, s _ _ ha, hb⟩
theorem req_one {H : Hp} {v : V} {b c : Bool} (p : ReqB K H v b) (q : ReqB K H v c) : b = c := by
  rcases p with ⟨rfl, T, hT, ty⟩ | ⟨a, xs, rfl, ha, rfl⟩ <;> rcases q with ⟨rfl, S, hS, tz⟩ | ⟨a', ys, e, ha', rfl⟩
  · rfl
  · subst e; exact absurd (tup_kind ty ha' rfl) hT
  · exact absurd (tup_kind tz ha rfl) hS
  · cases e; rw [ha] at ha'; cases ha'; rfl
theorem plain_req {H : Hp} {v : V} (p : PlainV K H v) : ∃ b, ReqB K H v b := by
  rcases p with ⟨T, hT, ty⟩ | ⟨a, xs, e, ha, hx⟩
  · exact ⟨false, .inl ⟨rfl, T, hT, ty⟩⟩
  · exact ⟨_, .inr ⟨a, xs, e, ha, rfl⟩⟩
theorem same_new {H H' : Hp} {D : Addr} {o : HO} (s : Same H H') (hD : H D = none) : Same H (upd H' D o) := fun b u e => by
  rw [upd_ne (ne_of_none e hD)]; exact s b u e
/-! ### are_requests -/
theorem sc_reqs : FnScope ["value"] ["value"] (defScope s_are_requests) := ⟨rfl, rfl, rfl, by decide +kernel, rfl, by decide +kernel, by decide +kernel⟩
def sp_reqs (K : PySem.W.Frag) : Sp := fun vs H Q _ => ∃ v, vs = [v] ∧ ((∃ T, T ≠ "list" ∧ TyOf K H v (.type T) ∧ Q (.bl false) H) ∨
  ∃ a xs, v = .ref a ∧ H a = some (.lst xs) ∧ xs.length ≤ 60000 ∧ (∀ x ∈ xs, PlainV K H x) ∧ ∀ (bs : List Bool) H', Same H H' → bs.length = xs.length → (∀ (j : Nat) (b : Bool) (x : V), bs[j]? = some b → xs[j]? = some x → ReqB K H x b) → Q (.bl (bs.all id)) H')
theorem ok_reqs (B : Bl mg) (GR : Def P w K mg base CX0 3 "is_request" ["value"] (sp_req K)) (D : FnAt K mg "are_requests" s_are_requests ["value"]) : Def P w K mg base CX0 4 "are_requests" ["value"] (sp_reqs K) := by
  refine D.ok sc_reqs (fun vs H Q E h => ?_) fun f cdv A outer s H vs Q E hr h => ?_
  · obtain ⟨v, rfl, _⟩ := h; rfl
  · obtain ⟨v, rfl, h⟩ := h
    refine ⟨_, pss_one (ps_ret (pe_and (pe_isi B.isinstance B.list PyProof.Rows.Boot.«list» (pv 0)) (pe_one (pe_callB (call_all_bools rfl) (by rfl) B.all PyProof.Rows.Boot.«all» (pa_cons
      (pe_comp ["request"] [] rfl (pi_list (pv 0)) fun cl s H fp C => ⟨pg_name (i := 0) (show (["request"] : List Str).Nodup by decide +kernel) rfl (Or.inl rfl), pts_nil, pe_def GR hr rfl pass0 (pa_cons (pv 0) pa_nil)⟩) pa_nil))))), ?_⟩
    rcases h with ⟨T, hT, ty, q⟩ | ⟨a, xs, rfl, ha, hz, hx, q⟩
    · refine ⟨_, rfl, _, _, _, rfl, ty, (kits ty).2.2.1, _, rfl, iteN (by simpa using hT) q⟩
    · refine ⟨_, rfl, _, _, _, rfl, TyOf.lst ha, (kits (TyOf.lst ha)).2.2.1, _, rfl, iteP (by decide) ?_⟩
      refine ⟨_, rfl, a, rfl, ⟨_, SqL.of ha⟩, fun D hD => ?_⟩
      refine comp_list (K := K) (a := a) (xs := xs) (fun i ys σ H' => Same H H' ∧ H' D = some (.lst ys) ∧ (∃ o, σ = [o]) ∧ ∃ bs : List Bool, ys = bs.map V.bl ∧ bs.length = i ∧ ∀ (j : Nat) (b : Bool) (x : V), bs[j]? = some b → xs[j]? = some x → ReqB K H x b)
        (fun i ys σ H' _ p => SqL.of (p.1 _ _ ha)) ⟨same_new (Same.refl H) hD, upd_same, ⟨none, rfl⟩, [], rfl, rfl, fun j b x e => by simp at e⟩ ?_ ?_
      · rintro i x ys σ H' ex ⟨sm, hDl, ⟨o, rfl⟩, bs, rfl, hl, hb⟩
        have px := hx x (List.mem_of_getElem? ex)
        refine ⟨_, rfl, x, rfl, plain_same sm px, fun b rb => ⟨hDl, ?_, same_new sm hD, upd_same, ⟨_, rfl⟩, bs ++ [b], by simp, by simp [hl], fun j c y ec ey => ?_⟩⟩
        · have := (List.getElem?_eq_some_iff.mp ex).1
          rw [List.length_map]
          exact (show _ < sizeLine by rw [sizeLine_eq]; omega)
        · by_cases hj : j < bs.length
          · rw [List.getElem?_append_left hj] at ec
            exact hb j c y ec ey
          · rw [List.getElem?_append_right (Nat.le_of_not_lt hj)] at ec
            have e0 : j = bs.length := by
              have := (List.getElem?_eq_some_iff.mp ec).1
              simp at this
              omega
            subst e0
            simp at ec
            subst ec
            rw [hl, ex] at ey
            cases ey
            obtain ⟨b0, r0⟩ := plain_req px
            rw [req_one rb (req_same sm r0)]
            exact r0
      · rintro ys σ H' ⟨sm, hDl, _, bs, rfl, hl, hb⟩
        exact ⟨D, bs, rfl, SqL.of hDl, q bs H' sm hl hb⟩
/-! ### are_rooms -/
theorem sc_rooms : FnScope ["value"] ["value"] (defScope s_are_rooms) := ⟨rfl, rfl, rfl, by decide +kernel, rfl, by decide +kernel, by decide +kernel⟩
def sp_rooms (K : PySem.W.Frag) : Sp := fun vs H Q _ => ∃ v T, vs = [v] ∧ TyOf K H v (.type T) ∧ Q (.bl (natV v)) H
theorem ok_rooms (GW : Def P w K mg base CX0 1 "is_whole" ["value"] (sp_whole K)) (D : FnAt K mg "are_rooms" s_are_rooms ["value"]) : Def P w K mg base CX0 2 "are_rooms" ["value"] (sp_rooms K) := by
  refine D.ok sc_rooms (fun vs H Q E h => ?_) fun f cdv A outer s H vs Q E hr h => ?_
  · obtain ⟨v, T, rfl, _⟩ := h; rfl
  · obtain ⟨v, T, rfl, ty, q⟩ := h
    refine ⟨_, pss_one (ps_ret (pe_and (pe_def GW hr rfl pass0 (pa_cons (pv 0) pa_nil)) (pe_one (pe_cmpR op_ge (pv 0) pe_int (nomark _))))), ?_⟩
    refine ⟨_, rfl, v, T, rfl, ty, _, rfl, ?_⟩
    rw [← wholeV_of ty T rfl]
    cases v with
    | int i => exact iteT ⟨_, rfl, _, _, rfl, rfl, q⟩
    | _ => exact iteF q
end
end Sp

set_option Elab.async false
set_option linter.all false
set_option maxRecDepth 100000
set_option maxHeartbeats 4000000
namespace Sp
open PySem L2
/-- the bases of ValueError -/
abbrev vbm : List Value := [.type "ValueError", .type "Exception", .type "BaseException", .type "object"]
/-- an own error class as the top has made it -/
structure Err (K : PySem.W.Frag) (mg : Str → Option Value) (n : Str) (C : Addr) : Prop where
  at_ : mg n = some (.ref C)
  ex : PySem.W.excIn K C vbm "ValueError.__new__" = true
section
variable {P : Program} {w : World} {K : PySem.W.Frag} {mg : Str → Option Value} {base : Heap}
/-- raise n("..") in a def that may raise -/
theorem ps_err {X : Cx} {n : Str} {C : Addr} {E : XK} {x : Str} {j} {p np cpos pos : Pos} (R : Err X.K X.mg n C) (hc : X.calm = true) (hg : Gl X n) (hR : Raises X C E) (hd : (n == ("__debug__" : Str)) = false := by decide) :
    PS X (.Raise (some (.Call (.Name n np) [.Constant (.str x) j p] [] cpos)) none pos) (fun _ _ H => E (.ref C) none H) := by
  intro pins s σ H D I h
  exact ps_raise PySem.F.excBase_ValueError R.ex hc hg R.at_ (pa_cons (pe_str (x := x)) pa_nil) hR hd (by rfl) (by rfl) pins s σ H D I (show [V.str x].length ≤ sizeLine ∧ _ from ⟨by show 1 ≤ sizeLine; decide, h⟩)
/-! ### what is refused -/
def BadReqs (K : PySem.W.Frag) (H : Hp) (v : V) : Prop := (∃ T, T ≠ "list" ∧ TyOf K H v (.type T)) ∨
  ∃ a xs, v = .ref a ∧ H a = some (.lst xs) ∧ xs.length ≤ 60000 ∧ (∀ x ∈ xs, PlainV K H x) ∧ ∃ x ∈ xs, ReqB K H x false
def GoodReqs (H : Hp) (v : V) : Prop := ∃ a xs, v = .ref a ∧ H a = some (.lst xs) ∧ xs.length ≤ 60000 ∧ ∀ x ∈ xs, ∃ p i j k, x = .ref p ∧ H p = some (.tup [.int i, .int j, .int k]) ∧ i ≤ j ∧ 0 ≤ k
theorem good_plain {H : Hp} {p : Addr} {i j k : Int} (h : H p = some (.tup [.int i, .int j, .int k])) : PlainV K H (.ref p) :=
  .inr ⟨p, _, rfl, h, fun x hx => by
    simp only [List.mem_cons, List.not_mem_nil, or_false] at hx
    rcases hx with rfl | rfl | rfl <;> exact ⟨_, .int _⟩⟩
theorem good_req {H : Hp} {p : Addr} {i j k : Int} (h : H p = some (.tup [.int i, .int j, .int k])) (h1 : i ≤ j) (h2 : 0 ≤ k) : ReqB K H (.ref p) true :=
  .inr ⟨p, _, rfl, h, by simp [tripV, daysV, natV, h1, h2]⟩
/-! ### check_requests -/
theorem sc_creq : FnScope ["requests"] ["requests"] (defScope s_check_requests) := ⟨rfl, rfl, rfl, by decide +kernel, rfl, by decide +kernel, by decide +kernel⟩
def sp_creq (K : PySem.W.Frag) (C : Addr) : Sp := fun vs H Q E => ∃ v, vs = [v] ∧ ((BadReqs K H v ∧ ∀ H', Same H H' → E (.ref C) none H') ∨ (GoodReqs H v ∧ ∀ H', Same H H' → Q .non H'))
theorem ok_creq {C : Addr} (R : Err K mg "BadRequests" C) (G : Def P w K mg base CX0 4 "are_requests" ["value"] (sp_reqs K)) (D : FnAt K mg "check_requests" s_check_requests ["requests"]) : Def P w K mg base (CXE P w) 5 "check_requests" ["requests"] (sp_creq K C) := by
  refine D.okE sc_creq (fun vs H Q E h => ?_) fun f cdv A outer s H vs Q E hr h => ?_
  · obtain ⟨v, rfl, _⟩ := h; rfl
  · obtain ⟨v, rfl, h⟩ := h
    refine ⟨_, pss_one (ps_if (pt_not (pt_val (pe_def G hr rfl pass0 (pa_cons (pv 0) pa_nil)))) (pss_one (ps_err R rfl rfl raiseE)) pss_nil), ?_⟩
    rcases h with ⟨bad, e⟩ | ⟨good, q⟩
    · rcases bad with ⟨T, hT, ty⟩ | ⟨a, xs, rfl, ha, hl, hp, x, hx, r⟩
      · exact ⟨_, rfl, _, rfl, .inl ⟨T, hT, ty, _, rfl, iteT (e H (Same.refl H))⟩⟩
      · refine ⟨_, rfl, _, rfl, .inr ⟨a, xs, rfl, ha, hl, hp, fun bs H' sm hb hbs => ?_⟩⟩
        obtain ⟨j, hj, ej⟩ := List.getElem_of_mem hx
        have e1 : xs[j]? = some x := by rw [List.getElem?_eq_getElem hj, ej]
        have hj' : j < bs.length := by omega
        have e2 : bs[j]? = some bs[j] := List.getElem?_eq_getElem hj'
        have e3 : bs[j] = false := req_one (hbs j _ x e2 e1) r
        have e4 : bs.all id = false := by
          rw [List.all_eq_false]
          exact ⟨bs[j], List.getElem_mem hj', by rw [e3]; simp⟩
        rw [e4]
        exact ⟨_, rfl, iteT (e H' sm)⟩
    · obtain ⟨a, xs, rfl, ha, hl, hp⟩ := good
      refine ⟨_, rfl, _, rfl, .inr ⟨a, xs, rfl, ha, hl, fun x hx => ?_, fun bs H' sm hb hbs => ?_⟩⟩
      · obtain ⟨p, i, j, k, rfl, e2, _⟩ := hp x hx
        exact good_plain e2
      · have e4 : bs.all id = true := by
          rw [List.all_eq_true]
          intro b hb'
          obtain ⟨j, hj, ej⟩ := List.getElem_of_mem hb'
          have hj' : j < xs.length := by omega
          obtain ⟨p, i, j', k, e1, e2, h1, h2⟩ := hp xs[j] (List.getElem_mem hj')
          have r := hbs j b xs[j] (by rw [List.getElem?_eq_getElem hj, ej]) (List.getElem?_eq_getElem hj')
          rw [e1] at r
          exact (req_one r (good_req e2 h1 h2))
        rw [e4]
        exact ⟨_, rfl, iteF (q H' sm)⟩
/-! ### check_rooms, check_some_rooms, check_days -/
theorem sc_croom : FnScope ["rooms"] ["rooms"] (defScope s_check_rooms) := ⟨rfl, rfl, rfl, by decide +kernel, rfl, by decide +kernel, by decide +kernel⟩
def sp_croom (K : PySem.W.Frag) (C : Addr) : Sp := fun vs H Q E => ∃ v T, vs = [v] ∧ TyOf K H v (.type T) ∧ ((natV v = false ∧ E (.ref C) none H) ∨ (natV v = true ∧ Q .non H))
theorem ok_croom {C : Addr} (R : Err K mg "BadRooms" C) (G : Def P w K mg base CX0 2 "are_rooms" ["value"] (sp_rooms K)) (D : FnAt K mg "check_rooms" s_check_rooms ["rooms"]) : Def P w K mg base (CXE P w) 3 "check_rooms" ["rooms"] (sp_croom K C) := by
  refine D.okE sc_croom (fun vs H Q E h => ?_) fun f cdv A outer s H vs Q E hr h => ?_
  · obtain ⟨v, T, rfl, _⟩ := h; rfl
  · obtain ⟨v, T, rfl, ty, h⟩ := h
    refine ⟨_, pss_one (ps_if (pt_not (pt_val (pe_def G hr rfl pass0 (pa_cons (pv 0) pa_nil)))) (pss_one (ps_err R rfl rfl raiseE)) pss_nil), ?_⟩
    refine ⟨_, rfl, v, T, rfl, ty, _, rfl, ?_⟩
    rcases h with ⟨e, q⟩ | ⟨e, q⟩
    · rw [e]; exact iteT q
    · rw [e]; exact iteF q
end
end Sp

set_option Elab.async false
set_option linter.all false
set_option maxRecDepth 100000
set_option maxHeartbeats 4000000
namespace Sp
open PySem L2
section
variable {P : Program} {w : World} {K : PySem.W.Frag} {mg : Str → Option Value} {base : Heap}
def trip (r : Int × Int × Int) : List V := [.int r.1, .int r.2.1, .int r.2.2]
/-- requests at a: their triples stand at new places each -/
def ReqsAt (H : Hp) (a : Addr) (rs : List (Int × Int × Int)) : Prop := ∃ xs : List V, H a = some (.lst xs) ∧ xs.length = rs.length ∧ ∀ (i : Nat) r, rs[i]? = some r → ∃ p, xs[i]? = some (.ref p) ∧ H p = some (.tup (trip r))
def GoodR (rs : List (Int × Int × Int)) : Prop := ∀ r ∈ rs, r.1 ≤ r.2.1 ∧ 0 ≤ r.2.2
theorem reqs_same {H H' : Hp} {a : Addr} {rs : List (Int × Int × Int)} (s : Same H H') (h : ReqsAt H a rs) : ReqsAt H' a rs := by
  obtain ⟨xs, h1, h2, h3⟩ := h
  exact ⟨xs, s _ _ h1, h2, fun i r e => let ⟨p, e1, e2⟩ := h3 i r e; ⟨p, e1, s _ _ e2⟩⟩
theorem reqs_good {H : Hp} {a : Addr} {rs : List (Int × Int × Int)} (h : ReqsAt H a rs) (g : GoodR rs) (hl : rs.length ≤ 60000) : GoodReqs H (.ref a) := by
  obtain ⟨xs, h1, h2, h3⟩ := h
  refine ⟨a, xs, rfl, h1, by omega, fun x hx => ?_⟩
  obtain ⟨i, hi, ei⟩ := List.getElem_of_mem hx
  have hi' : i < rs.length := by omega
  obtain ⟨p, e1, e2⟩ := h3 i rs[i] (List.getElem?_eq_getElem hi')
  rw [List.getElem?_eq_getElem hi, ei] at e1
  obtain ⟨g1, g2⟩ := g rs[i] (List.getElem_mem hi')
  exact ⟨p, _, _, _, Option.some.inj e1, e2, g1, g2⟩
end
end Sp

set_option Elab.async false
set_option linter.all false
set_option maxRecDepth 100000
set_option maxHeartbeats 4000000

/-! ### loops and comprehensions over anything that yields n items while Ok holds -/
namespace L2
open PySem PySem.Spec PyProof.Rows
structure Yields (J : It) (n : Nat) (Ok : Hp → Prop) (item : Nat → V → Hp → Hp → Prop) : Prop where
  go : ∀ i H, i < n → Ok H → J.go i H
  yld : ∀ i H x H', i < n → Ok H → J.yld i H x H' → item i x H H'
  stop : ∀ H, Ok H → J.stop n H
theorem yields_list {K : PySem.W.Frag} {a : Addr} (xs : List V) : Yields (Itl K a) xs.length (fun H => SqL K H a xs) (fun i x H H' => H' = H ∧ xs[i]? = some x) where
  go := fun i H hi q => ⟨xs, xs[i], q, by simp [hi]⟩
  yld := fun i H x H' hi q y => ⟨y.1, y.2 xs q⟩
  stop := fun H q => ⟨xs, q, Nat.le_refl _⟩
theorem yields_tup {K : PySem.W.Frag} {a : Addr} (xs : List V) : Yields (Itt K a) xs.length (fun H => SqT K H a xs) (fun i x H H' => H' = H ∧ xs[i]? = some x) where
  go := fun i H hi q => ⟨xs, xs[i], q, by simp [hi]⟩
  yld := fun i H x H' hi q y => ⟨y.1, y.2 xs q⟩
  stop := fun H q => ⟨xs, q, Nat.le_refl _⟩
theorem yields_range {lo : Int} {n : Nat} : Yields (Itr lo n) n (fun _ => True) (fun i x H H' => H' = H ∧ x = .int (lo + i)) where
  go := fun i H hi _ => hi
  yld := fun i H x H' hi _ y => y
  stop := fun H _ => Nat.le_refl _
theorem yields_range3 {lo c : Int} {n : Nat} : Yields (Itr3 lo c n) n (fun _ => True) (fun i x H H' => H' = H ∧ x = .int (lo + i * c)) where
  go := fun i H hi _ => hi
  yld := fun i H x H' hi _ y => y
  stop := fun H _ => Nat.le_refl _
theorem yields_zip {K : PySem.W.Frag} {a b : Addr} (xs zs : List V) : Yields (Itz K a b) (min xs.length zs.length) (fun H => SqL K H a xs ∧ SqL K H b zs)
    (fun i v H H' => ∃ T x y, H T = none ∧ v = .ref T ∧ H' = upd H T (.tup [x, y]) ∧ xs[i]? = some x ∧ zs[i]? = some y) where
  go := fun i H hi q => by
    have h1 : i < xs.length := by omega
    have h2 : i < zs.length := by omega
    exact ⟨xs, zs, xs[i], zs[i], q.1, q.2, by simp [h1], by simp [h2]⟩
  yld := fun i H x H' hi q y => by
    obtain ⟨T, x', z', hT, e1, e2, y1, y2⟩ := y
    exact ⟨T, x', z', hT, e1, e2, y1 xs q.1, y2 zs q.2⟩
  stop := fun H q => ⟨xs, zs, q.1, q.2, by omega⟩

/-- written ints -/
def litInts : List Expr → Option (List Int)
  | [] => some []
  | .Constant (.int i) _ _ :: es => (litInts es).map (i :: ·)
  | _ => none
def aInts (ns : List Int) : TA := fun _ H Q => Q (ns.map V.int) H
theorem pa_ints {X : Cx} : ∀ {es : List Expr} {ns : List Int}, litInts es = some ns → PA X es (aInts ns)
  | [], ns, h => by
    cases h
    exact pa_nil
  | .Constant (.int i) _ _ :: es, ns, h => by
    have h' : (litInts es).map (i :: ·) = some ns := h
    cases e : litInts es with
    | none => rw [e] at h'; cases h'
    | some ms =>
      rw [e] at h'
      cases h'
      exact fun pos pins s σ H Q I q => pa_cons pe_int (pa_ints e) rfl pos pins s σ H Q I q
/-- the same rules with K named: within a comprehension the reading may not speak of its own context -/
theorem ix_listK {X : Cx} {K : PySem.W.Frag} (hK : X.K = K := by rfl) : IxR X (rIxL K) := hK ▸ ix_list
theorem ix_tupK {X : Cx} {K : PySem.W.Frag} (hK : X.K = K := by rfl) : IxR X (rIxT K) := hK ▸ ix_tup
/-- two lists of plain values compared -/
def eqL : List V → List V → Bool
  | [], [] => true
  | x :: xs, y :: ys => eqV x y && eqL xs ys
  | _, _ => false
def rEqF (K : PySem.W.Frag) (neg : Bool) : R2 := fun x y H Q => ∃ a b xs ys, x = .ref a ∧ y = .ref b ∧ SqL K H a xs ∧ SqL K H b ys ∧ xs.all flatV = true ∧ ys.all flatV = true ∧ Q (.bl (if neg then !eqL xs ys else eqL xs ys)) H
theorem eqL_len : ∀ {xs ys : List V}, eqL xs ys = true → xs.length = ys.length
  | [], [], _ => rfl
  | x :: xs, y :: ys, h => by
    unfold eqL at h
    rw [Bool.and_eq_true] at h
    simp [eqL_len h.2]
  | [], _ :: _, h => by simp [eqL] at h
  | _ :: _, [], h => by simp [eqL] at h
theorem eqL_range : ∀ {xs ys : List V}, xs.length = ys.length → (List.range xs.length).all (fun j => eqV (xs.getD j .non) (ys.getD j .non)) = eqL xs ys
  | [], [], _ => rfl
  | x :: xs, y :: ys, h => by
    have ih := eqL_range (xs := xs) (ys := ys) (by simpa using h)
    rw [List.length_cons, List.range_succ_eq_map, List.all_cons, List.all_map]
    unfold eqL
    rw [← ih]
    rfl
  | [], _ :: _, h => by simp at h
  | _ :: _, [], h => by simp at h
theorem flat_at {xs : List V} {j : Nat} {x : V} (h : xs.all flatV = true) (e : xs[j]? = some x) : flatV x = true := List.all_eq_true.mp h x (List.mem_of_getElem? e)
theorem eqF_of {X : Cx} {neg : Bool} {x y : V} {H : Hp} {Q : VK} (h : rEqF X.K neg x y H Q) : rEqL X neg x y H Q := by
  obtain ⟨a, b, xs, ys, e1, e2, ha, hb, fx, fy, q⟩ := h
  refine ⟨a, b, xs, ys, e1, e2, ha, hb, ?_⟩
  by_cases hl : xs.length = ys.length
  · refine .inl ⟨hl, fun j => eqV (xs.getD j .non) (ys.getD j .non), fun j x y ex ey => ?_, ?_⟩
    · have := (eqd_flat (X := X) (H := H) (flat_at fx ex) (flat_at fy ey)).mono (Nat.zero_le 8)
      simpa [List.getD, ex, ey] using this
    · rw [eqL_range hl]; exact q
  · have : eqL xs ys = false := Bool.eq_false_iff.mpr fun z => hl (eqL_len z)
    rw [this] at q
    refine .inr ⟨hl, ?_⟩
    cases neg <;> exact q
theorem op_eqF {X : Cx} {K : PySem.W.Frag} (hu : X.A.units + 64 < cLine) (hK : X.K = K := by rfl) : OpR X (compareOp .Eq) (rEqF K false) := by
  subst hK
  exact fun pins s σ H x y v u Q I rx ry h => op_eq_lst hu pins s σ H x y v u Q I rx ry (eqF_of h)
theorem op_neF {X : Cx} {K : PySem.W.Frag} (hu : X.A.units + 64 < cLine) (hK : X.K = K := by rfl) : OpR X (compareOp .NotEq) (rEqF K true) := by
  subst hK
  exact fun pins s σ H x y v u Q I rx ry h => op_ne_lst hu pins s σ H x y v u Q I rx ry (eqF_of h)
/-- a, b = .. and a, b, c = .. for own local names -/
theorem pg_two {X : Cx} {K : PySem.W.Frag} {x y : Str} {k : Nat} {p1 p2 pos : Pos} (i j : Nat) (hc : X.calm = true) (hN : X.N.Nodup) (hi : X.N[i]? = some x := by rfl) (hj : X.N[j]? = some y := by rfl) (hx : X.env.scope.names.lookup x = some .local := by rfl) (hy : X.env.scope.names.lookup y = some .local := by rfl)
    (hs : (assignEach [.Name x p1, .Name y p2] X.env).map (·.2) = [assign (.Name x p1) X.env, assign (.Name y p2) X.env] := by rfl) (hs2 : (assignEach [.Name y p2] X.env).map (·.2) = [assign (.Name y p2) X.env] := by rfl)
    (hn : (assignEach [.Name x p1, .Name y p2] X.env).length = 2 := by rfl) (hst : (assignEach [.Name x p1, .Name y p2] X.env).findIdx? (·.1) = none := by rfl) (hK : X.K = K := by rfl) :
    PG X (.Tuple [.Name x p1, .Name y p2] k pos) (gTup K 2 (gCons (gName i) (gCons (gName j) gNil))) :=
  hK ▸ pg_tup hc (pgs_cons (pg_name hN hi (.inl hx) (.inr hx)) (pgs_cons (pg_name hN hj (.inl hy) (.inr hy)) pgs_nil hs2) hs) hn hst
theorem pg_three {X : Cx} {K : PySem.W.Frag} {x y z : Str} {k : Nat} {p1 p2 p3 pos : Pos} (i j l : Nat) (hc : X.calm = true) (hN : X.N.Nodup) (hi : X.N[i]? = some x := by rfl) (hj : X.N[j]? = some y := by rfl) (hl : X.N[l]? = some z := by rfl) (hx : X.env.scope.names.lookup x = some .local := by rfl) (hy : X.env.scope.names.lookup y = some .local := by rfl)
    (hz : X.env.scope.names.lookup z = some .local := by rfl)
    (hs : (assignEach [.Name x p1, .Name y p2, .Name z p3] X.env).map (·.2) = assign (.Name x p1) X.env :: (assignEach [.Name y p2, .Name z p3] X.env).map (·.2) := by rfl) (hs2 : (assignEach [.Name y p2, .Name z p3] X.env).map (·.2) = assign (.Name y p2) X.env :: (assignEach [.Name z p3] X.env).map (·.2) := by rfl) (hs3 : (assignEach [.Name z p3] X.env).map (·.2) = [assign (.Name z p3) X.env] := by rfl)
    (hn : (assignEach [.Name x p1, .Name y p2, .Name z p3] X.env).length = 3 := by rfl) (hst : (assignEach [.Name x p1, .Name y p2, .Name z p3] X.env).findIdx? (·.1) = none := by rfl) (hK : X.K = K := by rfl) :
    PG X (.Tuple [.Name x p1, .Name y p2, .Name z p3] k pos) (gTup K 3 (gCons (gName i) (gCons (gName j) (gCons (gName l) gNil)))) :=
  hK ▸ pg_tup hc (pgs_cons (pg_name hN hi (.inl hx) (.inr hx)) (pgs_cons (pg_name hN hj (.inl hy) (.inr hy)) (pgs_cons (pg_name hN hl (.inl hz) (.inr hz)) pgs_nil hs3) hs2) hs) hn hst

section
variable {J : It} {n : Nat} {Ok : Hp → Prop} {item : Nat → V → Hp → Hp → Prop}
/-- for .. in J: .. by an invariant -/
theorem for_by {g : TG} {tb : TS} {D : Ends} {σ : St} {H : Hp} (Y : Yields J n Ok item) (Pv : Nat → St → Hp → Prop) (hl : ∀ i σ H, i ≤ n → Pv i σ H → Ok H) (h0 : Pv 0 σ H)
    (hs : ∀ i x σ H H', i < n → item i x H H' → Pv i σ H → g x σ H' fun σ2 H2 => tb { D with nx := Pv (i + 1), ct := Pv (i + 1), bk := D.nx } σ2 H2) (hd : ∀ σ H, Pv n σ H → D.nx σ H) :
    ∃ W : Nat → Nat → St → Hp → Prop, (∃ m, W 0 m σ H) ∧ ∀ i m σ H, W i m σ H →
      (J.stop i H ∧ D.nx σ H) ∨ (J.go i H ∧ ∃ N : St → Hp → Prop, (∀ σ' H', N σ' H' → ∃ m', m' < m ∧ W (i + 1) m' σ' H') ∧ ∀ x H', J.yld i H x H' → g x σ H' fun σ2 H2 => tb { D with nx := N, ct := N, bk := D.nx } σ2 H2) := by
  refine ⟨fun i m σ H => m = n - i ∧ i ≤ n ∧ Pv i σ H, ⟨n, by simp, Nat.zero_le _, h0⟩, ?_⟩
  rintro i m σ H ⟨rfl, hi, p⟩
  have ok := hl i σ H hi p
  by_cases hlt : i < n
  · exact .inr ⟨Y.go i H hlt ok, Pv (i + 1), fun σ' H' p' => ⟨n - (i + 1), by omega, rfl, hlt, p'⟩, fun x H' y => hs i x σ H H' hlt (Y.yld i H x H' hlt ok y) p⟩
  · have e : i = n := by omega
    subst e
    exact .inl ⟨Y.stop H ok, hd σ H p⟩
/-- a comprehension by an invariant: by the turn, the list so far, the names, the heap -/
theorem comp_by {g : TG} {tt : TT} {te : TE} {R : Hp → Prop} {H1 : Hp} {σ0 : St} {D : Addr} (Y : Yields J n Ok item) (Pv : Nat → List V → St → Hp → Prop) (hl : ∀ i ys σ H, i ≤ n → Pv i ys σ H → Ok H) (h0 : Pv 0 [] σ0 (upd H1 D (.lst [])))
    (hs : ∀ i x ys σ H H', i < n → item i x H H' → Pv i ys σ H → g x σ H' fun σ3 H3 => tt σ3 H3 fun b H4 => if b = true then te σ3 H4 fun y H5 => H5 D = some (.lst ys) ∧ ys.length < sizeLine ∧ Pv (i + 1) (ys ++ [y]) σ3 (upd H5 D (.lst (ys ++ [y]))) else Pv (i + 1) ys σ3 H4)
    (hq : ∀ ys σ H, Pv n ys σ H → R H) :
    ∃ W : Nat → Nat → List V → St → Hp → Prop, (∃ m, W 0 m [] σ0 (upd H1 D (.lst []))) ∧ ∀ i m ys σ' H', W i m ys σ' H' →
      (J.stop i H' ∧ R H') ∨ (J.go i H' ∧ ∃ N : List V → St → Hp → Prop, (∀ zs σ2 H2, N zs σ2 H2 → ∃ m', m' < m ∧ W (i + 1) m' zs σ2 H2) ∧ ∀ x H2, J.yld i H' x H2 → g x σ' H2 fun σ3 H3 => tt σ3 H3 fun b H4 =>
        if b = true then te σ3 H4 fun y H5 => H5 D = some (.lst ys) ∧ ys.length < sizeLine ∧ N (ys ++ [y]) σ3 (upd H5 D (.lst (ys ++ [y])))
        else N ys σ3 H4) := by
  refine ⟨fun i m ys σ H => m = n - i ∧ i ≤ n ∧ Pv i ys σ H, ⟨n, by simp, Nat.zero_le _, h0⟩, ?_⟩
  rintro i m ys σ H ⟨rfl, hi, p⟩
  have ok := hl i ys σ H hi p
  by_cases hlt : i < n
  · exact .inr ⟨Y.go i H hlt ok, Pv (i + 1), fun zs σ2 H2 p' => ⟨n - (i + 1), by omega, rfl, hlt, p'⟩, fun x H' y => hs i x ys σ H H' hlt (Y.yld i H x H' hlt ok y) p⟩
  · have e : i = n := by omega
    subst e
    exact .inl ⟨Y.stop H ok, hq ys σ H p⟩
/-- what the places below m that p takes give -/
def takenV (p : Nat → Bool) (f : Nat → V) (m : Nat) : List V := ((List.range m).filter p).map f
theorem takenV_len (p : Nat → Bool) (f : Nat → V) (m : Nat) : (takenV p f m).length ≤ m := by
  unfold takenV
  rw [List.length_map]
  exact Nat.le_trans (List.length_filter_le _ _) (by simp)
theorem takenV_yes {p : Nat → Bool} {f : Nat → V} {m : Nat} (h : p m = true) : takenV p f (m + 1) = takenV p f m ++ [f m] := by
  unfold takenV
  rw [List.range_succ, List.filter_append, List.map_append]
  simp [h]
theorem takenV_no {p : Nat → Bool} {f : Nat → V} {m : Nat} (h : p m = false) : takenV p f (m + 1) = takenV p f m := by
  unfold takenV
  rw [List.range_succ, List.filter_append, List.map_append]
  simp [h]
theorem small5 {n : Nat} (h : n ≤ 100000) : n < sizeLine := by rw [sizeLine_eq]; omega
/-- a comprehension whose items are plain values, each by its place; what stood before stays -/
theorem comp_filt {g : TG} {tt : TT} {te : TE} {R : Hp → Prop} {H1 : Hp} {σ0 : St} {D : Addr} (Y : Yields J n Ok item) (S : St → Prop) (p : Nat → Bool) (f : Nat → V) (hD : H1 D = none) (hn : n ≤ 100000) (hok : ∀ H, Same H1 H → Ok H) (s0 : S σ0)
    (hs : ∀ i x σ H H', i < n → item i x H H' → Same H1 H → S σ → ∀ (Ky : St → V → Hp → Prop) (Kn : St → Hp → Prop), (∀ σ3 y H5, Same H H5 → S σ3 → p i = true → y = f i → Ky σ3 y H5) → (∀ σ3 H4, Same H H4 → S σ3 → p i = false → Kn σ3 H4) →
      g x σ H' fun σ3 H3 => tt σ3 H3 fun b H4 => if b = true then te σ3 H4 fun y H5 => Ky σ3 y H5 else Kn σ3 H4)
    (hq : ∀ H, Same H1 H → H D = some (.lst (takenV p f n)) → R H) :
    ∃ W : Nat → Nat → List V → St → Hp → Prop, (∃ m, W 0 m [] σ0 (upd H1 D (.lst []))) ∧ ∀ i m ys σ' H', W i m ys σ' H' →
      (J.stop i H' ∧ R H') ∨ (J.go i H' ∧ ∃ N : List V → St → Hp → Prop, (∀ zs σ2 H2, N zs σ2 H2 → ∃ m', m' < m ∧ W (i + 1) m' zs σ2 H2) ∧ ∀ x H2, J.yld i H' x H2 → g x σ' H2 fun σ3 H3 => tt σ3 H3 fun b H4 =>
        if b = true then te σ3 H4 fun y H5 => H5 D = some (.lst ys) ∧ ys.length < sizeLine ∧ N (ys ++ [y]) σ3 (upd H5 D (.lst (ys ++ [y])))
        else N ys σ3 H4) := by
  refine comp_by Y (fun i ys σ H => Same H1 H ∧ H D = some (.lst ys) ∧ S σ ∧ ys = takenV p f i) (fun i ys σ H _ q => hok H q.1) ⟨fun b o e => by rw [upd_ne (ne_of_none e hD)]; exact e, upd_same, s0, rfl⟩ ?_ ?_
  · rintro i x ys σ H H' hi it ⟨sm, hDl, hS, rfl⟩
    refine hs i x σ H H' hi it sm hS (fun σ3 y H5 => H5 D = some (.lst (takenV p f i)) ∧ (takenV p f i).length < sizeLine ∧ Same H1 (upd H5 D (.lst (takenV p f i ++ [y]))) ∧ upd H5 D (.lst (takenV p f i ++ [y])) D = some (.lst (takenV p f i ++ [y])) ∧ S σ3 ∧ takenV p f i ++ [y] = takenV p f (i + 1))
      (fun σ3 H4 => Same H1 H4 ∧ H4 D = some (.lst (takenV p f i)) ∧ S σ3 ∧ takenV p f i = takenV p f (i + 1)) (fun σ3 y H5 s5 hS3 hp e => ?_) (fun σ3 H4 s4 hS3 hp => ?_)
    · subst e
      refine ⟨s5 _ _ hDl, small5 (Nat.le_trans (takenV_len _ _ _) (by omega)), fun b o e => ?_, upd_same, hS3, (takenV_yes hp).symm⟩
      rw [upd_ne (ne_of_none e hD)]
      exact s5 _ _ (sm _ _ e)
    · exact ⟨fun b o e => s4 _ _ (sm _ _ e), s4 _ _ hDl, hS3, (takenV_no hp).symm⟩
  · rintro ys σ H ⟨sm, hDl, _, rfl⟩
    exact hq H sm hDl
/-- .. without a test -/
theorem comp_each {g : TG} {te : TE} {R : Hp → Prop} {H1 : Hp} {σ0 : St} {D : Addr} (Y : Yields J n Ok item) (S : St → Prop) (f : Nat → V) (hD : H1 D = none) (hn : n ≤ 100000) (hok : ∀ H, Same H1 H → Ok H) (s0 : S σ0)
    (hs : ∀ i x σ H H', i < n → item i x H H' → Same H1 H → S σ → ∀ (Ky : St → V → Hp → Prop), (∀ σ3 y H5, Same H H5 → S σ3 → y = f i → Ky σ3 y H5) → g x σ H' fun σ3 H3 => te σ3 H3 fun y H5 => Ky σ3 y H5)
    (hq : ∀ H, Same H1 H → H D = some (.lst ((List.range n).map f)) → R H) :
    ∃ W : Nat → Nat → List V → St → Hp → Prop, (∃ m, W 0 m [] σ0 (upd H1 D (.lst []))) ∧ ∀ i m ys σ' H', W i m ys σ' H' →
      (J.stop i H' ∧ R H') ∨ (J.go i H' ∧ ∃ N : List V → St → Hp → Prop, (∀ zs σ2 H2, N zs σ2 H2 → ∃ m', m' < m ∧ W (i + 1) m' zs σ2 H2) ∧ ∀ x H2, J.yld i H' x H2 → g x σ' H2 fun σ3 H3 => tYes σ3 H3 fun b H4 =>
        if b = true then te σ3 H4 fun y H5 => H5 D = some (.lst ys) ∧ ys.length < sizeLine ∧ N (ys ++ [y]) σ3 (upd H5 D (.lst (ys ++ [y])))
        else N ys σ3 H4) := by
  refine comp_filt (tt := tYes) Y S (fun _ => true) f hD hn hok s0 (fun i x σ H H' hi it sm hS Ky Kn hy _ => ?_) (fun H sm e => hq H sm (by rw [e]; unfold takenV; rw [List.filter_eq_self.mpr (fun _ _ => rfl)]))
  exact hs i x σ H H' hi it sm hS Ky fun σ3 y H5 s5 h3 e => hy σ3 y H5 s5 h3 rfl e
end
end L2

set_option Elab.async false
set_option linter.all false
set_option maxRecDepth 100000
set_option maxHeartbeats 1000000
namespace Sp
open PySem L2
seal PE PA PS PSs PT PG PGs PI PW PTs PJ
section
variable {P : Program} {w : World} {K : PySem.W.Frag} {mg : Str → Option Value} {base : Heap}
theorem same_laid {H : Hp} {D : Addr} {o : HO} (hD : H D = none) : Same H (upd H D o) := fun b u e => by rw [upd_ne (ne_of_none e hD)]; exact e
/-! ### _law_cell_at, _law_draw -/
theorem atI_int {xs : List V} {k : Int} {v : V} (h0 : 0 ≤ k) (h : xs[k.toNat]? = some v) : atI xs k = some v := by
  have := atI_nat h
  rwa [Int.toNat_of_nonneg h0] at this
theorem sc_cell : FnScope ["_law_script", "_law_k"] ["_law_script", "_law_k"] (defScope s__law_cell_at) := ⟨rfl, rfl, rfl, by decide +kernel, rfl, by decide +kernel, by decide +kernel⟩
def sp_cell (K : PySem.W.Frag) : Sp := fun vs H Q _ => ∃ (a : Addr) (ns : List Int) (k : Int), vs = [.ref a, .int k] ∧ SqL K H a (ns.map V.int) ∧ 0 ≤ k ∧ Q (.int (ns.getD k.toNat 0)) H
theorem ok_cell (B : Bl mg) (D : FnAt K mg "_law_cell_at" s__law_cell_at ["_law_script", "_law_k"]) : Def P w K mg base CX0 1 "_law_cell_at" ["_law_script", "_law_k"] (sp_cell K) := by
  refine D.ok sc_cell (fun vs H Q E h => ?_) fun f cdv A outer s H vs Q E hr h => ?_
  · obtain ⟨a, ns, k, rfl, _⟩ := h; rfl
  · obtain ⟨a, ns, k, rfl, hl, hk, q⟩ := h
    refine ⟨_, pss_cons (ps_if (pt_cmpR op_lt (pv 1) (pe_callB call_len_seq (by rfl) B.len PySem.boot_len (pa_cons (pv 0) pa_nil)) (nomark _)) (pss_one (ps_ret (pe_ix ix_list (pv 0) (pv 1) (fun _ _ => rfl)))) pss_nil) (pss_one (ps_ret pe_int)), ?_⟩
    refine ⟨_, rfl, _, rfl, a, _, rfl, .inl hl, _, _, rfl, rfl, _, rfl, ite2 (fun h => ?_) (fun h => ?_)⟩
    · have h' : k < ((ns.map V.int).length : Nat) := by simpa using h
      rw [List.length_map] at h'
      have hk' : k.toNat < ns.length := by omega
      refine ⟨_, rfl, _, rfl, a, _, _, _, rfl, rfl, hl, atI_int hk (v := .int ns[k.toNat]) (by simp [hk']), ?_⟩
      rw [show ns.getD k.toNat 0 = ns[k.toNat] by simp [List.getD, hk']] at q
      exact q
    · have h' : ¬ k < ((ns.map V.int).length : Nat) := by simpa using h
      rw [List.length_map] at h'
      have hk' : ¬ k.toNat < ns.length := by omega
      rw [show ns.getD k.toNat 0 = 0 by simp [List.getD, hk']] at q
      exact q
theorem sc_draw : FnScope ["_law_cell", "_law_k", "_law_many", "_law_primes"] ["_law_cell", "_law_k", "_law_many"] (defScope s__law_draw) := ⟨rfl, rfl, rfl, by decide +kernel, rfl, by decide +kernel, by decide +kernel⟩
/-- some number from 0 on, less than many -/
def sp_draw : Sp := fun vs H Q _ => ∃ c k m : Int, vs = [.int c, .int k, .int m] ∧ 0 ≤ k ∧ 0 < m ∧ ∀ r H', 0 ≤ r → r < m → Same H H' → Q (.int r) H'
def primes : List Int := [1000003, 1000033, 1000037, 1000039, 1000081, 1000099, 1000117, 1000121, 1000133, 1000151, 1000159, 1000171, 1000183, 1000187, 1000193, 1000199]
theorem primes_pos : ∀ p ∈ primes, 0 < p := by decide
theorem ok_draw (D : FnAt K mg "_law_draw" s__law_draw ["_law_cell", "_law_k", "_law_many"]) : Def P w K mg base CX0 1 "_law_draw" ["_law_cell", "_law_k", "_law_many"] sp_draw := by
  refine D.ok sc_draw (fun vs H Q E h => ?_) fun f cdv A outer s H vs Q E hr h => ?_
  · obtain ⟨c, k, m, rfl, _⟩ := h; rfl
  · obtain ⟨c, k, m, rfl, hk, hm, q⟩ := h
    refine ⟨_, pss_cons (ps_set (i := 3) sc_draw.nd rfl (Or.inl rfl) (pe_tup (pa_ints (ns := primes) rfl)))
      (pss_one (ps_ret (pe_op op_mod (pe_op op_mod (pe_op op_add (pe_op op_mul (pv 0) pe_int) (pe_op op_mul (pv 1) pe_int)) (pe_ix ix_tup (pv 3) (pe_op op_mod (pv 1) pe_int) (fun _ _ => rfl))) (pv 2)))), ?_⟩
    refine ⟨by show 16 ≤ sizeLine; decide, fun t ht => ?_⟩
    have hm16 : (k % 16).toNat < 16 := by omega
    have hm0 : 0 ≤ k % 16 := by omega
    obtain ⟨p, hp, hp0⟩ : ∃ p : Int, primes[(k % 16).toNat]? = some p ∧ 0 < p := by
      exact ⟨primes[(k % 16).toNat]'hm16, List.getElem?_eq_getElem hm16, primes_pos _ (List.getElem_mem hm16)⟩
    refine ⟨_, rfl, _, _, rfl, rfl, .inr ⟨by decide, by decide⟩, _, rfl, _, _, rfl, rfl, .inr ⟨by decide, by decide⟩, _, _, rfl, rfl, ?_⟩
    refine ⟨_, rfl, _, rfl, _, _, rfl, rfl, by show (0 : Int) < 16; decide, t, _, _, .int p, rfl, rfl, SqT.of upd_same, atI_int hm0 ?_, ?_⟩
    · have : (primes.map V.int)[(k % 16).toNat]? = some (V.int p) := by rw [List.getElem?_map, hp]; rfl
      exact this
    · refine ⟨_, _, rfl, rfl, hp0, _, rfl, _, _, rfl, rfl, hm, ?_⟩
      exact q _ _ (Int.emod_nonneg _ (by omega)) (Int.emod_lt_of_pos _ hm) (same_laid ht)
/-! ### _law_requests -/
/-- days in order, no price below 0, sixty figures at most -/
def Ok3 (r : Int × Int × Int) : Prop := r.1 ≤ r.2.1 ∧ 0 ≤ r.2.2 ∧ -(10 ^ 50) < r.1 ∧ r.1 < 10 ^ 50 ∧ r.2.1 < 10 ^ 50 ∧ r.2.2 < 10 ^ 60
theorem reqs_nil {H : Hp} {l : Addr} : ReqsAt (upd H l (.lst [])) l [] := ⟨[], upd_same, rfl, fun i r e => by simp at e⟩
theorem reqs_push {H : Hp} {l p : Addr} {rs : List (Int × Int × Int)} {xs : List V} {r : Int × Int × Int} (h : H l = some (.lst xs)) (hx : xs.length = rs.length) (hxs : ∀ (i : Nat) r, rs[i]? = some r → ∃ p, xs[i]? = some (.ref p) ∧ H p = some (.tup (trip r))) (hp : H p = none) :
    ReqsAt (upd (upd H p (.tup (trip r))) l (.lst (xs ++ [.ref p]))) l (rs ++ [r]) := by
  have nlp : l ≠ p := ne_of_none h hp
  refine ⟨_, upd_same, by simp [hx], fun i r' e => ?_⟩
  by_cases hi : i < rs.length
  · rw [List.getElem?_append_left hi] at e
    obtain ⟨p', e1, e2⟩ := hxs i r' e
    refine ⟨p', by rw [List.getElem?_append_left (by omega)]; exact e1, ?_⟩
    rw [upd_ne (ne_of e2 h (by intro z; cases z)), upd_ne (ne_of_none e2 hp)]
    exact e2
  · rw [List.getElem?_append_right (Nat.le_of_not_lt hi)] at e
    have hi2 : i = rs.length := by
      have := (List.getElem?_eq_some_iff.mp e).1
      simp at this
      omega
    subst hi2
    simp at e
    subst e
    exact ⟨p, by rw [← hx]; simp, by rw [upd_ne nlp.symm]; exact upd_same⟩
theorem sc_reqsL : FnScope ["_law_script", "_law_found", "_law_k", "_law_first", "_law_kind", "_law_times", "_law_days", "_law_most", "_law_each", "_law_cell", "_law_last"] ["_law_script"] (defScope s__law_requests) := ⟨rfl, rfl, rfl, by decide +kernel, rfl, by decide +kernel, by decide +kernel⟩
def sp_reqsL (K : PySem.W.Frag) : Sp := fun vs H Q _ => ∃ (a : Addr) (ns : List Int), vs = [.ref a] ∧ SqL K H a (ns.map V.int) ∧ ns.length ≤ 63 ∧ ∀ l rs H', H l = none → Same H H' → ReqsAt H' l rs → rs.length ≤ 126 → (∀ r ∈ rs, Ok3 r) → Q (.ref l) H'
/-- an item of a written tuple of ints, each of which has p -/
theorem pick {ts : List Int} {p : Int → Prop} (hp : ∀ x ∈ ts, p x) {r : Int} (h0 : 0 ≤ r) (h1 : r < (ts.length : Nat)) : ∃ x, atI (ts.map V.int) r = some (.int x) ∧ p x := by
  have h2 : r.toNat < ts.length := by omega
  exact ⟨ts[r.toNat], atI_int h0 (by simp [h2]), hp _ (List.getElem_mem h2)⟩
theorem steps3 {n : Nat} (h : n % 3 = 0) : steps 0 (n : Int) 3 = n / 3 := by
  unfold steps Builtin.Range.rangeSize
  rw [if_pos (by decide)]
  by_cases h0 : n = 0
  · subst h0; rfl
  · rw [if_pos (by omega)]
    omega
theorem get_ints {ns : List Int} {j : Nat} {k : Int} (hk : k = (j : Nat)) (h : j < ns.length) : atI (ns.map V.int) k = some (.int ns[j]) := by
  subst hk
  exact atI_nat (by simp [h])
theorem ite_each {c : Prop} [Decidable c] {σ : St} {H : Hp} {Q : VK} (h : ∀ e : Int, (e = 1 ∨ e = 2) → Q (.int e) H) : if c then tC (.int 2) σ H Q else tC (.int 1) σ H Q := by
  split
  · exact h 2 (.inr rfl)
  · exact h 1 (.inl rfl)
theorem small_mul {x t : Int} (h1 : -100 ≤ x) (h2 : x ≤ 100) (h3 : 0 ≤ t) (h4 : t ≤ 1000000000) : -100000000000 ≤ x * t ∧ x * t ≤ 100000000000 := by
  have a := Int.mul_le_mul_of_nonneg_right h1 h3
  have b := Int.mul_le_mul_of_nonneg_right h2 h3
  omega
theorem ok_reqsL (B : Bl mg) (GC : Def P w K mg base CX0 1 "_law_cell_at" ["_law_script", "_law_k"] (sp_cell K)) (GD : Def P w K mg base CX0 1 "_law_draw" ["_law_cell", "_law_k", "_law_many"] sp_draw) (D : FnAt K mg "_law_requests" s__law_requests ["_law_script"]) :
    Def P w K mg base CX0 2 "_law_requests" ["_law_script"] (sp_reqsL K) := by
  refine D.ok sc_reqsL (fun vs H Q E h => ?_) fun f cdv A outer s H vs Q E hr h => ?_
  · obtain ⟨a, ns, rfl, _⟩ := h; rfl
  · obtain ⟨a, ns, rfl, hl, hn, q⟩ := h
    refine ⟨_, pss_cons (ps_set (i := 1) sc_reqsL.nd rfl (Or.inl rfl) (pe_lst pa_nil))
      (pss_cons (ps_if (pt_cmpR op_eq (pe_op op_mod (pe_callB call_len_seq (by rfl) B.len PySem.boot_len (pa_cons (pv 0) pa_nil)) pe_int) pe_int (nomark _))
        (pss_cons (ps_for PassesOwn.never rfl (pi_range3 rfl B.range (pa_cons pe_int (pa_cons (pe_callB call_len_seq (by rfl) B.len PySem.boot_len (pa_cons (pv 0) pa_nil)) (pa_cons pe_int pa_nil)))) (pg_name (i := 2) sc_reqsL.nd rfl (Or.inl rfl))
          (pss_cons (ps_set (i := 3) sc_reqsL.nd rfl (Or.inl rfl) (pe_op op_mul (pe_op op_mod (pe_op op_fdiv (pe_ix ix_list (pv 0) (pv 2) (fun _ _ => rfl)) pe_int) (pe_op op_pow pe_int pe_int)) (pe_op op_sub pe_int (pe_op op_mul (pe_op op_mod (pe_ix ix_list (pv 0) (pv 2) (fun _ _ => rfl)) pe_int) pe_int))))
          (pss_one (ps_expr (pe_bm PySem.F.plainAttrs_list PySem.F.slot_list_append PySem.F.type_list_append mt_append (pv 1) (pa_cons (pe_tup (pa_cons (pv 3) (pa_cons (pe_op op_add (pv 3) (pe_op op_mod (pe_ix ix_list (pv 0) (pe_op op_add (pv 2) pe_int) (fun _ _ => rfl)) (pe_op op_pow pe_int pe_int)))
            (pa_cons (pe_op op_mod (pe_ix ix_list (pv 0) (pe_op op_add (pv 2) pe_int) (fun _ _ => rfl)) (pe_op op_pow pe_int pe_int)) pa_nil)))) pa_nil))))))
        (pss_one (ps_ret (pv 1)))) pss_nil)
      (pss_cons (ps_par (i := 4) (j := 5) rfl sc_reqsL.nd rfl rfl (by decide) rfl rfl (pa_cons (pe_def GD (hr.mono (by decide)) rfl pass0 (pa_cons (pe_def GC (hr.mono (by decide)) rfl pass0 (pa_cons (pv 0) (pa_cons pe_int pa_nil))) (pa_cons pe_int (pa_cons pe_int pa_nil))))
          (pa_cons (pe_ix ix_tup (pe_tup (pa_cons pe_int (pa_cons pe_int (pa_cons (pe_op op_pow pe_int pe_int) (pa_cons pe_int pa_nil))))) (pe_def GD (hr.mono (by decide)) rfl pass0 (pa_cons (pe_def GC (hr.mono (by decide)) rfl pass0 (pa_cons (pv 0) (pa_cons pe_int pa_nil))) (pa_cons pe_int (pa_cons pe_int pa_nil)))) (fun _ _ => rfl)) pa_nil)) rfl)
      (pss_cons (ps_par (i := 6) (j := 7) rfl sc_reqsL.nd rfl rfl (by decide) rfl rfl (pa_cons (pe_ix ix_tup (pe_tup (pa_ints rfl)) (pv 4) (fun _ _ => rfl))
          (pa_cons (pe_ix ix_tup (pe_tup (pa_ints rfl)) (pe_def GD (hr.mono (by decide)) rfl pass0 (pa_cons (pe_def GC (hr.mono (by decide)) rfl pass0 (pa_cons (pv 0) (pa_cons pe_int pa_nil))) (pa_cons pe_int (pa_cons pe_int pa_nil)))) (fun _ _ => rfl)) pa_nil)) rfl)
      (pss_cons (ps_set (i := 8) sc_reqsL.nd rfl (Or.inl rfl) (pe_ifExp (pt_cmpR op_eq (pe_def GD (hr.mono (by decide)) rfl pass0 (pa_cons (pe_def GC (hr.mono (by decide)) rfl pass0 (pa_cons (pv 0) (pa_cons pe_int pa_nil))) (pa_cons pe_int (pa_cons pe_int pa_nil)))) pe_int (nomark _)) pe_int pe_int))
      (pss_cons (ps_for PassesOwn.never rfl (pi_range1 rfl B.range (pa_cons (pe_op op_mul (pv 8) (pe_callB call_len_seq (by rfl) B.len PySem.boot_len (pa_cons (pv 0) pa_nil))) pa_nil)) (pg_name (i := 2) sc_reqsL.nd rfl (Or.inl rfl))
          (pss_cons (ps_set (i := 9) sc_reqsL.nd rfl (Or.inl rfl) (pe_op op_add (pe_ix ix_list (pv 0) (pe_op op_fdiv (pv 2) (pv 8)) (fun _ _ => rfl)) (pe_op op_mul pe_int (pe_op op_mod (pv 2) (pv 8)))))
          (pss_cons (ps_set (i := 3) sc_reqsL.nd rfl (Or.inl rfl) (pe_op op_sub (pe_def GD (hr.mono (by decide)) rfl pass0 (pa_cons (pv 9) (pa_cons (pe_op op_add (pe_op op_mod (pv 2) pe_int) pe_int) (pa_cons (pe_op op_add (pv 6) (pe_op op_mod (pv 2) pe_int)) pa_nil)))) (pe_op op_fdiv (pv 6) pe_int)))
          (pss_cons (ps_set (i := 10) sc_reqsL.nd rfl (Or.inl rfl) (pe_op op_add (pv 3) (pe_def GD (hr.mono (by decide)) rfl pass0 (pa_cons (pv 9) (pa_cons (pe_op op_add (pe_op op_mod (pv 2) pe_int) pe_int) (pa_cons (pe_ix ix_tup (pe_tup (pa_ints rfl)) (pv 4) (fun _ _ => rfl)) pa_nil))))))
          (pss_one (ps_expr (pe_bm PySem.F.plainAttrs_list PySem.F.slot_list_append PySem.F.type_list_append mt_append (pv 1) (pa_cons (pe_tup (pa_cons (pe_op op_mul (pv 3) (pv 5)) (pa_cons (pe_op op_mul (pv 10) (pv 5)) (pa_cons (pe_def GD (hr.mono (by decide)) rfl pass0 (pa_cons (pv 9) (pa_cons (pe_op op_add (pe_op op_mod (pv 2) pe_int) pe_int) (pa_cons (pv 7) pa_nil)))) pa_nil)))) pa_nil))))))))
      (pss_one (ps_ret (pv 1)))))))), ?_⟩
    -- found = []
    refine ⟨Nat.zero_le _, fun l hlN => ?_⟩
    have s0 : Same H (upd H l (.lst [])) := same_laid hlN
    have keep : ∀ {H1 : Hp} {o : HO}, Same H H1 → Same H (upd H1 l o) := fun s1 b u e => by rw [upd_ne (ne_of_none e hlN)]; exact s1 b u e
    refine ⟨_, rfl, a, _, rfl, .inl (s0.seq hl), _, _, rfl, rfl, by show (0 : Int) < 3; decide, rfl, _, rfl, ite2 (fun h3 => ?_) (fun h3 => ?_)⟩
    · -- by threes
      have h3' : ns.length % 3 = 0 := by
        simp only [List.length_map, decide_eq_true_eq, V.int.injEq] at h3
        omega
      refine ⟨_, rfl, a, _, rfl, .inl (s0.seq hl), 0, _, 3, rfl, ⟨by decide, by decide, by simp only [List.length_map]; omega, by simp only [List.length_map]; omega, by decide, by decide⟩, ?_⟩
      rw [List.length_map, steps3 h3']
      refine for_by yields_range3 (fun i σ H2 => ∃ rs xs o2 o3, σ = [some (.ref a), some (.ref l), o2, o3, none, none, none, none, none, none, none] ∧ Same H H2 ∧ H2 l = some (.lst xs) ∧ xs.length = rs.length ∧ (∀ (i : Nat) r, rs[i]? = some r → ∃ p, xs[i]? = some (.ref p) ∧ H2 p = some (.tup (trip r))) ∧ rs.length = i ∧ ∀ r ∈ rs, Ok3 r)
        (fun _ _ _ _ _ => trivial) ⟨[], [], _, _, rfl, s0, upd_same, rfl, fun i r e => by simp at e, rfl, fun r hr' => by simp at hr'⟩ ?_ ?_
      · rintro i x σ H2 H2' hi ⟨rfl, rfl⟩ ⟨rs, xs, o2, o3, rfl, s2, hx, hxl, hxs, hrl, hok⟩
        have hi3 : i * 3 + 2 < ns.length := by omega
        have at0 : atI (ns.map V.int) (0 + (i : Int) * 3) = some (.int (ns[i * 3]'(by omega))) := get_ints (by omega) (by omega)
        have at1 : atI (ns.map V.int) (0 + (i : Int) * 3 + 1) = some (.int (ns[i * 3 + 1]'(by omega))) := get_ints (by omega) (by omega)
        have at2 : atI (ns.map V.int) (0 + (i : Int) * 3 + 2) = some (.int (ns[i * 3 + 2]'(by omega))) := get_ints (by omega) (by omega)
        have hl2 := s2.seq hl
        generalize ns[i * 3]'(by omega) = u at at0
        generalize ns[i * 3 + 1]'(by omega) = v at at1
        generalize ns[i * 3 + 2]'(by omega) = z at at2
        have p40 : (0 : Int) < 10 ^ (40 : Int).toNat := by decide +kernel
        have p60 : (0 : Int) < 10 ^ (60 : Int).toNat := by decide +kernel
        refine ⟨_, rfl, _, rfl, a, _, _, _, rfl, rfl, hl2, at0, _, _, rfl, rfl, ⟨by decide, by decide⟩, _, _, rfl, rfl, ⟨by decide, by decide, by decide⟩, _, _, rfl, rfl, p40, ?_⟩
        refine ⟨_, rfl, _, rfl, a, _, _, _, rfl, rfl, hl2, at0, _, _, rfl, rfl, (by show (0 : Int) < 2; decide), _, _, rfl, rfl, .inr ⟨by decide, by decide⟩, _, _, rfl, rfl, _, _, rfl, rfl, .inr ⟨by omega, by omega⟩, ?_⟩
        refine ⟨_, rfl, .inl ⟨rfl, _, SqL.of hx⟩, ?_⟩
        refine ⟨_, rfl, _, rfl, _, rfl, _, rfl, _, _, rfl, rfl, a, _, _, _, rfl, rfl, hl2, at1, _, _, rfl, rfl, ⟨by decide, by decide, by decide⟩, _, _, rfl, rfl, p40, _, _, rfl, rfl, ?_⟩
        refine ⟨_, rfl, _, rfl, _, _, rfl, rfl, a, _, _, _, rfl, rfl, hl2, at2, _, _, rfl, rfl, ⟨by decide, by decide, by decide⟩, _, _, rfl, rfl, p60, by show 3 ≤ sizeLine; decide, fun p hp => ?_⟩
        have nlp : l ≠ p := ne_of_none hx hp
        refine ⟨l, xs, _, rfl, rfl, by rw [upd_ne nlp]; exact hx, small1000 (by omega), ?_⟩
        have e40 : (10 : Int) ^ (40 : Int).toNat = 10 ^ 40 := by decide +kernel
        have e60 : (10 : Int) ^ (60 : Int).toNat = 10 ^ 60 := by decide +kernel
        rw [e40] at p40
        rw [e60] at p60
        rw [e40, e60]
        obtain ⟨ys, y1, y2, y3⟩ := reqs_push (r := (u / 2 % 10 ^ 40 * (1 - u % 2 * 2), u / 2 % 10 ^ 40 * (1 - u % 2 * 2) + v % 10 ^ 40, z % 10 ^ 60)) hx hxl hxs hp
        rw [upd_same] at y1
        cases y1
        refine ⟨_, _, _, _, rfl, keep (s2.trans (same_laid hp)), upd_same, y2, y3, by simp [hrl], fun r hr' => ?_⟩
        rcases List.mem_append.mp hr' with hm | hm
        · exact hok r hm
        · rw [List.mem_singleton] at hm
          subst hm
          have a1 : 0 ≤ u / 2 % 10 ^ 40 := Int.emod_nonneg _ (by omega)
          have a2 : u / 2 % 10 ^ 40 < 10 ^ 40 := Int.emod_lt_of_pos _ p40
          have b1 : 0 ≤ v % 10 ^ 40 := Int.emod_nonneg _ (by omega)
          have b2 : v % 10 ^ 40 < 10 ^ 40 := Int.emod_lt_of_pos _ p40
          have c1 : 0 ≤ z % 10 ^ 60 := Int.emod_nonneg _ (by omega)
          have c2 : z % 10 ^ 60 < 10 ^ 60 := Int.emod_lt_of_pos _ p60
          have d : u % 2 = 0 ∨ u % 2 = 1 := by omega
          generalize u / 2 % 10 ^ 40 = x at *
          generalize v % 10 ^ 40 = y at *
          generalize z % 10 ^ 60 = t at *
          unfold Ok3
          dsimp only
          rcases d with d | d <;> rw [d] <;> refine ⟨by omega, c1, by omega, by omega, by omega, c2⟩
      · rintro σ H2 ⟨rs, xs, o2, o3, rfl, s2, hx, hxl, hxs, hrl, hok⟩
        exact ⟨_, rfl, q l rs H2 hlN s2 ⟨xs, hx, hxl, hxs⟩ (by omega) hok⟩
    · -- drawn
      have hl0 := s0.seq hl
      refine ⟨_, rfl, a, ns, 0, rfl, hl0, by decide, _, 6, 4, rfl, by decide, by decide, fun kind H1 k0 k1 s1 => ?_⟩
      have S1 : Same H H1 := s0.trans s1
      have hf1 : H1 l = some (.lst []) := s1 _ _ upd_same
      refine ⟨_, _, rfl, rfl, ⟨by decide, by decide, by decide⟩, by show 4 ≤ sizeLine; decide, fun t1 ht1 => ?_⟩
      have S2 := S1.trans (same_laid (o := .tup [.int 1, .int 1, .int (10 ^ (9 : Int).toNat), .int 7]) ht1)
      refine ⟨_, rfl, a, ns, 1, rfl, S2.seq hl, by decide, _, 7, 4, rfl, by decide, by decide, fun r1 H2 r10 r11 s2 => ?_⟩
      obtain ⟨times, at1, tm⟩ := pick (ts := [1, 1, 10 ^ (9 : Int).toNat, 7]) (p := fun x => 1 ≤ x ∧ x ≤ 1000000000) (by decide +kernel) r10 r11
      refine ⟨t1, _, _, .int times, rfl, rfl, SqT.of (s2 _ _ upd_same), at1, _, _, rfl, ?_⟩
      have S3 := S2.trans s2
      have hf3 : H2 l = some (.lst []) := s2 _ _ (by rw [upd_ne (ne_of_none hf1 ht1)]; exact hf1)
      refine ⟨by show 4 ≤ sizeLine; decide, fun t2 ht2 => ?_⟩
      have S4 := S3.trans (same_laid (o := .tup [.int 5, .int 12, .int 30, .int 3]) ht2)
      obtain ⟨days, at2, dm⟩ := pick (ts := [5, 12, 30, 3]) (p := fun x => 1 ≤ x ∧ x ≤ 30) (by decide +kernel) k0 k1
      refine ⟨_, rfl, t2, _, _, .int days, rfl, rfl, SqT.of upd_same, at2, ?_⟩
      refine ⟨by show 4 ≤ sizeLine; decide, fun t3 ht3 => ?_⟩
      have S5 := S4.trans (same_laid (o := .tup [.int 4, .int 50, .int 1000000, .int 10]) ht3)
      refine ⟨_, rfl, a, ns, 2, rfl, S5.seq hl, by decide, _, 8, 4, rfl, by decide, by decide, fun r2 H3 r20 r21 s3 => ?_⟩
      obtain ⟨most, at3, mm⟩ := pick (ts := [4, 50, 1000000, 10]) (p := fun x => 1 ≤ x ∧ x ≤ 1000000) (by decide +kernel) r20 r21
      refine ⟨t3, _, _, .int most, rfl, rfl, SqT.of (s3 _ _ upd_same), at3, _, _, rfl, ?_⟩
      have S6 := S5.trans s3
      have hf2 : upd H2 t2 (.tup [.int 5, .int 12, .int 30, .int 3]) l = some (.lst []) := by rw [upd_ne (ne_of_none hf3 ht2)]; exact hf3
      have hf6 : H3 l = some (.lst []) := s3 _ _ (by rw [upd_ne (ne_of_none hf2 ht3)]; exact hf2)
      refine ⟨_, rfl, a, ns, 1, rfl, S6.seq hl, by decide, _, 9, 8, rfl, by decide, by decide, fun r3 H4 r30 r31 s4 => ?_⟩
      have S7 := S6.trans s4
      have hf7 : H4 l = some (.lst []) := s4 _ _ hf6
      refine ⟨rfl, _, rfl, ite_each fun each he => ?_⟩
      refine ⟨_, rfl, _, rfl, a, _, rfl, .inl (S7.seq hl), _, _, rfl, rfl, .inl ⟨by omega, by omega⟩, ?_⟩
      rw [List.length_map]
      have hb : 0 ≤ each * (ns.length : Nat) ∧ each * (ns.length : Nat) ≤ 126 := by rcases he with rfl | rfl <;> omega
      refine ⟨_, rfl, by omega, by omega, ?_⟩
      refine for_by yields_range (fun i σ H2 => ∃ rs xs o2 o3 o9 o10, σ = [some (.ref a), some (.ref l), o2, o3, some (.int kind), some (.int times), some (.int days), some (.int most), some (.int each), o9, o10] ∧ Same H H2 ∧ H2 l = some (.lst xs) ∧ xs.length = rs.length ∧ (∀ (i : Nat) r, rs[i]? = some r → ∃ p, xs[i]? = some (.ref p) ∧ H2 p = some (.tup (trip r))) ∧ rs.length = i ∧ ∀ r ∈ rs, Ok3 r)
        (fun _ _ _ _ _ => trivial) ⟨[], [], _, _, _, _, rfl, S7, hf7, rfl, fun i r e => by simp at e, rfl, fun r hr' => by simp at hr'⟩ ?_ ?_
      · rintro i x σ H5' H5 hi ⟨rfl, rfl⟩ ⟨rs, xs, o2, o3, o9, o10, rfl, s5, hx, hxl, hxs, hrl, hok⟩
        have hi2 : ((0 + (i : Int)) / each).toNat < ns.length := by rcases he with rfl | rfl <;> omega
        have atc : atI (ns.map V.int) ((0 + (i : Int)) / each) = some (.int ns[((0 + (i : Int)) / each).toNat]) := get_ints (by rcases he with rfl | rfl <;> omega) hi2
        generalize ns[((0 + (i : Int)) / each).toNat] = u at atc
        -- cell
        refine ⟨_, rfl, _, rfl, _, rfl, _, _, rfl, rfl, ⟨by omega, by omega⟩, a, _, _, _, rfl, rfl, s5.seq hl, atc, _, rfl, _, rfl, _, _, rfl, rfl, by omega, _, _, rfl, rfl, .inl ⟨by decide, by decide⟩, _, _, rfl, rfl, ?_⟩
        -- first
        refine ⟨_, rfl, _, rfl, _, _, rfl, rfl, by show (0 : Int) < 5; decide, _, _, rfl, rfl, _, rfl, _, rfl, _, _, rfl, rfl, by show (0 : Int) < 3; decide, _, _, rfl, rfl, _, _, _, rfl, by omega, by omega, fun f1 H6 f10 f11 s6 => ?_⟩
        refine ⟨_, rfl, _, _, rfl, rfl, ⟨by decide, by decide⟩, _, _, rfl, rfl, ?_⟩
        -- last
        refine ⟨_, rfl, _, rfl, _, rfl, _, _, rfl, rfl, by show (0 : Int) < 7; decide, _, _, rfl, rfl, by show 4 ≤ sizeLine; decide, fun t4 ht4 => ?_⟩
        obtain ⟨span, at4, sm⟩ := pick (ts := [1, 3, 8, 2]) (p := fun x => 1 ≤ x ∧ x ≤ 8) (by decide +kernel) k0 k1
        refine ⟨_, rfl, t4, _, _, .int span, rfl, rfl, SqT.of upd_same, at4, _, _, _, rfl, by omega, by omega, fun f2 H7 f20 f21 s7 => ?_⟩
        have S8 : Same H5 H7 := (s6.trans (same_laid ht4)).trans s7
        refine ⟨_, _, rfl, rfl, ?_⟩
        -- found.append
        refine ⟨_, rfl, .inl ⟨rfl, _, SqL.of (S8 _ _ hx)⟩, ?_⟩
        refine ⟨_, rfl, _, rfl, _, _, rfl, rfl, .inr ⟨by omega, by omega⟩, _, rfl, _, rfl, _, _, rfl, rfl, .inr ⟨by omega, by omega⟩, ?_⟩
        refine ⟨_, rfl, _, rfl, _, _, rfl, rfl, by show (0 : Int) < 3; decide, _, _, rfl, rfl, _, rfl, _, _, _, rfl, by omega, by omega, fun f3 H8 f30 f31 s8 => ?_⟩
        refine ⟨by show 3 ≤ sizeLine; decide, fun p hp => ?_⟩
        have S9 : Same H5 H8 := S8.trans s8
        have hx8 := S9 _ _ hx
        have nlp : l ≠ p := ne_of_none hx8 hp
        refine ⟨l, xs, _, rfl, rfl, by rw [upd_ne nlp]; exact hx8, small1000 (by omega), ?_⟩
        obtain ⟨ys, y1, y2, y3⟩ := reqs_push (r := ((f1 - days / 2) * times, (f1 - days / 2 + f2) * times, f3)) hx8 hxl (fun i r e => let ⟨p', e1, e2⟩ := hxs i r e; ⟨p', e1, S9 _ _ e2⟩) hp
        rw [upd_same] at y1
        cases y1
        refine ⟨_, _, _, _, _, _, rfl, keep ((s5.trans S9).trans (same_laid hp)), upd_same, y2, y3, by simp [hrl], fun r hr' => ?_⟩
        rcases List.mem_append.mp hr' with hm | hm
        · exact hok r hm
        · rw [List.mem_singleton] at hm
          subst hm
          have d0 : 0 ≤ days / 2 := Int.ediv_nonneg (by omega) (by decide)
          have d1 : days / 2 ≤ 15 := by omega
          have d2 : (0 + (i : Int)) % 3 < 3 := by omega
          obtain ⟨m1, m2⟩ := small_mul (x := f1 - days / 2) (t := times) (by omega) (by omega) (by omega) (by omega)
          obtain ⟨m3, m4⟩ := small_mul (x := f1 - days / 2 + f2) (t := times) (by omega) (by omega) (by omega) (by omega)
          have m5 : (f1 - days / 2) * times ≤ (f1 - days / 2 + f2) * times := Int.mul_le_mul_of_nonneg_right (by omega) (by omega)
          unfold Ok3
          dsimp only
          generalize (f1 - days / 2) * times = A at *
          generalize (f1 - days / 2 + f2) * times = B at *
          exact ⟨m5, f30, by omega, by omega, by omega, by omega⟩
      · rintro σ H5 ⟨rs, xs, o2, o3, o9, o10, rfl, s5, hx, hxl, hxs, hrl, hok⟩
        exact ⟨_, rfl, q l rs H5 hlN s5 ⟨xs, hx, hxl, hxs⟩ (by omega) hok⟩
end
end Sp

set_option Elab.async false
set_option linter.all false
set_option maxHeartbeats 1000000
/-! ### the table of a set: its places rise -/
namespace Stb
open PySem
def Rise (xs : Array Nat) : Prop := ∀ i j, i < j → j < xs.size → xs.getD i 0 < xs.getD j 0
theorem getD_eq {xs : Array Nat} {i d : Nat} (h : i < xs.size) : xs.getD i d = xs[i] := by simp [Array.getD, h]
theorem go_spec {xs : Array Nat} {j : Nat} (hr : Rise xs) : ∀ (fuel lo hi : Nat), lo ≤ hi → hi ≤ xs.size → hi - lo ≤ fuel → (∀ i, i < lo → xs.getD i 0 < j) → (∀ i, hi ≤ i → i < xs.size → j ≤ xs.getD i 0) →
    SetTable.below.go xs j fuel lo hi ≤ xs.size ∧ (∀ i, i < SetTable.below.go xs j fuel lo hi → xs.getD i 0 < j) ∧ ∀ i, SetTable.below.go xs j fuel lo hi ≤ i → i < xs.size → j ≤ xs.getD i 0
  | 0, lo, hi, h1, h2, h3, h4, h5 => by
    have : lo = hi := by omega
    subst this
    exact ⟨h2, h4, h5⟩
  | fuel + 1, lo, hi, h1, h2, h3, h4, h5 => by
    unfold SetTable.below.go
    by_cases c : lo < hi
    · rw [if_pos c]
      dsimp only
      have hm : (lo + hi) / 2 < xs.size := by omega
      have e : xs.getD ((lo + hi) / 2) j = xs.getD ((lo + hi) / 2) 0 := by rw [getD_eq hm, getD_eq hm]
      by_cases c2 : xs.getD ((lo + hi) / 2) j < j
      · rw [if_pos c2]
        refine go_spec hr fuel _ _ (by omega) h2 (by omega) (fun i hi' => ?_) h5
        rw [e] at c2
        by_cases ei : i = (lo + hi) / 2
        · subst ei; exact c2
        · have := hr i ((lo + hi) / 2) (by omega) hm
          omega
      · rw [if_neg c2]
        refine go_spec hr fuel _ _ (by omega) (by omega) (by omega) h4 (fun i h1' h2' => ?_)
        rw [e] at c2
        by_cases ei : i = (lo + hi) / 2
        · subst ei; omega
        · have := hr ((lo + hi) / 2) i (by omega) h2'
          omega
    · rw [if_neg c]
      have : lo = hi := by omega
      subst this
      exact ⟨h2, h4, h5⟩
theorem below_spec {xs : Array Nat} (hr : Rise xs) (j : Nat) : SetTable.below xs j ≤ xs.size ∧ (∀ i, i < SetTable.below xs j → xs.getD i 0 < j) ∧ ∀ i, SetTable.below xs j ≤ i → i < xs.size → j ≤ xs.getD i 0 :=
  go_spec hr xs.size 0 xs.size (Nat.zero_le _) (Nat.le_refl _) (by omega) (fun i hi => absurd hi (Nat.not_lt_zero _)) fun i h1 h2 => by omega
/-- from a place on: the next one is itself, behind it the next -/
theorem below_zero {xs : Array Nat} (hr : Rise xs) : SetTable.below xs 0 = 0 := by
  obtain ⟨h1, h2, _⟩ := below_spec hr 0
  rcases Nat.eq_zero_or_pos (SetTable.below xs 0) with h | h
  · exact h
  · have := h2 0 h
    omega
theorem below_next {xs : Array Nat} (hr : Rise xs) {i : Nat} (hi : i < xs.size) : SetTable.below xs (xs.getD i 0 + 1) = i + 1 := by
  obtain ⟨h1, h2, h3⟩ := below_spec hr (xs.getD i 0 + 1)
  rcases Nat.lt_trichotomy (SetTable.below xs (xs.getD i 0 + 1)) (i + 1) with h | h | h
  · have := h3 i (by omega) hi
    omega
  · exact h
  · have h4 := h2 (i + 1) h
    have h5 := hr i (i + 1) (by omega) (by omega)
    omega
theorem rise_insert {xs : Array Nat} (hr : Rise xs) {j : Nat} (hn : xs[SetTable.below xs j]? ≠ some j) : Rise (SetTable.insertAt xs (SetTable.below xs j) j) := by
  obtain ⟨h1, h2, h3⟩ := below_spec hr j
  have hsz : (SetTable.insertAt xs (SetTable.below xs j) j).size = xs.size + 1 := by
    have := (SetTable.insertAt_perm xs (SetTable.below xs j) j).length_eq
    simpa using this
  generalize hb : SetTable.below xs j = b at h1 h2 h3 hn hsz ⊢
  have get : ∀ i, i < xs.size + 1 → (SetTable.insertAt xs b j).getD i 0 = if i < b then xs.getD i 0 else if i = b then j else xs.getD (i - 1) 0 := fun i hi => by
    have hl := SetTable.toList_insertAt xs b j
    have e : (SetTable.insertAt xs b j)[i]? = (xs.toList.take b ++ j :: xs.toList.drop b)[i]? := by rw [← Array.getElem?_toList, hl]
    have htk : (xs.toList.take b).length = b := by simp; omega
    rw [Array.getD_eq_getD_getElem?, e]
    by_cases c1 : i < b
    · rw [if_pos c1, List.getElem?_append_left (by omega), List.getElem?_take_of_lt c1, Array.getElem?_toList, ← Array.getD_eq_getD_getElem?]
    · rw [if_neg c1, List.getElem?_append_right (by omega), htk]
      by_cases c2 : i = b
      · subst c2; simp
      · rw [if_neg c2]
        obtain ⟨k, hk⟩ : ∃ k, i - b = k + 1 := ⟨i - b - 1, by omega⟩
        rw [hk, List.getElem?_cons_succ, List.getElem?_drop, Array.getElem?_toList, ← Array.getD_eq_getD_getElem?, show b + k = i - 1 by omega]
  have up : ∀ i, b ≤ i → i < xs.size → j < xs.getD i 0 := fun i h4 h5 => by
    have hbb : b < xs.size := by omega
    have h6 := h3 b (Nat.le_refl _) hbb
    have h7 : xs.getD b 0 ≠ j := fun z => hn (by rw [getElem?_pos xs b hbb, ← z, getD_eq hbb])
    by_cases e : i = b
    · subst e; omega
    · have := hr b i (by omega) h5
      omega
  intro i k hik hk
  rw [hsz] at hk
  rw [get i (by omega), get k hk]
  by_cases c1 : i < b
  · rw [if_pos c1]
    by_cases c2 : k < b
    · rw [if_pos c2]; exact hr i k hik (by omega)
    · rw [if_neg c2]
      by_cases c3 : k = b
      · rw [if_pos c3]; exact h2 i c1
      · rw [if_neg c3]; exact hr i (k - 1) (by omega) (by omega)
  · rw [if_neg c1, if_neg (by omega : ¬ k < b), if_neg (by omega : ¬ k = b)]
    by_cases c2 : i = b
    · rw [if_pos c2]; exact up (k - 1) (by omega) (by omega)
    · rw [if_neg c2]; exact hr (i - 1) (k - 1) (by omega) (by omega)
/-- what is kept of a table: who leads it, no dummies, places that rise while it is plain -/
structure Good (t : SetTable) (b : Bool) : Prop where
  led : t.led = b
  dum : t.dummies = #[]
  rise : t.plain = true → Rise t.place
theorem Good.fresh {m f : Nat} {b : Bool} : Good (.fresh m f b) b := ⟨rfl, rfl, fun _ i j h1 h2 => absurd h2 (Nat.not_lt_zero _)⟩
theorem Good.stand {t : SetTable} {b : Bool} (h : Good t b) (n : Nat) : Good (t.standIn n) b := ⟨h.led, rfl, fun z => by cases z⟩
theorem Good.orStand {t : SetTable} {b : Bool} (h : Good t b) (n : Nat) : Good (t.orStandIn n) b := by
  unfold SetTable.orStandIn
  split
  · exact h
  · exact h.stand n
theorem has_none (j : Nat) : SetTable.has #[] j = false := by
  unfold SetTable.has
  simp
theorem go_empty {t : SetTable} (hd : t.dummies = #[]) {f : Nat → Int} {h : Int} : ∀ (fuel : Nat) (p : SetTable.Probe) {j : Nat} {d : Option Nat}, p.dummy = none → SetTable.probe.go t f h fuel p = some (.empty j d) → t.slot j = .empty ∧ d = none
  | 0, p, j, d, _, e => by cases e
  | fuel + 1, p, j, d, hp, e => by
    unfold SetTable.probe.go at e
    have adv : ∀ p : SetTable.Probe, p.dummy = none → (t.advance p).dummy = none := fun p h => by
      unfold SetTable.advance
      split
      · exact h
      · exact h
    have nd : t.slot p.j ≠ .dummy := by
      unfold SetTable.slot
      dsimp only
      split
      · intro z; cases z
      · rw [hd, has_none]
        intro z
        cases z
    cases hs : t.slot p.j with
    | empty =>
      rw [hs] at e
      dsimp only at e
      cases e
      exact ⟨hs, hp⟩
    | dummy => exact absurd hs nd
    | live i =>
      rw [hs] at e
      dsimp only at e
      split at e
      · cases e
      · exact go_empty hd fuel _ (adv p hp) e
theorem Good.put {t : SetTable} {b : Bool} (h : Good t b) {j : Nat} (hs : t.slot j = .empty) : Good (t.put j).1 b := by
  refine ⟨h.led, ?_, fun hp => ?_⟩
  · show (if SetTable.has t.dummies j = true then _ else t.dummies) = #[]
    rw [h.dum, has_none, if_neg (by simp)]
  · refine rise_insert (h.rise hp) fun z => ?_
    unfold SetTable.slot at hs
    dsimp only at hs
    rw [z] at hs
    simp at hs
theorem Good.new {t : SetTable} {b : Bool} (h : Good t b) (es : Array (Int × Value)) (n : Int) (x : Value) : Good (layNew t es n x).2.1 b := by
  unfold layNew
  cases e : t.freeSlot n with
  | none => exact h.stand _
  | some r =>
    obtain ⟨slot, was⟩ := r
    dsimp only
    unfold SetTable.freeSlot SetTable.probe at e
    cases e2 : SetTable.probe.go t (fun _ => n + 1) n (10 * SetTable.turns t.mask) (t.probeStart n) with
    | none => rw [e2] at e; cases e
    | some m =>
      rw [e2] at e
      cases m with
      | candidate => cases e
      | empty j d =>
        obtain ⟨h1, rfl⟩ := go_empty h.dum _ _ rfl e2
        cases e
        exact (h.put h1).orStand _
theorem rise_laid {n : Nat} {f : Nat → Option Nat} : Rise (((List.range n).filterMap fun j => (f j).map (j, ·)).map (·.1)).toArray := by
  have key : (((List.range n).filterMap fun j => (f j).map (j, ·)).map (·.1)).Pairwise (· < ·) := by
    rw [List.pairwise_map]
    refine List.Pairwise.filterMap _ ?_ (List.pairwise_lt_range (n := n))
    intro a a' h b hb b' hb'
    cases ha : f a with
    | none => rw [ha] at hb; simp at hb
    | some x =>
      cases ha' : f a' with
      | none => rw [ha'] at hb'; simp at hb'
      | some x' =>
        rw [ha] at hb
        rw [ha'] at hb'
        simp at hb hb'
        subst hb
        subst hb'
        exact h
  intro i j hij hj
  have hj' : j < (((List.range n).filterMap fun j => (f j).map (j, ·)).map (·.1)).length := by simpa using hj
  have := List.pairwise_iff_getElem.mp key i j (by omega) hj' hij
  have hi' : i < (((List.range n).filterMap fun j => (f j).map (j, ·)).map (·.1)).toArray.size := by omega
  rw [getD_eq hi', getD_eq hj]
  simpa using this
theorem Good.relay {t : SetTable} {b : Bool} (h : Good t b) (es : Array (Int × Value)) (n : Nat) : Good (relayAll t es n).2.1 b := by
  unfold relayAll
  cases e : t.relaid (es.map (·.1)) n with
  | none => exact h.stand _
  | some r =>
    obtain ⟨t', order⟩ := r
    dsimp only
    split
    · unfold SetTable.relaid SetTable.laid at e
      cases e2 : SetTable.layClean (SetTable.sizeAbove n - 1) (es.map (·.1)) with
      | none => rw [e2] at e; cases e
      | some owner =>
        rw [e2] at e
        cases e
        exact ⟨h.led, rfl, fun _ => rise_laid⟩
    · exact h.stand _
end Stb

set_option Elab.async false
set_option linter.all false
set_option maxRecDepth 100000
set_option maxHeartbeats 1000000
/-! ### sets of ints, with their tables -/
namespace Stb
open PySem PyProof.Rows
section
variable {prog : Program} {w : World}
/-- a set of just these ints (in some order) -/
def SX (prog : Program) (w : World) (h : Heap) (a : Addr) (l : List Int) (b : Bool) : Prop :=
  ∃ o es ep t, h.get? a = some o ∧ o.ExactSet ∧ o.data = .set es ep t ∧ ElemsOf (intKind prog w) es.toList ∧ (es.toList.map fun e => numOf e.2).Perm l ∧ l.length < scanBound ∧ t.fits es.size = true ∧ Good t b
theorem SX.keeps {h h' : Heap} {a : Addr} {l : List Int} {b : Bool} (x : SX prog w h a l b) (hk : ∀ o, h.get? a = some o → h'.get? a = some o) : SX prog w h' a l b := by
  obtain ⟨o, es, ep, t, g, r⟩ := x
  exact ⟨o, es, ep, t, hk o g, r⟩
theorem is_num {k : Int} {v : Value} (h : (intKind prog w).is k v = true) : ∃ t, v = .int k t := Value.isInt_shape h
theorem size_of {es : Array (Int × Value)} {l : List Int} (h : (es.toList.map fun e => numOf e.2).Perm l) : es.size = l.length := by
  have := h.length_eq
  simpa using this
def addTo (l : List Int) (n : Int) : List Int := if n ∈ l then l else l ++ [n]
variable {A : Around} {E : Value → Shared → Prop} {s : Shared}
theorem store_x {a : Addr} {o : Obj} {es es' : Array (Int × Value)} {ep : Nat} {t t' : SetTable} {l : List Int} {b : Bool} (ho : s.heap.get? a = some o) (hex : o.ExactSet) (hd : o.data = .set es ep t) (hel : ElemsOf (intKind prog w) es'.toList)
    (hp : (es'.toList.map fun e => numOf e.2).Perm l) (hb : l.length < scanBound) (hf : t'.fits es'.size = true) (hg : Good t' b) :
    (s.heap.update a (Obj.putSet es' t')).get? a = some { o with data := .set es' (ep + 1) t' } ∧ SX prog w (s.heap.update a (Obj.putSet es' t')) a l b := by
  have g : (s.heap.update a (Obj.putSet es' t')).get? a = some { o with data := .set es' (ep + 1) t' } := by
    have := Heap.get?_update_self (Obj.putSet es' t') ho (by rw [putSet_of es' t' hd]; rfl)
    rwa [putSet_of es' t' hd] at this
  exact ⟨g, _, es', ep + 1, t', g, hex, rfl, hel, hp, hb, hf, hg⟩
theorem add_x {a : Addr} {l : List Int} {b : Bool} {n : Int} {tk : Tok} {Q : Bool → Shared → Prop} (hS : SX prog w s.heap a l b) (hroom : l.length + 1 < scanBound)
    (h : ∀ r h', Heap.SameBut a s.heap h' → SX prog w h' a (addTo l n) b → Q r { s with heap := h' }) : wpAny (model prog w) A (setAddHashed a (.int n tk) ((intKind prog w).hash n)) Q E s := by
  obtain ⟨o, es, ep, t, ho, hex, hd, hel, hp, hb, hf, hg⟩ := hS
  have hsz := size_of hp
  have hkey : (intKind prog w).is n (.int n tk) = true := intKind_is _ _ _ _
  unfold setAddHashed setAddHashedIn
  refine wpAny_holding (wpAny_bind (wpAny_setState_of ho hd hf ?_))
  dsimp only
  rw [byScan_of rfl (by omega) hel]
  simp only [↓reduceIte]
  unfold setAddByScan
  refine wpAny_bind (wpAny_bind (wpAny_rule (wpAny_bind (wpAny_setScan_of hkey ho hd hf hel ?_))))
  cases hr : List.findIdx? (fun e => (intKind prog w).is n e.2) es.toList with
  | some j =>
    dsimp only
    obtain ⟨hj, hpj, _⟩ := List.findIdx?_eq_some_iff_getElem.mp hr
    obtain ⟨t', e'⟩ := is_num hpj
    have hm : n ∈ l := hp.mem_iff.mp (List.mem_map.mpr ⟨es.toList[j], List.getElem_mem hj, by rw [e']; rfl⟩)
    refine wpAny_pure (wpAny_pure ?_)
    have := h false s.heap (Heap.SameBut.refl a s.heap) ⟨o, es, ep, t, ho, hex, hd, hel, by unfold addTo; rw [if_pos hm]; exact hp, by unfold addTo; rw [if_pos hm]; exact hb, hf, hg⟩
    exact this
  | none =>
    dsimp only
    have hm : n ∉ l := fun z => by
      obtain ⟨e, he, e1⟩ := List.mem_map.mp (hp.mem_iff.mpr z)
      have h1 := List.findIdx?_eq_none_iff.mp hr e he
      obtain ⟨⟨k, hk, _⟩, _⟩ := hel e he
      obtain ⟨t', e2⟩ := is_num hk
      have e3 : k = n := by rw [e2] at e1; exact e1
      rw [← e3, hk] at h1
      cases h1
    have hperm := layNew_perm t es ((intKind prog w).hash n) (.int n tk)
    have hfits := layNew_fits t es ((intKind prog w).hash n) (.int n tk)
    have hgood := hg.new es ((intKind prog w).hash n) (.int n tk)
    generalize layNew t es ((intKind prog w).hash n) (.int n tk) = L at hperm hfits hgood ⊢
    obtain ⟨es1, t1, was, gave⟩ := L
    dsimp only at hperm hfits hgood ⊢
    rw [Array.toList_push] at hperm
    have hel1 : ElemsOf (intKind prog w) es1.toList := (hel.push hkey rfl).perm hperm
    have hl1 : (es1.toList.map fun e => numOf e.2).Perm (addTo l n) := by
      unfold addTo
      rw [if_neg hm]
      refine (hperm.map _).trans ?_
      rw [List.map_append]
      exact hp.append_right _
    have hb1 : (addTo l n).length < scanBound := by unfold addTo; rw [if_neg hm, List.length_append, List.length_singleton]; omega
    have way : ∀ (g : Bool) {s₁ : Shared} {Q' : Unit → Shared → Prop}, Q' () s₁ → wpAny (model prog w) A (match g with | true => rule "set.scan.the-table-gave-way" | false => pure ()) Q' E s₁ :=
      fun g s₁ Q' hq => by cases g <;> first | exact wpAny_pure hq | exact wpAny_rule hq
    refine wpAny_bind (way _ ?_)
    -- the rest, whatever the table says of being plain
    have rest : ∀ t2 : SetTable, t2.fits es1.size = true → Good t2 b → wpAny (model prog w) A (do
        storeSet a es1 t2
        if (!was && t2.tooFull) = true then do
            (match (relayAll t2 es1 (SetTable.grown es1.size)).2.2 with | true => rule "set.scan.the-table-gave-way" | false => pure ())
            storeSet a (relayAll t2 es1 (SetTable.grown es1.size)).1 (relayAll t2 es1 (SetTable.grown es1.size)).2.1
            pure (some true)
          else pure (some true)) (fun r s' => wpAny (model prog w) A (match r with | some added => pure added | none => setAddHashedIn a (.int n tk) ((intKind prog w).hash n) 99999) Q E s') E s := fun t2 hf2 hg2 => by
      have z1 : es1.size ≤ sizeLine := fits_of_scanBound (by rw [size_of hl1]; exact hb1)
      refine wpAny_bind (wpAny_storeSet_of ho hd ?_ z1)
      obtain ⟨g1, x1⟩ := store_x (prog := prog) (w := w) ho hex hd hel1 hl1 hb1 hf2 hg2
      have sb1 := Heap.SameBut.update s.heap a (Obj.putSet es1 t2)
      split
      · have hpr := relayAll_perm t2 es1 (SetTable.grown es1.size)
        have hfr := relayAll_fits t2 es1 (SetTable.grown es1.size)
        have hgr := hg2.relay es1 (SetTable.grown es1.size)
        generalize relayAll t2 es1 (SetTable.grown es1.size) = Rl at hpr hfr hgr ⊢
        obtain ⟨es2, t3, gave2⟩ := Rl
        dsimp only at hpr hfr hgr ⊢
        have hl2 : (es2.toList.map fun e => numOf e.2).Perm (addTo l n) := (hpr.map _).trans hl1
        refine wpAny_bind (way _ ?_)
        refine wpAny_bind (wpAny_storeSet_of g1 rfl ?_ (fits_of_scanBound (by rw [size_of hl2]; exact hb1)))
        obtain ⟨_, x2⟩ := store_x (prog := prog) (w := w) (s := { s with heap := s.heap.update a (Obj.putSet es1 t2) }) g1 hex rfl (hel1.perm hpr) hl2 hb1 hfr hgr
        exact wpAny_pure (wpAny_pure (h true _ (sb1.trans (Heap.SameBut.update _ a _)) x2))
      · exact wpAny_pure (wpAny_pure (h true _ sb1 x1))
    split
    · refine wpAny_bind ?_
      rw [hashByValue_scannable 8 rfl]
      refine wpAny_pure ?_
      exact rest t1 hfits hgood
    · refine wpAny_bind (wpAny_pure ?_)
      simp only [↓reduceIte]
      exact rest t1 hfits hgood
end
end Stb

set_option Elab.async false
set_option linter.all false
set_option maxRecDepth 100000
set_option maxHeartbeats 3200000
/-! ### set(list) of ints -/
namespace Stb
open PySem PyProof.Rows
def seen (val : Nat → Int) (i : Nat) : List Int := ((List.range i).map val).foldl addTo []
theorem seen_succ (val : Nat → Int) (i : Nat) : seen val (i + 1) = addTo (seen val i) (val i) := by
  unfold seen
  rw [List.range_succ, List.map_append, List.foldl_append]
  rfl
theorem seen_len (val : Nat → Int) : ∀ i, (seen val i).length ≤ i
  | 0 => Nat.le_refl _
  | i + 1 => by
    rw [seen_succ]
    have := seen_len val i
    unfold addTo
    split
    · omega
    · rw [List.length_append, List.length_singleton]; omega
theorem seen_nodup (val : Nat → Int) : ∀ i, (seen val i).Nodup
  | 0 => .nil
  | i + 1 => by
    rw [seen_succ]
    have ih := seen_nodup val i
    unfold addTo
    split
    · exact ih
    · rename_i h
      exact List.nodup_append.mpr ⟨ih, by simp, fun x hx y hy z => h (by rw [List.mem_singleton] at hy; rw [← hy, ← z]; exact hx)⟩
theorem seen_mem (val : Nat → Int) {n : Int} : ∀ i, n ∈ seen val i ↔ ∃ j, j < i ∧ val j = n
  | 0 => ⟨fun h => by simp [seen] at h, fun ⟨j, h, _⟩ => by omega⟩
  | i + 1 => by
    rw [seen_succ]
    have ih := seen_mem val (n := n) i
    have step : n ∈ addTo (seen val i) (val i) ↔ n ∈ seen val i ∨ n = val i := by
      unfold addTo
      split
      · rename_i h
        exact ⟨.inl, fun z => z.elim id fun e => e ▸ h⟩
      · rw [List.mem_append, List.mem_singleton]
    rw [step, ih]
    constructor
    · rintro (⟨j, h1, h2⟩ | h)
      · exact ⟨j, by omega, h2⟩
      · exact ⟨i, by omega, h.symm⟩
    · rintro ⟨j, h1, h2⟩
      by_cases e : j = i
      · subst e; exact .inr h2.symm
      · exact .inl ⟨j, by omega, h2⟩
section
variable {prog : Program} {w : World} {A : Around} {b : Bool}
theorem loop_x {R : Result → Shared → Prop} {I : Addr} {fp wr : List Addr} {G : Array GenState → Array GenState → Prop} {n : Nat} {P : Nat → Value → Prop} {St : Nat → Shared → Prop} (W : WalksS prog w A.in1 I fp wr G n P St) (S : Addr) (hS : S ∉ fp)
    (val : Nat → Int) (hv : ∀ i v, P i v → ∃ t, v = .int (val i) t) (hb : n + 1 < scanBound) :
    ∀ (k i : Nat) (s : Shared), n - i = k → i ≤ n → St i s → SX prog w s.heap S (seen val i) b → (∀ s', Moved (S :: wr) G s s' → SX prog w s'.heap S (seen val n) b → R (.ok (.ret .none)) s') →
      codeAny (model prog w) A (.builtin "set.update.loop" ⟨[.ref S, .ref I], []⟩) R s := by
  have nw : S ∉ wr := fun h => hS (W.sub _ h)
  have up : ∀ c ∈ wr, c ∈ S :: wr := fun c hc => List.mem_cons_of_mem _ hc
  intro k
  induction k with
  | zero =>
    intro i s hk hi st x hR
    obtain rfl : i = n := by omega
    refine codeAny_builtin PyProof.Rows.F.entry_set_update_loop ?_
    rw [Around.under_plainId PyProof.Rows.F.plain_set_update_loop _]
    show wpAny _ A.in1 (pyNext (.ref I) >>= _) _ _ s
    refine wpAny_bind (W.done s _ _ st fun s' hm => ?_)
    show wpAny _ A.in1 (ret Value.none) _ _ s'
    exact wpAny_pure (hR s' (hm.mono up) (x.keeps fun o e => hm.heap S _ nw e))
  | succ k ih =>
    intro i s hk hi st x hR
    refine codeAny_builtin PyProof.Rows.F.entry_set_update_loop ?_
    rw [Around.under_plainId PyProof.Rows.F.plain_set_update_loop _]
    show wpAny _ A.in1 (pyNext (.ref I) >>= _) _ _ s
    refine wpAny_bind (W.item i s _ _ (by omega) st fun v s' hP st' hm => ?_)
    obtain ⟨t, rfl⟩ := hv i v hP
    have x' : SX prog w s'.heap S (seen val i) b := x.keeps fun o e => hm.heap S _ nw e
    show wpAny _ A.in1 (holding [Value.int (val i) t] (setAdd S (.int (val i) t)) >>= _) _ _ s'
    unfold setAdd
    refine wpAny_bind (wpAny_holding (wpAny_holding (wpAny_bind ((intKind prog w).pyHash (k := val i) (intKind_is _ _ _ _) ?_))))
    have room : (seen val i).length + 1 < scanBound := by have := seen_len val i; omega
    refine add_x (s := { s' with toks := s'.toks + 1 }) x' room fun r h' hsb x2 => ?_
    rw [← seen_succ] at x2
    refine wpAny_pure ⟨plainId_quiet PyProof.Rows.F.plain_set_update_loop _, ih (i + 1) _ (by omega) (by omega) (W.frame _ s' _ _ st' (Nat.le_succ _) fun c hc o e => ?_) x2 fun s'' hm'' x3 => ?_⟩
    · rw [hsb.2 c fun z : c = S => hS (z ▸ hc)]; exact e
    · refine hR s'' (Moved.trans W.gtrans ((hm.mono up).then_heap (Nat.le_succ _) fun c o hc e => ?_) hm'') x3
      rw [hsb.2 c fun z : c = S => hc (z ▸ List.mem_cons_self)]; exact e
variable {E : Value → Shared → Prop} {s : Shared}
/-- sets made here are led, but where sets go by the text -/
def ledOf (w : World) : Bool := !w.params.followText "set-order"
theorem new_x (v : Value) {Q : Value → Shared → Prop} (h : Q (.ref s.heap.objs.size) { s with heap := s.heap.push { cls := .type "set", dict := none, data := .set #[] 0 (.fresh 0 0 (ledOf w)) } }) :
    codeAny (model prog w) A (.call (.builtin "set.__new__") ⟨[.type "set", v], []⟩) (wants Q E) s := by
  refine codeAny_of_tree ?_
  show wpAny _ A.in1 (do checkBuiltinCall "set.__new__" ⟨[.type "set", v], []⟩; again (.builtin "set.__new__" ⟨[.type "set", v], []⟩)) _ _ s
  refine wpAny_bind (wpAny_of_eq (PySem.F.newCall_set_1 v) (wpAny_pure ⟨plainId_quiet PySem.F.plain_set_new _, codeAny_builtin PySem.F.entry_set_new ?_⟩))
  rw [Around.under_plainId PySem.F.plain_set_new _]
  unfold Builtin.«set.__new__» Builtin.Frozenset.newClass
  have y1 := sub_set_self
  obtain ⟨hp, g, d, tk, os⟩ := s
  dsimp only
  wp_walk
  refine wpAny_askSetting (wpAny_pure ?_)
  dsimp only; simp only [newObj]
  exact wpAny_bind (wpAny_alloc (wpAny_pure (wpAny_pure h)))
theorem call_set_x {l : Addr} {items : Array Value} {ns : List Int} {Q : Value → Shared → Prop} (hh : A.handled = none) (hl : s.heap.IsList l items) (hi : IntsAre items.toList ns) (hb : items.size + 1 < scanBound)
    (h : ∀ (h' : Heap) (tk : Nat), SX prog w h' s.heap.objs.size (seen (fun i => ns.getD i 0) items.size) (ledOf w) → (∀ c o, c < s.heap.objs.size → s.heap.get? c = some o → h'.get? c = some o) → Q (.ref s.heap.objs.size) { s with heap := h', toks := tk }) :
    wpAny (model prog w) A (call (.type "set") [.ref l]) Q E s := by
  obtain ⟨c0, t0, m0⟩ := PySem.F.called_set.mro
  have m1 := PySem.F.called_set.made; have m2 := PySem.F.called_set.sub
  refine wpAny_call (codeAny_of_tree ?_)
  show wpAny _ _ (callAny (.type "set") _) _ _ _
  refine wpAny_pure ⟨Code.quiet_builtin _ (by decide +kernel), codeAny_builtin PySem.F.entry_type_call ?_⟩
  rw [Around.under_plain (weight_type_call_type "set" [.ref l] []) rfl]
  have m3 := PySem.F.called_set.notType; have m4 := PySem.F.called_set.canCreate
  have m5 := PySem.F.typeCall_set_1 (.ref l)
  repeat (any_goals (first | assumption | wp_step))
  refine codeAny_mono (new_x (.ref l) (E := E) (Q := fun v s₁ => v = .ref s.heap.objs.size ∧ s₁ = { s with heap := s.heap.push { cls := .type "set", dict := none, data := .set #[] 0 (.fresh 0 0 (ledOf w)) } }) ⟨rfl, rfl⟩) fun r s₁ hr => ?_
  cases r with
  | error e => exact hr
  | ok fl =>
    cases fl with
    | ret v0 =>
      obtain ⟨rfl, rfl⟩ := hr
      have hS : (s.heap.push { cls := .type "set", dict := none, data := .set #[] 0 (.fresh 0 0 (ledOf w)) }).get? s.heap.objs.size = some { cls := .type "set", dict := none, data := .set #[] 0 (.fresh 0 0 (ledOf w)) } := Heap.get?_push_size _ rfl
      have hT : Shared.TypeIs { s with heap := s.heap.push { cls := .type "set", dict := none, data := .set #[] 0 (.fresh 0 0 (ledOf w)) } } (.ref s.heap.objs.size) "set" := ⟨_, hS, rfl⟩
      have m6 := PySem.F.called_set.init.lookup; have m7 := PySem.F.called_set.init.bind (.ref s.heap.objs.size)
      repeat (any_goals (first | assumption | wp_step))
      refine codeAny_mono (codeAny_call_builtin (R := wants (fun r s₂ => r = .none ∧ ∃ h' tk, s₂ = { s with heap := h', toks := tk } ∧ SX prog w h' s.heap.objs.size (seen (fun i => ns.getD i 0) items.size) (ledOf w) ∧
          ∀ c o, c < s.heap.objs.size → s.heap.get? c = some o → h'.get? c = some o) E) PySem.F.called_set.init.plain PySem.F.entry_set_init (check_set_init_1 hT ?_)) fun r₂ s₂ hr₂ => ?_
      · obtain ⟨ol, gl, cl, nl, dl⟩ := hl
        obtain ⟨ocls, odict, odata, oslots⟩ := ol
        simp only at cl dl
        subst cl; subst dl
        have gl' : (s.heap.push { cls := .type "set", dict := none, data := .set #[] 0 (.fresh 0 0 (ledOf w)) }).get? l = some { cls := .type "list", dict := odict, data := .seq items nl, slots := oslots } := Heap.get?_push_of_some _ gl
        have n1 := PySem.F.sub_list_set; have n2 := PySem.F.sub_list_frozenset
        have n3 : (Value.type "list" == Value.type "dict") = false := by decide
        have il : (s.heap.push { cls := .type "set", dict := none, data := .set #[] 0 (.fresh 0 0 (ledOf w)) }).IsList l items := ⟨_, gl', rfl, nl, rfl⟩
        unfold Builtin.«set.__init__» noKeywords Builtin.Frozenset.updateFrom
        generalize hPI : pyIter = PI
        wp_walk
        subst hPI
        refine wpAny_pyIter_list il (wpAny_bind (wpAny_runValue ?_))
        have ll : l < s.heap.objs.size := Heap.lt_size gl
        have h3 : A.in1.in1.in1.handled = none := by simp [hh]
        have nI : l ≠ (s.heap.push { cls := .type "set", dict := none, data := .set #[] 0 (.fresh 0 0 (ledOf w)) }).objs.size := by rw [Heap.size_push]; exact Nat.ne_of_lt (Nat.lt_succ_of_lt ll)
        have nS : s.heap.objs.size ∉ [(s.heap.push { cls := .type "set", dict := none, data := .set #[] 0 (.fresh 0 0 (ledOf w)) }).objs.size, l] := by
          rw [Heap.size_push]; simp only [List.mem_cons, List.mem_singleton, List.not_mem_nil, or_false, not_or]
          exact ⟨Nat.ne_of_lt (Nat.lt_succ_self _), Nat.ne_of_gt ll⟩
        have vv : ∀ (i : Nat) (v : Value), items[i]? = some v → ∃ t, v = .int ((fun i => ns.getD i 0) i) t := fun i v e => IntsAre.int_at hi i v (by rw [Array.getElem?_toList]; exact e)
        refine loop_x (b := ledOf w) ((Walks.list h3 _ l nI items).toS) s.heap.objs.size nS (fun i => ns.getD i 0) vv hb (items.size - 0) 0 _ (by omega) (Nat.zero_le _) ⟨⟨_, Heap.get?_push_size _ rfl, rfl, rfl⟩, (il.push _)⟩ ?x0 ?xR
        case x0 =>
          exact ⟨_, #[], 0, _, Heap.get?_push_of_some _ hS, ⟨rfl, rfl, rfl⟩, rfl, fun e he => by simp at he, .nil, by show 0 < scanBound; decide, rfl, Good.fresh⟩
        case xR =>
          intro s' hm x'
          obtain ⟨h', g', d', tk', os'⟩ := s'
          obtain rfl : g' = s.gens := hm.gens
          obtain rfl : d' = s.drawn := hm.drawn
          obtain rfl : os' = s.os := hm.os
          show wpAny _ _ _ _ _ _
          refine wpAny_pure ?_
          show wpAny _ _ (ret Value.none) _ _ _
          refine wpAny_pure ⟨rfl, h', tk', rfl, x', fun c o hc e => ?_⟩
          refine hm.heap c o ?_ (Heap.get?_push_of_some _ (Heap.get?_push_of_some _ e))
          simp only [List.mem_cons, List.mem_singleton, List.not_mem_nil, or_false, not_or]
          exact ⟨Nat.ne_of_lt hc, by rw [Heap.size_push]; exact Nat.ne_of_lt (Nat.lt_succ_of_lt hc)⟩
      · cases r₂ with
        | error e => exact hr₂
        | ok fl₂ =>
          cases fl₂ with
          | ret r =>
            obtain ⟨rfl, h', tk, rfl, x', k'⟩ := hr₂
            repeat (any_goals (first | assumption | wp_step))
            exact h _ _ x' k'
          | _ => exact hr₂.elim
    | _ => exact hr.elim
end
end Stb

set_option Elab.async false
set_option linter.all false
set_option maxRecDepth 100000
set_option maxHeartbeats 1000000
namespace Stb
open PySem PyProof.Rows
theorem slot_si_next : Slot "set_iterator" "__next__" "set_iterator.__next__" := .of (owner := "set_iterator") (n := "__next__") (by rw [typeLookup_type, builtinLookup_eq_fast]; kernel_rfl) (by decide +kernel) (by decide +kernel) (by decide +kernel) (by first | exact .inl (by decide +kernel) | exact .inr (by decide +kernel)) (by rw [isSubtype_type]; kernel_rfl)
theorem slot_si_iter : Slot "set_iterator" "__iter__" "set_iterator.__iter__" := .of (owner := "set_iterator") (n := "__iter__") (by rw [typeLookup_type, builtinLookup_eq_fast]; kernel_rfl) (by decide +kernel) (by decide +kernel) (by decide +kernel) (by first | exact .inl (by decide +kernel) | exact .inr (by decide +kernel)) (by rw [isSubtype_type]; kernel_rfl)
theorem entry_si_next : entryFor table "set_iterator.__next__" = some Builtin.«set_iterator.__next__» := entryFor_of_fast (by kernel_rfl)
theorem entry_si_iter : entryFor table "set_iterator.__iter__" = some Builtin.«dict_keyiterator.__iter__» := entryFor_alias (id' := "dict_keyiterator.__iter__") (by kernel_rfl) rfl (by decide +kernel) (by kernel_rfl)
theorem entry_s_iter : entryFor table "set.__iter__" = some Builtin.«frozenset.__iter__» := entryFor_alias (id' := "frozenset.__iter__") (by kernel_rfl) rfl (by decide +kernel) (by kernel_rfl)
theorem args_si_next (a : Value) : argsOk "set_iterator.__next__" ⟨[a], []⟩ := by unfold argsOk; kernel_rfl
theorem args_si_iter (a : Value) : argsOk "set_iterator.__iter__" ⟨[a], []⟩ := by unfold argsOk; kernel_rfl
end Stb

set_option Elab.async false
set_option linter.all false
set_option maxRecDepth 100000
set_option maxHeartbeats 1000000
/-! ### walking a set of ints -/
namespace Stb
open PySem PyProof.Rows
theorem erase_perm {α : Type} : ∀ {l : List α} {i : Nat} (hi : i < l.length), (l[i] :: l.eraseIdx i).Perm l
  | [], i, h => by simp at h
  | x :: l, 0, _ => List.Perm.refl _
  | x :: l, i + 1, h => by
    have h' : i < l.length := by simpa using h
    exact (List.Perm.swap x (l[i]'h') (l.eraseIdx i)).trans ((erase_perm h').cons x)
section
variable {prog : Program} {w : World} {A : Around} {E : Value → Shared → Prop} {s : Shared}
theorem wp_choose_ {M : Model} {src : Source} {n : Nat} {Q : Nat → Shared → Prop} (hn : n ≠ 0) (h : ∀ i d, i < n → Q i { s with drawn := d }) : wpAny M A (choose src n) Q E s := fun _ _ _ => ⟨hn, h _ _ (Nat.mod_lt _ (Nat.pos_of_ne_zero hn))⟩
theorem wp_draw {M : Model} {α : Type} : ∀ (n : Nat) (xs : List α) (s : Shared) {Q : List α → Shared → Prop}, xs.length = n → (∀ ys d, ys.Perm xs → Q ys { s with drawn := d }) → wpAny M A (drawOrder n xs) Q E s
  | 0, [], s, Q, _, h => by
    unfold drawOrder
    exact wpAny_pure (h [] s.drawn (List.Perm.refl _))
  | 0, _ :: _, s, Q, e, _ => by simp at e
  | n + 1, [], s, Q, e, _ => by simp at e
  | n + 1, x :: xs, s, Q, e, h => by
    unfold drawOrder
    refine wpAny_bind (wp_choose_ (by simp) fun i d hi => ?_)
    rw [List.getElem?_eq_getElem hi]
    dsimp only
    have hl : ((x :: xs).eraseIdx i).length = n := by rw [List.length_eraseIdx_of_lt hi]; simp at e ⊢; exact e
    refine wpAny_bind (wp_draw n _ _ hl fun ys d' hp => wpAny_pure (h _ d' ?_))
    refine (hp.cons _).trans ?_
    exact erase_perm hi
/-- a set that is walked: its object, what it holds -/
structure SetAt (prog : Program) (w : World) (h : Heap) (a : Addr) (o : Obj) (es : Array (Int × Value)) (ep : Nat) (t : SetTable) : Prop where
  get : h.get? a = some o
  ex : o.ExactSet
  dat : o.data = .set es ep t
  fits : t.fits es.size = true
theorem wp_byText {Q : Bool → Shared → Prop} (h : Q (w.params.followText "set-order") s) : wpAny (model prog w) A setsByText Q E s := by
  unfold setsByText
  exact wpAny_bind (wpAny_askSetting (wpAny_pure h))
theorem pick_perm {α : Type} (next : Nat → Nat) (xs : Array α) : (pickOrder next xs).toList.Perm xs.toList := by
  have key : ∀ (fuel k : Nat) (left : List α) (out : Array α), left.length = fuel → (pickOrder.go next fuel k left out).toList.Perm (out.toList ++ left) := by
    intro fuel
    induction fuel with
    | zero =>
      intro k left out e
      have : left = [] := List.length_eq_zero_iff.mp e
      subst this
      unfold pickOrder.go
      simp
    | succ fuel ih =>
      intro k left out e
      unfold pickOrder.go
      have hi : next k % left.length < left.length := Nat.mod_lt _ (by omega)
      rw [List.getElem?_eq_getElem hi]
      dsimp only
      refine (ih (k + 1) _ _ (by rw [List.length_eraseIdx_of_lt hi]; omega)).trans ?_
      rw [Array.toList_push, List.append_assoc]
      exact (erase_perm hi).append_left _
  unfold pickOrder
  have := key xs.size 0 xs.toList #[] (by simp)
  simpa using this
theorem next_text {a : Addr} {o : Obj} {es : Array (Int × Value)} {ep slot given : Nat} {t : SetTable} {Q : Option (Value × Nat) → Shared → Prop} (x : SetAt prog w s.heap a o es ep t) (hb : w.params.followText "set-order" = true)
    (h : Q (((pickOrder (w.params.setOrder a ep) es)[given]?).map fun e => (e.2, slot)) s) : wpAny (model prog w) A (setNext a slot given ep) Q E s := by
  unfold setNext
  refine wpAny_bind (wpAny_setState_of x.get x.dat x.fits ?_)
  dsimp only
  refine wpAny_bind (wp_byText ?_)
  rw [hb, if_pos rfl, if_neg (by simp)]
  unfold setWalk
  refine wpAny_bind (wpAny_bind (wpAny_setState_of x.get x.dat x.fits ?_))
  dsimp only
  refine wpAny_bind (wp_byText ?_)
  rw [hb, if_pos rfl]
  exact wpAny_bind (wpAny_askSetting (wpAny_pure (wpAny_pure h)))
theorem next_slots {a : Addr} {o : Obj} {es : Array (Int × Value)} {ep slot given e' : Nat} {t : SetTable} {Q : Option (Value × Nat) → Shared → Prop} (x : SetAt prog w s.heap a o es ep t) (hb : w.params.followText "set-order" = false) (hd : (!t.plain && decide (es.size > 1)) = false) (hl : t.led = true)
    (h : Q (match es[SetTable.below t.place slot]?, t.place[SetTable.below t.place slot]? with | some (_, v), some j => some (v, j + 1) | _, _ => none) s) : wpAny (model prog w) A (setNext a slot given e') Q E s := by
  unfold setNext
  refine wpAny_bind (wpAny_setState_of x.get x.dat x.fits ?_)
  dsimp only
  refine wpAny_bind (wp_byText ?_)
  rw [hb, if_neg (by simp)]
  show wpAny _ _ (if (!t.plain && decide (es.size > 1)) = true then _ else _) _ _ _
  rw [hd, if_neg (by simp)]
  show wpAny _ _ (do (if (!t.led && !es.isEmpty) = true then unsupported "set:maker-not-led" else pure ()); _) _ _ _
  rw [hl]
  simp only [Bool.not_true, Bool.false_and, Bool.false_eq_true, if_false]
  exact wpAny_bind (wpAny_pure (wpAny_pure h))
/-- how a walk over it goes: the first field turn by turn, the values in their order -/
inductive Road (w : World) (a : Addr) (es : Array (Int × Value)) (ep : Nat) (t : SetTable) : (Nat → Value) → List Value → List (Addr × Obj) → Prop
  | text (hb : w.params.followText "set-order" = true) : Road w a es ep t (fun _ => .int 0 0) ((pickOrder (w.params.setOrder a ep) es).toList.map (·.2)) []
  | slots (hb : w.params.followText "set-order" = false) (hd : (!t.plain && decide (es.size > 1)) = false) (hl : t.led = true) (hr : Rise t.place) :
      Road w a es ep t (fun i => match i with | 0 => .int 0 0 | i + 1 => .int (t.place.getD i 0 + 1 : Nat) 0) (es.toList.map (·.2)) []
  | drawn {T : Addr} {oT : Obj} {nT : Nat} {ps : List Nat} (hp : ps.Perm (List.range es.size)) (hT : oT.data = .seq (ps.map fun i : Nat => rawInt i).toArray nT) : Road w a es ep t (fun _ => .ref T) (ps.map fun p => (es.getD p (0, .none)).2) [(T, oT)]
theorem Road.perm {w : World} {a : Addr} {es : Array (Int × Value)} {ep : Nat} {t : SetTable} {f : Nat → Value} {vs : List Value} {ts : List (Addr × Obj)} (r : Road w a es ep t f vs ts) : vs.Perm (es.toList.map (·.2)) := by
  cases r with
  | text hb => exact (pick_perm _ _).map _
  | slots => exact List.Perm.refl _
  | drawn hp hT =>
    have e : (List.range es.size).map (fun p => (es.getD p (0, .none)).2) = es.toList.map (·.2) := by
      apply List.ext_getElem
      · simp
      · intro i h1 h2
        have h1' : i < es.size := by simpa using h1
        simp [Array.getD, h1']
    rw [← e]
    exact hp.map _
def itObj (f : Value) (i : Nat) (a : Addr) (n ep : Nat) : Obj := { cls := .type "set_iterator", data := .fields #[f, .int i 0, .ref a, .int n 0, .int ep 0] }
/-- the walk's state -/
def Sti (a : Addr) (o : Obj) (n ep : Nat) (I : Addr) (f : Nat → Value) (ts : List (Addr × Obj)) (i : Nat) (h : Heap) : Prop :=
  h.get? I = some (itObj (f i) i a n ep) ∧ h.get? a = some o ∧ ∀ p ∈ ts, h.get? p.1 = some p.2
end
end Stb

set_option Elab.async false
set_option linter.all false
set_option maxRecDepth 100000
set_option maxHeartbeats 1000000
/-! ### the iterator of a set: its turns -/
namespace Stb
open PySem PyProof.Rows
section
variable {prog : Program} {w : World} {A : Around} {E : Value → Shared → Prop} {s : Shared} {I a : Addr} {o : Obj} {es : Array (Int × Value)} {ep : Nat} {t : SetTable}
theorem it_type {f : Value} {i n : Nat} (h : s.heap.get? I = some (itObj f i a n ep)) : s.TypeIs (.ref I) "set_iterator" := ⟨_, h, rfl⟩
theorem upd_it {h : Heap} {f : Value} {i n k : Nat} {v : Value} (e : h.get? I = some (itObj f i a n ep)) : (h.update I (Obj.mapFields (·.setIfInBounds k v))).get? I = some { cls := .type "set_iterator", data := .fields ((#[f, .int i 0, .ref a, .int n 0, .int ep 0] : Array Value).setIfInBounds k v) } := by
  rw [Heap.get?_update_self _ e (by rfl)]
  rfl
/-- one more -/
theorem next_some {f g v : Value} {i : Nat} {Q : Option Value → Shared → Prop} (x : SetAt prog w s.heap a o es ep t) (hI : s.heap.get? I = some (itObj f i a es.size ep)) (hIa : a ≠ I)
    (road : (∃ k j : Nat, f = .int k 0 ∧ g = .int j 0 ∧ ∀ (A : Around) (E : Value → Shared → Prop) (Q : Option (Value × Nat) → Shared → Prop), Q (some (v, j)) s → wpAny (model prog w) A (setNext a k i ep) Q E s) ∨
      ∃ T oT nT ps p u, f = .ref T ∧ g = f ∧ s.heap.get? T = some oT ∧ oT.data = .seq ps nT ∧ ps[i]? = some (.int (p : Nat) u) ∧ ∃ k, es[p]? = some (k, v))
    (hQ : ∀ h', Heap.SameBut I s.heap h' → h'.get? I = some (itObj g (i + 1) a es.size ep) → Q (some v) { s with heap := h' }) : wpAny (model prog w) A (pyNext (.ref I)) Q E s := by
  unfold pyNext
  refine wpAny_bind (wpAny_attempt (wpAny_callSpecial?_slot (name := Str.ofString "__next__") (it_type hI) slot_si_next (wpAny_call_entry slot_si_next (it_type hI) entry_si_next ?_ (args_si_next _))))
  unfold Builtin.«set_iterator.__next__»
  refine wpAny_bind (m := slotArgs "__next__" 0 _) (wpAny_pure ?_)
  dsimp only
  refine wpAny_bind (wpAny_fieldsOf hI rfl ?_)
  show wpAny _ _ (setEntries a >>= _) _ _ _
  refine wpAny_bind (wpAny_setEntries_of x.get x.dat x.fits ?_)
  rw [if_neg (by simp)]
  have fin : ∀ h', Heap.SameBut I s.heap h' → h'.get? I = some (itObj g (i + 1) a es.size ep) → wpAny (model prog w) A (pure (some v)) Q E { s with heap := h' } := fun h' h1 h2 => wpAny_pure (hQ h' h1 h2)
  rcases road with ⟨k, j, rfl, rfl, hn⟩ | ⟨T, oT, nT, ps, p, u, rfl, rfl, gT, dT, hp, k, he⟩
  · dsimp only
    refine wpAny_bind ?_
    simp only [Int.toNat_natCast]
    refine hn _ _ _ ?_
    dsimp only
    have e1 := upd_it (k := 0) (v := rawInt (j : Nat)) hI
    refine wpAny_bind (wpAny_setField hI rfl (by show 0 < 5; decide) ?_)
    refine wpAny_bind (wpAny_setField e1 rfl (by show 1 < 5; decide) (wpAny_pure ⟨v, rfl, ?_⟩))
    refine fin _ ((Heap.SameBut.update ..).trans (Heap.SameBut.update ..)) ?_
    rw [Heap.get?_update_self _ e1 (by rfl)]
    rfl
  · dsimp only
    refine wpAny_bind (wpAny_seqItems gT dT ?_)
    simp only [Int.toNat_natCast, hp]
    unfold setNextDrawn
    refine wpAny_bind (wpAny_bind (wpAny_setState_of x.get x.dat x.fits ?_))
    dsimp only
    rw [if_neg (by simp)]
    simp only [Int.toNat_natCast, he]
    refine wpAny_pure (wpAny_bind (wpAny_setField hI rfl (by show 1 < 5; decide) (wpAny_pure ⟨v, rfl, ?_⟩)))
    refine fin _ (Heap.SameBut.update ..) ?_
    rw [Heap.get?_update_self _ hI (by rfl)]
    rfl
/-- no more -/
theorem next_none {f : Value} {i : Nat} {Q : Option Value → Shared → Prop} (hh : A.handled = none) (x : SetAt prog w s.heap a o es ep t) (hI : s.heap.get? I = some (itObj f i a es.size ep)) (hIa : a ≠ I)
    (road : (∃ k : Nat, f = .int k 0 ∧ ∀ (A : Around) (E : Value → Shared → Prop) (Q : Option (Value × Nat) → Shared → Prop), Q none s → wpAny (model prog w) A (setNext a k i ep) Q E s) ∨
      ∃ T oT nT ps, f = .ref T ∧ s.heap.get? T = some oT ∧ oT.data = .seq ps nT ∧ ps[i]? = none)
    (hQ : ∀ h', Heap.ExtBut I s.heap h' → Q none { s with heap := h' }) : wpAny (model prog w) A (pyNext (.ref I)) Q E s := by
  unfold pyNext
  refine wpAny_bind (wpAny_attempt (wpAny_callSpecial?_slot (name := Str.ofString "__next__") (it_type hI) slot_si_next (wpAny_call_entry slot_si_next (it_type hI) entry_si_next ?_ (args_si_next _))))
  unfold Builtin.«set_iterator.__next__»
  refine wpAny_bind (m := slotArgs "__next__" 0 _) (wpAny_pure ?_)
  dsimp only
  refine wpAny_bind (wpAny_fieldsOf hI rfl ?_)
  show wpAny _ _ (setEntries a >>= _) _ _ _
  refine wpAny_bind (wpAny_setEntries_of x.get x.dat x.fits ?_)
  rw [if_neg (by simp)]
  rcases road with ⟨k, rfl, hn⟩ | ⟨T, oT, nT, ps, rfl, gT, dT, hp⟩
  · dsimp only
    refine wpAny_bind ?_
    simp only [Int.toNat_natCast]
    refine hn _ _ _ ?_
    dsimp only
    refine wpAny_bind (wpAny_setField hI rfl (by show 2 < 5; decide) ?_)
    have k1 : Heap.ExtBut I s.heap (s.heap.update I (Obj.mapFields (·.setIfInBounds 2 Value.none))) := (Heap.SameBut.update ..).extBut
    refine wpAny_bind ?_
    simp only [newExc, newTuple]
    refine wpAny_bind (wpAny_newObj_type ?_ (by size_fits))
    refine wpAny_bind (m := firstArgMember _ _) (wpAny_of_eq (a := Value.none) (by first | rfl | (simp only [firstArgMember]; rfl)) (wpAny_newObj_type ?_ (by size_fits)))
    simp only [raiseNew]
    refine wpAny_bind (wpAny_handled ?_)
    rw [show A.in1.handled = none from hh]
    (refine wpAny_bind (wpAny_pure (wpAny_throw ?_))); (refine wpAny_bind (wpAny_isInstance (T := "StopIteration") (b := true) ⟨_, Heap.get?_push_size _ rfl, rfl⟩ isSubtype_stop ?_))
    exact wpAny_pure (hQ _ ((k1.push _).push _))
  · dsimp only
    refine wpAny_bind (wpAny_seqItems gT dT ?_)
    simp only [Int.toNat_natCast, hp]
    have e1 := upd_it (k := 0) (v := rawInt 0) hI
    refine wpAny_bind (wpAny_setField hI rfl (by show 0 < 5; decide) ?_)
    refine wpAny_bind (wpAny_setField e1 rfl (by show 2 < 5; decide) ?_)
    have k1 : Heap.ExtBut I s.heap ((s.heap.update I (Obj.mapFields (·.setIfInBounds 0 (rawInt 0)))).update I (Obj.mapFields (·.setIfInBounds 2 Value.none))) := ((Heap.SameBut.update ..).trans (Heap.SameBut.update ..)).extBut
    refine wpAny_bind ?_
    simp only [newExc, newTuple]
    refine wpAny_bind (wpAny_newObj_type ?_ (by size_fits))
    refine wpAny_bind (m := firstArgMember _ _) (wpAny_of_eq (a := Value.none) (by first | rfl | (simp only [firstArgMember]; rfl)) (wpAny_newObj_type ?_ (by size_fits)))
    simp only [raiseNew]
    refine wpAny_bind (wpAny_handled ?_)
    rw [show A.in1.handled = none from hh]
    (refine wpAny_bind (wpAny_pure (wpAny_throw ?_))); (refine wpAny_bind (wpAny_isInstance (T := "StopIteration") (b := true) ⟨_, Heap.get?_push_size _ rfl, rfl⟩ isSubtype_stop ?_))
    exact wpAny_pure (hQ _ ((k1.push _).push _))
theorem Sti.at_ {n : Nat} {f : Nat → Value} {ts : List (Addr × Obj)} {i : Nat} {h : Heap} (st : Sti a o n ep I f ts i h) (hex : o.ExactSet) (hd : o.data = .set es ep t) (hf : t.fits es.size = true) : SetAt prog w h a o es ep t := ⟨st.2.1, hex, hd, hf⟩
/-- the walk, whichever way it goes -/
theorem walks_set {f : Nat → Value} {vs : List Value} {ts : List (Addr × Obj)} (hh : A.handled = none) (r : Road w a es ep t f vs ts) (hex : o.ExactSet) (hd : o.data = .set es ep t) (hf : t.fits es.size = true) (hIa : a ≠ I) (hts : ∀ p ∈ ts, p.1 ≠ I) :
    Walks prog w A I (I :: a :: ts.map (·.1)) [I] vs.length (fun i v => vs[i]? = some v) (Sti a o es.size ep I f ts) where
  sub := fun b hb => by rw [List.mem_singleton.mp hb]; exact List.mem_cons_self
  frame := fun i h h' st hk => ⟨hk I List.mem_cons_self _ st.1, hk a (List.mem_cons_of_mem _ List.mem_cons_self) _ st.2.1, fun p hp => hk p.1 (List.mem_cons_of_mem _ (List.mem_cons_of_mem _ (List.mem_map.mpr ⟨p, hp, rfl⟩))) _ (st.2.2 p hp)⟩
  item := fun i s Q E hi st hQ => by
    have x : SetAt prog w s.heap a o es ep t := st.at_ hex hd hf
    have hv : vs[i]? = some vs[i] := List.getElem?_eq_getElem hi
    have fin : ∀ h', Heap.SameBut I s.heap h' → h'.get? I = some (itObj (f (i + 1)) (i + 1) a es.size ep) → Q (some vs[i]) { s with heap := h' } := fun h' h1 h2 => by
      refine hQ vs[i] h' s.toks hv ⟨h2, ?_, fun p hp => ?_⟩ fun b o hb e => ?_
      · rw [h1.2 a hIa]; exact st.2.1
      · rw [h1.2 p.1 (hts p hp)]; exact st.2.2 p hp
      · rw [h1.2 b fun z => hb (List.mem_singleton.mpr z)]; exact e
    refine next_some x st.1 hIa (g := f (i + 1)) ?_ fin
    cases r with
    | text hb =>
      refine .inl ⟨0, 0, rfl, rfl, fun A E Q q => next_text x hb ?_⟩
      have hi' : i < (pickOrder (w.params.setOrder a ep) es).size := by simpa using hi
      rw [getElem?_pos _ i hi']
      have e : ((pickOrder (w.params.setOrder a ep) es).toList.map (·.2))[i] = ((pickOrder (w.params.setOrder a ep) es)[i]).2 := by simp
      rw [e] at q
      exact q
    | slots hb hdr hl hr =>
      have hi' : i < es.size := by simpa using hi
      have hpl : t.place.size = es.size := by
        unfold SetTable.fits at hf
        rw [Bool.and_eq_true, beq_iff_eq] at hf
        exact hf.1
      have hbl : ∀ k : Nat, (match i with | 0 => Value.int 0 0 | i + 1 => .int (t.place.getD i 0 + 1 : Nat) 0) = .int k 0 → SetTable.below t.place k = i := fun k hk => by
        cases i with
        | zero =>
          have : (0 : Int) = k := by cases hk; rfl
          have : k = 0 := by omega
          subst this
          exact below_zero hr
        | succ i =>
          have : ((t.place.getD i 0 + 1 : Nat) : Int) = k := by cases hk; rfl
          have : k = t.place.getD i 0 + 1 := by omega
          subst this
          exact below_next hr (by omega)
      obtain ⟨k, hk⟩ : ∃ k : Nat, (match i with | 0 => Value.int 0 0 | i + 1 => .int (t.place.getD i 0 + 1 : Nat) 0) = .int k 0 := by
        cases i with
        | zero => exact ⟨0, rfl⟩
        | succ i => exact ⟨_, rfl⟩
      refine .inl ⟨k, t.place.getD i 0 + 1, hk, rfl, fun A E Q q => next_slots x hb hdr hl ?_⟩
      rw [hbl k hk, getElem?_pos es i hi', getElem?_pos t.place i (by omega)]
      have e1 : (es.toList.map (·.2))[i] = (es[i]).2 := by simp
      have e2 : t.place.getD i 0 = t.place[i] := getD_eq (by omega)
      rw [e1, e2] at q
      exact q
    | drawn hp hT =>
      rename_i T oT nT ps
      have hi' : i < ps.length := by simpa using hi
      have hpi : ps[i] < es.size := List.mem_range.mp (hp.mem_iff.mp (List.getElem_mem hi'))
      refine .inr ⟨T, oT, nT, _, ps[i], 0, rfl, rfl, st.2.2 (T, oT) List.mem_cons_self, hT, ?_, ?_⟩
      · simp [hi']
        rfl
      · refine ⟨(es[ps[i]]).1, ?_⟩
        rw [getElem?_pos es ps[i] hpi]
        simp [Array.getD, hpi]
  done := fun s Q E st hQ => by
    have x : SetAt prog w s.heap a o es ep t := st.at_ hex hd hf
    refine next_none hh x st.1 hIa ?_ fun h' h1 => hQ h' s.toks fun b o hb e => h1 b o (fun z => hb (List.mem_singleton.mpr z)) e
    cases r with
    | text hb =>
      refine .inl ⟨0, rfl, fun A E Q q => next_text x hb ?_⟩
      rw [Array.getElem?_eq_none (by simp)]
      exact q
    | slots hb hdr hl hr =>
      have hpl : t.place.size = es.size := by
        unfold SetTable.fits at hf
        rw [Bool.and_eq_true, beq_iff_eq] at hf
        exact hf.1
      have hn : (es.toList.map (·.2)).length = es.size := by simp
      obtain ⟨k, hk, hkb⟩ : ∃ k : Nat, (match (es.toList.map (·.2)).length with | 0 => Value.int 0 0 | i + 1 => .int (t.place.getD i 0 + 1 : Nat) 0) = .int k 0 ∧ SetTable.below t.place k = es.size := by
        rw [hn]
        cases h0 : es.size with
        | zero => exact ⟨0, rfl, below_zero hr⟩
        | succ i => exact ⟨_, rfl, below_next hr (by omega)⟩
      refine .inl ⟨k, hk, fun A E Q q => next_slots x hb hdr hl ?_⟩
      rw [hkb, Array.getElem?_eq_none (Nat.le_refl _)]
      exact q
    | drawn hp hT =>
      rename_i T oT nT ps
      refine .inr ⟨T, oT, nT, _, rfl, st.2.2 (T, oT) List.mem_cons_self, hT, ?_⟩
      exact Array.getElem?_eq_none (by simp)
  self := fun i s Q E st hQ => by
    refine wpAny_pyIter_slot (it_type st.1) slot_si_iter (wpAny_call_entry slot_si_iter (it_type st.1) entry_si_iter ?_ (args_si_iter _))
    show wpAny _ _ (ret (.ref I)) _ _ s
    exact wpAny_pure ⟨_, rfl, "set_iterator", _, it_type st.1, slot_si_next.lookup, hQ⟩
end
end Stb

set_option Elab.async false
set_option linter.all false
/-! ### merging two lists in order: what is out so far, and what is left of each -/
namespace Srt
variable {α : Type}
/-- a strict order where what is not less either way counts as alike -/
structure Ord (lt : α → α → Bool) : Prop where
  asym : ∀ x y, lt x y = true → lt y x = false
  trans : ∀ x y z, lt y x = false → lt z y = false → lt z x = false
def le (lt : α → α → Bool) (x y : α) : Prop := lt y x = false
section
variable {lt : α → α → Bool}
theorem Ord.refl (O : Ord lt) (x : α) : le lt x x := by
  unfold le
  cases h : lt x x with
  | false => rfl
  | true => have := O.asym x x h; rw [h] at this; cases this
theorem Ord.le_of (O : Ord lt) {x y : α} (h : lt x y = true) : le lt x y := O.asym x y h
theorem Ord.tr (O : Ord lt) {x y z : α} (h1 : le lt x y) (h2 : le lt y z) : le lt x z := O.trans x y z h1 h2
theorem Ord.swap (O : Ord lt) : Ord (fun x y => lt y x) := ⟨fun x y h => O.asym y x h, fun x y z h1 h2 => O.trans z y x h2 h1⟩
def Sd (lt : α → α → Bool) (l : List α) : Prop := l.Pairwise (le lt)
theorem Sd.at_ (O : Ord lt) {l : List α} (h : Sd lt l) {i j : Nat} {x y : α} (hij : i ≤ j) (hx : l[i]? = some x) (hy : l[j]? = some y) : le lt x y := by
  by_cases e : i = j
  · subst e; rw [hx] at hy; cases hy; exact O.refl x
  · obtain ⟨h1, e1⟩ := List.getElem?_eq_some_iff.mp hx
    obtain ⟨h2, e2⟩ := List.getElem?_eq_some_iff.mp hy
    have := List.pairwise_iff_getElem.mp h i j h1 h2 (by omega)
    rw [e1, e2] at this
    exact this
theorem Sd.of (l : List α) (h : ∀ i x y, l[i]? = some x → l[i + 1]? = some y → le lt x y) (O : Ord lt) : Sd lt l := by
  have key : ∀ (d i : Nat) x y, l[i]? = some x → l[i + d]? = some y → le lt x y := by
    intro d
    induction d with
    | zero => intro i x y hx hy; rw [Nat.add_zero, hx] at hy; cases hy; exact O.refl x
    | succ d ih =>
      intro i x y hx hy
      have hb : i + d < l.length := by have := (List.getElem?_eq_some_iff.mp hy).1; omega
      have hz : l[i + d]? = some l[i + d] := List.getElem?_eq_getElem hb
      exact O.tr (ih i x _ hx hz) (h (i + d) _ y hz (by rw [← hy]; rfl))
  refine List.pairwise_iff_getElem.mpr fun i j hi hj hij => ?_
  refine key (j - i) i _ _ (List.getElem?_eq_getElem hi) ?_
  rw [show i + (j - i) = j by omega]
  exact List.getElem?_eq_getElem hj
theorem Sd.drop {l : List α} (h : Sd lt l) (n : Nat) : Sd lt (l.drop n) := h.sublist (List.drop_sublist n l)
theorem Sd.append {l r : List α} (h1 : Sd lt l) (h2 : Sd lt r) (h : ∀ x ∈ l, ∀ y ∈ r, le lt x y) : Sd lt (l ++ r) := List.pairwise_append.mpr ⟨h1, h2, h⟩
theorem Sd.rev {l : List α} (h : Sd lt l) : Sd (fun x y => lt y x) l.reverse := by
  unfold Sd
  rw [List.pairwise_reverse]
  exact h.imp fun h' => h'
theorem Sd.unrev {l : List α} (h : Sd (fun x y => lt y x) l) : Sd lt l.reverse := by
  unfold Sd
  rw [List.pairwise_reverse]
  exact h.imp fun h' => h'
/-- half way through a merge -/
structure MI (lt : α → α → Bool) (A B out : List α) (ia ib : Nat) : Prop where
  la : ia ≤ A.length
  lb : ib ≤ B.length
  perm : out.Perm (A.take ia ++ B.take ib)
  sd : Sd lt out
  toA : ∀ x ∈ out, ∀ y ∈ A.drop ia, le lt x y
  toB : ∀ x ∈ out, ∀ y ∈ B.drop ib, le lt x y
theorem MI.symm {A B out : List α} {ia ib : Nat} (h : MI lt A B out ia ib) : MI lt B A out ib ia := ⟨h.lb, h.la, h.perm.trans List.perm_append_comm, h.sd, h.toB, h.toA⟩
theorem MI.nil {A B : List α} : MI lt A B [] 0 0 := ⟨Nat.zero_le _, Nat.zero_le _, by simp, .nil, fun x h => by simp at h, fun x h => by simp at h⟩
theorem drop_head {l : List α} {i : Nat} {x : α} (h : l[i]? = some x) : l.drop i = x :: l.drop (i + 1) := by
  obtain ⟨h1, e1⟩ := List.getElem?_eq_some_iff.mp h
  rw [List.drop_eq_getElem_cons h1, e1]
theorem MI.a (O : Ord lt) {A B out : List α} {ia ib : Nat} {x : α} (h : MI lt A B out ia ib) (sA : Sd lt A) (hx : A[ia]? = some x) (hb : ∀ y ∈ B.drop ib, le lt x y) : MI lt A B (out ++ [x]) (ia + 1) ib := by
  have hl : ia < A.length := (List.getElem?_eq_some_iff.mp hx).1
  have ed := drop_head hx
  have hsd : Sd lt (x :: A.drop (ia + 1)) := ed ▸ sA.drop ia
  refine ⟨hl, h.lb, ?_, ?_, ?_, ?_⟩
  · have e : A.take (ia + 1) = A.take ia ++ [x] := by
      rw [List.take_succ_eq_append_getElem hl, (List.getElem?_eq_some_iff.mp hx).2]
    rw [e]
    have := h.perm.append_right [x]
    refine this.trans ?_
    rw [List.append_assoc, List.append_assoc]
    exact List.perm_append_comm.append_left _
  · refine h.sd.append (List.pairwise_singleton _ _) fun z hz y hy => ?_
    rw [List.mem_singleton] at hy
    subst hy
    exact h.toA z hz y (by rw [ed]; simp)
  · intro z hz y hy
    rcases List.mem_append.mp hz with hz | hz
    · exact h.toA z hz y (by rw [ed]; exact List.mem_cons_of_mem _ hy)
    · rw [List.mem_singleton] at hz
      subst hz
      exact (List.pairwise_cons.mp hsd).1 y hy
  · intro z hz y hy
    rcases List.mem_append.mp hz with hz | hz
    · exact h.toB z hz y hy
    · rw [List.mem_singleton] at hz
      subst hz
      exact hb y hy
theorem MI.b (O : Ord lt) {A B out : List α} {ia ib : Nat} {x : α} (h : MI lt A B out ia ib) (sB : Sd lt B) (hx : B[ib]? = some x) (ha : ∀ y ∈ A.drop ia, le lt x y) : MI lt A B (out ++ [x]) ia (ib + 1) := (h.symm.a O sB hx ha).symm
theorem MI.as (O : Ord lt) {A B : List α} (sA : Sd lt A) : ∀ (k : Nat) {out : List α} {ia ib : Nat}, MI lt A B out ia ib → ia + k ≤ A.length → (∀ i x, i < k → A[ia + i]? = some x → ∀ y ∈ B.drop ib, le lt x y) → MI lt A B (out ++ (A.drop ia).take k) (ia + k) ib
  | 0, out, ia, ib, h, _, _ => by simpa using h
  | k + 1, out, ia, ib, h, hk, hx => by
    have hl : ia < A.length := by omega
    have h1 := h.a O sA (List.getElem?_eq_getElem hl) (hx 0 _ (by omega) (by simpa using List.getElem?_eq_getElem hl))
    have h2 := MI.as O sA k h1 (by omega) fun i x hi e => hx (i + 1) x (by omega) (by rw [show ia + (i + 1) = ia + 1 + i by omega]; exact e)
    rw [show ia + 1 + k = ia + (k + 1) by omega] at h2
    have e : (A.drop ia).take (k + 1) = A[ia] :: (A.drop (ia + 1)).take k := by rw [List.drop_eq_getElem_cons hl, List.take_succ_cons]
    rw [e]
    simpa using h2
theorem MI.bs (O : Ord lt) {A B : List α} (sB : Sd lt B) (k : Nat) {out : List α} {ia ib : Nat} (h : MI lt A B out ia ib) (hk : ib + k ≤ B.length) (hx : ∀ i x, i < k → B[ib + i]? = some x → ∀ y ∈ A.drop ia, le lt x y) : MI lt A B (out ++ (B.drop ib).take k) ia (ib + k) :=
  (MI.as O sB k h.symm hk hx).symm
/-- one list is used up -/
theorem MI.endA {A B out : List α} {ia ib : Nat} (h : MI lt A B out ia ib) (sA : Sd lt A) (e : ib = B.length) : Sd lt (out ++ A.drop ia ++ B.drop ib) ∧ (out ++ A.drop ia ++ B.drop ib).Perm (A ++ B) := by
  have e1 : B.drop ib = [] := by rw [e]; simp
  rw [e1, List.append_nil]
  refine ⟨h.sd.append (sA.drop ia) h.toA, ?_⟩
  refine (h.perm.append_right _).trans ?_
  rw [show B.take ib = B by rw [e]; simp, List.append_assoc]
  refine (List.perm_append_comm.append_left _).trans ?_
  rw [← List.append_assoc, List.take_append_drop]
theorem MI.endB {A B out : List α} {ia ib : Nat} (h : MI lt A B out ia ib) (sB : Sd lt B) (e : ia = A.length) : Sd lt (out ++ A.drop ia ++ B.drop ib) ∧ (out ++ A.drop ia ++ B.drop ib).Perm (A ++ B) := by
  have e1 : A.drop ia = [] := by rw [e]; simp
  have := h.symm.endA sB e
  rw [e1, List.append_nil] at this
  rw [e1, List.append_nil]
  exact ⟨this.1, this.2.trans List.perm_append_comm⟩
/-- what is left of B, and then what is left of A, whose items are no less -/
theorem MI.endL {A B out : List α} {ia ib : Nat} (h : MI lt A B out ia ib) (sA : Sd lt A) (sB : Sd lt B) (hh : ∀ x ∈ B, ∀ y ∈ A.drop ia, le lt x y) : Sd lt (out ++ B.drop ib ++ A.drop ia) ∧ (out ++ B.drop ib ++ A.drop ia).Perm (A ++ B) := by
  refine ⟨(h.sd.append (sB.drop ib) h.toB).append (sA.drop ia) fun x hx y hy => ?_, ?_⟩
  · rcases List.mem_append.mp hx with hx | hx
    · exact h.toA x hx y hy
    · exact hh x (List.mem_of_mem_drop hx) y hy
  · refine ((h.perm.append_right _).append_right _).trans ?_
    rw [List.append_assoc (List.take ia A), List.take_append_drop]
    refine (List.perm_append_comm).trans ?_
    rw [← List.append_assoc]
    refine (List.perm_append_comm.append_right _).trans ?_
    rw [List.take_append_drop]
/-- the other way round: what is out is the end, backward -/
theorem rev_take (A : List α) (n : Nat) (h : n ≤ A.length) : A.reverse.drop (A.length - n) = (A.take n).reverse := by
  rw [List.drop_reverse, show A.length - (A.length - n) = n by omega]
theorem rev_get {A : List α} {n : Nat} (h : n < A.length) : A.reverse[A.length - (n + 1)]? = A[n]? := by
  rw [List.getElem?_reverse (by omega)]
  congr 1
  omega
end
end Srt

set_option Elab.async false
set_option linter.all false
set_option maxHeartbeats 1000000
/-! ### the sort of any size: runs and insertion, anywhere in the list -/
namespace Tim
open PySem Srt PyProof.Rows
/-- the item at a place -/
def it (xs : Array Keyed) (i : Nat) : Keyed := xs.getD i (Value.none, Value.none)
theorem it_congr {xs ys : Array Keyed} {i j : Nat} (h : xs[i]? = ys[j]?) : it xs i = it ys j := by
  unfold it
  rw [Array.getD_eq_getD_getElem?, Array.getD_eq_getD_getElem?, h]
theorem it_get {xs : Array Keyed} {i : Nat} (h : i < xs.size) : xs[i]? = some (it xs i) := by
  unfold it
  rw [Array.getD_eq_getD_getElem?, getElem?_pos xs i h]
  rfl
theorem it_mem {xs : Array Keyed} {i : Nat} (h : i < xs.size) : it xs i ∈ xs.toList := by
  have := it_get h
  rw [← Array.getElem?_toList] at this
  exact List.mem_of_getElem? this
/-- what a comparison answers, the heap ags it was -/
def Asks (prog : Program) (w : World) (A : Around) (s : Shared) (κ : SortKind) (lt : Keyed → Keyed → Bool) (a₀ : Array Keyed) : Prop :=
  ∀ p q, p ∈ a₀.toList → q ∈ a₀.toList → ∀ (E : Value → Shared → Prop) (Q : Bool → Shared → Prop), Q (lt p q) s → wpAny (model prog w) A (keyLt' κ p.1 q.1) Q E s
structure SB (κ : SortKind) (a₀ : Array Keyed) (st : SortSt) : Prop where
  perm : (arrOf st).toList.Perm a₀.toList
  kind : kindOf st = κ
  failed : failedOf st = none
theorem SB.size {κ : SortKind} {a₀ : Array Keyed} {st : SortSt} (h : SB κ a₀ st) : (arrOf st).size = a₀.size := by
  have := h.perm.length_eq
  simpa using this
theorem SB.mem {κ : SortKind} {a₀ : Array Keyed} {st : SortSt} (h : SB κ a₀ st) {i : Nat} (hi : i < a₀.size) : it (arrOf st) i ∈ a₀.toList := h.perm.mem_iff.mp (it_mem (by rw [h.size]; exact hi))
theorem SB.set {κ : SortKind} {a₀ : Array Keyed} {st : SortSt} (h : SB κ a₀ st) {xs : Array Keyed} (hp : xs.Perm (arrOf st)) : SB κ a₀ (setArr st xs) := ⟨(Array.perm_iff_toList_perm.mp hp).trans h.perm, h.kind, h.failed⟩
/-- in order from lo on, n items -/
def Up (lt : Keyed → Keyed → Bool) (xs : Array Keyed) (lo n : Nat) : Prop := ∀ i j, i ≤ j → j < n → le lt (it xs (lo + i)) (it xs (lo + j))
def Down (lt : Keyed → Keyed → Bool) (xs : Array Keyed) (lo n : Nat) : Prop := ∀ i j, i ≤ j → j < n → le lt (it xs (lo + j)) (it xs (lo + i))
section
variable {prog : Program} {w : World} {A : Around} {E : Value → Shared → Prop} {s : Shared} {a₀ : Array Keyed} {κ : SortKind} {lt : Keyed → Keyed → Bool}
theorem wpS_less {st : SortSt} {p q : Keyed} {Q : Option Bool → SortSt → Prop} (C : Asks prog w A s κ lt a₀) (hk : kindOf st = κ) (hp : p ∈ a₀.toList) (hq : q ∈ a₀.toList) (h : Q (some (lt p q)) st) : wpS (model prog w) A E s (lt' p q) Q st := by
  rw [lt'_eq]
  refine wpS_bind (wpS_get ?_)
  rw [hk]
  exact wpS_bind (wpS_lift (wpAny_attempt (C p q hp hq _ _ ⟨rfl, wpS_pure h⟩)))
theorem wpS_elem {st : SortSt} {xs : Array Keyed} {i : Nat} {Q : Keyed → SortSt → Prop} (hi : i < xs.size) (h : Q (it xs i) st) : wpS (model prog w) A E s (elem' xs i) Q st := by
  rw [elem'_eq, it_get hi]
  exact wpS_pure h
theorem wpS_at {st : SortSt} {i j : Nat} {Q : Option Bool → SortSt → Prop} (C : Asks prog w A s κ lt a₀) (hB : SB κ a₀ st) (hi : i < a₀.size) (hj : j < a₀.size) (h : Q (some (lt (it (arrOf st) i) (it (arrOf st) j))) st) :
    wpS (model prog w) A E s (ltAt' i j) Q st := by
  rw [ltAt'_eq]
  refine wpS_bind (wpS_get ?_)
  exact wpS_bind (wpS_elem (by rw [hB.size]; exact hi) (wpS_bind (wpS_elem (by rw [hB.size]; exact hj) (wpS_less C hB.kind (hB.mem hi) (hB.mem hj) h))))
theorem it_bubble {xs : Array Keyed} {src d : Nat} (hs : src < xs.size) (hd : d ≤ src) (k : Nat) : it (bubble xs src d) k = if k = src - d then it xs src else if src - d < k ∧ k ≤ src then it xs (k - 1) else it xs k := by
  have e := getElem?_bubble hs d hd k
  by_cases h1 : k = src - d
  · rw [if_pos h1] at e ⊢; exact it_congr e
  · rw [if_neg h1] at e ⊢
    by_cases h2 : src - d < k ∧ k ≤ src
    · rw [if_pos h2] at e ⊢; exact it_congr e
    · rw [if_neg h2] at e ⊢; exact it_congr e
theorem it_mirror {xs : Array Keyed} {i j : Nat} (hj : j ≤ xs.size) (k : Nat) : it (mirror xs i j ((j - i) / 2)) k = if i ≤ k ∧ k < j then it xs (i + j - 1 - k) else it xs k := by
  have e := getElem?_mirror_all (i := i) hj k
  by_cases h1 : i ≤ k ∧ k < j
  · rw [if_pos h1] at e ⊢; exact it_congr e
  · rw [if_neg h1] at e ⊢; exact it_congr e
theorem wpS_rev {st : SortSt} {i j : Nat} {Q : Unit → SortSt → Prop} (h : Q () (setArr st (mirror (arrOf st) i j ((j - i) / 2)))) : wpS (model prog w) A E s (reverseSlice' i j) Q st := by
  rw [reverseSlice'_eq]
  exact wpS_modify h
/-- what a step over the items from lo on leaves ags it was -/
structure Left (lo : Nat) (st st' : SortSt) : Prop where
  low : ∀ k, k < lo → it (arrOf st') k = it (arrOf st) k
  pend : pendingOf st' = pendingOf st
theorem Left.refl {lo : Nat} (st : SortSt) : Left lo st st := ⟨fun _ _ => rfl, rfl⟩
theorem Left.trans {lo : Nat} {st st' st'' : SortSt} (h : Left lo st st') (h' : Left lo st' st'') : Left lo st st'' := ⟨fun k hk => (h'.low k hk).trans (h.low k hk), h'.pend.trans h.pend⟩
theorem Left.mirror {lo i j : Nat} {st : SortSt} (hj : j ≤ (arrOf st).size) (hi : lo ≤ i) : Left lo st (setArr st (mirror (arrOf st) i j ((j - i) / 2))) :=
  ⟨fun k hk => by show it (PyProof.Rows.mirror (arrOf st) i j ((j - i) / 2)) k = _; rw [it_mirror hj, if_neg (by omega)], rfl⟩
/-! insertion -/
theorem wpS_bin {st : SortSt} {lo n ok : Nat} {Q : Bool → SortSt → Prop} (O : Ord lt) (C : Asks prog w A s κ lt a₀) (hn : lo + n ≤ a₀.size) (hok : ok ≤ n) (hB : SB κ a₀ st) (hs : Up lt (arrOf st) lo ok)
    (h : ∀ st', SB κ a₀ st' → Left lo st st' → Up lt (arrOf st') lo n → Q true st') : wpS (model prog w) A E s (binarySort' lo n ok) Q st := by
  rw [binarySort'_eq]
  refine wpS_bind (wpS_mono (wpS_forRange (I := fun k c st' => c = (none, ()) ∧ SB κ a₀ st' ∧ Left lo st st' ∧ Up lt (arrOf st') lo (min k n))
    (Q := fun c st' => c = (none, ()) ∧ SB κ a₀ st' ∧ Left lo st st' ∧ Up lt (arrOf st') lo n) ?step ?fin ?init) ?post)
  case post =>
    rintro c st' ⟨rfl, hB', hL, hs'⟩
    exact wpS_pure (h st' hB' hL hs')
  case init =>
    refine ⟨rfl, hB, Left.refl st, fun i j hij hj => ?_⟩
    by_cases h1 : ok = 0
    · have : i = j := by omega
      subst this; exact O.refl _
    · exact hs i j hij (by omega)
  case fin =>
    rintro c st' ⟨hc, hB', hL, hs'⟩
    refine ⟨hc, hB', hL, ?_⟩
    rwa [show min (max (max ok 1) n) n = n by omega] at hs'
  case step =>
    rintro k c st' hak hkn ⟨rfl, hB', hL, hs'⟩
    rw [show min k n = k by omega] at hs'
    have hk : lo + k < a₀.size := by omega
    refine wpS_bind (wpS_mono (wpS_forRange (I := fun x c st'' => st'' = st' ∧ ∃ l r, c = (none, l, r) ∧ l ≤ r ∧ r ≤ k ∧ r - l ≤ k - x ∧
        (∀ i, i < l → le lt (it (arrOf st') (lo + i)) (it (arrOf st') (lo + k))) ∧ (∀ i, r ≤ i → i < k → lt (it (arrOf st') (lo + k)) (it (arrOf st') (lo + i)) = true))
      (Q := fun c st'' => st'' = st' ∧ ∃ l r, c = (none, l, r) ∧ l ≤ k ∧
        (∀ i, i < l → le lt (it (arrOf st') (lo + i)) (it (arrOf st') (lo + k))) ∧ (∀ i, l ≤ i → i < k → lt (it (arrOf st') (lo + k)) (it (arrOf st') (lo + i)) = true)) ?istep ?ifin ?iinit) ?ipost)
    case iinit => exact ⟨rfl, 0, k, rfl, by omega, by omega, by omega, fun i hi => by omega, fun i h1 h2 => by omega⟩
    case ifin =>
      rintro c st'' ⟨rfl, l, r, rfl, hlr, hrk, hm, hlo, hhi⟩
      have : l = r := by omega
      subst this
      exact ⟨rfl, l, l, rfl, hrk, hlo, hhi⟩
    case istep =>
      rintro x c st'' _ hxk ⟨rfl, l, r, rfl, hlr, hrk, hm, hlo, hhi⟩
      dsimp only
      by_cases hge : l ≥ r
      · rw [if_pos hge]
        have : l = r := by omega
        subst this
        exact wpS_pure ⟨rfl, l, l, rfl, hrk, hlo, hhi⟩
      · rw [if_neg hge]
        refine wpS_bind (wpS_at C hB' hk (by omega) ?_)
        cases hless : lt (it (arrOf st'') (lo + k)) (it (arrOf st'') (lo + (l + r) / 2))
        case true =>
          simp only [if_true]
          refine wpS_pure ⟨rfl, l, (l + r) / 2, rfl, by omega, by omega, by omega, hlo, fun i h1 h2 => ?_⟩
          have := hs' _ _ h1 h2
          cases h3 : lt (it (arrOf st'') (lo + k)) (it (arrOf st'') (lo + i)) with
          | true => rfl
          | false =>
            have h4 : lt (it (arrOf st'') (lo + k)) (it (arrOf st'') (lo + (l + r) / 2)) = false := O.trans _ _ _ this h3
            rw [hless] at h4
            cases h4
        case false =>
          simp only [Bool.false_eq_true, if_false]
          refine wpS_pure ⟨rfl, (l + r) / 2 + 1, r, rfl, by omega, by omega, by omega, fun i h1 => ?_, hhi⟩
          exact O.tr (hs' i ((l + r) / 2) (by omega) (by omega)) hless
    case ipost =>
      rintro c st'' ⟨rfl, l, r, rfl, hlk, hlo, hhi⟩
      show wpS _ _ _ _ (do moveDown' (lo + k) (lo + l); pure (ForInStep.yield (none, ()))) _ _
      rw [moveDown'_eq]
      have hks : lo + k < (arrOf st'').size := by rw [hB'.size]; exact hk
      refine wpS_bind (wpS_modify (wpS_pure ⟨rfl, hB'.set (bubble_perm _ _ _), hL.trans ⟨fun i hi => ?_, rfl⟩, ?_⟩))
      · show it (bubble (arrOf st'') (lo + k) (lo + k - (lo + l))) i = _
        rw [it_bubble hks (by omega), if_neg (by omega), if_neg (by omega)]
      · rw [show min (k + 1) n = k + 1 by omega]
        intro i j hij hj
        show le lt (it (bubble (arrOf st'') (lo + k) (lo + k - (lo + l))) (lo + i)) (it (bubble (arrOf st'') (lo + k) (lo + k - (lo + l))) (lo + j))
        rw [it_bubble hks (by omega), it_bubble hks (by omega), show lo + k - (lo + k - (lo + l)) = lo + l by omega]
        have lo' : ∀ t, t < lo + l → lo ≤ t → le lt (it (arrOf st'') t) (it (arrOf st'') (lo + k)) := fun t h1 h2 => by
          have := hlo (t - lo) (by omega)
          rwa [show lo + (t - lo) = t by omega] at this
        have hi' : ∀ t, lo + l ≤ t → t < lo + k → le lt (it (arrOf st'') (lo + k)) (it (arrOf st'') t) := fun t h1 h2 => by
          have := hhi (t - lo) (by omega) (by omega)
          rw [show lo + (t - lo) = t by omega] at this
          exact O.le_of this
        have up' : ∀ t u, lo ≤ t → t ≤ u → u < lo + k → le lt (it (arrOf st'') t) (it (arrOf st'') u) := fun t u h1 h2 h3 => by
          have := hs' (t - lo) (u - lo) (by omega) (by omega)
          rwa [show lo + (t - lo) = t by omega, show lo + (u - lo) = u by omega] at this
        repeat' split
        all_goals first
          | (exfalso; omega)
          | exact O.refl _
          | exact lo' _ (by omega) (by omega)
          | exact hi' _ (by omega) (by omega)
          | exact up' _ _ (by omega) (by omega) (by omega)
end
end Tim

set_option Elab.async false
set_option linter.all false
set_option maxHeartbeats 1000000
namespace Tim
open PySem Srt PyProof.Rows
section
variable {prog : Program} {w : World} {A : Around} {E : Value → Shared → Prop} {s : Shared} {a₀ : Array Keyed} {κ : SortKind} {lt : Keyed → Keyed → Bool}
def upLoop (lo a nrem : Nat) : StateT SortSt Sem (Option (Option Nat) × Nat) :=
  forIn [a:nrem] ((none, a) : Option (Option Nat) × Nat) fun _ c => do
    let x ← ltAt' (lo + c.snd) (lo + c.snd - 1)
    match x with
    | some b => if b = true then pure (.done (none, c.snd)) else pure (.yield (none, c.snd + 1))
    | _ => pure (.done (some none, c.snd))
theorem Up.next (O : Ord lt) {xs : Array Keyed} {lo n : Nat} (h : Up lt xs lo n) (h0 : 1 ≤ n) (hl : le lt (it xs (lo + n - 1)) (it xs (lo + n))) : Up lt xs lo (n + 1) := fun i j hij hj => by
  by_cases hjx : j < n
  · exact h i j hij hjx
  · have hj' : j = n := by omega
    subst hj'
    by_cases hi' : i = j
    · subst hi'; exact O.refl _
    · have := h i (j - 1) (by omega) (by omega)
      rw [show lo + (j - 1) = lo + j - 1 by omega] at this
      exact O.tr this hl
theorem Down.next (O : Ord lt) {xs : Array Keyed} {lo n : Nat} (h : Down lt xs lo n) (h0 : 1 ≤ n) (hl : le lt (it xs (lo + n)) (it xs (lo + n - 1))) : Down lt xs lo (n + 1) := fun i j hij hj => by
  by_cases hjx : j < n
  · exact h i j hij hjx
  · have hj' : j = n := by omega
    subst hj'
    by_cases hi' : i = j
    · subst hi'; exact O.refl _
    · have := h i (j - 1) (by omega) (by omega)
      rw [show lo + (j - 1) = lo + j - 1 by omega] at this
      exact O.tr hl this
theorem wpS_up {st : SortSt} {lo a nrem : Nat} {Q : Option (Option Nat) × Nat → SortSt → Prop} (O : Ord lt) (C : Asks prog w A s κ lt a₀) (hn : lo + nrem ≤ a₀.size) (ha : 1 ≤ a) (han : a ≤ nrem) (hB : SB κ a₀ st) (hs : Up lt (arrOf st) lo a)
    (h : ∀ n, a ≤ n → n ≤ nrem → Up lt (arrOf st) lo n → (n = nrem ∨ lt (it (arrOf st) (lo + n)) (it (arrOf st) (lo + n - 1)) = true) → Q (none, n) st) : wpS (model prog w) A E s (upLoop lo a nrem) Q st := by
  unfold upLoop
  refine wpS_forRange (I := fun x c st' => st' = st ∧ c = (none, x) ∧ Up lt (arrOf st) lo x) ?step ?fin ⟨rfl, rfl, hs⟩
  case fin =>
    rintro c st' ⟨rfl, rfl, hs'⟩
    rw [show max a nrem = nrem by omega] at hs' ⊢
    exact h nrem han (Nat.le_refl _) hs' (.inl rfl)
  case step =>
    rintro x c st' hax hxn ⟨rfl, rfl, hs'⟩
    dsimp only
    refine wpS_bind (wpS_at C hB (by omega) (by omega) ?_)
    cases hless : lt (it (arrOf st') (lo + x)) (it (arrOf st') (lo + x - 1)) with
    | true =>
      simp only [if_true]
      exact wpS_pure (h x hax (by omega) hs' (.inr hless))
    | false =>
      simp only [Bool.false_eq_true, if_false]
      exact wpS_pure ⟨rfl, rfl, hs'.next O (by omega) hless⟩
/-- alike from i up to j -/
def Alike (lt : Keyed → Keyed → Bool) (xs : Array Keyed) (i j : Nat) : Prop := ∀ k m, i ≤ k → k < j → i ≤ m → m < j → le lt (it xs k) (it xs m)
theorem Down.mirror {xs : Array Keyed} {lo n i : Nat} (h : Down lt xs lo n) (hz : lo + n ≤ xs.size) (hi : lo ≤ i) (ha : Alike lt xs i (lo + n)) : Down lt (mirror xs i (lo + n) ((lo + n - i) / 2)) lo n := fun k m hkm hm => by
  rw [it_mirror hz, it_mirror hz]
  have dn : ∀ t u, lo ≤ t → t ≤ u → u < lo + n → le lt (it xs u) (it xs t) := fun t u h1 h2 h3 => by
    have := h (t - lo) (u - lo) (by omega) (by omega)
    rwa [show lo + (t - lo) = t by omega, show lo + (u - lo) = u by omega] at this
  repeat' split
  · exact ha _ _ (by omega) (by omega) (by omega) (by omega)
  · exact dn _ _ (by omega) (by omega) (by omega)
  · exact dn _ _ (by omega) (by omega) (by omega)
  · exact dn _ _ (by omega) (by omega) (by omega)
theorem below_mirror {xs : Array Keyed} {lo n i : Nat} {z : Keyed} (hz : lo + n ≤ xs.size) (hi : lo ≤ i) (h : ∀ k, lo ≤ k → k < lo + n → le lt z (it xs k)) : ∀ k, lo ≤ k → k < lo + n → le lt z (it (mirror xs i (lo + n) ((lo + n - i) / 2)) k) := fun k h1 h2 => by
  rw [it_mirror hz]
  split
  · exact h _ (by omega) (by omega)
  · exact h _ (by omega) (by omega)
theorem Down.flip {xs : Array Keyed} {lo n : Nat} (h : Down lt xs lo n) (hz : lo + n ≤ xs.size) : Up lt (PyProof.Rows.mirror xs lo (lo + n) ((lo + n - lo) / 2)) lo n := fun i j hij hj => by
  rw [it_mirror hz, it_mirror hz, if_pos (by omega), if_pos (by omega)]
  have := h (n - 1 - j) (n - 1 - i) (by omega) (by omega)
  rwa [show lo + (n - 1 - j) = lo + (lo + n) - 1 - (lo + j) by omega, show lo + (n - 1 - i) = lo + (lo + n) - 1 - (lo + i) by omega] at this
def downLoop (lo n nrem : Nat) : StateT SortSt Sem (Option (Option Nat) × Nat × Nat) :=
  forIn [n:nrem] ((none, n, 0) : Option (Option Nat) × Nat × Nat) fun _ c => do
    let x ← ltAt' (lo + c.snd.fst) (lo + c.snd.fst - 1)
    match x with
    | some b =>
      if b = true then
        if c.snd.snd > 0 then do
          let _ ← reverseSlice' (lo + c.snd.fst - (c.snd.snd + 1)) (lo + c.snd.fst)
          pure (.yield (none, c.snd.fst + 1, 0))
        else pure (.yield (none, c.snd.fst + 1, 0))
      else do
        let y ← ltAt' (lo + c.snd.fst - 1) (lo + c.snd.fst)
        match y with
        | some d => if d = true then pure (.done (none, c.snd.fst, c.snd.snd)) else pure (.yield (none, c.snd.fst + 1, c.snd.snd + 1))
        | _ => pure (.done (some none, c.snd.fst, c.snd.snd))
    | _ => pure (.done (some none, c.snd.fst, c.snd.snd))
theorem wpS_down {st : SortSt} {lo n nrem : Nat} {Q : Option (Option Nat) × Nat × Nat → SortSt → Prop} (O : Ord lt) (C : Asks prog w A s κ lt a₀) (hn : lo + nrem ≤ a₀.size) (h1 : 1 ≤ n) (hnn : n ≤ nrem) (hB : SB κ a₀ st) (hs : Down lt (arrOf st) lo n)
    (h : ∀ m q st', SB κ a₀ st' → Left lo st st' → n ≤ m → m ≤ nrem → Down lt (arrOf st') lo m → q + 1 ≤ m → Alike lt (arrOf st') (lo + m - (q + 1)) (lo + m) → Q (none, m, q) st') : wpS (model prog w) A E s (downLoop lo n nrem) Q st := by
  unfold downLoop
  refine wpS_forRange (I := fun x c st' => ∃ q, c = (none, x, q) ∧ SB κ a₀ st' ∧ Left lo st st' ∧ Down lt (arrOf st') lo x ∧ q + 1 ≤ x ∧ Alike lt (arrOf st') (lo + x - (q + 1)) (lo + x)) ?step ?fin
    ⟨0, rfl, hB, Left.refl st, hs, by omega, fun i j h1 h2 h3 h4 => by rw [show i = j by omega]; exact O.refl _⟩
  case fin =>
    rintro c st' ⟨q, rfl, hB', hL, hs', hq, he⟩
    rw [show max n nrem = nrem by omega] at hs' hq he ⊢
    exact h nrem q st' hB' hL hnn (Nat.le_refl _) hs' hq he
  case step =>
    rintro x c st' hax hxn ⟨q, rfl, hB', hL, hs', hq, he⟩
    dsimp only
    have hsz : lo + x ≤ (arrOf st').size := by rw [hB'.size]; omega
    refine wpS_bind (wpS_at C hB' (by omega) (by omega) ?_)
    cases hless : lt (it (arrOf st') (lo + x)) (it (arrOf st') (lo + x - 1)) with
    | true =>
      simp only [if_true]
      have hll := O.le_of hless
      have below : ∀ k, lo ≤ k → k < lo + x → le lt (it (arrOf st') (lo + x)) (it (arrOf st') k) := fun k h1 h2 => by
        have := hs' (k - lo) (x - 1) (by omega) (by omega)
        rw [show lo + (k - lo) = k by omega, show lo + (x - 1) = lo + x - 1 by omega] at this
        exact O.tr hll this
      have one : Alike lt (arrOf st') (lo + (x + 1) - (0 + 1)) (lo + (x + 1)) := fun i j h1 h2 h3 h4 => by rw [show i = j by omega]; exact O.refl _
      by_cases hq0 : q > 0
      · rw [if_pos hq0]
        refine wpS_bind (wpS_rev (wpS_pure ⟨0, rfl, hB'.set (mirror_perm _ _ _ _), hL.trans (Left.mirror hsz (by omega)), ?_, by omega, fun i j h1 h2 h3 h4 => by rw [show i = j by omega]; exact O.refl _⟩))
        refine (hs'.mirror hsz (by omega) he).next O (by omega) ?_
        have e : it (mirror (arrOf st') (lo + x - (q + 1)) (lo + x) ((lo + x - (lo + x - (q + 1))) / 2)) (lo + x) = it (arrOf st') (lo + x) := by rw [it_mirror hsz, if_neg (by omega)]
        show le lt (it (mirror (arrOf st') (lo + x - (q + 1)) (lo + x) ((lo + x - (lo + x - (q + 1))) / 2)) (lo + x)) _
        rw [e]
        exact below_mirror hsz (by omega) below _ (by omega) (by omega)
      · rw [if_neg hq0]
        exact wpS_pure ⟨0, rfl, hB', hL, hs'.next O (by omega) hll, by omega, one⟩
    | false =>
      simp only [Bool.false_eq_true, if_false]
      refine wpS_bind (wpS_at C hB' (by omega) (by omega) ?_)
      cases hlarger : lt (it (arrOf st') (lo + x - 1)) (it (arrOf st') (lo + x)) with
      | true =>
        simp only [if_true]
        exact wpS_pure (h x q st' hB' hL hax (by omega) hs' hq he)
      | false =>
        simp only [Bool.false_eq_true, if_false]
        have e1 : le lt (it (arrOf st') (lo + x - 1)) (it (arrOf st') (lo + x)) := hless
        have e2 : le lt (it (arrOf st') (lo + x)) (it (arrOf st') (lo + x - 1)) := hlarger
        refine wpS_pure ⟨q + 1, rfl, hB', hL, hs'.next O (by omega) e2, by omega, fun i j h1 h2 h3 h4 => ?_⟩
        have to : ∀ k, lo + (x + 1) - (q + 1 + 1) ≤ k → k < lo + (x + 1) → le lt (it (arrOf st') k) (it (arrOf st') (lo + x - 1)) ∧ le lt (it (arrOf st') (lo + x - 1)) (it (arrOf st') k) := fun k h1 h2 => by
          by_cases hk : k = lo + x
          · subst hk; exact ⟨e2, e1⟩
          · exact ⟨he k (lo + x - 1) (by omega) (by omega) (by omega) (by omega), he (lo + x - 1) k (by omega) (by omega) (by omega) (by omega)⟩
        exact O.tr (to i h1 h2).1 (to j h3 h4).2
theorem wpS_count {st : SortSt} {lo nrem : Nat} {Q : Option Nat → SortSt → Prop} (O : Ord lt) (C : Asks prog w A s κ lt a₀) (hn : lo + nrem ≤ a₀.size) (h1 : 1 ≤ nrem) (hB : SB κ a₀ st)
    (h : ∀ m st', SB κ a₀ st' → Left lo st st' → 1 ≤ m → m ≤ nrem → Up lt (arrOf st') lo m → Q (some m) st') : wpS (model prog w) A E s (countRun' lo nrem) Q st := by
  rw [countRun'_eq]
  extract_lets -underBinder +onlyGivenNames -merge -useContext up
  refine wpS_bind (wpS_up O C hn (Nat.le_refl 1) h1 hB (fun i j hij hj => by rw [show i = j by omega]; exact O.refl _) fun n hn1 hn2 hsn hor => ?_)
  dsimp only
  by_cases hnn : n = nrem
  · rw [if_pos (by simpa using hnn)]
    exact wpS_pure (h n st hB (Left.refl st) hn1 hn2 hsn)
  · rw [if_neg (by simpa using hnn)]
    have hlt := O.le_of (hor.resolve_left hnn)
    by_cases hgt : n > 1
    · rw [if_pos hgt]
      refine wpS_bind (wpS_at C hB (by omega) (by omega) ?_)
      cases hrose : lt (it (arrOf st) lo) (it (arrOf st) (lo + n - 1)) with
      | true =>
        simp only [if_true]
        exact wpS_pure (h n st hB (Left.refl st) hn1 hn2 hsn)
      | false =>
        simp only [Bool.false_eq_true, if_false]
        have hsz : lo + n ≤ (arrOf st).size := by rw [hB.size]; omega
        have al : ∀ i j, i < n → j < n → le lt (it (arrOf st) (lo + i)) (it (arrOf st) (lo + j)) := fun i j hi hj => by
          have a1 := hsn 0 j (by omega) hj
          have a2 := hsn i (n - 1) (by omega) (by omega)
          rw [show lo + (n - 1) = lo + n - 1 by omega] at a2
          exact O.tr a2 (O.tr hrose a1)
        have dn : Down lt (arrOf st) lo n := fun i j hij hj => al j i hj (by omega)
        have ak : Alike lt (arrOf st) lo (lo + n) := fun i j h1 h2 h3 h4 => by
          have := al (i - lo) (j - lo) (by omega) (by omega)
          rwa [show lo + (i - lo) = i by omega, show lo + (j - lo) = j by omega] at this
        have hB1 := hB.set (mirror_perm (arrOf st) lo (lo + n) ((lo + n - lo) / 2))
        have hL1 := Left.mirror (i := lo) hsz (Nat.le_refl _)
        have e : it (mirror (arrOf st) lo (lo + n) ((lo + n - lo) / 2)) (lo + n) = it (arrOf st) (lo + n) := by rw [it_mirror hsz, if_neg (by omega)]
        have hd1 : Down lt (mirror (arrOf st) lo (lo + n) ((lo + n - lo) / 2)) lo (n + 1) := by
          refine (dn.mirror hsz (Nat.le_refl _) ak).next O (by omega) ?_
          rw [e]
          exact below_mirror hsz (Nat.le_refl _) (fun k h1 h2 => O.tr hlt (ak _ _ (by omega) (by omega) (by omega) (by omega))) _ (by omega) (by omega)
        refine wpS_bind (wpS_rev ?_)
        refine wpS_bind (wpS_lift (wpAny_rule ⟨rfl, ?_⟩))
        refine wpS_bind (wpS_down O C hn (by omega) (by omega) hB1 hd1 fun m q st2 hB2 hL2 hm1 hm2 hd2 hq he => ?_)
        dsimp only
        have hsz2 : lo + m ≤ (arrOf st2).size := by rw [hB2.size]; omega
        by_cases hq0 : q > 0
        · rw [if_pos hq0]
          have hB3 := hB2.set (mirror_perm (arrOf st2) (lo + m - (q + 1)) (lo + m) ((lo + m - (lo + m - (q + 1))) / 2))
          have hL3 := (hL1.trans hL2).trans (Left.mirror (i := lo + m - (q + 1)) hsz2 (by omega))
          have hd3 := hd2.mirror hsz2 (by omega) he
          refine wpS_bind (wpS_rev ?_)
          have hB4 := hB3.set (mirror_perm (arrOf _) lo (lo + m) ((lo + m - lo) / 2))
          refine wpS_bind (wpS_rev (wpS_bind (wpS_up O C hn (by omega) hm2 hB4 (hd3.flip (by rw [hB3.size]; omega)) fun m' hm1' hm2' hs' _ => ?_)))
          exact wpS_pure (h m' _ hB4 (hL3.trans (Left.mirror (by rw [hB3.size]; omega) (Nat.le_refl _))) (by omega) hm2' hs')
        · rw [if_neg hq0]
          have hB3 := hB2
          have hL3 := hL1.trans hL2
          have hd3 := hd2
          have hB4 := hB3.set (mirror_perm (arrOf _) lo (lo + m) ((lo + m - lo) / 2))
          refine wpS_bind (wpS_rev (wpS_bind (wpS_up O C hn (by omega) hm2 hB4 (hd3.flip (by rw [hB3.size]; omega)) fun m' hm1' hm2' hs' _ => ?_)))
          exact wpS_pure (h m' _ hB4 (hL3.trans (Left.mirror (by rw [hB3.size]; omega) (Nat.le_refl _))) (by omega) hm2' hs')
    · rw [if_neg hgt]
      have hn1' : n = 1 := by omega
      subst hn1'
      have hB1 := hB
      have hL1 := Left.refl (lo := lo) st
      have hd1 : Down lt (arrOf st) lo (1 + 1) := Down.next O (n := 1) (fun i j hij hj => by rw [show i = j by omega]; exact O.refl _) (Nat.le_refl _) hlt
      refine wpS_bind (wpS_lift (wpAny_rule ⟨rfl, ?_⟩))
      refine wpS_bind (wpS_down O C hn (by omega) (by omega) hB1 hd1 fun m q st2 hB2 hL2 hm1 hm2 hd2 hq he => ?_)
      dsimp only
      have hsz2 : lo + m ≤ (arrOf st2).size := by rw [hB2.size]; omega
      by_cases hq0 : q > 0
      · rw [if_pos hq0]
        have hB3 := hB2.set (mirror_perm (arrOf st2) (lo + m - (q + 1)) (lo + m) ((lo + m - (lo + m - (q + 1))) / 2))
        have hL3 := (hL1.trans hL2).trans (Left.mirror (i := lo + m - (q + 1)) hsz2 (by omega))
        have hd3 := hd2.mirror hsz2 (by omega) he
        refine wpS_bind (wpS_rev ?_)
        have hB4 := hB3.set (mirror_perm (arrOf _) lo (lo + m) ((lo + m - lo) / 2))
        refine wpS_bind (wpS_rev (wpS_bind (wpS_up O C hn (by omega) hm2 hB4 (hd3.flip (by rw [hB3.size]; omega)) fun m' hm1' hm2' hs' _ => ?_)))
        exact wpS_pure (h m' _ hB4 (hL3.trans (Left.mirror (by rw [hB3.size]; omega) (Nat.le_refl _))) (by omega) hm2' hs')
      · rw [if_neg hq0]
        have hB3 := hB2
        have hL3 := hL1.trans hL2
        have hd3 := hd2
        have hB4 := hB3.set (mirror_perm (arrOf _) lo (lo + m) ((lo + m - lo) / 2))
        refine wpS_bind (wpS_rev (wpS_bind (wpS_up O C hn (by omega) hm2 hB4 (hd3.flip (by rw [hB3.size]; omega)) fun m' hm1' hm2' hs' _ => ?_)))
        exact wpS_pure (h m' _ hB4 (hL3.trans (Left.mirror (by rw [hB3.size]; omega) (Nat.le_refl _))) (by omega) hm2' hs')
end
end Tim

set_option Elab.async false
set_option linter.all false
set_option maxHeartbeats 1000000
namespace Tim
open PySem Srt PyProof.Rows
def gallop' : Bool → Keyed → Array Keyed → Nat → Nat → Nat → StateT SortSt Sem (Option Nat) := sortPriv% PySem.Builtin.gallop
theorem gallop'_eq (left : Bool) (key : Keyed) (arr : Array Keyed) (base n hint : Nat) : gallop' left key arr base n hint = (do
  let far (i : Nat) : StateT SortSt Sem (Option Bool) := do
    let x ← elem' arr (base + i)
    if left then lt' x key else return (← lt' key x).map (!·)
  let mut near := 0
  let mut ofs := 1
  let mut lo := 0
  let mut hi := 0
  let some right ← far hint | return none
  if right then
    let most := n - hint
    for _ in [0:n] do
      if ofs ≥ most then break
      let some more ← far (hint + ofs) | return none
      if !more then break
      near := ofs
      ofs := 2 * ofs + 1
    lo := hint + near + 1
    hi := hint + min ofs most
  else
    let most := hint + 1
    for _ in [0:n] do
      if ofs ≥ most then break
      let some found ← far (hint - ofs) | return none
      if found then break
      near := ofs
      ofs := 2 * ofs + 1
    lo := hint + 1 - min ofs most
    hi := hint - near
  for _ in [0:n] do
    if lo ≥ hi then break
    let m := lo + (hi - lo) / 2
    let some more ← far m | return none
    if more then lo := m + 1 else hi := m
  return some hi) := rfl
section
variable {prog : Program} {w : World} {A : Around} {E : Value → Shared → Prop} {s : Shared} {a₀ : Array Keyed} {κ : SortKind} {lt : Keyed → Keyed → Bool}
/-- whether an item goes ahead of the key -/
def ahead (lt : Keyed → Keyed → Bool) (left : Bool) (key x : Keyed) : Bool := if left then lt x key else !lt key x
theorem wpS_gallop {st : SortSt} {left : Bool} {key : Keyed} {arr : Array Keyed} {base n hint : Nat} {Q : Option Nat → SortSt → Prop} (C : Asks prog w A s κ lt a₀) (hk : kindOf st = κ) (hkey : key ∈ a₀.toList) (hz : base + n ≤ arr.size) (hm : ∀ p ∈ arr.toList, p ∈ a₀.toList) (hh : hint < n)
    (mono : ∀ i j, i ≤ j → j < n → ahead lt left key (it arr (base + j)) = true → ahead lt left key (it arr (base + i)) = true)
    (h : ∀ k, k ≤ n → (∀ i, i < k → ahead lt left key (it arr (base + i)) = true) → (∀ i, k ≤ i → i < n → ahead lt left key (it arr (base + i)) = false) → Q (some k) st) : wpS (model prog w) A E s (gallop' left key arr base n hint) Q st := by
  rw [gallop'_eq]
  extract_lets -underBinder +onlyGivenNames -merge -useContext far
  have hfar : ∀ i, i < n → ∀ Q' : Option Bool → SortSt → Prop, Q' (some (ahead lt left key (it arr (base + i)))) st → wpS (model prog w) A E s (far i) Q' st := fun i hi Q' q => by
    show wpS (model prog w) A E s (elem' arr (base + i) >>= _) Q' st
    refine wpS_bind (wpS_elem (by omega) ?_)
    have hx := hm _ (it_mem (xs := arr) (i := base + i) (by omega))
    unfold ahead at q
    cases left with
    | true => exact wpS_less C hk hx hkey q
    | false => exact wpS_bind (wpS_less C hk hkey hx (wpS_pure q))
  have no : ∀ i j, i ≤ j → j < n → ahead lt left key (it arr (base + i)) = false → ahead lt left key (it arr (base + j)) = false := fun i j h1 h2 h3 => by
    cases h4 : ahead lt left key (it arr (base + j)) with
    | false => rfl
    | true => rw [mono i j h1 h2 h4] at h3; cases h3
  ((try dsimp -zeta -zetaUnused -zetaHave only); extract_lets -underBinder +onlyGivenNames -merge -useContext zz; subst zz; extract_lets -underBinder +onlyGivenNames -merge -useContext zz; subst zz; extract_lets -underBinder +onlyGivenNames -merge -useContext zz; subst zz; extract_lets -underBinder +onlyGivenNames -merge -useContext zz; subst zz; (try dsimp -zeta -zetaUnused -zetaHave only))
  refine wpS_bind (hfar hint hh _ ?_)
  ((try dsimp -zeta -zetaUnused -zetaHave only))
  extract_lets -underBinder +onlyGivenNames -merge -useContext jp
  have hjp : ∀ near ofs lo hi, lo ≤ hi → hi ≤ n → (∀ i, i < lo → ahead lt left key (it arr (base + i)) = true) → (∀ i, hi ≤ i → i < n → ahead lt left key (it arr (base + i)) = false) → wpS (model prog w) A E s (jp () near ofs lo hi) Q st := fun near ofs lo hi h1 h2 h3 h4 => by
    refine wpS_bind (wpS_mono (wpS_forRange (I := fun x c st' => st' = st ∧ ∃ lo hi, c = (none, lo, hi) ∧ lo ≤ hi ∧ hi ≤ n ∧ hi - lo ≤ n - x ∧ (∀ i, i < lo → ahead lt left key (it arr (base + i)) = true) ∧ (∀ i, hi ≤ i → i < n → ahead lt left key (it arr (base + i)) = false))
      (Q := fun c st' => st' = st ∧ ∃ lo hi, c = (none, lo, hi) ∧ lo = hi ∧ hi ≤ n ∧ (∀ i, i < lo → ahead lt left key (it arr (base + i)) = true) ∧ (∀ i, hi ≤ i → i < n → ahead lt left key (it arr (base + i)) = false)) ?step ?fin ⟨rfl, lo, hi, rfl, h1, h2, by omega, h3, h4⟩) ?post)
    case fin =>
      rintro c st' ⟨rfl, lo, hi, rfl, g1, g2, g3, g4, g5⟩
      exact ⟨rfl, lo, hi, rfl, by omega, g2, g4, g5⟩
    case post =>
      rintro c st' ⟨rfl, lo, hi, rfl, rfl, g2, g4, g5⟩
      exact wpS_pure (h lo g2 g4 g5)
    case step =>
      rintro x c st' hax hxn ⟨rfl, lo, hi, rfl, g1, g2, g3, g4, g5⟩
      ((try dsimp -zeta -zetaUnused -zetaHave only); extract_lets -underBinder +onlyGivenNames -merge -useContext zz; subst zz; extract_lets -underBinder +onlyGivenNames -merge -useContext zz; subst zz; extract_lets -underBinder +onlyGivenNames -merge -useContext zz; subst zz; (try dsimp -zeta -zetaUnused -zetaHave only))
      by_cases hge : lo ≥ hi
      · rw [if_pos hge]
        exact wpS_pure ⟨rfl, lo, hi, rfl, by omega, g2, g4, g5⟩
      · rw [if_neg hge]
        ((try dsimp -zeta -zetaUnused -zetaHave only); extract_lets -underBinder +onlyGivenNames -merge -useContext zz; subst zz; (try dsimp -zeta -zetaUnused -zetaHave only))
        refine wpS_bind (hfar _ (by omega) _ ?_)
        cases hm : ahead lt left key (it arr (base + (lo + (hi - lo) / 2))) with
        | true =>
          exact wpS_pure ⟨rfl, lo + (hi - lo) / 2 + 1, hi, rfl, by omega, g2, by omega, fun i hi' => mono i (lo + (hi - lo) / 2) (by omega) (by omega) hm, g5⟩
        | false =>
          exact wpS_pure ⟨rfl, lo, lo + (hi - lo) / 2, rfl, by omega, by omega, by omega, g4, fun i h1 h2 => no (lo + (hi - lo) / 2) i h1 h2 hm⟩
  clear_value jp
  cases hr : ahead lt left key (it arr (base + hint)) with
  | true =>
    rw [if_pos rfl]
    ((try dsimp -zeta -zetaUnused -zetaHave only); extract_lets -underBinder +onlyGivenNames -merge -useContext zz; subst zz; (try dsimp -zeta -zetaUnused -zetaHave only))
    refine wpS_bind (wpS_mono (wpS_forRange (I := fun x c st' => st' = st ∧ ∃ near ofs, c = (none, near, ofs) ∧ x + 1 ≤ ofs ∧ near < ofs ∧ hint + near < n ∧ ahead lt left key (it arr (base + (hint + near))) = true)
      (Q := fun c st' => st' = st ∧ ∃ near ofs, c = (none, near, ofs) ∧ near < ofs ∧ hint + near < n ∧ ahead lt left key (it arr (base + (hint + near))) = true ∧ (n - hint ≤ ofs ∨ ahead lt left key (it arr (base + (hint + ofs))) = false)) ?step ?fin ⟨rfl, 0, 1, rfl, by omega, by omega, by omega, hr⟩) ?post)
    case fin =>
      rintro c st' ⟨rfl, near, ofs, rfl, g1, g2, g3, g4⟩
      exact ⟨rfl, near, ofs, rfl, g2, g3, g4, .inl (by omega)⟩
    case post =>
      rintro c st' ⟨rfl, near, ofs, rfl, g2, g3, g4, g5⟩
      ((try dsimp -zeta -zetaUnused -zetaHave only); extract_lets -underBinder +onlyGivenNames -merge -useContext zz; subst zz; extract_lets -underBinder +onlyGivenNames -merge -useContext zz; subst zz; extract_lets -underBinder +onlyGivenNames -merge -useContext zz; subst zz; extract_lets -underBinder +onlyGivenNames -merge -useContext zz; subst zz; (try dsimp -zeta -zetaUnused -zetaHave only); extract_lets -underBinder +onlyGivenNames -merge -useContext zz; subst zz; extract_lets -underBinder +onlyGivenNames -merge -useContext zz; subst zz; (try dsimp -zeta -zetaUnused -zetaHave only))
      refine hjp _ _ _ _ (by omega) (by omega) (fun i hi => mono i (hint + near) (by omega) (by omega) g4) fun i h1 h2 => ?_
      rcases g5 with g5 | g5
      · omega
      · exact no (hint + ofs) i (by omega) h2 g5
    case step =>
      rintro x c st' hax hxn ⟨rfl, near, ofs, rfl, g1, g2, g3, g4⟩
      ((try dsimp -zeta -zetaUnused -zetaHave only); extract_lets -underBinder +onlyGivenNames -merge -useContext zz; subst zz; extract_lets -underBinder +onlyGivenNames -merge -useContext zz; subst zz; extract_lets -underBinder +onlyGivenNames -merge -useContext zz; subst zz; (try dsimp -zeta -zetaUnused -zetaHave only))
      by_cases hge : ofs ≥ n - hint
      · rw [if_pos hge]
        exact wpS_pure ⟨rfl, near, ofs, rfl, g2, g3, g4, .inl hge⟩
      · rw [if_neg hge]
        refine wpS_bind (hfar _ (by omega) _ ?_)
        cases hm : ahead lt left key (it arr (base + (hint + ofs))) with
        | false => exact wpS_pure ⟨rfl, near, ofs, rfl, g2, g3, g4, .inr hm⟩
        | true => exact wpS_pure ⟨rfl, ofs, 2 * ofs + 1, rfl, by omega, by omega, by omega, hm⟩
  | false =>
    rw [if_neg (by simp)]
    ((try dsimp -zeta -zetaUnused -zetaHave only); extract_lets -underBinder +onlyGivenNames -merge -useContext zz; subst zz; (try dsimp -zeta -zetaUnused -zetaHave only))
    refine wpS_bind (wpS_mono (wpS_forRange (I := fun x c st' => st' = st ∧ ∃ near ofs, c = (none, near, ofs) ∧ x + 1 ≤ ofs ∧ near < ofs ∧ near ≤ hint ∧ ahead lt left key (it arr (base + (hint - near))) = false)
      (Q := fun c st' => st' = st ∧ ∃ near ofs, c = (none, near, ofs) ∧ near < ofs ∧ near ≤ hint ∧ ahead lt left key (it arr (base + (hint - near))) = false ∧ (hint + 1 ≤ ofs ∨ ahead lt left key (it arr (base + (hint - ofs))) = true)) ?step ?fin ⟨rfl, 0, 1, rfl, by omega, by omega, by omega, hr⟩) ?post)
    case fin =>
      rintro c st' ⟨rfl, near, ofs, rfl, g1, g2, g3, g4⟩
      exact ⟨rfl, near, ofs, rfl, g2, g3, g4, .inl (by omega)⟩
    case post =>
      rintro c st' ⟨rfl, near, ofs, rfl, g2, g3, g4, g5⟩
      ((try dsimp -zeta -zetaUnused -zetaHave only); extract_lets -underBinder +onlyGivenNames -merge -useContext zz; subst zz; extract_lets -underBinder +onlyGivenNames -merge -useContext zz; subst zz; extract_lets -underBinder +onlyGivenNames -merge -useContext zz; subst zz; extract_lets -underBinder +onlyGivenNames -merge -useContext zz; subst zz; (try dsimp -zeta -zetaUnused -zetaHave only); extract_lets -underBinder +onlyGivenNames -merge -useContext zz; subst zz; extract_lets -underBinder +onlyGivenNames -merge -useContext zz; subst zz; (try dsimp -zeta -zetaUnused -zetaHave only))
      refine hjp _ _ _ _ (by omega) (by omega) (fun i hi => ?_) fun i h1 h2 => no (hint - near) i h1 h2 g4
      rcases g5 with g5 | g5
      · omega
      · exact mono i (hint - ofs) (by omega) (by omega) g5
    case step =>
      rintro x c st' hax hxn ⟨rfl, near, ofs, rfl, g1, g2, g3, g4⟩
      ((try dsimp -zeta -zetaUnused -zetaHave only); extract_lets -underBinder +onlyGivenNames -merge -useContext zz; subst zz; extract_lets -underBinder +onlyGivenNames -merge -useContext zz; subst zz; extract_lets -underBinder +onlyGivenNames -merge -useContext zz; subst zz; (try dsimp -zeta -zetaUnused -zetaHave only))
      by_cases hge : ofs ≥ hint + 1
      · rw [if_pos hge]
        exact wpS_pure ⟨rfl, near, ofs, rfl, g2, g3, g4, .inl hge⟩
      · rw [if_neg hge]
        refine wpS_bind (hfar _ (by omega) _ ?_)
        cases hm : ahead lt left key (it arr (base + (hint - ofs))) with
        | true => exact wpS_pure ⟨rfl, near, ofs, rfl, g2, g3, g4, .inr hm⟩
        | false => exact wpS_pure ⟨rfl, ofs, 2 * ofs + 1, rfl, by omega, by omega, by omega, hm⟩
end
end Tim

set_option Elab.async false
set_option linter.all false
set_option maxHeartbeats 1000000
namespace Tim
open PySem Srt PyProof.Rows
def setMin' : Nat → StateT SortSt Sem Unit := sortPriv% PySem.Builtin.setMinGallop
abbrev withMin (st : SortSt) (g : Nat) : SortSt := SortSt.mk' (kindOf st) (arrOf st) (pendingOf st) g (failedOf st)
theorem setMin'_eq (g : Nat) : setMin' g = modify fun st => withMin st g := rfl
def mergeLo' : Array Keyed → Array Keyed → StateT SortSt Sem (Array Keyed) := sortPriv% PySem.Builtin.mergeLo
def mergeHi' : Array Keyed → Array Keyed → StateT SortSt Sem (Array Keyed) := sortPriv% PySem.Builtin.mergeHi
theorem mergeLo'_eq (a b : Array Keyed) : mergeLo' a b = (do
  rule "list.sort.merge-lo"
  let all := a.size + b.size
  let fin (o : Array Keyed) (i j : Nat) := o ++ a.extract i a.size ++ b.extract j b.size
  let lastA (o : Array Keyed) (i j : Nat) := o ++ b.extract j b.size ++ a.extract i a.size
  let mut o : Array Keyed := #[← elem' b 0]
  let mut i := 0
  let mut j := 1
  if j == b.size then return fin o i j
  if i + 1 == a.size then return lastA o i j
  let mut mg := gallopOf (← get)
  for _ in [0:all] do
    let mut ca := 0
    let mut cb := 0
    for _ in [0:all] do
      let some bw ← lt' (← elem' b j) (← elem' a i) | return fin o i j
      if bw then
        o := o.push (← elem' b j); j := j + 1; cb := cb + 1; ca := 0
        if j == b.size then return fin o i j
        if cb ≥ mg then break
      else
        o := o.push (← elem' a i); i := i + 1; ca := ca + 1; cb := 0
        if i + 1 == a.size then return lastA o i j
        if ca ≥ mg then break
    rule "list.sort.gallop"
    mg := mg + 1
    for _ in [0:all] do
      if mg > 1 then mg := mg - 1
      setMin' mg
      let some k ← gallop' false (← elem' b j) a i (a.size - i) 0 | return fin o i j
      ca := k
      if k > 0 then
        o := o ++ a.extract i (i + k); i := i + k
        if i + 1 == a.size then return lastA o i j
        if i == a.size then return fin o i j
      o := o.push (← elem' b j); j := j + 1
      if j == b.size then return fin o i j
      let some k ← gallop' true (← elem' a i) b j (b.size - j) 0 | return fin o i j
      cb := k
      if k > 0 then
        o := o ++ b.extract j (j + k); j := j + k
        if j == b.size then return fin o i j
      o := o.push (← elem' a i); i := i + 1
      if i + 1 == a.size then return lastA o i j
      if ca < 7 && cb < 7 then break
    mg := mg + 1
    setMin' mg
  unsupported ("internal:list.sort.merge-bound" : String)) := rfl
theorem mergeHi'_eq (a b : Array Keyed) : mergeHi' a b = (do
  rule "list.sort.merge-hi"
  let all := a.size + b.size
  let fin (o : Array Keyed) (i j : Nat) := a.extract 0 i ++ b.extract 0 j ++ o.reverse
  let firstB (o : Array Keyed) (i j : Nat) := b.extract 0 j ++ a.extract 0 i ++ o.reverse
  let mut i := a.size - 1
  let mut j := b.size
  let mut o : Array Keyed := #[← elem' a i]
  if i == 0 then return fin o i j
  if j == 1 then return firstB o i j
  let mut mg := gallopOf (← get)
  for _ in [0:all] do
    let mut ca := 0
    let mut cb := 0
    for _ in [0:all] do
      let some aw ← lt' (← elem' b (j - 1)) (← elem' a (i - 1)) | return fin o i j
      if aw then
        i := i - 1; o := o.push (← elem' a i); ca := ca + 1; cb := 0
        if i == 0 then return fin o i j
        if ca ≥ mg then break
      else
        j := j - 1; o := o.push (← elem' b j); cb := cb + 1; ca := 0
        if j == 1 then return firstB o i j
        if cb ≥ mg then break
    rule "list.sort.gallop"
    mg := mg + 1
    for _ in [0:all] do
      if mg > 1 then mg := mg - 1
      setMin' mg
      let some k ← gallop' false (← elem' b (j - 1)) a 0 i (i - 1) | return fin o i j
      let d := i - k
      ca := d
      if d > 0 then
        o := o ++ (a.extract k i).reverse; i := k
        if i == 0 then return fin o i j
      j := j - 1; o := o.push (← elem' b j)
      if j == 1 then return firstB o i j
      let some k ← gallop' true (← elem' a (i - 1)) b 0 j (j - 1) | return fin o i j
      let d := j - k
      cb := d
      if d > 0 then
        o := o ++ (b.extract k j).reverse; j := k
        if j == 1 then return firstB o i j
        if j == 0 then return fin o i j
      i := i - 1; o := o.push (← elem' a i)
      if i == 0 then return fin o i j
      if ca < 7 && cb < 7 then break
    mg := mg + 1
    setMin' mg
  unsupported ("internal:list.sort.merge-bound" : String)) := rfl
section
variable {prog : Program} {w : World} {A : Around} {E : Value → Shared → Prop} {s : Shared} {a₀ : Array Keyed} {κ : SortKind} {lt : Keyed → Keyed → Bool}
theorem ext_list (a : Array Keyed) (i j : Nat) : (a.extract i j).toList = (a.toList.drop i).take (j - i) := by
  rw [Array.toList_extract, List.extract_eq_take_drop]
theorem ext_all (a : Array Keyed) (i : Nat) : (a.extract i a.size).toList = a.toList.drop i := by
  rw [ext_list, List.take_of_length_le]
  simp
theorem get_list {a : Array Keyed} {i : Nat} (h : i < a.size) : a.toList[i]? = some (it a i) := by
  rw [Array.getElem?_toList]
  exact it_get h
theorem of_list {a : Array Keyed} {i : Nat} {x : Keyed} (h : a.toList[i]? = some x) : i < a.size ∧ x = it a i := by
  have h1 : i < a.size := by simpa using (List.getElem?_eq_some_iff.mp h).1
  rw [get_list h1] at h
  exact ⟨h1, (Option.some.inj h).symm⟩
theorem drop_it {a : Array Keyed} {i : Nat} {y : Keyed} (h : y ∈ a.toList.drop i) : ∃ k, i ≤ k ∧ k < a.size ∧ y = it a k := by
  obtain ⟨k, hk⟩ := List.getElem?_of_mem h
  rw [List.getElem?_drop] at hk
  obtain ⟨h1, h2⟩ := of_list hk
  exact ⟨i + k, by omega, h1, h2⟩
theorem sd_it (O : Ord lt) {a : Array Keyed} (h : Sd lt a.toList) {i j : Nat} (hij : i ≤ j) (hj : j < a.size) : le lt (it a i) (it a j) := h.at_ O hij (get_list (by omega)) (get_list hj)
theorem lt_of_le_lt (O : Ord lt) {x y z : Keyed} (h1 : le lt x y) (h2 : lt y z = true) : lt x z = true := by
  cases h : lt x z with
  | true => rfl
  | false =>
    have h' : le lt z x := h
    have h3 : lt y z = false := O.tr h' h1
    rw [h2] at h3
    cases h3
theorem head_le (O : Ord lt) {a : Array Keyed} (h : Sd lt a.toList) {i : Nat} {z : Keyed} (hi : i < a.size) (hz : le lt z (it a i)) : ∀ y ∈ a.toList.drop i, le lt z y := fun y hy => by
  obtain ⟨k, h1, h2, rfl⟩ := drop_it hy
  exact O.tr hz (sd_it O h h1 h2)
/-- the same, but for the time to gallop -/
structure Mg (st st' : SortSt) : Prop where
  kind : kindOf st' = kindOf st
  arr : arrOf st' = arrOf st
  pend : pendingOf st' = pendingOf st
  failed : failedOf st' = failedOf st
theorem Mg.refl (st : SortSt) : Mg st st := ⟨rfl, rfl, rfl, rfl⟩
theorem Mg.min {st st' : SortSt} (h : Mg st st') (g : Nat) : Mg st (withMin st' g) := ⟨h.kind, h.arr, h.pend, h.failed⟩
theorem wpS_min {st : SortSt} {g : Nat} {Q : Unit → SortSt → Prop} (h : Q () (withMin st g)) : wpS (model prog w) A E s (setMin' g) Q st := by
  rw [setMin'_eq]
  exact wpS_modify h
/-- what a merge gives -/
def Merged (lt : Keyed → Keyed → Bool) (a b r : Array Keyed) : Prop := Sd lt r.toList ∧ r.toList.Perm (a.toList ++ b.toList)
/-- half way: two items at least are left of a, one of b -/
structure Mid (lt : Keyed → Keyed → Bool) (a b o : Array Keyed) (i j : Nat) : Prop where
  mi : MI lt a.toList b.toList o.toList i j
  li : i + 1 < a.size
  lj : j < b.size
theorem Mid.pushB (O : Ord lt) {a b o : Array Keyed} {i j : Nat} (h : MI lt a.toList b.toList o.toList i j) (sb : Sd lt b.toList) (hj : j < b.size) (ha : ∀ y ∈ a.toList.drop i, le lt (it b j) y) : MI lt a.toList b.toList (o.push (it b j)).toList i (j + 1) := by
  rw [Array.toList_push]
  exact h.b O sb (get_list hj) ha
theorem Mid.pushA (O : Ord lt) {a b o : Array Keyed} {i j : Nat} (h : MI lt a.toList b.toList o.toList i j) (sa : Sd lt a.toList) (hi : i < a.size) (hb : ∀ y ∈ b.toList.drop j, le lt (it a i) y) : MI lt a.toList b.toList (o.push (it a i)).toList (i + 1) j := by
  rw [Array.toList_push]
  exact h.a O sa (get_list hi) hb
theorem Mid.bulkA (O : Ord lt) {a b o : Array Keyed} {i j k : Nat} (h : MI lt a.toList b.toList o.toList i j) (sa : Sd lt a.toList) (hk : i + k ≤ a.size) (hb : ∀ t, t < k → ∀ y ∈ b.toList.drop j, le lt (it a (i + t)) y) : MI lt a.toList b.toList (o ++ a.extract i (i + k)).toList (i + k) j := by
  rw [Array.toList_append, ext_list, show i + k - i = k by omega]
  refine MI.as O sa k h (by simpa using hk) fun t x ht e y hy => ?_
  rw [(of_list e).2]
  exact hb t ht y hy
theorem Mid.bulkB (O : Ord lt) {a b o : Array Keyed} {i j k : Nat} (h : MI lt a.toList b.toList o.toList i j) (sb : Sd lt b.toList) (hk : j + k ≤ b.size) (ha : ∀ t, t < k → ∀ y ∈ a.toList.drop i, le lt (it b (j + t)) y) : MI lt a.toList b.toList (o ++ b.extract j (j + k)).toList i (j + k) := by
  rw [Array.toList_append, ext_list, show j + k - j = k by omega]
  refine MI.bs O sb k h (by simpa using hk) fun t x ht e y hy => ?_
  rw [(of_list e).2]
  exact ha t ht y hy
theorem Merged.fin {a b o : Array Keyed} {i j : Nat} (h : MI lt a.toList b.toList o.toList i j) (sa : Sd lt a.toList) (sb : Sd lt b.toList) (e : j = b.size ∨ i = a.size) : Merged lt a b (o ++ a.extract i a.size ++ b.extract j b.size) := by
  unfold Merged
  rw [Array.toList_append, Array.toList_append, ext_all, ext_all]
  rcases e with e | e
  · exact h.endA sa (by simpa using e)
  · exact h.endB sb (by simpa using e)
theorem Merged.last {a b o : Array Keyed} {i j : Nat} (h : MI lt a.toList b.toList o.toList i j) (sa : Sd lt a.toList) (sb : Sd lt b.toList) (e : i + 1 = a.size) (hl : ∀ x ∈ b.toList, le lt x (it a (a.size - 1))) : Merged lt a b (o ++ b.extract j b.size ++ a.extract i a.size) := by
  unfold Merged
  rw [Array.toList_append, Array.toList_append, ext_all, ext_all]
  refine h.endL sa sb fun x hx y hy => ?_
  obtain ⟨k, h1, h2, rfl⟩ := drop_it hy
  rw [show k = a.size - 1 by omega]
  exact hl x hx
theorem wpS_mergeLo {st : SortSt} {a b : Array Keyed} {Q : Array Keyed → SortSt → Prop} (O : Ord lt) (C : Asks prog w A s κ lt a₀) (hk : kindOf st = κ) (ma : ∀ p ∈ a.toList, p ∈ a₀.toList) (mb : ∀ p ∈ b.toList, p ∈ a₀.toList) (sa : Sd lt a.toList) (sb : Sd lt b.toList) (ha : 1 ≤ a.size) (hb : 1 ≤ b.size)
    (h0 : le lt (it b 0) (it a 0)) (hl : ∀ x ∈ b.toList, le lt x (it a (a.size - 1))) (h : ∀ r st', Mg st st' → Merged lt a b r → Q r st') : wpS (model prog w) A E s (mergeLo' a b) Q st := by
  rw [mergeLo'_eq]
  refine wpS_bind (wpS_lift (wpAny_rule ⟨rfl, ?_⟩))
  ((try dsimp -zeta -zetaUnused -zetaHave only); extract_lets -underBinder +onlyGivenNames -merge -useContext zz; subst zz; (try dsimp -zeta -zetaUnused -zetaHave only))
  extract_lets -underBinder +onlyGivenNames -merge -useContext fin
  have hfin : ∀ {o : Array Keyed} {i j : Nat}, MI lt a.toList b.toList o.toList i j → (j = b.size ∨ i = a.size) → Merged lt a b (fin o i j) := fun m e => Merged.fin m sa sb e
  clear_value fin
  extract_lets -underBinder +onlyGivenNames -merge -useContext lastA
  have hlast : ∀ {o : Array Keyed} {i j : Nat}, MI lt a.toList b.toList o.toList i j → i + 1 = a.size → Merged lt a b (lastA o i j) := fun m e => Merged.last m sa sb e hl
  clear_value lastA
  have hin : ∀ {i : Nat}, i < b.size → it b i ∈ a₀.toList := fun h => mb _ (it_mem h)
  have hia : ∀ {i : Nat}, i < a.size → it a i ∈ a₀.toList := fun h => ma _ (it_mem h)
  refine wpS_bind (wpS_elem (by omega) ?_)
  ((try dsimp -zeta -zetaUnused -zetaHave only); extract_lets -underBinder +onlyGivenNames -merge -useContext zz; subst zz; extract_lets -underBinder +onlyGivenNames -merge -useContext zz; subst zz; extract_lets -underBinder +onlyGivenNames -merge -useContext zz; subst zz; (try dsimp -zeta -zetaUnused -zetaHave only))
  have m0 : MI lt a.toList b.toList (#[it b 0] : Array Keyed).toList 0 1 := by
    have := Mid.pushB O (o := #[]) (MI.nil (lt := lt) (A := a.toList) (B := b.toList)) sb (j := 0) (by omega) (head_le O sa (by omega) h0)
    simpa using this
  by_cases c1 : 1 = b.size
  · rw [if_pos (by simpa using c1)]
    exact wpS_pure (h _ st (Mg.refl st) (hfin m0 (.inl c1)))
  rw [if_neg (by simpa using c1)]
  by_cases c2 : 0 + 1 = a.size
  · rw [if_pos (by simpa using c2)]
    exact wpS_pure (h _ st (Mg.refl st) (hlast m0 c2))
  rw [if_neg (by simpa using c2)]
  refine wpS_bind (wpS_get ?_)
  ((try dsimp -zeta -zetaUnused -zetaHave only); extract_lets -underBinder +onlyGivenNames -merge -useContext zz; subst zz; (try dsimp -zeta -zetaUnused -zetaHave only))
  refine wpS_bind (wpS_mono (wpS_forRange (I := fun x c st' => Mg st st' ∧ ∃ o i j mg, c = (none, o, i, j, mg) ∧ Mid lt a b o i j ∧ x ≤ i + j)
    (Q := fun c st' => Mg st st' ∧ ∃ r d, c = (some r, d) ∧ Merged lt a b r) ?step ?fin ⟨Mg.refl st, _, _, _, _, rfl, ⟨m0, by omega, by omega⟩, by omega⟩) ?post)
  case fin =>
    rintro c st' ⟨_, o, i, j, mg, rfl, m, hx⟩
    have := m.li
    have := m.lj
    omega
  case post =>
    rintro c st' ⟨g, r, d, rfl, hr⟩
    ((try dsimp -zeta -zetaUnused -zetaHave only); extract_lets -underBinder +onlyGivenNames -merge -useContext zz; subst zz; (try dsimp -zeta -zetaUnused -zetaHave only))
    exact wpS_pure (h r st' g hr)
  rintro x c st1 _ hx ⟨g1, o1, i1, j1, mg1, rfl, m1, hxi⟩
  ((try dsimp -zeta -zetaUnused -zetaHave only); extract_lets -underBinder +onlyGivenNames -merge -useContext zz; subst zz; extract_lets -underBinder +onlyGivenNames -merge -useContext zz; subst zz; extract_lets -underBinder +onlyGivenNames -merge -useContext zz; subst zz; extract_lets -underBinder +onlyGivenNames -merge -useContext zz; subst zz; extract_lets -underBinder +onlyGivenNames -merge -useContext zz; subst zz; extract_lets -underBinder +onlyGivenNames -merge -useContext zz; subst zz; extract_lets -underBinder +onlyGivenNames -merge -useContext zz; subst zz; extract_lets -underBinder +onlyGivenNames -merge -useContext zz; subst zz; extract_lets -underBinder +onlyGivenNames -merge -useContext zz; subst zz; (try dsimp -zeta -zetaUnused -zetaHave only))
  -- one by one
  refine wpS_bind (wpS_mono (wpS_forRange (I := fun y c st' => Mg st st' ∧ ∃ o i j ca cb, c = (none, o, i, j, ca, cb) ∧ Mid lt a b o i j ∧ x + min y 1 ≤ i + j)
    (Q := fun c st' => Mg st st' ∧ ((∃ r d, c = (some r, d) ∧ Merged lt a b r) ∨ ∃ o i j ca cb, c = (none, o, i, j, ca, cb) ∧ Mid lt a b o i j ∧ x + 1 ≤ i + j)) ?step1 ?fin1 ⟨g1, o1, i1, j1, 0, 0, rfl, m1, by omega⟩) ?post1)
  case fin1 =>
    rintro c st' ⟨g, o, i, j, ca, cb, rfl, m, hy⟩
    exact ⟨g, .inr ⟨o, i, j, ca, cb, rfl, m, by omega⟩⟩
  case step1 =>
    rintro y c st' _ hy ⟨g, o, i, j, ca, cb, rfl, m, hyi⟩
    have hli := m.li
    have hlj := m.lj
    ((try dsimp -zeta -zetaUnused -zetaHave only); extract_lets -underBinder +onlyGivenNames -merge -useContext zz; subst zz; extract_lets -underBinder +onlyGivenNames -merge -useContext zz; subst zz; extract_lets -underBinder +onlyGivenNames -merge -useContext zz; subst zz; extract_lets -underBinder +onlyGivenNames -merge -useContext zz; subst zz; extract_lets -underBinder +onlyGivenNames -merge -useContext zz; subst zz; extract_lets -underBinder +onlyGivenNames -merge -useContext zz; subst zz; extract_lets -underBinder +onlyGivenNames -merge -useContext zz; subst zz; extract_lets -underBinder +onlyGivenNames -merge -useContext zz; subst zz; extract_lets -underBinder +onlyGivenNames -merge -useContext zz; subst zz; (try dsimp -zeta -zetaUnused -zetaHave only))
    refine wpS_bind (wpS_elem hlj (wpS_bind (wpS_elem (by omega) (wpS_bind (wpS_less C (g.kind.trans hk) (hin hlj) (hia (by omega)) ?_)))))
    ((try dsimp -zeta -zetaUnused -zetaHave only))
    cases hw : lt (it b j) (it a i) with
    | true =>
      rw [if_pos rfl]
      refine wpS_bind (wpS_elem hlj ?_)
      ((try dsimp -zeta -zetaUnused -zetaHave only); extract_lets -underBinder +onlyGivenNames -merge -useContext zz; subst zz; extract_lets -underBinder +onlyGivenNames -merge -useContext zz; subst zz; extract_lets -underBinder +onlyGivenNames -merge -useContext zz; subst zz; extract_lets -underBinder +onlyGivenNames -merge -useContext zz; subst zz; (try dsimp -zeta -zetaUnused -zetaHave only))
      have m' := Mid.pushB O m.mi sb hlj (head_le O sa (by omega) (O.le_of hw))
      by_cases c3 : j + 1 = b.size
      · rw [if_pos (by simpa using c3)]
        exact wpS_pure ⟨g, .inl ⟨_, _, rfl, hfin m' (.inl c3)⟩⟩
      rw [if_neg (by simpa using c3)]
      have m2 : Mid lt a b (o.push (it b j)) i (j + 1) := ⟨m', hli, by omega⟩
      split
      · exact wpS_pure ⟨g, .inr ⟨_, _, _, _, _, rfl, m2, by omega⟩⟩
      · exact wpS_pure ⟨g, _, _, _, _, _, rfl, m2, by omega⟩
    | false =>
      rw [if_neg (by simp)]
      refine wpS_bind (wpS_elem (by omega) ?_)
      ((try dsimp -zeta -zetaUnused -zetaHave only); extract_lets -underBinder +onlyGivenNames -merge -useContext zz; subst zz; extract_lets -underBinder +onlyGivenNames -merge -useContext zz; subst zz; extract_lets -underBinder +onlyGivenNames -merge -useContext zz; subst zz; extract_lets -underBinder +onlyGivenNames -merge -useContext zz; subst zz; (try dsimp -zeta -zetaUnused -zetaHave only))
      have m' := Mid.pushA O m.mi sa (by omega) (head_le O sb hlj hw)
      by_cases c3 : i + 1 + 1 = a.size
      · rw [if_pos (by simpa using c3)]
        exact wpS_pure ⟨g, .inl ⟨_, _, rfl, hlast m' c3⟩⟩
      rw [if_neg (by simpa using c3)]
      have m2 : Mid lt a b (o.push (it a i)) (i + 1) j := ⟨m', by omega, hlj⟩
      split
      · exact wpS_pure ⟨g, .inr ⟨_, _, _, _, _, rfl, m2, by omega⟩⟩
      · exact wpS_pure ⟨g, _, _, _, _, _, rfl, m2, by omega⟩
  rintro c st2 ⟨g2, ⟨r, d, rfl, hr⟩ | ⟨o2, i2, j2, ca2, cb2, rfl, m2, hx2⟩⟩
  · ((try dsimp -zeta -zetaUnused -zetaHave only); extract_lets -underBinder +onlyGivenNames -merge -useContext zz; subst zz; extract_lets -underBinder +onlyGivenNames -merge -useContext zz; subst zz; extract_lets -underBinder +onlyGivenNames -merge -useContext zz; subst zz; extract_lets -underBinder +onlyGivenNames -merge -useContext zz; subst zz; extract_lets -underBinder +onlyGivenNames -merge -useContext zz; subst zz; extract_lets -underBinder +onlyGivenNames -merge -useContext zz; subst zz; extract_lets -underBinder +onlyGivenNames -merge -useContext zz; subst zz; extract_lets -underBinder +onlyGivenNames -merge -useContext zz; subst zz; extract_lets -underBinder +onlyGivenNames -merge -useContext zz; subst zz; extract_lets -underBinder +onlyGivenNames -merge -useContext zz; subst zz; (try dsimp -zeta -zetaUnused -zetaHave only))
    exact wpS_pure ⟨g2, r, _, rfl, hr⟩
  ((try dsimp -zeta -zetaUnused -zetaHave only); extract_lets -underBinder +onlyGivenNames -merge -useContext zz; subst zz; extract_lets -underBinder +onlyGivenNames -merge -useContext zz; subst zz; extract_lets -underBinder +onlyGivenNames -merge -useContext zz; subst zz; extract_lets -underBinder +onlyGivenNames -merge -useContext zz; subst zz; extract_lets -underBinder +onlyGivenNames -merge -useContext zz; subst zz; extract_lets -underBinder +onlyGivenNames -merge -useContext zz; subst zz; extract_lets -underBinder +onlyGivenNames -merge -useContext zz; subst zz; extract_lets -underBinder +onlyGivenNames -merge -useContext zz; subst zz; extract_lets -underBinder +onlyGivenNames -merge -useContext zz; subst zz; extract_lets -underBinder +onlyGivenNames -merge -useContext zz; subst zz; (try dsimp -zeta -zetaUnused -zetaHave only))
  refine wpS_bind (wpS_lift (wpAny_rule ⟨rfl, ?_⟩))
  ((try dsimp -zeta -zetaUnused -zetaHave only); extract_lets -underBinder +onlyGivenNames -merge -useContext zz; subst zz; (try dsimp -zeta -zetaUnused -zetaHave only))
  -- galloping
  refine wpS_bind (wpS_mono (wpS_forRange (I := fun y c st' => Mg st st' ∧ ∃ o i j mg ca cb, c = (none, o, i, j, mg, ca, cb) ∧ Mid lt a b o i j ∧ x + 1 ≤ i + j)
    (Q := fun c st' => Mg st st' ∧ ((∃ r d, c = (some r, d) ∧ Merged lt a b r) ∨ ∃ o i j mg ca cb, c = (none, o, i, j, mg, ca, cb) ∧ Mid lt a b o i j ∧ x + 1 ≤ i + j)) ?step2 ?fin2 ⟨g2, o2, i2, j2, _, _, _, rfl, m2, hx2⟩) ?post2)
  case fin2 =>
    rintro c st' ⟨g, z⟩
    exact ⟨g, .inr z⟩
  case post2 =>
    rintro c st3 ⟨g3, ⟨r, d, rfl, hr⟩ | ⟨o3, i3, j3, mg3, ca3, cb3, rfl, m3, hx3⟩⟩
    · ((try dsimp -zeta -zetaUnused -zetaHave only); extract_lets -underBinder +onlyGivenNames -merge -useContext zz; subst zz; extract_lets -underBinder +onlyGivenNames -merge -useContext zz; subst zz; extract_lets -underBinder +onlyGivenNames -merge -useContext zz; subst zz; extract_lets -underBinder +onlyGivenNames -merge -useContext zz; subst zz; extract_lets -underBinder +onlyGivenNames -merge -useContext zz; subst zz; extract_lets -underBinder +onlyGivenNames -merge -useContext zz; subst zz; extract_lets -underBinder +onlyGivenNames -merge -useContext zz; subst zz; extract_lets -underBinder +onlyGivenNames -merge -useContext zz; subst zz; extract_lets -underBinder +onlyGivenNames -merge -useContext zz; subst zz; (try dsimp -zeta -zetaUnused -zetaHave only))
      exact wpS_pure ⟨g3, r, _, rfl, hr⟩
    ((try dsimp -zeta -zetaUnused -zetaHave only); extract_lets -underBinder +onlyGivenNames -merge -useContext zz; subst zz; extract_lets -underBinder +onlyGivenNames -merge -useContext zz; subst zz; extract_lets -underBinder +onlyGivenNames -merge -useContext zz; subst zz; extract_lets -underBinder +onlyGivenNames -merge -useContext zz; subst zz; extract_lets -underBinder +onlyGivenNames -merge -useContext zz; subst zz; extract_lets -underBinder +onlyGivenNames -merge -useContext zz; subst zz; extract_lets -underBinder +onlyGivenNames -merge -useContext zz; subst zz; extract_lets -underBinder +onlyGivenNames -merge -useContext zz; subst zz; extract_lets -underBinder +onlyGivenNames -merge -useContext zz; subst zz; (try dsimp -zeta -zetaUnused -zetaHave only); extract_lets -underBinder +onlyGivenNames -merge -useContext zz; subst zz; (try dsimp -zeta -zetaUnused -zetaHave only))
    refine wpS_bind (wpS_min (wpS_pure ?_))
    exact ⟨g3.min _, _, _, _, _, rfl, m3, hx3⟩
  rintro y c st3 _ hy ⟨g3, o, i, j, mg, ca, cb, rfl, m, hx3⟩
  have hli := m.li
  have hlj := m.lj
  ((try dsimp -zeta -zetaUnused -zetaHave only); extract_lets -underBinder +onlyGivenNames -merge -useContext zz; subst zz; extract_lets -underBinder +onlyGivenNames -merge -useContext zz; subst zz; extract_lets -underBinder +onlyGivenNames -merge -useContext zz; subst zz; extract_lets -underBinder +onlyGivenNames -merge -useContext zz; subst zz; extract_lets -underBinder +onlyGivenNames -merge -useContext zz; subst zz; extract_lets -underBinder +onlyGivenNames -merge -useContext zz; subst zz; extract_lets -underBinder +onlyGivenNames -merge -useContext zz; subst zz; extract_lets -underBinder +onlyGivenNames -merge -useContext zz; subst zz; extract_lets -underBinder +onlyGivenNames -merge -useContext zz; subst zz; extract_lets -underBinder +onlyGivenNames -merge -useContext zz; subst zz; extract_lets -underBinder +onlyGivenNames -merge -useContext zz; subst zz; (try dsimp -zeta -zetaUnused -zetaHave only))
  extract_lets -underBinder +onlyGivenNames -merge -useContext jp
  have hjp : ∀ mg, wpS (model prog w) A E s (jp () mg) (fun r st' => match r with
      | .done c' => Mg st st' ∧ ((∃ r d, c' = (some r, d) ∧ Merged lt a b r) ∨ ∃ o i j mg ca cb, c' = (none, o, i, j, mg, ca, cb) ∧ Mid lt a b o i j ∧ x + 1 ≤ i + j)
      | .yield c' => Mg st st' ∧ ∃ o i j mg ca cb, c' = (none, o, i, j, mg, ca, cb) ∧ Mid lt a b o i j ∧ x + 1 ≤ i + j) st3 := fun mg => by
    refine wpS_bind (wpS_min (wpS_bind (wpS_elem hlj ?_)))
    have g4 := g3.min mg
    refine wpS_bind (wpS_gallop C (g4.kind.trans hk) (hin hlj) (by omega) ma (by omega) (fun t u h1 h2 h3 => ?_) fun k k1 k2 k3 => ?_)
    · unfold ahead at h3 ⊢
      rw [if_neg (by simp)] at h3 ⊢
      have h4 : lt (it b j) (it a (i + u)) = false := by simpa using h3
      have h5 : lt (it b j) (it a (i + t)) = false := O.tr (sd_it O sa (by omega) (by omega)) h4
      simp [h5]
    have k2' : ∀ t, t < k → le lt (it a (i + t)) (it b j) := fun t ht => by
      have := k2 t ht
      unfold ahead at this
      rw [if_neg (by simp)] at this
      show lt (it b j) (it a (i + t)) = false
      simpa using this
    have k3' : ∀ t, k ≤ t → t < a.size - i → lt (it b j) (it a (i + t)) = true := fun t h1 h2 => by
      have := k3 t h1 h2
      unfold ahead at this
      rw [if_neg (by simp)] at this
      simpa using this
    ((try dsimp -zeta -zetaUnused -zetaHave only); extract_lets -underBinder +onlyGivenNames -merge -useContext zz; subst zz; (try dsimp -zeta -zetaUnused -zetaHave only))
    extract_lets -underBinder +onlyGivenNames -merge -useContext jq
    have hjq : ∀ o i, Mid lt a b o i j → (∀ y ∈ a.toList.drop i, le lt (it b j) y) → x + 1 ≤ i + j → wpS (model prog w) A E s (jq () o i) (fun r st' => match r with
      | .done c' => Mg st st' ∧ ((∃ r d, c' = (some r, d) ∧ Merged lt a b r) ∨ ∃ o i j mg ca cb, c' = (none, o, i, j, mg, ca, cb) ∧ Mid lt a b o i j ∧ x + 1 ≤ i + j)
      | .yield c' => Mg st st' ∧ ∃ o i j mg ca cb, c' = (none, o, i, j, mg, ca, cb) ∧ Mid lt a b o i j ∧ x + 1 ≤ i + j) (withMin st3 mg) := fun o i m hy hx => by
      have hli := m.li
      refine wpS_bind (wpS_elem hlj ?_)
      ((try dsimp -zeta -zetaUnused -zetaHave only); extract_lets -underBinder +onlyGivenNames -merge -useContext zz; subst zz; extract_lets -underBinder +onlyGivenNames -merge -useContext zz; subst zz; (try dsimp -zeta -zetaUnused -zetaHave only))
      have m' := Mid.pushB O m.mi sb hlj hy
      by_cases c3 : j + 1 = b.size
      · rw [if_pos (by simpa using c3)]
        exact wpS_pure ⟨g4, .inl ⟨_, _, rfl, hfin m' (.inl c3)⟩⟩
      rw [if_neg (by simpa using c3)]
      refine wpS_bind (wpS_elem (by omega) ?_)
      refine wpS_bind (wpS_gallop C (g4.kind.trans hk) (hia (by omega)) (by omega) mb (by omega) (fun t u h1 h2 h3 => ?_) fun k n1 n2 n3 => ?_)
      · unfold ahead at h3 ⊢
        rw [if_pos rfl] at h3 ⊢
        exact lt_of_le_lt O (sd_it O sb (by omega) (by omega)) h3
      have n2' : ∀ t, t < k → le lt (it b (j + 1 + t)) (it a i) := fun t ht => by
        have := n2 t ht
        unfold ahead at this
        rw [if_pos rfl] at this
        exact O.le_of this
      have n3' : ∀ t, k ≤ t → t < b.size - (j + 1) → le lt (it a i) (it b (j + 1 + t)) := fun t h1 h2 => by
        have := n3 t h1 h2
        unfold ahead at this
        rw [if_pos rfl] at this
        exact this
      ((try dsimp -zeta -zetaUnused -zetaHave only); extract_lets -underBinder +onlyGivenNames -merge -useContext zz; subst zz; (try dsimp -zeta -zetaUnused -zetaHave only))
      extract_lets -underBinder +onlyGivenNames -merge -useContext jr
      have hjr : ∀ o j, MI lt a.toList b.toList o.toList i j → j < b.size → le lt (it a i) (it b j) → x + 1 ≤ i + j → wpS (model prog w) A E s (jr () o j) (fun r st' => match r with
        | .done c' => Mg st st' ∧ ((∃ r d, c' = (some r, d) ∧ Merged lt a b r) ∨ ∃ o i j mg ca cb, c' = (none, o, i, j, mg, ca, cb) ∧ Mid lt a b o i j ∧ x + 1 ≤ i + j)
        | .yield c' => Mg st st' ∧ ∃ o i j mg ca cb, c' = (none, o, i, j, mg, ca, cb) ∧ Mid lt a b o i j ∧ x + 1 ≤ i + j) (withMin st3 mg) := fun o j m hj hle hx => by
        refine wpS_bind (wpS_elem (by omega) ?_)
        ((try dsimp -zeta -zetaUnused -zetaHave only); extract_lets -underBinder +onlyGivenNames -merge -useContext zz; subst zz; extract_lets -underBinder +onlyGivenNames -merge -useContext zz; subst zz; (try dsimp -zeta -zetaUnused -zetaHave only))
        have m' := Mid.pushA O m sa (by omega) (head_le O sb hj hle)
        by_cases c4 : i + 1 + 1 = a.size
        · rw [if_pos (by simpa using c4)]
          exact wpS_pure ⟨g4, .inl ⟨_, _, rfl, hlast m' c4⟩⟩
        rw [if_neg (by simpa using c4)]
        have m2 : Mid lt a b (o.push (it a i)) (i + 1) j := ⟨m', by omega, hj⟩
        split
        · exact wpS_pure ⟨g4, .inr ⟨_, _, _, _, _, _, rfl, m2, by omega⟩⟩
        · exact wpS_pure ⟨g4, _, _, _, _, _, _, rfl, m2, by omega⟩
      clear_value jr
      by_cases hk0 : k > 0
      · rw [if_pos hk0]
        ((try dsimp -zeta -zetaUnused -zetaHave only); extract_lets -underBinder +onlyGivenNames -merge -useContext zz; subst zz; extract_lets -underBinder +onlyGivenNames -merge -useContext zz; subst zz; (try dsimp -zeta -zetaUnused -zetaHave only))
        have m5 := Mid.bulkB O m' sb (k := k) (by omega) fun t ht => head_le O sa (by omega) (n2' t ht)
        by_cases c5 : j + 1 + k = b.size
        · rw [if_pos (by simpa using c5)]
          exact wpS_pure ⟨g4, .inl ⟨_, _, rfl, hfin m5 (.inl c5)⟩⟩
        rw [if_neg (by simpa using c5)]
        exact hjr _ _ m5 (by omega) (n3' k (Nat.le_refl _) (by omega)) (by omega)
      · rw [if_neg hk0]
        have : k = 0 := by omega
        subst this
        exact hjr _ _ m' (by omega) (n3' 0 (Nat.le_refl _) (by omega)) (by omega)
    clear_value jq
    by_cases hk0 : k > 0
    · rw [if_pos hk0]
      ((try dsimp -zeta -zetaUnused -zetaHave only); extract_lets -underBinder +onlyGivenNames -merge -useContext zz; subst zz; extract_lets -underBinder +onlyGivenNames -merge -useContext zz; subst zz; (try dsimp -zeta -zetaUnused -zetaHave only))
      have m5 := Mid.bulkA O m.mi sa (k := k) (by omega) fun t ht => head_le O sb hlj (k2' t ht)
      by_cases c5 : i + k + 1 = a.size
      · rw [if_pos (by simpa using c5)]
        exact wpS_pure ⟨g4, .inl ⟨_, _, rfl, hlast m5 c5⟩⟩
      rw [if_neg (by simpa using c5)]
      by_cases c6 : i + k = a.size
      · rw [if_pos (by simpa using c6)]
        exact wpS_pure ⟨g4, .inl ⟨_, _, rfl, hfin m5 (.inr c6)⟩⟩
      rw [if_neg (by simpa using c6)]
      exact hjq _ _ ⟨m5, by omega, hlj⟩ (head_le O sa (by omega) (O.le_of (k3' k (Nat.le_refl _) (by omega)))) (by omega)
    · rw [if_neg hk0]
      have : k = 0 := by omega
      subst this
      exact hjq _ _ m (head_le O sa (by omega) (O.le_of (k3' 0 (Nat.le_refl _) (by omega)))) hx3
  clear_value jp
  split
  · ((try dsimp -zeta -zetaUnused -zetaHave only); extract_lets -underBinder +onlyGivenNames -merge -useContext zz; subst zz; (try dsimp -zeta -zetaUnused -zetaHave only))
    exact wpS_mono (hjp _) fun r st' hh => by cases r <;> exact hh
  · exact wpS_mono (hjp _) fun r st' hh => by cases r <;> exact hh
end
end Tim

set_option Elab.async false
set_option linter.all false
set_option maxHeartbeats 1000000
namespace Tim
open PySem Srt PyProof.Rows
section
variable {prog : Program} {w : World} {A : Around} {E : Value → Shared → Prop} {s : Shared} {a₀ : Array Keyed} {κ : SortKind} {lt : Keyed → Keyed → Bool}
/-- half way, from behind -/
def Rv (lt : Keyed → Keyed → Bool) (a b o : Array Keyed) (i j : Nat) : Prop := MI (fun x y => lt y x) a.toList.reverse b.toList.reverse o.toList (a.size - i) (b.size - j)
theorem Rv.symm {a b o : Array Keyed} {i j : Nat} (h : Rv lt a b o i j) : Rv lt b a o j i := MI.symm h
theorem rev_left {b : Array Keyed} {j : Nat} (hj : j ≤ b.size) : b.toList.reverse.drop (b.size - j) = (b.toList.take j).reverse := by
  have := rev_take b.toList j (by simpa using hj)
  simpa using this
theorem Rv.pushA (O : Ord lt) {a b o : Array Keyed} {i j : Nat} (h : Rv lt a b o i j) (sa : Sd lt a.toList) (h1 : 1 ≤ i) (hi : i ≤ a.size) (hj : j ≤ b.size) (hb : ∀ y ∈ b.toList.take j, le lt y (it a (i - 1))) : Rv lt a b (o.push (it a (i - 1))) (i - 1) j := by
  unfold Rv
  rw [Array.toList_push, show a.size - (i - 1) = a.size - i + 1 by omega]
  refine MI.a O.swap h sa.rev ?_ fun y hy => ?_
  · have e := rev_get (A := a.toList) (n := i - 1) (by simp; omega)
    rw [Array.length_toList, show a.size - (i - 1 + 1) = a.size - i by omega] at e
    rw [e]
    exact get_list (by omega)
  · rw [rev_left hj, List.mem_reverse] at hy
    exact hb y hy
theorem Rv.pushB (O : Ord lt) {a b o : Array Keyed} {i j : Nat} (h : Rv lt a b o i j) (sb : Sd lt b.toList) (h1 : 1 ≤ j) (hj : j ≤ b.size) (hi : i ≤ a.size) (ha : ∀ y ∈ a.toList.take i, le lt y (it b (j - 1))) : Rv lt a b (o.push (it b (j - 1))) i (j - 1) :=
  (h.symm.pushA O sb h1 hj hi ha).symm
theorem Rv.bulkA (O : Ord lt) {a b o : Array Keyed} {i j k : Nat} (h : Rv lt a b o i j) (sa : Sd lt a.toList) (hk : k ≤ i) (hi : i ≤ a.size) (hj : j ≤ b.size) (hb : ∀ t, k ≤ t → t < i → ∀ y ∈ b.toList.take j, le lt y (it a t)) : Rv lt a b (o ++ (a.extract k i).reverse) k j := by
  unfold Rv
  have e : (o ++ (a.extract k i).reverse).toList = o.toList ++ (a.toList.reverse.drop (a.size - i)).take (i - k) := by
    rw [Array.toList_append, Array.toList_reverse, ext_list, rev_left hi, List.take_reverse, List.drop_take]
    congr 2
    have hl : (List.take i a.toList).length = i := by simp; omega
    rw [hl, show i - (i - k) = k by omega]
  rw [e, show a.size - k = a.size - i + (i - k) by omega]
  refine MI.as O.swap sa.rev (i - k) h (by simp; omega) fun t x ht ex y hy => ?_
  rw [rev_left hj, List.mem_reverse] at hy
  have e2 := rev_get (A := a.toList) (n := i - 1 - t) (by simp; omega)
  rw [Array.length_toList, show a.size - (i - 1 - t + 1) = a.size - i + t by omega] at e2
  rw [e2] at ex
  rw [(of_list ex).2]
  exact hb (i - 1 - t) (by omega) (by omega) y hy
theorem Rv.bulkB (O : Ord lt) {a b o : Array Keyed} {i j k : Nat} (h : Rv lt a b o i j) (sb : Sd lt b.toList) (hk : k ≤ j) (hj : j ≤ b.size) (hi : i ≤ a.size) (ha : ∀ t, k ≤ t → t < j → ∀ y ∈ a.toList.take i, le lt y (it b t)) : Rv lt a b (o ++ (b.extract k j).reverse) i k :=
  (h.symm.bulkA O sb hk hj hi ha).symm
theorem ext_front (a : Array Keyed) (i : Nat) : (a.extract 0 i).toList = a.toList.take i := by rw [ext_list]; simp
theorem Rv.fin {a b o : Array Keyed} {i j : Nat} (h : Rv lt a b o i j) (sa : Sd lt a.toList) (sb : Sd lt b.toList) (hi : i ≤ a.size) (hj : j ≤ b.size) (e : i = 0 ∨ j = 0) : Merged lt a b (a.extract 0 i ++ b.extract 0 j ++ o.reverse) := by
  have key : Sd (fun x y => lt y x) (o.toList ++ a.toList.reverse.drop (a.size - i) ++ b.toList.reverse.drop (b.size - j)) ∧ (o.toList ++ a.toList.reverse.drop (a.size - i) ++ b.toList.reverse.drop (b.size - j)).Perm (a.toList.reverse ++ b.toList.reverse) := by
    rcases e with rfl | rfl
    · exact MI.endB h sb.rev (by simp)
    · exact MI.endA h sa.rev (by simp)
  rw [rev_left hi, rev_left hj] at key
  have el : (a.extract 0 i ++ b.extract 0 j ++ o.reverse).toList = (o.toList ++ (a.toList.take i).reverse ++ (b.toList.take j).reverse).reverse := by
    rw [Array.toList_append, Array.toList_append, Array.toList_reverse, ext_front, ext_front]
    rcases e with rfl | rfl <;> simp
  unfold Merged
  rw [el]
  refine ⟨Sd.unrev key.1, (List.reverse_perm _).trans (key.2.trans ?_)⟩
  exact (List.reverse_perm _).append (List.reverse_perm _)
theorem Rv.first (O : Ord lt) {a b o : Array Keyed} {i j : Nat} (h : Rv lt a b o i j) (sa : Sd lt a.toList) (sb : Sd lt b.toList) (hi : i ≤ a.size) (hj : j ≤ b.size) (e : j = 1) (h0 : ∀ x ∈ a.toList, le lt (it b 0) x) : Merged lt a b (b.extract 0 j ++ a.extract 0 i ++ o.reverse) := by
  have key := MI.endL (MI.symm h) sb.rev sa.rev fun x hx y hy => by
    rw [rev_left hj, List.mem_reverse] at hy
    rw [List.mem_reverse] at hx
    obtain ⟨t, ht⟩ := List.getElem?_of_mem hy
    have ht0 : t = 0 := by
      have := (List.getElem?_eq_some_iff.mp ht).1
      rw [List.length_take] at this
      omega
    subst ht0
    rw [List.getElem?_take_of_lt (by omega)] at ht
    rw [(of_list ht).2]
    exact h0 x hx
  rw [rev_left hi, rev_left hj] at key
  have el : (b.extract 0 j ++ a.extract 0 i ++ o.reverse).toList = (o.toList ++ (a.toList.take i).reverse ++ (b.toList.take j).reverse).reverse := by
    rw [Array.toList_append, Array.toList_append, Array.toList_reverse, ext_front, ext_front]
    simp
  unfold Merged
  rw [el]
  refine ⟨Sd.unrev key.1, (List.reverse_perm _).trans (key.2.trans ?_)⟩
  exact ((List.reverse_perm _).append (List.reverse_perm _)).trans List.perm_append_comm
theorem last_le (O : Ord lt) {a : Array Keyed} (h : Sd lt a.toList) {i : Nat} {z : Keyed} (h1 : 1 ≤ i) (hi : i ≤ a.size) (hz : le lt (it a (i - 1)) z) : ∀ y ∈ a.toList.take i, le lt y z := fun y hy => by
  obtain ⟨t, ht⟩ := List.getElem?_of_mem hy
  have hl : t < i := by
    have := (List.getElem?_eq_some_iff.mp ht).1
    rw [List.length_take] at this
    omega
  rw [List.getElem?_take_of_lt hl] at ht
  rw [(of_list ht).2]
  exact O.tr (sd_it O h (by omega) (by omega)) hz
structure MidH (lt : Keyed → Keyed → Bool) (a b o : Array Keyed) (i j : Nat) : Prop where
  mi : Rv lt a b o i j
  li : 1 ≤ i
  ui : i ≤ a.size
  lj : 2 ≤ j
  uj : j ≤ b.size
theorem wpS_mergeHi {st : SortSt} {a b : Array Keyed} {Q : Array Keyed → SortSt → Prop} (O : Ord lt) (C : Asks prog w A s κ lt a₀) (hk : kindOf st = κ) (ma : ∀ p ∈ a.toList, p ∈ a₀.toList) (mb : ∀ p ∈ b.toList, p ∈ a₀.toList) (sa : Sd lt a.toList) (sb : Sd lt b.toList) (ha : 1 ≤ a.size) (hb : 1 ≤ b.size)
    (h0 : le lt (it b 0) (it a 0)) (hl : ∀ x ∈ b.toList, le lt x (it a (a.size - 1))) (h : ∀ r st', Mg st st' → Merged lt a b r → Q r st') : wpS (model prog w) A E s (mergeHi' a b) Q st := by
  have h0' : ∀ x ∈ a.toList, le lt (it b 0) x := fun x hx => head_le O sa (i := 0) (by omega) h0 x (by simpa using hx)
  rw [mergeHi'_eq]
  refine wpS_bind (wpS_lift (wpAny_rule ⟨rfl, ?_⟩))
  ((try dsimp -zeta -zetaUnused -zetaHave only); extract_lets -underBinder +onlyGivenNames -merge -useContext zz; subst zz; (try dsimp -zeta -zetaUnused -zetaHave only))
  extract_lets -underBinder +onlyGivenNames -merge -useContext fin
  have hfin : ∀ {o : Array Keyed} {i j : Nat}, Rv lt a b o i j → i ≤ a.size → j ≤ b.size → (i = 0 ∨ j = 0) → Merged lt a b (fin o i j) := fun m h1 h2 e => Rv.fin m sa sb h1 h2 e
  clear_value fin
  extract_lets -underBinder +onlyGivenNames -merge -useContext firstB
  have hfirst : ∀ {o : Array Keyed} {i j : Nat}, Rv lt a b o i j → i ≤ a.size → j ≤ b.size → j = 1 → Merged lt a b (firstB o i j) := fun m h1 h2 e => Rv.first O m sa sb h1 h2 e h0'
  clear_value firstB
  have hin : ∀ {i : Nat}, i < b.size → it b i ∈ a₀.toList := fun h => mb _ (it_mem h)
  have hia : ∀ {i : Nat}, i < a.size → it a i ∈ a₀.toList := fun h => ma _ (it_mem h)
  ((try dsimp -zeta -zetaUnused -zetaHave only); extract_lets -underBinder +onlyGivenNames -merge -useContext zz; subst zz; extract_lets -underBinder +onlyGivenNames -merge -useContext zz; subst zz; (try dsimp -zeta -zetaUnused -zetaHave only))
  refine wpS_bind (wpS_elem (by omega) ?_)
  ((try dsimp -zeta -zetaUnused -zetaHave only); extract_lets -underBinder +onlyGivenNames -merge -useContext zz; subst zz; (try dsimp -zeta -zetaUnused -zetaHave only))
  have m0 : Rv lt a b #[it a (a.size - 1)] (a.size - 1) b.size := by
    have z : Rv lt a b #[] a.size b.size := by
      unfold Rv
      rw [Nat.sub_self, Nat.sub_self]
      exact MI.nil
    have := z.pushA O sa ha (Nat.le_refl _) (Nat.le_refl _) fun y hy => hl y (List.mem_of_mem_take hy)
    simpa using this
  by_cases c1 : a.size - 1 = 0
  · rw [if_pos (by simpa using c1)]
    exact wpS_pure (h _ st (Mg.refl st) (hfin m0 (by omega) (Nat.le_refl _) (.inl c1)))
  rw [if_neg (by simpa using c1)]
  by_cases c2 : b.size = 1
  · rw [if_pos (by simpa using c2)]
    exact wpS_pure (h _ st (Mg.refl st) (hfirst m0 (by omega) (Nat.le_refl _) c2))
  rw [if_neg (by simpa using c2)]
  refine wpS_bind (wpS_get ?_)
  ((try dsimp -zeta -zetaUnused -zetaHave only); extract_lets -underBinder +onlyGivenNames -merge -useContext zz; subst zz; (try dsimp -zeta -zetaUnused -zetaHave only))
  refine wpS_bind (wpS_mono (wpS_forRange (I := fun x c st' => Mg st st' ∧ ∃ o i j mg, c = (none, i, j, o, mg) ∧ MidH lt a b o i j ∧ x + i + j ≤ a.size + b.size)
    (Q := fun c st' => Mg st st' ∧ ∃ r d, c = (some r, d) ∧ Merged lt a b r) ?step ?fin ⟨Mg.refl st, #[it a (a.size - 1)], a.size - 1, b.size, _, rfl, ⟨m0, by omega, by omega, by omega, Nat.le_refl _⟩, (show 0 + (a.size - 1) + b.size ≤ a.size + b.size by omega)⟩) ?post)
  case fin =>
    rintro c st' ⟨_, o, i, j, mg, rfl, m, hx⟩
    have := m.li
    have := m.lj
    omega
  case post =>
    rintro c st' ⟨g, r, d, rfl, hr⟩
    ((try dsimp -zeta -zetaUnused -zetaHave only); extract_lets -underBinder +onlyGivenNames -merge -useContext zz; subst zz; (try dsimp -zeta -zetaUnused -zetaHave only))
    exact wpS_pure (h r st' g hr)
  rintro x c st1 _ hx ⟨g1, o1, i1, j1, mg1, rfl, m1, hxi⟩
  ((try dsimp -zeta -zetaUnused -zetaHave only); extract_lets -underBinder +onlyGivenNames -merge -useContext zz; subst zz; extract_lets -underBinder +onlyGivenNames -merge -useContext zz; subst zz; extract_lets -underBinder +onlyGivenNames -merge -useContext zz; subst zz; extract_lets -underBinder +onlyGivenNames -merge -useContext zz; subst zz; extract_lets -underBinder +onlyGivenNames -merge -useContext zz; subst zz; extract_lets -underBinder +onlyGivenNames -merge -useContext zz; subst zz; extract_lets -underBinder +onlyGivenNames -merge -useContext zz; subst zz; extract_lets -underBinder +onlyGivenNames -merge -useContext zz; subst zz; extract_lets -underBinder +onlyGivenNames -merge -useContext zz; subst zz; (try dsimp -zeta -zetaUnused -zetaHave only))
  -- one by one
  refine wpS_bind (wpS_mono (wpS_forRange (I := fun y c st' => Mg st st' ∧ ∃ o i j ca cb, c = (none, i, j, o, ca, cb) ∧ MidH lt a b o i j ∧ x + min y 1 + i + j ≤ a.size + b.size)
    (Q := fun c st' => Mg st st' ∧ ((∃ r d, c = (some r, d) ∧ Merged lt a b r) ∨ ∃ o i j ca cb, c = (none, i, j, o, ca, cb) ∧ MidH lt a b o i j ∧ x + 1 + i + j ≤ a.size + b.size)) ?step1 ?fin1 ⟨g1, o1, i1, j1, 0, 0, rfl, m1, by omega⟩) ?post1)
  case fin1 =>
    rintro c st' ⟨g, o, i, j, ca, cb, rfl, m, hy⟩
    exact ⟨g, .inr ⟨o, i, j, ca, cb, rfl, m, by omega⟩⟩
  case step1 =>
    rintro y c st' _ hy ⟨g, o, i, j, ca, cb, rfl, m, hyi⟩
    obtain ⟨mi, hli, hui, hlj, huj⟩ := m
    ((try dsimp -zeta -zetaUnused -zetaHave only); extract_lets -underBinder +onlyGivenNames -merge -useContext zz; subst zz; extract_lets -underBinder +onlyGivenNames -merge -useContext zz; subst zz; extract_lets -underBinder +onlyGivenNames -merge -useContext zz; subst zz; extract_lets -underBinder +onlyGivenNames -merge -useContext zz; subst zz; extract_lets -underBinder +onlyGivenNames -merge -useContext zz; subst zz; extract_lets -underBinder +onlyGivenNames -merge -useContext zz; subst zz; extract_lets -underBinder +onlyGivenNames -merge -useContext zz; subst zz; extract_lets -underBinder +onlyGivenNames -merge -useContext zz; subst zz; extract_lets -underBinder +onlyGivenNames -merge -useContext zz; subst zz; (try dsimp -zeta -zetaUnused -zetaHave only))
    refine wpS_bind (wpS_elem (by omega) (wpS_bind (wpS_elem (by omega) (wpS_bind (wpS_less C (g.kind.trans hk) (hin (by omega)) (hia (by omega)) ?_)))))
    ((try dsimp -zeta -zetaUnused -zetaHave only))
    cases hw : lt (it b (j - 1)) (it a (i - 1)) with
    | true =>
      rw [if_pos rfl]
      ((try dsimp -zeta -zetaUnused -zetaHave only); extract_lets -underBinder +onlyGivenNames -merge -useContext zz; subst zz; (try dsimp -zeta -zetaUnused -zetaHave only))
      refine wpS_bind (wpS_elem (by omega) ?_)
      ((try dsimp -zeta -zetaUnused -zetaHave only); extract_lets -underBinder +onlyGivenNames -merge -useContext zz; subst zz; extract_lets -underBinder +onlyGivenNames -merge -useContext zz; subst zz; extract_lets -underBinder +onlyGivenNames -merge -useContext zz; subst zz; (try dsimp -zeta -zetaUnused -zetaHave only))
      have m' := mi.pushA O sa hli hui huj (last_le O sb (by omega) huj (O.le_of hw))
      by_cases c3 : i - 1 = 0
      · rw [if_pos (by simpa using c3)]
        exact wpS_pure ⟨g, .inl ⟨_, _, rfl, hfin m' (by omega) huj (.inl c3)⟩⟩
      rw [if_neg (by simpa using c3)]
      have m2 : MidH lt a b (o.push (it a (i - 1))) (i - 1) j := ⟨m', by omega, by omega, hlj, huj⟩
      split
      · exact wpS_pure ⟨g, .inr ⟨_, _, _, _, _, rfl, m2, by omega⟩⟩
      · exact wpS_pure ⟨g, _, _, _, _, _, rfl, m2, by omega⟩
    | false =>
      rw [if_neg (by simp)]
      ((try dsimp -zeta -zetaUnused -zetaHave only); extract_lets -underBinder +onlyGivenNames -merge -useContext zz; subst zz; (try dsimp -zeta -zetaUnused -zetaHave only))
      refine wpS_bind (wpS_elem (by omega) ?_)
      ((try dsimp -zeta -zetaUnused -zetaHave only); extract_lets -underBinder +onlyGivenNames -merge -useContext zz; subst zz; extract_lets -underBinder +onlyGivenNames -merge -useContext zz; subst zz; extract_lets -underBinder +onlyGivenNames -merge -useContext zz; subst zz; (try dsimp -zeta -zetaUnused -zetaHave only))
      have m' := mi.pushB O sb (by omega) huj hui (last_le O sa hli hui hw)
      by_cases c3 : j - 1 = 1
      · rw [if_pos (by simpa using c3)]
        exact wpS_pure ⟨g, .inl ⟨_, _, rfl, hfirst m' hui (by omega) c3⟩⟩
      rw [if_neg (by simpa using c3)]
      have m2 : MidH lt a b (o.push (it b (j - 1))) i (j - 1) := ⟨m', hli, hui, by omega, by omega⟩
      split
      · exact wpS_pure ⟨g, .inr ⟨_, _, _, _, _, rfl, m2, by omega⟩⟩
      · exact wpS_pure ⟨g, _, _, _, _, _, rfl, m2, by omega⟩
  rintro c st2 ⟨g2, ⟨r, d, rfl, hr⟩ | ⟨o2, i2, j2, ca2, cb2, rfl, m2, hx2⟩⟩
  · ((try dsimp -zeta -zetaUnused -zetaHave only); extract_lets -underBinder +onlyGivenNames -merge -useContext zz; subst zz; extract_lets -underBinder +onlyGivenNames -merge -useContext zz; subst zz; extract_lets -underBinder +onlyGivenNames -merge -useContext zz; subst zz; extract_lets -underBinder +onlyGivenNames -merge -useContext zz; subst zz; extract_lets -underBinder +onlyGivenNames -merge -useContext zz; subst zz; extract_lets -underBinder +onlyGivenNames -merge -useContext zz; subst zz; extract_lets -underBinder +onlyGivenNames -merge -useContext zz; subst zz; extract_lets -underBinder +onlyGivenNames -merge -useContext zz; subst zz; extract_lets -underBinder +onlyGivenNames -merge -useContext zz; subst zz; extract_lets -underBinder +onlyGivenNames -merge -useContext zz; subst zz; (try dsimp -zeta -zetaUnused -zetaHave only))
    exact wpS_pure ⟨g2, r, _, rfl, hr⟩
  ((try dsimp -zeta -zetaUnused -zetaHave only); extract_lets -underBinder +onlyGivenNames -merge -useContext zz; subst zz; extract_lets -underBinder +onlyGivenNames -merge -useContext zz; subst zz; extract_lets -underBinder +onlyGivenNames -merge -useContext zz; subst zz; extract_lets -underBinder +onlyGivenNames -merge -useContext zz; subst zz; extract_lets -underBinder +onlyGivenNames -merge -useContext zz; subst zz; extract_lets -underBinder +onlyGivenNames -merge -useContext zz; subst zz; extract_lets -underBinder +onlyGivenNames -merge -useContext zz; subst zz; extract_lets -underBinder +onlyGivenNames -merge -useContext zz; subst zz; extract_lets -underBinder +onlyGivenNames -merge -useContext zz; subst zz; extract_lets -underBinder +onlyGivenNames -merge -useContext zz; subst zz; (try dsimp -zeta -zetaUnused -zetaHave only))
  refine wpS_bind (wpS_lift (wpAny_rule ⟨rfl, ?_⟩))
  ((try dsimp -zeta -zetaUnused -zetaHave only); extract_lets -underBinder +onlyGivenNames -merge -useContext zz; subst zz; (try dsimp -zeta -zetaUnused -zetaHave only))
  -- galloping
  refine wpS_bind (wpS_mono (wpS_forRange (I := fun y c st' => Mg st st' ∧ ∃ o i j mg ca cb, c = (none, i, j, o, mg, ca, cb) ∧ MidH lt a b o i j ∧ x + 1 + i + j ≤ a.size + b.size)
    (Q := fun c st' => Mg st st' ∧ ((∃ r d, c = (some r, d) ∧ Merged lt a b r) ∨ ∃ o i j mg ca cb, c = (none, i, j, o, mg, ca, cb) ∧ MidH lt a b o i j ∧ x + 1 + i + j ≤ a.size + b.size)) ?step2 ?fin2 ⟨g2, o2, i2, j2, _, _, _, rfl, m2, hx2⟩) ?post2)
  case fin2 =>
    rintro c st' ⟨g, z⟩
    exact ⟨g, .inr z⟩
  case post2 =>
    rintro c st3 ⟨g3, ⟨r, d, rfl, hr⟩ | ⟨o3, i3, j3, mg3, ca3, cb3, rfl, m3, hx3⟩⟩
    · ((try dsimp -zeta -zetaUnused -zetaHave only); extract_lets -underBinder +onlyGivenNames -merge -useContext zz; subst zz; extract_lets -underBinder +onlyGivenNames -merge -useContext zz; subst zz; extract_lets -underBinder +onlyGivenNames -merge -useContext zz; subst zz; extract_lets -underBinder +onlyGivenNames -merge -useContext zz; subst zz; extract_lets -underBinder +onlyGivenNames -merge -useContext zz; subst zz; extract_lets -underBinder +onlyGivenNames -merge -useContext zz; subst zz; extract_lets -underBinder +onlyGivenNames -merge -useContext zz; subst zz; extract_lets -underBinder +onlyGivenNames -merge -useContext zz; subst zz; extract_lets -underBinder +onlyGivenNames -merge -useContext zz; subst zz; (try dsimp -zeta -zetaUnused -zetaHave only))
      exact wpS_pure ⟨g3, r, _, rfl, hr⟩
    ((try dsimp -zeta -zetaUnused -zetaHave only); extract_lets -underBinder +onlyGivenNames -merge -useContext zz; subst zz; extract_lets -underBinder +onlyGivenNames -merge -useContext zz; subst zz; extract_lets -underBinder +onlyGivenNames -merge -useContext zz; subst zz; extract_lets -underBinder +onlyGivenNames -merge -useContext zz; subst zz; extract_lets -underBinder +onlyGivenNames -merge -useContext zz; subst zz; extract_lets -underBinder +onlyGivenNames -merge -useContext zz; subst zz; extract_lets -underBinder +onlyGivenNames -merge -useContext zz; subst zz; extract_lets -underBinder +onlyGivenNames -merge -useContext zz; subst zz; extract_lets -underBinder +onlyGivenNames -merge -useContext zz; subst zz; (try dsimp -zeta -zetaUnused -zetaHave only); extract_lets -underBinder +onlyGivenNames -merge -useContext zz; subst zz; (try dsimp -zeta -zetaUnused -zetaHave only))
    refine wpS_bind (wpS_min (wpS_pure ?_))
    exact ⟨g3.min _, _, _, _, _, rfl, m3, by omega⟩
  rintro y c st3 _ hy ⟨g3, o, i, j, mg, ca, cb, rfl, m, hx3⟩
  obtain ⟨mi, hli, hui, hlj, huj⟩ := m
  ((try dsimp -zeta -zetaUnused -zetaHave only); extract_lets -underBinder +onlyGivenNames -merge -useContext zz; subst zz; extract_lets -underBinder +onlyGivenNames -merge -useContext zz; subst zz; extract_lets -underBinder +onlyGivenNames -merge -useContext zz; subst zz; extract_lets -underBinder +onlyGivenNames -merge -useContext zz; subst zz; extract_lets -underBinder +onlyGivenNames -merge -useContext zz; subst zz; extract_lets -underBinder +onlyGivenNames -merge -useContext zz; subst zz; extract_lets -underBinder +onlyGivenNames -merge -useContext zz; subst zz; extract_lets -underBinder +onlyGivenNames -merge -useContext zz; subst zz; extract_lets -underBinder +onlyGivenNames -merge -useContext zz; subst zz; extract_lets -underBinder +onlyGivenNames -merge -useContext zz; subst zz; extract_lets -underBinder +onlyGivenNames -merge -useContext zz; subst zz; (try dsimp -zeta -zetaUnused -zetaHave only))
  extract_lets -underBinder +onlyGivenNames -merge -useContext jp
  have hjp : ∀ mg, wpS (model prog w) A E s (jp () mg) (fun r st' => match r with
      | .done c' => Mg st st' ∧ ((∃ r d, c' = (some r, d) ∧ Merged lt a b r) ∨ ∃ o i j mg ca cb, c' = (none, i, j, o, mg, ca, cb) ∧ MidH lt a b o i j ∧ x + 1 + i + j ≤ a.size + b.size)
      | .yield c' => Mg st st' ∧ ∃ o i j mg ca cb, c' = (none, i, j, o, mg, ca, cb) ∧ MidH lt a b o i j ∧ x + 1 + i + j ≤ a.size + b.size) st3 := fun mg => by
    refine wpS_bind (wpS_min (wpS_bind (wpS_elem (by omega) ?_)))
    have g4 := g3.min mg
    refine wpS_bind (wpS_gallop C (g4.kind.trans hk) (hin (by omega)) (by omega) ma (by omega) (fun t u h1 h2 h3 => ?_) fun k k1 k2 k3 => ?_)
    · unfold ahead at h3 ⊢
      rw [if_neg (by simp)] at h3 ⊢
      rw [Nat.zero_add] at h3 ⊢
      have h4 : lt (it b (j - 1)) (it a u) = false := by simpa using h3
      have h5 : lt (it b (j - 1)) (it a t) = false := O.tr (sd_it O sa (by omega) (by omega)) h4
      rw [h5]
      rfl
    have k2' : ∀ t, t < k → le lt (it a t) (it b (j - 1)) := fun t ht => by
      have := k2 t ht
      unfold ahead at this
      rw [if_neg (by simp), Nat.zero_add] at this
      show lt (it b (j - 1)) (it a t) = false
      simpa using this
    have k3' : ∀ t, k ≤ t → t < i → lt (it b (j - 1)) (it a t) = true := fun t h1 h2 => by
      have := k3 t h1 h2
      unfold ahead at this
      rw [if_neg (by simp), Nat.zero_add] at this
      simpa using this
    ((try dsimp -zeta -zetaUnused -zetaHave only); extract_lets -underBinder +onlyGivenNames -merge -useContext zz; subst zz; extract_lets -underBinder +onlyGivenNames -merge -useContext zz; subst zz; (try dsimp -zeta -zetaUnused -zetaHave only))
    extract_lets -underBinder +onlyGivenNames -merge -useContext jq
    have hjq : ∀ o i, Rv lt a b o i j → 1 ≤ i → i ≤ a.size → (∀ y ∈ a.toList.take i, le lt y (it b (j - 1))) → x + 1 + i + j ≤ a.size + b.size → wpS (model prog w) A E s (jq () i o) (fun r st' => match r with
      | .done c' => Mg st st' ∧ ((∃ r d, c' = (some r, d) ∧ Merged lt a b r) ∨ ∃ o i j mg ca cb, c' = (none, i, j, o, mg, ca, cb) ∧ MidH lt a b o i j ∧ x + 1 + i + j ≤ a.size + b.size)
      | .yield c' => Mg st st' ∧ ∃ o i j mg ca cb, c' = (none, i, j, o, mg, ca, cb) ∧ MidH lt a b o i j ∧ x + 1 + i + j ≤ a.size + b.size) (withMin st3 mg) := fun o i m hli hui hy hx => by
      ((try dsimp -zeta -zetaUnused -zetaHave only))
      refine wpS_bind (wpS_elem (by omega) ?_)
      ((try dsimp -zeta -zetaUnused -zetaHave only); extract_lets -underBinder +onlyGivenNames -merge -useContext zz; subst zz; (try dsimp -zeta -zetaUnused -zetaHave only))
      have m' := m.pushB O sb (by omega) huj hui hy
      by_cases c3 : j - 1 = 1
      · rw [if_pos (by simpa using c3)]
        exact wpS_pure ⟨g4, .inl ⟨_, _, rfl, hfirst m' hui (by omega) c3⟩⟩
      rw [if_neg (by simpa using c3)]
      refine wpS_bind (wpS_elem (by omega) ?_)
      refine wpS_bind (wpS_gallop C (g4.kind.trans hk) (hia (by omega)) (by omega) mb (by omega) (fun t u h1 h2 h3 => ?_) fun k n1 n2 n3 => ?_)
      · unfold ahead at h3 ⊢
        rw [if_pos rfl] at h3 ⊢
        exact lt_of_le_lt O (sd_it O sb (by omega) (by omega)) h3
      have n2' : ∀ t, t < k → le lt (it b t) (it a (i - 1)) := fun t ht => by
        have := n2 t ht
        unfold ahead at this
        rw [if_pos rfl, Nat.zero_add] at this
        exact O.le_of this
      have n3' : ∀ t, k ≤ t → t < j - 1 → le lt (it a (i - 1)) (it b t) := fun t h1 h2 => by
        have := n3 t h1 h2
        unfold ahead at this
        rw [if_pos rfl, Nat.zero_add] at this
        exact this
      ((try dsimp -zeta -zetaUnused -zetaHave only); extract_lets -underBinder +onlyGivenNames -merge -useContext zz; subst zz; extract_lets -underBinder +onlyGivenNames -merge -useContext zz; subst zz; (try dsimp -zeta -zetaUnused -zetaHave only))
      extract_lets -underBinder +onlyGivenNames -merge -useContext jr
      have hjr : ∀ o j, Rv lt a b o i j → 2 ≤ j → j ≤ b.size → (∀ y ∈ b.toList.take j, le lt y (it a (i - 1))) → x + 1 + i + j ≤ a.size + b.size → wpS (model prog w) A E s (jr () j o) (fun r st' => match r with
        | .done c' => Mg st st' ∧ ((∃ r d, c' = (some r, d) ∧ Merged lt a b r) ∨ ∃ o i j mg ca cb, c' = (none, i, j, o, mg, ca, cb) ∧ MidH lt a b o i j ∧ x + 1 + i + j ≤ a.size + b.size)
        | .yield c' => Mg st st' ∧ ∃ o i j mg ca cb, c' = (none, i, j, o, mg, ca, cb) ∧ MidH lt a b o i j ∧ x + 1 + i + j ≤ a.size + b.size) (withMin st3 mg) := fun o j m hlj huj hle hx => by
        ((try dsimp -zeta -zetaUnused -zetaHave only))
        refine wpS_bind (wpS_elem (by omega) ?_)
        ((try dsimp -zeta -zetaUnused -zetaHave only); extract_lets -underBinder +onlyGivenNames -merge -useContext zz; subst zz; (try dsimp -zeta -zetaUnused -zetaHave only))
        have m' := m.pushA O sa hli hui huj hle
        by_cases c4 : i - 1 = 0
        · rw [if_pos (by simpa using c4)]
          exact wpS_pure ⟨g4, .inl ⟨_, _, rfl, hfin m' (by omega) huj (.inl c4)⟩⟩
        rw [if_neg (by simpa using c4)]
        have m2 : MidH lt a b (o.push (it a (i - 1))) (i - 1) j := ⟨m', by omega, by omega, hlj, huj⟩
        split
        · exact wpS_pure ⟨g4, .inr ⟨_, _, _, _, _, _, rfl, m2, by omega⟩⟩
        · exact wpS_pure ⟨g4, _, _, _, _, _, _, rfl, m2, by omega⟩
      clear_value jr
      have tk : ∀ k', k' ≤ j - 1 → (∀ t, t < k' → le lt (it b t) (it a (i - 1))) → ∀ y ∈ b.toList.take k', le lt y (it a (i - 1)) := fun k' hk' hh y hy => by
        obtain ⟨t, ht⟩ := List.getElem?_of_mem hy
        have hl : t < k' := by
          have := (List.getElem?_eq_some_iff.mp ht).1
          rw [List.length_take] at this
          omega
        rw [List.getElem?_take_of_lt hl] at ht
        rw [(of_list ht).2]
        exact hh t hl
      by_cases hk0 : j - 1 - k > 0
      · rw [if_pos hk0]
        ((try dsimp -zeta -zetaUnused -zetaHave only); extract_lets -underBinder +onlyGivenNames -merge -useContext zz; subst zz; extract_lets -underBinder +onlyGivenNames -merge -useContext zz; subst zz; (try dsimp -zeta -zetaUnused -zetaHave only))
        have m5 := m'.bulkB O sb (k := k) (by omega) (by omega) hui fun t h1 h2 => last_le O sa hli hui (n3' t h1 h2)
        by_cases c5 : k = 1
        · rw [if_pos (by simpa using c5)]
          exact wpS_pure ⟨g4, .inl ⟨_, _, rfl, hfirst m5 hui (by omega) c5⟩⟩
        rw [if_neg (by simpa using c5)]
        by_cases c6 : k = 0
        · rw [if_pos (by simpa using c6)]
          exact wpS_pure ⟨g4, .inl ⟨_, _, rfl, hfin m5 hui (by omega) (.inr c6)⟩⟩
        rw [if_neg (by simpa using c6)]
        exact hjr _ _ m5 (by omega) (by omega) (tk k (by omega) n2') (by omega)
      · rw [if_neg hk0]
        have : k = j - 1 := by omega
        subst this
        exact hjr _ _ m' (by omega) (by omega) (tk (j - 1) (Nat.le_refl _) n2') (by omega)
    clear_value jq
    have tk : ∀ k', k' ≤ i → (∀ t, t < k' → le lt (it a t) (it b (j - 1))) → ∀ y ∈ a.toList.take k', le lt y (it b (j - 1)) := fun k' hk' hh y hy => by
      obtain ⟨t, ht⟩ := List.getElem?_of_mem hy
      have hl : t < k' := by
        have := (List.getElem?_eq_some_iff.mp ht).1
        rw [List.length_take] at this
        omega
      rw [List.getElem?_take_of_lt hl] at ht
      rw [(of_list ht).2]
      exact hh t hl
    by_cases hk0 : i - k > 0
    · rw [if_pos hk0]
      ((try dsimp -zeta -zetaUnused -zetaHave only); extract_lets -underBinder +onlyGivenNames -merge -useContext zz; subst zz; extract_lets -underBinder +onlyGivenNames -merge -useContext zz; subst zz; (try dsimp -zeta -zetaUnused -zetaHave only))
      have m5 := mi.bulkA O sa (k := k) (by omega) hui huj fun t h1 h2 => last_le O sb (by omega) huj (O.le_of (k3' t h1 h2))
      by_cases c5 : k = 0
      · rw [if_pos (by simpa using c5)]
        exact wpS_pure ⟨g4, .inl ⟨_, _, rfl, hfin m5 (by omega) huj (.inl c5)⟩⟩
      rw [if_neg (by simpa using c5)]
      exact hjq _ _ m5 (by omega) (by omega) (tk k (by omega) k2') (by omega)
    · rw [if_neg hk0]
      have : k = i := by omega
      subst this
      exact hjq _ _ mi hli hui (tk k (Nat.le_refl _) k2') hx3
  clear_value jp
  split
  · ((try dsimp -zeta -zetaUnused -zetaHave only); extract_lets -underBinder +onlyGivenNames -merge -useContext zz; subst zz; (try dsimp -zeta -zetaUnused -zetaHave only))
    exact wpS_mono (hjp _) fun r st' hh => by cases r <;> exact hh
  · exact wpS_mono (hjp _) fun r st' hh => by cases r <;> exact hh
end
end Tim

set_option Elab.async false
set_option linter.all false
set_option maxHeartbeats 1000000
/-! ### two neighbouring runs merged in their place -/
namespace Tim
open PySem Srt PyProof.Rows
theorem mergeAt'_eq (i : Nat) : mergeAt' i = (do
  let st ← get
  let (some (sa, na, pw), some (sb, nb, _)) := ((pendingOf st)[i]?, (pendingOf st)[i + 1]?) | unsupported "internal:list.sort.pending"
  set (setPending st (((pendingOf st).setIfInBounds i (sa, na + nb, pw)).eraseIdxIfInBounds (i + 1)))
  let some k ← gallop' false (← elem' (arrOf st) sb) (arrOf st) sa na 0 | return false
  let (sa, na) := (sa + k, na - k)
  if na == 0 then return true
  let some nb ← gallop' true (← elem' (arrOf st) (sa + na - 1)) (arrOf st) sb nb (nb - 1) | return false
  if nb == 0 then return true
  let x := (arrOf st).extract sa sb
  let y := (arrOf st).extract sb (sb + nb)
  let z ← if na ≤ nb then mergeLo' x y else mergeHi' x y
  modify fun st => setArr st (z.toList.zipIdx.foldl (fun a (p, j) => a.setIfInBounds (sa + j) p) (arrOf st))
  return (failedOf (← get)).isNone) := rfl
/-- items written into their place -/
def putAt (base : Nat) (l : List Keyed) (n : Nat) (xs : Array Keyed) : Array Keyed := (l.zipIdx n).foldl (fun a (p, j) => a.setIfInBounds (base + j) p) xs
theorem put_get (base : Nat) : ∀ (l : List Keyed) (n : Nat) (xs : Array Keyed), base + n + l.length ≤ xs.size → (putAt base l n xs).size = xs.size ∧ ∀ t, (putAt base l n xs)[t]? = if base + n ≤ t ∧ t < base + n + l.length then l[t - (base + n)]? else xs[t]?
  | [], n, xs, h => by
    refine ⟨rfl, fun t => ?_⟩
    rw [if_neg (by rw [List.length_nil]; omega)]
    rfl
  | p :: l, n, xs, h => by
    have e : putAt base (p :: l) n xs = putAt base l (n + 1) (xs.setIfInBounds (base + n) p) := rfl
    simp only [List.length_cons] at h
    obtain ⟨h1, h2⟩ := put_get base l (n + 1) (xs.setIfInBounds (base + n) p) (by rw [Array.size_setIfInBounds]; omega)
    rw [e]
    refine ⟨h1.trans (Array.size_setIfInBounds ..), fun t => ?_⟩
    rw [h2 t]
    simp only [List.length_cons]
    by_cases c1 : base + (n + 1) ≤ t ∧ t < base + (n + 1) + l.length
    · rw [if_pos c1, if_pos (by omega), show t - (base + n) = t - (base + (n + 1)) + 1 by omega, List.getElem?_cons_succ]
    · rw [if_neg c1]
      by_cases c2 : t = base + n
      · subst c2
        rw [if_pos (by omega), Nat.sub_self, List.getElem?_cons_zero]
        rw [Array.getElem?_setIfInBounds_self_of_lt (by omega)]
      · rw [if_neg (by omega), Array.getElem?_setIfInBounds_ne (by omega)]
theorem put_list {base : Nat} {l : List Keyed} {xs : Array Keyed} (h : base + l.length ≤ xs.size) : (putAt base l 0 xs).toList = xs.toList.take base ++ l ++ xs.toList.drop (base + l.length) := by
  obtain ⟨h1, h2⟩ := put_get base l 0 xs (by omega)
  apply List.ext_getElem?
  intro t
  rw [Array.getElem?_toList, h2 t]
  have hb : (List.take base xs.toList).length = base := by simp; omega
  by_cases c1 : t < base
  · rw [if_neg (by omega), List.append_assoc, List.getElem?_append_left (by omega), List.getElem?_take_of_lt c1, Array.getElem?_toList]
  · by_cases c2 : t < base + l.length
    · rw [if_pos (by omega), List.getElem?_append_left (by simp; omega), List.getElem?_append_right (by omega), hb]
      rfl
    · rw [if_neg (by omega), List.getElem?_append_right (by simp; omega), List.getElem?_drop, ← Array.getElem?_toList]
      congr 1
      simp
      omega
section
variable {prog : Program} {w : World} {A : Around} {E : Value → Shared → Prop} {s : Shared} {a₀ : Array Keyed} {κ : SortKind} {lt : Keyed → Keyed → Bool}
theorem it_ext {xs : Array Keyed} {i j t : Nat} (h : j ≤ xs.size) (ht : t < j - i) : it (xs.extract i j) t = it xs (i + t) := by
  refine it_congr ?_
  rw [Array.getElem?_extract, if_pos (by omega)]
theorem ext_size {xs : Array Keyed} {i j : Nat} (h : j ≤ xs.size) : (xs.extract i j).size = j - i := by
  rw [Array.size_extract]
  omega
theorem sd_ext (O : Ord lt) {xs : Array Keyed} {i j lo n : Nat} (h : Up lt xs lo n) (hj : j ≤ xs.size) (h1 : lo ≤ i) (h2 : j ≤ lo + n) : Sd lt (xs.extract i j).toList := by
  refine Sd.of _ (fun t x y hx hy => ?_) O
  obtain ⟨a1, rfl⟩ := of_list hx
  obtain ⟨a2, rfl⟩ := of_list hy
  rw [ext_size hj] at a1 a2
  rw [it_ext hj (by omega), it_ext hj (by omega)]
  have := h (i - lo + t) (i - lo + (t + 1)) (by omega) (by omega)
  rwa [show lo + (i - lo + t) = i + t by omega, show lo + (i - lo + (t + 1)) = i + (t + 1) by omega] at this
theorem ext_mem {xs : Array Keyed} {i j : Nat} (hj : j ≤ xs.size) {p : Keyed} (hp : p ∈ (xs.extract i j).toList) : ∃ t, i ≤ t ∧ t < j ∧ p = it xs t := by
  obtain ⟨t, ht⟩ := List.getElem?_of_mem hp
  obtain ⟨a1, rfl⟩ := of_list ht
  rw [ext_size hj] at a1
  exact ⟨i + t, by omega, by omega, it_ext hj a1⟩
/-- what a merge of two runs does -/
structure Joined (lt : Keyed → Keyed → Bool) (st st' : SortSt) (sa n : Nat) : Prop where
  up : Up lt (arrOf st') sa n
  out : ∀ t, t < sa ∨ sa + n ≤ t → it (arrOf st') t = it (arrOf st) t
theorem wpS_mergeAt {st : SortSt} {i sa na pa sb nb pb : Nat} {Q : Bool → SortSt → Prop} (O : Ord lt) (C : Asks prog w A s κ lt a₀) (hB : SB κ a₀ st) (hi : (pendingOf st)[i]? = some (sa, na, pa)) (hj : (pendingOf st)[i + 1]? = some (sb, nb, pb)) (e : sb = sa + na) (ha : 1 ≤ na) (hb : 1 ≤ nb) (hz : sb + nb ≤ a₀.size)
    (ua : Up lt (arrOf st) sa na) (ub : Up lt (arrOf st) sb nb)
    (h : ∀ st', SB κ a₀ st' → pendingOf st' = ((pendingOf st).setIfInBounds i (sa, na + nb, pa)).eraseIdxIfInBounds (i + 1) → Joined lt st st' sa (na + nb) → Q true st') : wpS (model prog w) A E s (mergeAt' i) Q st := by
  subst e
  rw [mergeAt'_eq]
  refine wpS_bind (wpS_get ?_)
  rw [hi, hj]
  ((try dsimp -zeta -zetaUnused -zetaHave only))
  have hsz := hB.size
  have mem : ∀ p ∈ (arrOf st).toList, p ∈ a₀.toList := fun p hp => hB.perm.mem_iff.mp hp
  have wset : ∀ {f : Unit → StateT SortSt Sem Bool} {Q : Bool → SortSt → Prop} {st2 : SortSt}, wpS (model prog w) A E s (f ()) Q st2 → wpS (model prog w) A E s (set st2 >>= f) Q st := fun hh => by
    refine wpS_bind ?_
    unfold wpS
    rw [StateT.run_set]
    exact wpAny_pure ⟨rfl, hh⟩
  refine wset ?_
  clear wset
  have A1 : arrOf (setPending st (((pendingOf st).setIfInBounds i (sa, na + nb, pa)).eraseIdxIfInBounds (i + 1))) = arrOf st := rfl
  have hB1 : SB κ a₀ (setPending st (((pendingOf st).setIfInBounds i (sa, na + nb, pa)).eraseIdxIfInBounds (i + 1))) := ⟨hB.perm, hB.kind, hB.failed⟩
  have P1 : pendingOf (setPending st (((pendingOf st).setIfInBounds i (sa, na + nb, pa)).eraseIdxIfInBounds (i + 1))) = ((pendingOf st).setIfInBounds i (sa, na + nb, pa)).eraseIdxIfInBounds (i + 1) := rfl
  generalize setPending st (((pendingOf st).setIfInBounds i (sa, na + nb, pa)).eraseIdxIfInBounds (i + 1)) = st1 at A1 hB1 P1 ⊢
  have ua' : ∀ t u, sa ≤ t → t ≤ u → u < sa + na → le lt (it (arrOf st) t) (it (arrOf st) u) := fun t u h1 h2 h3 => by
    have := ua (t - sa) (u - sa) (by omega) (by omega)
    rwa [show sa + (t - sa) = t by omega, show sa + (u - sa) = u by omega] at this
  have ub' : ∀ t u, sa + na ≤ t → t ≤ u → u < sa + na + nb → le lt (it (arrOf st) t) (it (arrOf st) u) := fun t u h1 h2 h3 => by
    have := ub (t - (sa + na)) (u - (sa + na)) (by omega) (by omega)
    rwa [show sa + na + (t - (sa + na)) = t by omega, show sa + na + (u - (sa + na)) = u by omega] at this
  -- nothing to do: the runs are in order as they are
  have plain : le lt (it (arrOf st) (sa + na - 1)) (it (arrOf st) (sa + na)) → Q true st1 := fun hle => by
    refine h st1 hB1 P1 ⟨fun t u h1 h2 => ?_, fun t _ => by rw [A1]⟩
    rw [A1]
    by_cases c1 : u < na
    · exact ua t u h1 c1
    · by_cases c2 : t < na
      · exact O.tr (ua' (sa + t) (sa + na - 1) (by omega) (by omega) (by omega)) (O.tr hle (ub' (sa + na) (sa + u) (by omega) (by omega) (by omega)))
      · exact ub' (sa + t) (sa + u) (by omega) (by omega) (by omega)
  refine wpS_bind (wpS_elem (by omega) ?_)
  refine wpS_bind (wpS_gallop C hB1.kind (hB.mem (by omega)) (by omega) mem (by omega) (fun t u h1 h2 h3 => ?_) fun k k1 k2 k3 => ?_)
  · unfold ahead at h3 ⊢
    rw [if_neg (by simp)] at h3 ⊢
    have h4 : lt (it (arrOf st) (sa + na)) (it (arrOf st) (sa + u)) = false := by simpa using h3
    have h5 : lt (it (arrOf st) (sa + na)) (it (arrOf st) (sa + t)) = false := O.tr (ua t u h1 h2) h4
    rw [h5]
    rfl
  have k2' : ∀ t, t < k → le lt (it (arrOf st) (sa + t)) (it (arrOf st) (sa + na)) := fun t ht => by
    have := k2 t ht
    unfold ahead at this
    rw [if_neg (by simp)] at this
    show lt (it (arrOf st) (sa + na)) (it (arrOf st) (sa + t)) = false
    simpa using this
  have k3' : ∀ t, k ≤ t → t < na → lt (it (arrOf st) (sa + na)) (it (arrOf st) (sa + t)) = true := fun t h1 h2 => by
    have := k3 t h1 h2
    unfold ahead at this
    rw [if_neg (by simp)] at this
    simpa using this
  ((try dsimp -zeta -zetaUnused -zetaHave only))
  by_cases c1 : na - k = 0
  · rw [if_pos (by simpa using c1)]
    have := k2' (na - 1) (by omega)
    rw [show sa + (na - 1) = sa + na - 1 by omega] at this
    exact wpS_pure (plain this)
  rw [if_neg (by simpa using c1)]
  refine wpS_bind (wpS_elem (by omega) ?_)
  rw [show sa + k + (na - k) - 1 = sa + na - 1 by omega]
  refine wpS_bind (wpS_gallop C hB1.kind (hB.mem (by omega)) (by omega) mem (by omega) (fun t u h1 h2 h3 => ?_) fun m n1 n2 n3 => ?_)
  · unfold ahead at h3 ⊢
    rw [if_pos rfl] at h3 ⊢
    exact lt_of_le_lt O (ub t u h1 h2) h3
  have n2' : ∀ t, t < m → lt (it (arrOf st) (sa + na + t)) (it (arrOf st) (sa + na - 1)) = true := fun t ht => by
    have := n2 t ht
    unfold ahead at this
    rwa [if_pos rfl] at this
  have n3' : ∀ t, m ≤ t → t < nb → le lt (it (arrOf st) (sa + na - 1)) (it (arrOf st) (sa + na + t)) := fun t h1 h2 => by
    have := n3 t h1 h2
    unfold ahead at this
    rwa [if_pos rfl] at this
  ((try dsimp -zeta -zetaUnused -zetaHave only))
  by_cases c2 : m = 0
  · rw [if_pos (by simpa using c2)]
    have := n3' 0 (by omega) (by omega)
    exact wpS_pure (plain this)
  rw [if_neg (by simpa using c2)]
  ((try dsimp -zeta -zetaUnused -zetaHave only); extract_lets -underBinder +onlyGivenNames -merge -useContext zz; subst zz; extract_lets -underBinder +onlyGivenNames -merge -useContext zz; subst zz; (try dsimp -zeta -zetaUnused -zetaHave only))
  extract_lets -underBinder +onlyGivenNames -merge -useContext jp
  have zx : sa + na ≤ (arrOf st).size := by omega
  have zy : sa + na + m ≤ (arrOf st).size := by omega
  have sx : ((arrOf st).extract (sa + k) (sa + na)).size = na - k := by rw [ext_size zx]; omega
  have sy : ((arrOf st).extract (sa + na) (sa + na + m)).size = m := by rw [ext_size zy]; omega
  have hjp : ∀ z st2, Mg st1 st2 → Merged lt ((arrOf st).extract (sa + k) (sa + na)) ((arrOf st).extract (sa + na) (sa + na + m)) z → wpS (model prog w) A E s (jp z) Q st2 := fun z st2 g hm => by
    have A2 : arrOf st2 = arrOf st := g.arr.trans A1
    have lz : z.toList.length = na - k + m := by
      have := hm.2.length_eq
      rw [List.length_append, Array.length_toList, Array.length_toList, Array.length_toList, sx, sy] at this
      simpa using this
    refine wpS_bind (wpS_modify (wpS_bind (wpS_get (wpS_pure ?_))))
    have hff : (failedOf (setArr st2 (putAt (sa + k) z.toList 0 (arrOf st2)))).isNone = true := by
      show (failedOf st2).isNone = true
      rw [g.failed, hB1.failed]
      rfl
    show Q (failedOf (setArr st2 (putAt (sa + k) z.toList 0 (arrOf st2)))).isNone (setArr st2 (putAt (sa + k) z.toList 0 (arrOf st2)))
    rw [hff]
    have fit : sa + k + z.toList.length ≤ (arrOf st2).size := by rw [A2, lz]; omega
    have pl := put_list fit
    obtain ⟨_, pg⟩ := put_get (sa + k) z.toList 0 (arrOf st2) (by omega)
    have outs : ∀ t, t < sa + k ∨ sa + na + m ≤ t → it (putAt (sa + k) z.toList 0 (arrOf st2)) t = it (arrOf st) t := fun t ht => by
      rw [← A2]
      refine it_congr ?_
      rw [pg t, if_neg (by rw [lz]; omega)]
    have ins : ∀ t, sa + k ≤ t → t < sa + na + m → it (putAt (sa + k) z.toList 0 (arrOf st2)) t = it z (t - (sa + k)) := fun t h1 h2 => by
      refine it_congr ?_
      rw [pg t, if_pos (by rw [lz]; omega), Array.getElem?_toList]
      rfl
    have zs : z.size = na - k + m := by rw [← Array.length_toList]; exact lz
    have inz : ∀ t, t < na - k + m → (∃ u, sa + k ≤ u ∧ u < sa + na ∧ it z t = it (arrOf st) u) ∨ ∃ u, sa + na ≤ u ∧ u < sa + na + m ∧ it z t = it (arrOf st) u := fun t ht => by
      have := hm.2.mem_iff.mp (it_mem (xs := z) (i := t) (by omega))
      rcases List.mem_append.mp this with hh | hh
      · exact .inl (ext_mem zx hh)
      · exact .inr (ext_mem zy hh)
    refine h _ ⟨?_, g.kind.trans hB1.kind, g.failed.trans hB1.failed⟩ (g.pend.trans P1) ⟨fun t u h1 h2 => ?_, fun t ht => ?_⟩
    · show (putAt (sa + k) z.toList 0 (arrOf st2)).toList.Perm a₀.toList
      rw [pl, A2]
      refine List.Perm.trans ?_ hB.perm
      have e1 : (arrOf st).toList = (arrOf st).toList.take (sa + k) ++ (((arrOf st).extract (sa + k) (sa + na)).toList ++ ((arrOf st).extract (sa + na) (sa + na + m)).toList) ++ (arrOf st).toList.drop (sa + na + m) := by
        have a1 := List.take_append_drop (sa + k) (arrOf st).toList
        have a2 := List.take_append_drop (na - k) ((arrOf st).toList.drop (sa + k))
        have a3 := List.take_append_drop m ((arrOf st).toList.drop (sa + na))
        rw [List.drop_drop, show sa + k + (na - k) = sa + na by omega] at a2
        rw [List.drop_drop] at a3
        rw [ext_list, ext_list, show sa + na - (sa + k) = na - k by omega, show sa + na + m - (sa + na) = m by omega, List.append_assoc, List.append_assoc, a3, a2, a1]
      have e2 : (arrOf st).toList.drop (sa + k + z.toList.length) = (arrOf st).toList.drop (sa + na + m) := by rw [lz, show sa + k + (na - k + m) = sa + na + m by omega]
      rw [e2]
      conv => rhs; rw [e1]
      exact (hm.2.append_left _).append_right _
    · show le lt (it (putAt (sa + k) z.toList 0 (arrOf st2)) (sa + t)) (it (putAt (sa + k) z.toList 0 (arrOf st2)) (sa + u))
      have hb0 : ∀ v, sa + na ≤ v → v < sa + na + nb → le lt (it (arrOf st) (sa + na)) (it (arrOf st) v) := fun v h1 h2 => ub' (sa + na) v (Nat.le_refl _) h1 h2
      have ha1 : ∀ v, sa ≤ v → v < sa + na → le lt (it (arrOf st) v) (it (arrOf st) (sa + na - 1)) := fun v h1 h2 => ua' v (sa + na - 1) h1 (by omega) (by omega)
      by_cases t1 : sa + t < sa + k
      · rw [outs (sa + t) (.inl t1)]
        have low := k2' t (by omega)
        by_cases u1 : sa + u < sa + k
        · rw [outs (sa + u) (.inl u1)]
          exact ua t u h1 (by omega)
        · by_cases u2 : sa + u < sa + na + m
          · rw [ins (sa + u) (by omega) u2]
            rcases inz (sa + u - (sa + k)) (by omega) with ⟨v, v1, v2, ev⟩ | ⟨v, v1, v2, ev⟩
            · rw [ev]; exact ua' (sa + t) v (by omega) (by omega) v2
            · rw [ev]; exact O.tr low (hb0 v v1 (by omega))
          · rw [outs (sa + u) (.inr (by omega))]
            exact O.tr low (hb0 (sa + u) (by omega) (by omega))
      · by_cases t2 : sa + t < sa + na + m
        · rw [ins (sa + t) (by omega) t2]
          by_cases u2 : sa + u < sa + na + m
          · rw [ins (sa + u) (by omega) u2]
            exact sd_it O hm.1 (by omega) (by omega)
          · rw [outs (sa + u) (.inr (by omega))]
            rcases inz (sa + t - (sa + k)) (by omega) with ⟨v, v1, v2, ev⟩ | ⟨v, v1, v2, ev⟩
            · rw [ev]
              have := n3' (u - na) (by omega) (by omega)
              rw [show sa + na + (u - na) = sa + u by omega] at this
              exact O.tr (ha1 v (by omega) v2) this
            · rw [ev]; exact ub' v (sa + u) v1 (by omega) (by omega)
        · rw [outs (sa + t) (.inr (by omega)), outs (sa + u) (.inr (by omega))]
          exact ub' (sa + t) (sa + u) (by omega) (by omega) (by omega)
    · exact outs t (by omega)
  clear_value jp
  have mx : ∀ p ∈ ((arrOf st).extract (sa + k) (sa + na)).toList, p ∈ a₀.toList := fun p hp => by
    obtain ⟨t, h1, h2, rfl⟩ := ext_mem zx hp
    exact hB.mem (by omega)
  have my : ∀ p ∈ ((arrOf st).extract (sa + na) (sa + na + m)).toList, p ∈ a₀.toList := fun p hp => by
    obtain ⟨t, h1, h2, rfl⟩ := ext_mem zy hp
    exact hB.mem (by omega)
  have xx := sd_ext O (i := sa + k) (j := sa + na) ua zx (by omega) (by omega)
  have yy := sd_ext O (i := sa + na) (j := sa + na + m) ub zy (by omega) (by omega)
  have first : le lt (it ((arrOf st).extract (sa + na) (sa + na + m)) 0) (it ((arrOf st).extract (sa + k) (sa + na)) 0) := by
    rw [it_ext zy (by omega), it_ext zx (by omega)]
    have := O.le_of (k3' k (Nat.le_refl _) (by omega))
    simpa using this
  have lasts : ∀ x ∈ ((arrOf st).extract (sa + na) (sa + na + m)).toList, le lt x (it ((arrOf st).extract (sa + k) (sa + na)) (((arrOf st).extract (sa + k) (sa + na)).size - 1)) := fun x hx => by
    obtain ⟨t, h1, h2, rfl⟩ := ext_mem zy hx
    rw [sx, it_ext zx (by omega), show sa + k + (na - k - 1) = sa + na - 1 by omega]
    have := O.le_of (n2' (t - (sa + na)) (by omega))
    rwa [show sa + na + (t - (sa + na)) = t by omega] at this
  split
  · exact wpS_bind (wpS_mergeLo O C hB1.kind mx my xx yy (by omega) (by omega) first lasts fun r st' g hr => hjp r st' g hr)
  · exact wpS_bind (wpS_mergeHi O C hB1.kind mx my xx yy (by omega) (by omega) first lasts fun r st' g hr => hjp r st' g hr)
end
end Tim

set_option Elab.async false
set_option linter.all false
set_option maxHeartbeats 1000000
/-! ### all runs -/
namespace Tim
open PySem Srt PyProof.Rows
/-- runs in order, one behind the other, from s up to e -/
def Stk (lt : Keyed → Keyed → Bool) (xs : Array Keyed) : List (Nat × Nat × Nat) → Nat → Nat → Prop
  | [], s, e => s = e
  | x :: p, s, e => x.1 = s ∧ 1 ≤ x.2.1 ∧ Up lt xs s x.2.1 ∧ Stk lt xs p (s + x.2.1) e
section
variable {prog : Program} {w : World} {A : Around} {E : Value → Shared → Prop} {s : Shared} {a₀ : Array Keyed} {κ : SortKind} {lt : Keyed → Keyed → Bool} {xs ys : Array Keyed}
theorem Stk.len : ∀ {p : List (Nat × Nat × Nat)} {b e : Nat}, Stk lt xs p b e → b + p.length ≤ e
  | [], b, e, h => by have : b = e := h; simp; omega
  | x :: p, b, e, h => by
    have := Stk.len h.2.2.2
    have := h.2.1
    simp only [List.length_cons]
    omega
theorem Stk.app : ∀ {p q : List (Nat × Nat × Nat)} {b e : Nat}, Stk lt xs (p ++ q) b e ↔ ∃ m, Stk lt xs p b m ∧ Stk lt xs q m e
  | [], q, b, e => ⟨fun h => ⟨b, rfl, h⟩, fun ⟨m, h1, h2⟩ => by have : b = m := h1; subst this; exact h2⟩
  | x :: p, q, b, e => by
    refine ⟨fun h => ?_, fun ⟨m, h1, h2⟩ => ⟨h1.1, h1.2.1, h1.2.2.1, Stk.app.mpr ⟨m, h1.2.2.2, h2⟩⟩⟩
    obtain ⟨m, h1, h2⟩ := Stk.app.mp h.2.2.2
    exact ⟨m, ⟨h.1, h.2.1, h.2.2.1, h1⟩, h2⟩
theorem Up.same {lo n : Nat} (h : Up lt xs lo n) (e : ∀ t, lo ≤ t → t < lo + n → it ys t = it xs t) : Up lt ys lo n := fun i j hij hj => by
  rw [e (lo + i) (by omega) (by omega), e (lo + j) (by omega) (by omega)]
  exact h i j hij hj
theorem Stk.same : ∀ {p : List (Nat × Nat × Nat)} {b e : Nat}, Stk lt xs p b e → (∀ t, b ≤ t → t < e → it ys t = it xs t) → Stk lt ys p b e
  | [], b, e, h, _ => h
  | x :: p, b, e, h, hs => by
    have hl := Stk.len h.2.2.2
    exact ⟨h.1, h.2.1, h.2.2.1.same fun t h1 h2 => hs t h1 (by omega), Stk.same h.2.2.2 fun t h1 h2 => hs t (by omega) h2⟩
theorem two_of {α : Type} {l : List α} {i : Nat} (h : i + 1 < l.length) : ∃ l1 x y l2, l = l1 ++ x :: y :: l2 ∧ l1.length = i := by
  refine ⟨l.take i, l[i], l[i + 1], l.drop (i + 2), ?_, by rw [List.length_take]; omega⟩
  rw [← List.drop_eq_getElem_cons (by omega), ← List.drop_eq_getElem_cons (by omega), List.take_append_drop]
theorem set_two {α : Type} {l1 l2 : List α} {x y v : α} : ((l1 ++ x :: y :: l2).set l1.length v).eraseIdx (l1.length + 1) = l1 ++ v :: l2 := by
  rw [List.set_append_right _ _ (Nat.le_refl _), Nat.sub_self, List.set_cons_zero, List.eraseIdx_append_of_length_le (by omega), show l1.length + 1 - l1.length = 1 by omega]
  rfl
/-- the runs i and i + 1 made one -/
theorem wpS_join {st : SortSt} {i e : Nat} {Q : Bool → SortSt → Prop} (O : Ord lt) (C : Asks prog w A s κ lt a₀) (hB : SB κ a₀ st) (hS : Stk lt (arrOf st) (pendingOf st).toList 0 e) (hi : i + 1 < (pendingOf st).size) (he : e ≤ a₀.size)
    (h : ∀ st', SB κ a₀ st' → Stk lt (arrOf st') (pendingOf st').toList 0 e → (pendingOf st').size + 1 = (pendingOf st).size → (∀ t, e ≤ t → it (arrOf st') t = it (arrOf st) t) → Q true st') : wpS (model prog w) A E s (mergeAt' i) Q st := by
  obtain ⟨l1, x, y, l2, el, e1⟩ := two_of (l := (pendingOf st).toList) (i := i) (by simpa using hi)
  obtain ⟨sa, na, pa⟩ := x
  obtain ⟨sb, nb, pb⟩ := y
  have hS0 := hS
  rw [el] at hS
  obtain ⟨m, h1, h2⟩ := Stk.app.mp hS
  obtain ⟨a1, a2, a3, b1, b2, b3, h3⟩ := h2
  dsimp only at a1 a2 a3 b1 b2 b3 h3
  subst a1
  subst b1
  have l0 := h1.len
  have l3 := h3.len
  refine wpS_mergeAt O C hB (sa := sa) (na := na) (pa := pa) (sb := sa + na) (nb := nb) (pb := pb) ?_ ?_ rfl a2 b2 (by omega) a3 b3 fun st' hB' hp hJ => ?_
  · rw [← Array.getElem?_toList, el, ← e1, List.getElem?_append_right (Nat.le_refl _), Nat.sub_self]
    rfl
  · rw [← Array.getElem?_toList, el, ← e1, List.getElem?_append_right (by omega), show l1.length + 1 - l1.length = 1 by omega]
    rfl
  · have pl : (pendingOf st').toList = l1 ++ (sa, na + nb, pa) :: l2 := by
      rw [hp, Array.toList_eraseIdxIfInBounds, Array.toList_setIfInBounds, el, ← e1]
      exact set_two
    refine h st' hB' ?_ ?_ fun t ht => hJ.out t (.inr (by omega))
    · rw [pl]
      refine Stk.app.mpr ⟨sa, h1.same fun t h1 h2 => hJ.out t (.inl h2), rfl, by dsimp only; omega, hJ.up, ?_⟩
      show Stk lt (arrOf st') l2 (sa + (na + nb)) e
      rw [← Nat.add_assoc]
      exact h3.same fun t h1 h2 => hJ.out t (.inr (by omega))
    · have q1 := congrArg List.length pl
      have q2 := congrArg List.length el
      simp only [Array.length_toList, List.length_append, List.length_cons] at q1 q2
      omega
theorem Stk.third {p : List (Nat × Nat × Nat)} {b e : Nat} (h : Stk lt xs p b e) (f : Nat × Nat × Nat → Nat × Nat × Nat) (hf : ∀ x, (f x).1 = x.1 ∧ (f x).2.1 = x.2.1) : ∀ i, Stk lt xs (p.modify i f) b e := by
  induction p generalizing b with
  | nil => intro i; rw [List.modify_nil]; exact h
  | cons x p ih =>
    intro i
    cases i with
    | zero =>
      rw [List.modify_zero_cons]
      obtain ⟨f1, f2⟩ := hf x
      refine ⟨f1.trans h.1, by rw [f2]; exact h.2.1, by rw [f2]; exact h.2.2.1, ?_⟩
      rw [f2]
      exact h.2.2.2
    | succ i =>
      rw [List.modify_succ_cons]
      exact ⟨h.1, h.2.1, h.2.2.1, ih h.2.2.2 i⟩
/-- the whole list in order, whatever its size -/
theorem wpS_sortAll {st : SortSt} {Q : Unit → SortSt → Prop} (O : Ord lt) (C : Asks prog w A s κ lt a₀) (hB : SB κ a₀ st) (hp : pendingOf st = #[]) (h2 : 2 ≤ a₀.size)
    (h : ∀ st', (arrOf st').toList.Perm a₀.toList → failedOf st' = none → Up lt (arrOf st') 0 a₀.size → Q () st') : wpS (model prog w) A E s sortRuns' Q st := by
  rw [sortRuns'_eq]
  refine wpS_bind (wpS_get ?_)
  rw [hB.size]
  ((try dsimp -zeta -zetaUnused -zetaHave only); extract_lets -underBinder +onlyGivenNames -merge -useContext zz; subst zz; extract_lets -underBinder +onlyGivenNames -merge -useContext zz; subst zz; extract_lets -underBinder +onlyGivenNames -merge -useContext zz; subst zz; (try dsimp -zeta -zetaUnused -zetaHave only))
  refine wpS_bind (wpS_mono (wpS_forRange (I := fun x c st' => ∃ lo, c = (none, lo) ∧ SB κ a₀ st' ∧ Stk lt (arrOf st') (pendingOf st').toList 0 lo ∧ lo ≤ a₀.size ∧ min x a₀.size ≤ lo)
    (Q := fun c st' => c.1 = none ∧ SB κ a₀ st' ∧ Stk lt (arrOf st') (pendingOf st').toList 0 a₀.size) ?step ?fin ⟨0, rfl, hB, by rw [hp]; exact (rfl : (0 : Nat) = 0), by omega, (show min 0 a₀.size ≤ 0 by omega)⟩) ?post)
  case fin =>
    rintro c st' ⟨lo, rfl, hB', hS, h3, h4⟩
    have : lo = a₀.size := by omega
    subst this
    exact ⟨rfl, hB', hS⟩
  case post =>
    rintro ⟨c1, c2⟩ st' ⟨rfl, hB', hS⟩
    ((try dsimp -zeta -zetaUnused -zetaHave only); extract_lets -underBinder +onlyGivenNames -merge -useContext zz; subst zz; extract_lets -underBinder +onlyGivenNames -merge -useContext zz; subst zz; (try dsimp -zeta -zetaUnused -zetaHave only))
    refine wpS_bind (wpS_mono (wpS_forRange (I := fun x c st' => c = (none, ()) ∧ SB κ a₀ st' ∧ Stk lt (arrOf st') (pendingOf st').toList 0 a₀.size ∧ (pendingOf st').size ≤ max 1 (a₀.size - x))
      (Q := fun c st' => c = (none, ()) ∧ SB κ a₀ st' ∧ Stk lt (arrOf st') (pendingOf st').toList 0 a₀.size ∧ (pendingOf st').size ≤ 1) ?fstep ?ffin ⟨rfl, hB', hS, ?finit⟩) ?fpost)
    case finit =>
      have := hS.len
      rw [Array.length_toList] at this
      show (pendingOf st').size ≤ max 1 (a₀.size - 0)
      omega
    case ffin =>
      rintro c st2 ⟨rfl, h3, h4, h5⟩
      exact ⟨rfl, h3, h4, by omega⟩
    case fpost =>
      rintro c st2 ⟨rfl, hB2, hS2, h5⟩
      ((try dsimp -zeta -zetaUnused -zetaHave only); extract_lets -underBinder +onlyGivenNames -merge -useContext zz; subst zz; (try dsimp -zeta -zetaUnused -zetaHave only))
      refine wpS_pure (h st2 hB2.perm hB2.failed ?_)
      have hl : (pendingOf st2).toList.length ≤ 1 := by simpa using h5
      match ep : (pendingOf st2).toList, hl with
      | [], _ =>
        rw [ep] at hS2
        have : 0 = a₀.size := hS2
        omega
      | [x], _ =>
        rw [ep] at hS2
        obtain ⟨x1, x2, x3, x4⟩ := hS2
        have : 0 + x.2.1 = a₀.size := x4
        rw [show x.2.1 = a₀.size by omega] at x3
        exact x3
      | _ :: _ :: _, hl => simp at hl
    case fstep =>
      rintro x c st2 _ hx ⟨rfl, hB2, hS2, h5⟩
      refine wpS_bind (wpS_get ?_)
      ((try dsimp -zeta -zetaUnused -zetaHave only); extract_lets -underBinder +onlyGivenNames -merge -useContext zz; subst zz; (try dsimp -zeta -zetaUnused -zetaHave only))
      by_cases c1 : (pendingOf st2).size ≤ 1
      · rw [if_pos c1]
        exact wpS_pure ⟨rfl, hB2, hS2, c1⟩
      rw [if_neg c1]
      ((try dsimp -zeta -zetaUnused -zetaHave only); extract_lets -underBinder +onlyGivenNames -merge -useContext zz; subst zz; extract_lets -underBinder +onlyGivenNames -merge -useContext zz; subst zz; extract_lets -underBinder +onlyGivenNames -merge -useContext zz; subst zz; (try dsimp -zeta -zetaUnused -zetaHave only))
      refine wpS_bind (wpS_join O C hB2 hS2 ?_ (Nat.le_refl _) fun st3 hB3 hS3 h6 _ => ?_)
      · have le2 : ∀ b : Bool, (if b = true then (pendingOf st2).size - 2 - 1 else (pendingOf st2).size - 2) + 1 < (pendingOf st2).size := fun b => by
          cases b
          · rw [if_neg (by simp)]; omega
          · rw [if_pos rfl]; omega
        exact le2 _
      · rw [if_neg (by simp)]
        exact wpS_pure ⟨rfl, hB3, hS3, by omega⟩
  rintro x c st1 _ hx ⟨lo, rfl, hB1, hS1, h3, h4⟩
  ((try dsimp -zeta -zetaUnused -zetaHave only); extract_lets -underBinder +onlyGivenNames -merge -useContext zz; subst zz; (try dsimp -zeta -zetaUnused -zetaHave only))
  by_cases c0 : lo ≥ a₀.size
  · rw [if_pos c0]
    have : lo = a₀.size := by omega
    subst this
    exact wpS_pure ⟨rfl, hB1, hS1⟩
  rw [if_neg c0]
  refine wpS_bind (wpS_count O C (by omega) (by omega) hB1 fun m st2 hB2 hL2 hm1 hm2 hu2 => ?_)
  ((try dsimp -zeta -zetaUnused -zetaHave only); extract_lets -underBinder +onlyGivenNames -merge -useContext zz; subst zz; (try dsimp -zeta -zetaUnused -zetaHave only))
  extract_lets -underBinder +onlyGivenNames -merge -useContext jp
  have hjp : ∀ n st3, SB κ a₀ st3 → Left lo st1 st3 → 1 ≤ n → lo + n ≤ a₀.size → Up lt (arrOf st3) lo n → wpS (model prog w) A E s (jp () n) (fun r st' => match r with
      | .done c' => c'.1 = none ∧ SB κ a₀ st' ∧ Stk lt (arrOf st') (pendingOf st').toList 0 a₀.size
      | .yield c' => ∃ lo, c' = (none, lo) ∧ SB κ a₀ st' ∧ Stk lt (arrOf st') (pendingOf st').toList 0 lo ∧ lo ≤ a₀.size ∧ min (x + 1) a₀.size ≤ lo) st3 := fun n st3 hB3 hL3 hn1 hn2 hu3 => by
    have hS3 : Stk lt (arrOf st3) (pendingOf st3).toList 0 lo := by
      rw [hL3.pend]
      exact hS1.same fun t _ h2 => hL3.low t h2
    refine wpS_bind (wpS_get ?_)
    ((try dsimp -zeta -zetaUnused -zetaHave only))
    extract_lets -underBinder +onlyGivenNames -merge -useContext jq
    have hjq : ∀ st4, SB κ a₀ st4 → Stk lt (arrOf st4) (pendingOf st4).toList 0 lo → Up lt (arrOf st4) lo n → wpS (model prog w) A E s (jq ()) (fun r st' => match r with
      | .done c' => c'.1 = none ∧ SB κ a₀ st' ∧ Stk lt (arrOf st') (pendingOf st').toList 0 a₀.size
      | .yield c' => ∃ lo, c' = (none, lo) ∧ SB κ a₀ st' ∧ Stk lt (arrOf st') (pendingOf st').toList 0 lo ∧ lo ≤ a₀.size ∧ min (x + 1) a₀.size ≤ lo) st4 := fun st4 hB4 hS4 hu4 => by
      refine wpS_bind (wpS_modify (wpS_pure ⟨lo + n, rfl, ⟨hB4.perm, hB4.kind, hB4.failed⟩, ?_, hn2, by omega⟩))
      show Stk lt (arrOf st4) ((pendingOf st4).push (lo, n, 0)).toList 0 (lo + n)
      rw [Array.toList_push]
      exact Stk.app.mpr ⟨lo, hS4, rfl, hn1, hu4, rfl⟩
    clear_value jq
    split
    · ((try dsimp -zeta -zetaUnused -zetaHave only); extract_lets -underBinder +onlyGivenNames -merge -useContext zz; subst zz; (try dsimp -zeta -zetaUnused -zetaHave only))
      refine wpS_bind (wpS_mono (wpS_forRange (I := fun _ c st' => c = (none, ()) ∧ SB κ a₀ st' ∧ Stk lt (arrOf st') (pendingOf st').toList 0 lo ∧ Up lt (arrOf st') lo n)
        (Q := fun c st' => c = (none, ()) ∧ SB κ a₀ st' ∧ Stk lt (arrOf st') (pendingOf st').toList 0 lo ∧ Up lt (arrOf st') lo n) ?mstep (fun c st' hh => hh) ⟨rfl, hB3, hS3, hu3⟩) ?mpost)
      case mpost =>
        rintro c st4 ⟨rfl, hB4, hS4, hu4⟩
        ((try dsimp -zeta -zetaUnused -zetaHave only); extract_lets -underBinder +onlyGivenNames -merge -useContext zz; subst zz; (try dsimp -zeta -zetaUnused -zetaHave only))
        refine wpS_bind (wpS_modify (hjq _ ⟨hB4.perm, hB4.kind, hB4.failed⟩ ?_ hu4))
        show Stk lt (arrOf st4) ((pendingOf st4).modify _ _).toList 0 lo
        rw [Array.toList_modify]
        refine hS4.third _ ?_ _
        rintro ⟨_, _, _⟩
        exact ⟨rfl, rfl⟩
      case mstep =>
        rintro y c st4 _ hy ⟨rfl, hB4, hS4, hu4⟩
        refine wpS_bind (wpS_get ?_)
        ((try dsimp -zeta -zetaUnused -zetaHave only); extract_lets -underBinder +onlyGivenNames -merge -useContext zz; subst zz; (try dsimp -zeta -zetaUnused -zetaHave only))
        by_cases c1 : (pendingOf st4).size > 1
        · rw [if_pos c1, getElem?_pos (pendingOf st4) ((pendingOf st4).size - 2) (by omega)]
          ((try dsimp -zeta -zetaUnused -zetaHave only))
          split
          · exact wpS_pure ⟨rfl, hB4, hS4, hu4⟩
          · refine wpS_bind (wpS_join O C hB4 hS4 (by omega) (by omega) fun st5 hB5 hS5 h6 h7 => ?_)
            rw [if_neg (by simp)]
            exact wpS_pure ⟨rfl, hB5, hS5, hu4.same fun t h1 _ => h7 t h1⟩
        · rw [if_neg c1]
          ((try dsimp -zeta -zetaUnused -zetaHave only))
          exact wpS_pure ⟨rfl, hB4, hS4, hu4⟩
    · exact hjq st3 hB3 hS3 hu3
  clear_value jp
  split
  · refine wpS_bind (wpS_lift (wpAny_rule ⟨rfl, ?_⟩))
    ((try dsimp -zeta -zetaUnused -zetaHave only); extract_lets -underBinder +onlyGivenNames -merge -useContext zz; subst zz; (try dsimp -zeta -zetaUnused -zetaHave only))
    refine wpS_bind (wpS_bin O C (by omega) (by omega) hB2 hu2 fun st3 hB3 hL3 hu3 => ?_)
    rw [if_neg (by simp)]
    ((try dsimp -zeta -zetaUnused -zetaHave only); extract_lets -underBinder +onlyGivenNames -merge -useContext zz; subst zz; (try dsimp -zeta -zetaUnused -zetaHave only))
    exact wpS_mono (hjp _ st3 hB3 (hL2.trans hL3) (by omega) (by omega) hu3) fun r st' hh => by cases r <;> exact hh
  · exact wpS_mono (hjp _ st2 hB2 hL2 hm1 (by omega) hu2) fun r st' hh => by cases r <;> exact hh
end
end Tim

set_option Elab.async false
set_option linter.all false
set_option maxHeartbeats 1000000
/-! ### sorted(list), any size -/
namespace Tim
open PySem Srt PyProof.Rows
/-- in order, by an order of values -/
def InOrd (lt : Value → Value → Bool) (vs : List Value) : Prop := vs.Pairwise fun x y => lt y x = false
def onKeys (lt : Value → Value → Bool) : Keyed → Keyed → Bool := fun p q => lt p.1 q.1
theorem onKeys_ord {lt : Value → Value → Bool} (O : Ord lt) : Ord (onKeys lt) := ⟨fun x y => O.asym x.1 y.1, fun x y z => O.trans x.1 y.1 z.1⟩
section
variable {prog : Program} {w : World} {A : Around} {E : Value → Shared → Prop} {s : Shared} {lt : Value → Value → Bool}
/-- what the comparisons of these values answer at a state -/
def AskV (prog : Program) (w : World) (A : Around) (lt : Value → Value → Bool) (vs : List Value) (s : Shared) : Prop :=
  ∃ κ, (∀ (E : Value → Shared → Prop) (Q : SortKind → Shared → Prop), Q κ s → wpAny (model prog w) A (keyKind' vs.toArray) Q E s) ∧
    ∀ x ∈ vs, ∀ y ∈ vs, ∀ (E : Value → Shared → Prop) (Q : Bool → Shared → Prop), Q (lt x y) s → wpAny (model prog w) A (keyLt' κ x y) Q E s
theorem out_of {vs : List Value} {xs : Array Keyed} (hp : xs.toList.Perm (pairsOf vs).toList) (hu : Up (onKeys lt) xs 0 (pairsOf vs).size) (O : Ord lt) : ∃ us : List Value, xs.map (·.2) = us.toArray ∧ us.Perm vs ∧ InOrd lt us := by
  rw [pairsOf_toList] at hp
  have hm : ∀ p ∈ xs.toList, p.1 = p.2 := fun p hp' => (mem_zip_self (hp.mem_iff.mp hp')).1
  refine ⟨xs.toList.map (·.1), ?_, ?_, ?_⟩
  · apply Array.toList_inj.mp
    rw [Array.toList_map]
    exact List.map_congr_left fun p hp' => (hm p hp').symm
  · have := hp.map (·.1)
    rwa [List.map_fst_zip (Nat.le_refl _)] at this
  · have hsz : xs.size = (pairsOf vs).size := by
      have := hp.length_eq
      rw [← pairsOf_toList] at this
      simpa using this
    have sd : Sd (onKeys lt) xs.toList := by
      refine Sd.of _ (fun i x y hx hy => ?_) (onKeys_ord O)
      obtain ⟨a1, rfl⟩ := of_list hx
      obtain ⟨a2, rfl⟩ := of_list hy
      have := hu i (i + 1) (by omega) (by omega)
      rwa [Nat.zero_add, Nat.zero_add] at this
    exact List.pairwise_map.mpr sd
theorem sort_any {a : Addr} {vs : List Value} {n : Nat} {P : Fin → Shared → Prop} (O : Ord lt) (ho : s.heap.get? a = some (seqObj "list" vs.toArray n)) (hz : vs.length ≤ 100000)
    (hk : 2 ≤ vs.length → ∀ h' : Heap, (∀ b o, b ≠ a → s.heap.get? b = some o → h'.get? b = some o) → AskV prog w A lt vs { s with heap := h' })
    (h : ∀ us : List Value, us.Perm vs → InOrd lt us → P (.done (.ret .none)) { s with heap := sortedHeap s.heap a vs us.toArray }) : wpAny (model prog w) A (Builtin.«list.sort» ⟨[.ref a], []⟩) P E s := by
  rw [list_sort_plain]
  have ha : a < s.heap.objs.size := Heap.lt_size ho
  have z1 : vs.toArray.size ≤ sizeLine := by rw [List.size_toArray, sizeLine_eq]; omega
  refine wpAny_bind (listItems_at ho rfl (wpAny_bind (listUpdate_at ho rfl ?_ z1 (Nat.zero_le _))))
  obtain ⟨e1, g1⟩ : ∃ e1, (s.heap.update a (Obj.mapSeq fun _ => (#[] : Array Value))).get? a = some (seqObj "list" #[] e1) := ⟨_, get?_update_seq ho (fun _ => #[])⟩
  refine wpAny_bind (seqEpoch_at g1 rfl (wpAny_bind (wpAny_newTuple ?_ (by rw [← List.size_toArray]; exact z1))))
  refine wpAny_bind (wpAny_newList ?_ (Nat.zero_le _))
  refine wpAny_holding ?_
  have g2 : (((s.heap.update a (Obj.mapSeq fun _ => (#[] : Array Value))).push (seqObj "tuple" vs.toArray 0)).push (seqObj "list" #[] 0)).get? a = some (seqObj "list" #[] e1) := Heap.get?_push_of_some _ (Heap.get?_push_of_some _ g1)
  have keep : ∀ b o, b ≠ a → s.heap.get? b = some o → (((s.heap.update a (Obj.mapSeq fun _ => (#[] : Array Value))).push (seqObj "tuple" vs.toArray 0)).push (seqObj "list" #[] 0)).get? b = some o := fun b o hb e =>
    Heap.get?_push_of_some _ (Heap.get?_push_of_some _ (by rw [Heap.get?_update_ne _ _ _ _ hb]; exact e))
  show wpAny (model prog w) A _ P E { s with heap := ((s.heap.update a (Obj.mapSeq fun _ => (#[] : Array Value))).push (seqObj "tuple" vs.toArray 0)).push (seqObj "list" #[] 0) }
  dsimp only
  have hk := fun h2 => hk h2 _ keep
  have done : ∀ us : List Value, us.Perm vs → InOrd lt us → P (.done (.ret .none)) { s with heap := (((s.heap.update a (Obj.mapSeq fun _ => (#[] : Array Value))).push (seqObj "tuple" vs.toArray 0)).push (seqObj "list" #[] 0)).update a (Obj.mapSeq fun _ => us.toArray) } := h
  generalize ((s.heap.update a (Obj.mapSeq fun _ => (#[] : Array Value))).push (seqObj "tuple" vs.toArray 0)).push (seqObj "list" #[] 0) = h3 at g2 hk done ⊢
  by_cases c2 : vs.toArray.size < 2
  · rw [if_pos c2, if_pos c2]
    refine wpAny_bind (wpAny_pure ?_)
    rw [StateT.run_pure]
    refine wpAny_bind (wpAny_pure ?_)
    dsimp only
    have eo : (pairsOf vs).map (·.2) = vs.toArray := by
      apply Array.toList_inj.mp
      rw [Array.toList_map, pairsOf_toList, List.map_snd_zip (Nat.le_refl _)]
    have eo' : (vs.toArray.zip vs.toArray).map (·.2) = vs.toArray := eo
    refine wpAny_bind (seqEpoch_at g2 rfl (wpAny_bind (listUpdate_at g2 rfl ?_ (Nat.zero_le _) (by show (Array.map (·.2) (vs.toArray.zip vs.toArray)).size ≤ _; rw [eo']; omega))))
    simp only [bne_self_eq_false, Bool.false_eq_true, if_false]
    have := done vs (List.Perm.refl _) (by
      match vs, c2 with
      | [], _ => exact .nil
      | [v], _ => exact List.pairwise_singleton _ _
      | _ :: _ :: _, c2 => exact absurd c2 (by simp))
    refine wpAny_pure ?_
    show P (.done (.ret .none)) { s with heap := h3.update a (Obj.mapSeq fun _ => Array.map (·.2) (vs.toArray.zip vs.toArray)) }
    rw [eo']
    exact this
  · rw [if_neg c2, if_neg c2]
    obtain ⟨κ, K1, K2⟩ := hk (by simpa using c2)
    refine wpAny_bind (K1 _ _ ?_)
    have C : Asks prog w A { s with heap := h3 } κ (onKeys lt) (pairsOf vs) := fun p q hp hq E Q hQ => by
      rw [pairsOf_toList] at hp hq
      exact K2 p.1 (mem_zip_self hp).2 q.1 (mem_zip_self hq).2 E Q hQ
    refine wpAny_bind (wpAny_mono (wpS_sortAll (st := SortSt.mk' κ (vs.toArray.zip vs.toArray) #[] 7 none) (a₀ := pairsOf vs)
      (Q := fun _ st' => (arrOf st').toList.Perm (pairsOf vs).toList ∧ failedOf st' = none ∧ Up (onKeys lt) (arrOf st') 0 (pairsOf vs).size) (onKeys_ord O) C ⟨List.Perm.refl _, rfl, rfl⟩ rfl (by rw [pairsOf_size]; simpa using c2) fun st' a1 a2 a3 => ⟨a1, a2, a3⟩) ?_ fun _ _ e => e)
    rintro ⟨⟨⟩, st'⟩ s' ⟨rfl, hp, hf, hu⟩
    obtain ⟨us, e1, e2, e3⟩ := out_of hp hu O
    dsimp only
    refine wpAny_bind (seqEpoch_at g2 rfl (wpAny_bind (listUpdate_at g2 rfl ?_ (Nat.zero_le _) (by show (Array.map (·.2) (arrOf st')).size ≤ _; rw [e1, List.size_toArray, e2.length_eq, sizeLine_eq]; omega))))
    rw [hf]
    simp only [bne_self_eq_false, Bool.false_eq_true, if_false]
    refine wpAny_pure ?_
    show P (.done (.ret .none)) { s with heap := h3.update a (Obj.mapSeq fun _ => Array.map (·.2) (arrOf st')) }
    rw [e1]
    exact done us e2 e3
theorem sortedHeap_get {h : Heap} {a : Addr} {vs us : List Value} {n : Nat} (ho : h.get? a = some (seqObj "list" vs.toArray n)) : (∃ c, (sortedHeap h a vs us.toArray).get? a = some (seqObj "list" us.toArray c)) ∧ ∀ b o, b ≠ a → h.get? b = some o → (sortedHeap h a vs us.toArray).get? b = some o := by
  unfold sortedHeap
  have g2 : (((h.update a (Obj.mapSeq fun _ => (#[] : Array Value))).push (seqObj "tuple" vs.toArray 0)).push (seqObj "list" #[] 0)).get? a = some (seqObj "list" #[] _) := Heap.get?_push_of_some _ (Heap.get?_push_of_some _ (get?_update_seq ho fun _ => #[]))
  refine ⟨⟨_, get?_update_seq g2 fun _ => us.toArray⟩, fun b o hb e => ?_⟩
  rw [Heap.get?_update_ne _ _ _ _ hb]
  exact Heap.get?_push_of_some _ (Heap.get?_push_of_some _ (by rw [Heap.get?_update_ne _ _ _ _ hb]; exact e))
/-- sorted(l): a new list, all else as it was -/
theorem sorted_any {l : Addr} {vs : List Value} {Q : Value → Shared → Prop} (O : Ord lt) (hl : s.heap.IsList l vs.toArray) (hz : vs.length ≤ 100000)
    (hk : 2 ≤ vs.length → ∀ h' : Heap, (∀ b o, s.heap.get? b = some o → h'.get? b = some o) → AskV prog w A.in1.in1 lt vs { s with heap := h' })
    (h : ∀ (us : List Value) (h' : Heap) (c : Nat), us.Perm vs → InOrd lt us → (∀ b o, s.heap.get? b = some o → h'.get? b = some o) → h'.get? (s.heap.objs.size + 1) = some (seqObj "list" us.toArray c) → Q (.ref (s.heap.objs.size + 1)) { s with heap := h' }) :
    wpAny (model prog w) A (call (.builtin "sorted") [.ref l]) Q E s := by
  refine Calls.call_function_entry kind_sorted plain_sorted entry_sorted (args_sorted1 _) ?_
  unfold Builtin.«sorted»
  refine wpAny_bind (m := checkCount "sorted" 1 1 _) (wpAny_pure ?_)
  have z1 : vs.length ≤ sizeLine := by rw [sizeLine_eq]; omega
  refine wpAny_bind (collect_list hl ?_ z1)
  refine wpAny_bind (wpAny_newList ?_ z1)
  have hsz : ((s.heap.push (seqObj "list" #[] 0)).update s.heap.objs.size (Obj.mapSeq (· ++ vs.toArray))).objs.size = s.heap.objs.size + 1 := by rw [Heap.size_update, size_push']
  have g0 : (((s.heap.push (seqObj "list" #[] 0)).update s.heap.objs.size (Obj.mapSeq (· ++ vs.toArray))).push (seqObj "list" vs.toArray 0)).get? (s.heap.objs.size + 1) = some (seqObj "list" vs.toArray 0) := by
    rw [← hsz]; exact Heap.get?_push_size _ rfl
  have keep : ∀ b o, s.heap.get? b = some o → b ≠ s.heap.objs.size + 1 ∧ (((s.heap.push (seqObj "list" #[] 0)).update s.heap.objs.size (Obj.mapSeq (· ++ vs.toArray))).push (seqObj "list" vs.toArray 0)).get? b = some o := fun b o e => by
    have hb : b < s.heap.objs.size := Heap.lt_size e
    refine ⟨Nat.ne_of_lt (Nat.lt_succ_of_lt hb), Heap.get?_push_of_some _ ?_⟩
    rw [Heap.get?_update_ne _ _ _ _ (Nat.ne_of_lt hb)]
    exact Heap.get?_push_of_some _ e
  show wpAny _ _ _ _ _ { s with heap := ((s.heap.push (seqObj "list" #[] 0)).update s.heap.objs.size (Obj.mapSeq (· ++ vs.toArray))).push (seqObj "list" vs.toArray 0) }
  rw [hsz]
  generalize ((s.heap.push (seqObj "list" #[] 0)).update s.heap.objs.size (Obj.mapSeq (· ++ vs.toArray))).push (seqObj "list" vs.toArray 0) = h2 at g0 keep ⊢
  refine wpAny_bind (wpAny_holding (wpAny_call_entry slot_list_sort ⟨_, g0, rfl⟩ entry_list_sort (sort_any (s := { s with heap := h2 }) O g0 hz (fun h2 h' hh => hk h2 h' fun b o e => hh b o (keep b o e).1 (keep b o e).2) fun us a1 a2 => ⟨_, rfl, ?_⟩) (args_list_sort _)))
  obtain ⟨⟨c, q1⟩, q2⟩ := sortedHeap_get (us := us) g0
  exact wpAny_pure ⟨_, rfl, h us _ c a1 a2 (fun b o e => q2 b o (keep b o e).1 (keep b o e).2) q1⟩
end
end Tim

set_option Elab.async false
set_option linter.all false
set_option maxRecDepth 100000
set_option maxHeartbeats 1000000
/-! ### a set put into a list, sorted(set) -/
namespace Stb
open PySem PyProof.Rows
section
variable {prog : Program} {w : World} {A : Around} {E : Value → Shared → Prop} {s : Shared} {I a : Addr} {o : Obj} {es : Array (Int × Value)} {ep : Nat} {t : SetTable}
theorem iter_set {Q : Value → Shared → Prop} (x : SetAt prog w s.heap a o es ep t) (hg : Good t (ledOf w)) (hz : es.size ≤ sizeLine)
    (h : ∀ (I : Addr) (f : Nat → Value) (vs : List Value) (ts : List (Addr × Obj)) (h' : Heap) (d : Drawn), Road w a es ep t f vs ts → Sti a o es.size ep I f ts 0 h' → (∀ c u, s.heap.get? c = some u → h'.get? c = some u) → s.heap.objs.size ≤ I → (∀ p ∈ ts, p.1 ≠ I ∧ s.heap.objs.size ≤ p.1) →
      Q (.ref I) { s with heap := h', drawn := d }) : wpAny (model prog w) A (pyIter (.ref a)) Q E s := by
  have hT : s.TypeIs (.ref a) "set" := ⟨o, x.get, x.ex.1⟩
  refine wpAny_pyIter_slot hT PySem.F.slot_set_iter (wpAny_call_entry PySem.F.slot_set_iter hT entry_s_iter ?_ (PySem.F.args_set_iter_1 _))
  unfold Builtin.«frozenset.__iter__» Builtin.Frozenset.slot0 slotArgs
  simp only [List.isEmpty_nil, Bool.not_true, Bool.false_eq_true, ↓reduceIte, bind_assoc, List.length_nil, bne_self_eq_false]
  unfold Builtin.Frozenset.addrOf Builtin.Frozenset.sizeOf
  refine wpAny_bind (wpAny_pure ?_)
  (try dsimp only)
  refine wpAny_bind (wpAny_pure ?_)
  refine wpAny_bind (wpAny_bind (wpAny_setEntries_of x.get x.dat x.fits (wpAny_pure ?_)))
  unfold setDrawn
  refine wpAny_bind (wpAny_bind (wpAny_setState_of x.get x.dat x.fits ?_))
  dsimp only
  refine wpAny_bind (wp_byText (wpAny_pure ?_))
  show wpAny _ _ (if (!w.params.followText "set-order" && (!t.plain && decide (es.size > 1))) = true then _ else _) _ _ _
  -- the iterator itself
  have mk : ∀ (f : Nat → Value) (vs : List Value) (ts : List (Addr × Obj)) (h1 : Heap) (d : Drawn), Road w a es ep t f vs ts → (∀ c u, s.heap.get? c = some u → h1.get? c = some u) → s.heap.objs.size ≤ h1.objs.size → (∀ p ∈ ts, h1.get? p.1 = some p.2 ∧ s.heap.objs.size ≤ p.1) →
      wpAny (model prog w) A.in1 (do
        let e ← setEpoch a
        let it ← newFields "set_iterator" [f 0, rawInt 0, .ref a, rawInt (es.size : Nat), rawInt (e : Nat)]
        ret it) (fun fin s' => ∃ r, fin = PySem.Fin.done (.ret r) ∧ ∃ T' r', s'.TypeIs r T' ∧ typeLookup (.type T') "__next__" = pure (some r') ∧ Q r s') E { s with heap := h1, drawn := d } := fun f vs ts h1 d hr k1 k2 k3 => by
    refine wpAny_bind (wpAny_setEpoch_of (s := { s with heap := h1, drawn := d }) (k1 _ _ x.get) x.dat x.fits ?_)
    unfold newFields
    refine wpAny_bind (wpAny_newObj_type (wpAny_pure ⟨_, rfl, "set_iterator", _, ⟨_, Heap.get?_push_size _ rfl, rfl⟩, slot_si_next.lookup, ?_⟩))
    refine h h1.objs.size f vs ts _ d hr ⟨Heap.get?_push_size _ rfl, Heap.get?_push_of_some _ (k1 _ _ x.get), fun p hp => Heap.get?_push_of_some _ (k3 p hp).1⟩ (fun c u e => Heap.get?_push_of_some _ (k1 c u e)) k2 fun p hp => ⟨Nat.ne_of_lt (Heap.lt_size (k3 p hp).1), (k3 p hp).2⟩
  by_cases hb : w.params.followText "set-order" = true
  · rw [hb]
    simp only [Bool.not_true, Bool.false_and, Bool.false_eq_true, if_false]
    exact wpAny_bind (wpAny_pure (mk (fun _ => .int 0 0) _ [] s.heap s.drawn (.text hb) (fun _ _ e => e) (Nat.le_refl _) fun p hp => by simp at hp))
  · have hb' : w.params.followText "set-order" = false := by simpa using hb
    have hl : t.led = true := by rw [hg.led]; unfold ledOf; rw [hb']; rfl
    rw [hb']
    simp only [Bool.not_false, Bool.true_and]
    by_cases hd : (!t.plain && decide (es.size > 1)) = true
    · rw [if_pos hd]
      refine wpAny_bind (wp_draw es.size (List.range es.size) s (by simp) fun ps d hp => ?_)
      refine wpAny_bind (wpAny_newTuple ?_ (by rw [List.length_map, hp.length_eq, List.length_range]; exact hz))
      refine mk (fun _ => .ref s.heap.objs.size) _ [(s.heap.objs.size, { cls := .type "tuple", data := .seq (ps.map fun i : Nat => rawInt i).toArray })] _ d (.drawn hp rfl) (fun c u e => Heap.get?_push_of_some _ e) (by rw [Heap.size_push]; exact Nat.le_succ _) fun p hp => ?_
      rw [List.mem_singleton.mp hp]
      exact ⟨Heap.get?_push_size _ rfl, Nat.le_refl _⟩
    · rw [if_neg hd]
      have hd' : (!t.plain && decide (es.size > 1)) = false := by simpa using hd
      have hr : Rise t.place := by
        cases hp : t.plain with
        | true => exact hg.rise hp
        | false =>
          rw [hp] at hd'
          have hpl : t.place.size = es.size := by
            have hf := x.fits
            unfold SetTable.fits at hf
            rw [Bool.and_eq_true, beq_iff_eq] at hf
            exact hf.1
          simp at hd'
          intro i j h1 h2
          omega
      exact wpAny_bind (wpAny_pure (mk (fun i => match i with | 0 => .int 0 0 | i + 1 => .int (t.place.getD i 0 + 1 : Nat) 0) _ [] s.heap s.drawn (.slots hb' hd' hl hr) (fun _ _ e => e) (Nat.le_refl _) fun p hp => by simp at hp))
theorem hint_set {Q : Bool → Shared → Prop} (hT : s.TypeIs (.ref a) "set") (h : Q false s) : wpAny (model prog w) A (Builtin.List.listLengthHint (.ref a)) Q E s := by
  unfold Builtin.List.listLengthHint
  refine wpAny_bind (wpAny_specialOf hT PySem.F.slot_set_len.lookup ?_)
  generalize hid : ("set.__len__" : String) = id0
  wp_delta
  rw [show splitId id0 = some ("set", "__len__") from by subst hid; decide +kernel]
  subst hid
  refine wpAny_bind (wpAny_isInstance (T := "set") (b := true) hT (by rw [isSubtype_type]; kernel_rfl) ?_)
  refine wpAny_ite_split (fun z => absurd z (by decide)) (fun _ => ?_)
  refine wpAny_ite_split (fun _ => ?_) (fun z => absurd (by decide +kernel) z)
  exact wpAny_bind (wpAny_typeOf hT (wpAny_pure h))
end
end Stb

set_option Elab.async false
set_option linter.all false
/-! ### rooms given out turn by turn -/
namespace Lg
abbrev Tr := Int × Int × Int
def lexlt (x y : Tr) : Bool := decide (x.1 < y.1) || (decide (x.1 = y.1) && (decide (x.2.1 < y.2.1) || (decide (x.2.1 = y.2.1) && decide (x.2.2 < y.2.2))))
theorem lex_iff {x y : Tr} : lexlt x y = true ↔ x.1 < y.1 ∨ (x.1 = y.1 ∧ (x.2.1 < y.2.1 ∨ (x.2.1 = y.2.1 ∧ x.2.2 < y.2.2))) := by
  unfold lexlt
  simp only [Bool.or_eq_true, Bool.and_eq_true, decide_eq_true_eq]
theorem lex_irrefl (x : Tr) : lexlt x x = false := by
  cases h : lexlt x x with
  | false => rfl
  | true => rw [lex_iff] at h; omega
theorem lex_asym (x y : Tr) (h : lexlt x y = true) : lexlt y x = false := by
  cases h' : lexlt y x with
  | false => rfl
  | true => rw [lex_iff] at h h'; omega
theorem lex_trans (x y z : Tr) (h1 : lexlt y x = false) (h2 : lexlt z y = false) : lexlt z x = false := by
  cases h' : lexlt z x with
  | false => rfl
  | true =>
    have a : ¬ lexlt y x = true := by rw [h1]; simp
    have b : ¬ lexlt z y = true := by rw [h2]; simp
    rw [lex_iff] at h' a b
    omega
theorem lex_tri {x y : Tr} (h : lexlt y x = false) (hne : x ≠ y) : lexlt x y = true := by
  rw [lex_iff]
  have a : ¬ lexlt y x = true := by rw [h]; simp
  rw [lex_iff] at a
  have : ¬ (x.1 = y.1 ∧ x.2.1 = y.2.1 ∧ x.2.2 = y.2.2) := fun ⟨e1, e2, e3⟩ => hne (Prod.ext e1 (Prod.ext e2 e3))
  omega
section
variable (rs : List Tr)
def rq (c : Nat) : Tr := rs.getD c (0, 0, 0)
def lv (c : Nat) : Tr := ((rq rs c).2.1 + 1, 0, c)
def cm (c : Nat) : Tr := ((rq rs c).1, 1, c)
def evs : List Tr := (List.range rs.length).map (lv rs) ++ (List.range rs.length).map (cm rs)
variable {rs}
theorem mem_evs {e : Tr} : e ∈ evs rs ↔ ∃ c, c < rs.length ∧ (e = lv rs c ∨ e = cm rs c) := by
  unfold evs
  rw [List.mem_append, List.mem_map, List.mem_map]
  constructor
  · rintro (⟨c, h, rfl⟩ | ⟨c, h, rfl⟩)
    · exact ⟨c, List.mem_range.mp h, .inl rfl⟩
    · exact ⟨c, List.mem_range.mp h, .inr rfl⟩
  · rintro ⟨c, h, rfl | rfl⟩
    · exact .inl ⟨c, List.mem_range.mpr h, rfl⟩
    · exact .inr ⟨c, List.mem_range.mpr h, rfl⟩
theorem lv_inj {c d : Nat} (h : lv rs c = lv rs d) : c = d := by
  have : (c : Int) = d := congrArg (·.2.2) h
  omega
theorem cm_inj {c d : Nat} (h : cm rs c = cm rs d) : c = d := by
  have : (c : Int) = d := congrArg (·.2.2) h
  omega
theorem lv_ne_cm {c d : Nat} : lv rs c ≠ cm rs d := fun h => by
  have : (0 : Int) = 1 := congrArg (·.2.1) h
  omega
theorem evs_nodup : (evs rs).Nodup := by
  unfold evs
  refine List.nodup_append.mpr ⟨?_, ?_, ?_⟩
  · exact List.pairwise_map.mpr (List.nodup_range.imp fun h z => h (lv_inj z))
  · exact List.pairwise_map.mpr (List.nodup_range.imp fun h z => h (cm_inj z))
  · intro x hx y hy hxy
    obtain ⟨c, _, rfl⟩ := List.mem_map.mp hx
    obtain ⟨d, _, rfl⟩ := List.mem_map.mp hy
    exact lv_ne_cm hxy
def inn (rs : List Tr) (done : List Tr) (c : Nat) : Bool := decide (cm rs c ∈ done) && !decide (lv rs c ∈ done)
theorem inn_iff {done : List Tr} {c : Nat} : inn rs done c = true ↔ cm rs c ∈ done ∧ lv rs c ∉ done := by
  unfold inn
  simp
/-- two requests have a day in common -/
def meet (x y : Tr) : Prop := x.1 ≤ y.2.1 ∧ y.1 ≤ x.2.1
def cnt (p : Nat → Bool) (n : Nat) : Nat := ((List.range n).filter p).length
theorem cnt_succ (p : Nat → Bool) (n : Nat) : cnt p (n + 1) = cnt p n + if p n = true then 1 else 0 := by
  unfold cnt
  rw [List.range_succ, List.filter_append, List.length_append]
  cases h : p n <;> simp [h]
theorem cnt_same {p q : Nat → Bool} : ∀ {n : Nat}, (∀ c, c < n → p c = q c) → cnt p n = cnt q n
  | 0, _ => rfl
  | n + 1, h => by rw [cnt_succ, cnt_succ, cnt_same fun c hc => h c (by omega), h n (by omega)]
theorem cnt_add {p q : Nat → Bool} {c : Nat} : ∀ {n : Nat}, c < n → (∀ d, d < n → d ≠ c → q d = p d) → p c = false → q c = true → cnt q n = cnt p n + 1
  | 0, h, _, _, _ => by omega
  | n + 1, h, hs, hp, hq => by
    rw [cnt_succ, cnt_succ]
    by_cases e : c = n
    · subst e
      rw [cnt_same (p := q) (q := p) fun d hd => hs d (by omega) (by omega), hp, hq]
      simp
    · rw [cnt_add (c := c) (by omega) (fun d hd hne => hs d (by omega) hne) hp hq, hs n (by omega) (fun z => e z.symm)]
      omega
theorem cnt_le {p : Nat → Bool} : ∀ {n : Nat}, cnt p n ≤ n
  | 0 => Nat.le_refl _
  | n + 1 => by
    rw [cnt_succ]
    have := cnt_le (p := p) (n := n)
    split <;> omega
theorem cnt_mono {p q : Nat → Bool} : ∀ {n : Nat}, (∀ c, c < n → p c = true → q c = true) → cnt p n ≤ cnt q n
  | 0, _ => Nat.le_refl _
  | n + 1, h => by
    rw [cnt_succ, cnt_succ]
    have := cnt_mono (p := p) (q := q) (n := n) fun c hc => h c (by omega)
    cases hp : p n with
    | false => simp; omega
    | true => rw [h n (by omega) hp]; omega
/-- the turns in order -/
structure Ordered (rs es : List Tr) : Prop where
  perm : es.Perm (evs rs)
  ord : es.Pairwise fun x y => lexlt y x = false
theorem Ordered.nodup {es : List Tr} (h : Ordered rs es) : es.Nodup := h.perm.nodup_iff.mpr evs_nodup
/-- what is done ahead of a turn is just what is less -/
theorem Ordered.before {done rest : List Tr} {e x : Tr} (h : Ordered rs (done ++ e :: rest)) (hx : x ∈ evs rs) : x ∈ done ↔ lexlt x e = true := by
  have hp := List.pairwise_append.mp h.ord
  have hn := List.nodup_append.mp h.nodup
  constructor
  · intro hd
    exact lex_tri (hp.2.2 x hd e (by simp)) fun z => hn.2.2 x hd e (by simp) z
  · intro hl
    have := h.perm.mem_iff.mpr hx
    rcases List.mem_append.mp this with hm | hm
    · exact hm
    · rcases List.mem_cons.mp hm with rfl | hm
      · rw [lex_irrefl] at hl; cases hl
      · have := (List.pairwise_cons.mp hp.2.1).1 x hm
        rw [this] at hl
        cases hl
/-- how things stand when some turns are done -/
structure St (rs done : List Tr) (lodg free : List Int) (opened : Int) : Prop where
  len : lodg.length = rs.length
  op : 0 ≤ opened
  bnd : ∀ c, c < rs.length → cm rs c ∈ done → 0 ≤ lodg.getD c 0 ∧ lodg.getD c 0 < opened
  apart : ∀ c d, c < rs.length → d < rs.length → inn rs done c = true → inn rs done d = true → c ≠ d → lodg.getD c 0 ≠ lodg.getD d 0
  fb : ∀ x ∈ free, 0 ≤ x ∧ x < opened
  fn : free.Nodup
  fi : ∀ c, c < rs.length → inn rs done c = true → lodg.getD c 0 ∉ free
  num : (cnt (inn rs done) rs.length : Int) + free.length = opened
  met : ∀ c d, c < rs.length → d < rs.length → cm rs c ∈ done → cm rs d ∈ done → c ≠ d → meet (rq rs c) (rq rs d) → lodg.getD c 0 ≠ lodg.getD d 0
theorem St.nil {n : List Int} (h : n.length = rs.length) : St rs [] n [] 0 := by
  have z : cnt (inn rs []) rs.length = 0 := by
    have : ∀ c, inn rs [] c = false := fun c => by unfold inn; simp
    have e : cnt (inn rs []) rs.length = cnt (fun _ => false) rs.length := cnt_same fun c _ => this c
    rw [e]
    unfold cnt
    simp
  refine ⟨h, Int.le_refl _, fun c _ hh => by simp at hh, fun c d _ _ hh => ?_, fun x hx => by simp at hx, .nil, fun c _ hh => ?_, by rw [z]; rfl, fun c d _ _ hh => by simp at hh⟩
  · rw [inn_iff] at hh; simp at hh
  · rw [inn_iff] at hh; simp at hh
theorem cm_lt_lv {c : Nat} (h : (rq rs c).1 ≤ (rq rs c).2.1) : lexlt (cm rs c) (lv rs c) = true := by
  rw [lex_iff]
  show (rq rs c).1 < (rq rs c).2.1 + 1 ∨ _
  omega
/-- one leaves -/
theorem St.leave {done rest : List Tr} {lodg free : List Int} {opened : Int} {c : Nat} (h : St rs done lodg free opened) (hO : Ordered rs (done ++ lv rs c :: rest)) (hc : c < rs.length) (hg : (rq rs c).1 ≤ (rq rs c).2.1) : St rs (done ++ [lv rs c]) lodg (free ++ [lodg.getD c 0]) opened := by
  have hcm : cm rs c ∈ done := (hO.before (mem_evs.mpr ⟨c, hc, .inr rfl⟩)).mpr (cm_lt_lv hg)
  have hnl : lv rs c ∉ done := fun z => by
    have := (hO.before (mem_evs.mpr ⟨c, hc, .inl rfl⟩)).mp z
    rw [lex_irrefl] at this
    cases this
  have hin : inn rs done c = true := inn_iff.mpr ⟨hcm, hnl⟩
  have cm' : ∀ d, cm rs d ∈ done ++ [lv rs c] → cm rs d ∈ done := fun d hd => by
    rcases List.mem_append.mp hd with hd | hd
    · exact hd
    · exact absurd (List.mem_singleton.mp hd).symm lv_ne_cm
  have in' : ∀ d, inn rs (done ++ [lv rs c]) d = true → inn rs done d = true ∧ d ≠ c := fun d hd => by
    rw [inn_iff] at hd ⊢
    refine ⟨⟨cm' d hd.1, fun z => hd.2 (List.mem_append_left _ z)⟩, fun z => hd.2 ?_⟩
    subst z
    simp
  have ino : ∀ d, d ≠ c → inn rs done d = true → inn rs (done ++ [lv rs c]) d = true := fun d hne hd => by
    rw [inn_iff] at hd ⊢
    refine ⟨List.mem_append_left _ hd.1, fun z => ?_⟩
    rcases List.mem_append.mp z with z | z
    · exact hd.2 z
    · exact hne (lv_inj (List.mem_singleton.mp z))
  have num' : cnt (inn rs done) rs.length = cnt (inn rs (done ++ [lv rs c])) rs.length + 1 := by
    refine cnt_add hc (fun d hd hne => ?_) ?_ hin
    · cases h1 : inn rs (done ++ [lv rs c]) d with
      | true => exact (in' d h1).1
      | false =>
        cases h2 : inn rs done d with
        | false => rfl
        | true => rw [ino d hne h2] at h1; cases h1
    · cases h1 : inn rs (done ++ [lv rs c]) c with
      | false => rfl
      | true => exact absurd rfl (in' c h1).2
  have hb := h.bnd c hc hcm
  refine ⟨h.len, h.op, fun d hd hh => h.bnd d hd (cm' d hh), fun d e hd he h1 h2 hne => h.apart d e hd he (in' d h1).1 (in' e h2).1 hne, fun x hx => ?_, ?_, fun d hd hh => ?_, ?_, fun d e hd he h1 h2 => h.met d e hd he (cm' d h1) (cm' e h2)⟩
  · rcases List.mem_append.mp hx with hx | hx
    · exact h.fb x hx
    · rw [List.mem_singleton.mp hx]; exact hb
  · refine List.nodup_append.mpr ⟨h.fn, by simp, fun x hx y hy hxy => ?_⟩
    rw [List.mem_singleton] at hy
    subst hy
    subst hxy
    exact h.fi c hc hin hx
  · intro z
    rcases List.mem_append.mp z with z | z
    · exact h.fi d hd (in' d hh).1 z
    · exact h.apart d c hd hc (in' d hh).1 hin (in' d hh).2 (List.mem_singleton.mp z)
  · have := h.num
    rw [num'] at this
    simp only [List.length_append, List.length_singleton]
    omega
theorem getD_set {l : List Int} {c d : Nat} {x : Int} (hc : c < l.length) : (l.set c x).getD d 0 = if d = c then x else l.getD d 0 := by
  simp only [List.getD_eq_getElem?_getD, List.getElem?_set]
  by_cases h : c = d
  · subst h; simp [hc]
  · rw [if_neg h, if_neg (fun z => h z.symm)]
/-- one comes, into a room that no one has who is in -/
theorem St.come {done rest : List Tr} {lodg free free' : List Int} {opened opened' x : Int} {c : Nat} (h : St rs done lodg free opened) (hO : Ordered rs (done ++ cm rs c :: rest)) (hc : c < rs.length) (hg : (rq rs c).1 ≤ (rq rs c).2.1)
    (ho : opened ≤ opened') (hx : 0 ≤ x ∧ x < opened') (hxi : ∀ d, d < rs.length → inn rs done d = true → lodg.getD d 0 ≠ x) (hf : ∀ y ∈ free', y ∈ free) (hfn : free'.Nodup) (hxf : x ∉ free') (hnum : (1 : Int) + free'.length - free.length = opened' - opened) :
    St rs (done ++ [cm rs c]) (lodg.set c x) free' opened' := by
  have hnc : cm rs c ∉ done := fun z => by
    have := (hO.before (mem_evs.mpr ⟨c, hc, .inr rfl⟩)).mp z
    rw [lex_irrefl] at this
    cases this
  have hnl : lv rs c ∉ done := fun z => by
    have := (hO.before (mem_evs.mpr ⟨c, hc, .inl rfl⟩)).mp z
    rw [lex_asym _ _ (cm_lt_lv hg)] at this
    cases this
  have lv' : ∀ d, lv rs d ∈ done ++ [cm rs c] → lv rs d ∈ done := fun d hd => by
    rcases List.mem_append.mp hd with hd | hd
    · exact hd
    · exact absurd (List.mem_singleton.mp hd) lv_ne_cm
  have cm' : ∀ d, d ≠ c → cm rs d ∈ done ++ [cm rs c] → cm rs d ∈ done := fun d hne hd => by
    rcases List.mem_append.mp hd with hd | hd
    · exact hd
    · exact absurd (cm_inj (List.mem_singleton.mp hd)) hne
  have hin : inn rs (done ++ [cm rs c]) c = true := inn_iff.mpr ⟨by simp, fun z => hnl (lv' c z)⟩
  have in' : ∀ d, d ≠ c → inn rs (done ++ [cm rs c]) d = inn rs done d := fun d hne => by
    cases h1 : inn rs done d with
    | true =>
      rw [inn_iff] at h1 ⊢
      exact ⟨List.mem_append_left _ h1.1, fun z => h1.2 (lv' d z)⟩
    | false =>
      cases h2 : inn rs (done ++ [cm rs c]) d with
      | false => rfl
      | true =>
        rw [inn_iff] at h2
        have : inn rs done d = true := inn_iff.mpr ⟨cm' d hne h2.1, fun z => h2.2 (List.mem_append_left _ z)⟩
        rw [this] at h1
        cases h1
  have hlc : c < lodg.length := by rw [h.len]; exact hc
  have at_c : (lodg.set c x).getD c 0 = x := by rw [getD_set hlc, if_pos rfl]
  have at_d : ∀ d, d ≠ c → (lodg.set c x).getD d 0 = lodg.getD d 0 := fun d hne => by rw [getD_set hlc, if_neg hne]
  have num' : cnt (inn rs (done ++ [cm rs c])) rs.length = cnt (inn rs done) rs.length + 1 := cnt_add hc (fun d _ hne => in' d hne) (by
    cases h1 : inn rs done c with
    | false => rfl
    | true => rw [inn_iff] at h1; exact absurd h1.1 hnc) hin
  -- whoever came before and is still there has another room; whoever left has no day in common
  have new : ∀ d, d < rs.length → d ≠ c → cm rs d ∈ done → meet (rq rs c) (rq rs d) → lodg.getD d 0 ≠ x := fun d hd hne hcd hm => by
    refine hxi d hd (inn_iff.mpr ⟨hcd, fun z => ?_⟩)
    have := (hO.before (mem_evs.mpr ⟨d, hd, .inl rfl⟩)).mp z
    rw [lex_iff] at this
    have t : (rq rs d).2.1 + 1 < (rq rs c).1 ∨ ((rq rs d).2.1 + 1 = (rq rs c).1 ∧ _) := this
    have := hm.1
    omega
  refine ⟨by rw [List.length_set]; exact h.len, by have := h.op; omega, fun d hd hh => ?_, fun d e hd he h1 h2 hne => ?_, fun y hy => ?_, hfn, fun d hd hh => ?_, ?_, fun d e hd he h1 h2 hne hm => ?_⟩
  · by_cases e : d = c
    · subst e; rw [at_c]; exact hx
    · rw [at_d d e]
      have := h.bnd d hd (cm' d e hh)
      omega
  · by_cases e1 : d = c
    · subst e1
      rw [at_c, at_d e fun z => hne z.symm]
      rw [in' e fun z => hne z.symm] at h2
      exact fun z => hxi e he h2 z.symm
    · rw [in' d e1] at h1
      by_cases e2 : e = c
      · subst e2
        rw [at_c, at_d d e1]
        exact hxi d hd h1
      · rw [in' e e2] at h2
        rw [at_d d e1, at_d e e2]
        exact h.apart d e hd he h1 h2 hne
  · have := h.fb y (hf y hy)
    omega
  · by_cases e : d = c
    · subst e; rw [at_c]; exact hxf
    · rw [at_d d e]
      rw [in' d e] at hh
      exact fun z => h.fi d hd hh (hf _ z)
  · have := h.num
    rw [num']
    omega
  · by_cases e1 : d = c
    · subst e1
      rw [at_c, at_d e fun z => hne z.symm]
      exact fun z => new e he (fun z => hne z.symm) (cm' e (fun z => hne z.symm) h2) hm z.symm
    · by_cases e2 : e = c
      · subst e2
        rw [at_c, at_d d e1]
        exact new d hd e1 (cm' d e1 h1) ⟨hm.2, hm.1⟩
      · rw [at_d d e1, at_d e e2]
        exact h.met d e hd he (cm' d e1 h1) (cm' e e2 h2) hne hm
/-- no room is left: all who are in, and the one who comes, ask for this day -/
theorem St.crowd {done rest : List Tr} {lodg : List Int} {opened : Int} {c : Nat} (h : St rs done lodg [] opened) (hO : Ordered rs (done ++ cm rs c :: rest)) (hc : c < rs.length) (hg : (rq rs c).1 ≤ (rq rs c).2.1) :
    opened + 1 ≤ (cnt (fun d => decide ((rq rs d).1 ≤ (rq rs c).1) && decide ((rq rs c).1 ≤ (rq rs d).2.1)) rs.length : Nat) := by
  have hnc : inn rs done c = false := by
    cases h1 : inn rs done c with
    | false => rfl
    | true =>
      rw [inn_iff] at h1
      have := (hO.before (mem_evs.mpr ⟨c, hc, .inr rfl⟩)).mp h1.1
      rw [lex_irrefl] at this
      cases this
  have e1 : cnt (fun d => inn rs done d || decide (d = c)) rs.length = cnt (inn rs done) rs.length + 1 := cnt_add hc (fun d _ hne => by simp [hne]) hnc (by simp)
  have e2 : cnt (fun d => inn rs done d || decide (d = c)) rs.length ≤ cnt (fun d => decide ((rq rs d).1 ≤ (rq rs c).1) && decide ((rq rs c).1 ≤ (rq rs d).2.1)) rs.length := by
    refine cnt_mono fun d hd hh => ?_
    rw [Bool.or_eq_true, decide_eq_true_eq] at hh
    rw [Bool.and_eq_true, decide_eq_true_eq, decide_eq_true_eq]
    rcases hh with hh | rfl
    · rw [inn_iff] at hh
      have a1 := (hO.before (mem_evs.mpr ⟨d, hd, .inr rfl⟩)).mp hh.1
      have a2 : ¬ lexlt (lv rs d) (cm rs c) = true := fun z => hh.2 ((hO.before (mem_evs.mpr ⟨d, hd, .inl rfl⟩)).mpr z)
      rw [lex_iff] at a1 a2
      have b1 : (rq rs d).1 < (rq rs c).1 ∨ ((rq rs d).1 = (rq rs c).1 ∧ _) := a1
      have b2 : ¬ ((rq rs d).2.1 + 1 < (rq rs c).1 ∨ ((rq rs d).2.1 + 1 = (rq rs c).1 ∧ ((0 : Int) < 1 ∨ _))) := a2
      constructor
      · omega
      · have : ¬ ((rq rs d).2.1 + 1 < (rq rs c).1) ∧ ¬ ((rq rs d).2.1 + 1 = (rq rs c).1) := ⟨fun z => b2 (.inl z), fun z => b2 (.inr ⟨z, .inl (by decide)⟩)⟩
        omega
    · exact ⟨Int.le_refl _, hg⟩
  have := h.num
  simp only [List.length_nil] at this
  omega
end
end Lg

set_option Elab.async false
set_option linter.all false
set_option maxRecDepth 100000
set_option maxHeartbeats 200000
/-! ### sorted(list) of ints, and of triples of ints, any size -/
namespace L2
open PySem PySem.Spec PyProof.Rows
theorem ints_nums : ∀ {ns : List Int} {us : List Value}, Vals (ns.map V.int) us → us.map numOf = ns ∧ IntsAre us ns
  | [], _, .nil => ⟨rfl, .nil⟩
  | n :: ns, _, .cons r t => by
    obtain ⟨k, rfl⟩ := r
    obtain ⟨h1, h2⟩ := ints_nums t
    exact ⟨by rw [List.map_cons, h1]; rfl, .cons n k h2⟩
theorem vals_nums : ∀ {us : List Value}, (∀ u ∈ us, ∃ n t, u = .int n t) → Vals ((us.map numOf).map V.int) us
  | [], _ => .nil
  | u :: us, h => by
    obtain ⟨n, t, rfl⟩ := h u (List.mem_cons_self ..)
    exact .cons ⟨t, rfl⟩ (vals_nums fun v hv => h v (List.mem_cons_of_mem _ hv))
def ltI (v u : Value) : Bool := decide (numOf v < numOf u)
theorem ltI_ord : Srt.Ord ltI := ⟨fun x y h => by unfold ltI at *; simp at *; omega, fun x y z h1 h2 => by unfold ltI at *; simp at *; omega⟩
section
variable {X : Cx}
def rSortI (K : PySem.W.Frag) : List V → Hp → VK → Prop := fun xs H Q => ∃ (p : Addr) (ns : List Int), xs = [.ref p] ∧ SqL K H p (ns.map V.int) ∧ ns.length ≤ 100000 ∧ ∀ ms : List Int, ms.Perm ns → ms.Pairwise (· ≤ ·) → ∀ l, H l = none → Q (.ref l) (upd H l (.lst (ms.map V.int)))
theorem askI {prog : Program} {w : World} {A : Around} {s : Shared} : ∀ {its : List Value} {ns : List Int}, IntsAre its ns → 2 ≤ its.length → Tim.AskV prog w A ltI its s
  | [], _, _, h => by simp at h
  | [_], _, _, h => by simp at h
  | v₁ :: v₂ :: vs, ns, hI, _ => by
    refine ⟨oneType', fun E Q hq => ?_, fun x hx y hy E Q hq => ?_⟩
    · rw [keyKind_ints hI]
      exact wpAny_pure hq
    · obtain ⟨a, t, rfl⟩ := hI.all x hx
      obtain ⟨b, t', rfl⟩ := hI.all y hy
      rw [keyLt'_oneType]
      exact oneLt_int hq
/-- the key of a value that is an address -/
def keyV (key : Addr → Lg.Tr) : Value → Lg.Tr
  | .ref a => key a
  | _ => (0, 0, 0)
def ltT (key : Addr → Lg.Tr) (v u : Value) : Bool := Lg.lexlt (keyV key v) (keyV key u)
theorem ltT_ord (key : Addr → Lg.Tr) : Srt.Ord (ltT key) := ⟨fun x y => Lg.lex_asym _ _, fun x y z => Lg.lex_trans _ _ _⟩
def tripV3 (r : Lg.Tr) : List V := [.int r.1, .int r.2.1, .int r.2.2]
def rSortT (K : PySem.W.Frag) : List V → Hp → VK → Prop := fun xs H Q => ∃ (p : Addr) (ps : List Addr) (key : Addr → Lg.Tr), xs = [.ref p] ∧ SqL K H p (ps.map V.ref) ∧ ps.length ≤ 100000 ∧ (∀ a ∈ ps, SqT K H a (tripV3 (key a))) ∧
  ∀ qs : List Addr, qs.Perm ps → qs.Pairwise (fun a b => Lg.lexlt (key b) (key a) = false) → ∀ l, H l = none → Q (.ref l) (upd H l (.lst (qs.map V.ref)))
theorem vals_refs : ∀ {ps : List Addr} {us : List Value}, Vals (ps.map V.ref) us → us = ps.map Value.ref
  | [], _, .nil => rfl
  | p :: ps, _, .cons r t => by
    cases r
    rw [vals_refs t]
    rfl
theorem refs_vals : ∀ (ps : List Addr), Vals (ps.map V.ref) (ps.map Value.ref)
  | [] => .nil
  | p :: ps => .cons rfl (refs_vals ps)
theorem lex_ask {prog : Program} {w : World} {A : Around} {E : Value → Shared → Prop} {s : Shared} {x y : Addr} {a b : Lg.Tr} {t1 t2 t3 u1 u2 u3 : Tok} {Q : Bool → Shared → Prop}
    (hx : IsTup s.heap x #[.int a.1 t1, .int a.2.1 t2, .int a.2.2 t3]) (hy : IsTup s.heap y #[.int b.1 u1, .int b.2.1 u2, .int b.2.2 u3]) (h : Q (Lg.lexlt a b) s) : wpAny (model prog w) A (keyLt' (tuples' true) (.ref x) (.ref y)) Q E s := by
  obtain ⟨ox, g1, _, n1, d1⟩ := hx
  obtain ⟨oy, g2, _, n2, d2⟩ := hy
  refine PySem.W.kat_lt g1 d1 g2 d2 ?_
  unfold Lg.lexlt at h
  refine PySem.W.kat_cons (wpAny_eqBool_int ?_)
  by_cases e1 : a.1 = b.1
  · rw [show (a.1 == b.1) = true by simpa using e1]
    refine PySem.W.kat_yes (PySem.W.kat_cons (wpAny_eqBool_int ?_))
    by_cases e2 : a.2.1 = b.2.1
    · rw [show (a.2.1 == b.2.1) = true by simpa using e2]
      refine PySem.W.kat_yes (PySem.W.kat_cons (wpAny_eqBool_int ?_))
      by_cases e3 : a.2.2 = b.2.2
      · rw [show (a.2.2 == b.2.2) = true by simpa using e3]
        refine PySem.W.kat_yes (PySem.W.kat_nil ?_)
        have : (decide (a.1 < b.1) || decide (a.1 = b.1) && (decide (a.2.1 < b.2.1) || decide (a.2.1 = b.2.1) && decide (a.2.2 < b.2.2))) = false := by simp [e1, e2, e3]
        rw [this] at h
        exact h
      · rw [show (a.2.2 == b.2.2) = false by simpa using e3]
        refine PySem.W.kat_no (PySem.W.kat_one _ _ (PyProof.Rows.lt_int ?_))
        have : (decide (a.1 < b.1) || decide (a.1 = b.1) && (decide (a.2.1 < b.2.1) || decide (a.2.1 = b.2.1) && decide (a.2.2 < b.2.2))) = decide (a.2.2 < b.2.2) := by simp [e1, e2]
        rw [this] at h
        exact h
    · rw [show (a.2.1 == b.2.1) = false by simpa using e2]
      refine PySem.W.kat_no (PySem.W.kat_one _ _ (PyProof.Rows.lt_int ?_))
      have : (decide (a.1 < b.1) || decide (a.1 = b.1) && (decide (a.2.1 < b.2.1) || decide (a.2.1 = b.2.1) && decide (a.2.2 < b.2.2))) = decide (a.2.1 < b.2.1) := by simp [e1, e2]
      rw [this] at h
      exact h
  · rw [show (a.1 == b.1) = false by simpa using e1]
    refine PySem.W.kat_no (oneLt_int ?_)
    have : (decide (a.1 < b.1) || decide (a.1 = b.1) && (decide (a.2.1 < b.2.1) || decide (a.2.1 = b.2.1) && decide (a.2.2 < b.2.2))) = decide (a.1 < b.1) := by simp [e1]
    rw [this] at h
    exact h
theorem kat_all {h : Heap} {g : Addr → Value} : ∀ (ps : List Addr), (∀ a ∈ ps, ∃ o xs n, h.get? a = some o ∧ o.cls = .type "tuple" ∧ o.data = .seq xs n ∧ xs[0]? = some (g a)) → PySem.W.KatTups h (ps.map Value.ref) (ps.map g)
  | [], _ => trivial
  | p :: ps, H => by
    obtain ⟨o, xs, n, h1, h2, h3, h4⟩ := H p (List.mem_cons_self ..)
    exact PySem.W.KatTups.cons h1 h2 h3 h4 (kat_all ps fun a ha => H a (List.mem_cons_of_mem _ ha))
theorem askT {prog : Program} {w : World} {A : Around} {s : Shared} {ps : List Addr} {key : Addr → Lg.Tr} (tup : ∀ a ∈ ps, ∃ t1 t2 t3, IsTup s.heap a #[.int (key a).1 t1, .int (key a).2.1 t2, .int (key a).2.2 t3]) (hne : 0 < ps.length) : Tim.AskV prog w A (ltT key) (ps.map Value.ref) s := by
  refine ⟨tuples' true, fun E Q hq => ?_, fun x hx y hy E Q hq => ?_⟩
  · have : ∃ g : Addr → Value, ∀ a ∈ ps, (∃ o xs n, s.heap.get? a = some o ∧ o.cls = .type "tuple" ∧ o.data = .seq xs n ∧ xs[0]? = some (g a)) ∧ ∃ n t, g a = .int n t := by
      refine ⟨fun a => if ha : a ∈ ps then .int (key a).1 (Classical.choose (tup a ha)) else .none, fun a ha => ?_⟩
      obtain ⟨t2, t3, o, g, c, n, d⟩ := Classical.choose_spec (tup a ha)
      exact ⟨⟨o, _, n, g, c, d, by simp [ha]⟩, by simp [ha]⟩
    obtain ⟨g, hg⟩ := this
    refine PySem.W.kat_kind (T := .type "int") (kat_all ps fun a ha => (hg a ha).1) (by rw [List.length_map]; exact hne) (fun v hv => ?_) rfl hq
    obtain ⟨a, ha, rfl⟩ := List.mem_map.mp hv
    obtain ⟨_, n, t, e⟩ := hg a ha
    rw [e]
    exact PySem.W.Looks.of_pure rfl
  · obtain ⟨a, ha, rfl⟩ := List.mem_map.mp hx
    obtain ⟨b, hb, rfl⟩ := List.mem_map.mp hy
    obtain ⟨_, _, _, ta⟩ := tup a ha
    obtain ⟨_, _, _, tb⟩ := tup b hb
    exact lex_ask ta tb hq
theorem refs_back {ps : List Addr} {us : List Value} (hp : us.Perm (ps.map Value.ref)) : ∃ qs : List Addr, us = qs.map Value.ref ∧ qs.Perm ps := by
  let back : Value → Addr := fun v => match v with | .ref a => a | _ => 0
  have e : ∀ l : List Addr, (l.map Value.ref).map back = l := fun l => by rw [List.map_map]; exact List.map_id'' (fun _ => rfl) l
  refine ⟨us.map back, ?_, ?_⟩
  · rw [List.map_map]
    have : us.map (Value.ref ∘ back) = us.map id := List.map_congr_left fun u hu => by
      obtain ⟨a, _, rfl⟩ := List.mem_map.mp (hp.mem_iff.mp hu)
      rfl
    rw [this, List.map_id]
  · have := hp.map back
    rwa [e] at this
theorem trip_its {r : Lg.Tr} {its : List Value} (h : Vals (tripV3 r) its) : ∃ t1 t2 t3, its = [.int r.1 t1, .int r.2.1 t2, .int r.2.2 t3] := by
  unfold tripV3 at h
  cases h with
  | cons r1 h =>
    cases h with
    | cons r2 h =>
      cases h with
      | cons r3 h =>
        cases h
        obtain ⟨t1, rfl⟩ := r1
        obtain ⟨t2, rfl⟩ := r2
        obtain ⟨t3, rfl⟩ := r3
        exact ⟨t1, t2, t3, rfl⟩
theorem call_sortT : CallR X (.builtin "sorted") (rSortT X.K) := by
  intro pins s σ H xs us Q I r h
  obtain ⟨p, ps, key, rfl, hl, hz, ht, q⟩ := h
  obtain ⟨u, rfl, ru⟩ := vals1 r
  cases ru
  obtain ⟨its, rv, pl, _⟩ := I.list hl
  have ei := vals_refs rv
  subst ei
  have tup : ∀ a ∈ ps, ∃ t1 t2 t3, IsTup s.heap a #[.int (key a).1 t1, .int (key a).2.1 t2, .int (key a).2.2 t3] := fun a ha => by
    obtain ⟨its, rv, tp, _⟩ := I.tuple (ht a ha)
    obtain ⟨t1, t2, t3, rfl⟩ := trip_its rv
    exact ⟨t1, t2, t3, tp⟩
  refine Tim.sorted_any (lt := ltT key) (ltT_ord key) pl.isList (by rw [List.length_map]; exact hz) (fun h2 h' hk => ?_) fun us h' c hp ho hk hg => ?_
  · refine askT (fun a ha => ?_) (by rw [List.length_map] at h2; omega)
    obtain ⟨t1, t2, t3, o, g, r⟩ := tup a ha
    exact ⟨t1, t2, t3, o, hk a o g, r⟩
  · obtain ⟨qs, rfl, hqp⟩ := refs_back hp
    have z1 : (qs.map V.ref).length ≤ sizeLine := by
      rw [List.length_map, hqp.length_eq, sizeLine_eq]
      omega
    have I2 := I.laid (a := s.heap.objs.size + 1) (o := .lst (qs.map V.ref)) (t' := s.toks) hk (Nat.le_succ _) ⟨z1, _, c, refs_vals qs, hg⟩
    exact ⟨.ref (s.heap.objs.size + 1), _, I2, rfl, q qs hqp (List.pairwise_map.mp ho) _ (I.hok.fresh (Nat.le_succ _))⟩
end
end L2

set_option Elab.async false
set_option linter.all false
set_option maxRecDepth 100000
set_option maxHeartbeats 1000000
namespace Stb
open PySem PyProof.Rows
section
variable {prog : Program} {w : World} {A : Around} {E : Value → Shared → Prop} {s : Shared} {a : Addr}
/-- the set's ints in some order, all else as it was -/
theorem collect_set {l : List Int} {Q : List Value → Shared → Prop} (hh : A.handled = none) (hx : SX prog w s.heap a l (ledOf w))
    (hQ : ∀ us h' tk d, (∃ ms : List Int, IntsAre us ms ∧ ms.Perm l) → s.heap.objs.size < h'.objs.size → (∀ c u, s.heap.get? c = some u → h'.get? c = some u) → Q us { s with heap := h', toks := tk, drawn := d }) : wpAny (model prog w) A (collect (.ref a)) Q E s := by
  obtain ⟨o, es, ep, t, ho, hex, hd, hel, hp, hb, hf, hg⟩ := hx
  have ha : a < s.heap.objs.size := Heap.lt_size ho
  have hsz := size_of hp
  have z0 : es.size ≤ sizeLine := fits_of_scanBound (by rw [hsz]; exact hb)
  unfold collect
  refine wpAny_bind (wpAny_runValue (codeAny_builtin PySem.F.entry_proto_collect ?_))
  rw [Around.under_plainId PySem.F.plain_proto_collect _]
  show wpAny _ A.in1 (newList [] >>= fun l => again (.builtin "list.__iadd__" ⟨[l, .ref a], []⟩)) _ _ s
  refine wpAny_bind (wpAny_newObj_type (wpAny_pure ⟨plainId_quiet PySem.F.plain_list_iadd _, codeAny_builtin PySem.F.entry_list_iadd ?_⟩))
  rw [Around.under_plainId PySem.F.plain_list_iadd _]
  show wpAny _ A.in1 (Builtin.List.listExtendWith (.ref s.heap.objs.size) (.ref a) (.ref s.heap.objs.size)) _ _ _
  have gS : (s.heap.push { cls := .type "list", data := .seq ([] : List Value).toArray }).get? s.heap.objs.size = some { cls := .type "list", data := .seq ([] : List Value).toArray } := Heap.get?_push_size _ rfl
  have ga : (s.heap.push { cls := .type "list", data := .seq ([] : List Value).toArray }).get? a = some o := Heap.get?_push_of_some _ ho
  have kp : ∀ c u, s.heap.get? c = some u → (s.heap.push { cls := .type "list", data := .seq ([] : List Value).toArray }).get? c = some u := fun c u e => Heap.get?_push_of_some _ e
  have sS : (s.heap.push { cls := .type "list", data := .seq ([] : List Value).toArray }).objs.size = s.heap.objs.size + 1 := size_push' _ _
  generalize s.heap.push { cls := .type "list", data := .seq ([] : List Value).toArray } = h1 at gS ga kp sS ⊢
  have hT : ∀ h2 : Heap, ∀ d, h2.get? a = some o → Shared.TypeIs { s with heap := h2, drawn := d } (.ref a) "set" := fun h2 d e => ⟨o, e, hex.1⟩
  unfold Builtin.List.listExtendWith
  refine wpAny_bind (wpAny_typeOf (T := "set") (hT h1 s.drawn ga) ?_)
  have q1 : Builtin.List.listSameRef (.ref s.heap.objs.size) (.ref a) = false := by simp [Builtin.List.listSameRef, Nat.ne_of_gt ha]
  have q2 : (Value.type "set" == Value.type "list") = false := by decide
  have q3 : (Value.type "set" == Value.type "tuple") = false := by decide
  simp only [q1, q2, q3, Bool.or_false, Bool.false_eq_true, if_false]
  have x1 : SetAt prog w h1 a o es ep t := ⟨ga, hex, hd, hf⟩
  refine wpAny_bind (iter_set (s := { s with heap := h1 }) x1 hg z0 fun I f vs ts h2 d hr st k2 sI hts => ?_)
  have hIS : s.heap.objs.size ≠ I := fun z => by
    have : s.heap.objs.size + 1 ≤ I := by rw [← sS]; exact sI
    rw [← z] at this
    exact absurd this (Nat.not_succ_le_self _)
  have hSf : s.heap.objs.size ∉ I :: a :: ts.map (·.1) := fun hm => by
    rcases List.mem_cons.mp hm with e | hm
    · exact hIS e
    · rcases List.mem_cons.mp hm with e | hm
      · exact absurd ha (by rw [← e]; exact Nat.lt_irrefl _)
      · obtain ⟨p, hp', e⟩ := List.mem_map.mp hm
        have : s.heap.objs.size + 1 ≤ p.1 := by rw [← sS]; exact (hts p hp').2
        rw [e] at this
        exact absurd this (Nat.not_succ_le_self _)
  have hIa : a ≠ I := fun z => by
    have : s.heap.objs.size + 1 ≤ I := by rw [← sS]; exact sI
    rw [← z] at this
    exact absurd this (Nat.not_le_of_lt (Nat.lt_succ_of_lt ha))
  refine wpAny_bind (wpAny_holding (hint_set (hT h2 d st.2.1) ?_))
  have W := walks_set (prog := prog) (w := w) (A := A.in1) (o := o) (I := I) hh hr hex hd hf hIa fun p hp' => (hts p hp').1
  have nv : vs.length = es.size := by rw [hr.perm.length_eq]; simp
  have asInts : ∀ acc : Array Value, ItemsOf (fun i v => vs[i]? = some v) acc vs.length → ∃ ms : List Int, IntsAre acc.toList ms ∧ ms.Perm l := fun acc hacc => by
    have ev : acc.toList = vs := by
      apply List.ext_getElem?
      intro i
      by_cases hi : i < acc.size
      · rw [Array.getElem?_toList, getElem?_pos acc i hi]
        exact (hacc.2 i _ (getElem?_pos acc i hi)).symm
      · rw [List.getElem?_eq_none (by simpa using hi), List.getElem?_eq_none (by rw [← hacc.1]; omega)]
    rw [ev]
    have hall : ∀ v ∈ vs, ∃ n t, v = .int n t := fun v hv => by
      obtain ⟨e, he, rfl⟩ := List.mem_map.mp (hr.perm.mem_iff.mp hv)
      obtain ⟨⟨k, hk, _⟩, _⟩ := hel e he
      obtain ⟨t', e'⟩ := is_num hk
      exact ⟨k, t', e'⟩
    refine ⟨vs.map numOf, intsAre_map vs hall, ?_⟩
    refine (hr.perm.map numOf).trans ?_
    rw [List.map_map]
    exact hp
  refine wpAny_ite_split (fun _ => ?_) (fun _ => ?_)
  · refine wpAny_bind (wpAny_rule (wpAny_bind ?_))
    show wpAny _ _ (updateSeq s.heap.objs.size (·.push .none) >>= fun _ => updateSeq s.heap.objs.size (·.pop)) _ _ _
    have g2 : h2.get? s.heap.objs.size = some { cls := .type "list", data := .seq ([] : List Value).toArray } := k2 _ _ gS
    refine wpAny_bind (wpAny_updateSeq g2 rfl ?_)
    have g2' := Heap.get?_update_self (Obj.mapSeq (·.push Value.none)) g2 rfl
    refine wpAny_updateSeq (hz := by seq_fits) g2' rfl ?_
    have g3 := Heap.get?_update_self (Obj.mapSeq (·.pop)) g2' rfl
    have oth : ∀ b u, b ≠ s.heap.objs.size → h2.get? b = some u → ((h2.update s.heap.objs.size (Obj.mapSeq (·.push Value.none))).update s.heap.objs.size (Obj.mapSeq (·.pop))).get? b = some u := fun b u hb e => (Heap.get?_update_other _ _ (Ne.symm hb)).trans ((Heap.get?_update_other _ _ (Ne.symm hb)).trans e)
    have st3 := W.frame 0 h2 ((h2.update s.heap.objs.size (Obj.mapSeq (·.push Value.none))).update s.heap.objs.size (Obj.mapSeq (·.pop))) st fun b hb u e => oth b u (fun z => hSf (z ▸ hb)) e
    have k3 : ∀ b u, s.heap.get? b = some u → ((h2.update s.heap.objs.size (Obj.mapSeq (·.push Value.none))).update s.heap.objs.size (Obj.mapSeq (·.pop))).get? b = some u := fun b u e => oth b u (Nat.ne_of_lt (Heap.lt_size e)) (k2 b u (kp b u e))
    refine wpAny_pure ⟨plainId_quiet PySem.F.plain_extend_loop _, codeAny_extend_loopS W.toS (by omega) _ hSf _ vs.length 0 _ _ _ rfl (Nat.zero_le _) st3 g3 (ItemsOf.nil _) fun s' acc c' hm gS' hacc => ?_⟩
    show wpAny _ A (load s.heap.objs.size >>= _) _ _ s'
    refine wpAny_bind (wpAny_load gS' (wpAny_pure ?_))
    rw [Moved.eq_with hm]
    refine hQ acc.toList s'.heap s'.toks d (asInts acc hacc) (Heap.lt_size gS') fun c u e => hm.heap c u (fun hmem => ?_) (k3 c u e)
    rcases List.mem_cons.mp hmem with e' | hmem
    · exact absurd (Heap.lt_size e) (by rw [e']; exact Nat.lt_irrefl _)
    · have hcI : c = I := List.mem_singleton.mp hmem
      have h5 : s.heap.objs.size + 1 ≤ I := by rw [← sS]; exact sI
      exact absurd (Heap.lt_size e) (by rw [hcI]; exact Nat.not_lt_of_le (Nat.le_of_succ_le h5))
  · have g3 : h2.get? s.heap.objs.size = some { cls := .type "list", data := .seq ([] : List Value).toArray } := k2 _ _ gS
    have st3 := st
    have k3 : ∀ b u, s.heap.get? b = some u → h2.get? b = some u := fun b u e => k2 b u (kp b u e)
    refine wpAny_pure ⟨plainId_quiet PySem.F.plain_extend_loop _, codeAny_extend_loopS W.toS (by omega) _ hSf _ vs.length 0 _ _ _ rfl (Nat.zero_le _) st3 g3 (ItemsOf.nil _) fun s' acc c' hm gS' hacc => ?_⟩
    show wpAny _ A (load s.heap.objs.size >>= _) _ _ s'
    refine wpAny_bind (wpAny_load gS' (wpAny_pure ?_))
    rw [Moved.eq_with hm]
    refine hQ acc.toList s'.heap s'.toks d (asInts acc hacc) (Heap.lt_size gS') fun c u e => hm.heap c u (fun hmem => ?_) (k3 c u e)
    rcases List.mem_cons.mp hmem with e' | hmem
    · exact absurd (Heap.lt_size e) (by rw [e']; exact Nat.lt_irrefl _)
    · have hcI : c = I := List.mem_singleton.mp hmem
      have h5 : s.heap.objs.size + 1 ≤ I := by rw [← sS]; exact sI
      exact absurd (Heap.lt_size e) (by rw [hcI]; exact Nat.not_lt_of_le (Nat.le_of_succ_le h5))
end
end Stb

set_option Elab.async false
set_option linter.all false
set_option maxRecDepth 100000
set_option maxHeartbeats 400000
namespace Stb
open PySem PyProof.Rows
section
variable {prog : Program} {w : World} {A : Around} {E : Value → Shared → Prop} {s : Shared} {a : Addr}
/-- sorted(set): a new list, all else as it was -/
theorem sorted_set {l : List Int} {Q : Value → Shared → Prop} (hh : A.handled = none) (hx : SX prog w s.heap a l (ledOf w)) (hz : l.length ≤ 100000)
    (h : ∀ (p : Addr) (us : List Value) (ms : List Int) (h' : Heap) (c tk : Nat) (d : Drawn), IntsAre us ms → ms.Perm l → ms.Pairwise (· ≤ ·) → (∀ b o, s.heap.get? b = some o → h'.get? b = some o) → s.heap.objs.size ≤ p → h'.get? p = some (seqObj "list" us.toArray c) → Q (.ref p) { s with heap := h', toks := tk, drawn := d }) :
    wpAny (model prog w) A (call (.builtin "sorted") [.ref a]) Q E s := by
  refine Calls.call_function_entry kind_sorted plain_sorted entry_sorted (args_sorted1 _) ?_
  unfold Builtin.«sorted»
  refine wpAny_bind (m := checkCount "sorted" 1 1 _) (wpAny_pure ?_)
  refine wpAny_bind (collect_set (A := A.in1) hh hx fun vs h1 tk d hv s0 k1 => ?_)
  obtain ⟨ns, hI, hn⟩ := hv
  have nv : vs.length = l.length := by rw [← hn.length_eq, ← hI.nums, List.length_map]
  have z1 : vs.length ≤ sizeLine := by rw [sizeLine_eq]; omega
  refine wpAny_bind (wpAny_newList ?_ z1)
  have s1 : s.heap.objs.size ≤ h1.objs.size := Nat.le_of_lt s0
  have g0 : (h1.push (seqObj "list" vs.toArray 0)).get? h1.objs.size = some (seqObj "list" vs.toArray 0) := Heap.get?_push_size _ rfl
  have k2 : ∀ b o, s.heap.get? b = some o → b ≠ h1.objs.size ∧ (h1.push (seqObj "list" vs.toArray 0)).get? b = some o := fun b o e => ⟨Nat.ne_of_lt (Heap.lt_size (k1 b o e)), Heap.get?_push_of_some _ (k1 b o e)⟩
  show wpAny _ _ _ _ _ { s with heap := h1.push (seqObj "list" vs.toArray 0), toks := tk, drawn := d }
  generalize h1.push (seqObj "list" vs.toArray 0) = h2 at g0 k2 ⊢
  refine wpAny_bind (wpAny_holding (wpAny_call_entry slot_list_sort ⟨_, g0, rfl⟩ entry_list_sort (Tim.sort_any (s := { s with heap := h2, toks := tk, drawn := d }) L2.ltI_ord g0 (by omega) (fun h2' h' _ => L2.askI hI h2') fun us a1 a2 => ⟨_, rfl, ?_⟩) (args_list_sort _)))
  obtain ⟨⟨c, q1⟩, q2⟩ := Tim.sortedHeap_get (us := us) g0
  have hall : ∀ u ∈ us, ∃ n t, u = .int n t := fun u hu => hI.all u (a1.mem_iff.mp hu)
  refine wpAny_pure ⟨_, rfl, h h1.objs.size us (us.map numOf) _ c tk d (intsAre_map us hall) ?_ ?_ (fun b o e => q2 b o (k2 b o e).1 (k2 b o e).2) s1 q1⟩
  · have := a1.map numOf
    rw [hI.nums] at this
    exact this.trans hn
  · refine List.pairwise_map.mpr (List.Pairwise.imp (fun {x y} hxy => ?_) a2)
    unfold L2.ltI at hxy
    simp at hxy
    exact hxy
end
end Stb
namespace L2
open PySem PySem.Spec PyProof.Rows
/-- a set of these ints -/
def SetX (P : Program) (w : World) (l : Addr) (ns : List Int) : HO := .ext fun h => Stb.SX P w h l ns (Stb.ledOf w)
section
variable {X : Cx}
def rSetX (P : Program) (w : World) (K : PySem.W.Frag) : List V → Hp → VK → Prop := fun xs H Q => ∃ (p : Addr) (ns : List Int), xs = [.ref p] ∧ SqL K H p (ns.map V.int) ∧ ns.length ≤ 4000 ∧ ∀ l, H l = none → Q (.ref l) (upd H l (SetX P w l (Stb.seen (fun i => ns.getD i 0) ns.length)))
theorem call_setX (hc : X.calm = true) : CallR X (.type "set") (rSetX X.prog X.w X.K) := by
  intro pins s σ H xs us Q I r h
  obtain ⟨p, ns, rfl, hl, hz, q⟩ := h
  obtain ⟨u, rfl, ru⟩ := vals1 r
  cases ru
  obtain ⟨its, rv, pl, _⟩ := I.list hl
  obtain ⟨e1, hI⟩ := ints_nums rv
  have hlen : its.length = ns.length := by rw [← e1, List.length_map]
  refine Stb.call_set_x (I.ok.hd hc) pl.isList (by simpa using hI) (by show its.toArray.size + 1 < 4096; rw [List.size_toArray]; omega) fun h' tk x hk => ?_
  rw [show its.toArray.size = ns.length by rw [List.size_toArray, hlen]] at x
  have hk' : ∀ b o, s.heap.get? b = some o → h'.get? b = some o := fun b o e => hk b o (Heap.lt_size e) e
  have I2 := I.laid (a := s.heap.objs.size) (o := SetX X.prog X.w s.heap.objs.size (Stb.seen (fun i => ns.getD i 0) ns.length)) (t' := tk) hk' (Nat.le_refl _) ⟨x, by obtain ⟨o, _, _, _, g, _⟩ := x; exact ⟨o, g⟩, fun h1 h2 x1 k => x1.keeps k⟩
  exact ⟨.ref s.heap.objs.size, _, I2, rfl, q _ (I.hok.fresh (Nat.le_refl _))⟩
def rSortX (P : Program) (w : World) : List V → Hp → VK → Prop := fun xs H Q => ∃ (p : Addr) (ns : List Int), xs = [.ref p] ∧ H p = some (SetX P w p ns) ∧ ns.length ≤ 4000 ∧ ∀ ms : List Int, ms.Perm ns → ms.Pairwise (· ≤ ·) → ∀ l, H l = none → Q (.ref l) (upd H l (.lst (ms.map V.int)))
theorem call_sortX (hc : X.calm = true) : CallR X (.builtin "sorted") (rSortX X.prog X.w) := by
  intro pins s σ H xs us Q I r h
  obtain ⟨p, ns, rfl, hp, hz, q⟩ := h
  obtain ⟨u, rfl, ru⟩ := vals1 r
  cases ru
  have x : Stb.SX X.prog X.w s.heap p ns (Stb.ledOf X.w) := (I.hok p _ hp).1
  refine Stb.sorted_set (I.ok.hd hc) x (by omega) fun p' us ms h' c tk d hI hp' ho hk hle hg => ?_
  have hv : Vals (ms.map V.int) us := by
    have := vals_nums (us := us) fun u hu => hI.all u hu
    rwa [hI.nums] at this
  have z1 : (ms.map V.int).length ≤ sizeLine := by rw [List.length_map, hp'.length_eq, sizeLine_eq]; omega
  have I2 := I.laid (a := p') (o := .lst (ms.map V.int)) (t' := tk) hk hle ⟨z1, us, c, hv, hg⟩
  have I3 : Inv X pins σ (upd H p' (.lst (ms.map V.int))) { s with heap := h', toks := tk, drawn := d } := ⟨I2.ok, I2.os, I2.bare, I2.base, I2.loc, I2.cell, I2.free, I2.freeC, I2.pin, I2.hok, I2.len⟩
  exact ⟨.ref p', _, I3, rfl, q ms hp' ho _ (I.hok.fresh hle)⟩
/-- what sorted(set(ns)) is: the rising list of these ints -/
theorem rising_of {ns ms : List Int} (hp : ms.Perm (Stb.seen (fun i => ns.getD i 0) ns.length)) (ho : ms.Pairwise (· ≤ ·)) : ms.Pairwise (· < ·) ∧ ∀ n, n ∈ ms ↔ n ∈ ns := by
  constructor
  · have hn : ms.Nodup := hp.nodup_iff.mpr (Stb.seen_nodup _ _)
    exact (ho.and hn).imp fun ⟨h1, h2⟩ => by omega
  · intro n
    rw [hp.mem_iff, Stb.seen_mem]
    constructor
    · rintro ⟨j, h1, h2⟩
      have : ns[j]? = some ns[j] := List.getElem?_eq_getElem h1
      simp [List.getD, this] at h2
      rw [← h2]
      exact List.getElem_mem h1
    · intro hm
      obtain ⟨j, hj, e⟩ := List.getElem_of_mem hm
      exact ⟨j, hj, by simp [List.getD, List.getElem?_eq_getElem hj, e]⟩
end
end L2

set_option Elab.async false
set_option linter.all false
set_option maxRecDepth 100000
set_option maxHeartbeats 1000000
/-! ### for i, x in enumerate(xs) -/
namespace L2
open PySem PySem.Spec PyProof.Rows
def Ite (K : PySem.W.Frag) (a : Addr) : It :=
  ⟨fun i H => ∃ xs x, SqL K H a xs ∧ xs[i]? = some x,
   fun i H v H' => ∃ T x, H T = none ∧ v = .ref T ∧ H' = upd H T (.tup [.int (i : Nat), x]) ∧ ∀ xs, SqL K H a xs → xs[i]? = some x,
   fun i H => ∃ xs, SqL K H a xs ∧ xs.length ≤ i⟩
theorem turn_enum {P : Program} {w : World} {K : PySem.W.Frag} {es : List Expr} {k : Nat} {tp : Pos} {e it : Addr} (a : Addr) (hei : e ≠ it) :
    Turn P w K (.Tuple es k tp) (Ite K a) [e, it] e (fun i h => (∃ old, IsEnum h e it (i : Nat) old) ∧ h.IsListIter it a i) where
  mem := by simp
  obj := fun i h st c hc => by
    obtain ⟨⟨old, he⟩, ⟨o1, e1, c1, d1⟩⟩ := st
    simp only [List.mem_cons, List.not_mem_nil, or_false] at hc
    rcases hc with rfl | rfl
    · exact ⟨_, he, fun v q => by have q' : Data.fields _ = Data.cell v := q; cases q'⟩
    · exact ⟨o1, e1, fun v q => by rw [d1] at q; cases q⟩
  keep := fun i h h' st k => by
    obtain ⟨⟨old, he⟩, h1⟩ := st
    exact ⟨⟨old, k e (by simp) _ he⟩, h1.at fun o q => k it (by simp) o q⟩
  item := by
    intro X hP hw hK hc i pins s σ H E I hf st hg
    subst hP hw hK
    obtain ⟨⟨old, he⟩, h1⟩ := st
    obtain ⟨xs, x, qa, hx⟩ := hg
    obtain ⟨its, rv, pl, hzl⟩ := I.list qa
    obtain ⟨ux, hux, rux⟩ := rv.get hx
    refine wpAny_pyNext_enum_item he h1 pl.isList (x := ux) (by simpa using hux) hei fun h' a1 a2 a3 a4 hk => ?_
    have nin : ∀ b, b ∉ [e, it] → b ≠ e ∧ b ≠ it := fun b hb => by
      simp only [List.mem_cons, List.not_mem_nil, or_false, not_or] at hb
      exact hb
    have hT : H s.heap.objs.size = none := I.hok.fresh (Nat.le_refl _)
    refine ⟨.ref s.heap.objs.size, rfl, wpAny_letOwnedTupleGo_enum (s := { s with heap := h', toks := s.toks + 1 }) a1 fun h'' he' hs' => ?_⟩
    have neq : s.heap.objs.size ≠ e := Nat.ne_of_gt (Heap.lt_size he)
    have tup : h''.get? s.heap.objs.size = some { cls := .type "tuple", data := .seq #[.int (i : Nat) s.toks, ux] } := hs'.extBut _ _ neq a3
    have old' : ∀ b o, b ∉ [e, it] → s.heap.get? b = some o → h''.get? b = some o := fun b o hb q => hs'.extBut b o (nin b hb).1 (hk b o (nin b hb).1 (nin b hb).2 q)
    refine ⟨.ref s.heap.objs.size, upd H s.heap.objs.size (.tup [.int (i : Nat), x]), ?_, rfl, ⟨_, x, hT, rfl, rfl, fun xs' q => by rw [I.list_inj q qa]; exact hx⟩, ⟨⟨ux, he'⟩, a2.extBut hs'.extBut (Ne.symm hei)⟩, fun b hb => ?_⟩
    · have new : ObjOk X.prog X.w (upd H s.heap.objs.size (.tup [.int (i : Nat), x])) h'' s.heap.objs.size (.tup [.int (i : Nat), x]) :=
        ⟨by show 2 ≤ sizeLine; rw [sizeLine_eq]; decide, [.int (i : Nat) s.toks, ux], .cons ⟨_, rfl⟩ (.cons rux .nil), ⟨_, tup, rfl, 0, rfl⟩⟩
      have nit : ∀ b u, H b = some u → b ∉ [e, it] := fun b u q z => by rw [(hf b z).1] at q; cases q
      have nT : ∀ b o, s.heap.get? b = some o → b ≠ s.heap.objs.size := fun b o q => Nat.ne_of_lt (Heap.lt_size q)
      have nH : ∀ b u, H b = some u → b ≠ s.heap.objs.size := fun b u q z => by rw [z, hT] at q; cases q
      suffices J : Inv X pins σ (upd H s.heap.objs.size (.tup [.int (i : Nat), x])) { s with heap := h'', gens := s.gens, drawn := s.drawn, toks := s.toks + 1 } from J
      refine I.step (g' := s.gens) (d' := s.drawn) (t' := s.toks + 1) (ch := [e, it]) (fun b hb => ?_) (fun b o _ _ hc' q _ => old' b o hc' q) (fun b o _ _ hc' q _ => ⟨o.slots, old' b o hc' q⟩) (fun b o _ q n => by rw [upd_ne (nT b o q)]; exact n)
        (fun b o hc' q => ⟨o, old' b o hc' q⟩) (fun b xs' q => by rw [upd_ne (nH b _ q)]; exact q) (fun b o u' q => by rw [upd_ne (nH b _ q)]; exact q) (fun b ps q => ⟨#[], by rw [upd_ne (nH b _ q), q]; simp⟩) (fun m hm => ?_) (fun b u' q => ?_) I.bare
      · obtain ⟨_, f1, _, f3, f4, f5⟩ := hf b hb
        exact ⟨f3, f1, f4, f5⟩
      · obtain ⟨o, es', ep, ho, r⟩ := hm
        exact ⟨o, es', ep, old' _ o (fun q => (hf _ q).2.1 rfl) ho, r⟩
      · by_cases hb : b = s.heap.objs.size
        · subst hb; rw [upd_same] at q; cases q; exact new
        · rw [upd_ne hb] at q
          refine (I.hok b u' q).stay (fun c v' hc' z => old' c v' ?_ z) (fun c z => by rw [upd_ne (nH c _ z)]; exact z) fun c xs' z => by rw [upd_ne (nH c _ z)]; exact z
          rcases hc' with z | z
          · rw [z]; exact nit b u' q
          · exact nit c _ z
    · have hb' : b ≠ s.heap.objs.size := by
        intro q
        rw [q] at hb
        simp only [List.mem_cons, List.not_mem_nil, or_false] at hb
        obtain ⟨_, l4, _⟩ := h1
        rcases hb with q | q
        · exact Nat.ne_of_gt (Heap.lt_size he) q
        · exact Nat.ne_of_gt (Heap.lt_size l4) q
      rw [upd_ne hb']
      exact (hf b hb).1
  done := by
    intro X hP hw hK hc i pins s σ H E I hf st hg
    subst hP hw hK
    obtain ⟨⟨old, he⟩, h1⟩ := st
    obtain ⟨xs, qa, hend⟩ := hg
    obtain ⟨its, rv, pl, hzl⟩ := I.list qa
    have la := rv.length
    refine wpAny_pyNext_enum_end (I.ok.hd hc) he h1 pl.isList (by rw [List.getElem?_toArray]; exact List.getElem?_eq_none (by omega)) fun h' hk => ⟨rfl, ?_⟩
    refine I.turnedL (t' := s.toks) (its := [e, it]) (fun b o hb q => hk b o ?_ q) hf
    simp only [List.mem_cons, List.not_mem_nil, or_false, not_or] at hb
    exact hb.2
  self := fun _ _ _ _ _ st h => by
    obtain ⟨⟨old, he⟩, _⟩ := st
    exact wpAny_pyIter_enum he h
section
variable {X : Cx}
def iEnum (K : PySem.W.Frag) (ta : TA) : TI := fun σ H R => ta σ H fun vs H1 => ∃ a, vs = [.ref a] ∧ (∃ xs, SqL K H1 a xs) ∧ R (Ite K a) H1
theorem pi_enum {es : List Expr} {k : Nat} {tp : Pos} {a : Expr} {ta : TA} {p pos : Pos} (hg : Gl X "enumerate") (hm : X.mg "enumerate" = none) (ha : PA X [a] ta) (hs : starEach [a] X.env = [(false, eval a X.env)] := by rfl) : PI X (.Tuple es k tp) (.Call (.Name "enumerate" p) [a] [] pos) (iEnum X.K ta) := by
  intro pins s σ H R I h
  refine Call_ (ld_blt I hg hm PyProof.Rows.Boot.«enumerate» (PyProof.Rows.callWith_type1 (thn (ha pos pins s σ H _ I h) fun us s1 ⟨vs, H1, I1, r1, q1⟩ => ?_) hs rfl))
  obtain ⟨a, e, ⟨xs, qa⟩, q⟩ := q1
  subst e
  obtain ⟨u, rfl, ru⟩ := vals1 r1
  cases ru
  obtain ⟨its, rv, pl, hzl⟩ := I1.list qa
  refine call_enumerate_list pl.isList fun h' he hit hsz hk => wpAny_pyIter_enum he ?_
  have I2 : Inv X pins σ H1 { s1 with heap := h' } := I1.kept (t' := s1.toks) hk
  refine ⟨s1.heap.objs.size + 1, [s1.heap.objs.size + 1, s1.heap.objs.size], _, _, H1, rfl, I2, turn_enum a (Nat.ne_of_gt (Nat.lt_succ_self _)), ⟨⟨_, he⟩, hit⟩, fun c hc => ?_, q⟩
  have hge : s1.heap.objs.size ≤ c := by
    simp only [List.mem_cons, List.not_mem_nil, or_false] at hc
    rcases hc with rfl | rfl
    · exact Nat.le_succ _
    · exact Nat.le_refl _
  exact I1.fpOk hge (I1.hok.fresh hge)
end
theorem yields_enum {K : PySem.W.Frag} {a : Addr} (xs : List V) : Yields (Ite K a) xs.length (fun H => SqL K H a xs) (fun i v H H' => ∃ T x, H T = none ∧ v = .ref T ∧ H' = upd H T (.tup [.int (i : Nat), x]) ∧ xs[i]? = some x) where
  go := fun i H hi q => ⟨xs, xs[i], q, by simp [hi]⟩
  yld := fun i H x H' hi q y => by
    obtain ⟨T, x', hT, e1, e2, y1⟩ := y
    exact ⟨T, x', hT, e1, e2, y1 xs q⟩
  stop := fun H q => ⟨xs, q, Nat.le_refl _⟩
end L2

set_option Elab.async false
set_option linter.all false
set_option maxRecDepth 100000
set_option maxHeartbeats 1000000
/-! ### xs * n, xs[::-1], max(xs) -/
namespace L2
open PySem PySem.Spec PyProof.Rows
section
variable {X : Cx}
theorem pick_rev (its : Array Value) : slicePick its none none (some (-1)) = its.reverse := by
  unfold slicePick
  have e : sliceBounds none none (some (-1)) its.size = ((its.size : Int) - 1, -1, -1) := rfl
  rw [e]
  dsimp only
  apply Array.toList_inj.mp
  have er : sliceRange ((its.size : Int) - 1) (-1) (-1) = (List.range its.size).map fun k => its.size - 1 - k := by
    unfold sliceRange
    dsimp only
    rw [if_neg (by decide)]
    by_cases h0 : its.size = 0
    · rw [if_neg (by omega), h0]; rfl
    · rw [if_pos (by omega)]
      have : (((its.size : Int) - 1 - -1 - -1 - 1) / - -1).toNat = its.size := by
        rw [show (- -1 : Int) = 1 by decide, Int.ediv_one]; omega
      rw [this]
      refine List.map_congr_left fun k hk => ?_
      rw [List.mem_range] at hk
      omega
  rw [er, List.filterMap_map]
  apply List.ext_getElem?
  intro i
  have key : (List.range its.size).filterMap ((fun j => its[j]?) ∘ fun k => its.size - 1 - k) = (List.range its.size).map fun k => its.getD (its.size - 1 - k) .none := by
    have gen : ∀ l : List Nat, (∀ k ∈ l, k < its.size) → l.filterMap ((fun j => its[j]?) ∘ fun k => its.size - 1 - k) = l.map fun k => its.getD (its.size - 1 - k) .none := by
      intro l
      induction l with
      | nil => intro _; rfl
      | cons k l ih =>
        intro hl
        have hk := hl k (List.mem_cons_self ..)
        have hb : its.size - 1 - k < its.size := by omega
        rw [List.filterMap_cons_some (b := its.getD (its.size - 1 - k) .none) (by simp [Array.getD, hb]), ih fun z hz => hl z (List.mem_cons_of_mem _ hz), List.map_cons]
    exact gen _ fun k hk => List.mem_range.mp hk
  rw [key, List.getElem?_map]
  by_cases hi : i < its.size
  · rw [List.getElem?_range hi]
    have hb : its.size - 1 - i < its.size := by omega
    simp [hi, Array.getD, hb]
  · rw [List.getElem?_eq_none (by simpa using hi), List.getElem?_eq_none (by simpa using hi)]
    rfl
def tRev (K : PySem.W.Frag) (te ts : TE) : TE := fun σ H Q => te σ H fun x H1 => ts σ H1 fun y H2 => ∃ a xs, x = .ref a ∧ y = .int (-1) ∧ SqL K H2 a xs ∧ ∀ p, H2 p = none → Q (.ref p) (upd H2 p (.lst xs.reverse))
theorem vals_rev : ∀ {xs : List V} {us : List Value}, Vals xs us → Vals xs.reverse us.reverse
  | _, _, .nil => .nil
  | _, _, .cons r t => by
    rw [List.reverse_cons, List.reverse_cons]
    exact (vals_rev t).append (.cons r .nil)
theorem pe_rev {e st : Expr} {te ts : TE} {p2 pos : Pos} (he : PE X e te) (hs : PE X st ts) : PE X (.Subscript e (.Slice none none (some st) p2) pos) (tRev X.K te ts) := by
  intro pins s σ H Q I h
  refine Subscript_ (thn (he pins s σ H _ I h) fun v s1 ⟨x, H1, I1, r1, q1⟩ => ?_)
  refine wpAny_Slice ?_
  rw [evalPart_none]
  refine wpAny_pure ?_
  rw [evalPart_some]
  refine wpAny_pure (thn (hs pins s1 σ H1 _ I1 q1) fun vs s3 ⟨y, H3, I3, r3, q3⟩ => ?_)
  obtain ⟨a, xs, rfl, rfl, hq, q⟩ := q3
  cases r1
  obtain ⟨t, rfl⟩ := r3
  have I4 : Inv X pins σ H3 { s3 with heap := s3.heap.push { cls := .type "slice", data := .fields #[.none, .none, .int (-1) t] } } := I3.kept (t' := s3.toks) fun b ob q => Heap.get?_push_of_some _ q
  obtain ⟨its, r, pl, hz⟩ := I4.list hq
  have hlen := r.length
  show wpAny (model X.prog X.w) X.A (subscriptTail e (.Slice none none (some st) p2) (.ref a) (.ref s3.heap.objs.size)) (EP X pins σ Q) X.xe { s3 with heap := s3.heap.push { cls := .type "slice", data := .fields #[.none, .none, .int (-1) t] } }
  refine tail_any (ops := [.ref a, .ref s3.heap.objs.size]) pl.isList.typeIs slot_list_getitem.lookup ?_ (by with_unfolding_all rfl)
  refine wpAny_getItem_list_slice pl.isList (Heap.IsSliceOf.new ..) .none .none (.int (-1) t) (by simp) ?_ (by rw [List.size_toArray] <;> omega)
  rw [pick_rev]
  have z1 : xs.reverse.length ≤ sizeLine := by rw [List.length_reverse]; exact hz
  refine ⟨.ref _, _, I4.laid (o := .lst xs.reverse) (t' := s3.toks) (fun b ob q => Heap.get?_push_of_some _ q) (Nat.le_refl _) ⟨z1, its.reverse, 0, vals_rev r, ?_⟩, rfl, q _ (I4.hok.fresh (Nat.le_refl _))⟩
  rw [show its.reverse.toArray = its.toArray.reverse by simp]
  exact Heap.get?_push_size _ rfl
theorem call_maxL (hc : X.calm = true) : CallR X (.builtin "max") (fun xs H Q => ∃ (p : Addr) (ns : List Int), xs = [.ref p] ∧ SqL X.K H p (ns.map V.int) ∧ ns ≠ [] ∧ ∀ m ∈ ns, (∀ a ∈ ns, a ≤ m) → Q (.int m) H) := by
  intro pins s σ H xs us Q I r h
  obtain ⟨p, ns, rfl, hq, hne, q⟩ := h
  obtain ⟨u, rfl, rx⟩ := vals1 r
  cases rx
  obtain ⟨its, rv, pl, hz⟩ := I.list hq
  have hi : IntsAre its ns := intsAre_of rv
  obtain ⟨ys, hx⟩ := hi.allInts.items
  have hl' : s.heap.IsList p (intItems ys) := hx ▸ pl.isList
  have e1 : ns = ys.toList.map (·.1) := by
    rw [← nums_intItems, ← hx]
    exact (show numsOf its.toArray.toList = ns from hi.numsOf).symm
  have hsz : 0 < ys.size := by
    rcases Nat.eq_zero_or_pos ys.size with z | z
    · exact absurd (by rw [e1]; simp at z; simp [z]) hne
    · exact z
  refine max_intList (I.ok.hd hc) hl' hsz fun v h' tk hv hk => ?_
  obtain ⟨t, rfl⟩ := intItems_at hv
  obtain ⟨h1, h2⟩ := argBest_gt (numAt ys) (ys.size - 1)
  refine ⟨.int _, H, I.kept hk, ⟨_, rfl⟩, q _ ?_ fun a ha => ?_⟩
  · rw [e1, numAt_eq]
    exact getD_mem (by rw [List.length_map, Array.length_toList]; omega)
  · rw [e1] at ha
    obtain ⟨j, hj, rfl⟩ := mem_getD ha
    rw [List.length_map, Array.length_toList] at hj
    rw [← numAt_eq]
    exact h2 j (by omega)
end
end L2

set_option Elab.async false
set_option linter.all false
/-! ### stays in order, and pair by pair -/
namespace Lg
/-- not in the same room on the same day; triples of a room, a first and a last day -/
def apartT (a b : Tr) : Prop := ¬ (a.1 = b.1 ∧ a.2.1 ≤ b.2.2 ∧ b.2.1 ≤ a.2.2)
theorem apart_symm {a b : Tr} (h : apartT a b) : apartT b a := fun ⟨e, h1, h2⟩ => h ⟨e.symm, h2, h1⟩
def nextT (a b : Tr) : Bool := decide (a.1 < b.1) || decide (a.2.2 < b.2.1)
theorem adj_iff {T ys : List Tr} (hg : ∀ x ∈ T, x.2.1 ≤ x.2.2) (hp : ys.Perm T) (ho : ys.Pairwise fun x y => lexlt y x = false) :
    (∀ i a b, ys[i]? = some a → ys[i + 1]? = some b → nextT a b = true) ↔ T.Pairwise apartT := by
  have hg' : ∀ x ∈ ys, x.2.1 ≤ x.2.2 := fun x hx => hg x (hp.mem_iff.mp hx)
  have hlex : ∀ (i j : Nat) (a b : Tr), i < j → ys[i]? = some a → ys[j]? = some b → a.1 < b.1 ∨ (a.1 = b.1 ∧ a.2.1 ≤ b.2.1) := fun i j a b hij ha hb => by
    obtain ⟨h1, e1⟩ := List.getElem?_eq_some_iff.mp ha
    obtain ⟨h2, e2⟩ := List.getElem?_eq_some_iff.mp hb
    have := List.pairwise_iff_getElem.mp ho i j h1 h2 hij
    rw [e1, e2] at this
    have h3 : ¬ lexlt b a = true := by rw [this]; simp
    rw [lex_iff] at h3
    omega
  rw [← hp.pairwise_iff (fun {x y} h => apart_symm h)]
  constructor
  · intro h
    have key : ∀ (d i : Nat) (a b : Tr), ys[i]? = some a → ys[i + d + 1]? = some b → a.1 < b.1 ∨ (a.1 = b.1 ∧ a.2.2 < b.2.1) := by
      intro d
      induction d with
      | zero =>
        intro i a b ha hb
        have h1 := h i a b ha hb
        unfold nextT at h1
        rw [Bool.or_eq_true, decide_eq_true_eq, decide_eq_true_eq] at h1
        have h2 := hlex i (i + 1) a b (by omega) ha hb
        omega
      | succ d ih =>
        intro i a b ha hb
        have hl : i + d + 1 < ys.length := by have := (List.getElem?_eq_some_iff.mp hb).1; omega
        have hm : ys[i + d + 1]? = some ys[i + d + 1] := List.getElem?_eq_getElem hl
        have h1 := ih i a _ ha hm
        have h2 := h (i + d + 1) _ b hm (by rw [← hb]; rfl)
        unfold nextT at h2
        rw [Bool.or_eq_true, decide_eq_true_eq, decide_eq_true_eq] at h2
        have h3 := hlex (i + d + 1) (i + d + 2) _ b (by omega) hm (by rw [← hb]; rfl)
        have h4 := hg' _ (List.getElem_mem hl)
        omega
    refine List.pairwise_iff_getElem.mpr fun i j hi hj hij => ?_
    have := key (j - i - 1) i _ _ (List.getElem?_eq_getElem hi) (by rw [show i + (j - i - 1) + 1 = j by omega]; exact List.getElem?_eq_getElem hj)
    rintro ⟨e, h1, h2⟩
    omega
  · intro h i a b ha hb
    obtain ⟨h1, e1⟩ := List.getElem?_eq_some_iff.mp ha
    obtain ⟨h2, e2⟩ := List.getElem?_eq_some_iff.mp hb
    have h3 := List.pairwise_iff_getElem.mp h i (i + 1) h1 h2 (by omega)
    rw [e1, e2] at h3
    have h4 := hlex i (i + 1) a b (by omega) ha hb
    have h5 := hg' b (List.mem_of_getElem? hb)
    unfold nextT
    rw [Bool.or_eq_true, decide_eq_true_eq, decide_eq_true_eq]
    by_cases e : a.1 < b.1
    · exact .inl e
    · refine .inr ?_
      have e' : a.1 = b.1 := by omega
      have : ¬ (a.2.1 ≤ b.2.2 ∧ b.2.1 ≤ a.2.2) := fun z => h3 ⟨e', z⟩
      omega
/-- the law's own way: who of those in my room is there on my first day: I alone -/
theorem law_apart {n : Nat} {room first last : Nat → Int} (hg : ∀ c, c < n → first c ≤ last c) :
    (∀ c, c < n → ((List.range n).filter fun d => decide (room d = room c)).filter (fun d => decide (first d ≤ first c) && decide (first c ≤ last d)) = [c]) ↔
    ∀ c d, c < n → d < n → c ≠ d → ¬ (room c = room d ∧ first c ≤ last d ∧ first d ≤ last c) := by
  constructor
  · intro h c d hc hd hne ⟨e, h1, h2⟩
    by_cases hle : first d ≤ first c
    · have := h c hc
      have hm : d ∈ ((List.range n).filter fun d => decide (room d = room c)).filter (fun d => decide (first d ≤ first c) && decide (first c ≤ last d)) := by
        simp only [List.mem_filter, List.mem_range, decide_eq_true_eq, Bool.and_eq_true]
        exact ⟨⟨hd, e.symm⟩, hle, h1⟩
      rw [this, List.mem_singleton] at hm
      exact hne hm.symm
    · have := h d hd
      have hm : c ∈ ((List.range n).filter fun c => decide (room c = room d)).filter (fun c => decide (first c ≤ first d) && decide (first d ≤ last c)) := by
        simp only [List.mem_filter, List.mem_range, decide_eq_true_eq, Bool.and_eq_true]
        exact ⟨⟨hc, e⟩, by omega, h2⟩
      rw [this, List.mem_singleton] at hm
      exact hne hm
  · intro h c hc
    rw [List.filter_filter]
    have e : (List.range n).filter (fun a => (decide (first a ≤ first c) && decide (first c ≤ last a)) && decide (room a = room c)) = (List.range n).filter fun a => decide (a = c) := by
      refine List.filter_congr fun a ha => ?_
      rw [List.mem_range] at ha
      by_cases e : a = c
      · subst e
        have := hg a ha
        simp [this]
      · have := h c a hc ha (fun z => e z.symm)
        have hz : ¬ (first a ≤ first c ∧ first c ≤ last a ∧ room a = room c) := fun ⟨h1, h2, h3⟩ => this ⟨h3.symm, h2, by have := hg c hc; omega⟩
        have : (decide (first a ≤ first c) && decide (first c ≤ last a) && decide (room a = room c)) = false := by
          rw [Bool.eq_false_iff]
          intro z
          simp only [Bool.and_eq_true, decide_eq_true_eq] at z
          exact hz ⟨z.1.1, z.1.2, z.2⟩
        rw [this]
        simp [e]
    rw [e]
    clear e h hg
    induction n with
    | zero => omega
    | succ n ih =>
      rw [List.range_succ, List.filter_append]
      by_cases e : c = n
      · subst e
        have : (List.range c).filter (fun a => decide (a = c)) = [] := List.filter_eq_nil_iff.mpr fun a ha => by rw [List.mem_range] at ha; simp; omega
        rw [this]
        simp
      · rw [ih (by omega)]
        have : ¬ n = c := fun z => e z.symm
        simp [this]
end Lg

set_option Elab.async false
set_option linter.all false
set_option maxRecDepth 100000
set_option maxHeartbeats 1000000
namespace L2
open PySem PySem.Spec PyProof.Rows
/-- the same with K named, for comprehensions -/
def rLenS (K : PySem.W.Frag) : List V → Hp → VK → Prop := fun xs H Q => ∃ p ys, xs = [.ref p] ∧ (SqL K H p ys ∨ SqT K H p ys) ∧ Q (.int ys.length) H
theorem call_lenK {X : Cx} {K : PySem.W.Frag} (hK : X.K = K := by rfl) : CallR X (.builtin "len") (rLenS K) := hK ▸ call_len_seq
theorem pe_or2 {X : Cx} {e : Expr} {t1 t2 : TE} (h1 : PE X e t1) (h2 : PE X e t2) : PE X e (fun σ H Q => t1 σ H Q ∨ t2 σ H Q) := fun pins s σ H Q I h => h.elim (h1 pins s σ H Q I) (h2 pins s σ H Q I)
end L2
namespace Sp
open PySem L2
seal PE PA PS PSs PT PG PGs PI PW PTs PJ
/-- rising, neighbour by neighbour -/
def risesB (ns : List Int) : Bool := (List.range (ns.length - 1)).all fun j => decide (ns.getD j 0 < ns.getD (j + 1) 0)
theorem getD_at {ns : List Int} {j : Nat} (h : j < ns.length) : ns.getD j 0 = ns[j] := by simp [List.getD, h]
theorem rises_iff (ns : List Int) : risesB ns = true ↔ ns.Pairwise (· < ·) := by
  unfold risesB
  rw [List.all_eq_true]
  constructor
  · intro h
    have key : ∀ (d i : Nat), i + d + 1 < ns.length → ns.getD i 0 < ns.getD (i + d + 1) 0 := by
      intro d
      induction d with
      | zero =>
        intro i hi
        have := h i (List.mem_range.mpr (by omega))
        simpa using this
      | succ d ih =>
        intro i hi
        have h1 := ih i (by omega)
        have h2 := h (i + d + 1) (List.mem_range.mpr (by omega))
        rw [decide_eq_true_eq] at h2
        rw [show i + (d + 1) + 1 = i + d + 1 + 1 by omega]
        omega
    refine List.pairwise_iff_getElem.mpr fun i j hi hj hij => ?_
    have := key (j - i - 1) i (by omega)
    rw [show i + (j - i - 1) + 1 = j by omega, getD_at hi, getD_at hj] at this
    exact this
  · intro h j hj
    rw [List.mem_range] at hj
    rw [decide_eq_true_eq, getD_at (by omega), getD_at (by omega)]
    exact List.pairwise_iff_getElem.mp h j (j + 1) (by omega) (by omega) (by omega)
theorem range_getD {α : Type} (l : List α) (d : α) : (List.range l.length).map (fun j => l.getD j d) = l := by
  apply List.ext_getElem
  · simp
  · intro i h1 h2
    simp [List.getD, h2]
theorem all_range (ns : List Int) (p : Int → Bool) : ((List.range ns.length).map fun j => p (ns.getD j 0)).all id = ns.all p := by
  have e : ((List.range ns.length).map fun j => p (ns.getD j 0)) = ns.map p := by
    conv => rhs; rw [← range_getD ns 0]
    rw [List.map_map]
    rfl
  rw [e, List.all_map]
  rfl
theorem cut_tail (xs : List V) : cutV xs (some 1) none = xs.drop 1 := by
  unfold cutV
  rw [show HT.sIx xs.length 0 (some 1) = min 1 xs.length from HT.sIx_nat _ _ 1, HT.sIx_none]
  by_cases h : xs.length = 0
  · have : xs = [] := List.length_eq_zero_iff.mp h
    subst this
    rfl
  · rw [Nat.min_eq_left (by omega), List.take_of_length_le (by rw [List.length_drop]; omega)]
section
variable {P : Program} {w : World} {K : PySem.W.Frag} {mg : Str → Option Value} {base : Heap}
theorem int_at {ns : List Int} {i : Nat} {x : V} (h : (ns.map V.int)[i]? = some x) : i < ns.length ∧ x = .int (ns.getD i 0) := by
  rw [List.getElem?_map] at h
  cases e : ns[i]? with
  | none => rw [e] at h; cases h
  | some n =>
    rw [e] at h
    cases h
    have hi := (List.getElem?_eq_some_iff.mp e).1
    refine ⟨hi, ?_⟩
    rw [getD_at hi, (List.getElem?_eq_some_iff.mp e).2]
/-! ### is_rising, is_choice -/
theorem sc_rising : FnScope ["values"] ["values"] (defScope s_is_rising) := ⟨rfl, rfl, rfl, by decide +kernel, rfl, by decide +kernel, by decide +kernel⟩
def sp_rising (K : PySem.W.Frag) : Sp := fun vs H Q _ => ∃ (a : Addr) (ns : List Int), vs = [.ref a] ∧ SqL K H a (ns.map V.int) ∧ ns.length ≤ 60000 ∧ ∀ H', Same H H' → Q (.bl (risesB ns)) H'
theorem ok_rising (B : Bl mg) (D : FnAt K mg "is_rising" s_is_rising ["values"]) : Def P w K mg base CX0 1 "is_rising" ["values"] (sp_rising K) := by
  refine D.ok sc_rising (fun vs H Q E h => ?_) fun f cdv A outer s H vs Q E hr h => ?_
  · obtain ⟨a, ns, rfl, _⟩ := h; rfl
  · obtain ⟨a, ns, rfl, ha, hz, q⟩ := h
    refine ⟨_, pss_one (ps_ret (pe_callB (call_all_bools rfl) (by rfl) B.all PyProof.Rows.Boot.«all» (pa_cons
      (pe_comp ["one", "other"] [] rfl (pi_zip rfl B.zip (pa_cons (pv 0) (pa_cons (pe_slice sl_list (pv 0) (po_some pe_int) po_none) pa_nil))) fun cl s H fp C =>
        ⟨pg_two (K := K) 0 1 rfl (show (["one", "other"] : List Str).Nodup by decide +kernel), pts_nil, pe_cmpR op_lt (pv 0) (pv 1) (nomark _)⟩) pa_nil))), ?_⟩
    refine ⟨_, rfl, _, rfl, _, rfl, a, _, rfl, ha, fun p hp => ?_⟩
    have s1 : Same H (upd H p (.lst (cutV (ns.map V.int) (some 1) none))) := same_laid hp
    have hp1 : upd H p (.lst (cutV (ns.map V.int) (some 1) none)) p = some (.lst ((ns.drop 1).map V.int)) := by rw [upd_same, cut_tail, List.map_drop]
    generalize upd H p (.lst (cutV (ns.map V.int) (some 1) none)) = H1 at s1 hp1 ⊢
    refine ⟨a, p, rfl, ⟨_, s1.seq ha⟩, ⟨_, SqL.of hp1⟩, fun D hD => ?_⟩
    have hmin : min (ns.map V.int).length ((ns.drop 1).map V.int).length = ns.length - 1 := by simp <;> omega
    refine comp_each (yields_zip (ns.map V.int) ((ns.drop 1).map V.int)) (fun σ => ∃ o1 o2, σ = [o1, o2]) (fun j => .bl (decide (ns.getD j 0 < ns.getD (j + 1) 0))) hD (by rw [hmin]; omega) (fun H3 s3 => ⟨(s1.trans s3).seq ha, SqL.of (s3 _ _ hp1)⟩) ⟨_, _, rfl⟩ ?_ ?_
    · rintro j v σ H3 H3' hj ⟨T, x, y, hT, rfl, rfl, hx, hy⟩ s3 ⟨o1, o2, rfl⟩ Ky hK
      obtain ⟨h1, rfl⟩ := int_at hx
      obtain ⟨h2, rfl⟩ := int_at hy
      have e2 : (ns.drop 1).getD j 0 = ns.getD (j + 1) 0 := by
        rw [getD_at h2, getD_at (by rw [List.length_drop] at h2; omega), List.getElem_drop]
        congr 1
        omega
      rw [e2]
      exact ⟨T, _, rfl, SqT.of upd_same, rfl, _, _, rfl, _, _, rfl, rfl, _, rfl, _, rfl, _, _, rfl, rfl, hK _ _ _ (same_laid hT) ⟨_, _, rfl⟩ rfl⟩
    · intro H3 s3 hD3
      rw [hmin] at hD3
      refine ⟨D, (List.range (ns.length - 1)).map fun j => decide (ns.getD j 0 < ns.getD (j + 1) 0), rfl, SqL.of (by rw [hD3, List.map_map]; rfl), ?_⟩
      have e : ((List.range (ns.length - 1)).map fun j => decide (ns.getD j 0 < ns.getD (j + 1) 0)).all id = risesB ns := by rw [List.all_map]; rfl
      rw [e]
      exact q H3 (s1.trans s3)
/-- counts of that many, rising -/
def choiceB (ns : List Int) (n : Nat) : Bool := (ns.all fun c => decide (0 ≤ c) && decide (c < (n : Int))) && risesB ns
theorem sc_choice : FnScope ["taken", "requests"] ["taken", "requests"] (defScope s_is_choice) := ⟨rfl, rfl, rfl, by decide +kernel, rfl, by decide +kernel, by decide +kernel⟩
def sp_choice (K : PySem.W.Frag) : Sp := fun vs H Q _ => ∃ (a b : Addr) (ns : List Int) (ys : List V), vs = [.ref a, .ref b] ∧ H a = some (.lst (ns.map V.int)) ∧ SqL K H b ys ∧ ns.length ≤ 60000 ∧ ∀ H', Same H H' → Q (.bl (choiceB ns ys.length)) H'
theorem ok_choice (B : Bl mg) (GW : Def P w K mg base CX0 1 "is_whole" ["value"] (sp_whole K)) (GR : Def P w K mg base CX0 1 "is_rising" ["values"] (sp_rising K)) (D : FnAt K mg "is_choice" s_is_choice ["taken", "requests"]) :
    Def P w K mg base CX0 2 "is_choice" ["taken", "requests"] (sp_choice K) := by
  refine D.ok sc_choice (fun vs H Q E h => ?_) fun f cdv A outer s H vs Q E hr h => ?_
  · obtain ⟨a, b, ns, ys, rfl, _⟩ := h; rfl
  · obtain ⟨a, b, ns, ys, rfl, ha, hb, hz, q⟩ := h
    refine ⟨_, pss_cons (ps_if (pt_not (pt_val (pe_isi B.isinstance B.list PyProof.Rows.Boot.«list» (pv 0)))) (pss_one (ps_ret pe_bl)) pss_nil)
      (pss_one (ps_ret (pe_and (pe_callB (call_all_bools rfl) (by rfl) B.all PyProof.Rows.Boot.«all» (pa_cons
        (pe_comp ["count"] [1] rfl (pi_list (pv 0)) fun cl s H fp C => ⟨pg_name (i := 0) (show (["count", "requests"] : List Str).Nodup by decide +kernel) rfl (Or.inl rfl), pts_nil,
          pe_and (pe_def GW hr rfl pass0 (pa_cons (pv 0) pa_nil)) (pe_one (pe_chain op_le op_lt pe_int (pv 0) (pe_callB (call_lenK (K := K)) (by rfl) B.len PySem.boot_len (pa_cons (pv 1) pa_nil))))⟩) pa_nil))
        (pe_one (pe_def GR hr rfl pass0 (pa_cons (pv 0) pa_nil)))))), ?_⟩
    refine ⟨_, rfl, _, _, _, rfl, TyOf.lst ha, (kits (H := H) (TyOf.lst ha)).2.2.1, _, rfl, iteF ?_⟩
    refine ⟨_, rfl, a, rfl, ⟨_, SqL.of ha⟩, fun D hD => ?_⟩
    refine comp_each (yields_list (ns.map V.int)) (fun σ => ∃ o, σ = [o, some (.ref b)]) (fun j => .bl (decide (0 ≤ ns.getD j 0) && decide (ns.getD j 0 < (ys.length : Int)))) hD (by rw [List.length_map]; omega) (fun H3 s3 => SqL.of (s3 _ _ ha)) ⟨_, rfl⟩ ?_ ?_
    · rintro j v σ H3 H3' hj ⟨rfl, hx⟩ s3 ⟨o, rfl⟩ Ky hK
      obtain ⟨h1, rfl⟩ := int_at hx
      refine ⟨_, rfl, _, _, rfl, TyOf.int _, _, rfl, iteT ⟨_, rfl, _, _, rfl, rfl, _, rfl, ?_⟩⟩
      by_cases h0 : 0 ≤ ns.getD j 0
      · refine iteP (by simpa using h0) ⟨_, rfl, b, ys, rfl, .inl (s3.seq hb), _, _, rfl, rfl, hK _ _ _ (Same.refl _) ⟨_, rfl⟩ ?_⟩
        rw [decide_eq_true h0, Bool.true_and]
      · refine iteN (by simpa using h0) (hK _ _ _ (Same.refl _) ⟨_, rfl⟩ ?_)
        rw [decide_eq_false h0, Bool.false_and]
    · intro H3 s3 hD3
      have e1 : ((List.range (ns.map V.int).length).map fun j => decide (0 ≤ ns.getD j 0) && decide (ns.getD j 0 < (ys.length : Int))).all id = ns.all fun c => decide (0 ≤ c) && decide (c < (ys.length : Int)) := by
        rw [List.length_map]
        exact all_range ns fun c => decide (0 ≤ c) && decide (c < (ys.length : Int))
      refine ⟨D, (List.range (ns.map V.int).length).map fun j => decide (0 ≤ ns.getD j 0) && decide (ns.getD j 0 < (ys.length : Int)), rfl, SqL.of (by rw [hD3, List.map_map]; rfl), _, rfl, ?_⟩
      rw [e1]
      have q' := q
      unfold choiceB at q'
      cases hc : ns.all fun c => decide (0 ≤ c) && decide (c < (ys.length : Int)) with
      | false =>
        rw [hc] at q'
        exact iteF (q' H3 s3)
      | true =>
        rw [hc] at q'
        exact iteT ⟨_, rfl, a, ns, rfl, SqL.of (s3 _ _ ha), hz, fun H4 s4 => q' H4 (s3.trans s4)⟩
end
end Sp

set_option Elab.async false
set_option linter.all false
set_option maxRecDepth 100000
set_option maxHeartbeats 1000000
namespace Sp
open PySem L2
seal PE PA PS PSs PT PG PGs PI PW PTs PJ
section
variable {P : Program} {w : World} {K : PySem.W.Frag} {mg : Str → Option Value} {base : Heap}
/-- a comprehension whose items are new triples of ints -/
theorem comp_trips {J : It} {n : Nat} {Ok : Hp → Prop} {item : Nat → V → Hp → Hp → Prop} {g : TG} {te : TE} {R : Hp → Prop} {H1 : Hp} {σ0 : St} {D : Addr} (Y : Yields J n Ok item) (S : St → Prop) (f : Nat → Int × Int × Int) (hD : H1 D = none) (hn : n ≤ 100000) (hok : ∀ H, Same H1 H → Ok H) (s0 : S σ0)
    (hs : ∀ i x σ H H', i < n → item i x H H' → Same H1 H → S σ → ∀ (Ky : St → V → Hp → Prop), (∀ σ3 p H5, Same H H5 → H p = none → H5 p = some (.tup (trip (f i))) → S σ3 → Ky σ3 (.ref p) H5) → g x σ H' fun σ3 H3 => te σ3 H3 fun y H5 => Ky σ3 y H5)
    (hq : ∀ H, Same H1 H → ReqsAt H D ((List.range n).map f) → R H) :
    ∃ W : Nat → Nat → List V → St → Hp → Prop, (∃ m, W 0 m [] σ0 (upd H1 D (.lst []))) ∧ ∀ i m ys σ' H', W i m ys σ' H' →
      (J.stop i H' ∧ R H') ∨ (J.go i H' ∧ ∃ N : List V → St → Hp → Prop, (∀ zs σ2 H2, N zs σ2 H2 → ∃ m', m' < m ∧ W (i + 1) m' zs σ2 H2) ∧ ∀ x H2, J.yld i H' x H2 → g x σ' H2 fun σ3 H3 => tYes σ3 H3 fun b H4 =>
        if b = true then te σ3 H4 fun y H5 => H5 D = some (.lst ys) ∧ ys.length < sizeLine ∧ N (ys ++ [y]) σ3 (upd H5 D (.lst (ys ++ [y])))
        else N ys σ3 H4) := by
  refine comp_by (tt := tYes) Y (fun i ys σ H => S σ ∧ Same H1 H ∧ H D = some (.lst ys) ∧ ys.length = i ∧ ∀ (j : Nat) (r : Int × Int × Int), ((List.range i).map f)[j]? = some r → ∃ p, ys[j]? = some (.ref p) ∧ H p = some (.tup (trip r)))
    (fun i ys σ H _ z => hok H z.2.1) ⟨s0, same_laid hD, upd_same, rfl, fun j r e => by simp at e⟩ ?_ ?_
  · rintro i x ys σ H H' hi it ⟨hS, sm, hDl, hyl, hys⟩
    refine hs i x σ H H' hi it sm hS _ fun σ3 p H5 s5 hp hpt hS3 => ?_
    refine ⟨s5 _ _ hDl, by rw [sizeLine_eq]; omega, hS3, fun b u e => ?_, upd_same, by simp [hyl], fun j r e => ?_⟩
    · rw [upd_ne (ne_of_none e hD)]
      exact s5 _ _ (sm _ _ e)
    · have hnp : p ≠ D := fun z => by rw [z, hDl] at hp; cases hp
      rw [List.range_succ, List.map_append] at e
      have hl : ((List.range i).map f).length = i := by simp
      by_cases hj : j < i
      · rw [List.getElem?_append_left (by omega)] at e
        obtain ⟨p', e1, e2⟩ := hys j r e
        refine ⟨p', by rw [List.getElem?_append_left (by omega)]; exact e1, ?_⟩
        have : p' ≠ D := fun z => by rw [z, hDl] at e2; cases e2
        rw [upd_ne this]
        exact s5 _ _ e2
      · have hj' : j = i := by
          have := (List.getElem?_eq_some_iff.mp e).1
          rw [List.length_append, hl] at this
          simp at this
          omega
        subst hj'
        rw [List.getElem?_append_right (by omega), hl, Nat.sub_self] at e
        cases e
        refine ⟨p, by rw [List.getElem?_append_right (by omega), hyl, Nat.sub_self]; rfl, ?_⟩
        rw [upd_ne hnp]
        exact hpt
  · rintro ys σ H ⟨_, sm, hDl, hyl, hys⟩
    exact hq H sm ⟨ys, hDl, by simp [hyl], hys⟩
/-- the triple at a place -/
def keyH (H : Hp) (a : Addr) : Lg.Tr := match H a with
  | some (.tup [.int i, .int j, .int k]) => (i, j, k)
  | _ => (0, 0, 0)
theorem keyH_at {H : Hp} {a : Addr} {r : Int × Int × Int} (h : H a = some (.tup (trip r))) : keyH H a = r := by
  unfold keyH
  rw [h]
  rfl
theorem reqs_refs {H : Hp} {a : Addr} {rs : List (Int × Int × Int)} (h : ReqsAt H a rs) : ∃ ps : List Addr, H a = some (.lst (ps.map V.ref)) ∧ ps.map (keyH H) = rs ∧ ∀ p ∈ ps, H p = some (.tup (trip (keyH H p))) := by
  obtain ⟨xs, h1, h2, h3⟩ := h
  have key : ∀ (xs : List V) (rs : List (Int × Int × Int)), xs.length = rs.length → (∀ (i : Nat) r, rs[i]? = some r → ∃ p, xs[i]? = some (.ref p) ∧ H p = some (.tup (trip r))) → ∃ ps : List Addr, xs = ps.map V.ref ∧ ps.map (keyH H) = rs ∧ ∀ p ∈ ps, H p = some (.tup (trip (keyH H p))) := by
    intro xs
    induction xs with
    | nil =>
      intro rs hl _
      have : rs = [] := List.length_eq_zero_iff.mp (by simpa using hl.symm)
      subst this
      exact ⟨[], rfl, rfl, fun p hp => by simp at hp⟩
    | cons x xs ih =>
      intro rs hl hr
      cases rs with
      | nil => simp at hl
      | cons r rs =>
        obtain ⟨p, e1, e2⟩ := hr 0 r rfl
        obtain ⟨ps, e3, e4, e5⟩ := ih rs (by simpa using hl) fun i r' e => by
          obtain ⟨p', a1, a2⟩ := hr (i + 1) r' (by simpa using e)
          exact ⟨p', by simpa using a1, a2⟩
        have ex : x = .ref p := by simpa using e1
        have ek := keyH_at e2
        refine ⟨p :: ps, by rw [ex, e3]; rfl, by rw [List.map_cons, ek, e4], fun q hq => ?_⟩
        rcases List.mem_cons.mp hq with rfl | hq
        · rw [ek]; exact e2
        · exact e5 q hq
  obtain ⟨ps, e1, e2, e3⟩ := key xs rs h2 h3
  exact ⟨ps, by rw [h1, e1], e2, e3⟩
theorem refs_reqs {H : Hp} {a : Addr} {ps : List Addr} (h : H a = some (.lst (ps.map V.ref))) (hp : ∀ p ∈ ps, H p = some (.tup (trip (keyH H p)))) : ReqsAt H a (ps.map (keyH H)) := by
  refine ⟨_, h, by simp, fun i r e => ?_⟩
  rw [List.getElem?_map] at e
  cases ei : ps[i]? with
  | none => rw [ei] at e; cases e
  | some p =>
    rw [ei] at e
    cases e
    exact ⟨p, by rw [List.getElem?_map, ei]; rfl, hp p (List.mem_of_getElem? ei)⟩
/-- sorted(..) of triples -/
theorem sort_reqs {H : Hp} {a : Addr} {rs : List (Int × Int × Int)} {Q : VK} (h : ReqsAt H a rs) (hz : rs.length ≤ 100000) (q : ∀ (l : Addr) (es : List Lg.Tr) (H' : Hp), H l = none → Same H H' → es.Perm rs → es.Pairwise (fun x y => Lg.lexlt y x = false) → ReqsAt H' l es → Q (.ref l) H') : rSortT K [.ref a] H Q := by
  obtain ⟨ps, h1, h2, h3⟩ := reqs_refs h
  refine ⟨a, ps, keyH H, rfl, SqL.of h1, by rw [← h2, List.length_map] at hz; exact hz, fun p hp => SqT.of (h3 p hp), fun qs hqp ho l hl => ?_⟩
  have key : ∀ p ∈ qs, keyH (upd H l (.lst (qs.map V.ref))) p = keyH H p := fun p hp => by
    have := h3 p (hqp.mem_iff.mp hp)
    unfold keyH
    rw [upd_ne (ne_of_none this hl)]
  have em : qs.map (keyH (upd H l (.lst (qs.map V.ref)))) = qs.map (keyH H) := List.map_congr_left key
  refine q l (qs.map (keyH H)) _ hl (same_laid hl) (by rw [← h2]; exact hqp.map _) (List.pairwise_map.mpr ho) ?_
  rw [← em]
  refine refs_reqs upd_same fun p hp => ?_
  rw [key p hp, upd_ne (ne_of_none (h3 p (hqp.mem_iff.mp hp)) hl)]
  exact h3 p (hqp.mem_iff.mp hp)
/-! ### asking_for -/
def thereL (rs : List (Int × Int × Int)) (d : Int) : List Nat := (List.range rs.length).filter fun c => decide ((Lg.rq rs c).1 ≤ d) && decide (d ≤ (Lg.rq rs c).2.1)
theorem rq_at {rs : List (Int × Int × Int)} {i : Nat} {r : Int × Int × Int} (h : rs[i]? = some r) : Lg.rq rs i = r := by
  unfold Lg.rq
  simp [List.getD, h]
theorem sc_asking : FnScope ["requests", "day"] ["requests", "day"] (defScope s_asking_for) := ⟨rfl, rfl, rfl, by decide +kernel, rfl, by decide +kernel, by decide +kernel⟩
def sp_asking : Sp := fun vs H Q _ => ∃ (a : Addr) (d : Int) (rs : List (Int × Int × Int)), vs = [.ref a, .int d] ∧ ReqsAt H a rs ∧ rs.length ≤ 60000 ∧ ∀ l H', Same H H' → H l = none → H' l = some (.lst ((thereL rs d).map fun c => V.int (c : Nat))) → Q (.ref l) H'
theorem ok_asking (B : Bl mg) (D : FnAt K mg "asking_for" s_asking_for ["requests", "day"]) : Def P w K mg base CX0 1 "asking_for" ["requests", "day"] sp_asking := by
  refine D.ok sc_asking (fun vs H Q E h => ?_) fun f cdv A outer s H vs Q E hr h => ?_
  · obtain ⟨a, d, rs, rfl, _⟩ := h; rfl
  · obtain ⟨a, d, rs, rfl, hR, hz, q⟩ := h
    refine ⟨_, pss_one (ps_ret (pe_comp ["count", "request"] [1] rfl (pi_enum rfl B.enumerate (pa_cons (pv 0) pa_nil)) fun cl s H fp C => ⟨pg_two (K := K) 0 1 rfl (show (["count", "request", "day"] : List Str).Nodup by decide +kernel),
      pts_one (pt_chain op_le op_le (pe_ix (ix_tupK (K := K)) (pv 1) pe_int (fun _ _ => rfl)) (pv 2) (pe_ix (ix_tupK (K := K)) (pv 1) pe_int (fun _ _ => rfl))), pv 0⟩)), ?_⟩
    obtain ⟨xs, hx, hxl, hxs⟩ := id hR
    refine ⟨_, rfl, a, rfl, ⟨_, SqL.of hx⟩, fun D hD => ?_⟩
    refine comp_filt (yields_enum xs) (fun σ => ∃ o1 o2, σ = [o1, o2, some (.int d)]) (fun c => decide ((Lg.rq rs c).1 ≤ d) && decide (d ≤ (Lg.rq rs c).2.1)) (fun c => .int (c : Nat)) hD (by omega) (fun H3 s3 => SqL.of (s3 _ _ hx)) ⟨_, _, rfl⟩ ?_ ?_
    · rintro j v σ H3 H3' hj ⟨T, x, hT, rfl, rfl, hxj⟩ s3 ⟨o1, o2, rfl⟩ Ky Kn hY hN
      have hj' : j < rs.length := by omega
      obtain ⟨p, ep, hp⟩ := hxs j rs[j] (List.getElem?_eq_getElem hj')
      rw [hxj] at ep
      cases ep
      have er : Lg.rq rs j = rs[j] := rq_at (List.getElem?_eq_getElem hj')
      have hp3 : upd H3 T (.tup [.int (j : Nat), .ref p]) p = some (.tup (trip rs[j])) := by rw [upd_ne (ne_of_none (s3 _ _ hp) hT)]; exact s3 _ _ hp
      refine ⟨T, _, rfl, SqT.of upd_same, rfl, _, _, rfl, _, _, rfl, rfl, ?_⟩
      refine ⟨_, rfl, p, _, _, _, rfl, rfl, SqT.of hp3, (show atI (trip rs[j]) 0 = some (.int rs[j].1) from rfl), _, rfl, _, _, rfl, rfl, _, rfl, ?_⟩
      by_cases h1 : rs[j].1 ≤ d
      · refine iteP (by simpa using h1) ⟨_, rfl, p, _, _, _, rfl, rfl, SqT.of hp3, (show atI (trip rs[j]) 1 = some (.int rs[j].2.1) from rfl), _, _, rfl, rfl, _, rfl, ?_⟩
        by_cases h2 : d ≤ rs[j].2.1
        · exact iteP (by simpa using h2) ⟨_, rfl, hY _ _ _ (same_laid hT) ⟨_, _, rfl⟩ (by rw [er]; simp [h1, h2]) rfl⟩
        · exact iteN (by simpa using h2) (hN _ _ (same_laid hT) ⟨_, _, rfl⟩ (by rw [er]; simp [h2]))
      · refine iteN (by simpa using h1) ⟨_, rfl, ?_⟩
        exact iteF (hN _ _ (same_laid hT) ⟨_, _, rfl⟩ (by rw [er]; simp [h1]))
    · intro H3 s3 hD3
      refine q D H3 s3 hD ?_
      rw [hD3]
      unfold takenV thereL
      rw [hxl]
end
end Sp

set_option Elab.async false
set_option linter.all false
set_option maxRecDepth 100000
set_option maxHeartbeats 1000000
namespace Sp
open PySem L2
seal PE PA PS PSs PT PG PGs PI PW PTs PJ
/-- the numbers that the top names -/
structure Cons (mg : Str → Option Value) : Prop where
  leaves : ∃ t, mg "LEAVES" = some (.int 0 t)
  comes : ∃ t, mg "COMES" = some (.int 1 t)
section
variable {P : Program} {w : World} {K : PySem.W.Frag} {mg : Str → Option Value} {base : Heap}
theorem reqs_app {H : Hp} {a b l : Addr} {rs qs : List (Int × Int × Int)} (ha : ReqsAt H a rs) (hb : ReqsAt H b qs) (hl : H l = none) : ∃ xs ys, H a = some (.lst xs) ∧ H b = some (.lst ys) ∧ xs.length = rs.length ∧ ys.length = qs.length ∧ ReqsAt (upd H l (.lst (xs ++ ys))) l (rs ++ qs) := by
  obtain ⟨xs, h1, h2, h3⟩ := ha
  obtain ⟨ys, g1, g2, g3⟩ := hb
  refine ⟨xs, ys, h1, g1, h2, g2, _, upd_same, by simp [h2, g2], fun i r e => ?_⟩
  by_cases hi : i < rs.length
  · rw [List.getElem?_append_left hi] at e
    obtain ⟨p, e1, e2⟩ := h3 i r e
    exact ⟨p, by rw [List.getElem?_append_left (by omega)]; exact e1, by rw [upd_ne (ne_of_none e2 hl)]; exact e2⟩
  · rw [List.getElem?_append_right (by omega)] at e
    obtain ⟨p, e1, e2⟩ := g3 (i - rs.length) r e
    exact ⟨p, by rw [List.getElem?_append_right (by omega), h2]; exact e1, by rw [upd_ne (ne_of_none e2 hl)]; exact e2⟩
/-! ### turns_of -/
theorem sc_turns : FnScope ["requests", "leaving", "coming"] ["requests"] (defScope s_turns_of) := ⟨rfl, rfl, rfl, by decide +kernel, rfl, by decide +kernel, by decide +kernel⟩
def sp_turns : Sp := fun vs H Q _ => ∃ (a : Addr) (rs : List (Int × Int × Int)), vs = [.ref a] ∧ ReqsAt H a rs ∧ rs.length ≤ 40000 ∧ ∀ l es H', Same H H' → H l = none → Lg.Ordered rs es → ReqsAt H' l es → Q (.ref l) H'
theorem ok_turns (B : Bl mg) (C : Cons mg) (D : FnAt K mg "turns_of" s_turns_of ["requests"]) : Def P w K mg base CX0 1 "turns_of" ["requests"] sp_turns := by
  obtain ⟨t0, hL⟩ := C.leaves
  obtain ⟨t1, hC⟩ := C.comes
  refine D.ok sc_turns (fun vs H Q E h => ?_) fun f cdv A outer s H vs Q E hr h => ?_
  · obtain ⟨a, rs, rfl, _⟩ := h; rfl
  · obtain ⟨a, rs, rfl, hR, hz, q⟩ := h
    refine ⟨_, pss_cons (ps_setC (i := 1) sc_turns.nd rfl ["count", "request"] [] rfl (pi_enum rfl B.enumerate (pa_cons (pv 0) pa_nil)) fun cl s H fp C => ⟨pg_two (K := K) 0 1 rfl (show (["count", "request"] : List Str).Nodup by decide +kernel), pts_nil,
          pe_tup (pa_cons (pe_op op_add (pe_ix (ix_tupK (K := K)) (pv 1) pe_int (fun _ _ => rfl)) pe_int) (pa_cons (pe_glob (v := .int 0) rfl hL ⟨_, rfl⟩) (pa_cons (pv 0) pa_nil)))⟩)
      (pss_cons (ps_setC (i := 2) sc_turns.nd rfl ["count", "request"] [] rfl (pi_enum rfl B.enumerate (pa_cons (pv 0) pa_nil)) fun cl s H fp C => ⟨pg_two (K := K) 0 1 rfl (show (["count", "request"] : List Str).Nodup by decide +kernel), pts_nil,
          pe_tup (pa_cons (pe_ix (ix_tupK (K := K)) (pv 1) pe_int (fun _ _ => rfl)) (pa_cons (pe_glob (v := .int 1) rfl hC ⟨_, rfl⟩) (pa_cons (pv 0) pa_nil)))⟩)
      (pss_one (ps_ret (pe_callB call_sortT (by rfl) B.sorted PyProof.Rows.Boot.«sorted» (pa_cons (pe_op op_cat (pv 1) (pv 2)) pa_nil))))), ?_⟩
    obtain ⟨xs, hx, hxl, hxs⟩ := id hR
    have at_ : ∀ {j : Nat} {x : V}, xs[j]? = some x → ∃ p, x = .ref p ∧ H p = some (.tup (trip (Lg.rq rs j))) := fun {j x} e => by
      have hj : j < rs.length := by have := (List.getElem?_eq_some_iff.mp e).1; omega
      obtain ⟨p, ep, hp⟩ := hxs j rs[j] (List.getElem?_eq_getElem hj)
      rw [e] at ep
      cases ep
      exact ⟨p, rfl, by rw [rq_at (List.getElem?_eq_getElem hj)]; exact hp⟩
    refine ⟨_, rfl, a, rfl, ⟨_, SqL.of hx⟩, fun D1 hD1 => ?_⟩
    refine comp_trips (yields_enum xs) (fun σ => ∃ o1 o2, σ = [o1, o2]) (Lg.lv rs) hD1 (by omega) (fun H3 s3 => SqL.of (s3 _ _ hx)) ⟨_, _, rfl⟩ ?_ ?_
    · rintro j v σ H3 H3' hj ⟨T, x, hT, rfl, rfl, hxj⟩ s3 ⟨o1, o2, rfl⟩ Ky hY
      obtain ⟨p, rfl, hp⟩ := at_ hxj
      have hp3 : upd H3 T (.tup [.int (j : Nat), .ref p]) p = some (.tup (trip (Lg.rq rs j))) := by rw [upd_ne (ne_of_none (s3 _ _ hp) hT)]; exact s3 _ _ hp
      refine ⟨T, _, rfl, SqT.of upd_same, rfl, _, _, rfl, _, _, rfl, rfl, ?_⟩
      refine ⟨_, rfl, p, _, _, _, rfl, rfl, SqT.of hp3, (show atI (trip (Lg.rq rs j)) 1 = some (.int (Lg.rq rs j).2.1) from rfl), _, _, rfl, rfl, _, rfl, by show 3 ≤ sizeLine; decide, fun p5 hp5 => ?_⟩
      have hT5 : T ≠ p5 := ne_of_none upd_same hp5
      have h5 : H3 p5 = none := by rw [upd_ne hT5.symm] at hp5; exact hp5
      exact hY _ p5 _ ((same_laid hT).trans (same_laid hp5)) h5 upd_same ⟨_, _, rfl⟩
    intro H1 s1 hR1
    refine ⟨_, rfl, a, rfl, ⟨_, SqL.of (s1 _ _ hx)⟩, fun D2 hD2 => ?_⟩
    refine comp_trips (yields_enum xs) (fun σ => ∃ o1 o2, σ = [o1, o2]) (Lg.cm rs) hD2 (by omega) (fun H3 s3 => SqL.of (s3 _ _ (s1 _ _ hx))) ⟨_, _, rfl⟩ ?_ ?_
    · rintro j v σ H3 H3' hj ⟨T, x, hT, rfl, rfl, hxj⟩ s3 ⟨o1, o2, rfl⟩ Ky hY
      obtain ⟨p, rfl, hp⟩ := at_ hxj
      have hp3 : upd H3 T (.tup [.int (j : Nat), .ref p]) p = some (.tup (trip (Lg.rq rs j))) := by rw [upd_ne (ne_of_none (s3 _ _ (s1 _ _ hp)) hT)]; exact s3 _ _ (s1 _ _ hp)
      refine ⟨T, _, rfl, SqT.of upd_same, rfl, _, _, rfl, _, _, rfl, rfl, ?_⟩
      refine ⟨_, rfl, p, _, _, _, rfl, rfl, SqT.of hp3, (show atI (trip (Lg.rq rs j)) 0 = some (.int (Lg.rq rs j).1) from rfl), _, rfl, by show 3 ≤ sizeLine; decide, fun p5 hp5 => ?_⟩
      have hT5 : T ≠ p5 := ne_of_none upd_same hp5
      have h5 : H3 p5 = none := by rw [upd_ne hT5.symm] at hp5; exact hp5
      exact hY _ p5 _ ((same_laid hT).trans (same_laid hp5)) h5 upd_same ⟨_, _, rfl⟩
    intro H2 s2 hR2
    have hR1' := reqs_same s2 hR1
    obtain ⟨x1, g1, g2, _⟩ := id hR1'
    obtain ⟨x2, k1, k2, _⟩ := id hR2
    have hlen : xs.length = rs.length := hxl
    have l1 : x1.length = rs.length := by rw [g2]; simp [hlen]
    have l2 : x2.length = rs.length := by rw [k2]; simp [hlen]
    refine ⟨_, rfl, _, rfl, D1, D2, x1, x2, rfl, rfl, g1, k1, by rw [sizeLine_eq]; omega, fun p3 hp3 => ?_⟩
    obtain ⟨y1, y2, e1, e2, _, _, hR3⟩ := reqs_app hR1' hR2 hp3
    rw [g1] at e1
    rw [k1] at e2
    cases e1
    cases e2
    refine sort_reqs hR3 (by simp [hlen]; omega) fun l es H' hl s3 hp ho hRs => ?_
    refine q l es H' ((s1.trans s2).trans ((same_laid hp3).trans s3)) (s1.free (s2.free ((same_laid hp3).free hl))) ⟨?_, ho⟩ hRs
    unfold Lg.evs
    rw [hlen] at hp
    exact hp
end
end Sp

set_option Elab.async false
set_option linter.all false
set_option maxRecDepth 100000
set_option maxHeartbeats 1000000
namespace Sp
open PySem L2
seal PE PA PS PSs PT PG PGs PI PW PTs PJ
/-- who stays where, from when to when -/
def stayL (ls : List Int) (rs : List (Int × Int × Int)) : List Lg.Tr := (List.range rs.length).map fun j => (ls.getD j 0, (Lg.rq rs j).1, (Lg.rq rs j).2.1)
section
variable {P : Program} {w : World} {K : PySem.W.Frag} {mg : Str → Option Value} {base : Heap}
theorem reqs_at {H : Hp} {a : Addr} {rs : List (Int × Int × Int)} {xs : List V} (h : ReqsAt H a rs) (hx : H a = some (.lst xs)) {j : Nat} {x : V} (e : xs[j]? = some x) : ∃ p, x = .ref p ∧ H p = some (.tup (trip (Lg.rq rs j))) := by
  obtain ⟨ys, h1, h2, h3⟩ := h
  rw [hx] at h1
  cases h1
  have hj : j < rs.length := by have := (List.getElem?_eq_some_iff.mp e).1; omega
  obtain ⟨p, ep, hp⟩ := h3 j rs[j] (List.getElem?_eq_getElem hj)
  rw [e] at ep
  cases ep
  exact ⟨p, rfl, by rw [rq_at (List.getElem?_eq_getElem hj)]; exact hp⟩
theorem sc_apart : FnScope ["lodgings", "requests", "stays"] ["lodgings", "requests"] (defScope s_are_apart) := ⟨rfl, rfl, rfl, by decide +kernel, rfl, by decide +kernel, by decide +kernel⟩
def sp_apart (K : PySem.W.Frag) : Sp := fun vs H Q _ => ∃ (a b : Addr) (ls : List Int) (rs : List (Int × Int × Int)), vs = [.ref a, .ref b] ∧ SqL K H a (ls.map V.int) ∧ ReqsAt H b rs ∧ GoodR rs ∧ ls.length = rs.length ∧ rs.length ≤ 60000 ∧
  ∀ (v : Bool) H', Same H H' → (v = true ↔ (stayL ls rs).Pairwise Lg.apartT) → Q (.bl v) H'
theorem ok_apart (B : Bl mg) (D : FnAt K mg "are_apart" s_are_apart ["lodgings", "requests"]) : Def P w K mg base CX0 1 "are_apart" ["lodgings", "requests"] (sp_apart K) := by
  refine D.ok sc_apart (fun vs H Q E h => ?_) fun f cdv A outer s H vs Q E hr h => ?_
  · obtain ⟨a, b, ls, rs, rfl, _⟩ := h; rfl
  · obtain ⟨a, b, ls, rs, rfl, ha, hR, hg, hll, hz, q⟩ := h
    refine ⟨_, pss_cons (ps_set (i := 2) sc_apart.nd rfl (Or.inl rfl) (pe_callB call_sortT (by rfl) B.sorted PyProof.Rows.Boot.«sorted» (pa_cons
        (pe_comp ["room", "request"] [] rfl (pi_zip rfl B.zip (pa_cons (pv 0) (pa_cons (pv 1) pa_nil))) fun cl s H fp C => ⟨pg_two (K := K) 0 1 rfl (show (["room", "request"] : List Str).Nodup by decide +kernel), pts_nil,
          pe_tup (pa_cons (pv 0) (pa_cons (pe_ix (ix_tupK (K := K)) (pv 1) pe_int (fun _ _ => rfl)) (pa_cons (pe_ix (ix_tupK (K := K)) (pv 1) pe_int (fun _ _ => rfl)) pa_nil)))⟩) pa_nil)))
      (pss_one (ps_ret (pe_callB (call_all_bools rfl) (by rfl) B.all PyProof.Rows.Boot.«all» (pa_cons
        (pe_comp ["one", "other"] [] rfl (pi_zip rfl B.zip (pa_cons (pv 2) (pa_cons (pe_slice sl_list (pv 2) (po_some pe_int) po_none) pa_nil))) fun cl s H fp C => ⟨pg_two (K := K) 0 1 rfl (show (["one", "other"] : List Str).Nodup by decide +kernel), pts_nil,
          pe_or (pe_cmpR op_lt (pe_ix (ix_tupK (K := K)) (pv 0) pe_int (fun _ _ => rfl)) (pe_ix (ix_tupK (K := K)) (pv 1) pe_int (fun _ _ => rfl)) (nomark _))
            (pe_one (pe_cmpR op_lt (pe_ix (ix_tupK (K := K)) (pv 0) pe_int (fun _ _ => rfl)) (pe_ix (ix_tupK (K := K)) (pv 1) pe_int (fun _ _ => rfl)) (nomark _)))⟩) pa_nil)))), ?_⟩
    obtain ⟨xs, hx, hxl, _⟩ := id hR
    refine ⟨_, rfl, _, rfl, a, b, rfl, ⟨_, ha⟩, ⟨_, SqL.of hx⟩, fun D1 hD1 => ?_⟩
    have hmin : min (ls.map V.int).length xs.length = rs.length := by rw [List.length_map, hll, hxl, Nat.min_self]
    refine comp_trips (yields_zip (ls.map V.int) xs) (fun σ => ∃ o1 o2, σ = [o1, o2]) (fun j => (ls.getD j 0, (Lg.rq rs j).1, (Lg.rq rs j).2.1)) hD1 (by rw [hmin]; omega) (fun H3 s3 => ⟨s3.seq ha, SqL.of (s3 _ _ hx)⟩) ⟨_, _, rfl⟩ ?_ ?_
    · rintro j v σ H3 H3' hj ⟨T, x, y, hT, rfl, rfl, hxj, hyj⟩ s3 ⟨o1, o2, rfl⟩ Ky hY
      obtain ⟨_, rfl⟩ := int_at hxj
      obtain ⟨p, rfl, hp⟩ := reqs_at hR hx hyj
      have hp3 : upd H3 T (.tup [.int (ls.getD j 0), .ref p]) p = some (.tup (trip (Lg.rq rs j))) := by rw [upd_ne (ne_of_none (s3 _ _ hp) hT)]; exact s3 _ _ hp
      refine ⟨T, _, rfl, SqT.of upd_same, rfl, _, _, rfl, _, _, rfl, rfl, ?_⟩
      refine ⟨_, rfl, _, rfl, p, _, _, _, rfl, rfl, SqT.of hp3, (show atI (trip (Lg.rq rs j)) 0 = some (.int (Lg.rq rs j).1) from rfl), _, rfl, p, _, _, _, rfl, rfl, SqT.of hp3, (show atI (trip (Lg.rq rs j)) 1 = some (.int (Lg.rq rs j).2.1) from rfl), by show 3 ≤ sizeLine; decide, fun p5 hp5 => ?_⟩
      have hT5 : T ≠ p5 := ne_of_none upd_same hp5
      have h5 : H3 p5 = none := by rw [upd_ne hT5.symm] at hp5; exact hp5
      exact hY _ p5 _ ((same_laid hT).trans (same_laid hp5)) h5 upd_same ⟨_, _, rfl⟩
    intro H1 s1 hR1
    rw [hmin] at hR1
    unfold tNil
    refine sort_reqs hR1 (by simp; omega) fun l es H2 hl s2 hp ho hRs => ?_
    have hel : es.length = rs.length := by rw [hp.length_eq]; simp
    obtain ⟨ys, hy, hyl, _⟩ := id hRs
    refine ⟨_, rfl, _, rfl, _, rfl, l, _, rfl, SqL.of hy, fun c hc => ?_⟩
    have s3 : Same H2 (upd H2 c (.lst (cutV ys (some 1) none))) := same_laid hc
    have hc3 : upd H2 c (.lst (cutV ys (some 1) none)) c = some (.lst (ys.drop 1)) := by rw [upd_same, cut_tail]
    generalize upd H2 c (.lst (cutV ys (some 1) none)) = H3 at s3 hc3 ⊢
    refine ⟨l, c, rfl, ⟨_, SqL.of (s3 _ _ hy)⟩, ⟨_, SqL.of hc3⟩, fun D2 hD2 => ?_⟩
    have hmin2 : min ys.length (ys.drop 1).length = rs.length - 1 := by rw [List.length_drop, hyl, hel]; omega
    refine comp_each (yields_zip ys (ys.drop 1)) (fun σ => ∃ o1 o2, σ = [o1, o2]) (fun j => .bl (Lg.nextT (Lg.rq es j) (Lg.rq es (j + 1)))) hD2 (by rw [hmin2]; omega) (fun H4 s4 => ⟨SqL.of (s4 _ _ (s3 _ _ hy)), SqL.of (s4 _ _ hc3)⟩) ⟨_, _, rfl⟩ ?_ ?_
    · rintro j v σ H4 H4' hj ⟨T, x, y, hT, rfl, rfl, hxj, hyj⟩ s4 ⟨o1, o2, rfl⟩ Ky hK
      have hyj' : ys[j + 1]? = some y := by rw [List.getElem?_drop] at hyj; rw [← hyj, Nat.add_comm]
      obtain ⟨p, rfl, hp1⟩ := reqs_at hRs hy hxj
      obtain ⟨p', rfl, hp2⟩ := reqs_at hRs hy hyj'
      have g1 : upd H4 T (.tup [.ref p, .ref p']) p = some (.tup (trip (Lg.rq es j))) := by rw [upd_ne (ne_of_none (s4 _ _ (s3 _ _ hp1)) hT)]; exact s4 _ _ (s3 _ _ hp1)
      have g2 : upd H4 T (.tup [.ref p, .ref p']) p' = some (.tup (trip (Lg.rq es (j + 1)))) := by rw [upd_ne (ne_of_none (s4 _ _ (s3 _ _ hp2)) hT)]; exact s4 _ _ (s3 _ _ hp2)
      refine ⟨T, _, rfl, SqT.of upd_same, rfl, _, _, rfl, _, _, rfl, rfl, ?_⟩
      refine ⟨_, rfl, p, _, _, _, rfl, rfl, SqT.of g1, (show atI (trip (Lg.rq es j)) 0 = some (.int (Lg.rq es j).1) from rfl), _, rfl, p', _, _, _, rfl, rfl, SqT.of g2, (show atI (trip (Lg.rq es (j + 1))) 0 = some (.int (Lg.rq es (j + 1)).1) from rfl), _, _, rfl, rfl, _, rfl, ?_⟩
      have fin : ∀ b, b = Lg.nextT (Lg.rq es j) (Lg.rq es (j + 1)) → Ky [some (.ref p), some (.ref p')] (.bl b) (upd H4 T (.tup [.ref p, .ref p'])) := fun b e => hK _ (.bl b) _ (same_laid hT) ⟨_, _, rfl⟩ (by rw [e])
      by_cases h1 : (Lg.rq es j).1 < (Lg.rq es (j + 1)).1
      · exact iteP (by simpa using h1) (fin _ (by unfold Lg.nextT; rw [decide_eq_true h1, Bool.true_or]))
      · refine iteN (by simpa using h1) ⟨_, rfl, p, _, _, _, rfl, rfl, SqT.of g1, (show atI (trip (Lg.rq es j)) 2 = some (.int (Lg.rq es j).2.2) from rfl), _, rfl, p', _, _, _, rfl, rfl, SqT.of g2, (show atI (trip (Lg.rq es (j + 1))) 1 = some (.int (Lg.rq es (j + 1)).2.1) from rfl), _, _, rfl, rfl, fin _ ?_⟩
        unfold Lg.nextT
        rw [decide_eq_false h1, Bool.false_or]
    · intro H4 s4 hD4
      rw [hmin2] at hD4
      refine ⟨D2, (List.range (rs.length - 1)).map fun j => Lg.nextT (Lg.rq es j) (Lg.rq es (j + 1)), rfl, SqL.of (by rw [hD4, List.map_map]; rfl), ?_⟩
      refine q _ H4 ((s1.trans s2).trans (s3.trans s4)) ?_
      have hgood : ∀ x ∈ stayL ls rs, x.2.1 ≤ x.2.2 := fun x hx' => by
        unfold stayL at hx'
        obtain ⟨j, hj, rfl⟩ := List.mem_map.mp hx'
        rw [List.mem_range] at hj
        have := (hg rs[j] (List.getElem_mem hj)).1
        rw [rq_at (List.getElem?_eq_getElem hj)]
        exact this
      rw [← Lg.adj_iff hgood hp ho, List.all_map, List.all_eq_true]
      constructor
      · intro hh i x y ex ey
        have hi : i + 1 < es.length := (List.getElem?_eq_some_iff.mp ey).1
        have := hh i (List.mem_range.mpr (by omega))
        rw [← rq_at ex, ← rq_at ey]
        exact this
      · intro hh j hj
        rw [List.mem_range] at hj
        have e1 : es[j]? = some es[j] := List.getElem?_eq_getElem (by omega)
        have e2 : es[j + 1]? = some es[j + 1] := List.getElem?_eq_getElem (by omega)
        have := hh j _ _ e1 e2
        rw [← rq_at e1, ← rq_at e2] at this
        exact this
end
end Sp

set_option Elab.async false
set_option linter.all false
set_option maxRecDepth 100000
set_option maxHeartbeats 1000000
namespace L2
open PySem PySem.Spec PyProof.Rows
theorem pe_fldK {X : Cx} {K : PySem.W.Frag} {e : Expr} {f : Str} {pos : Pos} {ta : TE} (he : PE X e ta) (hb : attributeBase e f X.env (eval e X.env) = eval e X.env) (hK : X.K = K := by rfl) : PE X (.Attribute e f pos) (tFld K ta f) := hK ▸ pe_fld he hb
end L2
namespace Sp
open PySem L2
seal PE PA PS PSs PT PG PGs PI PW PTs PJ
/-- a class of answers, as it is asked for -/
structure ClsOk (K : PySem.W.Frag) (C : Addr) : Prop where
  cl : Cls K C
  ha : PySem.W.findIn K (.ref C) "__class__" = some (some (.builtin "object.__class__"))
  hn : PySem.W.specialIn K (.builtin "object.__class__") "__get__" = some (some (.builtin "getset_descriptor.__get__"))
  htk : PySem.W.takesIn K (.builtin "object.__class__") = some true
  hm : PySem.W.mroIn K C (.type "object") = some true
theorem ClsOk.ty {K : PySem.W.Frag} {C : Addr} (c : ClsOk K C) {H : Hp} {a dx : Addr} {fs : List (Str × V)} (e : H a = some (.ins C dx fs)) : TyOf K H (.ref a) (.ref C) := .ins e c.cl c.ha c.hn c.htk c.hm
/-- what isinstance says of a class: an Answer; Best, Due, Lodged, Crowd -/
structure Kin (K : PySem.W.Frag) (CA CB CD CL CC : Addr) (C : Addr) (l c : Bool) : Prop where
  a : PySem.W.kitOne K (.ref C) (.ref CA) = some true
  b : PySem.W.kitOne K (.ref C) (.ref CB) = some false
  d : PySem.W.kitOne K (.ref C) (.ref CD) = some false
  l : PySem.W.kitOne K (.ref C) (.ref CL) = some l
  c : PySem.W.kitOne K (.ref C) (.ref CC) = some c
/-- the answers' classes as the top has made them -/
structure Ans (K : PySem.W.Frag) (mg : Str → Option Value) (CA CB CD CL CC fLi fLs fCi fCs : Addr) (dLi dLs dCi dCs : FuncData) : Prop where
  mA : mg "Answer" = some (.ref CA)
  mB : mg "Best" = some (.ref CB)
  mD : mg "Due" = some (.ref CD)
  mL : mg "Lodged" = some (.ref CL)
  mC : mg "Crowd" = some (.ref CC)
  okL : ClsOk K CL
  okC : ClsOk K CC
  nrooms : NoAttr K CL "rooms"
  nday : NoAttr K CC "day"
  nask : NoAttr K CC "asking"
  mkL : Mk K CL fLi
  mkC : Mk K CC fCi
  shL : Meth K CL "shows" fLs
  shC : Meth K CC "shows" fCs
  kL : Kin K CA CB CD CL CC CL true false
  kC : Kin K CA CB CD CL CC CC false true
  fLi : Fun K "__init__" "Lodged.__init__" s_Lodged___init__ fLi dLi
  fLs : Fun K "shows" "Lodged.shows" s_Lodged_shows fLs dLs
  fCi : Fun K "__init__" "Crowd.__init__" s_Crowd___init__ fCi dCi
  fCs : Fun K "shows" "Crowd.shows" s_Crowd_shows fCs dCs
  bLi : Binds K dLi ["self", "rooms"] []
  bLs : Binds K dLs ["self", "requests", "rooms"] []
  bCi : Binds K dCi ["self", "day", "asking"] []
  bCs : Binds K dCs ["self", "requests", "rooms"] []
section
variable {P : Program} {w : World} {K : PySem.W.Frag} {mg : Str → Option Value} {base : Heap} {CA CB CD CL CC fLi fLs fCi fCs : Addr} {dLi dLs dCi dCs : FuncData}
/-- a Lodged with these rooms -/
def LodgedAt (CL : Addr) (H : Hp) (x : Addr) (ls : List Int) : Prop := ∃ dx l, H x = some (.ins CL dx [("rooms", .ref l)]) ∧ H l = some (.lst (ls.map V.int))
/-- a Crowd with this day and these counts -/
def CrowdAt (CC : Addr) (H : Hp) (x : Addr) (d : Int) (ns : List Int) : Prop := ∃ dx l, H x = some (.ins CC dx [("day", .int d), ("asking", .ref l)]) ∧ H l = some (.lst (ns.map V.int))
theorem lodged_same {H H' : Hp} {x : Addr} {ls : List Int} (s : Same H H') (h : LodgedAt CL H x ls) : LodgedAt CL H' x ls := let ⟨dx, l, h1, h2⟩ := h; ⟨dx, l, s _ _ h1, s _ _ h2⟩
theorem crowd_same {H H' : Hp} {x : Addr} {d : Int} {ns : List Int} (s : Same H H') (h : CrowdAt CC H x d ns) : CrowdAt CC H' x d ns := let ⟨dx, l, h1, h2⟩ := h; ⟨dx, l, s _ _ h1, s _ _ h2⟩
/-! ### __init__ -/
theorem sc_Li : FnScope ["self", "rooms"] ["self", "rooms"] (defScope s_Lodged___init__) := ⟨rfl, rfl, rfl, by decide +kernel, rfl, by decide +kernel, by decide +kernel⟩
def sp_Li (K : PySem.W.Frag) (CL : Addr) : Sp := fun vs H Q _ => ∃ (x dx a : Addr) (ys : List V), vs = [.ref x, .ref a] ∧ H x = some (.ins CL dx []) ∧ SqL K H a ys ∧ ys.length ≤ 100000 ∧ ∀ l, H l = none → Q .non (upd (upd H l (.lst ys)) x (.ins CL dx [("rooms", .ref l)]))
theorem ok_Li (B : Bl mg) (T : Ans K mg CA CB CD CL CC fLi fLs fCi fCs dLi dLs dCi dCs) : FnOk P w K mg base CX0 1 fLi dLi ["self", "rooms"] (sp_Li K CL) := by
  refine T.fLi.ok sc_Li (fun vs H Q E h => ?_) fun cdv A outer s H vs Q E hr h => ?_
  · obtain ⟨x, dx, a, ys, rfl, _⟩ := h; rfl
  · obtain ⟨x, dx, a, ys, rfl, hx, ha, hz, q⟩ := h
    refine ⟨_, pss_one (ps_fld (pv 0) (pe_callTy call_list_of (by rfl) B.list PyProof.Rows.Boot.«list» (pa_cons (pv 1) pa_nil)) rfl), ?_⟩
    refine ⟨_, rfl, a, ys, rfl, .inl ha, fun l hl => ⟨_, rfl, x, CL, dx, [], rfl, ?_, T.okL.cl, T.nrooms, by decide, q l hl⟩⟩
    rw [upd_ne (ne_of_none hx hl)]
    exact hx
theorem sc_Ci : FnScope ["self", "day", "asking"] ["self", "day", "asking"] (defScope s_Crowd___init__) := ⟨rfl, rfl, rfl, by decide +kernel, rfl, by decide +kernel, by decide +kernel⟩
def sp_Ci (K : PySem.W.Frag) (CC : Addr) : Sp := fun vs H Q _ => ∃ (x dx a : Addr) (d : Int) (ys : List V), vs = [.ref x, .int d, .ref a] ∧ H x = some (.ins CC dx []) ∧ H a = some (.lst ys) ∧ ys.length ≤ 100000 ∧ ∀ l, H l = none → Q .non (upd (upd (upd H x (.ins CC dx [("day", .int d)])) l (.lst ys)) x (.ins CC dx [("day", .int d), ("asking", .ref l)]))
theorem ok_Ci (B : Bl mg) (T : Ans K mg CA CB CD CL CC fLi fLs fCi fCs dLi dLs dCi dCs) : FnOk P w K mg base CX0 1 fCi dCi ["self", "day", "asking"] (sp_Ci K CC) := by
  refine T.fCi.ok sc_Ci (fun vs H Q E h => ?_) fun cdv A outer s H vs Q E hr h => ?_
  · obtain ⟨x, dx, a, d, ys, rfl, _⟩ := h; rfl
  · obtain ⟨x, dx, a, d, ys, rfl, hx, ha, hz, q⟩ := h
    refine ⟨_, pss_cons (ps_fld (pv 0) (pv 1) rfl) (pss_one (ps_fld (pv 0) (pe_callTy call_list_of (by rfl) B.list PyProof.Rows.Boot.«list» (pa_cons (pv 2) pa_nil)) rfl)), ?_⟩
    refine ⟨_, rfl, _, rfl, x, CC, dx, [], rfl, hx, T.okC.cl, T.nday, by decide, ?_⟩
    have ha' : SqL K (upd H x (.ins CC dx [("day", .int d)])) a ys := SqL.of (by rw [upd_ne (ne_of ha hx fun z => nomatch z)]; exact ha)
    refine ⟨_, rfl, a, ys, rfl, .inl ha', fun l hl => ⟨_, rfl, x, CC, dx, [("day", .int d)], rfl, ?_, T.okC.cl, T.nask, by show 1 < 1000; decide, q l ?_⟩⟩
    · rw [upd_ne (ne_of_none upd_same hl)]
      exact upd_same
    · rwa [upd_ne (ne_of_none upd_same hl).symm] at hl
/-! ### shows -/
theorem reqs_yes {H : Hp} {v : V} {Q : VK} {E : XK} (g : GoodReqs H v) (q : ∀ H', Same H H' → Q (.bl true) H') : sp_reqs K [v] H Q E := by
  obtain ⟨a, xs, rfl, ha, hl, hp⟩ := g
  refine ⟨_, rfl, .inr ⟨a, xs, rfl, ha, hl, fun x hx => ?_, fun bs H' sm hb hbs => ?_⟩⟩
  · obtain ⟨p, i, j, k, rfl, e2, _⟩ := hp x hx
    exact good_plain e2
  · have e4 : bs.all id = true := by
      rw [List.all_eq_true]
      intro b hb'
      obtain ⟨j, hj, ej⟩ := List.getElem_of_mem hb'
      have hj' : j < xs.length := by omega
      obtain ⟨p, i, j', k, e1, e2, h1, h2⟩ := hp xs[j] (List.getElem_mem hj')
      have r := hbs j b xs[j] (by rw [List.getElem?_eq_getElem hj, ej]) (List.getElem?_eq_getElem hj')
      rw [e1] at r
      exact (req_one r (good_req e2 h1 h2))
    rw [e4]
    exact q H' sm
/-- rooms within, apart on every day, one for each -/
def LodgedOk (ls : List Int) (rs : List (Int × Int × Int)) (m : Int) : Prop := ls.length = rs.length ∧ (∀ c ∈ ls, 0 ≤ c ∧ c < m) ∧ (stayL ls rs).Pairwise Lg.apartT
theorem sc_Ls : FnScope ["self", "requests", "rooms"] ["self", "requests", "rooms"] (defScope s_Lodged_shows) := ⟨rfl, rfl, rfl, by decide +kernel, rfl, by decide +kernel, by decide +kernel⟩
def sp_Ls (CL : Addr) : Sp := fun vs H Q _ => ∃ (x b : Addr) (m : Int) (ls : List Int) (rs : List (Int × Int × Int)), vs = [.ref x, .ref b, .int m] ∧ LodgedAt CL H x ls ∧ ReqsAt H b rs ∧ GoodR rs ∧ rs.length ≤ 60000 ∧ ls.length ≤ 60000 ∧ 0 ≤ m ∧
  ∀ (v : Bool) H', Same H H' → (v = true ↔ LodgedOk ls rs m) → Q (.bl v) H'
theorem ok_Ls (B : Bl mg) (T : Ans K mg CA CB CD CL CC fLi fLs fCi fCs dLi dLs dCi dCs) (GW : Def P w K mg base CX0 1 "is_whole" ["value"] (sp_whole K)) (GR : Def P w K mg base CX0 4 "are_requests" ["value"] (sp_reqs K))
    (GM : Def P w K mg base CX0 2 "are_rooms" ["value"] (sp_rooms K)) (GA : Def P w K mg base CX0 1 "are_apart" ["lodgings", "requests"] (sp_apart K)) : FnOk P w K mg base CX0 5 fLs dLs ["self", "requests", "rooms"] (sp_Ls CL) := by
  refine T.fLs.ok sc_Ls (fun vs H Q E h => ?_) fun cdv A outer s H vs Q E hr h => ?_
  · obtain ⟨x, b, m, ls, rs, rfl, _⟩ := h; rfl
  · obtain ⟨x, b, m, ls, rs, rfl, hX, hR, hg, hz, hz2, hm, q⟩ := h
    have hr1 : Room 1 _ := hr.mono (by decide)
    have hr2 : Room 2 _ := hr.mono (by decide)
    refine ⟨_, pss_cons (ps_if (PW.pt (pw_or (pt_not (pt_val (pe_def GR hr rfl pass0 (pa_cons (pv 1) pa_nil)))) (pw_or1 (pt_not (pt_val (pe_def GM hr2 rfl pass0 (pa_cons (pv 2) pa_nil))))))) (pss_one (ps_ret pe_bl)) pss_nil)
      (pss_cons (ps_if (PW.pt (pw_or (pt_not (pt_val (pe_isi B.isinstance B.list PyProof.Rows.Boot.«list» (pe_fld (pv 0) rfl)))) (pw_or1 (pt_cmpR op_ne (pe_callB call_len_seq (by rfl) B.len PySem.boot_len (pa_cons (pe_fld (pv 0) rfl) pa_nil)) (pe_callB call_len_seq (by rfl) B.len PySem.boot_len (pa_cons (pv 1) pa_nil)) (nomark _))))) (pss_one (ps_ret pe_bl)) pss_nil)
      (pss_cons (ps_if (pt_not (pt_val (pe_callB (call_all_bools rfl) (by rfl) B.all PyProof.Rows.Boot.«all» (pa_cons
          (pe_comp ["room"] [2] rfl (pi_list (pe_fld (pv 0) rfl)) fun cl s H fp C => ⟨pg_name (i := 0) (show (["room", "rooms"] : List Str).Nodup by decide +kernel) rfl (Or.inl rfl), pts_nil,
            pe_and (pe_def GW hr1 rfl pass0 (pa_cons (pv 0) pa_nil)) (pe_one (pe_chain op_le op_lt pe_int (pv 0) (pv 1)))⟩) pa_nil)))) (pss_one (ps_ret pe_bl)) pss_nil)
      (pss_one (ps_ret (pe_def GA hr1 rfl pass0 (pa_cons (pe_fld (pv 0) rfl) (pa_cons (pv 1) pa_nil))))))), ?_⟩
    obtain ⟨dx, l, hx, hl⟩ := id hX
    obtain ⟨xs, hb, hbl, _⟩ := id hR
    have lk : ([("rooms", V.ref l)] : List (Str × V)).lookup (Str.ofString "rooms") = some (V.ref l) := by simp [List.lookup]
    refine ⟨_, rfl, ?_⟩
    unfold tNil
    refine reqs_yes (reqs_good hR hg hz) fun H1 s1 => ⟨_, rfl, iteF ?_⟩
    refine ⟨_, rfl, _, _, rfl, TyOf.int m, _, rfl, ?_⟩
    have em : natV (.int m) = true := decide_eq_true hm
    rw [em]
    refine iteF ?_
    have hx1 := s1 _ _ hx
    have hl1 := s1 _ _ hl
    refine ⟨_, rfl, x, CL, dx, _, _, rfl, hx1, T.okL.cl, T.nrooms, lk, _, _, _, rfl, TyOf.lst hl1, (kits (H := H1) (TyOf.lst hl1)).2.2.1, _, rfl, iteF ?_⟩
    refine ⟨_, rfl, x, CL, dx, _, _, rfl, hx1, T.okL.cl, T.nrooms, lk, l, _, rfl, .inl (SqL.of hl1), _, rfl, b, _, rfl, .inl (SqL.of (s1 _ _ hb)), rfl, _, rfl, ?_⟩
    by_cases hll : ls.length = rs.length
    · refine iteN (by simp [hll, hbl]) ?_
      refine ⟨_, rfl, x, CL, dx, _, _, rfl, hx1, T.okL.cl, T.nrooms, lk, l, rfl, ⟨_, SqL.of hl1⟩, fun D hD => ?_⟩
      refine comp_each (yields_list (ls.map V.int)) (fun σ => ∃ o, σ = [o, some (.int m)]) (fun j => .bl (decide (0 ≤ ls.getD j 0) && decide (ls.getD j 0 < m))) hD (by rw [List.length_map]; omega) (fun H3 s3 => SqL.of (s3 _ _ hl1)) ⟨_, rfl⟩ ?_ ?_
      · rintro j v σ H3 H3' hj ⟨rfl, hxj⟩ s3 ⟨o, rfl⟩ Ky hK
        obtain ⟨h1, rfl⟩ := int_at hxj
        refine ⟨_, rfl, _, _, rfl, TyOf.int _, _, rfl, iteT ⟨_, rfl, _, _, rfl, rfl, _, rfl, ?_⟩⟩
        by_cases h0 : 0 ≤ ls.getD j 0
        · refine iteP (by simpa using h0) ⟨_, rfl, _, _, rfl, rfl, hK _ _ _ (Same.refl _) ⟨_, rfl⟩ ?_⟩
          rw [decide_eq_true h0, Bool.true_and]
        · refine iteN (by simpa using h0) (hK _ _ _ (Same.refl _) ⟨_, rfl⟩ ?_)
          rw [decide_eq_false h0, Bool.false_and]
      · intro H3 s3 hD3
        have e1 : ((List.range (ls.map V.int).length).map fun j => decide (0 ≤ ls.getD j 0) && decide (ls.getD j 0 < m)).all id = ls.all fun c => decide (0 ≤ c) && decide (c < m) := by
          rw [List.length_map]
          exact all_range ls fun c => decide (0 ≤ c) && decide (c < m)
        refine ⟨D, (List.range (ls.map V.int).length).map fun j => decide (0 ≤ ls.getD j 0) && decide (ls.getD j 0 < m), rfl, SqL.of (by rw [hD3, List.map_map]; rfl), _, rfl, ?_⟩
        rw [e1]
        have ea : (ls.all fun c => decide (0 ≤ c) && decide (c < m)) = true ↔ ∀ c ∈ ls, 0 ≤ c ∧ c < m := by
          rw [List.all_eq_true]
          simp
        have S3 : Same H H3 := s1.trans s3
        cases hc : ls.all fun c => decide (0 ≤ c) && decide (c < m) with
        | false =>
          refine iteT (q false H3 S3 ⟨fun z => (by cases z), fun z => ?_⟩)
          rw [ea.mpr z.2.1] at hc
          cases hc
        | true =>
          refine iteF ⟨_, rfl, x, CL, dx, _, _, rfl, s3 _ _ hx1, T.okL.cl, T.nrooms, lk, _, rfl, l, b, ls, rs, rfl, SqL.of (s3 _ _ hl1), reqs_same S3 hR, hg, hll, hz, fun v H4 s4 hv => ?_⟩
          exact q v H4 (S3.trans s4) (hv.trans ⟨fun z => ⟨hll, ea.mp hc, z⟩, fun z => z.2.2⟩)
    · refine iteP (by simp [hbl]; omega) (q false H1 s1 ⟨fun z => (by cases z), fun z => absurd z.1 hll⟩)
end
end Sp

set_option Elab.async false
set_option linter.all false
set_option maxRecDepth 100000
set_option maxHeartbeats 1000000
namespace Sp
open PySem L2
seal PE PA PS PSs PT PG PGs PI PW PTs PJ
section
variable {P : Program} {w : World} {K : PySem.W.Frag} {mg : Str → Option Value} {base : Heap} {CA CB CD CL CC fLi fLs fCi fCs : Addr} {dLi dLs dCi dCs : FuncData}
/-- counts that rise, of requests for the day, more than rooms -/
def CrowdOk (d : Int) (ns : List Int) (rs : List (Int × Int × Int)) (m : Int) : Prop := choiceB ns rs.length = true ∧ m < (ns.length : Int) ∧ ∀ c ∈ ns, (Lg.rq rs c.toNat).1 ≤ d ∧ d ≤ (Lg.rq rs c.toNat).2.1
theorem choice_in {ns : List Int} {n : Nat} (h : choiceB ns n = true) {c : Int} (hc : c ∈ ns) : 0 ≤ c ∧ c.toNat < n := by
  unfold choiceB at h
  rw [Bool.and_eq_true, List.all_eq_true] at h
  have := h.1 c hc
  rw [Bool.and_eq_true, decide_eq_true_eq, decide_eq_true_eq] at this
  omega
theorem sc_Cs : FnScope ["self", "requests", "rooms"] ["self", "requests", "rooms"] (defScope s_Crowd_shows) := ⟨rfl, rfl, rfl, by decide +kernel, rfl, by decide +kernel, by decide +kernel⟩
def sp_Cs (CC : Addr) : Sp := fun vs H Q _ => ∃ (x b : Addr) (m d : Int) (ns : List Int) (rs : List (Int × Int × Int)), vs = [.ref x, .ref b, .int m] ∧ CrowdAt CC H x d ns ∧ ReqsAt H b rs ∧ GoodR rs ∧ rs.length ≤ 60000 ∧ ns.length ≤ 60000 ∧ 0 ≤ m ∧
  ∀ (v : Bool) H', Same H H' → (v = true ↔ CrowdOk d ns rs m) → Q (.bl v) H'
theorem ok_Cs (B : Bl mg) (T : Ans K mg CA CB CD CL CC fLi fLs fCi fCs dLi dLs dCi dCs) (GW : Def P w K mg base CX0 1 "is_whole" ["value"] (sp_whole K)) (GR : Def P w K mg base CX0 4 "are_requests" ["value"] (sp_reqs K))
    (GM : Def P w K mg base CX0 2 "are_rooms" ["value"] (sp_rooms K)) (GC : Def P w K mg base CX0 2 "is_choice" ["taken", "requests"] (sp_choice K)) : FnOk P w K mg base CX0 5 fCs dCs ["self", "requests", "rooms"] (sp_Cs CC) := by
  refine T.fCs.ok sc_Cs (fun vs H Q E h => ?_) fun cdv A outer s H vs Q E hr h => ?_
  · obtain ⟨x, b, m, d, ns, rs, rfl, _⟩ := h; rfl
  · obtain ⟨x, b, m, d, ns, rs, rfl, hX, hR, hg, hz, hz2, hm, q⟩ := h
    have hr1 : Room 1 _ := hr.mono (by decide)
    have hr2 : Room 2 _ := hr.mono (by decide)
    refine ⟨_, pss_cons (ps_if (PW.pt (pw_or (pt_not (pt_val (pe_def GR hr rfl pass0 (pa_cons (pv 1) pa_nil)))) (pw_or (pt_not (pt_val (pe_def GM hr2 rfl pass0 (pa_cons (pv 2) pa_nil)))) (pw_or1 (pt_not (pt_val (pe_def GW hr1 rfl pass0 (pa_cons (pe_fld (pv 0) rfl) pa_nil)))))))) (pss_one (ps_ret pe_bl)) pss_nil)
      (pss_cons (ps_if (PW.pt (pw_or (pt_not (pt_val (pe_def GC hr2 rfl pass0 (pa_cons (pe_fld (pv 0) rfl) (pa_cons (pv 1) pa_nil))))) (pw_or1 (pt_cmpR op_le (pe_callB call_len_seq (by rfl) B.len PySem.boot_len (pa_cons (pe_fld (pv 0) rfl) pa_nil)) (pv 2) (nomark _))))) (pss_one (ps_ret pe_bl)) pss_nil)
      (pss_one (ps_ret (pe_callB (call_all_bools rfl) (by rfl) B.all PyProof.Rows.Boot.«all» (pa_cons
          (pe_comp ["count"] [1, 0] rfl (pi_list (pe_fld (pv 0) rfl)) fun cl s H fp C => ⟨pg_name (i := 0) (show (["count", "requests", "self"] : List Str).Nodup by decide +kernel) rfl (Or.inl rfl), pts_nil,
            pe_chain op_le op_le (pe_ix (ix_tupK (K := K)) (pe_ix (ix_listK (K := K)) (pv 1) (pv 0) (fun _ _ => rfl)) pe_int (fun _ _ => rfl)) (pe_fldK (K := K) (pv 2) rfl) (pe_ix (ix_tupK (K := K)) (pe_ix (ix_listK (K := K)) (pv 1) (pv 0) (fun _ _ => rfl)) pe_int (fun _ _ => rfl))⟩) pa_nil))))), ?_⟩
    obtain ⟨dx, l, hx, hl⟩ := id hX
    obtain ⟨xs, hb, hbl, _⟩ := id hR
    have lkd : ([("day", V.int d), ("asking", V.ref l)] : List (Str × V)).lookup (Str.ofString "day") = some (V.int d) := by rfl
    have lka : ([("day", V.int d), ("asking", V.ref l)] : List (Str × V)).lookup (Str.ofString "asking") = some (V.ref l) := by rfl
    refine ⟨_, rfl, ?_⟩
    unfold tNil
    refine reqs_yes (reqs_good hR hg hz) fun H1 s1 => ⟨_, rfl, iteF ?_⟩
    refine ⟨_, rfl, _, _, rfl, TyOf.int m, _, rfl, ?_⟩
    have em : natV (.int m) = true := decide_eq_true hm
    rw [em]
    refine iteF ?_
    have hx1 := s1 _ _ hx
    have hl1 := s1 _ _ hl
    refine ⟨_, rfl, x, CC, dx, _, _, rfl, hx1, T.okC.cl, T.nday, lkd, _, _, rfl, TyOf.int d, _, rfl, iteF ?_⟩
    refine ⟨_, rfl, x, CC, dx, _, _, rfl, hx1, T.okC.cl, T.nask, lka, _, rfl, l, b, ns, xs, rfl, hl1, SqL.of (s1 _ _ hb), hz2, fun H2 s2 => ⟨_, rfl, ?_⟩⟩
    have S2 : Same H H2 := s1.trans s2
    rw [hbl]
    cases hc : choiceB ns rs.length with
    | false => exact iteT (iteT (q false H2 S2 ⟨fun z => (by cases z), fun z => by rw [z.1] at hc; cases hc⟩))
    | true =>
      refine iteF ⟨_, rfl, x, CC, dx, _, _, rfl, S2 _ _ hx, T.okC.cl, T.nask, lka, l, _, rfl, .inl (SqL.of (S2 _ _ hl)), _, rfl, _, _, rfl, rfl, _, rfl, ?_⟩
      by_cases hlen : (ns.length : Int) ≤ m
      · refine iteP (by simpa using hlen) (q false H2 S2 ⟨fun z => (by cases z), fun z => by have := z.2.1; omega⟩)
      · refine iteN (by simpa using hlen) ?_
        refine ⟨_, rfl, x, CC, dx, _, _, rfl, S2 _ _ hx, T.okC.cl, T.nask, lka, l, rfl, ⟨_, SqL.of (S2 _ _ hl)⟩, fun D hD => ?_⟩
        refine comp_each (yields_list (ns.map V.int)) (fun σ => ∃ o, σ = [o, some (.ref b), some (.ref x)]) (fun j => .bl (decide ((Lg.rq rs (ns.getD j 0).toNat).1 ≤ d) && decide (d ≤ (Lg.rq rs (ns.getD j 0).toNat).2.1))) hD (by rw [List.length_map]; omega) (fun H3 s3 => SqL.of (s3 _ _ (S2 _ _ hl))) ⟨_, rfl⟩ ?_ ?_
        · rintro j v σ H3' H3 hj ⟨rfl, hxj⟩ s3 ⟨o, rfl⟩ Ky hK
          obtain ⟨h1, rfl⟩ := int_at hxj
          have hin := choice_in hc (c := ns.getD j 0) (by rw [getD_at h1]; exact List.getElem_mem h1)
          have S3 : Same H H3 := S2.trans s3
          have hb3 := S3 _ _ hb
          obtain ⟨y, ey⟩ : ∃ y, xs[(ns.getD j 0).toNat]? = some y := ⟨_, List.getElem?_eq_getElem (by omega)⟩
          obtain ⟨p, rfl, hp⟩ := reqs_at hR hb ey
          have hp3 := S3 _ _ hp
          refine ⟨_, rfl, _, rfl, b, xs, _, _, rfl, rfl, SqL.of hb3, atI_int hin.1 ey, p, _, _, _, rfl, rfl, SqT.of hp3, (show atI (trip (Lg.rq rs (ns.getD j 0).toNat)) 0 = some (.int (Lg.rq rs (ns.getD j 0).toNat).1) from rfl), ?_⟩
          refine ⟨_, rfl, x, CC, dx, _, _, rfl, S3 _ _ hx, T.okC.cl, T.nday, lkd, _, _, rfl, rfl, _, rfl, ?_⟩
          by_cases h2 : (Lg.rq rs (ns.getD j 0).toNat).1 ≤ d
          · refine iteP (by simpa using h2) ⟨_, rfl, _, rfl, b, xs, _, _, rfl, rfl, SqL.of hb3, atI_int hin.1 ey, p, _, _, _, rfl, rfl, SqT.of hp3, (show atI (trip (Lg.rq rs (ns.getD j 0).toNat)) 1 = some (.int (Lg.rq rs (ns.getD j 0).toNat).2.1) from rfl), _, _, rfl, rfl, hK _ _ _ (Same.refl _) ⟨_, rfl⟩ ?_⟩
            rw [decide_eq_true h2, Bool.true_and]
          · refine iteN (by simpa using h2) (hK _ _ _ (Same.refl _) ⟨_, rfl⟩ ?_)
            rw [decide_eq_false h2, Bool.false_and]
        · intro H3 s3 hD3
          have e1 : ((List.range (ns.map V.int).length).map fun j => decide ((Lg.rq rs (ns.getD j 0).toNat).1 ≤ d) && decide (d ≤ (Lg.rq rs (ns.getD j 0).toNat).2.1)).all id = ns.all fun c => decide ((Lg.rq rs c.toNat).1 ≤ d) && decide (d ≤ (Lg.rq rs c.toNat).2.1) := by
            rw [List.length_map]
            exact all_range ns fun c => decide ((Lg.rq rs c.toNat).1 ≤ d) && decide (d ≤ (Lg.rq rs c.toNat).2.1)
          refine ⟨D, (List.range (ns.map V.int).length).map fun j => decide ((Lg.rq rs (ns.getD j 0).toNat).1 ≤ d) && decide (d ≤ (Lg.rq rs (ns.getD j 0).toNat).2.1), rfl, SqL.of (by rw [hD3, List.map_map]; rfl), ?_⟩
          rw [e1]
          refine q _ H3 (S2.trans s3) ?_
          have ea : (ns.all fun c => decide ((Lg.rq rs c.toNat).1 ≤ d) && decide (d ≤ (Lg.rq rs c.toNat).2.1)) = true ↔ ∀ c ∈ ns, (Lg.rq rs c.toNat).1 ≤ d ∧ d ≤ (Lg.rq rs c.toNat).2.1 := by
            rw [List.all_eq_true]
            simp
          rw [ea]
          exact ⟨fun z => ⟨hc, by omega, z⟩, fun z => z.2.2⟩
end
end Sp

set_option Elab.async false
set_option linter.all false
set_option maxRecDepth 100000
set_option maxHeartbeats 2000000
namespace L2
open PySem PySem.Spec PyProof.Rows
theorem passX0 {P : Program} {w : World} {X : Cx} : Passes (CXE P w) X E0 := fun _ _ _ _ _ _ _ h => by
  obtain ⟨_, _, _, q⟩ := h
  exact q.elim
theorem ixN_nat {n j : Nat} (h : j < n) : ixN n (j : Int) = some j := by
  unfold ixN
  rw [if_pos (by omega)]
  simp [h]
end L2
namespace Sp
open PySem L2
seal PE PA PS PSs PT PG PGs PI PW PTs PJ
section
variable {P : Program} {w : World} {K : PySem.W.Frag} {mg : Str → Option Value} {base : Heap} {CA CB CD CL CC fLi fLs fCi fCs CQ CR : Addr} {dLi dLs dCi dCs : FuncData}
theorem set_map (l : List Int) (c : Nat) (x : Int) : (l.map V.int).set c (.int x) = (l.set c x).map V.int := by rw [List.map_set]
theorem last_of {l : List Int} {x : Int} (h : l ≠ []) : ∃ f x, l = f ++ [x] := ⟨l.dropLast, l.getLast h, (List.dropLast_concat_getLast h).symm⟩
/-- at the end all have come: rooms for all -/
theorem lodged_end {rs es : List (Int × Int × Int)} {lodg free : List Int} {opened m : Int} (hO : Lg.Ordered rs es) (st : Lg.St rs es lodg free opened) (ho : opened ≤ m) : LodgedOk lodg rs m := by
  have all : ∀ c, c < rs.length → Lg.cm rs c ∈ es := fun c hc => hO.perm.mem_iff.mpr (Lg.mem_evs.mpr ⟨c, hc, .inr rfl⟩)
  refine ⟨st.len, fun x hx => ?_, ?_⟩
  · obtain ⟨c, hc, rfl⟩ := List.getElem_of_mem hx
    have hc' : c < rs.length := by rw [← st.len]; exact hc
    have := st.bnd c hc' (all c hc')
    rw [getD_at hc] at this
    omega
  · unfold stayL
    refine List.pairwise_iff_getElem.mpr fun i j hi hj hij => ?_
    have hi' : i < rs.length := by simpa using hi
    have hj' : j < rs.length := by simpa using hj
    rw [List.getElem_map, List.getElem_map, List.getElem_range, List.getElem_range]
    rintro ⟨e, h1, h2⟩
    exact st.met i j hi' hj' (all i hi') (all j hj') (by omega) ⟨h1, h2⟩ e
/-- all but what L and F hold -/
def Sb (L F : Addr) (H H' : Hp) : Prop := ∀ b u, H b = some u → b ≠ L → b ≠ F → H' b = some u
theorem Sb.updL {L F : Addr} {H H' : Hp} {o : HO} (h : Sb L F H H') : Sb L F H (upd H' L o) := fun b u e n1 n2 => by rw [upd_ne n1]; exact h b u e n1 n2
theorem Sb.updF {L F : Addr} {H H' : Hp} {o : HO} (h : Sb L F H H') : Sb L F H (upd H' F o) := fun b u e n1 n2 => by rw [upd_ne n2]; exact h b u e n1 n2
theorem made_same {H : Hp} {x dx : Addr} {o1 o2 : HO} (hx : H x = none) (hd : H dx = none) : Same H (upd (upd H dx o1) x o2) := fun b u e => by
  rw [upd_ne (ne_of_none e hx), upd_ne (ne_of_none e hd)]
  exact e
theorem same_over {H H' : Hp} {x : Addr} {o : HO} (hx : H x = none) (h : Same H H') : Same H (upd H' x o) := fun b u e => by
  rw [upd_ne (ne_of_none e hx)]
  exact h b u e
theorem rq_mem {rs : List (Int × Int × Int)} {c : Nat} (h : c < rs.length) : Lg.rq rs c ∈ rs := by
  unfold Lg.rq
  rw [List.getD_eq_getElem?_getD, List.getElem?_eq_getElem h]
  exact List.getElem_mem h
theorem get_intsD {ns : List Int} {j : Nat} {k : Int} (hk : k = (j : Nat)) (h : j < ns.length) : atI (ns.map V.int) k = some (.int (ns.getD j 0)) := by
  rw [getD_at h]
  exact get_ints hk h
theorem split_at {es : List (Int × Int × Int)} {i : Nat} {e : Int × Int × Int} (h : es[i]? = some e) : es = es.take i ++ e :: es.drop (i + 1) ∧ es.take (i + 1) = es.take i ++ [e] := by
  obtain ⟨hi, rfl⟩ := List.getElem?_eq_some_iff.mp h
  refine ⟨?_, ?_⟩
  · rw [List.getElem_cons_drop, List.take_append_drop]
  · rw [List.take_succ, h]
    rfl
theorem there_len (rs : List (Int × Int × Int)) (d : Int) : (thereL rs d).length = Lg.cnt (fun c => decide ((Lg.rq rs c).1 ≤ d) && decide (d ≤ (Lg.rq rs c).2.1)) rs.length := rfl
theorem flat_zero (n : Nat) : (List.replicate n [V.int 0]).flatten = (List.replicate n (0 : Int)).map V.int := by
  induction n with
  | zero => rfl
  | succ n ih => rw [List.replicate_succ, List.flatten_cons, ih, List.replicate_succ]; rfl
theorem sc_lodged : FnScope ["requests", "rooms", "lodgings", "free", "opened", "day", "turn", "count"] ["requests", "rooms"] (defScope s_lodged) := ⟨rfl, rfl, rfl, by decide +kernel, rfl, by decide +kernel, by decide +kernel⟩
def sp_lodged (CL CC : Addr) : Sp := fun vs H Q _ => ∃ (a : Addr) (m : Int) (rs : List (Int × Int × Int)), vs = [.ref a, .int m] ∧ ReqsAt H a rs ∧ GoodR rs ∧ rs.length ≤ 40000 ∧ 0 ≤ m ∧
  (∀ (x dx l : Addr) (ls : List Int) H', Same H H' → H x = none → H l = none → H' x = some (.ins CL dx [("rooms", .ref l)]) → H' l = some (.lst (ls.map V.int)) → LodgedOk ls rs m → Q (.ref x) H') ∧
  (∀ (x dx l : Addr) (d : Int) H', Same H H' → H x = none → H l = none → H' x = some (.ins CC dx [("day", .int d), ("asking", .ref l)]) → H' l = some (.lst ((thereL rs d).map fun c => V.int (c : Nat))) → m < ((thereL rs d).length : Int) → (∃ c, c < rs.length ∧ d = (Lg.rq rs c).1) → Q (.ref x) H')
theorem ok_lodged (B : Bl mg) (Cn : Cons mg) (T : Ans K mg CA CB CD CL CC fLi fLs fCi fCs dLi dLs dCi dCs) (GQ : Def P w K mg base (CXE P w) 5 "check_requests" ["requests"] (sp_creq K CQ)) (GM : Def P w K mg base (CXE P w) 3 "check_rooms" ["rooms"] (sp_croom K CR))
    (GT : Def P w K mg base CX0 1 "turns_of" ["requests"] sp_turns) (GA : Def P w K mg base CX0 1 "asking_for" ["requests", "day"] sp_asking) (D : FnAt K mg "lodged" s_lodged ["requests", "rooms"]) : Def P w K mg base CX0 6 "lodged" ["requests", "rooms"] (sp_lodged CL CC) := by
  obtain ⟨t0, hL⟩ := Cn.leaves
  refine D.ok sc_lodged (fun vs H Q E h => ?_) fun f cdv A outer s H vs Q E hr h => ?_
  · obtain ⟨a, m, rs, rfl, _⟩ := h; rfl
  · obtain ⟨a, m, rs, rfl, hR, hg, hz, hm, q1, q2⟩ := h
    have hr1 : Room 1 _ := hr.mono (by decide)
    have hr2 : Room 2 _ := hr.mono (by decide)
    have hr3 : Room 3 _ := hr.mono (by decide)
    refine ⟨_, pss_cons (ps_expr (pe_def GQ hr rfl passX0 (pa_cons (pv 0) pa_nil)))
      (pss_cons (ps_expr (pe_def GM hr3 rfl passX0 (pa_cons (pv 1) pa_nil)))
      (pss_cons (ps_set (i := 2) sc_lodged.nd rfl (Or.inl rfl) (pe_op op_rep (pe_lst (pa_cons pe_int pa_nil)) (pe_callB call_len_seq (by rfl) B.len PySem.boot_len (pa_cons (pv 0) pa_nil))))
      (pss_cons (ps_set (i := 3) sc_lodged.nd rfl (Or.inl rfl) (pe_lst pa_nil))
      (pss_cons (ps_set (i := 4) sc_lodged.nd rfl (Or.inl rfl) pe_int)
      (pss_cons (ps_for PassesOwn.never rfl (pi_list (pe_def GT hr1 rfl pass0 (pa_cons (pv 0) pa_nil))) (pg_three (K := K) 5 6 7 rfl sc_lodged.nd)
        (pss_one (ps_if (pt_cmpR op_eq (pv 6) (pe_glob (v := .int 0) rfl hL ⟨_, rfl⟩) (nomark _))
          (pss_one (ps_expr (pe_bm PySem.F.plainAttrs_list PySem.F.slot_list_append PySem.F.type_list_append mt_append (pv 3) (pa_cons (pe_ix ix_list (pv 2) (pv 7) (fun _ _ => rfl)) pa_nil))))
          (pss_one (ps_if (pt_truth (pv 3) fun _ => rfl)
            (pss_one (ps_asg (pe_bm0 PySem.F.plainAttrs_list PySem.F.slot_list_pop PySem.F.type_list_pop mt_pop (pv 3)) (pg_sub (pv 2) (pv 7) set_list)))
            (pss_one (ps_if (pt_cmpR op_lt (pv 4) (pv 1) (nomark _))
              (pss_cons (ps_asg (pv 4) (pg_sub (pv 2) (pv 7) set_list)) (pss_one (ps_aug (i := 4) sc_lodged.nd rfl (Or.inl rfl) pe_int ip_add)))
              (pss_one (ps_ret (pe_make T.mkC (ok_Ci B T) hr2 rfl T.mC T.bCi .nil pass0 (pa_cons (pv 5) (pa_cons (pe_def GA hr1 rfl pass0 (pa_cons (pv 0) (pa_cons (pv 5) pa_nil))) pa_nil))))))))))))
      (pss_one (ps_ret (pe_make T.mkL (ok_Li B T) hr2 rfl T.mL T.bLi .nil pass0 (pa_cons (pv 2) pa_nil))))))))), ?_⟩
    refine ⟨_, rfl, _, rfl, .inr ⟨reqs_good hR hg (by omega), fun H1 s1 => ?_⟩⟩
    refine ⟨_, rfl, _, _, rfl, TyOf.int m, .inr ⟨decide_eq_true hm, ?_⟩⟩
    obtain ⟨xs, hx, hxl, _⟩ := id hR
    have hx1 := s1 _ _ hx
    refine ⟨by show 1 ≤ sizeLine; decide, fun p hp => ?_⟩
    refine ⟨_, rfl, a, _, rfl, .inl (SqL.of (same_laid hp _ _ hx1)), p, _, _, rfl, rfl, upd_same, by omega, by omega, by simp [sizeLine_eq, hxl]; omega, fun L hL => ?_⟩
    have eL : (List.replicate ((xs.length : Nat) : Int).toNat [V.int 0]).flatten = (List.replicate rs.length (0 : Int)).map V.int := by
      rw [show ((xs.length : Nat) : Int).toNat = rs.length by omega]
      exact flat_zero _
    rw [eL]
    have S2 : Same H (upd (upd H1 p (.lst [.int 0])) L (.lst ((List.replicate rs.length (0 : Int)).map V.int))) := (s1.trans (same_laid hp)).trans (same_laid hL)
    have hL0 : H L = none := s1.free ((same_laid hp).free hL)
    have hL2 : upd (upd H1 p (.lst [.int 0])) L (.lst ((List.replicate rs.length (0 : Int)).map V.int)) L = some (.lst ((List.replicate rs.length (0 : Int)).map V.int)) := upd_same
    generalize upd (upd H1 p (.lst [.int 0])) L (.lst ((List.replicate rs.length (0 : Int)).map V.int)) = H2 at S2 hL2 ⊢
    refine ⟨Nat.zero_le _, fun F hF => ?_⟩
    have hF0 : H F = none := S2.free hF
    have S3 : Same H (upd H2 F (.lst [])) := S2.trans (same_laid hF)
    have hL3 : upd H2 F (.lst []) L = some (.lst ((List.replicate rs.length (0 : Int)).map V.int)) := by rw [upd_ne (ne_of_none hL2 hF)]; exact hL2
    have hF3 : upd H2 F (.lst []) F = some (.lst []) := upd_same
    have nLF : L ≠ F := ne_of_none hL2 hF
    generalize upd H2 F (.lst []) = H3 at S3 hL3 hF3 ⊢
    refine ⟨_, rfl, ?_⟩
    unfold tNil
    refine ⟨a, rs, rfl, reqs_same S3 hR, hz, fun le es H4 s4 hle hO hE => ?_⟩
    have S4 : Same H H4 := S3.trans s4
    have hL4 := s4 _ _ hL3
    have hF4 := s4 _ _ hF3
    have nle : le ≠ L := (ne_of_none hL3 hle).symm
    have nlF : le ≠ F := (ne_of_none hF3 hle).symm
    obtain ⟨ys, hy, hyl, hys⟩ := id hE
    have lenE : es.length = rs.length + rs.length := by
      rw [hO.perm.length_eq]
      unfold Lg.evs
      simp
    have sb_same : ∀ {H' : Hp}, Sb L F H4 H' → Same H H' := fun h b u e => h b u (S4 _ _ e) (ne_of_none e hL0) (ne_of_none e hF0)
    refine ⟨le, rfl, ⟨_, SqL.of hy⟩, ?_⟩
    refine for_by (yields_list ys) (fun i σ H5 => ∃ (lodg free : List Int) (opened : Int) (o5 o6 o7 : Option V), σ = [some (.ref a), some (.int m), some (.ref L), some (.ref F), some (.int opened), o5, o6, o7] ∧ Sb L F H4 H5 ∧ H5 L = some (.lst (lodg.map V.int)) ∧ H5 F = some (.lst (free.map V.int)) ∧ Lg.St rs (es.take i) lodg free opened ∧ opened ≤ m ∧ free.length ≤ i)
      (fun i σ H5 _ ⟨_, _, _, _, _, _, _, sb, _⟩ => SqL.of (sb _ _ hy nle nlF)) ⟨_, [], 0, _, _, _, rfl, fun b u e _ _ => e, hL4, hF4, Lg.St.nil (by simp), hm, Nat.le_refl _⟩ ?_ ?_
    · rintro i v σ H5 H5' hi ⟨rfl, hxj⟩ ⟨lodg, free, opened, o5, o6, o7, rfl, sb, hL5, hF5, st, hom, hfl⟩
      have hi' : i < es.length := by omega
      obtain ⟨pe, epe, hpe⟩ := hys i es[i] (List.getElem?_eq_getElem hi')
      rw [hxj] at epe
      cases epe
      obtain ⟨esplit, etake⟩ := split_at (List.getElem?_eq_getElem hi')
      have hmem : es[i] ∈ Lg.evs rs := hO.perm.mem_iff.mp (List.getElem_mem hi')
      generalize es[i] = e at *
      have S5 := sb_same sb
      have npL : pe ≠ L := ne_of hpe hL4 fun z => nomatch z
      have npF : pe ≠ F := ne_of hpe hF4 fun z => nomatch z
      have hp5 := sb _ _ hpe npL npF
      have hO' := hO
      rw [esplit] at hO'
      have lenL := st.len
      refine ⟨pe, _, rfl, SqT.of hp5, rfl, _, _, rfl, _, _, rfl, _, _, rfl, rfl, ?_⟩
      obtain ⟨c, hc, rfl | rfl⟩ := Lg.mem_evs.mp hmem
      · -- one leaves
        have hgc := (hg _ (rq_mem hc)).1
        refine ⟨_, rfl, rfl, _, rfl, iteP (by rfl) ?_⟩
        refine ⟨_, rfl, .inl ⟨rfl, _, SqL.of hF5⟩, _, rfl, _, rfl, L, _, _, _, rfl, rfl, SqL.of hL5, get_intsD (by rfl) (by omega), F, _, _, rfl, rfl, hF5, by simp [sizeLine_eq]; omega, ?_⟩
        refine ⟨lodg, free ++ [lodg.getD c 0], opened, _, _, _, rfl, sb.updF, by rw [upd_ne nLF]; exact hL5, by rw [upd_same, List.map_append]; rfl, ?_, hom, by simp; omega⟩
        rw [etake]
        exact st.leave hO' hc hgc
      · have hgc := (hg _ (rq_mem hc)).1
        refine ⟨_, rfl, rfl, _, rfl, iteN (by intro z; cases z) ?_⟩
        refine ⟨_, rfl, _, .inl ⟨_, SqL.of hF5, rfl⟩, ?_⟩
        by_cases hfree : free = []
        · subst hfree
          refine iteN (by simp) ?_
          refine ⟨_, rfl, _, rfl, _, _, rfl, rfl, _, rfl, ?_⟩
          by_cases hop : opened < m
          · -- a new room
            refine iteP (decide_eq_true hop) ?_
            refine ⟨_, rfl, _, rfl, _, rfl, L, _, _, c, rfl, rfl, hL5, ixN_nat (by rw [List.length_map]; omega), _, rfl, _, _, rfl, rfl, ?_⟩
            refine ⟨lodg.set c opened, [], opened + 1, _, _, _, rfl, sb.updL, by rw [upd_same, set_map], by rw [upd_ne nLF.symm]; exact hF5, ?_, by omega, Nat.zero_le _⟩
            rw [etake]
            refine st.come hO' hc hgc (by omega) ⟨st.op, by omega⟩ (fun d hd hin z => ?_) (fun y hy => hy) .nil (by simp) (by simp; omega)
            have := st.bnd d hd (Lg.inn_iff.mp hin).1
            omega
          · -- no room is left
            refine iteN (by simpa using hop) ?_
            have cr := st.crowd hO' hc hgc
            refine ⟨_, rfl, _, rfl, _, rfl, ?_⟩
            refine ⟨a, _, rs, rfl, reqs_same S5 hR, by omega, fun la H6 s6 hla hla6 => ?_⟩
            have S6 := S5.trans s6
            intro x dx hx6 hd6 nd
            refine ⟨x, dx, la, _, _, rfl, upd_same, made_same hx6 hd6 _ _ hla6, ?_, fun l hl => ⟨rfl, ?_⟩⟩
            · rw [List.length_map, there_len]
              have := Lg.cnt_le (p := fun c' => decide ((Lg.rq rs c').1 ≤ (Lg.rq rs c).1) && decide ((Lg.rq rs c).1 ≤ (Lg.rq rs c').2.1)) (n := rs.length)
              show Lg.cnt _ _ ≤ _
              exact Nat.le_trans this (by omega)
            · have hl6 : H6 l = none := (made_same hx6 hd6).free hl
              have nxl : l ≠ x := (ne_of_none upd_same hl).symm
              refine q2 x dx l _ _ (same_over (S6.free hx6) (same_over (S6.free hl6) (same_over (S6.free hx6) (S6.trans (made_same hx6 hd6))))) (S6.free hx6) (S6.free hl6) upd_same ?_ ?_ ⟨c, hc, rfl⟩
              · rw [upd_ne nxl]
                exact upd_same
              · rw [there_len]
                show m < (Lg.cnt _ _ : Nat)
                refine Int.lt_of_lt_of_le ?_ cr
                omega
        · -- a room that is free
          obtain ⟨f0, x0, rfl⟩ := last_of (x := 0) hfree
          refine iteP (by simp) ?_
          have nd : f0.Nodup ∧ x0 ∉ f0 := by
            have := List.nodup_append.mp st.fn
            exact ⟨this.1, fun z => this.2.2 x0 z x0 (by simp) rfl⟩
          refine ⟨_, rfl, .inl ⟨rfl, _, SqL.of hF5⟩, F, _, .int x0, rfl, rfl, hF5, by simp, ?_⟩
          refine ⟨_, rfl, _, rfl, L, _, _, c, rfl, rfl, by rw [upd_ne nLF]; exact hL5, ixN_nat (by rw [List.length_map]; omega), ?_⟩
          refine ⟨lodg.set c x0, f0, opened, _, _, _, rfl, sb.updF.updL, by rw [upd_same, set_map], by rw [upd_ne nLF.symm, upd_same, List.map_append]; simp, ?_, hom, by simp at hfl; omega⟩
          rw [etake]
          refine st.come hO' hc hgc (Int.le_refl _) (st.fb x0 (by simp)) (fun d hd hin z => ?_) (fun y hy => by simp [hy]) nd.1 nd.2 (by simp; omega)
          exact st.fi d hd hin (by rw [z]; simp)
    · rintro σ H5 ⟨lodg, free, opened, o5, o6, o7, rfl, sb, hL5, hF5, st, hom, hfl⟩
      rw [hyl, List.take_length] at st
      have ok := lodged_end hO st hom
      have S5 := sb_same sb
      refine ⟨_, rfl, fun x dx hx5 hd5 nd => ⟨x, dx, L, _, rfl, upd_same, SqL.of (made_same hx5 hd5 _ _ hL5), ?_, fun l hl => ⟨rfl, ?_⟩⟩⟩
      · rw [List.length_map, st.len]
        omega
      · have hl5 : H5 l = none := (made_same hx5 hd5).free hl
        have nxl : l ≠ x := (ne_of_none upd_same hl).symm
        refine q1 x dx l lodg _ (same_over (S5.free hx5) (same_over (S5.free hl5) (S5.trans (made_same hx5 hd5)))) (S5.free hx5) (S5.free hl5) upd_same ?_ ok
        rw [upd_ne nxl]
        exact upd_same
end
end Sp

set_option Elab.async false
set_option linter.all false
set_option maxRecDepth 100000
set_option maxHeartbeats 2000000
namespace L2
open PySem PySem.Spec PyProof.Rows
theorem flat_ints (ns : List Int) : (ns.map V.int).all flatV = true := by
  rw [List.all_map]
  exact List.all_eq_true.mpr fun _ _ => rfl
theorem eqL_ints : ∀ (xs ys : List Int), eqL (xs.map V.int) (ys.map V.int) = decide (xs = ys)
  | [], [] => rfl
  | [], y :: ys => by simp [eqL]
  | x :: xs, [] => by simp [eqL]
  | x :: xs, y :: ys => by
    rw [List.map_cons, List.map_cons]
    unfold eqL
    rw [eqL_ints xs ys]
    show (x == y && decide (xs = ys)) = _
    by_cases h1 : x = y <;> by_cases h2 : xs = ys <;> simp [h1, h2]
/-- rising lists with the same members are the same -/
theorem rising_ext : ∀ {xs ys : List Int}, xs.Pairwise (· < ·) → ys.Pairwise (· < ·) → (∀ n, n ∈ xs ↔ n ∈ ys) → xs = ys
  | [], [], _, _, _ => rfl
  | [], y :: ys, _, _, h => by have := (h y).mpr (by simp); simp at this
  | x :: xs, [], _, _, h => by have := (h x).mp (by simp); simp at this
  | x :: xs, y :: ys, hx, hy, h => by
    obtain ⟨a1, a2⟩ := List.pairwise_cons.mp hx
    obtain ⟨b1, b2⟩ := List.pairwise_cons.mp hy
    have e : x = y := by
      rcases List.mem_cons.mp ((h x).mp (by simp)) with e | e
      · exact e
      · rcases List.mem_cons.mp ((h y).mpr (by simp)) with e' | e'
        · exact e'.symm
        · have := b1 x e
          have := a1 y e'
          omega
    subst e
    rw [rising_ext a2 b2 fun n => ?_]
    constructor
    · intro hn
      rcases List.mem_cons.mp ((h n).mp (List.mem_cons_of_mem _ hn)) with e | e
      · have := a1 n hn; omega
      · exact e
    · intro hn
      rcases List.mem_cons.mp ((h n).mpr (List.mem_cons_of_mem _ hn)) with e | e
      · have := b1 n hn; omega
      · exact e
end L2
namespace Sp
open PySem L2
seal PE PA PS PSs PT PG PGs PI PW PTs PJ
section
variable {P : Program} {w : World} {K : PySem.W.Frag} {mg : Str → Option Value} {base : Heap}
/-! ### _law_rooms, _law_whole -/
theorem sc_lrooms : FnScope ["_law_script", "_law_many"] ["_law_script", "_law_many"] (defScope s__law_rooms) := ⟨rfl, rfl, rfl, by decide +kernel, rfl, by decide +kernel, by decide +kernel⟩
def sp_lrooms (K : PySem.W.Frag) : Sp := fun vs H Q _ => ∃ (a : Addr) (ns : List Int) (m : Int), vs = [.ref a, .int m] ∧ SqL K H a (ns.map V.int) ∧ 0 ≤ m ∧ ∀ r H', 0 ≤ r → Same H H' → Q (.int r) H'
theorem ok_lrooms (GC : Def P w K mg base CX0 1 "_law_cell_at" ["_law_script", "_law_k"] (sp_cell K)) (GD : Def P w K mg base CX0 1 "_law_draw" ["_law_cell", "_law_k", "_law_many"] sp_draw) (D : FnAt K mg "_law_rooms" s__law_rooms ["_law_script", "_law_many"]) :
    Def P w K mg base CX0 2 "_law_rooms" ["_law_script", "_law_many"] (sp_lrooms K) := by
  refine D.ok sc_lrooms (fun vs H Q E h => ?_) fun f cdv A outer s H vs Q E hr h => ?_
  · obtain ⟨a, ns, m, rfl, _⟩ := h; rfl
  · obtain ⟨a, ns, m, rfl, hl, hm, q⟩ := h
    have hr1 : Room 1 _ := hr.mono (by decide)
    refine ⟨_, pss_cons (ps_if (pt_cmpR op_eq (pe_def GD hr1 rfl pass0 (pa_cons (pe_def GC hr1 rfl pass0 (pa_cons (pv 0) (pa_cons pe_int pa_nil))) (pa_cons pe_int (pa_cons pe_int pa_nil)))) pe_int (nomark _))
        (pss_one (ps_ret (pe_def GD hr1 rfl pass0 (pa_cons (pe_def GC hr1 rfl pass0 (pa_cons (pv 0) (pa_cons pe_int pa_nil))) (pa_cons pe_int (pa_cons (pe_op op_add (pv 1) pe_int) pa_nil)))))) pss_nil)
      (pss_one (ps_ret (pe_def GD hr1 rfl pass0 (pa_cons (pe_def GC hr1 rfl pass0 (pa_cons (pv 0) (pa_cons pe_int pa_nil))) (pa_cons pe_int (pa_cons pe_int pa_nil)))))), ?_⟩
    refine ⟨_, rfl, a, ns, 3, rfl, hl, by decide, _, _, _, rfl, by decide, by decide, fun r H1 h0 h1 s1 => ?_⟩
    refine ⟨rfl, _, rfl, ite2 (fun h => ?_) (fun h => ?_)⟩
    · refine ⟨_, rfl, a, ns, 3, rfl, s1.seq hl, by decide, _, rfl, _, _, rfl, rfl, ?_⟩
      exact ⟨_, _, _, rfl, by decide, by omega, fun r' H2 a1 a2 s2 => q r' H2 a1 (s1.trans s2)⟩
    · refine ⟨_, rfl, a, ns, 3, rfl, s1.seq hl, by decide, ?_⟩
      exact ⟨_, _, _, rfl, by decide, by decide, fun r' H2 a1 a2 s2 => q r' H2 a1 (s1.trans s2)⟩
theorem sc_lwhole : FnScope ["_law_number"] ["_law_number"] (defScope s__law_whole) := ⟨rfl, rfl, rfl, by decide +kernel, rfl, by decide +kernel, by decide +kernel⟩
def sp_lwhole : Sp := fun vs H Q _ => ∃ i : Int, vs = [.int i] ∧ Q (.bl true) H
theorem ok_lwhole (B : Bl mg) (D : FnAt K mg "_law_whole" s__law_whole ["_law_number"]) : Def P w K mg base CX0 1 "_law_whole" ["_law_number"] sp_lwhole := by
  refine D.ok sc_lwhole (fun vs H Q E h => ?_) fun f cdv A outer s H vs Q E hr h => ?_
  · obtain ⟨i, rfl, _⟩ := h; rfl
  · obtain ⟨i, rfl, q⟩ := h
    refine ⟨_, pss_one (ps_ret (pe_and (pe_isi B.isinstance B.int PyProof.Rows.Boot.«int» (pv 0)) (pe_one (pe_not (pe_isi B.isinstance B.bool PyProof.Rows.Boot.«bool» (pv 0)))))), ?_⟩
    obtain ⟨k1, k2, _⟩ := kits (K := K) (H := H) (TyOf.int i)
    exact ⟨_, rfl, _, _, _, rfl, TyOf.int i, k1, _, rfl, iteT ⟨_, rfl, _, _, _, rfl, TyOf.int i, k2, _, rfl, q⟩⟩
/-! ### _law_chosen -/
theorem sc_lchosen : FnScope ["_law_requests_here", "_law_some"] ["_law_requests_here", "_law_some"] (defScope s__law_chosen) := ⟨rfl, rfl, rfl, by decide +kernel, rfl, by decide +kernel, by decide +kernel⟩
def sp_lchosen (K : PySem.W.Frag) : Sp := fun vs H Q _ => ∃ (a b : Addr) (ns : List Int) (ys : List V), vs = [.ref b, .ref a] ∧ H a = some (.lst (ns.map V.int)) ∧ SqL K H b ys ∧ ns.length ≤ 4000 ∧ ∀ H', Same H H' → Q (.bl (choiceB ns ys.length)) H'
theorem ok_lchosen (B : Bl mg) (GW : Def P w K mg base CX0 1 "_law_whole" ["_law_number"] sp_lwhole) (D : FnAt K mg "_law_chosen" s__law_chosen ["_law_requests_here", "_law_some"]) :
    Def P w K mg base CX0 2 "_law_chosen" ["_law_requests_here", "_law_some"] (sp_lchosen K) := by
  refine D.ok sc_lchosen (fun vs H Q E h => ?_) fun f cdv A outer s H vs Q E hr h => ?_
  · obtain ⟨a, b, ns, ys, rfl, _⟩ := h; rfl
  · obtain ⟨a, b, ns, ys, rfl, ha, hb, hz, q⟩ := h
    have hr1 : Room 1 _ := hr.mono (by decide)
    refine ⟨_, pss_cons (ps_if (pt_not (pt_val (pe_callB (call_all_bools rfl) (by rfl) B.all PyProof.Rows.Boot.«all» (pa_cons
        (pe_comp ["_law_at"] [0] rfl (pi_list (pv 1)) fun cl s H fp C => ⟨pg_name (i := 0) (show (["_law_at", "_law_requests_here"] : List Str).Nodup by decide +kernel) rfl (Or.inl rfl), pts_nil,
          pe_and (pe_def GW hr1 rfl pass0 (pa_cons (pv 0) pa_nil)) (pe_one (pe_chain op_le op_lt pe_int (pv 0) (pe_callB (call_lenK (K := K)) (by rfl) B.len PySem.boot_len (pa_cons (pv 1) pa_nil))))⟩) pa_nil)))) (pss_one (ps_ret pe_bl)) pss_nil)
      (pss_one (ps_ret (pe_cmpR (op_eqF (K := K) hr.units) (pv 1) (pe_callB (call_sortX rfl) (by rfl) B.sorted PyProof.Rows.Boot.«sorted» (pa_cons (pe_callTy (call_setX rfl) (by rfl) B.set PyProof.Rows.Boot.«set» (pa_cons (pv 1) pa_nil)) pa_nil)) (nomark _)))), ?_⟩
    refine ⟨_, rfl, a, rfl, ⟨_, SqL.of ha⟩, fun D hD => ?_⟩
    refine comp_each (yields_list (ns.map V.int)) (fun σ => ∃ o, σ = [o, some (.ref b)]) (fun j => .bl (decide (0 ≤ ns.getD j 0) && decide (ns.getD j 0 < (ys.length : Int)))) hD (by rw [List.length_map]; omega) (fun H3 s3 => SqL.of (s3 _ _ ha)) ⟨_, rfl⟩ ?_ ?_
    · rintro j v σ H3 H3' hj ⟨rfl, hx⟩ s3 ⟨o, rfl⟩ Ky hK
      obtain ⟨h1, rfl⟩ := int_at hx
      refine ⟨_, rfl, _, rfl, _, rfl, iteT ⟨_, rfl, _, _, rfl, rfl, _, rfl, ?_⟩⟩
      by_cases h0 : 0 ≤ ns.getD j 0
      · refine iteP (by simpa using h0) ⟨_, rfl, b, ys, rfl, .inl (s3.seq hb), _, _, rfl, rfl, hK _ _ _ (Same.refl _) ⟨_, rfl⟩ ?_⟩
        rw [decide_eq_true h0, Bool.true_and]
      · refine iteN (by simpa using h0) (hK _ _ _ (Same.refl _) ⟨_, rfl⟩ ?_)
        rw [decide_eq_false h0, Bool.false_and]
    · intro H3 s3 hD3
      have e1 : ((List.range (ns.map V.int).length).map fun j => decide (0 ≤ ns.getD j 0) && decide (ns.getD j 0 < (ys.length : Int))).all id = ns.all fun c => decide (0 ≤ c) && decide (c < (ys.length : Int)) := by
        rw [List.length_map]
        exact all_range ns fun c => decide (0 ≤ c) && decide (c < (ys.length : Int))
      refine ⟨D, (List.range (ns.map V.int).length).map fun j => decide (0 ≤ ns.getD j 0) && decide (ns.getD j 0 < (ys.length : Int)), rfl, SqL.of (by rw [hD3, List.map_map]; rfl), _, rfl, ?_⟩
      rw [e1]
      have q' := q
      unfold choiceB at q'
      have ha3 := s3 _ _ ha
      cases hc : ns.all fun c => decide (0 ≤ c) && decide (c < (ys.length : Int)) with
      | false =>
        rw [hc] at q'
        exact iteT (q' H3 s3)
      | true =>
        rw [hc] at q'
        refine iteF ⟨_, rfl, _, rfl, a, ns, rfl, SqL.of ha3, hz, fun p hp => ?_⟩
        refine ⟨p, _, rfl, upd_same, ?_, fun ms hms ho l hl => ?_⟩
        · exact Nat.le_trans (Stb.seen_len _ _) hz
        · obtain ⟨r1, r2⟩ := rising_of hms ho
          have s4 := (same_laid (o := SetX P w p (Stb.seen (fun i => ns.getD i 0) ns.length)) hp).trans (same_laid (o := .lst (ms.map V.int)) hl)
          refine ⟨a, l, _, _, rfl, rfl, SqL.of (s4 _ _ ha3), SqL.of upd_same, flat_ints _, flat_ints _, ?_⟩
          have e : (if false = true then !eqL (ns.map V.int) (ms.map V.int) else eqL (ns.map V.int) (ms.map V.int)) = (true && risesB ns) := by
            rw [if_neg Bool.false_ne_true, eqL_ints, Bool.true_and, Bool.eq_iff_iff, decide_eq_true_eq, rises_iff]
            exact ⟨fun z => z ▸ r1, fun z => rising_ext z r1 fun n => (r2 n).symm⟩
          rw [e]
          exact q' _ (s3.trans s4)
/-! ### _law_there -/
/-- whether the request of this count is for this day -/
def onB (rs : List (Int × Int × Int)) (d : Int) (c : Int) : Bool := decide ((Lg.rq rs c.toNat).1 ≤ d) && decide (d ≤ (Lg.rq rs c.toNat).2.1)
theorem taken_ints (ns : List Int) (p : Int → Bool) : takenV (fun j => p (ns.getD j 0)) (fun j => .int (ns.getD j 0)) ns.length = (ns.filter p).map V.int := by
  unfold takenV
  conv => rhs; rw [← range_getD ns 0]
  rw [List.filter_map, List.map_map]
  rfl
theorem reqs_ix {H : Hp} {b : Addr} {rs : List (Int × Int × Int)} (h : ReqsAt H b rs) {c : Int} (h0 : 0 ≤ c) (h1 : c.toNat < rs.length) : ∃ xs p, H b = some (.lst xs) ∧ atI xs c = some (.ref p) ∧ H p = some (.tup (trip (Lg.rq rs c.toNat))) := by
  obtain ⟨xs, e1, e2, e3⟩ := h
  obtain ⟨p, e4, e5⟩ := e3 c.toNat rs[c.toNat] (List.getElem?_eq_getElem h1)
  exact ⟨xs, p, e1, atI_int h0 e4, by rw [rq_at (List.getElem?_eq_getElem h1)]; exact e5⟩
theorem sc_lthere : FnScope ["_law_requests_here", "_law_some", "_law_day"] ["_law_requests_here", "_law_some", "_law_day"] (defScope s__law_there) := ⟨rfl, rfl, rfl, by decide +kernel, rfl, by decide +kernel, by decide +kernel⟩
def sp_lthere (K : PySem.W.Frag) : Sp := fun vs H Q _ => ∃ (a b : Addr) (ns : List Int) (d : Int) (rs : List (Int × Int × Int)), vs = [.ref b, .ref a, .int d] ∧ H a = some (.lst (ns.map V.int)) ∧ ReqsAt H b rs ∧ (∀ c ∈ ns, 0 ≤ c ∧ c.toNat < rs.length) ∧ ns.length ≤ 60000 ∧
  ∀ l H', Same H H' → H l = none → H' l = some (.lst ((ns.filter (onB rs d)).map V.int)) → Q (.ref l) H'
theorem ok_lthere (D : FnAt K mg "_law_there" s__law_there ["_law_requests_here", "_law_some", "_law_day"]) : Def P w K mg base CX0 1 "_law_there" ["_law_requests_here", "_law_some", "_law_day"] (sp_lthere K) := by
  refine D.ok sc_lthere (fun vs H Q E h => ?_) fun f cdv A outer s H vs Q E hr h => ?_
  · obtain ⟨a, b, ns, d, rs, rfl, _⟩ := h; rfl
  · obtain ⟨a, b, ns, d, rs, rfl, ha, hR, hin, hz, q⟩ := h
    refine ⟨_, pss_one (ps_ret (pe_comp ["_law_at"] [0, 2] rfl (pi_list (pv 1)) fun cl s H fp C => ⟨pg_name (i := 0) (show (["_law_at", "_law_requests_here", "_law_day"] : List Str).Nodup by decide +kernel) rfl (Or.inl rfl),
      pts_one (pt_chain op_le op_le (pe_ix (ix_tupK (K := K)) (pe_ix (ix_listK (K := K)) (pv 1) (pv 0) (fun _ _ => rfl)) pe_int (fun _ _ => rfl)) (pv 2) (pe_ix (ix_tupK (K := K)) (pe_ix (ix_listK (K := K)) (pv 1) (pv 0) (fun _ _ => rfl)) pe_int (fun _ _ => rfl))), pv 0⟩)), ?_⟩
    refine ⟨_, rfl, a, rfl, ⟨_, SqL.of ha⟩, fun D hD => ?_⟩
    refine comp_filt (yields_list (ns.map V.int)) (fun σ => ∃ o, σ = [o, some (.ref b), some (.int d)]) (fun j => onB rs d (ns.getD j 0)) (fun j => .int (ns.getD j 0)) hD (by rw [List.length_map]; omega) (fun H3 s3 => SqL.of (s3 _ _ ha)) ⟨_, rfl⟩ ?_ ?_
    · rintro j v σ H3 H3' hj ⟨rfl, hxj⟩ s3 ⟨o, rfl⟩ Ky Kn hY hN
      obtain ⟨h1, rfl⟩ := int_at hxj
      obtain ⟨c0, c1⟩ := hin _ (show ns.getD j 0 ∈ ns by rw [getD_at h1]; exact List.getElem_mem h1)
      obtain ⟨xs, p, e1, e2, e3⟩ := reqs_ix (reqs_same s3 hR) c0 c1
      unfold onB at hY hN
      generalize ns.getD j 0 = c at *
      refine ⟨_, rfl, _, rfl, b, _, _, _, rfl, rfl, SqL.of e1, e2, p, _, _, _, rfl, rfl, SqT.of e3, (show atI (trip (Lg.rq rs c.toNat)) 0 = some (.int (Lg.rq rs c.toNat).1) from rfl), _, rfl, _, _, rfl, rfl, _, rfl, ?_⟩
      by_cases h1 : (Lg.rq rs c.toNat).1 ≤ d
      · refine iteP (by simpa using h1) ⟨_, rfl, _, rfl, b, _, _, _, rfl, rfl, SqL.of e1, e2, p, _, _, _, rfl, rfl, SqT.of e3, (show atI (trip (Lg.rq rs c.toNat)) 1 = some (.int (Lg.rq rs c.toNat).2.1) from rfl), _, _, rfl, rfl, _, rfl, ?_⟩
        by_cases h2 : d ≤ (Lg.rq rs c.toNat).2.1
        · exact iteP (by simpa using h2) ⟨_, rfl, hY _ _ _ (Same.refl _) ⟨_, rfl⟩ (by simp [h1, h2]) rfl⟩
        · exact iteN (by simpa using h2) (hN _ _ (Same.refl _) ⟨_, rfl⟩ (by simp [h2]))
      · refine iteN (by simpa using h1) ⟨_, rfl, ?_⟩
        exact iteF (hN _ _ (Same.refl _) ⟨_, rfl⟩ (by simp [h1]))
    · intro H3 s3 hD3
      refine q D H3 s3 hD ?_
      rw [hD3, List.length_map, taken_ints ns (onB rs d)]
end
end Sp

set_option Elab.async false
set_option linter.all false
set_option maxRecDepth 100000
set_option maxHeartbeats 2000000
namespace L2
open PySem PySem.Spec PyProof.Rows
theorem op_inK {X : Cx} {K : PySem.W.Frag} (hK : X.K = K := by rfl) : OpR X (compareOp .In) (rIn K false) := hK ▸ op_in_seq
/-- isinstance(e, C) for a class of the text -/
theorem pe_isiC {X : Cx} {e : Expr} {te : TE} {C : Addr} {n : Str} {p1 p2 pos : Pos} (B : X.mg "isinstance" = none) (hT : X.mg n = some (.ref C)) (he : PE X e te) (hg : Gl X "isinstance" := by rfl) (hgT : Gl X n := by rfl)
    (hd : (n == ("__debug__" : Str)) = false := by decide) (hs : starEach [e, .Name n p2] X.env = (false, eval e X.env) :: starEach [.Name n p2] X.env := by rfl) (hs2 : starEach [.Name n p2] X.env = (false, eval (.Name n p2) X.env) :: starEach [] X.env := by rfl)
    (hpl : (backTo pos (starEach [.Name n p2] X.env)).any (·.1) = false := by rfl) :
    PE X (.Call (.Name "isinstance" p1) [e, .Name n p2] [] pos) (tCB (fun xs H Q => ∃ x t b, xs = [x, .ref C] ∧ TyOf X.K H x t ∧ PySem.W.kitOne X.K t (.ref C) = some b ∧ Q (.bl b) H) (tCons te (tCons (tC (.ref C)) tNil))) := by
  have c : CallR X (.builtin "isinstance") (fun xs H Q => ∃ x t b, xs = [x, .ref C] ∧ TyOf X.K H x t ∧ PySem.W.kitOne X.K t (.ref C) = some b ∧ Q (.bl b) H) := fun pins s σ H xs us Q I r ⟨x, t, b, e1, ty, k, q⟩ =>
    call_isinst pins s σ H xs us Q I r ⟨x, _, t, .ref C, b, e1, ⟨rfl, fun _ h => h⟩, ty, k, q⟩
  exact pe_callB c hg B PyProof.Rows.Boot.«isinstance» (pa_cons he (pa_cons (pe_glob (v := .ref C) hgT hT rfl hd) pa_nil hs2) hs) (by decide) (by decide) hs hpl
end L2
namespace Sp
open PySem L2
seal PE PA PS PSs PT PG PGs PI PW PTs PJ
section
variable {P : Program} {w : World} {K : PySem.W.Frag} {mg : Str → Option Value} {base : Heap} {CA CB CD CL CC fLi fLs fCi fCs : Addr} {dLi dLs dCi dCs : FuncData}
/-- 0, 1, .. as ints -/
def every (n : Nat) : List Int := (List.range n).map fun i : Nat => (i : Int)
theorem upTo_every (n : Nat) : L2.upTo n = (every n).map V.int := by
  unfold L2.upTo every
  rw [List.map_map]
  rfl
theorem every_len (n : Nat) : (every n).length = n := by simp [every]
theorem every_mem {n : Nat} {c : Int} (h : c ∈ every n) : 0 ≤ c ∧ c.toNat < n := by
  obtain ⟨i, hi, rfl⟩ := List.mem_map.mp h
  rw [List.mem_range] at hi
  omega
theorem every_get {n i : Nat} (h : i < n) : (every n).getD i 0 = i := by
  rw [getD_at (by rw [every_len]; exact h)]
  simp [every]
theorem filt_every (n : Nat) (p q : Int → Bool) : ((every n).filter p).filter q = (((List.range n).filter fun i : Nat => p (i : Int)).filter fun i : Nat => q (i : Int)).map fun i : Nat => (i : Int) := by
  unfold every
  rw [List.filter_map, List.filter_map]
  rfl
/-- the law's own way to ask whether request c stays alone in its room -/
def mineL (ls : List Int) (n : Nat) (c : Nat) : List Int := (every n).filter fun o => decide (ls.getD o.toNat 0 = ls.getD c 0)
theorem mine_iff {ls : List Int} {rs : List (Int × Int × Int)} (hg : GoodR rs) (hl : ls.length = rs.length) : (∀ c, c < rs.length → (mineL ls rs.length c).filter (onB rs (Lg.rq rs c).1) = [(c : Int)]) ↔ (stayL ls rs).Pairwise Lg.apartT := by
  have e1 : (∀ c, c < rs.length → (mineL ls rs.length c).filter (onB rs (Lg.rq rs c).1) = [(c : Int)]) ↔
      ∀ c, c < rs.length → ((List.range rs.length).filter fun d => decide (ls.getD d 0 = ls.getD c 0)).filter (fun d => decide ((Lg.rq rs d).1 ≤ (Lg.rq rs c).1) && decide ((Lg.rq rs c).1 ≤ (Lg.rq rs d).2.1)) = [c] := by
    refine forall_congr' fun c => forall_congr' fun hc => ?_
    unfold mineL
    rw [filt_every]
    have e2 : [(c : Int)] = ([c] : List Nat).map fun i : Nat => (i : Int) := rfl
    rw [e2]
    constructor
    · intro h
      exact (List.map_inj_right (f := fun i : Nat => (i : Int)) fun (a b : Nat) (e : (a : Int) = b) => by omega).mp h
    · intro h
      exact congrArg (List.map fun i : Nat => (i : Int)) h
  rw [e1, Lg.law_apart (room := fun d => ls.getD d 0) (first := fun d => (Lg.rq rs d).1) (last := fun d => (Lg.rq rs d).2.1) fun c hc => (hg _ (rq_mem hc)).1]
  unfold stayL
  rw [List.pairwise_iff_getElem]
  constructor
  · intro h i j hi hj hij
    rw [List.getElem_map, List.getElem_map, List.getElem_range, List.getElem_range]
    exact h i j (by simpa using hi) (by simpa using hj) (by omega)
  · intro h c d hc hd hne z
    have hc' : c < (List.range rs.length).length := by simpa using hc
    have hd' : d < (List.range rs.length).length := by simpa using hd
    rcases Nat.lt_or_gt_of_ne hne with hlt | hlt
    · have := h c d (by simpa using hc) (by simpa using hd) hlt
      rw [List.getElem_map, List.getElem_map, List.getElem_range, List.getElem_range] at this
      exact this z
    · have := h d c (by simpa using hd) (by simpa using hc) hlt
      rw [List.getElem_map, List.getElem_map, List.getElem_range, List.getElem_range] at this
      exact this ⟨z.1.symm, z.2.2, z.2.1⟩
theorem sc_due : FnScope ["_law_requests_here", "_law_rooms_here", "_law_found", "_law_every", "_law_at", "_law_mine"] ["_law_requests_here", "_law_rooms_here", "_law_found"] (defScope s__law_due) := ⟨rfl, rfl, rfl, by decide +kernel, rfl, by decide +kernel, by decide +kernel⟩
def sp_due (CL CC : Addr) : Sp := fun vs H Q _ => ∃ (x b : Addr) (m : Int) (rs : List (Int × Int × Int)), vs = [.ref b, .int m, .ref x] ∧ ReqsAt H b rs ∧ GoodR rs ∧ rs.length ≤ 4000 ∧
  ((∃ d ns, CrowdAt CC H x d ns ∧ ns.length ≤ 4000 ∧ ∀ (v : Bool) H', Same H H' → (v = true ↔ CrowdOk d ns rs m) → Q (.bl v) H') ∨
   (∃ ls, LodgedAt CL H x ls ∧ ls.length ≤ 4000 ∧ ∀ (v : Bool) H', Same H H' → (v = true ↔ LodgedOk ls rs m) → Q (.bl v) H'))
theorem ok_due (B : Bl mg) (T : Ans K mg CA CB CD CL CC fLi fLs fCi fCs dLi dLs dCi dCs) (GW : Def P w K mg base CX0 1 "_law_whole" ["_law_number"] sp_lwhole) (GC : Def P w K mg base CX0 2 "_law_chosen" ["_law_requests_here", "_law_some"] (sp_lchosen K))
    (GT : Def P w K mg base CX0 1 "_law_there" ["_law_requests_here", "_law_some", "_law_day"] (sp_lthere K)) (D : FnAt K mg "_law_due" s__law_due ["_law_requests_here", "_law_rooms_here", "_law_found"]) :
    Def P w K mg base CX0 3 "_law_due" ["_law_requests_here", "_law_rooms_here", "_law_found"] (sp_due CL CC) := by
  refine D.ok sc_due (fun vs H Q E h => ?_) fun f cdv A outer s H vs Q E hr h => ?_
  · obtain ⟨x, b, m, rs, rfl, _⟩ := h; rfl
  · obtain ⟨x, b, m, rs, rfl, hR, hg, hz, hX⟩ := h
    have hr1 : Room 1 _ := hr.mono (by decide)
    have hr2 : Room 2 _ := hr.mono (by decide)
    refine ⟨_, pss_cons (ps_if (pt_val (pe_isiC B.isinstance T.mC (pv 2)))
        (pss_cons (ps_if (PW.pt (pw_or (pt_not (pt_val (pe_def GW hr1 rfl pass0 (pa_cons (pe_fld (pv 2) rfl) pa_nil)))) (pw_or (pt_not (pt_val (pe_def GC hr2 rfl pass0 (pa_cons (pv 0) (pa_cons (pe_fld (pv 2) rfl) pa_nil)))))
            (pw_or1 (pt_cmpR op_le (pe_callB call_len_seq (by rfl) B.len PySem.boot_len (pa_cons (pe_fld (pv 2) rfl) pa_nil)) (pv 1) (nomark _)))))) (pss_one (ps_ret pe_bl)) pss_nil)
          (pss_one (ps_ret (pe_cmpR (op_eqF (K := K) hr.units) (pe_def GT hr1 rfl pass0 (pa_cons (pv 0) (pa_cons (pe_fld (pv 2) rfl) (pa_cons (pe_fld (pv 2) rfl) pa_nil)))) (pe_fld (pv 2) rfl) (nomark _)))))
        pss_nil)
      (pss_cons (ps_if (PW.pt (pw_or (pt_cmpR op_ne (pe_callB call_len_seq (by rfl) B.len PySem.boot_len (pa_cons (pe_fld (pv 2) rfl) pa_nil)) (pe_callB call_len_seq (by rfl) B.len PySem.boot_len (pa_cons (pv 0) pa_nil)) (nomark _))
          (pw_or1 (pt_not (pt_val (pe_callB (call_all_bools rfl) (by rfl) B.all PyProof.Rows.Boot.«all» (pa_cons
            (pe_comp ["_law_one"] [1] rfl (pi_list (pe_fld (pv 2) rfl)) fun cl s H fp C => ⟨pg_name (i := 0) (show (["_law_one", "_law_rooms_here"] : List Str).Nodup by decide +kernel) rfl (Or.inl rfl), pts_nil,
              pe_and (pe_def GW hr1 rfl pass0 (pa_cons (pv 0) pa_nil)) (pe_one (pe_chain op_le op_lt pe_int (pv 0) (pv 1)))⟩) pa_nil))))))) (pss_one (ps_ret pe_bl)) pss_nil)
      (pss_cons (ps_set (i := 3) sc_due.nd rfl (Or.inl rfl) (pe_callTy (call_list_rng rfl) (by rfl) B.list PyProof.Rows.Boot.«list» (pa_cons (pe_rangeV rfl B.range (pa_cons (pe_callB call_len_seq (by rfl) B.len PySem.boot_len (pa_cons (pv 0) pa_nil)) pa_nil)) pa_nil)))
      (pss_cons (ps_for PassesOwn.never rfl (pi_list (pv 3)) (pg_name (i := 4) sc_due.nd rfl (Or.inr rfl))
        (pss_cons (ps_set (i := 5) sc_due.nd rfl (Or.inr rfl) (pe_comp ["_law_one"] [2, 4] rfl (pi_list (pv 3)) fun cl s H fp C => ⟨pg_name (i := 0) (show (["_law_one", "_law_found", "_law_at"] : List Str).Nodup by decide +kernel) rfl (Or.inl rfl),
            pts_one (pt_cmpR op_eq (pe_ix (ix_listK (K := K)) (pe_fldK (K := K) (pv 1) rfl) (pv 0) (fun _ _ => rfl)) (pe_ix (ix_listK (K := K)) (pe_fldK (K := K) (pv 1) rfl) (pv 2) (fun _ _ => rfl)) (nomark _)), pv 0⟩))
        (pss_one (ps_if (pt_cmpR (op_neF (K := K) hr.units) (pe_def GT hr1 rfl pass0 (pa_cons (pv 0) (pa_cons (pv 5) (pa_cons (pe_ix ix_tup (pe_ix ix_list (pv 0) (pv 4) (fun _ _ => rfl)) pe_int (fun _ _ => rfl)) pa_nil))))
            (pe_comp ["_law_one"] [5] rfl (pi_list (pe_lst (pa_cons (pv 4) pa_nil))) fun cl s H fp C => ⟨pg_name (i := 0) (show (["_law_one", "_law_mine"] : List Str).Nodup by decide +kernel) rfl (Or.inl rfl), pts_one (pt_cmpR (op_inK (K := K)) (pv 0) (pv 1) (by with_unfolding_all rfl)), pv 0⟩) (nomark _))
          (pss_one (ps_ret pe_bl)) pss_nil))))
      (pss_one (ps_ret pe_bl))))), ?_⟩
    obtain ⟨xs, hb, hbl, _⟩ := id hR
    rcases hX with ⟨d, ns, hX, hz2, q⟩ | ⟨ls, hX, hz2, q⟩
    · obtain ⟨dx, l, hx, hl⟩ := id hX
      have lk1 : ([("day", V.int d), ("asking", V.ref l)] : List (Str × V)).lookup (Str.ofString "day") = some (V.int d) := by simp [List.lookup]
      have lk2 : ([("day", V.int d), ("asking", V.ref l)] : List (Str × V)).lookup (Str.ofString "asking") = some (V.ref l) := by rfl
      refine ⟨_, rfl, _, _, _, rfl, T.okC.ty hx, T.kC.c, _, rfl, iteT ?_⟩
      refine ⟨_, rfl, x, CC, dx, _, _, rfl, hx, T.okC.cl, T.nday, lk1, d, rfl, _, rfl, iteF ?_⟩
      refine ⟨_, rfl, _, rfl, x, CC, dx, _, _, rfl, hx, T.okC.cl, T.nask, lk2, ?_⟩
      refine ⟨l, b, ns, xs, rfl, hl, SqL.of hb, hz2, fun H1 s1 => ⟨_, rfl, ?_⟩⟩
      rw [hbl]
      cases hc : choiceB ns rs.length with
      | false => exact iteT (q false H1 s1 ⟨fun z => (by cases z), fun z => by rw [z.1] at hc; cases hc⟩)
      | true =>
        refine iteF ?_
        have hx1 := s1 _ _ hx
        have hl1 := s1 _ _ hl
        refine ⟨_, rfl, x, CC, dx, _, _, rfl, hx1, T.okC.cl, T.nask, lk2, l, _, rfl, .inl (SqL.of hl1), _, rfl, _, _, rfl, rfl, _, rfl, ?_⟩
        by_cases hm : (ns.length : Int) ≤ m
        · refine iteP (by simpa using hm) (q false H1 s1 ⟨fun z => (by cases z), fun z => ?_⟩)
          have := z.2.1
          omega
        · refine iteN (by simpa using hm) ?_
          refine ⟨_, rfl, _, rfl, x, CC, dx, _, _, rfl, hx1, T.okC.cl, T.nask, lk2, _, rfl, x, CC, dx, _, _, rfl, hx1, T.okC.cl, T.nday, lk1, ?_⟩
          refine ⟨l, b, ns, d, rs, rfl, hl1, reqs_same s1 hR, fun c hcm => choice_in hc hcm, by omega, fun l2 H2 s2 hl2 hv2 => ?_⟩
          refine ⟨_, rfl, x, CC, dx, _, _, rfl, s2 _ _ hx1, T.okC.cl, T.nask, lk2, l2, l, _, _, rfl, rfl, SqL.of hv2, SqL.of (s2 _ _ hl1), flat_ints _, flat_ints _, ?_⟩
          rw [if_neg Bool.false_ne_true, eqL_ints]
          refine q _ H2 (s1.trans s2) ?_
          rw [decide_eq_true_eq, List.filter_eq_self]
          unfold CrowdOk onB
          refine ⟨fun z => ⟨hc, by omega, fun c hcm => ?_⟩, fun z c hcm => ?_⟩
          · have := z c hcm
            rw [Bool.and_eq_true, decide_eq_true_eq, decide_eq_true_eq] at this
            exact this
          · rw [Bool.and_eq_true, decide_eq_true_eq, decide_eq_true_eq]
            exact z.2.2 c hcm
    · obtain ⟨dx, l, hx, hl⟩ := id hX
      have lk : ([("rooms", V.ref l)] : List (Str × V)).lookup (Str.ofString "rooms") = some (V.ref l) := by simp [List.lookup]
      refine ⟨_, rfl, _, _, _, rfl, T.okL.ty hx, T.kL.c, _, rfl, iteF ?_⟩
      refine ⟨_, rfl, x, CL, dx, _, _, rfl, hx, T.okL.cl, T.nrooms, lk, l, _, rfl, .inl (SqL.of hl), _, rfl, b, _, rfl, .inl (SqL.of hb), rfl, _, rfl, ?_⟩
      by_cases hll : ls.length = rs.length
      · refine iteN (by simp [hll, hbl]) ?_
        refine ⟨_, rfl, x, CL, dx, _, _, rfl, hx, T.okL.cl, T.nrooms, lk, l, rfl, ⟨_, SqL.of hl⟩, fun D hD => ?_⟩
        refine comp_each (yields_list (ls.map V.int)) (fun σ => ∃ o, σ = [o, some (.int m)]) (fun j => .bl (decide (0 ≤ ls.getD j 0) && decide (ls.getD j 0 < m))) hD (by rw [List.length_map]; omega) (fun H3 s3 => SqL.of (s3 _ _ hl)) ⟨_, rfl⟩ ?_ ?_
        · rintro j v σ H3 H3' hj ⟨rfl, hxj⟩ s3 ⟨o, rfl⟩ Ky hK
          obtain ⟨h1, rfl⟩ := int_at hxj
          refine ⟨_, rfl, _, rfl, _, rfl, iteT ⟨_, rfl, _, _, rfl, rfl, _, rfl, ?_⟩⟩
          by_cases h0 : 0 ≤ ls.getD j 0
          · refine iteP (by simpa using h0) ⟨_, rfl, _, _, rfl, rfl, hK _ _ _ (Same.refl _) ⟨_, rfl⟩ ?_⟩
            rw [decide_eq_true h0, Bool.true_and]
          · refine iteN (by simpa using h0) (hK _ _ _ (Same.refl _) ⟨_, rfl⟩ ?_)
            rw [decide_eq_false h0, Bool.false_and]
        · intro H3 s3 hD3
          have e1 : ((List.range (ls.map V.int).length).map fun j => decide (0 ≤ ls.getD j 0) && decide (ls.getD j 0 < m)).all id = ls.all fun c => decide (0 ≤ c) && decide (c < m) := by
            rw [List.length_map]
            exact all_range ls fun c => decide (0 ≤ c) && decide (c < m)
          refine ⟨D, (List.range (ls.map V.int).length).map fun j => decide (0 ≤ ls.getD j 0) && decide (ls.getD j 0 < m), rfl, SqL.of (by rw [hD3, List.map_map]; rfl), _, rfl, ?_⟩
          rw [e1]
          have ea : (ls.all fun c => decide (0 ≤ c) && decide (c < m)) = true ↔ ∀ c ∈ ls, 0 ≤ c ∧ c < m := by
            rw [List.all_eq_true]
            simp
          cases hc : ls.all fun c => decide (0 ≤ c) && decide (c < m) with
          | false =>
            refine iteT (q false H3 s3 ⟨fun z => (by cases z), fun z => ?_⟩)
            rw [ea.mpr z.2.1] at hc
            cases hc
          | true =>
            refine iteF ?_
            have hx3 := s3 _ _ hx
            have hl3 := s3 _ _ hl
            have hR3 := reqs_same s3 hR
            refine ⟨_, rfl, b, _, rfl, .inl (SqL.of (s3 _ _ hb)), _, rfl, fun r hr3 => ⟨r, _, rfl, upd_same, by omega, by omega, fun ev hev => ?_⟩⟩
            have er : ((xs.length : Nat) : Int).toNat = rs.length := by omega
            rw [er, upTo_every]
            have s4 : Same H3 (upd (upd H3 r (.rng 0 (xs.length : Nat))) ev (.lst ((every rs.length).map V.int))) := (same_laid hr3).trans (same_laid hev)
            have hev4 : upd (upd H3 r (.rng 0 (xs.length : Nat))) ev (.lst ((every rs.length).map V.int)) ev = some (.lst ((every rs.length).map V.int)) := upd_same
            generalize upd (upd H3 r (.rng 0 (xs.length : Nat))) ev (.lst ((every rs.length).map V.int)) = H4 at s4 hev4 ⊢
            have hx4 := s4 _ _ hx3
            have hl4 := s4 _ _ hl3
            have hR4 := reqs_same s4 hR3
            have S4 := s3.trans s4
            refine ⟨_, rfl, ev, rfl, ⟨_, SqL.of hev4⟩, ?_⟩
            refine for_by (yields_list ((every rs.length).map V.int)) (fun i σ H5 => ∃ o4 o5 : Option V, σ = [some (.ref b), some (.int m), some (.ref x), some (.ref ev), o4, o5] ∧ Same H4 H5 ∧ ∀ c, c < i → (mineL ls rs.length c).filter (onB rs (Lg.rq rs c).1) = [(c : Int)])
              (fun i σ H5 _ ⟨_, _, _, s5, _⟩ => SqL.of (s5 _ _ hev4)) ⟨_, _, rfl, Same.refl _, fun c hc => by omega⟩ ?_ ?_
            · rintro i v σ H5 H5' hi ⟨rfl, hxj⟩ ⟨o4, o5, rfl, s5, done⟩
              obtain ⟨h1, rfl⟩ := int_at hxj
              rw [every_len] at h1
              rw [every_get h1]
              have lsi : (ls.map V.int).length = ls.length := List.length_map _
              refine ⟨_, rfl, ev, rfl, ⟨_, SqL.of (s5 _ _ hev4)⟩, fun D hD5 => ?_⟩
              refine comp_filt (yields_list ((every rs.length).map V.int)) (fun σ => ∃ o, σ = [o, some (.ref x), some (.int (i : Nat))]) (fun j => decide (ls.getD ((every rs.length).getD j 0).toNat 0 = ls.getD i 0)) (fun j => .int ((every rs.length).getD j 0)) hD5 (by rw [List.length_map, every_len]; omega) (fun H6 s6 => SqL.of (s6 _ _ (s5 _ _ hev4))) ⟨_, rfl⟩ ?_ ?_
              · rintro j v σ H6 H6' hj ⟨rfl, hxj⟩ s6 ⟨o, rfl⟩ Ky Kn hY hN
                obtain ⟨h2, rfl⟩ := int_at hxj
                rw [every_len] at h2
                rw [every_get h2]
                have hx6 := s6 _ _ (s5 _ _ hx4)
                have hl6 := s6 _ _ (s5 _ _ hl4)
                rw [every_get h2] at hY hN
                refine ⟨_, rfl, x, CL, dx, _, _, rfl, hx6, T.okL.cl, T.nrooms, lk, _, rfl, l, _, _, _, rfl, rfl, SqL.of hl6, get_intsD rfl (by omega), _, rfl, x, CL, dx, _, _, rfl, hx6, T.okL.cl, T.nrooms, lk, _, rfl, l, _, _, _, rfl, rfl, SqL.of hl6, get_intsD rfl (by omega), rfl, _, rfl, ?_⟩
                by_cases he : ls.getD j 0 = ls.getD i 0
                · exact iteP (by rw [he]; simp) ⟨_, rfl, hY _ _ _ (Same.refl _) ⟨_, rfl⟩ (by simpa using he) rfl⟩
                · exact iteN (by simpa using he) (hN _ _ (Same.refl _) ⟨_, rfl⟩ (by simpa using he))
              · intro H6 s6 hD6
                rw [List.length_map, taken_ints (every rs.length) (fun o => decide (ls.getD o.toNat 0 = ls.getD i 0))] at hD6
                have hD6' : H6 D = some (.lst ((mineL ls rs.length i).map V.int)) := hD6
                have hin : ∀ c ∈ mineL ls rs.length i, 0 ≤ c ∧ c.toNat < rs.length := fun c hc => every_mem (List.mem_filter.mp hc).1
                obtain ⟨ys, p, e1, e2, e3⟩ := reqs_ix (reqs_same (s5.trans s6) hR4) (c := (i : Nat)) (by omega) (by omega)
                rw [Int.toNat_natCast] at e3
                refine ⟨_, rfl, _, rfl, _, rfl, _, rfl, b, _, _, _, rfl, rfl, SqL.of e1, e2, p, _, _, _, rfl, rfl, SqT.of e3, (show atI (trip (Lg.rq rs i)) 0 = some (.int (Lg.rq rs i).1) from rfl), ?_⟩
                refine ⟨D, b, _, _, rs, rfl, hD6', reqs_same (s5.trans s6) hR4, hin, ?_, fun l2 H7 s7 hl2 hv2 => ?_⟩
                · have := List.length_filter_le (fun o : Int => decide (ls.getD o.toNat 0 = ls.getD i 0)) (every rs.length)
                  rw [every_len] at this
                  exact Nat.le_trans this (by omega)
                have me : ((i : Nat) : Int) ∈ mineL ls rs.length i := List.mem_filter.mpr ⟨List.mem_map.mpr ⟨i, List.mem_range.mpr h1, rfl⟩, by simp⟩
                have min : inV (.int (i : Nat)) ((mineL ls rs.length i).map V.int) = true := by
                  unfold inV
                  rw [List.any_eq_true]
                  exact ⟨_, List.mem_map.mpr ⟨_, me, rfl⟩, by show ((i : Int) == (i : Int)) = true; simp⟩
                refine ⟨_, rfl, by show 1 ≤ sizeLine; decide, fun lp hlp => ⟨lp, rfl, ⟨_, SqL.of upd_same⟩, fun D2 hD2 => ?_⟩⟩
                have s8 : Same H7 (upd H7 lp (.lst [.int (i : Nat)])) := same_laid hlp
                refine comp_filt (yields_list [.int (i : Nat)]) (fun σ => ∃ o, σ = [o, some (.ref D)]) (fun _ => true) (fun _ => .int (i : Nat)) hD2 (by show 1 ≤ 100000; decide) (fun H9 s9 => SqL.of (s9 _ _ upd_same)) ⟨_, rfl⟩ ?_ ?_
                · rintro j v σ H9 H9' hj ⟨rfl, hxj⟩ s9 ⟨o, rfl⟩ Ky Kn hY hN
                  have hv : v = .int (i : Nat) := by
                    match j, hxj with
                    | 0, hxj => exact (Option.some.inj hxj).symm
                  subst hv
                  refine ⟨_, rfl, _, rfl, D, _, rfl, .inl (SqL.of (s9 _ _ (s8 _ _ (s7 _ _ hD6')))), rfl, flat_ints _, _, rfl, ?_⟩
                  rw [if_neg Bool.false_ne_true, min]
                  exact iteT ⟨_, rfl, hY _ _ _ (Same.refl _) ⟨_, rfl⟩ rfl rfl⟩
                · intro H9 s9 hD9
                  have hD9' : H9 D2 = some (.lst ([(i : Int)].map V.int)) := hD9
                  refine ⟨l2, D2, _, _, rfl, rfl, SqL.of (s9 _ _ (s8 _ _ hv2)), SqL.of hD9', flat_ints _, flat_ints _, _, rfl, ?_⟩
                  rw [if_pos rfl, eqL_ints]
                  have S9 : Same H4 H9 := s5.trans (s6.trans (s7.trans (s8.trans s9)))
                  by_cases he : (mineL ls rs.length i).filter (onB rs (Lg.rq rs i).1) = [(i : Int)]
                  · rw [decide_eq_true he]
                    refine iteF ⟨_, _, rfl, S9, fun c hc => ?_⟩
                    by_cases e : c = i
                    · subst e; exact he
                    · exact done c (by omega)
                  · rw [decide_eq_false he]
                    refine iteT (q false H9 (S4.trans S9) ⟨fun z => (by cases z), fun z => ?_⟩)
                    exact absurd ((mine_iff hg hll).mpr z.2.2 i h1) he
            · rintro σ H5 ⟨o4, o5, rfl, s5, done⟩
              rw [List.length_map, every_len] at done
              exact q true H5 (S4.trans s5) ⟨fun _ => ⟨hll, ea.mp hc, (mine_iff hg hll).mp done⟩, fun _ => rfl⟩
      · refine iteP (by simp [hbl]; omega) (q false H (Same.refl _) ⟨fun z => (by cases z), fun z => absurd z.1 hll⟩)
end
end Sp

set_option Elab.async false
set_option linter.all false
set_option maxRecDepth 100000
set_option maxHeartbeats 2000000
namespace L2
open PySem PySem.Spec PyProof.Rows
theorem op_isnB {X : Cx} : OpR X (compareOp .IsNot) (fun x y H Q => ∃ c d, x = .bl c ∧ y = .bl d ∧ Q (.bl (c != d)) H) := by
  intro pins s σ H x y v u Q I rx ry h
  obtain ⟨c, d, rfl, rfl, q⟩ := h
  cases rx
  cases ry
  exact isnot_bool (fin_bl I q rfl)
/-- the same tuple of ints, twice -/
theorem trip_eq {X : Cx} {H : Hp} {p : Addr} {i j k : Int} (h : H p = some (.tup [.int i, .int j, .int k])) : EqD X H 8 (.ref p) (.ref p) true := by
  have := eqd_tup (X := X) (n := 7) (e := fun _ => true) (SqT.of (K := X.K) h) (SqT.of (K := X.K) h) rfl (fun _ _ _ => rfl) fun n x y ex ey => by
    rw [ex] at ey
    cases ey
    have hx : ∃ z, x = .int z := by
      match n, ex with
      | 0, ex => exact ⟨i, (Option.some.inj ex).symm⟩
      | 1, ex => exact ⟨j, (Option.some.inj ex).symm⟩
      | 2, ex => exact ⟨k, (Option.some.inj ex).symm⟩
    obtain ⟨z, rfl⟩ := hx
    have := (eqd_flat (X := X) (H := H) (x := .int z) (y := .int z) rfl rfl).mono (Nat.zero_le 7)
    rwa [show eqV (.int z) (.int z) = true by show (z == z) = true; simp] at this
  exact this
end L2
namespace Sp
open PySem L2
seal PE PA PS PSs PT PG PGs PI PW PTs PJ
/-- as many as there are rooms at most -/
theorem pigeon : ∀ (m : Nat) (l : List Int), l.Nodup → (∀ x ∈ l, 0 ≤ x ∧ x < (m : Int)) → l.length ≤ m
  | 0, l, _, h => by
    cases l with
    | nil => exact Nat.le_refl _
    | cons x l => have := h x (by simp); omega
  | m + 1, l, hn, h => by
    have h1 := pigeon m (l.erase (m : Int)) (hn.erase _) fun x hx => by
      have h2 := (hn.mem_erase_iff).mp hx
      have := h x h2.2
      have := h2.1
      omega
    by_cases hm : (m : Int) ∈ l
    · rw [List.length_erase_of_mem hm] at h1
      omega
    · rw [List.erase_of_not_mem hm] at h1
      omega
theorem there_mem {rs : List (Int × Int × Int)} {d : Int} {c : Nat} : c ∈ thereL rs d ↔ c < rs.length ∧ (Lg.rq rs c).1 ≤ d ∧ d ≤ (Lg.rq rs c).2.1 := by
  unfold thereL
  rw [List.mem_filter, List.mem_range, Bool.and_eq_true, decide_eq_true_eq, decide_eq_true_eq]
theorem there_rises (rs : List (Int × Int × Int)) (d : Int) : (thereL rs d).Pairwise (· < ·) := List.Pairwise.filter _ List.pairwise_lt_range
/-- rooms for all: no day has more than rooms -/
theorem lodged_most {ls : List Int} {rs : List (Int × Int × Int)} {m d : Int} (h : LodgedOk ls rs m) (hm : 0 ≤ m) : ((thereL rs d).length : Int) ≤ m := by
  obtain ⟨h1, h2, h3⟩ := h
  have key : ((thereL rs d).map fun c => ls.getD c 0).length ≤ m.toNat := by
    refine pigeon _ _ (List.pairwise_map.mpr (List.Pairwise.imp_of_mem (fun {x y} hx hy hxy => ?_) (there_rises rs d))) fun x hx => ?_
    · obtain ⟨x1, x2, x3⟩ := there_mem.mp hx
      obtain ⟨y1, y2, y3⟩ := there_mem.mp hy
      unfold stayL at h3
      have := List.pairwise_iff_getElem.mp h3 x y (by simpa using x1) (by simpa using y1) hxy
      rw [List.getElem_map, List.getElem_map, List.getElem_range, List.getElem_range] at this
      exact fun z => this ⟨z, by show (Lg.rq rs x).1 ≤ (Lg.rq rs y).2.1; omega, by show (Lg.rq rs y).1 ≤ (Lg.rq rs x).2.1; omega⟩
    · obtain ⟨c, hc, rfl⟩ := List.mem_map.mp hx
      have hc' : c < ls.length := by rw [h1]; exact (there_mem.mp hc).1
      rw [getD_at hc']
      have := h2 _ (List.getElem_mem hc')
      omega
  rw [List.length_map] at key
  omega
/-- the counts of a day's requests as ints -/
def askL (rs : List (Int × Int × Int)) (d : Int) : List Int := (thereL rs d).map fun c : Nat => (c : Int)
theorem ask_map (rs : List (Int × Int × Int)) (d : Int) : (thereL rs d).map (fun c => V.int (c : Nat)) = (askL rs d).map V.int := by
  unfold askL
  rw [List.map_map]
  rfl
theorem ask_len (rs : List (Int × Int × Int)) (d : Int) : (askL rs d).length = (thereL rs d).length := by simp [askL]
theorem ask_crowd {rs : List (Int × Int × Int)} {d m : Int} (h : m < ((thereL rs d).length : Int)) : CrowdOk d (askL rs d) rs m := by
  refine ⟨?_, by rw [ask_len]; exact h, fun c hc => ?_⟩
  · unfold choiceB
    rw [Bool.and_eq_true, List.all_eq_true, rises_iff]
    refine ⟨fun c hc => ?_, ?_⟩
    · obtain ⟨i, hi, rfl⟩ := List.mem_map.mp hc
      have := (there_mem.mp hi).1
      simp
      exact this
    · exact List.pairwise_map.mpr ((there_rises rs d).imp fun {x y} hxy => by omega)
  · obtain ⟨i, hi, rfl⟩ := List.mem_map.mp hc
    rw [Int.toNat_natCast]
    exact (there_mem.mp hi).2
theorem there_filt (rs : List (Int × Int × Int)) (d : Int) : (every rs.length).filter (onB rs d) = askL rs d := by
  have := filt_every rs.length (fun _ => true) (onB rs d)
  rw [List.filter_eq_self.mpr (fun _ _ => rfl), List.filter_eq_self.mpr (fun _ _ => rfl)] at this
  rw [this]
  rfl
theorem lodged_push {ls : List Int} {rs : List (Int × Int × Int)} {m : Int} (h : LodgedOk ls rs m) : ¬ LodgedOk (ls ++ [0]) rs m := fun z => by
  have h1 := h.1
  have h2 := z.1
  simp at h2
  omega
theorem crowd_push {ns : List Int} {rs : List (Int × Int × Int)} {d m : Int} : ¬ CrowdOk d (ns ++ [-1]) rs m := fun z => by
  have := choice_in z.1 (c := -1) (by simp)
  omega
section
variable {P : Program} {w : World} {K : PySem.W.Frag} {mg : Str → Option Value} {base : Heap} {CA CB CD CL CC fLi fLs fCi fCs : Addr} {dLi dLs dCi dCs : FuncData}
/-- an answer: which kind, and what it shows -/
def FoundAt (CL CC : Addr) (H : Hp) (x : Addr) (il : Bool) (G : List (Int × Int × Int) → Int → Prop) : Prop :=
  (il = false ∧ ∃ d ns, CrowdAt CC H x d ns ∧ ns.length ≤ 4000 ∧ G = CrowdOk d ns) ∨ (il = true ∧ ∃ ls, LodgedAt CL H x ls ∧ ls.length ≤ 4000 ∧ G = LodgedOk ls)
theorem FoundAt.same {H H' : Hp} {x : Addr} {il : Bool} {G : List (Int × Int × Int) → Int → Prop} (s : Same H H') (h : FoundAt CL CC H x il G) : FoundAt CL CC H' x il G := by
  rcases h with ⟨e, d, ns, h1, h2⟩ | ⟨e, ls, h1, h2⟩
  · exact .inl ⟨e, d, ns, crowd_same s h1, h2⟩
  · exact .inr ⟨e, ls, lodged_same s h1, h2⟩
theorem FoundAt.ty (T : Ans K mg CA CB CD CL CC fLi fLs fCi fCs dLi dLs dCi dCs) {H : Hp} {x : Addr} {il : Bool} {G : List (Int × Int × Int) → Int → Prop} (h : FoundAt CL CC H x il G) : ∃ C, TyOf K H (.ref x) (.ref C) ∧ Kin K CA CB CD CL CC C il (!il) := by
  rcases h with ⟨rfl, d, ns, ⟨dx, l, h1, _⟩, _⟩ | ⟨rfl, ls, ⟨dx, l, h1, _⟩, _⟩
  · exact ⟨CC, T.okC.ty h1, T.kC⟩
  · exact ⟨CL, T.okL.ty h1, T.kL⟩
theorem rd_shows {σ : St} {t : TA} {H : Hp} {Q : VK} {x : Addr} {m : Int} {rs : List (Int × Int × Int)} {il : Bool} {G : List (Int × Int × Int) → Int → Prop} (hf : FoundAt CL CC H x il G) (hσ : σ[6]? = some (some (.ref x)))
    (ht : ∀ Kt : List V → Hp → Prop, (∀ b H', Same H H' → ReqsAt H' b rs → Kt [.ref b, .int m] H') → t σ H Kt) (hg : GoodR rs) (hz : rs.length ≤ 4000) (hm : 0 ≤ m) (q : ∀ (v : Bool) H', Same H H' → (v = true ↔ G rs m) → Q (.bl v) H') :
    tMeth CL "shows" (sp_Ls CL) [] E0 (tVar 6) t σ H Q ∨ tMeth CC "shows" (sp_Cs CC) [] E0 (tVar 6) t σ H Q := by
  rcases hf with ⟨rfl, d, ns, hX, hn, rfl⟩ | ⟨rfl, ls, hX, hn, rfl⟩
  · obtain ⟨dx, l, h1, h2⟩ := id hX
    refine .inr ⟨_, hσ, x, dx, _, rfl, h1, by rfl, ht _ fun b H' s' hR => ?_⟩
    exact ⟨x, b, m, d, ns, rs, rfl, crowd_same s' hX, hR, hg, by omega, by omega, hm, fun v H2 s2 hv => q v H2 (s'.trans s2) hv⟩
  · obtain ⟨dx, l, h1, h2⟩ := id hX
    refine .inl ⟨_, hσ, x, dx, _, rfl, h1, by rfl, ht _ fun b H' s' hR => ?_⟩
    exact ⟨x, b, m, ls, rs, rfl, lodged_same s' hX, hR, hg, by omega, by omega, hm, fun v H2 s2 hv => q v H2 (s'.trans s2) hv⟩
theorem rd_due {H : Hp} {Q : VK} {E : XK} {x b : Addr} {m : Int} {rs : List (Int × Int × Int)} {il : Bool} {G : List (Int × Int × Int) → Int → Prop} (hf : FoundAt CL CC H x il G) (hR : ReqsAt H b rs) (hg : GoodR rs) (hz : rs.length ≤ 4000)
    (q : ∀ (v : Bool) H', Same H H' → (v = true ↔ G rs m) → Q (.bl v) H') : sp_due CL CC [.ref b, .int m, .ref x] H Q E := by
  refine ⟨x, b, m, rs, rfl, hR, hg, hz, ?_⟩
  rcases hf with ⟨rfl, d, ns, hX, hn, rfl⟩ | ⟨rfl, ls, hX, hn, rfl⟩
  · exact .inl ⟨d, ns, hX, hn, q⟩
  · exact .inr ⟨ls, hX, hn, q⟩
/-- an answer fresh from lodged: with the list that it holds -/
def FoundL (CL CC : Addr) (H : Hp) (x l : Addr) (il : Bool) (G : List (Int × Int × Int) → Int → Prop) : Prop :=
  (il = false ∧ ∃ dx d ns, H x = some (.ins CC dx [("day", .int d), ("asking", .ref l)]) ∧ H l = some (.lst (ns.map V.int)) ∧ ns.length ≤ 3000 ∧ G = CrowdOk d ns) ∨ (il = true ∧ ∃ dx ls, H x = some (.ins CL dx [("rooms", .ref l)]) ∧ H l = some (.lst (ls.map V.int)) ∧ ls.length ≤ 3000 ∧ G = LodgedOk ls)
theorem FoundL.at_ {H : Hp} {x l : Addr} {il : Bool} {G : List (Int × Int × Int) → Int → Prop} (h : FoundL CL CC H x l il G) : FoundAt CL CC H x il G := by
  rcases h with ⟨e, dx, d, ns, h1, h2, h3, h4⟩ | ⟨e, dx, ls, h1, h2, h3, h4⟩
  · exact .inl ⟨e, d, ns, ⟨dx, l, h1, h2⟩, by omega, h4⟩
  · exact .inr ⟨e, ls, ⟨dx, l, h1, h2⟩, by omega, h4⟩
theorem FoundL.same {H H' : Hp} {x l : Addr} {il : Bool} {G : List (Int × Int × Int) → Int → Prop} (s : Same H H') (h : FoundL CL CC H x l il G) : FoundL CL CC H' x l il G := by
  rcases h with ⟨e, dx, d, ns, h1, h2, h3, h4⟩ | ⟨e, dx, ls, h1, h2, h3, h4⟩
  · exact .inl ⟨e, dx, d, ns, s _ _ h1, s _ _ h2, h3, h4⟩
  · exact .inr ⟨e, dx, ls, s _ _ h1, s _ _ h2, h3, h4⟩
theorem there_le (rs : List (Int × Int × Int)) (d : Int) : (thereL rs d).length ≤ rs.length := Lg.cnt_le
/-- what lodged hands back: rooms just where most is no more than rooms -/
theorem rd_lodged {H : Hp} {Q : VK} {E : XK} {a : Addr} {m most : Int} {rs : List (Int × Int × Int)} (hR : ReqsAt H a rs) (hg : GoodR rs) (hz : rs.length ≤ 3000) (hm : 0 ≤ m) (mostU : ∀ c, c < rs.length → ((thereL rs (Lg.rq rs c).1).length : Int) ≤ most)
    (mostE : most = 0 ∨ ∃ c, c < rs.length ∧ most = ((thereL rs (Lg.rq rs c).1).length : Int))
    (q : ∀ x l il G H', Same H H' → H x = none → H l = none → FoundL CL CC H' x l il G → G rs m → il = decide (most ≤ m) → Q (.ref x) H') : sp_lodged CL CC [.ref a, .int m] H Q E := by
  refine ⟨a, m, rs, rfl, hR, hg, by omega, hm, fun x dx l ls H' s' hx hl hx' hl' ok => ?_, fun x dx l d H' s' hx hl hx' hl' hlt hd => ?_⟩
  · refine q x l true _ H' s' hx hl (.inr ⟨rfl, dx, ls, hx', hl', by rw [ok.1]; omega, rfl⟩) ok ?_
    refine (decide_eq_true ?_).symm
    rcases mostE with e | ⟨c, hc, e⟩
    · omega
    · have := lodged_most (d := (Lg.rq rs c).1) ok hm
      omega
  · rw [ask_map] at hl'
    refine q x l false _ H' s' hx hl (.inl ⟨rfl, dx, d, askL rs d, hx', hl', by rw [ask_len]; have := there_le rs d; omega, rfl⟩) (ask_crowd hlt) ?_
    obtain ⟨c, hc, rfl⟩ := hd
    have := mostU c hc
    exact (decide_eq_false (by omega)).symm
theorem reqs_rev {H : Hp} {b p : Addr} {rs : List (Int × Int × Int)} {xs : List V} (h : ReqsAt H b rs) (hb : H b = some (.lst xs)) (hp : H p = none) : ReqsAt (upd H p (.lst xs.reverse)) p rs.reverse := by
  obtain ⟨ys, e1, e2, e3⟩ := h
  rw [hb] at e1
  cases e1
  refine ⟨_, upd_same, by simp [e2], fun i r e => ?_⟩
  have hi : i < rs.length := by have := (List.getElem?_eq_some_iff.mp e).1; simpa using this
  rw [List.getElem?_reverse hi] at e
  obtain ⟨p', e4, e5⟩ := e3 _ r e
  refine ⟨p', ?_, ?_⟩
  · rw [List.getElem?_reverse (by omega), e2]
    exact e4
  · exact same_laid hp _ _ e5
theorem reqs_copy {H : Hp} {b p : Addr} {rs : List (Int × Int × Int)} {xs : List V} (h : ReqsAt H b rs) (hb : H b = some (.lst xs)) (hp : H p = none) : ReqsAt (upd H p (.lst xs)) p rs := by
  obtain ⟨ys, e1, e2, e3⟩ := h
  rw [hb] at e1
  cases e1
  exact ⟨_, upd_same, e2, fun i r e => let ⟨p', e4, e5⟩ := e3 i r e; ⟨p', e4, same_laid hp _ _ e5⟩⟩
theorem good_rev {rs : List (Int × Int × Int)} (h : GoodR rs) : GoodR rs.reverse := fun r hr => h r (List.mem_reverse.mp hr)
end
end Sp

set_option Elab.async false
set_option linter.all false
set_option maxRecDepth 100000
set_option maxHeartbeats 4000000
namespace Sp
open PySem L2
seal PE PA PS PSs PT PG PGs PI PW PTs PJ
section
variable {P : Program} {w : World} {K : PySem.W.Frag} {mg : Str → Option Value} {base : Heap} {CA CB CD CL CC fLi fLs fCi fCs : Addr} {dLi dLs dCi dCs : FuncData}
/-- what the law calls -/
structure Calls (P : Program) (w : World) (K : PySem.W.Frag) (mg : Str → Option Value) (base : Heap) (CL CC fLs fCs : Addr) (dLs dCs : FuncData) : Prop where
  reqs : Def P w K mg base CX0 2 "_law_requests" ["_law_script"] (sp_reqsL K)
  rooms : Def P w K mg base CX0 2 "_law_rooms" ["_law_script", "_law_many"] (sp_lrooms K)
  there : Def P w K mg base CX0 1 "_law_there" ["_law_requests_here", "_law_some", "_law_day"] (sp_lthere K)
  due : Def P w K mg base CX0 3 "_law_due" ["_law_requests_here", "_law_rooms_here", "_law_found"] (sp_due CL CC)
  lodged : Def P w K mg base CX0 6 "lodged" ["requests", "rooms"] (sp_lodged CL CC)
  ls : FnOk P w K mg base CX0 5 fLs dLs ["self", "requests", "rooms"] (sp_Ls CL)
  cs : FnOk P w K mg base CX0 5 fCs dCs ["self", "requests", "rooms"] (sp_Cs CC)
theorem sc_law : FnScope ["_law_script", "_law_requests_here", "_law_every", "_law_most", "_law_rooms_here", "_law_handed", "_law_found", "_law_other"] ["_law_script"] (defScope s_law) := ⟨rfl, rfl, rfl, by decide +kernel, rfl, by decide +kernel, by decide +kernel⟩
def spLaw (K : PySem.W.Frag) : Sp := fun vs H Q _ => ∃ (a : Addr) (ns : List Int), vs = [.ref a] ∧ SqL K H a (ns.map V.int) ∧ ns.length ≤ 63 ∧ ∀ H', Q (.bl true) H'
theorem ok_law {f : Addr} {fd : FuncData} (B : Bl mg) (T : Ans K mg CA CB CD CL CC fLi fLs fCi fCs dLi dLs dCi dCs) (C : Calls P w K mg base CL CC fLs fCs dLs dCs) (F : Fun K "law" "law" s_law f fd) : FnOk P w K mg base CX0 7 f fd ["_law_script"] (spLaw K) := by
  refine F.ok sc_law (fun vs H Q E h => ?_) fun cdv A outer s H vs Q E hr h => ?_
  · obtain ⟨a, ns, rfl, _⟩ := h; rfl
  · obtain ⟨a, ns, rfl, hl, hn, q⟩ := h
    have hr1 : Room 1 _ := hr.mono (by decide)
    have hr2 : Room 2 _ := hr.mono (by decide)
    have hr3 : Room 3 _ := hr.mono (by decide)
    have hr5 : Room 5 _ := hr.mono (by decide)
    have hr6 : Room 6 _ := hr.mono (by decide)
    refine ⟨_, pss_cons (ps_set (i := 1) sc_law.nd rfl (Or.inr rfl) (pe_def C.reqs hr2 rfl pass0 (pa_cons (pv 0) pa_nil)))
      (pss_cons (ps_set (i := 2) sc_law.nd rfl (Or.inr rfl) (pe_callTy (call_list_rng rfl) (by rfl) B.list PyProof.Rows.Boot.«list» (pa_cons (pe_rangeV rfl B.range (pa_cons (pe_callB call_len_seq (by rfl) B.len PySem.boot_len (pa_cons (pv 1) pa_nil)) pa_nil)) pa_nil)))
      (pss_cons (ps_set (i := 3) sc_law.nd rfl (Or.inl rfl) (pe_callB (call_maxL rfl) (by rfl) B.max PyProof.Rows.Boot.«max» (pa_cons (pe_op op_cat (pe_lst (pa_cons pe_int pa_nil))
          (pe_comp ["_law_request"] [1, 2] rfl (pi_list (pv 1)) fun cl s H fp Cx => ⟨pg_name (i := 0) (show (["_law_request", "_law_requests_here", "_law_every"] : List Str).Nodup by decide +kernel) rfl (Or.inl rfl), pts_nil,
            pe_callB (call_lenK (K := K)) (by rfl) B.len PySem.boot_len (pa_cons (pe_def C.there hr1 rfl pass0 (pa_cons (pv 1) (pa_cons (pv 2) (pa_cons (pe_ix (ix_tupK (K := K)) (pv 0) pe_int (fun _ _ => rfl)) pa_nil)))) pa_nil)⟩)) pa_nil)))
      (pss_cons (ps_for PassesOwn.never rfl (pi_tup (pe_tup (pa_cons (pv 3) (pa_cons (pe_callB (call_max2 rfl) (by rfl) B.max PyProof.Rows.Boot.«max» (pa_cons pe_int (pa_cons (pe_op op_sub (pv 3) pe_int) pa_nil)))
          (pa_cons (pe_def C.rooms hr2 rfl pass0 (pa_cons (pv 0) (pa_cons (pe_callB call_len_seq (by rfl) B.len PySem.boot_len (pa_cons (pv 1) pa_nil)) pa_nil))) (pa_cons (pe_callB call_len_seq (by rfl) B.len PySem.boot_len (pa_cons (pv 1) pa_nil)) (pa_cons (pv 3) pa_nil))))))) (pg_name (i := 4) sc_law.nd rfl (Or.inl rfl))
        (pss_cons (ps_set (i := 5) sc_law.nd rfl (Or.inl rfl) (pe_callTy call_list_of (by rfl) B.list PyProof.Rows.Boot.«list» (pa_cons (pv 1) pa_nil)))
        (pss_cons (ps_set (i := 6) sc_law.nd rfl (Or.inl rfl) (pe_def C.lodged hr6 rfl pass0 (pa_cons (pv 5) (pa_cons (pv 4) pa_nil))))
        (pss_cons (ps_if (PW.pt (pw_or (pt_not (pt_val (pe_isiC B.isinstance T.mA (pv 6)))) (pw_or (pt_cmpR op_eq (pe_isiC B.isinstance T.mL (pv 6)) (pe_isiC B.isinstance T.mC (pv 6)) (nomark _)) (pw_or1 (pt_cmpR (op_ne_lst hr.units) (pv 5) (pv 1) (nomark _)))))) (pss_one (ps_ret pe_bl)) pss_nil)
        (pss_cons (ps_if (PW.pt (pw_or (pt_val (pe_isiC B.isinstance T.mB (pv 6))) (pw_or (pt_val (pe_isiC B.isinstance T.mD (pv 6))) (pw_or1 (pt_cmpR op_ne (pe_isiC B.isinstance T.mL (pv 6)) (pe_cmpR op_ge (pv 4) (pv 3) (nomark _)) (nomark _)))))) (pss_one (ps_ret pe_bl)) pss_nil)
        (pss_cons (ps_if (PW.pt (pw_or (pt_not (pt_val (pe_def C.due hr3 rfl pass0 (pa_cons (pv 1) (pa_cons (pv 4) (pa_cons (pv 6) pa_nil)))))) (pw_or1 (pt_cmpR op_isnB (pe_or2 (pe_meth (pv 6) T.okL.cl T.shL C.ls hr5 T.bLs .nil pass0 (pa_cons (pv 1) (pa_cons (pv 4) pa_nil))) (pe_meth (pv 6) T.okC.cl T.shC C.cs hr5 T.bCs .nil pass0 (pa_cons (pv 1) (pa_cons (pv 4) pa_nil)))) pe_bl (nomark _))))) (pss_one (ps_ret pe_bl)) pss_nil)
        (pss_cons (ps_for PassesOwn.never rfl (pi_tup (pe_tup (pa_cons (pe_op op_add (pv 4) pe_int) (pa_cons (pe_callB (call_max2 rfl) (by rfl) B.max PyProof.Rows.Boot.«max» (pa_cons pe_int (pa_cons (pe_op op_sub (pv 4) pe_int) pa_nil))) pa_nil)))) (pg_name (i := 7) sc_law.nd rfl (Or.inl rfl))
          (pss_one (ps_if (pt_cmpR op_ne (pe_or2 (pe_meth (pv 6) T.okL.cl T.shL C.ls hr5 T.bLs .nil pass0 (pa_cons (pv 1) (pa_cons (pv 7) pa_nil))) (pe_meth (pv 6) T.okC.cl T.shC C.cs hr5 T.bCs .nil pass0 (pa_cons (pv 1) (pa_cons (pv 7) pa_nil)))) (pe_def C.due hr3 rfl pass0 (pa_cons (pv 1) (pa_cons (pv 7) (pa_cons (pv 6) pa_nil)))) (nomark _)) (pss_one (ps_ret pe_bl)) pss_nil)))
        (pss_cons (ps_if (pt_cmpR op_ne (pe_or2 (pe_meth (pv 6) T.okL.cl T.shL C.ls hr5 T.bLs .nil pass0 (pa_cons (pe_rev (pv 1) (pe_un un_neg pe_int)) (pa_cons (pv 4) pa_nil))) (pe_meth (pv 6) T.okC.cl T.shC C.cs hr5 T.bCs .nil pass0 (pa_cons (pe_rev (pv 1) (pe_un un_neg pe_int)) (pa_cons (pv 4) pa_nil))))
            (pe_def C.due hr3 rfl pass0 (pa_cons (pe_rev (pv 1) (pe_un un_neg pe_int)) (pa_cons (pv 4) (pa_cons (pv 6) pa_nil)))) (nomark _)) (pss_one (ps_ret pe_bl)) pss_nil)
        (pss_cons (ps_if (pt_val (pe_isiC B.isinstance T.mL (pv 6)))
            (pss_one (ps_expr (pe_bm PySem.F.plainAttrs_list PySem.F.slot_list_append PySem.F.type_list_append mt_append (pe_fld (pv 6) rfl) (pa_cons pe_int pa_nil))))
            (pss_one (ps_expr (pe_bm PySem.F.plainAttrs_list PySem.F.slot_list_append PySem.F.type_list_append mt_append (pe_fld (pv 6) rfl) (pa_cons (pe_un un_neg pe_int) pa_nil)))))
        (pss_one (ps_if (pt_cmpR op_isnB (pe_or2 (pe_meth (pv 6) T.okL.cl T.shL C.ls hr5 T.bLs .nil pass0 (pa_cons (pv 1) (pa_cons (pv 4) pa_nil))) (pe_meth (pv 6) T.okC.cl T.shC C.cs hr5 T.bCs .nil pass0 (pa_cons (pv 1) (pa_cons (pv 4) pa_nil)))) pe_bl (nomark _)) (pss_one (ps_ret pe_bl)) pss_nil)))))))))))
      (pss_one (ps_ret (pe_cmpR (op_eqF (K := K) hr.units) (pe_fld (pe_def C.lodged hr6 rfl pass0 (pa_cons (pe_lst pa_nil) (pa_cons pe_int pa_nil))) rfl) (pe_lst pa_nil) (nomark _))))))), ?_⟩
    -- the requests
    refine ⟨_, rfl, a, ns, rfl, hl, hn, fun b rs H1 hbN s1 hR1 hz hok => ?_⟩
    have hg : GoodR rs := fun r hr => ⟨(hok r hr).1, (hok r hr).2.1⟩
    obtain ⟨xs, hb1, hbl, _⟩ := id hR1
    -- every
    refine ⟨_, rfl, b, _, rfl, .inl (SqL.of hb1), _, rfl, fun r hr3 => ⟨r, _, rfl, upd_same, by omega, by omega, fun ev hev => ?_⟩⟩
    have er : ((xs.length : Nat) : Int).toNat = rs.length := by omega
    rw [er, upTo_every]
    have s2 : Same H1 (upd (upd H1 r (.rng 0 (xs.length : Nat))) ev (.lst ((every rs.length).map V.int))) := (same_laid hr3).trans (same_laid hev)
    have hev2 : upd (upd H1 r (.rng 0 (xs.length : Nat))) ev (.lst ((every rs.length).map V.int)) ev = some (.lst ((every rs.length).map V.int)) := upd_same
    generalize upd (upd H1 r (.rng 0 (xs.length : Nat))) ev (.lst ((every rs.length).map V.int)) = H2 at s2 hev2 ⊢
    have hR2 := reqs_same s2 hR1
    have hb2 := s2 _ _ hb1
    have S2 := s1.trans s2
    -- most
    refine ⟨by show 1 ≤ sizeLine; decide, fun z0 hz0 => ?_⟩
    have s3 : Same H2 (upd H2 z0 (.lst [.int 0])) := same_laid hz0
    have hz3 : upd H2 z0 (.lst [.int 0]) z0 = some (.lst [.int 0]) := upd_same
    generalize upd H2 z0 (.lst [.int 0]) = H3 at s3 hz3 ⊢
    refine ⟨_, rfl, b, rfl, ⟨_, SqL.of (s3 _ _ hb2)⟩, fun D hD => ?_⟩
    refine comp_each (yields_list xs) (fun σ => ∃ o, σ = [o, some (.ref b), some (.ref ev)]) (fun j => .int ((thereL rs (Lg.rq rs j).1).length : Nat)) hD (by omega) (fun H4 s4 => SqL.of (s4 _ _ (s3 _ _ hb2))) ⟨_, rfl⟩ ?_ ?_
    · rintro j v σ H4 H4' hj ⟨rfl, hxj⟩ s4 ⟨o, rfl⟩ Ky hK
      have S4 := s3.trans s4
      obtain ⟨p, rfl, hp⟩ := reqs_at (reqs_same S4 hR2) (S4 _ _ hb2) hxj
      refine ⟨_, rfl, _, rfl, _, rfl, p, _, _, _, rfl, rfl, SqT.of hp, (show atI (trip (Lg.rq rs j)) 0 = some (.int (Lg.rq rs j).1) from rfl), ?_⟩
      refine ⟨ev, b, _, _, rs, rfl, S4 _ _ hev2, reqs_same S4 hR2, fun c hc => every_mem hc, by rw [every_len]; omega, fun l H5 s5 hl5 hv5 => ⟨l, _, rfl, .inl (SqL.of hv5), hK _ _ _ s5 ⟨_, rfl⟩ ?_⟩⟩
      rw [List.length_map, there_filt, ask_len]
    intro H4 s4 hD4
    have S4 := s3.trans s4
    refine ⟨z0, D, _, _, rfl, rfl, s4 _ _ hz3, hD4, by rw [sizeLine_eq]; simp; omega, fun pm hpm => ?_⟩
    have em : [V.int 0] ++ (List.range xs.length).map (fun j => V.int ((thereL rs (Lg.rq rs j).1).length : Nat)) = ((0 : Int) :: (List.range rs.length).map fun j => ((thereL rs (Lg.rq rs j).1).length : Int)).map V.int := by
      rw [hbl, List.map_cons, List.map_map]
      rfl
    rw [em]
    have s5 : Same H4 (upd H4 pm (.lst (((0 : Int) :: (List.range rs.length).map fun j => ((thereL rs (Lg.rq rs j).1).length : Int)).map V.int))) := same_laid hpm
    refine ⟨pm, _, rfl, SqL.of upd_same, by simp, fun most hmem hmax => ?_⟩
    generalize upd H4 pm (.lst (((0 : Int) :: (List.range rs.length).map fun j => ((thereL rs (Lg.rq rs j).1).length : Int)).map V.int)) = H5 at s5 ⊢
    have S5 := S4.trans s5
    have most0 : 0 ≤ most := hmax 0 (by simp)
    have mostU : ∀ c, c < rs.length → ((thereL rs (Lg.rq rs c).1).length : Int) ≤ most := fun c hc => hmax _ (List.mem_cons_of_mem _ (List.mem_map.mpr ⟨c, List.mem_range.mpr hc, rfl⟩))
    have mostE : most = 0 ∨ ∃ c, c < rs.length ∧ most = ((thereL rs (Lg.rq rs c).1).length : Int) := by
      rcases List.mem_cons.mp hmem with e | e
      · exact .inl e
      · obtain ⟨c, hc, rfl⟩ := List.mem_map.mp e
        exact .inr ⟨c, List.mem_range.mp hc, rfl⟩
    have hR5 := reqs_same S5 hR2
    have hb5 := S5 _ _ hb2
    have S05 := S2.trans S5
    -- the tuple of rooms
    refine ⟨_, rfl, _, rfl, _, _, rfl, rfl, _, _, rfl, ?_⟩
    refine ⟨_, rfl, _, rfl, b, _, rfl, .inl (SqL.of hb5), ?_⟩
    refine ⟨a, ns, _, rfl, S05.seq hl, by omega, fun rr H6 hrr s6 => ?_⟩
    have S6 := S5.trans s6
    refine ⟨_, rfl, b, _, rfl, .inl (SqL.of (s6 _ _ hb5)), _, rfl, by show 5 ≤ sizeLine; decide, fun pt hpt => ?_⟩
    refine ⟨pt, rfl, ⟨_, SqT.of upd_same⟩, ?_⟩
    have nonneg : ∀ (j : Nat) (v : V), ([V.int most, V.int (if most - 1 > 0 then most - 1 else 0), V.int rr, V.int (xs.length : Nat), V.int most] : List V)[j]? = some v → ∃ m : Int, v = .int m ∧ 0 ≤ m := fun j v e => by
      match j, e with
      | 0, e => exact ⟨_, (Option.some.inj e).symm, most0⟩
      | 1, e => exact ⟨_, (Option.some.inj e).symm, by split <;> omega⟩
      | 2, e => exact ⟨_, (Option.some.inj e).symm, hrr⟩
      | 3, e => exact ⟨_, (Option.some.inj e).symm, by omega⟩
      | 4, e => exact ⟨_, (Option.some.inj e).symm, most0⟩
    have s7 : Same H6 (upd H6 pt (.tup [.int most, .int (if most - 1 > 0 then most - 1 else 0), .int rr, .int (xs.length : Nat), .int most])) := same_laid hpt
    have hpt7 : upd H6 pt (.tup [.int most, .int (if most - 1 > 0 then most - 1 else 0), .int rr, .int (xs.length : Nat), .int most]) pt = some (.tup [.int most, .int (if most - 1 > 0 then most - 1 else 0), .int rr, .int (xs.length : Nat), .int most]) := upd_same
    generalize ets : ([V.int most, V.int (if most - 1 > 0 then most - 1 else 0), V.int rr, V.int (xs.length : Nat), V.int most] : List V) = ts at nonneg s7 hpt7 ⊢
    generalize upd H6 pt (.tup ts) = H7 at s7 hpt7 ⊢
    have S7 := S6.trans s7
    have hR7 := reqs_same S7 hR2
    have hb7 := S7 _ _ hb2
    refine for_by (yields_tup ts) (fun i σ H8 => ∃ o4 o5 o6 o7 : Option V, σ = [some (.ref a), some (.ref b), some (.ref ev), some (.int most), o4, o5, o6, o7] ∧ Same H7 H8)
      (fun i σ H8 _ ⟨_, _, _, _, _, s8⟩ => SqT.of (s8 _ _ hpt7)) ⟨_, _, _, _, rfl, Same.refl _⟩ ?_ ?_
    · rintro i v σ H8 H8' hi ⟨rfl, hxj⟩ ⟨o4, o5, o6, o7, rfl, s8⟩
      obtain ⟨m, rfl, hm⟩ := nonneg i v hxj
      have hR8 := reqs_same s8 hR7
      have hb8 := s8 _ _ hb7
      -- handed, found
      refine ⟨_, rfl, b, xs, rfl, .inl (SqL.of hb8), fun hd hhd => ?_⟩
      have s9 : Same H8' (upd H8' hd (.lst xs)) := same_laid hhd
      have hd9 : upd H8' hd (.lst xs) hd = some (.lst xs) := upd_same
      have hR9 : ReqsAt (upd H8' hd (.lst xs)) hd rs := reqs_copy hR8 hb8 hhd
      generalize upd H8' hd (.lst xs) = H9 at s9 hd9 hR9 ⊢
      refine ⟨_, rfl, _, rfl, ?_⟩
      unfold tNil
      refine rd_lodged (most := most) hR9 hg (by omega) hm mostU mostE fun x l il G H10 s10 hxN hlN fl hG hil => ?_
      have S10 : Same H8' H10 := s9.trans s10
      have hR10 := reqs_same S10 hR8
      have hb10 := S10 _ _ hb8
      obtain ⟨C0, ty, kin⟩ := FoundAt.ty T fl.at_
      -- its class; what was handed
      refine ⟨_, rfl, _, _, _, rfl, ty, kin.a, _, rfl, iteF ?_⟩
      refine ⟨_, rfl, _, _, _, rfl, ty, kin.l, _, rfl, _, _, _, rfl, ty, kin.c, rfl, _, rfl, iteN (by cases il <;> simp) ?_⟩
      refine ⟨_, rfl, _, rfl, hd, b, xs, xs, rfl, rfl, SqL.of (s10 _ _ hd9), SqL.of hb10, .inl ⟨rfl, fun _ => true, fun j u v ex ey => ?_, _, rfl, iteN (by simp) ?_⟩⟩
      · rw [ex] at ey
        cases ey
        obtain ⟨p, rfl, hp⟩ := reqs_at hR10 hb10 ex
        exact trip_eq hp
      -- rooms just where most is no more
      refine ⟨_, rfl, _, _, _, rfl, ty, kin.b, _, rfl, iteF ⟨_, rfl, _, _, _, rfl, ty, kin.d, _, rfl, iteF ?_⟩⟩
      refine ⟨_, rfl, _, _, _, rfl, ty, kin.l, _, rfl, _, rfl, _, _, rfl, rfl, rfl, _, rfl, iteN (by rw [hil]; simp) ?_⟩
      -- as is due, its own word
      refine ⟨_, rfl, _, rfl, _, rfl, ?_⟩
      refine rd_due fl.at_ hR10 hg (by omega) fun v H11 s11 hv => ⟨_, rfl, ?_⟩
      obtain rfl : v = true := hv.mpr hG
      refine iteF ?_
      refine rd_shows (rs := rs) (m := m) (fl.at_.same s11) rfl (fun Kt k => ⟨_, rfl, _, rfl, k b _ (Same.refl _) (reqs_same s11 hR10)⟩) hg (by omega) hm fun v H12 s12 hv => ⟨_, _, rfl, rfl, _, rfl, ?_⟩
      obtain rfl : v = true := hv.mpr hG
      refine iteN (by decide) ?_
      have S12 := s11.trans s12
      -- one room more, one fewer
      refine ⟨_, rfl, _, _, rfl, rfl, _, rfl, _, _, rfl, rfl, _, _, rfl, by show 2 ≤ sizeLine; decide, fun po hpo => ?_⟩
      refine ⟨po, rfl, ⟨_, SqT.of upd_same⟩, ?_⟩
      have nonneg2 : ∀ (j : Nat) (v : V), ([V.int (m + 1), V.int (if m - 1 > 0 then m - 1 else 0)] : List V)[j]? = some v → ∃ m' : Int, v = .int m' ∧ 0 ≤ m' := fun j v e => by
        match j, e with
        | 0, e => exact ⟨_, (Option.some.inj e).symm, by omega⟩
        | 1, e => exact ⟨_, (Option.some.inj e).symm, by split <;> omega⟩
      have s13 : Same H12 (upd H12 po (.tup [.int (m + 1), .int (if m - 1 > 0 then m - 1 else 0)])) := same_laid hpo
      have hpo13 : upd H12 po (.tup [.int (m + 1), .int (if m - 1 > 0 then m - 1 else 0)]) po = some (.tup [.int (m + 1), .int (if m - 1 > 0 then m - 1 else 0)]) := upd_same
      generalize ([V.int (m + 1), V.int (if m - 1 > 0 then m - 1 else 0)] : List V) = t2 at nonneg2 s13 hpo13 ⊢
      generalize upd H12 po (.tup t2) = H13 at s13 hpo13 ⊢
      have S13 := S12.trans s13
      refine for_by (yields_tup t2) (fun i σ H14 => ∃ o7 : Option V, σ = [some (.ref a), some (.ref b), some (.ref ev), some (.int most), some (.int m), some (.ref hd), some (.ref x), o7] ∧ Same H13 H14)
        (fun i σ H14 _ ⟨_, _, s14⟩ => SqT.of (s14 _ _ hpo13)) ⟨_, rfl, Same.refl _⟩ ?_ ?_
      · rintro i2 v σ H14 H14' hi2 ⟨rfl, hxj2⟩ ⟨o7, rfl, s14⟩
        obtain ⟨m2, rfl, hm2⟩ := nonneg2 i2 v hxj2
        have S14 := S13.trans s14
        refine rd_shows (rs := rs) (m := m2) (fl.at_.same S14) rfl (fun Kt k => ⟨_, rfl, _, rfl, k b _ (Same.refl _) (reqs_same S14 hR10)⟩) hg (by omega) hm2 fun v H15 s15 hv => ⟨_, rfl, _, rfl, _, rfl, ?_⟩
        refine rd_due (fl.at_.same (S14.trans s15)) (reqs_same (S14.trans s15) hR10) hg (by omega) fun v' H16 s16 hv' => ⟨rfl, _, rfl, ?_⟩
        obtain rfl : v = v' := Bool.eq_iff_iff.mpr (hv.trans hv'.symm)
        exact iteN (by simp) ⟨_, rfl, s14.trans (s15.trans s16)⟩
      rintro σ H14 ⟨o7, rfl, s14⟩
      have S14 := S13.trans s14
      -- told backwards
      refine rd_shows (rs := rs.reverse) (m := m) (fl.at_.same S14) rfl (fun Kt k => ⟨_, rfl, _, rfl, b, xs, rfl, rfl, SqL.of (S14 _ _ hb10), fun p hp => ⟨_, rfl, k p _ (same_laid hp) (reqs_rev (reqs_same S14 hR10) (S14 _ _ hb10) hp)⟩⟩) (good_rev hg) (by simp; omega) hm fun v H15 s15 hv => ?_
      have S15 := S14.trans s15
      refine ⟨_, rfl, _, rfl, b, xs, rfl, rfl, SqL.of (S15 _ _ hb10), fun p hp => ⟨_, rfl, _, rfl, ?_⟩⟩
      refine rd_due (fl.at_.same (S15.trans (same_laid hp))) (reqs_rev (reqs_same S15 hR10) (S15 _ _ hb10) hp) (good_rev hg) (by simp; omega) fun v' H16 s16 hv' => ⟨rfl, _, rfl, ?_⟩
      obtain rfl : v = v' := Bool.eq_iff_iff.mpr (hv.trans hv'.symm)
      refine iteN (by simp) ?_
      have S16 : Same H10 H16 := S15.trans ((same_laid hp).trans s16)
      have S816 : Same H8' H16 := S10.trans S16
      have hl8 : H8' l = none := s9.free hlN
      -- what is told may be changed
      rcases fl.same S16 with ⟨rfl, dx, d, ns', h1, h2, h3, rfl⟩ | ⟨rfl, dx, ls, h1, h2, h3, rfl⟩
      · have lk : ([("day", V.int d), ("asking", V.ref l)] : List (Str × V)).lookup (Str.ofString "asking") = some (V.ref l) := by rfl
        obtain ⟨C1, ty1, kin1⟩ := FoundAt.ty T (fl.at_.same S16)
        refine ⟨_, rfl, _, _, _, rfl, ty1, kin1.l, _, rfl, iteF ?_⟩
        refine ⟨_, rfl, x, CC, dx, _, _, rfl, h1, T.okC.cl, T.nask, lk, .inl ⟨rfl, _, SqL.of h2⟩, _, rfl, l, _, _, rfl, rfl, h2, by simp [sizeLine_eq]; omega, ?_⟩
        have e : ns'.map V.int ++ [V.int (-1)] = (ns' ++ [-1]).map V.int := by rw [List.map_append]; rfl
        have nxl : x ≠ l := ne_of h1 h2 fun z => nomatch z
        have f17 : FoundAt CL CC (upd H16 l (.lst ((ns' ++ [-1]).map V.int))) x false (CrowdOk d (ns' ++ [-1])) := .inl ⟨rfl, d, _, ⟨dx, l, by rw [upd_ne nxl]; exact h1, upd_same⟩, by simp; omega, rfl⟩
        have S17 : Same H8' (upd H16 l (.lst ((ns' ++ [-1]).map V.int))) := same_over hl8 S816
        rw [e]
        generalize upd H16 l (.lst ((ns' ++ [-1]).map V.int)) = H17 at f17 S17 ⊢
        refine rd_shows (rs := rs) (m := m) f17 rfl (fun Kt k => ⟨_, rfl, _, rfl, k b _ (Same.refl _) (reqs_same S17 hR8)⟩) hg (by omega) hm fun v H18 s18 hv => ⟨_, _, rfl, rfl, _, rfl, ?_⟩
        obtain rfl : v = false := Bool.eq_false_iff.mpr fun z => crowd_push (hv.mp z)
        exact iteN (by decide) ⟨_, _, _, _, rfl, s8.trans (S17.trans s18)⟩
      · have lk : ([("rooms", V.ref l)] : List (Str × V)).lookup (Str.ofString "rooms") = some (V.ref l) := by simp [List.lookup]
        obtain ⟨C1, ty1, kin1⟩ := FoundAt.ty T (fl.at_.same S16)
        refine ⟨_, rfl, _, _, _, rfl, ty1, kin1.l, _, rfl, iteT ?_⟩
        refine ⟨_, rfl, x, CL, dx, _, _, rfl, h1, T.okL.cl, T.nrooms, lk, .inl ⟨rfl, _, SqL.of h2⟩, l, _, _, rfl, rfl, h2, by simp [sizeLine_eq]; omega, ?_⟩
        have e : ls.map V.int ++ [V.int 0] = (ls ++ [0]).map V.int := by rw [List.map_append]; rfl
        have nxl : x ≠ l := ne_of h1 h2 fun z => nomatch z
        have f17 : FoundAt CL CC (upd H16 l (.lst ((ls ++ [0]).map V.int))) x true (LodgedOk (ls ++ [0])) := .inr ⟨rfl, _, ⟨dx, l, by rw [upd_ne nxl]; exact h1, upd_same⟩, by simp; omega, rfl⟩
        have S17 : Same H8' (upd H16 l (.lst ((ls ++ [0]).map V.int))) := same_over hl8 S816
        rw [e]
        generalize upd H16 l (.lst ((ls ++ [0]).map V.int)) = H17 at f17 S17 ⊢
        refine rd_shows (rs := rs) (m := m) f17 rfl (fun Kt k => ⟨_, rfl, _, rfl, k b _ (Same.refl _) (reqs_same S17 hR8)⟩) hg (by omega) hm fun v H18 s18 hv => ⟨_, _, rfl, rfl, _, rfl, ?_⟩
        obtain rfl : v = false := Bool.eq_false_iff.mpr fun z => lodged_push hG (hv.mp z)
        exact iteN (by decide) ⟨_, _, _, _, rfl, s8.trans (S17.trans s18)⟩
    · rintro σ H8 ⟨o4, o5, o6, o7, rfl, s8⟩
      refine ⟨Nat.zero_le _, fun e0 he0 => ?_⟩
      refine ⟨e0, 0, [], rfl, reqs_nil, fun r hr => by simp at hr, by simp, by decide, ?_, ?_⟩
      · intro x dx l ls H9 s9 hxN hlN hx9 hl9 hok9
        have lk : ([("rooms", V.ref l)] : List (Str × V)).lookup (Str.ofString "rooms") = some (V.ref l) := by simp [List.lookup]
        have els : ls = [] := List.length_eq_zero_iff.mp hok9.1
        subst els
        refine ⟨x, CL, dx, _, _, rfl, hx9, T.okL.cl, T.nrooms, lk, Nat.zero_le _, fun e1 he1 => ?_⟩
        refine ⟨l, e1, _, _, rfl, rfl, SqL.of ((same_laid he1) _ _ hl9), SqL.of upd_same, rfl, rfl, q _⟩
      · intro x dx l d H9 s9 hxN hlN hx9 hl9 hlt hd
        obtain ⟨c, hc, _⟩ := hd
        simp at hc
end
end Sp

set_option Elab.async false
set_option linter.all false
set_option maxRecDepth 100000
set_option maxHeartbeats 4000000
namespace Sp
open PySem L2
/-- the top as it stands when the law is called -/
structure TopOk (K : PySem.W.Frag) (mg : Str → Option Value) (CA CB CD CL CC fLi fLs fCi fCs : Addr) (dLi dLs dCi dCs : FuncData) (CQ CR : Addr) : Prop where
  d_is_whole : FnAt K mg "is_whole" s_is_whole ["value"]
  d_are_days : FnAt K mg "are_days" s_are_days ["first", "last"]
  d_is_request : FnAt K mg "is_request" s_is_request ["value"]
  d_are_requests : FnAt K mg "are_requests" s_are_requests ["value"]
  d_are_rooms : FnAt K mg "are_rooms" s_are_rooms ["value"]
  d_check_requests : FnAt K mg "check_requests" s_check_requests ["requests"]
  d_check_rooms : FnAt K mg "check_rooms" s_check_rooms ["rooms"]
  d_is_rising : FnAt K mg "is_rising" s_is_rising ["values"]
  d_is_choice : FnAt K mg "is_choice" s_is_choice ["taken", "requests"]
  d_are_apart : FnAt K mg "are_apart" s_are_apart ["lodgings", "requests"]
  d_turns_of : FnAt K mg "turns_of" s_turns_of ["requests"]
  d_asking_for : FnAt K mg "asking_for" s_asking_for ["requests", "day"]
  d_lodged : FnAt K mg "lodged" s_lodged ["requests", "rooms"]
  d__law_cell_at : FnAt K mg "_law_cell_at" s__law_cell_at ["_law_script", "_law_k"]
  d__law_draw : FnAt K mg "_law_draw" s__law_draw ["_law_cell", "_law_k", "_law_many"]
  d__law_requests : FnAt K mg "_law_requests" s__law_requests ["_law_script"]
  d__law_rooms : FnAt K mg "_law_rooms" s__law_rooms ["_law_script", "_law_many"]
  d__law_whole : FnAt K mg "_law_whole" s__law_whole ["_law_number"]
  d__law_chosen : FnAt K mg "_law_chosen" s__law_chosen ["_law_requests_here", "_law_some"]
  d__law_there : FnAt K mg "_law_there" s__law_there ["_law_requests_here", "_law_some", "_law_day"]
  d__law_due : FnAt K mg "_law_due" s__law_due ["_law_requests_here", "_law_rooms_here", "_law_found"]
  d_law : FnAt K mg "law" s_law ["_law_script"]
  bl : Bl mg
  erq : Err K mg "BadRequests" CQ
  err : Err K mg "BadRooms" CR
  cons : Cons mg
  ans : Ans K mg CA CB CD CL CC fLi fLs fCi fCs dLi dLs dCi dCs
section
variable {P : Program} {w : World} {K : PySem.W.Frag} {mg : Str → Option Value} {base : Heap} {CA CB CD CL CC fLi fLs fCi fCs CQ CR : Addr} {dLi dLs dCi dCs : FuncData}
theorem law_of {f : Addr} {fd : FuncData} (T : TopOk K mg CA CB CD CL CC fLi fLs fCi fCs dLi dLs dCi dCs CQ CR) (F : Fun K "law" "law" s_law f fd) : FnOk P w K mg base CX0 7 f fd ["_law_script"] (spLaw K) := by
  have gW := ok_whole (P := P) (w := w) (base := base) T.bl T.d_is_whole
  have gD := ok_days gW T.d_are_days
  have gR := ok_req T.bl gW gD T.d_is_request
  have gRs := ok_reqs T.bl gR T.d_are_requests
  have gRm := ok_rooms gW T.d_are_rooms
  have gCq := ok_creq T.erq gRs T.d_check_requests
  have gCr := ok_croom T.err gRm T.d_check_rooms
  have gRi := ok_rising (P := P) (w := w) (K := K) (base := base) T.bl T.d_is_rising
  have gCh := ok_choice T.bl gW gRi T.d_is_choice
  have gAp := ok_apart (P := P) (w := w) (K := K) (base := base) T.bl T.d_are_apart
  have gTu := ok_turns (P := P) (w := w) (K := K) (base := base) T.bl T.cons T.d_turns_of
  have gAs := ok_asking (P := P) (w := w) (K := K) (base := base) T.bl T.d_asking_for
  have gLo := ok_lodged T.bl T.cons T.ans gCq gCr gTu gAs T.d_lodged
  have gLs := ok_Ls T.bl T.ans gW gRs gRm gAp
  have gCs := ok_Cs T.bl T.ans gW gRs gRm gCh
  have gC := ok_cell (P := P) (w := w) (base := base) T.bl T.d__law_cell_at
  have gDr := ok_draw (P := P) (w := w) (K := K) (base := base) T.d__law_draw
  have gL := ok_reqsL T.bl gC gDr T.d__law_requests
  have gLr := ok_lrooms gC gDr T.d__law_rooms
  have gLw := ok_lwhole (P := P) (w := w) (K := K) (base := base) T.bl T.d__law_whole
  have gLc := ok_lchosen T.bl gLw T.d__law_chosen
  have gLt := ok_lthere (P := P) (w := w) (K := K) (base := base) T.d__law_there
  have gLd := ok_due T.bl T.ans gLw gLc gLt T.d__law_due
  exact ok_law T.bl T.ans ⟨gL, gLr, gLt, gLd, gLo, gLs, gCs⟩ F
end
theorem fnAt_mk {K : PySem.W.Frag} {h : Heap} {mg : Str → Option Value} {x : Str} {st : Stmt} {ps : List Str} {f : Addr} {oc : Value} {od an : Option Addr} {osl : Array (Option Value)} {kV doc pm cdv ct : Value} (X : K.In h) (G : h.Ns mainGlobals mg)
    (a : PySem.W.nsIn K mainGlobals x = some (some (.ref f))) (l : K.lookup f = some ⟨oc, od, .func (PySem.W.fnOf x x (defArgs st) (defBody st) (defScope st) .none kV doc pm an cdv ct), osl⟩)
    (c : PySem.W.codeIn K cdv x = true) (k : PySem.W.keepIn K (.ref f) = true)
    (hb : ∀ (kV doc pm : Value) (an : Option Addr) (cdv ct : Value) (us : List Value), us.length = ps.length → bindArgs (PySem.W.fnOf x x (defArgs st) (defBody st) (defScope st) .none kV doc pm an cdv ct) ⟨us, []⟩ = pure (ps.zip us)) : FnAt K mg x st ps := by
  have F := fun_mk (st := st) l c k
  exact ⟨f, _, PySem.W.mg_of X G a, F, F.binds hb⟩
theorem err_mk {K : PySem.W.Frag} {h : Heap} {mg : Str → Option Value} {n : Str} {C : Addr} (X : K.In h) (G : h.Ns mainGlobals mg) (a : PySem.W.nsIn K mainGlobals n = some (some (.ref C))) (e : PySem.W.excIn K C vbm "ValueError.__new__" = true) : Err K mg n C := ⟨PySem.W.mg_of X G a, e⟩
theorem int_mk {K : PySem.W.Frag} {h : Heap} {mg : Str → Option Value} {n : Str} {i : Int} {t : Tok} (X : K.In h) (G : h.Ns mainGlobals mg) (a : PySem.W.nsIn K mainGlobals n = some (some (.int i t))) : ∃ t, mg n = some (.int i t) := ⟨t, PySem.W.mg_of X G a⟩
theorem walk {l : PySem.W.OpenLaw} {q : Program} {loose : List Str} {XP : (Str → Option Value) → Heap → Prop} {YP : World → Heap → Prop} {d : DefRec} {K : Params → PySem.W.Frag} (hn : l.most = some 63) (hdf : d.params.defaults = []) (hdn : d.name = "law")
    (hY : ∀ (w : World) (h : Heap), YP w h → (K w.params).In h)
    (F : ∀ (w : World) (mg : Str → Option Value) (h : Heap), (K w.params).In h → h.Ns mainGlobals mg → ∃ CA CB CD CL CC fLi fLs fCi fCs dLi dLs dCi dCs CQ CR, TopOk (K w.params) mg CA CB CD CL CC fLi fLs fCi fCs dLi dLs dCi dCs CQ CR) :
    PySem.W.WalkO q loose XP YP l.row.toRowW d [] (fun f vs => PySem.call f vs) :=
  L2.walk_of (n := 63) (k := 7) (x := "_law_script") (CX := fun _ => CX0) (sp := fun w => spLaw (K w.params)) hn (by decide) hdf ⟨rfl, by decide, by decide⟩ hY
    (fun w mg fa h X G hfa => by
      obtain ⟨CA, CB, CD, CL, CC, fLi, fLs, fCi, fCs, dLi, dLs, dCi, dCs, CQ, CR, T⟩ := F w mg h X G
      obtain ⟨f, fd, hm, Fn, b⟩ := T.d_law
      rw [hdn, hm] at hfa
      cases hfa
      refine ⟨fd, ?_, fun base _ _ => law_of T Fn⟩
      obtain ⟨oc, od, kV, doc, pm, an, cdv, ct, osl, rfl, lk, hcd⟩ := Fn.ex
      exact fun s v => .of_eq rfl)
    (fun _ _ a ns hl _ hS => ⟨a, ns, rfl, hS, hl, fun _ => rfl⟩) fun _ _ _ _ _ z => z
end Sp

set_option Elab.async false
/-! The head makes a quick copy of each written heap; the equations of those copies are what makes the compiled text great. These names, taken ahead, let it go on without them. -/
def PySem.W.Fast.tw10651486175946152224 : Unit := ()
def PySem.W.Fast.tw8433001619778320741 : Unit := ()
def PySem.W.Fast.tw13461010957034517766 : Unit := ()
def PySem.W.Fast.tw4510814080933208648 : Unit := ()
def PySem.W.Fast.tw5605731496271920553 : Unit := ()
def PySem.W.Fast.tw15441318775416354027 : Unit := ()
def PySem.W.Fast.tw5338029492757686988 : Unit := ()
def PySem.W.Fast.tw11753568306830519954 : Unit := ()
def PySem.W.Fast.tw14105221683298972691 : Unit := ()
def PySem.W.Fast.tw7872267380564402675 : Unit := ()
def PySem.W.Fast.tw724565031888479960 : Unit := ()
def PySem.W.Fast.tw14072045392951060474 : Unit := ()
def PySem.W.Fast.tw7671602918335888187 : Unit := ()
def PySem.W.Fast.tw3299025221817816381 : Unit := ()
open PySem PySem.W PyProof.Rows
set_option maxRecDepth 100000 in
set_option maxHeartbeats 0 in
theorem PySem.Challenge.cw_spantolls_k04_whole_lodged_holds : PySem.Challenge.rw_spantolls_k04_whole_lodged.Holds := by
  w_on; o_law; k_head; (case hw => w_witness2)
  k_fill
  refine Sp.walk (l := PySem.Challenge.rw_spantolls_k04_whole_lodged) rfl rfl rfl (fun w h Y => PySem.W.kIn_of Y) ?F
  case F =>
    intro w mg h KX G
    have bl : Sp.Bl mg := by
      refine' ⟨PySem.W.mg_none_of KX G ?z0, PySem.W.mg_none_of KX G ?z1, PySem.W.mg_none_of KX G ?z2, PySem.W.mg_none_of KX G ?z3, PySem.W.mg_none_of KX G ?z4, PySem.W.mg_none_of KX G ?z5, PySem.W.mg_none_of KX G ?z6, PySem.W.mg_none_of KX G ?z7, PySem.W.mg_none_of KX G ?z8, PySem.W.mg_none_of KX G ?z9, PySem.W.mg_none_of KX G ?z10, PySem.W.mg_none_of KX G ?z11, PySem.W.mg_none_of KX G ?z12, PySem.W.mg_none_of KX G ?z13, PySem.W.mg_none_of KX G ?z14, PySem.W.mg_none_of KX G ?z15, PySem.W.mg_none_of KX G ?z16, PySem.W.mg_none_of KX G ?z17, PySem.W.mg_none_of KX G ?z18⟩
      (case z0 => k_is); (case z1 => k_is); (case z2 => k_is); (case z3 => k_is); (case z4 => k_is); (case z5 => k_is); (case z6 => k_is); (case z7 => k_is); (case z8 => k_is); (case z9 => k_is); (case z10 => k_is); (case z11 => k_is); (case z12 => k_is); (case z13 => k_is); (case z14 => k_is); (case z15 => k_is); (case z16 => k_is); (case z17 => k_is); (case z18 => k_is)

    refine' ⟨?CA, ?CB, ?CD, ?CL, ?CC, ?fLi, ?fLs, ?fCi, ?fCs, ?dLi, ?dLs, ?dCi, ?dCs, ?CQ, ?CR, ⟨?d_is_whole, ?d_are_days, ?d_is_request, ?d_are_requests, ?d_are_rooms, ?d_check_requests, ?d_check_rooms, ?d_is_rising, ?d_is_choice, ?d_are_apart, ?d_turns_of, ?d_asking_for, ?d_lodged, ?d__law_cell_at, ?d__law_draw, ?d__law_requests, ?d__law_rooms, ?d__law_whole, ?d__law_chosen, ?d__law_there, ?d__law_due, ?d_law, bl, Sp.err_mk KX G ?nmq ?exq, Sp.err_mk KX G ?nmr ?exr, ⟨Sp.int_mk KX G ?n1, Sp.int_mk KX G ?n2⟩, ?an⟩⟩
    case d_is_whole =>
      refine' Sp.fnAt_mk KX G ?a ?l ?c ?k (fun _ _ _ _ _ _ us hl => match us, hl with | [_], _ => rfl)
      (case a => k_is); (case l => k_is); (case c => k_is); (case k => k_is)
    case d_are_days =>
      refine' Sp.fnAt_mk KX G ?a ?l ?c ?k (fun _ _ _ _ _ _ us hl => match us, hl with | [_, _], _ => rfl)
      (case a => k_is); (case l => k_is); (case c => k_is); (case k => k_is)
    case d_is_request =>
      refine' Sp.fnAt_mk KX G ?a ?l ?c ?k (fun _ _ _ _ _ _ us hl => match us, hl with | [_], _ => rfl)
      (case a => k_is); (case l => k_is); (case c => k_is); (case k => k_is)
    case d_are_requests =>
      refine' Sp.fnAt_mk KX G ?a ?l ?c ?k (fun _ _ _ _ _ _ us hl => match us, hl with | [_], _ => rfl)
      (case a => k_is); (case l => k_is); (case c => k_is); (case k => k_is)
    case d_are_rooms =>
      refine' Sp.fnAt_mk KX G ?a ?l ?c ?k (fun _ _ _ _ _ _ us hl => match us, hl with | [_], _ => rfl)
      (case a => k_is); (case l => k_is); (case c => k_is); (case k => k_is)
    case d_check_requests =>
      refine' Sp.fnAt_mk KX G ?a ?l ?c ?k (fun _ _ _ _ _ _ us hl => match us, hl with | [_], _ => rfl)
      (case a => k_is); (case l => k_is); (case c => k_is); (case k => k_is)
    case d_check_rooms =>
      refine' Sp.fnAt_mk KX G ?a ?l ?c ?k (fun _ _ _ _ _ _ us hl => match us, hl with | [_], _ => rfl)
      (case a => k_is); (case l => k_is); (case c => k_is); (case k => k_is)
    case d_is_rising =>
      refine' Sp.fnAt_mk KX G ?a ?l ?c ?k (fun _ _ _ _ _ _ us hl => match us, hl with | [_], _ => rfl)
      (case a => k_is); (case l => k_is); (case c => k_is); (case k => k_is)
    case d_is_choice =>
      refine' Sp.fnAt_mk KX G ?a ?l ?c ?k (fun _ _ _ _ _ _ us hl => match us, hl with | [_, _], _ => rfl)
      (case a => k_is); (case l => k_is); (case c => k_is); (case k => k_is)
    case d_are_apart =>
      refine' Sp.fnAt_mk KX G ?a ?l ?c ?k (fun _ _ _ _ _ _ us hl => match us, hl with | [_, _], _ => rfl)
      (case a => k_is); (case l => k_is); (case c => k_is); (case k => k_is)
    case d_turns_of =>
      refine' Sp.fnAt_mk KX G ?a ?l ?c ?k (fun _ _ _ _ _ _ us hl => match us, hl with | [_], _ => rfl)
      (case a => k_is); (case l => k_is); (case c => k_is); (case k => k_is)
    case d_asking_for =>
      refine' Sp.fnAt_mk KX G ?a ?l ?c ?k (fun _ _ _ _ _ _ us hl => match us, hl with | [_, _], _ => rfl)
      (case a => k_is); (case l => k_is); (case c => k_is); (case k => k_is)
    case d_lodged =>
      refine' Sp.fnAt_mk KX G ?a ?l ?c ?k (fun _ _ _ _ _ _ us hl => match us, hl with | [_, _], _ => rfl)
      (case a => k_is); (case l => k_is); (case c => k_is); (case k => k_is)
    case d__law_cell_at =>
      refine' Sp.fnAt_mk KX G ?a ?l ?c ?k (fun _ _ _ _ _ _ us hl => match us, hl with | [_, _], _ => rfl)
      (case a => k_is); (case l => k_is); (case c => k_is); (case k => k_is)
    case d__law_draw =>
      refine' Sp.fnAt_mk KX G ?a ?l ?c ?k (fun _ _ _ _ _ _ us hl => match us, hl with | [_, _, _], _ => rfl)
      (case a => k_is); (case l => k_is); (case c => k_is); (case k => k_is)
    case d__law_requests =>
      refine' Sp.fnAt_mk KX G ?a ?l ?c ?k (fun _ _ _ _ _ _ us hl => match us, hl with | [_], _ => rfl)
      (case a => k_is); (case l => k_is); (case c => k_is); (case k => k_is)
    case d__law_rooms =>
      refine' Sp.fnAt_mk KX G ?a ?l ?c ?k (fun _ _ _ _ _ _ us hl => match us, hl with | [_, _], _ => rfl)
      (case a => k_is); (case l => k_is); (case c => k_is); (case k => k_is)
    case d__law_whole =>
      refine' Sp.fnAt_mk KX G ?a ?l ?c ?k (fun _ _ _ _ _ _ us hl => match us, hl with | [_], _ => rfl)
      (case a => k_is); (case l => k_is); (case c => k_is); (case k => k_is)
    case d__law_chosen =>
      refine' Sp.fnAt_mk KX G ?a ?l ?c ?k (fun _ _ _ _ _ _ us hl => match us, hl with | [_, _], _ => rfl)
      (case a => k_is); (case l => k_is); (case c => k_is); (case k => k_is)
    case d__law_there =>
      refine' Sp.fnAt_mk KX G ?a ?l ?c ?k (fun _ _ _ _ _ _ us hl => match us, hl with | [_, _, _], _ => rfl)
      (case a => k_is); (case l => k_is); (case c => k_is); (case k => k_is)
    case d__law_due =>
      refine' Sp.fnAt_mk KX G ?a ?l ?c ?k (fun _ _ _ _ _ _ us hl => match us, hl with | [_, _, _], _ => rfl)
      (case a => k_is); (case l => k_is); (case c => k_is); (case k => k_is)
    case d_law =>
      refine' Sp.fnAt_mk KX G ?a ?l ?c ?k (fun _ _ _ _ _ _ us hl => match us, hl with | [_], _ => rfl)
      (case a => k_is); (case l => k_is); (case c => k_is); (case k => k_is)
    (case nmq => k_is)
    (case nmr => k_is)
    (case exq => kernel_rfl)
    (case exr => kernel_rfl)
    (case n1 => k_is)
    (case n2 => k_is)
    case an =>
      refine' ⟨PySem.W.mg_of KX G ?mA, PySem.W.mg_of KX G ?mB, PySem.W.mg_of KX G ?mD, PySem.W.mg_of KX G ?mL, PySem.W.mg_of KX G ?mC, ?okL, ?okC, ?nr, ?nd, ?na, ?mkL, ?mkC, ?shL, ?shC, ?kL, ?kC, ?gLi, ?gLs, ?gCi, ?gCs, ?bLi, ?bLs, ?bCi, ?bCs⟩
      (case mA => k_is)
      (case mB => k_is)
      (case mD => k_is)
      (case mL => k_is)
      (case mC => k_is)
      case okL =>
        refine' ⟨⟨?a1, ?a2, ?a3, ?a4⟩, ?a5, ?a6, ?a7, ?a8⟩
        (case a1 => kernel_rfl); (case a2 => kernel_rfl); (case a3 => kernel_rfl); (case a4 => k_is); (case a5 => k_is); (case a6 => k_is); (case a7 => k_is); (case a8 => k_is)
      case okC =>
        refine' ⟨⟨?a1, ?a2, ?a3, ?a4⟩, ?a5, ?a6, ?a7, ?a8⟩
        (case a1 => kernel_rfl); (case a2 => kernel_rfl); (case a3 => kernel_rfl); (case a4 => k_is); (case a5 => k_is); (case a6 => k_is); (case a7 => k_is); (case a8 => k_is)
      (case nr => unfold L2.NoAttr; k_is)
      (case nd => unfold L2.NoAttr; k_is)
      (case na => unfold L2.NoAttr; k_is)
      case mkL =>
        refine' ⟨?a1, ?a2, ?a3, ?a4⟩
        (case a1 => kernel_rfl); (case a2 => k_is); (case a3 => kernel_rfl); (case a4 => kernel_rfl)
      case mkC =>
        refine' ⟨?a1, ?a2, ?a3, ?a4⟩
        (case a1 => kernel_rfl); (case a2 => k_is); (case a3 => kernel_rfl); (case a4 => kernel_rfl)
      case shL =>
        refine' ⟨?a1, ?a2, ?a3⟩
        (case a1 => k_is); (case a2 => kernel_rfl); (case a3 => kernel_rfl)
      case shC =>
        refine' ⟨?a1, ?a2, ?a3⟩
        (case a1 => k_is); (case a2 => kernel_rfl); (case a3 => kernel_rfl)
      case kL =>
        refine' ⟨?a1, ?a2, ?a3, ?a4, ?a5⟩
        (case a1 => kernel_rfl); (case a2 => kernel_rfl); (case a3 => kernel_rfl); (case a4 => kernel_rfl); (case a5 => kernel_rfl)
      case kC =>
        refine' ⟨?a1, ?a2, ?a3, ?a4, ?a5⟩
        (case a1 => kernel_rfl); (case a2 => kernel_rfl); (case a3 => kernel_rfl); (case a4 => kernel_rfl); (case a5 => kernel_rfl)
      case gLi =>
        refine' L2.fun_mk ?l ?c ?k
        (case l => k_is); (case c => k_is); (case k => k_is)
      case gLs =>
        refine' L2.fun_mk ?l ?c ?k
        (case l => k_is); (case c => k_is); (case k => k_is)
      case gCi =>
        refine' L2.fun_mk ?l ?c ?k
        (case l => k_is); (case c => k_is); (case k => k_is)
      case gCs =>
        refine' L2.fun_mk ?l ?c ?k
        (case l => k_is); (case c => k_is); (case k => k_is)
      (case bLi => exact L2.Binds.all (fun us hl => match us, hl with | [_, _], _ => rfl))
      (case bLs => exact L2.Binds.all (fun us hl => match us, hl with | [_, _, _], _ => rfl))
      (case bCi => exact L2.Binds.all (fun us hl => match us, hl with | [_, _, _], _ => rfl))
      (case bCs => exact L2.Binds.all (fun us hl => match us, hl with | [_, _, _], _ => rfl))
