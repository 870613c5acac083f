import PyProof.Rows.All
import Wide.All
import OpenK.AllK
import Wide.FinOn
import Lean
import PyProof.EqAt
import PyProof.EqKinds
import PyProof.TupleCall
import PyProof.SetKind
import PyProof.DictWalks
import PyProof.FactsAll.set
import PyProof.CollectWalk
import PyProof.RulesTry
import PyProof.Rows.SetFrom
import PyProof.ListRange
import KE.KDictSum
import PyProof.SeqI3
import PyProof.ExcArgsOwn
import KE.KTryMore
import OpenK.KRaise
import OpenK.KOwn
import PyProof.ExcBaseAll.ValueError
import PyProof.NsDelKeeps
import PyProof.EnumFor
import PyProof.EnumMake
import PyProof.Rows.EnumRows
import PyProof.NeKinds
import PyProof.WalkInts
import KE.KRevIter
import KE.KDictList
import PyProof.ConsumeWalk
import PyProof.Rows.SeqMore2
import PyProof.StrCalls2
import PyProof.StrLawsTight
import PyProof.StrLawsOcc
import PyProof.FitsReplace
import KE.KIntText
import PyProof.StrWalks
import PyProof.Rows.TupAdd
import PyProof.SumWalk
import PyProof.Rows.SeqMore
import PyProof.ZipIter
import KE.KDictOf
import PyProof.IsiH_list
import PyProof.MinMaxWalk
import PyProof.Rows.CallKwBuiltin
import PySem.Challenge.RW_everduel_k17_whole_least_and_most

-- CHANGE: your row's module here, as the last of these rows
set_option Elab.async false
set_option linter.all false
set_option maxRecDepth 100000
/-! THE HAND LAYER, for ints, bools, texts, own classes, LISTS and tuples (index, slices, in, append, pop ..), calls, loops. Paste it whole ahead of your own text; what your proof does not reach may be deleted. -/
namespace L2
open PySem PySem.Spec PyProof.Rows

/-- a key: an int or a str -/
abbrev Key := Sum Int Str
def keyIs : Key → Value → Bool
  | .inl k, v => Value.isInt k v
  | .inr x, v => Value.isStrOf x v
def keyH (w : World) : Key → Int
  | .inl k => hashInt k
  | .inr x => hashStr w x
theorem keyIs_shape : ∀ {k : Key} {v : Value}, keyIs k v = true → (∃ i t, k = Sum.inl i ∧ v = Value.int i t) ∨ (∃ x t, k = Sum.inr x ∧ v = Value.str x t)
  | .inl i, v, h => by
    obtain ⟨t, e⟩ := Value.isInt_shape (k := i) (v := v) h
    exact .inl ⟨i, t, rfl, e⟩
  | .inr x, v, h => by
    obtain ⟨t, e⟩ := Value.isStrOf_shape (x := x) (v := v) h
    exact .inr ⟨x, t, rfl, e⟩
theorem keyIs_int (i : Int) (t : Tok) : keyIs (.inl i) (.int i t) = true := by simp [keyIs, Value.isInt]
theorem keyIs_str (x : Str) (t : Tok) : keyIs (.inr x) (.str x t) = true := by simp [keyIs, Value.isStrOf]
theorem key_ll (a b : Int) : decide ((Sum.inl a : Key) = Sum.inl b) = (a == b) := by
  by_cases e : a = b
  · subst e; simp
  · have h : ¬ (Sum.inl a : Key) = Sum.inl b := fun q => e (Sum.inl.inj q)
    rw [decide_eq_false h]
    exact (beq_eq_false_iff_ne.mpr e).symm
theorem key_rr (a b : Str) : decide ((Sum.inr a : Key) = Sum.inr b) = decide (a = b) := by
  by_cases e : a = b
  · subst e; simp
  · have h : ¬ (Sum.inr a : Key) = Sum.inr b := fun q => e (Sum.inr.inj q)
    rw [decide_eq_false h, decide_eq_false e]
theorem key_lr (a : Int) (b : Str) : decide ((Sum.inl a : Key) = Sum.inr b) = false := decide_eq_false (fun q => nomatch q)
theorem key_rl (a : Str) (b : Int) : decide ((Sum.inr a : Key) = Sum.inl b) = false := decide_eq_false (fun q => nomatch q)

def mixKind (prog : Program) (w : World) : PySem.KeyKind prog w Key where
  is := keyIs
  hash := keyH w
  inj := fun v a b ha hb => by
    rcases keyIs_shape ha with ⟨i, t, rfl, rfl⟩ | ⟨x, t, rfl, rfl⟩
    · rcases keyIs_shape hb with ⟨j, u, rfl, e⟩ | ⟨y, u, rfl, e⟩
      · injection e with e1 _; rw [e1]
      · exact nomatch e
    · rcases keyIs_shape hb with ⟨j, u, rfl, e⟩ | ⟨y, u, rfl, e⟩
      · exact nomatch e
      · injection e with e1 _; rw [e1]
  byValue := fun k v h => by
    rcases keyIs_shape h with ⟨i, t, rfl, rfl⟩ | ⟨x, t, rfl, rfl⟩ <;> rfl
  pyHash := fun hv h => by
    rcases keyIs_shape hv with ⟨i, t, rfl, rfl⟩ | ⟨x, t, rfl, rfl⟩
    · exact wpAny_pyHash_int h
    · exact wpAny_pyHash_str h
  eqBool := fun hu hv h => by
    rcases keyIs_shape hu with ⟨i, t, rfl, rfl⟩ | ⟨x, t, rfl, rfl⟩
    · rcases keyIs_shape hv with ⟨j, u, rfl, rfl⟩ | ⟨y, u, rfl, rfl⟩
      · rw [key_ll] at h; exact wpAny_eqBool_int h
      · rw [key_lr] at h; exact SeqAt.EqAt.int_str i t y u _ _ _ _ h
    · rcases keyIs_shape hv with ⟨j, u, rfl, rfl⟩ | ⟨y, u, rfl, rfl⟩
      · rw [key_rl] at h; exact SeqAt.EqAt.str_int x t j u _ _ _ _ h
      · rw [key_rr] at h; exact wpAny_eqBool_str h
  «strs» := fun k x t v h => by
    rcases keyIs_shape h with ⟨i, u, rfl, e⟩ | ⟨y, u, rfl, e⟩
    · exact nomatch e
    · injection e with e1 _
      subst e1
      cases v <;> rfl

theorem mixKind_int (prog : Program) (w : World) (i : Int) (t : Tok) : (mixKind prog w).is (.inl i) (.int i t) = true := keyIs_int i t
theorem mixKind_str (prog : Program) (w : World) (x : Str) (t : Tok) : (mixKind prog w).is (.inr x) (.str x t) = true := keyIs_str x t
end L2

namespace L2
open PySem PySem.Spec PyProof.Rows

/-- a value, without the heap -/
inductive V where
  | non | bl (b : Bool) | int (i : Int) | str (x : Str) | byt (b : Array UInt8) | flt (b : UInt64) | ref (a : Addr) | ty (n : String)
  deriving DecidableEq

def RelV : V → Value → Prop
  | .non, u => u = Value.none
  | .bl b, u => u = Value.bool b
  | .int i, u => ∃ t, u = Value.int i t
  | .str x, u => ∃ t, u = Value.str x t
  | .byt b, u => ∃ t, u = Value.bytes b t
  | .flt b, u => ∃ t, u = Value.float b t
  | .ref a, u => u = Value.ref a
  | .ty n, u => u = Value.type n

abbrev Vals : List V → List Value → Prop := Paired RelV
theorem Vals.length {xs : List V} {us : List Value} (r : Vals xs us) : xs.length = us.length := Paired.length r
theorem Vals.get : ∀ {xs : List V} {us : List Value} {i : Nat} {x : V}, Vals xs us → xs[i]? = some x → ∃ u, us[i]? = some u ∧ RelV x u
  | _, _, _, _, .nil, e => by simp at e
  | _, _, 0, _, .cons r _, e => by simp at e; subst e; exact ⟨_, rfl, r⟩
  | _, _, i + 1, x, .cons _ t, e => by
    obtain ⟨u, h1, h2⟩ := Vals.get (i := i) (x := x) t (by simpa using e)
    exact ⟨u, by simpa using h1, h2⟩
theorem Vals.set {x : V} {u : Value} (r : RelV x u) : ∀ {xs : List V} {us : List Value} (i : Nat), Vals xs us → Vals (xs.set i x) (us.set i u)
  | _, _, _, .nil => .nil
  | _, _, 0, .cons _ t => .cons r t
  | _, _, i + 1, .cons q t => .cons q (Vals.set r i t)
theorem Vals.append : ∀ {xs ys : List V} {us ws : List Value}, Vals xs us → Vals ys ws → Vals (xs ++ ys) (us ++ ws)
  | _, _, _, _, .nil, s => s
  | _, _, _, _, .cons r t, s => .cons r (Vals.append t s)
theorem Vals.take : ∀ {xs : List V} {us : List Value} (n : Nat), Vals xs us → Vals (xs.take n) (us.take n)
  | _, _, 0, _ => .nil
  | _, _, _ + 1, .nil => .nil
  | _, _, n + 1, .cons r t => .cons r (Vals.take n t)
theorem Vals.drop : ∀ {xs : List V} {us : List Value} (n : Nat), Vals xs us → Vals (xs.drop n) (us.drop n)
  | _, _, 0, r => r
  | _, _, _ + 1, .nil => .nil
  | _, _, n + 1, .cons _ t => Vals.drop n t
def RelO : Option V → Option Value → Prop
  | some v, some u => RelV v u
  | none, none => True
  | _, _ => False
def KV {κ : Type} : List (κ × V) → List (κ × Value) → Prop := Paired fun (p : κ × V) (q : κ × Value) => p.1 = q.1 ∧ RelV p.2 q.2

/-- a key of a dict (00_mix): an int or a text -/
def kV : Key → V
  | .inl i => .int i
  | .inr x => .str x

/-- what stands at a tracked address -/
inductive HO where
  /-- a list -/
  | lst (xs : List V)
  /-- a tuple (never changes) -/
  | tup (xs : List V)
  /-- a dict whose keys are ints and texts; one whose keys are tuples of ints and texts (the empty one is both) -/
  | dK (kvs : List (Key × V)) | dT (kvs : List (List Key × V))
  /-- a set of ints: its members, its size -/
  | set (S : Int → Bool) (n : Nat)
  /-- an instance of the class at C, its dict at dx, its attributes -/
  | ins (C dx : Addr) (fs : List (Str × V))
  /-- the dict of the instance at x -/
  | own (x : Addr)
  /-- the dict of an exception -/
  | xd (fs : List (Str × V))
  /-- a bound method, f of x -/
  | met (f x : Addr)
  /-- a range object lo, lo + 1, .. below hi -/
  | rng (lo hi : Int)
  /-- a thing that is known to the object (the script; a dict while a loop walks it): read, never written while it is so -/
  | frz (o : Obj) (u : HO)
  /-- a code object's table -/
  | tbl (ps : Array Value)
  /-- any other thing, by what is true of its one object (a def of one's own: SetO a S n := HO.ext fun h => ..) -/
  | ext (φ : Heap → Prop)

abbrev Hp := Addr → Option HO
def upd (H : Hp) (a : Addr) (o : HO) : Hp := fun b => if b = a then some o else H b
theorem upd_same {H : Hp} {a : Addr} {o : HO} : upd H a o a = some o := by unfold upd; rw [if_pos rfl]
theorem upd_ne {H : Hp} {a b : Addr} {o : HO} (h : b ≠ a) : upd H a o b = H b := by unfold upd; rw [if_neg h]
/-- two objects of different content stand apart -/
theorem ne_of {H : Hp} {a b : Addr} {o u : HO} (h : H a = some o) (h' : H b = some u) (d : o ≠ u) : a ≠ b := by
  intro e; subst e; rw [h] at h'; exact d (Option.some.inj h')
theorem ne_of_none {H : Hp} {a b : Addr} {o : HO} (h : H a = some o) (h' : H b = none) : a ≠ b := by
  intro e; subst e; rw [h] at h'; cases h'

section
variable (P : Program) (w : World)
def ObjOk (H : Hp) (h : Heap) (a : Addr) : HO → Prop
  | .lst xs => xs.length ≤ sizeLine ∧ ∃ (its : List Value) (n : Nat), Vals xs its ∧ h.get? a = some { cls := .type "list", data := .seq its.toArray n }
  | .tup xs => xs.length ≤ sizeLine ∧ ∃ its : List Value, Vals xs its ∧ IsTup h a its.toArray
  | .dK kvs => kvs.length ≤ sizeLine ∧ (a == sysModules) = false ∧ ∃ vs, KV kvs vs ∧ h.DictOf (mixKind P w) a vs
  | .dT kvs => kvs.length ≤ sizeLine ∧ (a == sysModules) = false ∧ ∃ xs : List (List Key × Addr × Value),
      Paired (fun (p : List Key × V) (q : List Key × Addr × Value) => p.1 = q.1 ∧ H q.2.1 = some (.tup (p.1.map kV)) ∧ RelV p.2 q.2.2) kvs xs ∧
      ∃ o es ep, h.get? a = some o ∧ o.ExactDict ∧ o.data = .dict es ep ∧ es.toList = xs.map (entryOfKey (tupleKind (mixKind P w))) ∧ (xs.map (·.1)).Nodup
  | .set S n => h.SetOf (intKind P w) a S n
  | .ins C dx fs => H dx = some (.own a) ∧ fs.length ≤ 1000 ∧ dx ≠ a ∧ h.get? a = some (PySem.W.instObj C dx) ∧
      ∃ mA, h.Ns1 dx mA ∧ (∀ f, RelO (fs.lookup f) (mA f)) ∧ PySem.Within mA (fs.map (·.1))
  | .own _ => ∃ o, h.get? a = some o
  | .xd fs => ∃ mA, h.Ns1 a mA ∧ ∀ f, RelO (fs.lookup f) (mA f)
  | .rng lo hi => ∃ t u v, h.get? a = some { cls := .type "range", data := .fields #[.int lo t, .int hi u, .int 1 v] }
  | .frz o u => h.get? a = some o ∧ ObjOk H h a u
  | .tbl ps => h.get? a = some { cls := .none, data := .fields ps }
  | .met f x => h.get? a = some (PySem.W.methodObj (.ref f) (.ref x))
  | .ext φ => φ h ∧ (∃ o, h.get? a = some o) ∧ ∀ h1 h2 : Heap, φ h1 → (∀ o, h1.get? a = some o → h2.get? a = some o) → φ h2
/-- the abstract heap is held -/
def HOk (H : Hp) (h : Heap) : Prop := ∀ a o, H a = some o → ObjOk P w H h a o
end

section
variable {P : Program} {w : World} {H H' : Hp} {h h' : Heap} {a : Addr} {o : HO}
theorem ObjOk.lt (x : ObjOk P w H h a o) : a < h.objs.size := by
  cases o with
  | lst xs => obtain ⟨_, _, _, _, e⟩ := x; exact Heap.lt_size e
  | tup xs => obtain ⟨_, _, _, p⟩ := x; exact p.lt
  | dK kvs => obtain ⟨_, _, _, _, o, _, _, e, _⟩ := x; exact Heap.lt_size e
  | dT kvs => obtain ⟨_, _, _, _, o, _, _, e, _⟩ := x; exact Heap.lt_size e
  | set S n => obtain ⟨o, _, _, _, e, _⟩ := x; exact Heap.lt_size e
  | ins C dx fs => obtain ⟨_, _, _, e, _⟩ := x; exact Heap.lt_size e
  | own y => obtain ⟨_, e⟩ := x; exact Heap.lt_size e
  | xd fs => obtain ⟨_, ⟨_, _, _, e, _⟩, _⟩ := x; exact Heap.lt_size e
  | rng lo hi => obtain ⟨_, _, _, e⟩ := x; exact Heap.lt_size e
  | frz ob u => obtain ⟨e, _⟩ := x; exact Heap.lt_size e
  | tbl ps => exact Heap.lt_size (show h.get? a = some _ from x)
  | met f y => exact Heap.lt_size (show h.get? a = some _ from x)
  | ext φ => obtain ⟨_, ⟨_, e⟩, _⟩ := x; exact Heap.lt_size e
theorem Paired.mapP {α β : Type} {F G : α → β → Prop} : ∀ {l₁ : List α} {l₂ : List β}, Paired F l₁ l₂ → (∀ a b, F a b → G a b) → Paired G l₁ l₂
  | _, _, .nil, _ => .nil
  | _, _, .cons r t, f => .cons (f _ _ r) (Paired.mapP t f)
theorem Paired.imp' {α β : Type} {F G : α → β → Prop} (f : ∀ a b, F a b → G a b) {l₁ : List α} {l₂ : List β} (r : Paired F l₁ l₂) : Paired G l₁ l₂ := Paired.mapP r f
/-- what an object's description leans on: its own object, its own dict, the tuples -/
theorem ObjOk.stay (x : ObjOk P w H h a o) (k : ∀ b u, (b = a ∨ H b = some (.own a)) → h.get? b = some u → h'.get? b = some u)
    (ho : ∀ b, H b = some (.own a) → H' b = some (.own a)) (ht : ∀ b xs, H b = some (.tup xs) → H' b = some (.tup xs)) : ObjOk P w H' h' a o := by
  induction o with
  | lst xs => obtain ⟨z, its, n, r, e⟩ := x; exact ⟨z, its, n, r, k _ _ (.inl rfl) e⟩
  | tup xs => obtain ⟨z, its, r, ob, e, c⟩ := x; exact ⟨z, its, r, ob, k _ _ (.inl rfl) e, c⟩
  | dK kvs => obtain ⟨z, y, vs, r, ob, es, ep, e, c⟩ := x; exact ⟨z, y, vs, r, ob, es, ep, k _ _ (.inl rfl) e, c⟩
  | dT kvs =>
    obtain ⟨z, y, xs, r, ob, es, ep, e, c⟩ := x
    exact ⟨z, y, xs, Paired.mapP r fun p q z => ⟨z.1, ht _ _ z.2.1, z.2.2⟩, ob, es, ep, k _ _ (.inl rfl) e, c⟩
  | set S n => obtain ⟨ob, es, ep, t, e, c⟩ := x; exact ⟨ob, es, ep, t, k _ _ (.inl rfl) e, c⟩
  | ins C dx fs =>
    obtain ⟨d, z, ne, e, mA, ⟨od, es, ep, e2, c⟩, r⟩ := x
    exact ⟨ho _ d, z, ne, k _ _ (.inl rfl) e, mA, ⟨od, es, ep, k _ _ (.inr d) e2, c⟩, r⟩
  | own y => obtain ⟨ob, e⟩ := x; exact ⟨ob, k _ _ (.inl rfl) e⟩
  | xd fs => obtain ⟨mA, ⟨od, es, ep, e, c⟩, r⟩ := x; exact ⟨mA, ⟨od, es, ep, k _ _ (.inl rfl) e, c⟩, r⟩
  | rng lo hi => obtain ⟨t, u, v, e⟩ := x; exact ⟨t, u, v, k _ _ (.inl rfl) e⟩
  | frz ob u ih => obtain ⟨e, q⟩ := x; exact ⟨k _ _ (.inl rfl) e, ih q⟩
  | tbl ps =>
    have e : h.get? a = some { cls := .none, data := .fields ps } := x
    show h'.get? a = some { cls := .none, data := .fields ps }
    exact k a _ (.inl rfl) e
  | met f y =>
    have e : h.get? a = some (PySem.W.methodObj (.ref f) (.ref y)) := x
    show h'.get? a = some (PySem.W.methodObj (.ref f) (.ref y))
    exact k a _ (.inl rfl) e
  | ext φ => obtain ⟨p, ⟨o, e⟩, st⟩ := x; exact ⟨st _ _ p fun o q => k _ _ (.inl rfl) q, ⟨o, k _ _ (.inl rfl) e⟩, st⟩
theorem HOk.lt (x : HOk P w H h) (e : H a = some o) : a < h.objs.size := (x a o e).lt
theorem HOk.fresh (x : HOk P w H h) (e : h.objs.size ≤ a) : H a = none := by
  cases q : H a with
  | none => rfl
  | some u => exact absurd (Nat.lt_of_lt_of_le (x.lt q) e) (Nat.lt_irrefl _)
/-- every object of the heap is kept -/
theorem HOk.kept (x : HOk P w H h) (k : ∀ b u, h.get? b = some u → h'.get? b = some u) : HOk P w H h' := fun a o e =>
  (x a o e).stay (fun b u _ q => k b u q) (fun _ q => q) fun _ _ q => q
/-- a new object is laid and tracked -/
theorem HOk.laid (x : HOk P w H h) (k : ∀ b u, h.get? b = some u → h'.get? b = some u) (hp : h.objs.size ≤ a) (new : ObjOk P w (upd H a o) h' a o) : HOk P w (upd H a o) h' := fun b u e => by
  have hn := x.fresh hp
  by_cases hb : b = a
  · subst hb; rw [upd_same] at e; cases e; exact new
  · rw [upd_ne hb] at e
    exact (x b u e).stay (fun c v _ q => k c v q) (fun c q => by rw [upd_ne (ne_of_none q hn)]; exact q) fun c xs q => by rw [upd_ne (ne_of_none q hn)]; exact q
end

/-- what may be read as u: it is u, or a known u -/
def Rd (H : Hp) (a : Addr) (u : HO) : Prop := H a = some u ∨ ∃ o, H a = some (.frz o u)
theorem Rd.of {H : Hp} {a : Addr} {u : HO} (h : H a = some u) : Rd H a u := .inl h
theorem Rd.ok {P : Program} {w : World} {H : Hp} {h : Heap} {a : Addr} {u : HO} (r : Rd H a u) (x : HOk P w H h) : ObjOk P w H h a u := by
  rcases r with r | ⟨o, r⟩
  · exact x a u r
  · obtain ⟨_, q⟩ := x a _ r
    exact q
/-- what may be written -/
def Mut : Option HO → Prop
  | some (.lst _) => True
  | some (.dK _) => True
  | some (.dT _) => True
  | some (.set _ _) => True
  | some (.ins _ _ _) => True
  | some (.ext _) => True
  | _ => False
section
variable {P : Program} {w : World} {H : Hp} {h h' : Heap} {x e : Addr} {o' : HO}
/-- the object at e is changed: x itself, or the dict of the instance x -/
theorem HOk.write (ok : HOk P w H h) (mu : Mut (H x)) (he : e = x ∨ H e = some (.own x)) (k : ∀ b u, b ≠ e → h.get? b = some u → h'.get? b = some u) (heo : ∃ u, h'.get? e = some u)
    (new : ObjOk P w (upd H x o') h' x o') : HOk P w (upd H x o') h' := fun b u q => by
  have nown : ∀ c y, H c = some (.own y) → c ≠ x := fun c y r z => by subst z; rw [r] at mu; exact mu
  have ntup : ∀ c xs, H c = some (.tup xs) → c ≠ x := fun c xs r z => by subst z; rw [r] at mu; exact mu
  by_cases hb : b = x
  · subst hb; rw [upd_same] at q; cases q; exact new
  · rw [upd_ne hb] at q
    by_cases hbe : b = e
    · have q' : H b = some (.own x) := by
        rcases he with z | z
        · exact absurd (hbe.trans z) hb
        · rw [hbe]; exact z
      rw [q] at q'; cases q'
      obtain ⟨v, hv⟩ := heo
      exact ⟨v, by rw [hbe]; exact hv⟩
    · refine (ok b u q).stay (fun c v hc r => k c v ?_ r) (fun c r => by rw [upd_ne (nown c b r)]; exact r) fun c xs r => by rw [upd_ne (ntup c xs r)]; exact r
      rcases hc with rfl | hc
      · exact hbe
      · rintro rfl
        rcases he with z | z
        · exact nown c b hc z
        · rw [hc] at z; cases z; exact hb rfl
end

/-! ### kept unless tracked; of the frames at fs (the callers') the slots may change (an exception that passes writes there); of the records at ex (iterators) nothing is said -/
structure Un (fs ex : List Addr) (H H' : Hp) (h h' : Heap) : Prop where
  keep : ∀ b o, h.get? b = some o → H b = none → b ∉ fs → b ∉ ex → h'.get? b = some o
  slot : ∀ b o, h.get? b = some o → H b = none → b ∈ fs → b ∉ ex → ∃ sl, h'.get? b = some { o with slots := sl }
  free : ∀ b o, h.get? b = some o → H b = none → b ∉ ex → H' b = none
  there : ∀ b o, h.get? b = some o → b ∉ ex → ∃ o', h'.get? b = some o'
  tups : ∀ b xs, H b = some (.tup xs) → H' b = some (.tup xs)
  frzs : ∀ b o u, H b = some (.frz o u) → H' b = some (.frz o u)
  tbls : ∀ b ps, H b = some (.tbl ps) → ∃ more, H' b = some (.tbl (ps ++ more))
section
variable {fs fs' ex ex' : List Addr} {H H1 H2 : Hp} {h h1 h2 h' : Heap} {a x e : Addr} {o : HO}
theorem Un.any (u : Un fs ex H H1 h h1) {b : Addr} {ob : Obj} (q : h.get? b = some ob) (n : H b = none) (hx : b ∉ ex) : ∃ sl, h1.get? b = some { ob with slots := sl } := by
  by_cases hb : b ∈ fs
  · exact u.slot b ob q n hb hx
  · exact ⟨ob.slots, u.keep b ob q n hb hx⟩
theorem Un.trans (a : Un fs ex H H1 h h1) (b : Un fs ex H1 H2 h1 h2) : Un fs ex H H2 h h2 where
  keep := fun c ob q n hc hx => b.keep c ob (a.keep c ob q n hc hx) (a.free c ob q n hx) hc hx
  slot := fun c ob q n hc hx => by
    obtain ⟨sl, e1⟩ := a.slot c ob q n hc hx
    obtain ⟨sl', e2⟩ := b.slot c _ e1 (a.free c ob q n hx) hc hx
    exact ⟨sl', e2⟩
  free := fun c ob q n hx => by
    obtain ⟨o', e1⟩ := a.there c ob q hx
    exact b.free c o' e1 (a.free c ob q n hx) hx
  there := fun c ob q hx => by
    obtain ⟨o', e1⟩ := a.there c ob q hx
    exact b.there c o' e1 hx
  tups := fun c xs q => b.tups c xs (a.tups c xs q)
  frzs := fun c ob xs q => b.frzs c ob xs (a.frzs c ob xs q)
  tbls := fun c ps q => by
    obtain ⟨m1, e1⟩ := a.tbls c ps q
    obtain ⟨m2, e2⟩ := b.tbls c _ e1
    exact ⟨m1 ++ m2, by rw [e2, Array.append_assoc]⟩
theorem Un.kept (k : ∀ b u, h.get? b = some u → h'.get? b = some u) : Un fs ex H H h h' :=
  ⟨fun b ob q _ _ _ => k b ob q, fun b ob q _ _ _ => ⟨ob.slots, k b ob q⟩, fun _ _ _ n _ => n, fun b ob q _ => ⟨ob, k b ob q⟩, fun _ _ q => q, fun _ _ _ q => q, fun _ ps q => ⟨#[], by rw [q]; simp⟩⟩
theorem Un.refl : Un fs ex H H h h := Un.kept fun _ _ q => q
theorem Un.laid (k : ∀ b u, h.get? b = some u → h'.get? b = some u) (hp : h.objs.size ≤ a) (hn : H a = none) : Un fs ex H (upd H a o) h h' where
  keep := fun b u q _ _ _ => k b u q
  slot := fun b u q _ _ _ => ⟨u.slots, k b u q⟩
  free := fun b u q n _ => by rw [upd_ne (Nat.ne_of_lt (Nat.lt_of_lt_of_le (Heap.lt_size q) hp))]; exact n
  there := fun b u q _ => ⟨u, k b u q⟩
  tups := fun b xs q => by rw [upd_ne (ne_of_none q hn)]; exact q
  frzs := fun b u xs q => by rw [upd_ne (ne_of_none q hn)]; exact q
  tbls := fun b ps q => ⟨#[], by rw [upd_ne (ne_of_none q hn), q]; simp⟩
theorem Un.write (mu : Mut (H x)) (he : e = x ∨ H e = some (.own x)) (k : ∀ b u, b ≠ e → h.get? b = some u → h'.get? b = some u) (heo : ∃ u, h'.get? e = some u) : Un fs ex H (upd H x o) h h' := by
  have hx : ∀ b, H b = none → b ≠ x := fun b n z => by subst z; rw [n] at mu; exact mu
  have hb : ∀ b, H b = none → b ≠ e := fun b n z => by
    subst z
    rcases he with r | r
    · exact hx b n r
    · rw [n] at r; cases r
  have hm : ∀ b u, H b = some u → ¬ Mut (some u) → b ≠ x := fun b u q nm z => by subst z; rw [q] at mu; exact nm mu
  refine ⟨fun b u q n _ _ => k b u (hb b n) q, fun b u q n _ _ => ⟨u.slots, k b u (hb b n) q⟩, fun b u q n _ => by rw [upd_ne (hx b n)]; exact n, fun b u q _ => ?_,
    fun b xs q => by rw [upd_ne (hm b _ q fun z => z)]; exact q, fun b u xs q => by rw [upd_ne (hm b _ q fun z => z)]; exact q, fun b ps q => ⟨#[], by rw [upd_ne (hm b _ q fun z => z), q]; simp⟩⟩
  by_cases hbe : b = e
  · subst hbe; exact heo
  · exact ⟨u, k b u hbe q⟩
theorem Un.mono (u : Un fs ex H H1 h h1) (hs : ∀ b ∈ fs, b ∈ fs') (hx : ∀ b ∈ ex, b ∈ ex') : Un fs' ex' H H1 h h1 :=
  ⟨fun b ob q n hb he => u.keep b ob q n (fun z => hb (hs b z)) fun z => he (hx b z), fun _ _ q n _ he => u.any q n fun z => he (hx _ z), fun b ob q n he => u.free b ob q n fun z => he (hx b z), fun b ob q he => u.there b ob q fun z => he (hx b z), u.tups, u.frzs, u.tbls⟩
end

/-! ### the heap without what is tracked -/
def trk (h : Heap) (H : Hp) : List Addr := (List.range h.objs.size).filter fun a => (H a).isSome
def hidT (h : Heap) (H : Hp) : Heap := PySem.W.hideAll h (trk h H)
theorem hidT_size (h : Heap) (H : Hp) : (hidT h H).objs.size = h.objs.size := PySem.W.hideAll_size _ _
theorem hidT_get {h : Heap} {H : Hp} {b : Addr} {o : Obj} (e : h.get? b = some o) (n : H b = none) : (hidT h H).get? b = some o :=
  PySem.W.hideAll_get _ e fun hm => by
    have q : (H b).isSome = true := (List.mem_filter.mp hm).2
    rw [n] at q; simp at q
theorem of_hidT {h : Heap} {H : Hp} {b : Addr} {o : Obj} (e : (hidT h H).get? b = some o) : h.get? b = some o ∧ H b = none := by
  have e' : h.get? b = some o := PySem.W.of_hideAll (trk h H) e
  refine ⟨e', ?_⟩
  cases q : H b with
  | none => rfl
  | some x =>
    have hm : b ∈ trk h H := List.mem_filter.mpr ⟨List.mem_range.mpr (Heap.lt_size e'), by simp [q]⟩
    have z : (hidT h H).get? b = none := PySem.W.hideAll_none (trk h H) hm
    rw [z] at e; cases e

/-! ### OpenK's ledger, filled with every new object but one -/
def allNews (g h : Heap) (L : Addr) : List (Addr × Obj) := (List.range h.objs.size).filterMap fun a => if a = L ∨ (g.get? a).isSome = true then none else (h.get? a).map fun o => (a, o)
def rest (g h : Heap) (L d : Addr) : List (Addr × Obj) := (allNews g h L).filter fun p => decide (p.1 ≠ d)
end L2

namespace L2
open PySem PySem.Spec PyProof.Rows

/-- the module's facts, over the base: the heap at the law's entry without what is tracked there -/
structure Mod (K : PySem.W.Frag) (mg : Str → Option Value) (base : Heap) : Prop where
  kin : K.In base
  glob : base.Ns mainGlobals mg
  blt : ∃ mb, base.Ns builtinsNs mb ∧ ∀ x : Str, x ≠ "__name__" → mb x = bootBuiltins x
  nolimit : base.NoLimit

/-- the context: a def's body (or a comprehension's block) running. base: fixed through the whole law; s₀, H₀: the entry; outer: the frames whose slots others may change (a def's callers); stack: all frames that run;
   ex: iterators that were made ahead of the entry and are walked here (a comprehension's); fn: the names whose cells were made at the entry (a def: all; a comprehension's block: its own); calm: not within an except suite; pn: pins that every state bears; xe: what is wanted of an exception that leaves the code -/
structure Cx where
  prog : Program
  w : World
  K : PySem.W.Frag
  mg : Str → Option Value
  base : Heap
  A : Around
  N : List Str
  s₀ : Shared
  H₀ : Hp
  env : Env
  outer : List Env
  stack : List Env
  ex : List Addr
  fn : Str → Bool
  calm : Bool
  pn : List (Addr × Obj)
  xe : Value → Shared → Prop
/-- the callers' frames -/
def frs (l : List Env) : List Addr := l.filterMap (·.frame)
abbrev Cx.fs (X : Cx) : List Addr := frs X.outer

def Vis (sc : Scope) (x : Str) : Prop := sc.names.lookup x = some .local ∨ sc.names.lookup x = some .cell ∨ sc.names.lookup x = some .free
def Loc (sc : Scope) (x : Str) : Prop := sc.names.lookup x = some .local ∨ sc.names.lookup x = some .cell
def Look (env : Env) (h : Heap) (m : Str → Option Value) (x : Str) (u : Value) : Prop :=
  (env.kindOf x = some .local ∧ m x = some u) ∨ ((env.kindOf x = some .cell ∨ env.kindOf x = some .free) ∧ ∃ c, env.cells.lookup x = some c ∧ h.IsCell c (some u))

structure Cx.Ok (X : Cx) : Prop where
  mod : Mod X.K X.mg X.base
  kind : X.env.scope.kind = .function
  glob : X.env.globals = mainGlobals
  blt : X.env.builtins = builtinsNs
  above : X.s₀.heap.objs.size ≤ X.env.locals
  inj : ∀ x y c, X.env.cells.lookup x = some c → X.env.cells.lookup y = some c → x = y
  has : ∀ x, (X.env.kindOf x = some .cell ∨ X.env.kindOf x = some .free) → ∃ c, X.env.cells.lookup x = some c
  cab : ∀ x c, X.fn x = true → X.env.cells.lookup x = some c → X.s₀.heap.objs.size ≤ c
  hd : X.calm = true → X.A.handled = none
  frames : X.A.frames = some X.stack
  stk : X.stack = X.outer ∨ (X.stack = X.env :: X.outer ∧ X.env.frame = some X.env.locals)
  exf : ∀ b ∈ X.ex, b ≠ X.env.locals ∧ ∀ x c, X.env.cells.lookup x = some c → c ≠ b
  bs : ∀ b o, X.base.get? b = some o → X.s₀.heap.get? b = some o ∧ X.H₀ b = none
  bsz : X.base.objs.size ≤ X.s₀.heap.objs.size
  noex : ∀ b o, X.base.get? b = some o → b ∉ X.ex
  exfs : ∀ b ∈ X.ex, b ∉ X.fs
  funs : X.s₀.heap.FunFrames X.base X.outer
  frf : ∀ b ∈ X.fs, X.H₀ b = none

structure Inv (X : Cx) (pins : List (Addr × Obj)) (σ : List (Option V)) (H : Hp) (s : Shared) : Prop where
  ok : X.Ok
  os : s.os = X.s₀.os
  bare : AllBare s.gens
  base : Un X.fs X.ex X.H₀ H X.s₀.heap s.heap
  loc : ∃ m, s.heap.Ns X.env.locals m ∧ ∀ (i : Nat) (x : Str) (v : V), X.N[i]? = some x → σ[i]? = some (some v) → Vis X.env.scope x → ∃ u, RelV v u ∧ Look X.env s.heap m x u
  cell : ∀ x c, X.env.cells.lookup x = some c → ∃ v, s.heap.IsCell c v
  free : H X.env.locals = none
  freeC : ∀ x c, X.env.cells.lookup x = some c → H c = none
  pin : ∀ p ∈ X.pn ++ pins, s.heap.get? p.1 = some p.2 ∧ H p.1 = none ∧ p.1 ≠ X.env.locals ∧ p.1 ∉ X.fs ∧ ∀ v, p.2.data ≠ .cell v
  hok : HOk X.prog X.w H s.heap
  len : σ.length = X.N.length

section
variable {X : Cx} {pins : List (Addr × Obj)} {σ : List (Option V)} {H H' : Hp} {s : Shared} {h' : Heap}

theorem Cx.Ok.nofr (ok : X.Ok) {b : Addr} {o : Obj} (e : X.base.get? b = some o) : b ∉ X.fs := fun hb => by
  have := (ok.funs.mem hb).1
  rw [e] at this; cases this
theorem Inv.bs (I : Inv X pins σ H s) : ∀ b o, X.base.get? b = some o → s.heap.get? b = some o ∧ H b = none := fun b o e =>
  ⟨I.base.keep b o (I.ok.bs b o e).1 (I.ok.bs b o e).2 (I.ok.nofr e) (I.ok.noex b o e), I.base.free b o (I.ok.bs b o e).1 (I.ok.bs b o e).2 (I.ok.noex b o e)⟩
theorem Inv.bk (I : Inv X pins σ H s) : ∀ b o, X.base.get? b = some o → s.heap.get? b = some o := fun b o e => (I.bs b o e).1
theorem Inv.mod (I : Inv X pins σ H s) : Mod X.K X.mg X.base := I.ok.mod
theorem Inv.kIn (I : Inv X pins σ H s) : X.K.In s.heap := I.ok.mod.kin.keeps I.bk
theorem Inv.nolimit (I : Inv X pins σ H s) : s.heap.NoLimit := I.ok.mod.nolimit.keeps I.bk
/-- the frame over the base: for OpenK's rules (K.In X.base is I.mod.kin) -/
theorem Inv.fr (I : Inv X pins σ H s) : ∃ m, Fr X.base X.env.locals s.heap m :=
  let ⟨m, hn, _⟩ := I.loc
  ⟨m, hn, I.bk, Nat.le_trans I.ok.bsz I.ok.above⟩
theorem Inv.lt (I : Inv X pins σ H s) : X.env.locals < s.heap.objs.size := let ⟨_, hn, _⟩ := I.loc; hn.lt
theorem Inv.sz (I : Inv X pins σ H s) : X.s₀.heap.objs.size ≤ s.heap.objs.size := Nat.le_trans I.ok.above (Nat.le_of_lt I.lt)
theorem Inv.nofs (I : Inv X pins σ H s) {a : Addr} (h : s.heap.objs.size ≤ a) : a ∉ X.fs := fun hb => by
  obtain ⟨_, o, ho, _⟩ := I.ok.funs.mem hb
  exact absurd (Nat.lt_of_lt_of_le (Heap.lt_size ho) (Nat.le_trans I.sz h)) (Nat.lt_irrefl _)
theorem Inv.cne (I : Inv X pins σ H s) : ∀ x c, X.env.cells.lookup x = some c → c ≠ X.env.locals := fun x c e z => by
  obtain ⟨v, o, ho, hd⟩ := I.cell x c e
  obtain ⟨m, ⟨o', es, ep, ho', hd', _⟩, _⟩ := I.loc
  rw [z, ho'] at ho; cases ho; rw [hd'] at hd; cases hd
theorem Inv.funs (I : Inv X pins σ H s) : s.heap.FunFrames X.base X.outer := by
  have all : ∀ (l : List Env), (∀ b ∈ frs l, b ∈ X.fs) → X.s₀.heap.FunFrames X.base l → s.heap.FunFrames X.base l := by
    intro l
    induction l with
    | nil => intro _ _; trivial
    | cons env r ih =>
      intro hs hl
      obtain ⟨hk, ⟨L, o, hf, hn, ho, hd⟩, hr⟩ := hl
      have hL : L ∈ X.fs := hs L (by unfold frs; rw [List.filterMap_cons, hf]; exact List.mem_cons_self)
      obtain ⟨sl, e⟩ := I.base.slot L o ho (I.ok.frf L hL) hL fun z => I.ok.exfs L z hL
      exact ⟨hk, ⟨L, _, hf, hn, e, hd⟩, ih (fun b hb => hs b (by unfold frs; rw [List.filterMap_cons, hf]; exact List.mem_cons_of_mem _ hb)) hr⟩
  exact all X.outer (fun _ hb => hb) I.ok.funs

/-- the frames that run, for a call -/
theorem Inv.stack (I : Inv X pins σ H s) : s.heap.FunFrames X.base X.stack := by
  rcases I.ok.stk with e | ⟨e, hf⟩
  · rw [e]; exact I.funs
  · rw [e]
    obtain ⟨m, hn, _⟩ := I.loc
    refine .cons (by rw [I.ok.kind]; decide) hf hn ?_ I.funs
    exact Heap.get?_none_of_le (Nat.le_trans I.ok.bsz I.ok.above)
theorem Inv.stkSub (I : Inv X pins σ H s) : ∀ b ∈ frs X.stack, b ∈ X.env.locals :: X.fs := fun b hb => by
  rcases I.ok.stk with e | ⟨e, hf⟩
  · rw [e] at hb; exact List.mem_cons_of_mem _ hb
  · rw [e] at hb
    unfold frs at hb
    rw [List.filterMap_cons, hf] at hb
    exact hb
theorem Inv.stkFree (I : Inv X pins σ H s) : ∀ b ∈ frs X.stack, H b = none := fun b hb => by
  rcases List.mem_cons.mp (I.stkSub b hb) with e | hb
  · rw [e]; exact I.free
  · obtain ⟨_, o, ho, _⟩ := I.ok.funs.mem hb
    exact I.base.free b o ho (I.ok.frf b hb) fun z => I.ok.exfs b z hb

/-- THE STEP: the untracked objects but the frame and the records at ch are kept (the callers' frames up to slots), the frame's map is kept, the new abstract heap is held -/
theorem Inv.step {g' : Array GenState} {t' : Nat} {d' : Drawn} {ch : List Addr} (I : Inv X pins σ H s)
    (hch : ∀ b ∈ ch, (b ∈ X.ex ∨ X.s₀.heap.objs.size ≤ b) ∧ b ≠ X.env.locals ∧ (∀ x c, X.env.cells.lookup x = some c → c ≠ b) ∧ ∀ p ∈ X.pn ++ pins, p.1 ≠ b)
    (keep : ∀ b o, b ≠ X.env.locals → b ∉ X.fs → b ∉ ch → s.heap.get? b = some o → H b = none → h'.get? b = some o)
    (slot : ∀ b o, b ≠ X.env.locals → b ∈ X.fs → b ∉ ch → s.heap.get? b = some o → H b = none → ∃ sl, h'.get? b = some { o with slots := sl }) (free : ∀ b o, b ∉ ch → s.heap.get? b = some o → H b = none → H' b = none)
    (there : ∀ b o, b ∉ ch → s.heap.get? b = some o → ∃ o', h'.get? b = some o')
    (tups : ∀ b xs, H b = some (.tup xs) → H' b = some (.tup xs)) (frzs : ∀ b o u, H b = some (.frz o u) → H' b = some (.frz o u)) (tbls : ∀ b ps, H b = some (.tbl ps) → ∃ more, H' b = some (.tbl (ps ++ more)))
    (ns : ∀ m, s.heap.Ns X.env.locals m → h'.Ns X.env.locals m) (hok : HOk X.prog X.w H' h') (hg : AllBare g') :
    Inv X pins σ H' { s with heap := h', gens := g', drawn := d', toks := t' } := by
  have neL : ∀ b o, X.s₀.heap.get? b = some o → b ≠ X.env.locals := fun b o e => Nat.ne_of_lt (Nat.lt_of_lt_of_le (Heap.lt_size e) I.ok.above)
  have neC : ∀ b o, X.s₀.heap.get? b = some o → b ∉ X.ex → b ∉ ch := fun b o e hx hb => by
    rcases (hch b hb).1 with z | z
    · exact hx z
    · exact absurd (Nat.lt_of_lt_of_le (Heap.lt_size e) z) (Nat.lt_irrefl _)
  have cellK : ∀ x c, X.env.cells.lookup x = some c → ∀ v, s.heap.IsCell c v → h'.IsCell c v := fun x c e v ⟨o, ho, hd⟩ => by
    have nch : c ∉ ch := fun z => (hch c z).2.2.1 x c e rfl
    by_cases hc : c ∈ X.fs
    · obtain ⟨sl, q⟩ := slot c o (I.cne x c e) hc nch ho (I.freeC x c e)
      exact ⟨_, q, hd⟩
    · exact ⟨o, keep c o (I.cne x c e) hc nch ho (I.freeC x c e), hd⟩
  refine ⟨I.ok, I.os, hg, ⟨fun b o e n hb hx => ?_, fun b o e n hb hx => ?_, fun b o e n hx => ?_, fun b o e hx => ?_, fun b xs e => tups b xs (I.base.tups b xs e), fun b o xs e => frzs b o xs (I.base.frzs b o xs e), fun b ps e => ?_⟩, ?_, fun x c e => ?_, ?_, fun x c e => ?_, fun p hp => ?_, hok, I.len⟩
  · exact keep b o (neL b o e) hb (neC b o e hx) (I.base.keep b o e n hb hx) (I.base.free b o e n hx)
  · obtain ⟨sl, e1⟩ := I.base.slot b o e n hb hx
    obtain ⟨sl', e2⟩ := slot b _ (neL b o e) hb (neC b o e hx) e1 (I.base.free b o e n hx)
    exact ⟨sl', e2⟩
  · obtain ⟨o', e1⟩ := I.base.there b o e hx
    exact free b o' (neC b o e hx) e1 (I.base.free b o e n hx)
  · obtain ⟨o', e1⟩ := I.base.there b o e hx
    exact there b o' (neC b o e hx) e1
  · obtain ⟨m1, e1⟩ := I.base.tbls b ps e
    obtain ⟨m2, e2⟩ := tbls b _ e1
    exact ⟨m1 ++ m2, by rw [e2, Array.append_assoc]⟩
  · obtain ⟨m, hn, hl⟩ := I.loc
    refine ⟨m, ns m hn, fun i x v e1 e2 e3 => ?_⟩
    obtain ⟨u, r, l⟩ := hl i x v e1 e2 e3
    refine ⟨u, r, ?_⟩
    rcases l with l | ⟨k, c, e, z⟩
    · exact .inl l
    · exact .inr ⟨k, c, e, cellK x c e _ z⟩
  · obtain ⟨v, z⟩ := I.cell x c e
    exact ⟨v, cellK x c e v z⟩
  · obtain ⟨m, ⟨o, _, _, ho, _⟩, _⟩ := I.loc
    exact free _ o (fun z => (hch _ z).2.1 rfl) ho I.free
  · obtain ⟨v, o, ho, hd⟩ := I.cell x c e
    exact free c o (fun z => (hch c z).2.2.1 x c e rfl) ho (I.freeC x c e)
  · obtain ⟨e, n, ne, nf, d⟩ := I.pin p hp
    have nch : p.1 ∉ ch := fun z => (hch p.1 z).2.2.2 p hp rfl
    exact ⟨keep p.1 p.2 ne nf nch e n, free p.1 p.2 nch e n, ne, nf, d⟩
/-- .. where the frame's own object is kept too -/
theorem Inv.un {t' : Nat} (I : Inv X pins σ H s) (u : Un X.fs [] H H' s.heap h') (hok : HOk X.prog X.w H' h') : Inv X pins σ H' { s with heap := h', toks := t' } := by
  obtain ⟨m, ⟨o, es, ep, ho, r⟩, _⟩ := id I.loc
  obtain ⟨sl, hL⟩ := u.any ho I.free (by simp)
  exact I.step (g' := s.gens) (d' := s.drawn) (ch := []) (fun _ z => nomatch z) (fun b o _ hb _ e n => u.keep b o e n hb (by simp)) (fun b o _ hb _ e n => u.slot b o e n hb (by simp)) (fun b o _ e n => u.free b o e n (by simp)) (fun b o _ e => u.there b o e (by simp)) u.tups u.frzs u.tbls (fun m' hm => by
    obtain ⟨o', es', ep', ho', r'⟩ := hm
    rw [ho] at ho'; cases ho'
    exact ⟨_, es', ep', hL, r'⟩) hok I.bare
/-- behind a call (or a comprehension's block): the slots of this frame may have changed too, the records at ch may have turned -/
theorem Inv.call {g' : Array GenState} {t' : Nat} {d' : Drawn} {ch : List Addr} (I : Inv X pins σ H s) (u : Un (frs X.stack) ch H H' s.heap h') (hok : HOk X.prog X.w H' h') (hg : AllBare g')
    (hch : ∀ b ∈ ch, (b ∈ X.ex ∨ X.s₀.heap.objs.size ≤ b) ∧ b ≠ X.env.locals ∧ (∀ x c, X.env.cells.lookup x = some c → c ≠ b) ∧ ∀ p ∈ X.pn ++ pins, p.1 ≠ b) :
    Inv X pins σ H' { s with heap := h', gens := g', drawn := d', toks := t' } := by
  obtain ⟨m, ⟨o, es, ep, ho, r⟩, _⟩ := id I.loc
  obtain ⟨sl, hL⟩ := u.any ho I.free fun z => (hch _ z).2.1 rfl
  exact I.step (ch := ch) hch (fun b o hL hb hc e n => u.keep b o e n (fun z => (List.mem_cons.mp (I.stkSub b z)).elim hL hb) hc) (fun b o _ _ hc e n => u.any e n hc) (fun b o hc e n => u.free b o e n hc) (fun b o hc e => u.there b o e hc) u.tups u.frzs u.tbls (fun m' hm => by
    obtain ⟨o', es', ep', ho', r'⟩ := hm
    rw [ho] at ho'; cases ho'
    exact ⟨_, es', ep', hL, r'⟩) hok hg
/-- an untracked record of ours (an iterator) has turned -/
theorem Inv.turned {t' : Nat} {it : Addr} (I : Inv X pins σ H s) (k : ∀ b o, b ≠ it → s.heap.get? b = some o → h'.get? b = some o) (hn : H it = none) (hL : it ≠ X.env.locals)
    (h1 : it ∈ X.ex ∨ X.s₀.heap.objs.size ≤ it) (h2 : ∀ x c, X.env.cells.lookup x = some c → c ≠ it) (h3 : ∀ p ∈ X.pn ++ pins, p.1 ≠ it) : Inv X pins σ H { s with heap := h', toks := t' } := by
  have nit : ∀ b u, H b = some u → b ≠ it := fun b u e z => by rw [z, hn] at e; cases e
  refine I.step (g' := s.gens) (d' := s.drawn) (ch := [it]) (fun b hb => ?_) (fun b o _ _ hc e _ => k b o (fun z => hc (by simp [z])) e) (fun b o _ _ hc e _ => ⟨o.slots, k b o (fun z => hc (by simp [z])) e⟩) (fun _ _ _ _ n => n)
    (fun b o hc e => ⟨o, k b o (fun z => hc (by simp [z])) e⟩) (fun _ _ e => e) (fun _ _ _ e => e) (fun b ps e => ⟨#[], by rw [e]; simp⟩) (fun m hm => ?_) (fun b u e => ?_) I.bare
  · have e : b = it := by simpa using hb
    subst e
    exact ⟨h1, hL, h2, h3⟩
  · obtain ⟨o, es, ep, ho, r⟩ := hm
    exact ⟨o, es, ep, k _ o (Ne.symm hL) ho, r⟩
  · refine (I.hok b u e).stay (fun c v hc q => k c v ?_ q) (fun _ q => q) fun _ _ q => q
    rcases hc with z | z
    · rw [z]; exact nit b u e
    · exact nit c _ z
theorem Inv.tok (I : Inv X pins σ H s) (t : Nat) : Inv X pins σ H { s with toks := t } := I.un (h' := s.heap) (t' := t) Un.refl I.hok
/-- all objects kept -/
theorem Inv.kept {t' : Nat} (I : Inv X pins σ H s) (k : ∀ b u, s.heap.get? b = some u → h'.get? b = some u) : Inv X pins σ H { s with heap := h', toks := t' } := I.un (Un.kept k) (I.hok.kept k)
/-- a new object laid and tracked -/
theorem Inv.laid {a : Addr} {o : HO} {t' : Nat} (I : Inv X pins σ H s) (k : ∀ b u, s.heap.get? b = some u → h'.get? b = some u) (hp : s.heap.objs.size ≤ a) (new : ObjOk X.prog X.w (upd H a o) h' a o) :
    Inv X pins σ (upd H a o) { s with heap := h', toks := t' } := I.un (Un.laid k hp (I.hok.fresh hp)) (I.hok.laid k hp new)
/-- an object written -/
theorem Inv.write {x e : Addr} {o : HO} {t' : Nat} (I : Inv X pins σ H s) (mu : Mut (H x)) (he : e = x ∨ H e = some (.own x)) (k : ∀ b u, b ≠ e → s.heap.get? b = some u → h'.get? b = some u) (heo : ∃ u, h'.get? e = some u)
    (new : ObjOk X.prog X.w (upd H x o) h' x o) : Inv X pins σ (upd H x o) { s with heap := h', toks := t' } := I.un (Un.write mu he k heo) (I.hok.write mu he k heo new)
/-- forgetting slots, pins -/
theorem Inv.weak {σ' : List (Option V)} (I : Inv X pins σ H s) (hl : σ'.length = σ.length) (w : ∀ (i : Nat) v, σ'[i]? = some (some v) → σ[i]? = some (some v)) : Inv X pins σ' H s :=
  ⟨I.ok, I.os, I.bare, I.base, let ⟨m, hn, hl'⟩ := I.loc; ⟨m, hn, fun i x v e1 e2 e3 => hl' i x v e1 (w i v e2) e3⟩, I.cell, I.free, I.freeC, I.pin, I.hok, hl.trans I.len⟩
theorem Inv.pins_of {pins' : List (Addr × Obj)} (I : Inv X pins σ H s) (h : ∀ p ∈ pins', s.heap.get? p.1 = some p.2 ∧ H p.1 = none ∧ p.1 ≠ X.env.locals ∧ p.1 ∉ X.fs ∧ ∀ v, p.2.data ≠ .cell v) : Inv X pins' σ H s :=
  ⟨I.ok, I.os, I.bare, I.base, I.loc, I.cell, I.free, I.freeC, fun p hp => (List.mem_append.mp hp).elim (fun z => I.pin p (List.mem_append_left _ z)) (h p), I.hok, I.len⟩

theorem nodup_ix {N : List Str} (hN : N.Nodup) {i j : Nat} {x : Str} (a : N[i]? = some x) (b : N[j]? = some x) : i = j := by
  obtain ⟨h1, e1⟩ := List.getElem?_eq_some_iff.mp a
  obtain ⟨h2, e2⟩ := List.getElem?_eq_some_iff.mp b
  exact (List.getElem_inj hN).mp (e1.trans e2.symm)

/-- a name is stored; what changed -/
theorem store_ok2 {M : Model} {A : Around} {E : Value → Shared → Prop} {i : Nat} {x : Str} {v : V} {u : Value} {Q : Unit → Shared → Prop} (I : Inv X pins σ H s) (hN : X.N.Nodup) (hi : X.N[i]? = some x) (hx : Loc X.env.scope x) (r : RelV v u)
    (h : ∀ s', Inv X pins (σ.set i (some v)) H s' → (∃ a, Heap.SameBut a s.heap s'.heap ∧ (a = X.env.locals ∨ X.env.cells.lookup x = some a)) → Q () s') (hf : X.fn x = true ∨ X.env.scope.names.lookup x = some .local := by first | exact .inl rfl | exact .inr rfl | assumption) : wpAny M A (storeName X.env x u) Q E s := by
  obtain ⟨m, hn, hl⟩ := id I.loc
  have hcls : (X.env.scope.kind == .class || (X.env.scope.kind == .module && X.env.locals != X.env.globals)) = false := by rw [I.ok.kind]; rfl
  have hiσ : i < σ.length := by rw [I.len]; exact (List.getElem?_eq_some_iff.mp hi).1
  have cne := I.cne
  have tracked : ∀ {a : Addr} {h' : Heap}, (∃ o, s.heap.get? a = some o ∧ H a = none) → Heap.SameBut a s.heap h' → HOk X.prog X.w H h' := fun {a h'} ha hs b ob e => by
    obtain ⟨_, _, hfree⟩ := ha
    refine (I.hok b ob e).stay (fun c w' hc q => (hs.2 c ?_).trans q) (fun _ q => q) fun _ _ q => q
    rintro rfl
    rcases hc with rfl | hc
    · rw [hfree] at e; cases e
    · rw [hfree] at hc; cases hc
  rcases hx with hk | hk
  · refine wpAny_storeName_local hk hn (fun h' hn' hs => ?_) hcls
    obtain ⟨oL, _, _, hoL, _⟩ := id hn
    refine h _ ⟨I.ok, I.os, I.bare, ⟨fun b o e n hb hx => ?_, fun b o e n hb hx => ?_, I.base.free, fun b o e hx => ?_, I.base.tups, I.base.frzs, I.base.tbls⟩, ⟨_, hn', fun j y v' e1 e2 e3 => ?_⟩, fun y c e => ?_, I.free, I.freeC, fun p hp => ?_, tracked ⟨oL, hoL, I.free⟩ hs, by simpa using I.len⟩ ⟨_, hs, .inl rfl⟩
    · exact (hs.2 b (Nat.ne_of_lt (Nat.lt_of_lt_of_le (Heap.lt_size e) I.ok.above))).trans (I.base.keep b o e n hb hx)
    · obtain ⟨sl, e1⟩ := I.base.slot b o e n hb hx
      exact ⟨sl, (hs.2 b (Nat.ne_of_lt (Nat.lt_of_lt_of_le (Heap.lt_size e) I.ok.above))).trans e1⟩
    · obtain ⟨o', e1⟩ := I.base.there b o e hx
      exact ⟨o', (hs.2 b (Nat.ne_of_lt (Nat.lt_of_lt_of_le (Heap.lt_size e) I.ok.above))).trans e1⟩
    · by_cases hj : j = i
      · subst hj
        rw [hi] at e1; cases e1
        rw [List.getElem?_set_self hiσ] at e2
        cases e2
        exact ⟨u, r, .inl ⟨hk, by simp⟩⟩
      · rw [List.getElem?_set_ne (Ne.symm hj)] at e2
        obtain ⟨u', r', q⟩ := hl j y v' e1 e2 e3
        refine ⟨u', r', ?_⟩
        rcases q with ⟨k, e⟩ | ⟨k, c, e, z⟩
        · refine .inl ⟨k, ?_⟩
          have : y ≠ x := fun e => hj (nodup_ix hN e1 (e ▸ hi))
          simp [this, e]
        · exact .inr ⟨k, c, e, z.sameBut hs (cne y c e)⟩
    · obtain ⟨w', z⟩ := I.cell y c e
      exact ⟨w', z.sameBut hs (cne y c e)⟩
    · obtain ⟨e, n, ne, nf, d⟩ := I.pin p hp
      exact ⟨(hs.2 p.1 ne).trans e, n, ne, nf, d⟩
  · have hfn : X.fn x = true := by
      rcases hf with z | z
      · exact z
      · rw [z] at hk; cases hk
    obtain ⟨c, hc⟩ := I.ok.has x (.inl hk)
    obtain ⟨w', z⟩ := I.cell x c hc
    refine wpAny_storeName_cell I.ok.kind hk hc z (fun h' hc' hs => ?_)
    obtain ⟨oc, hoc, hocd⟩ := id z
    refine h { s with heap := h' } ⟨I.ok, I.os, I.bare, ⟨fun b o e n hb hx => ?_, fun b o e n hb hx => ?_, I.base.free, fun b o e hx => ?_, I.base.tups, I.base.frzs, I.base.tbls⟩, ⟨m, hn.sameBut hs (Ne.symm (cne x c hc)), fun j y v' e1 e2 e3 => ?_⟩, fun y c' e => ?_, I.free, I.freeC, fun p hp => ?_, tracked ⟨oc, hoc, I.freeC x c hc⟩ hs, by simpa using I.len⟩ ⟨c, hs, .inr hc⟩
    · exact (hs.2 b (Nat.ne_of_lt (Nat.lt_of_lt_of_le (Heap.lt_size e) (I.ok.cab x c hfn hc)))).trans (I.base.keep b o e n hb hx)
    · obtain ⟨sl, e1⟩ := I.base.slot b o e n hb hx
      exact ⟨sl, (hs.2 b (Nat.ne_of_lt (Nat.lt_of_lt_of_le (Heap.lt_size e) (I.ok.cab x c hfn hc)))).trans e1⟩
    · obtain ⟨o', e1⟩ := I.base.there b o e hx
      exact ⟨o', (hs.2 b (Nat.ne_of_lt (Nat.lt_of_lt_of_le (Heap.lt_size e) (I.ok.cab x c hfn hc)))).trans e1⟩
    · by_cases hj : j = i
      · subst hj
        rw [hi] at e1; cases e1
        rw [List.getElem?_set_self hiσ] at e2
        cases e2
        exact ⟨u, r, .inr ⟨.inl hk, c, hc, hc'⟩⟩
      · rw [List.getElem?_set_ne (Ne.symm hj)] at e2
        obtain ⟨u', r', q⟩ := hl j y v' e1 e2 e3
        refine ⟨u', r', ?_⟩
        rcases q with q | ⟨k, c', e, z'⟩
        · exact .inl q
        · refine .inr ⟨k, c', e, z'.sameBut hs ?_⟩
          rintro rfl
          exact hj (nodup_ix hN e1 (I.ok.inj _ _ _ e hc ▸ hi))
    · by_cases hcc : c' = c
      · subst hcc; exact ⟨_, hc'⟩
      · obtain ⟨w2, z2⟩ := I.cell y c' e
        exact ⟨w2, z2.sameBut hs hcc⟩
    · obtain ⟨e, n, ne, nf, d⟩ := I.pin p hp
      refine ⟨(hs.2 p.1 ?_).trans e, n, ne, nf, d⟩
      intro q
      rw [q, hoc] at e
      have q' : oc = p.2 := Option.some.inj e
      exact d w' (by rw [← q']; exact hocd)
theorem store_ok {M : Model} {A : Around} {E : Value → Shared → Prop} {i : Nat} {x : Str} {v : V} {u : Value} {Q : Unit → Shared → Prop} (I : Inv X pins σ H s) (hN : X.N.Nodup) (hi : X.N[i]? = some x) (hx : Loc X.env.scope x) (r : RelV v u)
    (h : ∀ s', Inv X pins (σ.set i (some v)) H s' → Q () s') (hf : X.fn x = true ∨ X.env.scope.names.lookup x = some .local := by first | exact .inl rfl | exact .inr rfl | assumption) : wpAny M A (storeName X.env x u) Q E s :=
  store_ok2 I hN hi hx r (fun s' I' _ => h s' I') hf
/-- behind a call or a block, the state as it is -/
theorem Inv.call' {s' : Shared} {ch : List Addr} (I : Inv X pins σ H s) (ho : s'.os = s.os) (u : Un (frs X.stack) ch H H' s.heap s'.heap) (hok : HOk X.prog X.w H' s'.heap) (hg : AllBare s'.gens)
    (hch : ∀ b ∈ ch, (b ∈ X.ex ∨ X.s₀.heap.objs.size ≤ b) ∧ b ≠ X.env.locals ∧ (∀ x c, X.env.cells.lookup x = some c → c ≠ b) ∧ ∀ p ∈ X.pn ++ pins, p.1 ≠ b) : Inv X pins σ H' s' := by
  obtain ⟨h', g', d', t', o'⟩ := s'
  have e : o' = s.os := ho
  subst e
  exact I.call (g' := g') (t' := t') (d' := d') u hok hg hch
end

/-! ### the judgements -/
/-- an exception: its class, its own dict's address (where it has one), the abstract heap behind it -/
abbrev XK := Value → Option Addr → Hp → Prop
abbrev St := List (Option V)
abbrev VK := V → Hp → Prop
/-- an expression's reading; a test's; an argument list's -/
abbrev TE := St → Hp → VK → Prop
abbrev TT := St → Hp → (Bool → Hp → Prop) → Prop
abbrev TA := St → Hp → (List V → Hp → Prop) → Prop
/-- what is wanted behind a statement -/
structure Ends where
  nx : St → Hp → Prop
  rt : VK
  bk : St → Hp → Prop := fun _ _ => False
  ct : St → Hp → Prop := fun _ _ => False
abbrev TS := Ends → St → Hp → Prop

def EP (X : Cx) (pins : List (Addr × Obj)) (σ : St) (Q : VK) (u : Value) (s' : Shared) : Prop := ∃ v H', Inv X pins σ H' s' ∧ RelV v u ∧ Q v H'
def TP (X : Cx) (pins : List (Addr × Obj)) (σ : St) (Q : Bool → Hp → Prop) (b : Bool) (s' : Shared) : Prop := ∃ H', Inv X pins σ H' s' ∧ Q b H'
def AP (X : Cx) (pins : List (Addr × Obj)) (σ : St) (Q : List V → Hp → Prop) (us : List Value) (s' : Shared) : Prop := ∃ vs H', Inv X pins σ H' s' ∧ Vals vs us ∧ Q vs H'
def SP (X : Cx) (pins : List (Addr × Obj)) (D : Ends) (f : Flow) (s' : Shared) : Prop :=
  match f with
  | .next => ∃ σ' H', Inv X pins σ' H' s' ∧ D.nx σ' H'
  | .brk => ∃ σ' H', Inv X pins σ' H' s' ∧ D.bk σ' H'
  | .cont => ∃ σ' H', Inv X pins σ' H' s' ∧ D.ct σ' H'
  | .ret u => ∃ v σ' H', Inv X pins σ' H' s' ∧ RelV v u ∧ D.rt v H'

def PE (X : Cx) (e : Expr) (t : TE) : Prop :=
  ∀ (pins : List (Addr × Obj)) (s : Shared) (σ : St) (H : Hp) (Q : VK), Inv X pins σ H s → t σ H Q → wpAny (model X.prog X.w) X.A (eval e X.env) (EP X pins σ Q) X.xe s
def PT (X : Cx) (e : Expr) (t : TT) : Prop :=
  ∀ (pins : List (Addr × Obj)) (s : Shared) (σ : St) (H : Hp) (Q : Bool → Hp → Prop), Inv X pins σ H s → t σ H Q → wpAny (model X.prog X.w) X.A (isTrue e X.env (eval e X.env)) (TP X pins σ Q) X.xe s
/-- a test whatever its 'whole' is (and, or) -/
def PW (X : Cx) (e : Expr) (t : TT) : Prop :=
  ∀ (whole : Sem Value) (pins : List (Addr × Obj)) (s : Shared) (σ : St) (H : Hp) (Q : Bool → Hp → Prop), Inv X pins σ H s → t σ H Q → wpAny (model X.prog X.w) X.A (isTrue e X.env whole) (TP X pins σ Q) X.xe s
theorem PW.pt {X : Cx} {e : Expr} {t : TT} (h : PW X e t) : PT X e t := h _
/-- an argument list (no star), from the left -/
def PA (X : Cx) (es : List Expr) (t : TA) : Prop :=
  ∀ (pos : Pos) (pins : List (Addr × Obj)) (s : Shared) (σ : St) (H : Hp) (Q : List V → Hp → Prop), Inv X pins σ H s → t σ H Q → wpAny (model X.prog X.w) X.A (spliced (backTo pos (starEach es X.env))) (AP X pins σ Q) X.xe s
def PS (X : Cx) (st : Stmt) (t : TS) : Prop :=
  ∀ (pins : List (Addr × Obj)) (s : Shared) (σ : St) (H : Hp) (D : Ends), Inv X pins σ H s → t D σ H → wpAny (model X.prog X.w) X.A (exec st X.env) (SP X pins D) X.xe s
def PSs (X : Cx) (st : List Stmt) (t : TS) : Prop :=
  ∀ (pins : List (Addr × Obj)) (s : Shared) (σ : St) (H : Hp) (D : Ends), Inv X pins σ H s → t D σ H → wpAny (model X.prog X.w) X.A (execs st X.env) (SP X pins D) X.xe s
/-- weaken the end -/
theorem thn {α : Type} {t : Sem α} {Q Q' : α → Shared → Prop} {M : Model} {A : Around} {E : Value → Shared → Prop} {s : Shared} (h : wpAny M A t Q E s) (hQ : ∀ a s, Q a s → Q' a s) : wpAny M A t Q' E s := wpAny_mono h hQ fun _ _ x => x
end L2

namespace L2
open PySem PySem.Spec PyProof.Rows
section
variable {X : Cx}

/-! ### names and constants -/
def tVar (i : Nat) : TE := fun σ H Q => ∃ v, σ[i]? = some (some v) ∧ Q v H
def tC (v : V) : TE := fun _ H Q => Q v H
theorem pe_var {i : Nat} {x : Str} {pos : Pos} (hN : X.N[i]? = some x) (hv : Vis X.env.scope x) (hd : (x == ("__debug__" : Str)) = false := by decide) (hcd : (x == ("__classdict__" : Str)) = false := by decide) : PE X (.Name x pos) (tVar i) := by
  intro pins s σ H Q I h
  obtain ⟨v, e, h⟩ := h
  obtain ⟨m, hn, hl⟩ := I.loc
  obtain ⟨u, r, l⟩ := hl i x v hN e hv
  have fin : EP X pins σ Q u s := ⟨v, H, I, r, h⟩
  rcases l with ⟨hk, hm⟩ | ⟨hk, c, hc, hcell⟩
  · exact wpAny_Name (wpAny_loadName_local I.ok.kind hk hn hm fin) hd
  · rcases hk with hk | hk
    · exact wpAny_Name (wpAny_loadName_cell I.ok.kind hk hc hcell fin) hd
    · exact wpAny_Name (wpAny_loadName_free I.ok.kind hk hc hcell fin hcd) hd
theorem pe_int {i j pos} : PE X (.Constant (.int i) j pos) (tC (.int i)) := fun _ _ _ H _ I h => wpAny_Constant_int ⟨.int i, H, I.tok _, ⟨_, rfl⟩, h⟩
theorem pe_bl {b j pos} : PE X (.Constant (.bool b) j pos) (tC (.bl b)) := fun _ _ _ H _ I h => Constant_bool ⟨.bl b, H, I, rfl, h⟩
theorem pe_str {x j pos} : PE X (.Constant (.str x) j pos) (tC (.str x)) := fun _ _ _ H _ I h => Calls.Constant_str ⟨.str x, H, I.tok _, ⟨_, rfl⟩, h⟩

/-- a global name of the def -/
def Gl (X : Cx) (x : Str) : Prop := X.env.kindOf x = some .globalImplicit
theorem ld_glob {E : Value → Shared → Prop} {pins : List (Addr × Obj)} {s : Shared} {σ : St} {H : Hp} {x : Str} {u : Value} {pos : Pos} {Q : Value → Shared → Prop} (I : Inv X pins σ H s) (hg : Gl X x) (hm : X.mg x = some u) (h : Q u s)
    (hd : (x == ("__debug__" : Str)) = false := by decide) : wpAny (model X.prog X.w) X.A (eval (.Name x pos) X.env) Q E s :=
  Calls.Name_function_global I.ok.kind hg (Calls.loadGlobal_global (by rw [I.ok.glob]; exact I.mod.glob.keeps I.bk) hm h) hd
theorem ld_blt {E : Value → Shared → Prop} {pins : List (Addr × Obj)} {s : Shared} {σ : St} {H : Hp} {x : Str} {u : Value} {pos : Pos} {Q : Value → Shared → Prop} (I : Inv X pins σ H s) (hg : Gl X x) (hm : X.mg x = none) (hv : bootBuiltins x = some u) (h : Q u s)
    (hn : x ≠ "__name__" := by decide) (hd : (x == ("__debug__" : Str)) = false := by decide) : wpAny (model X.prog X.w) X.A (eval (.Name x pos) X.env) Q E s := by
  obtain ⟨mb, h1, h2⟩ := I.mod.blt
  exact Calls.Name_function_global I.ok.kind hg (Calls.loadGlobal_builtin (by rw [I.ok.glob]; exact I.mod.glob.keeps I.bk) hm (by rw [I.ok.blt]; exact h1.keeps I.bk) ((h2 x hn).trans hv) h) hd
/-- a module's constant, a class, a function, as a value -/
theorem pe_glob {x : Str} {v : V} {u : Value} {pos : Pos} (hg : Gl X x) (hm : X.mg x = some u) (r : RelV v u) (hd : (x == ("__debug__" : Str)) = false := by decide) : PE X (.Name x pos) (tC v) :=
  fun _ _ _ H _ I h => ld_glob I hg hm ⟨v, H, I, r, h⟩ hd
theorem pe_bltn {x : Str} {v : V} {u : Value} {pos : Pos} (hg : Gl X x) (hm : X.mg x = none) (hv : bootBuiltins x = some u) (r : RelV v u) (hn : x ≠ "__name__" := by decide) (hd : (x == ("__debug__" : Str)) = false := by decide) : PE X (.Name x pos) (tC v) :=
  fun _ _ _ H _ I h => ld_blt I hg hm hv ⟨v, H, I, r, h⟩ hn hd

/-! ### arithmetic -/
/-- two ints -/
def t2I (ta tb : TE) (k : Int → Int → Hp → Prop) : St → Hp → Prop := fun σ H => ta σ H fun x H1 => tb σ H1 fun y H2 => ∃ i j, x = .int i ∧ y = .int j ∧ k i j H2
def tAdd (ta tb : TE) : TE := fun σ H Q => t2I ta tb (fun i j H2 => Q (.int (i + j)) H2) σ H
def tSub (ta tb : TE) : TE := fun σ H Q => t2I ta tb (fun i j H2 => Q (.int (i - j)) H2) σ H
/-- the left factor below 2^64 -/
def tMul (ta tb : TE) : TE := fun σ H Q => t2I ta tb (fun i j H2 => (-(2 ^ 64) < i ∧ i < 2 ^ 64) ∧ Q (.int (i * j)) H2) σ H
variable {a b : Expr} {ta tb : TE} {pos : Pos}
/-! ### comparisons -/
def PC (X : Cx) (op : CmpOp) (a b : Expr) (t : TE) : Prop :=
  ∀ (pins : List (Addr × Obj)) (s : Shared) (σ : St) (H : Hp) (Q : VK), Inv X pins σ H s → t σ H Q →
    wpAny (model X.prog X.w) X.A (eval a X.env) (fun v s₁ => wpAny (model X.prog X.w) X.A (eval b X.env) (fun u s₂ => wpAny (model X.prog X.w) X.A (compareOp op v u) (EP X pins σ Q) X.xe s₂) X.xe s₁) X.xe s
def tCmp (p : Int → Int → Bool) (ta tb : TE) : TE := fun σ H Q => t2I ta tb (fun i j H2 => Q (.bl (p i j)) H2) σ H
abbrev tLt : TE → TE → TE := tCmp fun i j => decide (i < j)
abbrev tLe : TE → TE → TE := tCmp fun i j => decide (i ≤ j)
abbrev tGt : TE → TE → TE := tCmp fun i j => decide (j < i)
abbrev tGe : TE → TE → TE := tCmp fun i j => decide (j ≤ i)
abbrev tEqI : TE → TE → TE := tCmp fun i j => decide (i = j)
abbrev tNeI : TE → TE → TE := tCmp fun i j => !decide (i = j)
/-- is None -/
def tIsN (ta : TE) : TE := fun σ H Q => ta σ H fun x H1 => Q (.bl (decide (x = .non))) H1
def tNotN (ta : TE) : TE := fun σ H Q => ta σ H fun x H1 => Q (.bl (!decide (x = .non))) H1
/-- a comparison as a value, as a test -/
def tB (t : TE) : TT := fun σ H Q => t σ H fun x H1 => ∃ c, x = .bl c ∧ Q c H1
/-- an expression whose value is a bool, as a test -/
theorem pt_val {e : Expr} {t : TE} (h : PE X e t) (he : ∀ whole, isTrue e X.env whole = (do let v ← whole; standAt e.pos; holding [v] (truthy v)) := by intro _; rfl) : PT X e (tB t) := by
  intro pins s σ H Q I hw
  refine isTrue_plain (thn (h pins s σ H _ I hw) fun v s1 ⟨x, H1, I1, r1, q1⟩ => ?_) (he _)
  obtain ⟨d, rfl, q⟩ := q1
  cases r1
  exact wpAny_truthy_bool ⟨H1, I1, q⟩

/-! ### and, or, not -/
variable {tA tB' : TT} {rest : List Expr}
def tAnd (t u : TT) : TT := fun σ H Q => t σ H fun c H1 => if c = true then u σ H1 Q else Q false H1
def tOr (t u : TT) : TT := fun σ H Q => t σ H fun c H1 => if c = true then Q true H1 else u σ H1 Q
def tNot (t : TT) : TT := fun σ H Q => t σ H fun c H1 => Q (!c) H1
theorem pw_and1 (ha : PT X a tA) : PW X (.BoolOp .And [a] pos) tA := by
  intro wh pins s σ H Q I h
  refine isTrue_and (thn (ha pins s σ H Q I h) fun c s1 e => ?_)
  cases c with
  | true => exact isTrue_and_nil e
  | false => exact e
theorem pw_or1 (ha : PT X a tA) : PW X (.BoolOp .Or [a] pos) tA := by
  intro wh pins s σ H Q I h
  refine isTrue_or (thn (ha pins s σ H Q I h) fun c s1 e => ?_)
  cases c with
  | false => exact isTrue_or_nil e
  | true => exact e
theorem pw_and (ha : PT X a tA) (hb : PW X (.BoolOp .And (b :: rest) pos) tB') : PW X (.BoolOp .And (a :: b :: rest) pos) (tAnd tA tB') := by
  intro wh pins s σ H Q I h
  refine isTrue_and (thn (ha pins s σ H _ I h) fun c s1 ⟨H1, I1, q1⟩ => ?_)
  cases c with
  | true => exact hb wh pins s1 σ H1 Q I1 q1
  | false => exact ⟨H1, I1, q1⟩
theorem pw_or (ha : PT X a tA) (hb : PW X (.BoolOp .Or (b :: rest) pos) tB') : PW X (.BoolOp .Or (a :: b :: rest) pos) (tOr tA tB') := by
  intro wh pins s σ H Q I h
  refine isTrue_or (thn (ha pins s σ H _ I h) fun c s1 ⟨H1, I1, q1⟩ => ?_)
  cases c with
  | true => exact ⟨H1, I1, q1⟩
  | false => exact hb wh pins s1 σ H1 Q I1 q1
theorem pt_not (ha : PT X a tA) : PT X (.UnaryOp .Not a pos) (tNot tA) := by
  intro pins s σ H Q I h
  exact isTrue_not (ha pins s σ H (fun c H1 => Q (!c) H1) I h)
/-- .. as values (bools) -/
def tAndV (ta tb : TE) : TE := fun σ H Q => ta σ H fun x H1 => ∃ c, x = .bl c ∧ if c = true then tb σ H1 Q else Q (.bl false) H1
def tOrV (ta tb : TE) : TE := fun σ H Q => ta σ H fun x H1 => ∃ c, x = .bl c ∧ if c = true then Q (.bl true) H1 else tb σ H1 Q
def tNotV (ta : TE) : TE := fun σ H Q => ta σ H fun x H1 => ∃ c, x = .bl c ∧ Q (.bl (!c)) H1
theorem pe_one {op} {t : TE} (h : PE X a t) : PE X (.BoolOp op [a] pos) t := fun pins s σ H Q I hw => BoolOp_one (h pins s σ H Q I hw)
theorem pe_and (ha : PE X a ta) (hb : PE X (.BoolOp .And (b :: rest) pos) tb) : PE X (.BoolOp .And (a :: b :: rest) pos) (tAndV ta tb) := by
  intro pins s σ H Q I h
  refine BoolOp_and (thn (ha pins s σ H _ I h) fun v s1 ⟨x, H1, I1, r1, q1⟩ => ?_)
  obtain ⟨c, rfl, q1⟩ := q1
  cases r1
  refine wpAny_truthy_bool ?_
  cases c with
  | true => exact hb pins s1 σ H1 Q I1 q1
  | false => exact ⟨.bl false, H1, I1, rfl, q1⟩
theorem pe_or (ha : PE X a ta) (hb : PE X (.BoolOp .Or (b :: rest) pos) tb) : PE X (.BoolOp .Or (a :: b :: rest) pos) (tOrV ta tb) := by
  intro pins s σ H Q I h
  refine BoolOp_or (thn (ha pins s σ H _ I h) fun v s1 ⟨x, H1, I1, r1, q1⟩ => ?_)
  obtain ⟨c, rfl, q1⟩ := q1
  cases r1
  refine wpAny_truthy_bool ?_
  cases c with
  | false => exact hb pins s1 σ H1 Q I1 q1
  | true => exact ⟨.bl true, H1, I1, rfl, q1⟩
/-- a if t else b -/
def tIf (t : TT) (ta tb : TE) : TE := fun σ H Q => t σ H fun c H1 => if c = true then ta σ H1 Q else tb σ H1 Q
theorem pe_ifExp {c : Expr} (hc : PT X c tA) (ha : PE X a ta) (hb : PE X b tb) : PE X (.IfExp c a b pos) (tIf tA ta tb) := by
  intro pins s σ H Q I h
  refine wpAny_IfExp (thn (hc pins s σ H _ I h) fun d s1 ⟨H1, I1, q1⟩ => ?_)
  cases d with
  | true => exact ha pins s1 σ H1 Q I1 q1
  | false => exact hb pins s1 σ H1 Q I1 q1
end
end L2

namespace L2
open PySem PySem.Spec PyProof.Rows

/-! ### a list, a tuple that is read: tracked, frozen, or an object of the module -/
def SqL (K : PySem.W.Frag) (H : Hp) (a : Addr) (xs : List V) : Prop :=
  Rd H a (.lst xs) ∨
    ∃ (o : Obj) (its : Array Value) (n : Nat), K.lookup a = some o ∧ o.cls = .type "list" ∧ o.dict = none ∧ o.data = .seq its n ∧ its.size ≤ sizeLine ∧ Vals xs its.toList
def SqT (K : PySem.W.Frag) (H : Hp) (a : Addr) (xs : List V) : Prop :=
  Rd H a (.tup xs) ∨
    ∃ (o : Obj) (its : Array Value) (n : Nat), K.lookup a = some o ∧ o.cls = .type "tuple" ∧ o.data = .seq its n ∧ its.size ≤ sizeLine ∧ Vals xs its.toList
def absV : Value → Option V
  | .none => some .non
  | .bool b => some (.bl b)
  | .int i _ => some (.int i)
  | .str x _ => some (.str x)
  | .bytes b _ => some (.byt b)
  | .float b _ => some (.flt b)
  | .ref a => some (.ref a)
  | .type n => some (.ty n)
  | _ => none
theorem RelV.abs {x : V} {u : Value} (r : RelV x u) : absV u = some x := by
  cases x with
  | non => cases r; rfl
  | bl _ => cases r; rfl
  | int _ => obtain ⟨t, rfl⟩ := r; rfl
  | str _ => obtain ⟨t, rfl⟩ := r; rfl
  | byt _ => obtain ⟨t, rfl⟩ := r; rfl
  | flt _ => obtain ⟨t, rfl⟩ := r; rfl
  | ref _ => cases r; rfl
  | ty _ => cases r; rfl
theorem RelV.inj {x y : V} {u : Value} (r : RelV x u) (q : RelV y u) : x = y := Option.some.inj (r.abs.symm.trans q.abs)
theorem Vals.inj : ∀ {xs ys : List V} {us : List Value}, Vals xs us → Vals ys us → xs = ys
  | _, _, _, .nil, .nil => rfl
  | _, _, _, .cons r t, .cons r' t' => by rw [r.inj r', Vals.inj t t']
section
variable {X : Cx} {pins : List (Addr × Obj)} {σ : St} {H : Hp} {s : Shared} {a : Addr} {xs ys : List V}
theorem SqL.of {K : PySem.W.Frag} (h : H a = some (.lst xs)) : SqL K H a xs := .inl (.inl h)
theorem SqT.of {K : PySem.W.Frag} (h : H a = some (.tup xs)) : SqT K H a xs := .inl (.inl h)
theorem Inv.list (I : Inv X pins σ H s) (h : SqL X.K H a xs) : ∃ its : List Value, Vals xs its ∧ PlainL s.heap a its.toArray ∧ xs.length ≤ sizeLine := by
  rcases h with h | ⟨o, its, n, hk, hc, hd, hs, hz, r⟩
  · obtain ⟨z, its, n, r, e⟩ := h.ok I.hok
    exact ⟨its, r, ⟨_, n, e, rfl, rfl, rfl⟩, z⟩
  · refine ⟨its.toList, r, ⟨o, n, I.kIn a o hk, hc, hd, by simpa using hs⟩, ?_⟩
    have e := r.length
    simp only [Array.length_toList] at e
    omega
theorem Inv.tuple (I : Inv X pins σ H s) (h : SqT X.K H a xs) : ∃ its : List Value, Vals xs its ∧ IsTup s.heap a its.toArray ∧ xs.length ≤ sizeLine := by
  rcases h with h | ⟨o, its, n, hk, hc, hs, hz, r⟩
  · obtain ⟨z, its, r, p⟩ := h.ok I.hok
    exact ⟨its, r, p, z⟩
  · refine ⟨its.toList, r, ⟨o, I.kIn a o hk, hc, n, by simpa using hs⟩, ?_⟩
    have e := r.length
    simp only [Array.length_toList] at e
    omega
theorem Inv.list_inj (I : Inv X pins σ H s) (h : SqL X.K H a xs) (h' : SqL X.K H a ys) : xs = ys := by
  obtain ⟨its, r, ⟨o, n, e, _, _, d⟩, _⟩ := I.list h
  obtain ⟨its', r', ⟨o', n', e', _, _, d'⟩, _⟩ := I.list h'
  rw [e] at e'; cases e'
  rw [d] at d'
  injection d' with d1 _
  have : its = its' := by simpa using congrArg Array.toList d1
  subst this
  exact r.inj r'
theorem Inv.tuple_inj (I : Inv X pins σ H s) (h : SqT X.K H a xs) (h' : SqT X.K H a ys) : xs = ys := by
  obtain ⟨its, r, ⟨o, e, _, n, d⟩, _⟩ := I.tuple h
  obtain ⟨its', r', ⟨o', e', _, n', d'⟩, _⟩ := I.tuple h'
  rw [e] at e'; cases e'
  rw [d] at d'
  injection d' with d1 _
  have : its = its' := by simpa using congrArg Array.toList d1
  subst this
  exact r.inj r'
end

/-! ### another wish about exceptions -/
abbrev Cx.wish (X : Cx) (E : Value → Shared → Prop) : Cx := { X with xe := E }
/-- no exception leaves -/
abbrev Cx.nox (X : Cx) : Cx := X.wish fun _ _ => False
theorem Cx.Ok.wish {X : Cx} (ok : X.Ok) (E : Value → Shared → Prop) : (X.wish E).Ok :=
  ⟨ok.mod, ok.kind, ok.glob, ok.blt, ok.above, ok.inj, ok.has, ok.cab, ok.hd, ok.frames, ok.stk, ok.exf, ok.bs, ok.bsz, ok.noex, ok.exfs, ok.funs, ok.frf⟩
theorem Cx.Ok.unwish {X : Cx} {E : Value → Shared → Prop} (ok : (X.wish E).Ok) : X.Ok :=
  ⟨ok.mod, ok.kind, ok.glob, ok.blt, ok.above, ok.inj, ok.has, ok.cab, ok.hd, ok.frames, ok.stk, ok.exf, ok.bs, ok.bsz, ok.noex, ok.exfs, ok.funs, ok.frf⟩
section
variable {X : Cx} {pins : List (Addr × Obj)} {σ : St} {H : Hp} {s : Shared} {E : Value → Shared → Prop}
theorem Inv.wish (I : Inv X pins σ H s) (E : Value → Shared → Prop) : Inv (X.wish E) pins σ H s := ⟨I.ok.wish E, I.os, I.bare, I.base, I.loc, I.cell, I.free, I.freeC, I.pin, I.hok, I.len⟩
theorem Inv.unwish (I : Inv (X.wish E) pins σ H s) : Inv X pins σ H s := ⟨I.ok.unwish, I.os, I.bare, I.base, I.loc, I.cell, I.free, I.freeC, I.pin, I.hok, I.len⟩
theorem SP.unwish {D : Ends} {f : Flow} {s' : Shared} (h : SP (X.wish E) pins D f s') : SP X pins D f s' := by
  cases f with
  | next => obtain ⟨σ', H', I, q⟩ := h; exact ⟨σ', H', I.unwish, q⟩
  | brk => obtain ⟨σ', H', I, q⟩ := h; exact ⟨σ', H', I.unwish, q⟩
  | cont => obtain ⟨σ', H', I, q⟩ := h; exact ⟨σ', H', I.unwish, q⟩
  | ret u => obtain ⟨v, σ', H', I, r, q⟩ := h; exact ⟨v, σ', H', I.unwish, r, q⟩
theorem PE.nox {e : Expr} {t : TE} (h : PE X.nox e t) : PE X e t := fun pins s σ H Q I hw =>
  wpAny_mono (h pins s σ H Q (I.wish _) hw) (fun _ _ ⟨v, H', I', r, q⟩ => ⟨v, H', I'.unwish, r, q⟩) fun _ _ z => False.elim z
theorem PT.nox {e : Expr} {t : TT} (h : PT X.nox e t) : PT X e t := fun pins s σ H Q I hw =>
  wpAny_mono (h pins s σ H Q (I.wish _) hw) (fun _ _ ⟨H', I', q⟩ => ⟨H', I'.unwish, q⟩) fun _ _ z => False.elim z
theorem PSs.nox {st : List Stmt} {t : TS} (h : PSs X.nox st t) : PSs X st t := fun pins s σ H D I hw =>
  wpAny_mono (h pins s σ H D (I.wish _) hw) (fun _ _ q => q.unwish) fun _ _ z => False.elim z
end

/-! ### blocks and small statements -/
section
variable {X : Cx} {st : Stmt} {rest : List Stmt} {t u : TS} {e : Expr} {te : TE} {pos : Pos}
def tNext : TS := fun D σ H => D.nx σ H
def tSeq (t u : TS) : TS := fun D σ H => t { D with nx := u D } σ H
theorem pss_nil : PSs X [] tNext := fun _ _ σ H _ I h => wpAny_execs_nil ⟨σ, H, I, h⟩
theorem pss_cons (h1 : PS X st t) (h2 : PSs X rest u) : PSs X (st :: rest) (tSeq t u) := by
  intro pins s σ H D I h
  refine wpAny_execs_cons (thn (h1 pins s σ H { D with nx := u D } I h) fun f s1 q => ?_)
  cases f with
  | next =>
    obtain ⟨σ', H', I', q⟩ := q
    exact h2 pins s1 σ' H' D I' q
  | ret v => exact q
  | brk => exact q
  | cont => exact q
theorem pss_one (h1 : PS X st t) : PSs X [st] t := by
  intro pins s σ H D I h
  refine wpAny_execs_cons (thn (h1 pins s σ H D I h) fun f s1 q => ?_)
  cases f with
  | next => exact wpAny_execs_nil q
  | ret v => exact q
  | brk => exact q
  | cont => exact q
def tBreak : TS := fun D σ H => D.bk σ H
def tCont : TS := fun D σ H => D.ct σ H
/-- in a def's body nothing is shown -/
theorem Inv.quiet {pins : List (Addr × Obj)} {σ : St} {H : Hp} {s : Shared} (I : Inv X pins σ H s) : interactive X.env = false := by simp [interactive, I.ok.kind]
/-- an expression whose value is dropped -/
def tDrop (te : TE) : TS := fun D σ H => te σ H fun _ H1 => D.nx σ H1
theorem ps_expr (he : PE X e te) (hs : swapsWith e none pos.line X.env = pure false := by rfl) : PS X (.Expr e pos) (tDrop te) := by
  intro pins s σ H D I h
  exact wpAny_Expr_any (thn (he pins s σ H _ I h) fun v s1 ⟨x, H1, I1, r1, q1⟩ => ⟨σ, H1, I1, q1⟩) I.quiet hs
def tRet (te : TE) : TS := fun D σ H => te σ H D.rt
theorem ps_ret (he : PE X e te) : PS X (.Return (some e) pos) (tRet te) := by
  intro pins s σ H D I h
  exact wpAny_Return_some (thn (he pins s σ H _ I h) fun v s1 ⟨x, H1, I1, r1, q1⟩ => ⟨x, σ, H1, I1, r1, q1⟩)
def tRetN : TS := fun D _ H => D.rt .non H
def tIfS (c : TT) (t u : TS) : TS := fun D σ H => c σ H fun b H1 => if b = true then t D σ H1 else u D σ H1
theorem ps_if {c : Expr} {a b : List Stmt} {tc : TT} (hc : PT X c tc) (ha : PSs X a t) (hb : PSs X b u) : PS X (.If c a b pos) (tIfS tc t u) := by
  intro pins s σ H D I h
  refine wpAny_If (thn (hc pins s σ H _ I h) fun d s1 ⟨H1, I1, q1⟩ => ?_)
  cases d with
  | true => exact ha pins s1 σ H1 D I1 q1
  | false => exact hb pins s1 σ H1 D I1 q1
/-- code that the proof never comes to -/
def tNever : TS := fun _ _ _ => False
end

/-! ### targets -/
abbrev TG := V → St → Hp → (St → Hp → Prop) → Prop
abbrev TGs := List V → St → Hp → (St → Hp → Prop) → Prop
def PG (X : Cx) (target : Expr) (t : TG) : Prop :=
  ∀ (pins : List (Addr × Obj)) (s : Shared) (σ : St) (H : Hp) (v : V) (u : Value) (Q : St → Hp → Prop), Inv X pins σ H s → RelV v u → t v σ H Q →
    wpAny (model X.prog X.w) X.A (assign target X.env u) (fun _ s' => ∃ σ' H', Inv X pins σ' H' s' ∧ Q σ' H') X.xe s
/-- several targets, one after another -/
def PGs (X : Cx) (ts : List Expr) (t : TGs) : Prop :=
  ∀ (pins : List (Addr × Obj)) (s : Shared) (σ : St) (H : Hp) (vs : List V) (us : List Value) (Q : St → Hp → Prop), Inv X pins σ H s → Vals vs us → t vs σ H Q →
    wpAny (model X.prog X.w) X.A (assignInOrder ((assignEach ts X.env).map (·.2)) us) (fun _ s' => ∃ σ' H', Inv X pins σ' H' s' ∧ Q σ' H') X.xe s
/-- o[i] = v, by values -/
abbrev TSet := V → V → V → Hp → (Hp → Prop) → Prop
def PSet (X : Cx) (t : TSet) : Prop :=
  ∀ (pins : List (Addr × Obj)) (s : Shared) (σ : St) (H : Hp) (o i v : V) (ov iv u : Value) (Q : Hp → Prop), Inv X pins σ H s → RelV o ov → RelV i iv → RelV v u → t o i v H Q →
    wpAny (model X.prog X.w) X.A (setItem ov iv u) (fun _ s' => ∃ H', Inv X pins σ H' s' ∧ Q H') X.xe s
/-- a op= b, by values -/
abbrev TIp := V → V → Hp → VK → Prop
def PIp (X : Cx) (op : Operator) (t : TIp) : Prop :=
  ∀ (pins : List (Addr × Obj)) (s : Shared) (σ : St) (H : Hp) (x y : V) (v u : Value) (Q : VK), Inv X pins σ H s → RelV x v → RelV y u → t x y H Q →
    wpAny (model X.prog X.w) X.A (inplaceOp op v u) (EP X pins σ Q) X.xe s
section
variable {X : Cx} {pos : Pos}
def gName (i : Nat) : TG := fun v σ H Q => Q (σ.set i (some v)) H
theorem pg_name {i : Nat} {x : Str} (hN : X.N.Nodup) (hi : X.N[i]? = some x) (hx : Loc X.env.scope x) (hf : X.fn x = true ∨ X.env.scope.names.lookup x = some .local := by first | exact .inl rfl | exact .inr rfl | assumption) : PG X (.Name x pos) (gName i) := by
  intro pins s σ H v u Q I r h
  exact wpAny_assign_Name (store_ok I hN hi hx r (fun s' I' => ⟨_, H, I', h⟩) hf)
def gNil : TGs := fun vs σ H Q => vs = [] ∧ Q σ H
def gCons (t : TG) (u : TGs) : TGs := fun vs σ H Q => ∃ v r, vs = v :: r ∧ t v σ H fun σ' H' => u r σ' H' Q
theorem pgs_nil : PGs X [] gNil := by
  intro pins s σ H vs us Q I r h
  obtain ⟨e, h⟩ := h
  subst e
  cases r
  exact assignInOrder_nil ⟨σ, H, I, h⟩
theorem pgs_cons {e : Expr} {es : List Expr} {t : TG} {u : TGs} (h1 : PG X e t) (h2 : PGs X es u)
    (hs : (assignEach (e :: es) X.env).map (·.2) = assign e X.env :: (assignEach es X.env).map (·.2) := by rfl) : PGs X (e :: es) (gCons t u) := by
  intro pins s σ H vs us Q I r h
  obtain ⟨v, vr, e1, h⟩ := h
  subst e1
  cases r with
  | cons r rr =>
    rw [hs]
    refine assignInOrder_cons (thn (h1 pins s σ H _ _ _ I r h) fun _ s1 ⟨σ1, H1, I1, q1⟩ => ?_)
    exact h2 pins s1 σ1 H1 _ _ Q I1 rr q1
/-- (a, b, ..) = a tuple of that length -/
def gTup (K : PySem.W.Frag) (n : Nat) (t : TGs) : TG := fun v σ H Q => ∃ a xs, v = .ref a ∧ SqT K H a xs ∧ xs.length = n ∧ t xs σ H Q
theorem pg_tup {es : List Expr} {k : Nat} {t : TGs} {n : Nat} (hc : X.calm = true) (h : PGs X es t)
    (hn : (assignEach es X.env).length = n := by rfl) (hst : (assignEach es X.env).findIdx? (·.1) = none := by rfl) : PG X (.Tuple es k pos) (gTup X.K n t) := by
  intro pins s σ H v u Q I r hw
  obtain ⟨a, xs, e1, hq, hl, hw⟩ := hw
  subst e1
  cases r
  obtain ⟨its, rv, ht, hz⟩ := I.tuple hq
  refine assign_Tuple_tuple (I.ok.hd hc) ht (by simp [hn, ← hl, rv.length]) hst fun h' hx => ?_
  have I1 : Inv X pins σ H { s with heap := h' } := I.kept (t' := s.toks) fun b o e => hx b o (Nat.ne_of_lt (Heap.lt_size e)) e
  exact h pins _ σ H xs _ Q I1 (by simpa using rv) hw
/-- o[i] = .. -/
def gSub (to ti : TE) (t : TSet) : TG := fun v σ H Q => to σ H fun o H1 => ti σ H1 fun i H2 => t o i v H2 fun H3 => Q σ H3
theorem pg_sub {o i : Expr} {to ti : TE} {t : TSet} (ho : PE X o to) (hi : PE X i ti) (hs : PSet X t)
    (ha : ∀ v, assign (.Subscript o i pos) X.env v = (do
      let ov ← holding [v] (eval o X.env)
      let iv ← holding [v, ov] (eval i X.env)
      standAt pos
      holding [v, ov, iv] (setItem ov iv v)
      release [v, ov, iv] []) := by intro _; rfl) : PG X (.Subscript o i pos) (gSub to ti t) := by
  intro pins s σ H v u Q I r h
  rw [ha]
  refine wpAny_bind (wpAny_holding (thn (ho pins s σ H _ I h) fun ov s1 ⟨x, H1, I1, r1, q1⟩ => ?_))
  refine wpAny_bind (wpAny_holding (thn (hi pins s1 σ H1 _ I1 q1) fun iv s2 ⟨y, H2, I2, r2, q2⟩ => ?_))
  refine wpAny_bind (wpAny_standAt (wpAny_bind (wpAny_holding (thn (hs pins s2 σ H2 x y v ov iv u _ I2 r1 r2 r q2) fun _ s3 ⟨H3, I3, q3⟩ => ?_))))
  exact wpAny_release ⟨σ, H3, I3, q3⟩
/-- target = value -/
def tAsg (te : TE) (g : TG) : TS := fun D σ H => te σ H fun x H1 => g x σ H1 D.nx
theorem ps_asg {tg e : Expr} {te : TE} {g : TG} (he : PE X e te) (hg : PG X tg g) (hs : swapsWithSole [tg] e pos.line X.env = pure false := by rfl) (hw : swappedStores [tg] e X.env = pure none := by rfl)
    (h1 : (assignEach [tg] X.env).map (·.2) = [assign tg X.env] := by rfl) : PS X (.Assign [tg] e pos) (tAsg te g) := by
  intro pins s σ H D I h
  refine wpAny_Assign_stores (thn (he pins s σ H _ I h) fun v s1 ⟨x, H1, I1, r1, q1⟩ => ?_) hs hw
  rw [h1]
  exact thn (hg pins s1 σ H1 x v _ I1 r1 q1) fun _ s2 q => q
/-- name = value -/
theorem ps_set {i : Nat} {x : Str} {e : Expr} {te : TE} {pos' : Pos} (hN : X.N.Nodup) (hi : X.N[i]? = some x) (hx : Loc X.env.scope x) (he : PE X e te) (hs : swapsWith e (some (.Name x pos')) pos.line X.env = pure false := by rfl) (hf : X.fn x = true ∨ X.env.scope.names.lookup x = some .local := by first | exact .inl rfl | exact .inr rfl | assumption) :
    PS X (.Assign [.Name x pos'] e pos) (tAsg te (gName i)) := by
  intro pins s σ H D I h
  refine wpAny_Assign_Name (thn (he pins s σ H _ I h) fun v s1 ⟨y, H1, I1, r1, q1⟩ => ?_) hs
  exact store_ok I1 hN hi hx r1 (fun s2 I2 => ⟨_, H1, I2, q1⟩) hf
/-- a, b = x, y with plain local names: stored from the right; the pair itself is not tracked (the opening rows as in PyProof/Rows/TupAssign.lean:23) -/
def tPar (i j : Nat) (ta : TA) : TS := fun D σ H => ta σ H fun vs H1 => ∃ v w, vs = [v, w] ∧ D.nx ((σ.set i (some v)).set j (some w)) H1
/-- name op= e -/
def tAug (i : Nat) (te : TE) (ti : TIp) : TS := fun D σ H => ∃ x, σ[i]? = some (some x) ∧ te σ H fun y H1 => ti x y H1 fun z H2 => D.nx (σ.set i (some z)) H2
/-- o[i] op= e -/
def tAugS (to ti te : TE) (tget : V → V → Hp → VK → Prop) (tip : TIp) (tset : TSet) : TS := fun D σ H => to σ H fun o H1 => ti σ H1 fun i H2 => tget o i H2 fun x H3 => te σ H3 fun y H4 => tip x y H4 fun z H5 => tset o i z H5 fun H6 => D.nx σ H6
/-- o[i], by values -/
def PGet (X : Cx) (t : V → V → Hp → VK → Prop) : Prop :=
  ∀ (pins : List (Addr × Obj)) (s : Shared) (σ : St) (H : Hp) (o i : V) (ov iv : Value) (Q : VK), Inv X pins σ H s → RelV o ov → RelV i iv → t o i H Q →
    wpAny (model X.prog X.w) X.A (getItem ov iv) (EP X pins σ Q) X.xe s
/-- ints -/
def ipI (f : Int → Int → Int) : TIp := fun x y H Q => ∃ i j, x = .int i ∧ y = .int j ∧ Q (.int (f i j)) H
end

/-! ### while -/
section
variable {X : Cx} {pos : Pos}
/-- the invariant W with its measure -/
def tWhile (c : TT) (tb : TS) : TS := fun D σ H => ∃ W : Nat → St → Hp → Prop, (∃ m, W m σ H) ∧ ∀ m σ H, W m σ H →
  c σ H fun b H1 => if b = true then ∃ N : St → Hp → Prop, (∀ σ' H', N σ' H' → ∃ m', m' < m ∧ W m' σ' H') ∧ tb { D with nx := N, ct := N, bk := D.nx } σ H1 else D.nx σ H1
theorem ps_while {c : Expr} {body : List Stmt} {tc : TT} {tb : TS} (hp : PassesOwn (model X.prog X.w) X.A X.env X.xe) (hc : PT X c tc) (hb : PSs X body tb) : PS X (.While c body [] pos) (tWhile tc tb) := by
  intro pins s σ H D I h
  obtain ⟨W, ⟨m0, w0⟩, turn⟩ := h
  refine wpAny_While (codeAny_whileLoop (fun n s' => ∃ σ' H', Inv X pins σ' H' s' ∧ W n σ' H') ?_ m0 ⟨σ, H, I, w0⟩)
  rintro n s1 ⟨σ1, H1, I1, w1⟩
  refine wpAny_passesOwn hp (thn (hc pins s1 σ1 H1 _ I1 (turn n σ1 H1 w1)) fun b s2 ⟨H2, I2, q2⟩ => ?_)
  cases b with
  | true =>
    obtain ⟨N, hN, q2⟩ := q2
    rw [if_pos rfl]
    refine wpAny_passesOwn hp (thn (hb pins s2 σ1 H2 _ I2 q2) fun f s3 q3 => ?_)
    cases f with
    | next =>
      obtain ⟨σ3, H3, I3, n3⟩ := q3
      obtain ⟨m', hm, w3⟩ := hN σ3 H3 n3
      exact ⟨m', hm, σ3, H3, I3, w3⟩
    | cont =>
      obtain ⟨σ3, H3, I3, n3⟩ := q3
      obtain ⟨m', hm, w3⟩ := hN σ3 H3 n3
      exact ⟨m', hm, σ3, H3, I3, w3⟩
    | brk => exact q3
    | ret v => exact q3
  | false =>
    rw [if_neg Bool.false_ne_true]
    exact wpAny_execs_nil ⟨σ1, H2, I2, q2⟩
end

/-! ### what a loop or a comprehension walks -/
/-- at turn i: it yields x (the heap may grow), or it stops -/
structure It where
  go : Nat → Hp → Prop
  yld : Nat → Hp → V → Hp → Prop
  stop : Nat → Hp → Prop
/-- the iterator's own objects may turn: they are not the frame's, not pinned, younger than the entry (or a comprehension's own) -/
def FpOk (X : Cx) (pins : List (Addr × Obj)) (H : Hp) (b : Addr) : Prop :=
  H b = none ∧ b ≠ X.env.locals ∧ b ∉ X.fs ∧ (b ∈ X.ex ∨ X.s₀.heap.objs.size ≤ b) ∧ (∀ x c, X.env.cells.lookup x = some c → c ≠ b) ∧ ∀ p ∈ X.pn ++ pins, p.1 ≠ b
theorem Inv.fpOk {X : Cx} {pins : List (Addr × Obj)} {σ : St} {H H' : Hp} {s : Shared} {b : Addr} (I : Inv X pins σ H s) (hb : s.heap.objs.size ≤ b) (hn : H' b = none) : FpOk X pins H' b := by
  refine ⟨hn, Nat.ne_of_gt (Nat.lt_of_lt_of_le I.lt hb), I.nofs hb, .inr (Nat.le_trans I.sz hb), fun x c e z => ?_, fun p hp z => ?_⟩
  · obtain ⟨v, q⟩ := I.cell x c e
    exact absurd (Nat.lt_of_lt_of_le q.lt (by rw [z]; exact hb)) (Nat.lt_irrefl _)
  · exact absurd (Nat.lt_of_lt_of_le (Heap.lt_size (I.pin p hp).1) (by rw [z]; exact hb)) (Nat.lt_irrefl _)
structure Turn (P : Program) (w : World) (K : PySem.W.Frag) (tg : Expr) (J : It) (fp : List Addr) (it : Addr) (tn : Nat → Heap → Prop) : Prop where
  mem : it ∈ fp
  obj : ∀ i h, tn i h → ∀ b ∈ fp, ∃ o, h.get? b = some o ∧ ∀ v, o.data ≠ .cell v
  keep : ∀ i h h', tn i h → (∀ b ∈ fp, ∀ o, h.get? b = some o → h'.get? b = some o) → tn i h'
  item : ∀ (X : Cx), X.prog = P → X.w = w → X.K = K → X.calm = true → ∀ (i : Nat) (pins : List (Addr × Obj)) (s : Shared) (σ : St) (H : Hp) (E : Value → Shared → Prop), Inv X pins σ H s → (∀ b ∈ fp, FpOk X pins H b) → tn i s.heap → J.go i H →
    wpAny (model P w) X.A (pyNext (.ref it)) (fun r s1 => ∃ u, r = some u ∧
      wpAny (model P w) X.A (letOwnedTupleGo tg (.ref it) u) (fun _ s2 => ∃ x H', Inv X pins σ H' s2 ∧ RelV x u ∧ J.yld i H x H' ∧ tn (i + 1) s2.heap ∧ ∀ b ∈ fp, H' b = none) E s1) E s
  done : ∀ (X : Cx), X.prog = P → X.w = w → X.K = K → X.calm = true → ∀ (i : Nat) (pins : List (Addr × Obj)) (s : Shared) (σ : St) (H : Hp) (E : Value → Shared → Prop), Inv X pins σ H s → (∀ b ∈ fp, FpOk X pins H b) → tn i s.heap → J.stop i H →
    wpAny (model P w) X.A (pyNext (.ref it)) (fun r s1 => r = none ∧ Inv X pins σ H s1) E s
  self : ∀ (A : Around) (i : Nat) (s : Shared) (Q : Value → Shared → Prop) (E : Value → Shared → Prop), tn i s.heap → Q (.ref it) s → wpAny (model P w) A (pyIter (.ref it)) Q E s
abbrev TI := St → Hp → (It → Hp → Prop) → Prop
/-- an iterator has come -/
def PIE (X : Cx) (pins : List (Addr × Obj)) (σ : St) (tg : Expr) (R : It → Hp → Prop) (itv : Value) (s2 : Shared) : Prop :=
  ∃ (it : Addr) (fp : List Addr) (tn : Nat → Heap → Prop) (J : It) (H' : Hp), itv = .ref it ∧ Inv X pins σ H' s2 ∧ Turn X.prog X.w X.K tg J fp it tn ∧ tn 0 s2.heap ∧ (∀ b ∈ fp, FpOk X pins H' b) ∧ R J H'
def PI (X : Cx) (tg iter : Expr) (wi : TI) : Prop :=
  ∀ (pins : List (Addr × Obj)) (s : Shared) (σ : St) (H : Hp) (R : It → Hp → Prop), Inv X pins σ H s → wi σ H R →
    wpAny (model X.prog X.w) X.A (eval iter X.env) (fun v s1 => wpAny (model X.prog X.w) X.A (pyIter v) (PIE X pins σ tg R) X.xe s1) X.xe s

/-- the step ahead of the store is nothing for an iterator that keeps no tuple -/
theorem go_of {M : Model} {A : Around} {E : Value → Shared → Prop} {s : Shared} {tg : Expr} {it : Addr} {u : Value} {o : Obj} {n : String} {vs : Array Value} {Q : Unit → Shared → Prop} (ho : s.heap.get? it = some o) (hc : o.cls = .type n) (hd : o.data = .fields vs)
    (hn : ["enumerate", "zip", "dict_itemiterator", "dict_reverseitemiterator", "odict_iterator", "itertools.zip_longest", "itertools.pairwise"].contains n = false) (hQ : Q () s) : wpAny M A (letOwnedTupleGo tg (.ref it) u) Q E s := by
  unfold letOwnedTupleGo
  cases tg <;> first
    | exact wpAny_pure hQ
    | (cases u <;> first
        | exact wpAny_pure hQ
        | (refine wpAny_bind (wpAny_load ho ?_)
           rw [hc, hd]
           show wpAny M A (if (["enumerate", "zip", "dict_itemiterator", "dict_reverseitemiterator", "odict_iterator", "itertools.zip_longest", "itertools.pairwise"].contains n && vs[0]? == some (rawInt _)) = true then _ else _) Q E s
           rw [if_neg (by intro h; rw [hn, Bool.false_and] at h; cases h)]
           exact wpAny_pure hQ))

/-- the list at a, as it stands at each turn (a loop may append to it) -/
def Itl (K : PySem.W.Frag) (a : Addr) : It :=
  ⟨fun i H => ∃ xs x, SqL K H a xs ∧ xs[i]? = some x, fun i H x H' => H' = H ∧ ∀ xs, SqL K H a xs → xs[i]? = some x, fun i H => ∃ xs, SqL K H a xs ∧ xs.length ≤ i⟩
def Itt (K : PySem.W.Frag) (a : Addr) : It :=
  ⟨fun i H => ∃ xs x, SqT K H a xs ∧ xs[i]? = some x, fun i H x H' => H' = H ∧ ∀ xs, SqT K H a xs → xs[i]? = some x, fun i H => ∃ xs, SqT K H a xs ∧ xs.length ≤ i⟩
/-- lo, lo + 1, .. (n of them) -/
def Itr (lo : Int) (n : Nat) : It := ⟨fun i _ => i < n, fun i H x H' => H' = H ∧ x = .int (lo + i), fun i _ => n ≤ i⟩
theorem turn_list {P : Program} {w : World} {K : PySem.W.Frag} {tg : Expr} (a it : Addr) : Turn P w K tg (Itl K a) [it] it (fun i h => h.IsListIter it a i) where
  mem := by simp
  obj := fun i h st b hb => by
    have e : b = it := by simpa using hb
    subst e
    obtain ⟨o, e, c, d⟩ := st
    exact ⟨o, e, fun v z => by rw [d] at z; cases z⟩
  keep := fun i h h' st k => st.at fun o e => k it (by simp) o e
  item := by
    intro X hP hw hK hc i pins s σ H E I hf st hg
    subst hP hw hK
    obtain ⟨xs, x, hq, hx⟩ := hg
    obtain ⟨its, rv, p, hz⟩ := I.list hq
    obtain ⟨u, hu, ru⟩ := rv.get hx
    obtain ⟨f0, f1, f2, f3, f4, f5⟩ := hf it (by simp)
    refine wpAny_pyNext_list_item st p.isList (x := u) (by simpa using hu) fun h' st' sb => ?_
    have I1 : Inv X pins σ H { s with heap := h' } := I.turned (t' := s.toks) (fun b o hb e => (sb.2 b hb).trans e) f0 f1 f3 f4 f5
    obtain ⟨o, e, c, d⟩ := id st'
    exact ⟨u, rfl, go_of (s := { s with heap := h' }) e c d (by decide) ⟨x, H, I1, ru, ⟨rfl, fun ys hy => by rw [I.list_inj hy hq]; exact hx⟩, st', fun b hb => (hf b hb).1⟩⟩
  done := by
    intro X hP hw hK hc i pins s σ H E I hf st hg
    subst hP hw hK
    obtain ⟨xs, hq, hx⟩ := hg
    obtain ⟨its, rv, p, hz⟩ := I.list hq
    obtain ⟨f0, f1, f2, f3, f4, f5⟩ := hf it (by simp)
    have hl := rv.length
    exact wpAny_pyNext_list_end (I.ok.hd hc) st p.isList (by simp; omega) fun h' eb => ⟨rfl, I.turned (t' := s.toks) (fun b o hb e => eb b o hb e) f0 f1 f3 f4 f5⟩
  self := fun _ _ _ _ _ st h => wpAny_pyIter_listiter st h
theorem turn_tuple {P : Program} {w : World} {K : PySem.W.Frag} {tg : Expr} (a it : Addr) : Turn P w K tg (Itt K a) [it] it (fun i h => h.IsTupleIter it a i) where
  mem := by simp
  obj := fun i h st b hb => by
    have e : b = it := by simpa using hb
    subst e
    obtain ⟨o, e, c, d⟩ := st
    exact ⟨o, e, fun v z => by rw [d] at z; cases z⟩
  keep := fun i h h' st k => st.at fun o e => k it (by simp) o e
  item := by
    intro X hP hw hK hc i pins s σ H E I hf st hg
    subst hP hw hK
    obtain ⟨xs, x, hq, hx⟩ := hg
    obtain ⟨its, rv, p, hz⟩ := I.tuple hq
    obtain ⟨u, hu, ru⟩ := rv.get hx
    obtain ⟨f0, f1, f2, f3, f4, f5⟩ := hf it (by simp)
    refine wpAny_pyNext_tuple_item st (show s.heap.IsTuple a its.toArray from p) (x := u) (by simpa using hu) fun h' st' sb => ?_
    have I1 : Inv X pins σ H { s with heap := h' } := I.turned (t' := s.toks) (fun b o hb e => (sb.2 b hb).trans e) f0 f1 f3 f4 f5
    obtain ⟨o, e, c, d⟩ := id st'
    exact ⟨u, rfl, go_of (s := { s with heap := h' }) e c d (by decide) ⟨x, H, I1, ru, ⟨rfl, fun ys hy => by rw [I.tuple_inj hy hq]; exact hx⟩, st', fun b hb => (hf b hb).1⟩⟩
  done := by
    intro X hP hw hK hc i pins s σ H E I hf st hg
    subst hP hw hK
    obtain ⟨xs, hq, hx⟩ := hg
    obtain ⟨its, rv, p, hz⟩ := I.tuple hq
    obtain ⟨f0, f1, f2, f3, f4, f5⟩ := hf it (by simp)
    have hl := rv.length
    exact wpAny_pyNext_tuple_end (I.ok.hd hc) st (show s.heap.IsTuple a its.toArray from p) (by simp; omega) fun h' eb => ⟨rfl, I.turned (t' := s.toks) (fun b o hb e => eb b o hb e) f0 f1 f3 f4 f5⟩
  self := fun _ _ _ _ _ st h => wpAny_pyIter_tupleiter st h
theorem turn_range {P : Program} {w : World} {K : PySem.W.Frag} {tg : Expr} (it : Addr) (lo : Int) (n : Nat) : Turn P w K tg (Itr lo n) [it] it (fun i h => IsRangeIter h it (lo + (i : Nat) * 1) ((n : Int) - (i : Nat)) 1) where
  mem := by simp
  obj := fun i h st b hb => by
    have e : b = it := by simpa using hb
    subst e
    exact ⟨_, st, fun v z => by
      have z' : Data.fields _ = Data.cell v := z
      cases z'⟩
  keep := fun i h h' st k => k it (by simp) _ st
  item := by
    intro X hP hw hK hc i pins s σ H E I hf st hg
    subst hP hw hK
    obtain ⟨f0, f1, f2, f3, f4, f5⟩ := hf it (by simp)
    have W := Walks.range (prog := X.prog) (w := X.w) (I.ok.hd hc) it lo 1 n
    refine W.item i s _ _ hg st fun v h' tk hv st' kk => ?_
    obtain ⟨t, rfl⟩ := hv
    have I1 : Inv X pins σ H { s with heap := h', toks := tk } := I.turned (fun b o hb e => kk b o (by simpa using hb) e) f0 f1 f3 f4 f5
    refine ⟨_, rfl, go_of (s := { s with heap := h', toks := tk }) (n := "range_iterator") st' rfl rfl (by decide) ⟨.int (lo + i), H, I1, ⟨t, ?_⟩, ⟨rfl, rfl⟩, st', fun b hb => (hf b hb).1⟩⟩
    rw [Int.mul_one]
  done := by
    intro X hP hw hK hc i pins s σ H E I hf st hg
    subst hP hw hK
    obtain ⟨f0, f1, f2, f3, f4, f5⟩ := hf it (by simp)
    exact wpAny_pyNext_range_end (I.ok.hd hc) st (by have : n ≤ i := hg; omega) fun h' eb => ⟨rfl, I.turned (t' := s.toks) (fun b o hb e => eb b o hb e) f0 f1 f3 f4 f5⟩
  self := fun _ _ _ _ _ st h => wpAny_pyIter_rangeiter st h
end L2

namespace L2
open PySem PySem.Spec PyProof.Rows
section
variable {X : Cx} {tg : Expr}
def iList (K : PySem.W.Frag) (tl : TE) : TI := fun σ H R => tl σ H fun x H1 => ∃ a, x = .ref a ∧ (∃ xs, SqL K H1 a xs) ∧ R (Itl K a) H1
def iTup (K : PySem.W.Frag) (tl : TE) : TI := fun σ H R => tl σ H fun x H1 => ∃ a, x = .ref a ∧ (∃ xs, SqT K H1 a xs) ∧ R (Itt K a) H1
theorem pi_list {l : Expr} {tl : TE} (hl : PE X l tl) : PI X tg l (iList X.K tl) := by
  intro pins s σ H R I h
  refine thn (hl pins s σ H _ I h) fun v s1 ⟨x, H1, I1, r1, q1⟩ => ?_
  obtain ⟨a, e, ⟨xs, hq⟩, q⟩ := q1
  subst e
  cases r1
  obtain ⟨its, rv, p, hz⟩ := I1.list hq
  refine wpAny_pyIter_list p.isList ?_
  refine ⟨s1.heap.objs.size, [s1.heap.objs.size], _, _, H1, rfl, I1.kept (t' := s1.toks) fun b o e => Heap.get?_push_of_some _ e, turn_list a _, ⟨_, Heap.get?_push_size _ rfl, rfl, rfl⟩, fun b hb => ?_, q⟩
  have e : b = s1.heap.objs.size := by simpa using hb
  subst e
  exact I1.fpOk (Nat.le_refl _) (I1.hok.fresh (Nat.le_refl _))
theorem pi_tup {l : Expr} {tl : TE} (hl : PE X l tl) : PI X tg l (iTup X.K tl) := by
  intro pins s σ H R I h
  refine thn (hl pins s σ H _ I h) fun v s1 ⟨x, H1, I1, r1, q1⟩ => ?_
  obtain ⟨a, e, ⟨xs, hq⟩, q⟩ := q1
  subst e
  cases r1
  obtain ⟨its, rv, p, hz⟩ := I1.tuple hq
  refine wpAny_pyIter_tuple (show s1.heap.IsTuple a its.toArray from p) ?_
  refine ⟨s1.heap.objs.size, [s1.heap.objs.size], _, _, H1, rfl, I1.kept (t' := s1.toks) fun b o e => Heap.get?_push_of_some _ e, turn_tuple a _, ⟨_, Heap.get?_push_size _ rfl, rfl, rfl⟩, fun b hb => ?_, q⟩
  have e : b = s1.heap.objs.size := by simpa using hb
  subst e
  exact I1.fpOk (Nat.le_refl _) (I1.hok.fresh (Nat.le_refl _))
/-- a range object just made, walked -/
theorem range_it {pins : List (Addr × Obj)} {σ : St} {H : Hp} {s : Shared} {R : It → Hp → Prop} {E : Value → Shared → Prop} {lo hi : Int} {t u v : Tok} {tk : Nat} (I : Inv X pins σ H s) (h1 : -(2 ^ 62) ≤ lo) (h2 : lo < 2 ^ 62) (h3 : -(2 ^ 62) ≤ hi) (h4 : hi < 2 ^ 62)
    (q : R (Itr lo (hi - lo).toNat) H) : wpAny (model X.prog X.w) X.A (pyIter (.ref s.heap.objs.size)) (PIE X pins σ tg R) E { s with heap := s.heap.push { cls := .type "range", data := .fields #[.int lo t, .int hi u, .int 1 v] }, toks := tk } := by
  refine wpAny_pyIter_range (IsRange.new ..) (small_one h1 h2 h3 h4) ?_
  have I1 : Inv X pins σ H { s with heap := s.heap.push { cls := .type "range", data := .fields #[.int lo t, .int hi u, .int 1 v] }, toks := tk } := I.kept fun b o e => Heap.get?_push_of_some _ e
  refine ⟨(s.heap.push { cls := .type "range", data := .fields #[.int lo t, .int hi u, .int 1 v] }).objs.size, [(s.heap.push { cls := .type "range", data := .fields #[.int lo t, .int hi u, .int 1 v] }).objs.size], _, _, H, rfl,
    I1.kept (t' := tk) fun b o e => Heap.get?_push_of_some _ e, turn_range _ lo (hi - lo).toNat, ?_, fun b hb => ?_, q⟩
  · have e1 : lo + ((0 : Nat) : Int) * 1 = lo := by simp
    have e2 : (((hi - lo).toNat : Nat) : Int) - ((0 : Nat) : Int) = Builtin.Range.rangeSize lo hi 1 := by rw [rangeSize_one]; split <;> omega
    show IsRangeIter _ _ (lo + ((0 : Nat) : Int) * 1) ((((hi - lo).toNat : Nat) : Int) - ((0 : Nat) : Int)) 1
    rw [e1, e2]
    exact Heap.get?_push_size _ rfl
  · have e : b = (s.heap.push { cls := .type "range", data := .fields #[.int lo t, .int hi u, .int 1 v] }).objs.size := by simpa using hb
    subst e
    exact I1.fpOk (Nat.le_refl _) (I1.hok.fresh (Nat.le_refl _))
def iRng1 (ta : TA) : TI := fun σ H R => ta σ H fun vs H1 => ∃ j : Int, vs = [.int j] ∧ -(2 ^ 62) ≤ j ∧ j < 2 ^ 62 ∧ R (Itr 0 j.toNat) H1
def iRng2 (ta : TA) : TI := fun σ H R => ta σ H fun vs H1 => ∃ i j : Int, vs = [.int i, .int j] ∧ (-(2 ^ 62) ≤ i ∧ i < 2 ^ 62 ∧ -(2 ^ 62) ≤ j ∧ j < 2 ^ 62) ∧ R (Itr i (j - i).toNat) H1
theorem pi_range1 {a : Expr} {ta : TA} {p pos : Pos} (hg : Gl X "range") (hm : X.mg "range" = none) (ha : PA X [a] ta) (hs : starEach [a] X.env = [(false, eval a X.env)] := by rfl) : PI X tg (.Call (.Name "range" p) [a] [] pos) (iRng1 ta) := by
  intro pins s σ H R I h
  refine Call_ (ld_blt I hg hm boot_range (PyProof.Rows.callWith_type1 (thn (ha pos pins s σ H _ I h) fun us s1 ⟨vs, H1, I1, r1, q1⟩ => ?_) hs rfl))
  obtain ⟨j, e, q1, q2, q⟩ := q1
  subst e
  cases r1 with
  | cons r rr =>
    cases rr
    obtain ⟨t, rfl⟩ := r
    exact call_range_1 (range_it I1 (by omega) (by omega) q1 q2 (by simpa using q))
/-! ### for -/
/-- W: the invariant by the turn and a measure; N: what the body is to reach -/
def tFor (wi : TI) (g : TG) (tb : TS) : TS := fun D σ H => wi σ H fun J H1 => ∃ W : Nat → Nat → St → Hp → Prop, (∃ m, W 0 m σ H1) ∧ ∀ i m σ H, W i m σ H →
  (J.stop i H ∧ D.nx σ H) ∨ (J.go i H ∧ ∃ N : St → Hp → Prop, (∀ σ' H', N σ' H' → ∃ m', m' < m ∧ W (i + 1) m' σ' H') ∧ ∀ x H', J.yld i H x H' → g x σ H' fun σ2 H2 => tb { D with nx := N, ct := N, bk := D.nx } σ2 H2)
/-- the records at fp as they stand -/
def pinsAt (fp : List Addr) (h : Heap) : List (Addr × Obj) := fp.filterMap fun b => (h.get? b).map fun o => (b, o)
theorem mem_pinsAt {fp : List Addr} {h : Heap} {b : Addr} {o : Obj} (hb : b ∈ fp) (e : h.get? b = some o) : (b, o) ∈ pinsAt fp h := List.mem_filterMap.mpr ⟨b, hb, by rw [e]; rfl⟩
theorem of_pinsAt {fp : List Addr} {h : Heap} {p : Addr × Obj} (hp : p ∈ pinsAt fp h) : p.1 ∈ fp ∧ h.get? p.1 = some p.2 := by
  obtain ⟨b, hb, e⟩ := List.mem_filterMap.mp hp
  cases q : h.get? b with
  | none => rw [q] at e; cases e
  | some o =>
    rw [q] at e
    have e' : (b, o) = p := Option.some.inj e
    subst e'
    exact ⟨hb, q⟩
theorem Inv.pinned {pins : List (Addr × Obj)} {σ : St} {H : Hp} {s : Shared} {fp : List Addr} (I : Inv X pins σ H s) (hf : ∀ b ∈ fp, FpOk X pins H b) (ho : ∀ b ∈ fp, ∃ o, s.heap.get? b = some o ∧ ∀ v, o.data ≠ .cell v) : Inv X (pins ++ pinsAt fp s.heap) σ H s :=
  I.pins_of fun p hp => (List.mem_append.mp hp).elim (fun z => I.pin p (List.mem_append_right _ z)) fun z => by
    obtain ⟨hb, e⟩ := of_pinsAt z
    obtain ⟨f0, f1, f2, _⟩ := hf p.1 hb
    obtain ⟨o, e', d⟩ := ho p.1 hb
    rw [e] at e'; cases e'
    exact ⟨e, f0, f1, f2, d⟩
theorem Inv.unpinned {pins pl : List (Addr × Obj)} {σ : St} {H : Hp} {s : Shared} (I : Inv X (pins ++ pl) σ H s) : Inv X pins σ H s := I.pins_of fun p hp => I.pin p (List.mem_append_right _ (List.mem_append_left _ hp))
theorem ps_for {iter : Expr} {body : List Stmt} {wi : TI} {g : TG} {tb : TS} {pos : Pos} (hp : PassesOwn (model X.prog X.w) X.A X.env X.xe) (hc : X.calm = true) (hi : PI X tg iter wi) (hg : PG X tg g) (hb : PSs X body tb)
    (hs : ∀ x, foldedSetIterable iter X.env x = pure x := by intro _; rfl) : PS X (.For tg iter body [] pos) (tFor wi g tb) := by
  intro pins s σ H D I h
  refine wpAny_For (thn (hi pins s σ H _ I h) fun v s1 h1 => thn h1 fun itv s2 h2 => ?_) hs
  obtain ⟨it, fp, tn, J, H2, e, I2, T, st2, f2, W, ⟨m0, w0⟩, turn⟩ := h2
  subst e
  -- what stays true of the iterator's objects through the loop
  have stat : ∀ {H' : Hp}, (∀ b ∈ fp, H' b = none) → ∀ b ∈ fp, FpOk X pins H' b := fun hn b hb => ⟨hn b hb, (f2 b hb).2⟩
  refine codeAny_forLoop_any (fun n s' => ∃ i σ' H', Inv X pins σ' H' s' ∧ tn i s'.heap ∧ (∀ b ∈ fp, H' b = none) ∧ W i n σ' H') ?_ m0 ⟨0, σ, H2, I2, st2, fun b hb => (f2 b hb).1, w0⟩
  rintro n s3 ⟨i, σ3, H3, I3, st3, fr3, w3⟩
  rcases turn i n σ3 H3 w3 with ⟨stop, qn⟩ | ⟨go, N, hN, step⟩
  · refine wpAny_passesOwn hp (thn (T.done X rfl rfl rfl hc i pins s3 σ3 H3 X.xe I3 (stat fr3) st3 stop) fun r s4 ⟨hr, I4⟩ => ?_)
    subst hr
    exact wpAny_execs_nil ⟨σ3, H3, I4, qn⟩
  · refine wpAny_passesOwn hp (thn (T.item X rfl rfl rfl hc i pins s3 σ3 H3 X.xe I3 (stat fr3) st3 go) fun r s4 ⟨u, hr, h4⟩ => ?_)
    subst hr
    refine wpAny_passesOwn hp (thn h4 fun _ s5 ⟨x, H5, I5, r5, y5, st5, fr5⟩ => ?_)
    have I5' := I5.pinned (stat fr5) (T.obj _ _ st5)
    refine wpAny_passesOwn hp (thn (hg _ s5 σ3 H5 x u _ I5' r5 (step x H5 y5)) fun _ s6 ⟨σ6, H6, I6, q6⟩ => ?_)
    refine wpAny_passesOwn hp (thn (hb _ s6 σ6 H6 _ I6 q6) fun f s7 q7 => ?_)
    have again : ∀ {σ7 : St} {H7 : Hp}, Inv X (pins ++ pinsAt fp s5.heap) σ7 H7 s7 → N σ7 H7 → ∃ m, m < n ∧ ∃ i σ' H', Inv X pins σ' H' s7 ∧ tn i s7.heap ∧ (∀ b ∈ fp, H' b = none) ∧ W i m σ' H' := fun {σ7 H7} I7 n7 => by
      obtain ⟨m', hm, w7⟩ := hN σ7 H7 n7
      refine ⟨m', hm, i + 1, σ7, H7, I7.unpinned, T.keep _ _ _ st5 fun b hb o e => (I7.pin (b, o) (List.mem_append_right _ (List.mem_append_right _ (mem_pinsAt hb e)))).1, fun b hb => ?_, w7⟩
      obtain ⟨o, e, d⟩ := T.obj _ _ st5 b hb
      exact (I7.pin (b, o) (List.mem_append_right _ (List.mem_append_right _ (mem_pinsAt hb e)))).2.1
    cases f with
    | next => obtain ⟨σ7, H7, I7, n7⟩ := q7; exact again I7 n7
    | cont => obtain ⟨σ7, H7, I7, n7⟩ := q7; exact again I7 n7
    | brk => obtain ⟨σ7, H7, I7, q7⟩ := q7; exact ⟨σ7, H7, I7.unpinned, q7⟩
    | ret v => obtain ⟨x7, σ7, H7, I7, r7, q7⟩ := q7; exact ⟨x7, σ7, H7, I7.unpinned, r7, q7⟩
end

/-! ### the forms one uses -/
/-- over a list that the body leaves as it is -/
theorem for_list {K : PySem.W.Frag} {a : Addr} {xs : List V} {g : TG} {tb : TS} {D : Ends} {σ : St} {H : Hp} (Pv : Nat → St → Hp → Prop) (h0 : Pv 0 σ H) (hl : ∀ i σ H, i ≤ xs.length → Pv i σ H → SqL K H a xs)
    (hs : ∀ i x σ H, xs[i]? = some x → Pv i σ H → g x σ H fun σ2 H2 => tb { D with nx := Pv (i + 1), ct := Pv (i + 1), bk := D.nx } σ2 H2) (hd : ∀ σ H, Pv xs.length σ H → D.nx σ H) :
    ∃ W : Nat → Nat → St → Hp → Prop, (∃ m, W 0 m σ H) ∧ ∀ i m σ H, W i m σ H →
      ((Itl K a).stop i H ∧ D.nx σ H) ∨ ((Itl K a).go i H ∧ ∃ N : St → Hp → Prop, (∀ σ' H', N σ' H' → ∃ m', m' < m ∧ W (i + 1) m' σ' H') ∧ ∀ x H', (Itl K a).yld i H x H' → g x σ H' fun σ2 H2 => tb { D with nx := N, ct := N, bk := D.nx } σ2 H2) := by
  refine ⟨fun i m σ H => m = xs.length - i ∧ i ≤ xs.length ∧ Pv i σ H, ⟨xs.length, by simp, Nat.zero_le _, h0⟩, ?_⟩
  rintro i m σ H ⟨rfl, hi, p⟩
  have q := hl i σ H hi p
  by_cases hlt : i < xs.length
  · refine .inr ⟨⟨xs, xs[i], q, by simp [hlt]⟩, Pv (i + 1), fun σ' H' p' => ⟨xs.length - (i + 1), by omega, rfl, hlt, p'⟩, fun x H' y => ?_⟩
    obtain ⟨e, y⟩ := y
    subst e
    exact hs i x σ _ (y xs q) p
  · have e : i = xs.length := by omega
    subst e
    exact .inl ⟨⟨xs, q, Nat.le_refl _⟩, hd σ H p⟩
theorem for_range {lo : Int} {n : Nat} {g : TG} {tb : TS} {D : Ends} {σ : St} {H : Hp} (Pv : Nat → St → Hp → Prop) (h0 : Pv 0 σ H)
    (hs : ∀ i σ H, i < n → Pv i σ H → g (.int (lo + i)) σ H fun σ2 H2 => tb { D with nx := Pv (i + 1), ct := Pv (i + 1), bk := D.nx } σ2 H2) (hd : ∀ σ H, Pv n σ H → D.nx σ H) :
    ∃ W : Nat → Nat → St → Hp → Prop, (∃ m, W 0 m σ H) ∧ ∀ i m σ H, W i m σ H →
      ((Itr lo n).stop i H ∧ D.nx σ H) ∨ ((Itr lo n).go i H ∧ ∃ N : St → Hp → Prop, (∀ σ' H', N σ' H' → ∃ m', m' < m ∧ W (i + 1) m' σ' H') ∧ ∀ x H', (Itr lo n).yld i H x H' → g x σ H' fun σ2 H2 => tb { D with nx := N, ct := N, bk := D.nx } σ2 H2) := by
  refine ⟨fun i m σ H => m = n - i ∧ i ≤ n ∧ Pv i σ H, ⟨n, by simp, Nat.zero_le _, h0⟩, ?_⟩
  rintro i m σ H ⟨rfl, hi, p⟩
  by_cases hlt : i < n
  · refine .inr ⟨hlt, Pv (i + 1), fun σ' H' p' => ⟨n - (i + 1), by omega, rfl, hlt, p'⟩, fun x H' y => ?_⟩
    obtain ⟨e, y⟩ := y
    subst e y
    exact hs i σ _ hlt p
  · have e : i = n := by omega
    subst e
    exact .inl ⟨Nat.le_refl _, hd σ H p⟩
end L2

namespace L2
open PySem PySem.Spec PyProof.Rows

abbrev R2 := V → V → Hp → VK → Prop
/-- a two-place operation on values: f is binaryOp op, inplaceOp op or compareOp op -/
def OpR (X : Cx) (f : Value → Value → Sem Value) (r : R2) : Prop :=
  ∀ (pins : List (Addr × Obj)) (s : Shared) (σ : St) (H : Hp) (x y : V) (v u : Value) (Q : VK), Inv X pins σ H s → RelV x v → RelV y u → r x y H Q →
    wpAny (model X.prog X.w) X.A (f v u) (EP X pins σ Q) X.xe s
/-- a one-place operation -/
def UnR (X : Cx) (f : Value → Sem Value) (r : V → Hp → VK → Prop) : Prop :=
  ∀ (pins : List (Addr × Obj)) (s : Shared) (σ : St) (H : Hp) (x : V) (v : Value) (Q : VK), Inv X pins σ H s → RelV x v → r x H Q →
    wpAny (model X.prog X.w) X.A (f v) (EP X pins σ Q) X.xe s
/-- a call of a value that is known (a builtin, a type) with values -/
def CallR (X : Cx) (f : Value) (r : List V → Hp → VK → Prop) : Prop :=
  ∀ (pins : List (Addr × Obj)) (s : Shared) (σ : St) (H : Hp) (xs : List V) (us : List Value) (Q : VK), Inv X pins σ H s → Vals xs us → r xs H Q →
    wpAny (model X.prog X.w) X.A (call f us) (EP X pins σ Q) X.xe s
/-- a value's truth -/
def TruR (X : Cx) (r : V → Hp → (Bool → Hp → Prop) → Prop) : Prop :=
  ∀ (pins : List (Addr × Obj)) (s : Shared) (σ : St) (H : Hp) (x : V) (v : Value) (Q : Bool → Hp → Prop), Inv X pins σ H s → RelV x v → r x H Q →
    wpAny (model X.prog X.w) X.A (truthy v) (TP X pins σ Q) X.xe s

def tOp (r : R2) (ta tb : TE) : TE := fun σ H Q => ta σ H fun x H1 => tb σ H1 fun y H2 => r x y H2 Q
def tUn (r : V → Hp → VK → Prop) (ta : TE) : TE := fun σ H Q => ta σ H fun x H1 => r x H1 Q
/-- ints in, under C, and a value out -/
def rI (C : Int → Int → Prop) (g : Int → Int → V) : R2 := fun x y H Q => ∃ i j, x = .int i ∧ y = .int j ∧ C i j ∧ Q (g i j) H
def rI0 (g : Int → Int → V) : R2 := fun x y H Q => ∃ i j, x = .int i ∧ y = .int j ∧ Q (g i j) H
def rU (g : Int → V) : V → Hp → VK → Prop := fun x H Q => ∃ i, x = .int i ∧ Q (g i) H

section
variable {X : Cx} {a b c : Expr} {ta tb tc : TE} {pos : Pos}

theorem binT (ha : PE X a ta) (hb : PE X b tb) {pins : List (Addr × Obj)} {s : Shared} {σ : St} {H : Hp} {R : V → V → Hp → Prop} (I : Inv X pins σ H s)
    (h : ta σ H fun x H1 => tb σ H1 fun y H2 => R x y H2) {Q : Value → Shared → Prop} {f : Value → Value → Sem Value}
    (hf : ∀ v u s2 x y H2, Inv X pins σ H2 s2 → RelV x v → RelV y u → R x y H2 → wpAny (model X.prog X.w) X.A (f v u) Q X.xe s2) :
    wpAny (model X.prog X.w) X.A (eval a X.env) (fun v s₁ => wpAny (model X.prog X.w) X.A (eval b X.env) (fun u s₂ => wpAny (model X.prog X.w) X.A (f v u) Q X.xe s₂) X.xe s₁) X.xe s := by
  refine thn (ha pins s σ H _ I h) fun v s1 ⟨x, H1, I1, r1, q1⟩ => ?_
  refine thn (hb pins s1 σ H1 _ I1 q1) fun u s2 ⟨y, H2, I2, r2, q2⟩ => ?_
  exact hf v u s2 x y H2 I2 r1 r2 q2

theorem pe_op {op : Operator} {r : R2} (ho : OpR X (binaryOp op) r) (ha : PE X a ta) (hb : PE X b tb) : PE X (.BinOp a op b pos) (tOp r ta tb) := by
  intro pins s σ H Q I h
  exact wpAny_BinOp (binT ha hb I h fun v u s2 x y H2 I2 rx ry q => ho pins s2 σ H2 x y v u Q I2 rx ry q)
/-! ### ints -/
theorem opI {f : Value → Value → Sem Value} {C : Int → Int → Prop} {g : Int → Int → Int}
    (rule : ∀ (i j : Int) (t u : Tok) (s : Shared) (Q : Value → Shared → Prop) (E : Value → Shared → Prop), C i j → Q (.int (g i j) s.toks) { s with toks := s.toks + 1 } → wpAny (model X.prog X.w) X.A (f (.int i t) (.int j u)) Q E s) :
    OpR X f (rI C fun i j => .int (g i j)) := by
  intro pins s σ H x y v u Q I rx ry h
  obtain ⟨i, j, rfl, rfl, hc, q⟩ := h
  obtain ⟨t, rfl⟩ := rx
  obtain ⟨t', rfl⟩ := ry
  exact rule i j t t' s _ _ hc ⟨.int (g i j), H, I.tok _, ⟨_, rfl⟩, q⟩
theorem opI0 {f : Value → Value → Sem Value} {g : Int → Int → Int}
    (rule : ∀ (i j : Int) (t u : Tok) (s : Shared) (Q : Value → Shared → Prop) (E : Value → Shared → Prop), Q (.int (g i j) s.toks) { s with toks := s.toks + 1 } → wpAny (model X.prog X.w) X.A (f (.int i t) (.int j u)) Q E s) :
    OpR X f (rI0 fun i j => .int (g i j)) := by
  intro pins s σ H x y v u Q I rx ry h
  obtain ⟨i, j, rfl, rfl, q⟩ := h
  obtain ⟨t, rfl⟩ := rx
  obtain ⟨t', rfl⟩ := ry
  exact rule i j t t' s _ _ ⟨.int (g i j), H, I.tok _, ⟨_, rfl⟩, q⟩
theorem opB0 {f : Value → Value → Sem Value} {g : Int → Int → Bool}
    (rule : ∀ (i j : Int) (t u : Tok) (s : Shared) (Q : Value → Shared → Prop) (E : Value → Shared → Prop), Q (.bool (g i j)) s → wpAny (model X.prog X.w) X.A (f (.int i t) (.int j u)) Q E s) :
    OpR X f (rI0 fun i j => .bl (g i j)) := by
  intro pins s σ H x y v u Q I rx ry h
  obtain ⟨i, j, rfl, rfl, q⟩ := h
  obtain ⟨t, rfl⟩ := rx
  obtain ⟨t', rfl⟩ := ry
  exact rule i j t t' s _ _ ⟨.bl (g i j), H, I, rfl, q⟩

def CDiv (i j : Int) : Prop := 0 < j ∧ j < 1073741824
def CDivN (i j : Int) : Prop := j ≠ 0 ∧ j.natAbs < 1073741824
def CPow (i j : Int) : Prop := 0 ≤ j ∧ j ≤ 1000000 ∧ i.natAbs < 2 ^ 64
def CMul (i j : Int) : Prop := (-(2 ^ 64) < i ∧ i < 2 ^ 64) ∨ (-(2 ^ 64) < j ∧ j < 2 ^ 64)
theorem CMul.ok {i j : Int} (h : CMul i j) : IntMulOk i j := by
  rcases h with ⟨h1, h2⟩ | ⟨h1, h2⟩
  · exact .of_left (intBits_le_64 h1 h2)
  · exact .of_right (intBits_le_64 h1 h2)
theorem op_add : OpR X (binaryOp .Add) (rI0 fun i j => .int (i + j)) := opI0 fun _ _ _ _ _ _ _ q => add_int q
theorem op_sub : OpR X (binaryOp .Sub) (rI0 fun i j => .int (i - j)) := opI0 fun _ _ _ _ _ _ _ q => sub_int q
theorem op_mul : OpR X (binaryOp .Mult) (rI CMul fun i j => .int (i * j)) := opI fun _ _ _ _ _ _ _ hc q => mul_int q hc.ok
/-- // by a positive divisor -/
theorem op_fdiv : OpR X (binaryOp .FloorDiv) (rI CDiv fun i j => .int (i / j)) := opI fun i j _ _ _ _ _ hc q => by
  have h1 : (0 : Int) < j := hc.1
  have h2 : j < 1073741824 := hc.2
  exact floordiv_int (by omega) (by rw [Int.fdiv_eq_ediv_of_nonneg i (by omega)]; exact q) (.inl (PyProof.noPylong_small (by omega)))
/-- % by a positive divisor of any size -/
theorem op_mod : OpR X (binaryOp .Mod) (rI (fun _ j => 0 < j) fun i j => .int (i % j)) := opI fun i j _ _ _ _ _ hc q => by
  have h1 : (0 : Int) < j := hc
  exact mod_int' (by omega) (by rw [Int.fmod_eq_emod_of_nonneg i (by omega)]; exact q)
/-! ### bools among ints: n += (a < b) -/
end

/-! ### comparisons -/
/-- the scalars that == tells apart as data does -/
def scal : V → V → Bool
  | .non, .non => true | .non, .int _ => true | .int _, .non => true | .non, .bl _ => true | .bl _, .non => true | .non, .str _ => true | .str _, .non => true
  | .int _, .int _ => true | .bl _, .bl _ => true | .str _, .str _ => true | .byt _, .byt _ => true
  | .int _, .str _ => true | .str _, .int _ => true | .bl _, .str _ => true | .str _, .bl _ => true
  | _, _ => false
def rEq : R2 := fun x y H Q => scal x y = true ∧ Q (.bl (decide (x = y))) H
def rNe : R2 := fun x y H Q => scal x y = true ∧ Q (.bl (!decide (x = y))) H

theorem dec_int {i j : Int} : decide (V.int i = V.int j) = (i == j) := by
  rw [Bool.eq_iff_iff]
  simp
theorem dec_bl {i j : Bool} : decide (V.bl i = V.bl j) = (i == j) := by
  rw [Bool.eq_iff_iff]
  simp
theorem dec_str {i j : Str} : decide (V.str i = V.str j) = (i == j) := by
  rw [Bool.eq_iff_iff]
  simp
theorem dec_byt {i j : Array UInt8} : decide (V.byt i = V.byt j) = (i.toList == j.toList) := by
  rw [Bool.eq_iff_iff]
  cases i
  cases j
  simp

section
variable {X : Cx} {a b c : Expr} {ta tb tc : TE} {pos : Pos}
theorem fin_bl {pins : List (Addr × Obj)} {σ : St} {H : Hp} {s : Shared} {Q : VK} {k k' : Bool} (I : Inv X pins σ H s) (q : Q (.bl k) H) (e : k = k') : EP X pins σ Q (.bool k') s := by
  subst e
  exact ⟨.bl k, H, I, rfl, q⟩
theorem op_eq : OpR X (compareOp .Eq) rEq := by
  intro pins s σ H x y v u Q I rx ry h
  obtain ⟨hs, q⟩ := h
  cases x with
  | non =>
    cases rx
    cases y with
    | non => cases ry; exact PySem.EqNone.eq_none_none (fin_bl I q (by simp))
    | bl j => cases ry; exact PySem.EqNone.eq_none_bool (fin_bl I q (by simp))
    | int j => obtain ⟨t', rfl⟩ := ry; exact PySem.EqNone.eq_none_int (fin_bl I q (by simp))
    | str j => obtain ⟨t', rfl⟩ := ry; exact PySem.EqNone.eq_none_str (fin_bl I q (by simp))
    | _ => exact absurd (show false = true from hs) Bool.false_ne_true
  | bl i =>
    cases rx
    cases y with
    | non => cases ry; exact PySem.EqNone.eq_bool_none (fin_bl I q (by simp))
    | bl j => cases ry; exact eq_bool (fin_bl I q dec_bl)
    | str j => obtain ⟨t', rfl⟩ := ry; exact PySem.EqMixed.eq_bool_str (fin_bl I q (by simp))
    | _ => exact absurd (show false = true from hs) Bool.false_ne_true
  | int i =>
    obtain ⟨t, rfl⟩ := rx
    cases y with
    | non => cases ry; exact PySem.EqNone.eq_int_none (fin_bl I q (by simp))
    | int j => obtain ⟨t', rfl⟩ := ry; exact eq_int (fin_bl I q dec_int)
    | str j => obtain ⟨t', rfl⟩ := ry; exact PySem.EqMixed.eq_int_str (fin_bl I q (by simp))
    | _ => exact absurd (show false = true from hs) Bool.false_ne_true
  | str i =>
    obtain ⟨t, rfl⟩ := rx
    cases y with
    | non => cases ry; exact PySem.EqNone.eq_str_none (fin_bl I q (by simp))
    | bl j => cases ry; exact PySem.EqMixed.eq_str_bool (fin_bl I q (by simp))
    | int j => obtain ⟨t', rfl⟩ := ry; exact PySem.EqMixed.eq_str_int (fin_bl I q (by simp))
    | str j => obtain ⟨t', rfl⟩ := ry; exact eq_str (fin_bl I q dec_str)
    | _ => exact absurd (show false = true from hs) Bool.false_ne_true
  | byt i =>
    obtain ⟨t, rfl⟩ := rx
    cases y with
    | byt j => obtain ⟨t', rfl⟩ := ry; exact PySem.W.eq_bytes (fin_bl I q dec_byt)
    | _ => exact absurd (show false = true from hs) Bool.false_ne_true
  | _ => cases y <;> exact absurd (show false = true from hs) Bool.false_ne_true
theorem op_ne : OpR X (compareOp .NotEq) rNe := by
  intro pins s σ H x y v u Q I rx ry h
  obtain ⟨hs, q⟩ := h
  cases x with
  | non =>
    cases rx
    cases y with
    | non => cases ry; exact PySem.EqNone.ne_none_none (fin_bl I q (by simp))
    | bl j => cases ry; exact PySem.EqNone.ne_none_bool (fin_bl I q (by simp))
    | int j => obtain ⟨t', rfl⟩ := ry; exact PySem.EqNone.ne_none_int (fin_bl I q (by simp))
    | str j => obtain ⟨t', rfl⟩ := ry; exact PySem.EqNone.ne_none_str (fin_bl I q (by simp))
    | _ => exact absurd (show false = true from hs) Bool.false_ne_true
  | bl i =>
    cases rx
    cases y with
    | non => cases ry; exact PySem.EqNone.ne_bool_none (fin_bl I q (by simp))
    | bl j => cases ry; exact ne_bool (fin_bl I q (congrArg not dec_bl))
    | str j => obtain ⟨t', rfl⟩ := ry; exact PySem.EqMixed.ne_bool_str (fin_bl I q (by simp))
    | _ => exact absurd (show false = true from hs) Bool.false_ne_true
  | int i =>
    obtain ⟨t, rfl⟩ := rx
    cases y with
    | non => cases ry; exact PySem.EqNone.ne_int_none (fin_bl I q (by simp))
    | int j => obtain ⟨t', rfl⟩ := ry; exact ne_int (fin_bl I q (congrArg not dec_int))
    | str j => obtain ⟨t', rfl⟩ := ry; exact PySem.EqMixed.ne_int_str (fin_bl I q (by simp))
    | _ => exact absurd (show false = true from hs) Bool.false_ne_true
  | str i =>
    obtain ⟨t, rfl⟩ := rx
    cases y with
    | non => cases ry; exact PySem.EqNone.ne_str_none (fin_bl I q (by simp))
    | bl j => cases ry; exact PySem.EqMixed.ne_str_bool (fin_bl I q (by simp))
    | int j => obtain ⟨t', rfl⟩ := ry; exact PySem.EqMixed.ne_str_int (fin_bl I q (by simp))
    | str j => obtain ⟨t', rfl⟩ := ry; exact ne_str (fin_bl I q (congrArg not dec_str))
    | _ => exact absurd (show false = true from hs) Bool.false_ne_true
  | byt i =>
    obtain ⟨t, rfl⟩ := rx
    cases y with
    | byt j => obtain ⟨t', rfl⟩ := ry; exact PySem.W.ne_bytes (fin_bl I q (congrArg not dec_byt))
    | _ => exact absurd (show false = true from hs) Bool.false_ne_true
  | _ => cases y <;> exact absurd (show false = true from hs) Bool.false_ne_true

theorem op_lt : OpR X (compareOp .Lt) (rI0 fun i j => .bl (decide (i < j))) := opB0 fun _ _ _ _ _ _ _ q => lt_int q
theorem op_gt : OpR X (compareOp .Gt) (rI0 fun i j => .bl (decide (j < i))) := opB0 fun _ _ _ _ _ _ _ q => gt_int q
/-- the one string within the other -/
theorem op_in_str : OpR X (compareOp .In) (fun x y H Q => ∃ i j, x = .str i ∧ y = .str j ∧ Q (.bl (!(Builtin.Str.occurrences j i 0 j.length 1).isEmpty)) H) := by
  intro pins s σ H x y v u Q I rx ry h
  obtain ⟨i, j, rfl, rfl, q⟩ := h
  obtain ⟨t, rfl⟩ := rx
  obtain ⟨t', rfl⟩ := ry
  exact in_str (fin_bl I q rfl)

/-- is, is not of two objects that are tracked lists or instances -/
def isObj : HO → Bool
  | .lst _ => true
  | .ins _ _ _ => true
  | _ => false
/-- two rules for one operation: by cases -/
theorem OpR.or {f : Value → Value → Sem Value} {r r' : R2} (h : OpR X f r) (h' : OpR X f r') : OpR X f (fun x y H Q => r x y H Q ∨ r' x y H Q) := by
  intro pins s σ H x y v u Q I rx ry q
  rcases q with q | q
  · exact h pins s σ H x y v u Q I rx ry q
  · exact h' pins s σ H x y v u Q I rx ry q

theorem nomark (b : Expr) {op : CmpOp} (h : op ≠ .In := by decide) (h2 : op ≠ .NotIn := by decide) : behindInMarks op b = false := by
  have e1 : (op == CmpOp.In) = false := by cases op <;> first | rfl | exact absurd rfl h
  have e2 : (op == CmpOp.NotIn) = false := by cases op <;> first | rfl | exact absurd rfl h2
  cases b <;> simp [behindInMarks, e1, e2]
/-- a comparison as a value; hm: nomark b, or (for in, not in) by with_unfolding_all rfl -/
theorem pe_cmpR {op : CmpOp} {r : R2} (ho : OpR X (compareOp op) r) (ha : PE X a ta) (hb : PE X b tb) (hm : behindInMarks op b = false) : PE X (.Compare a [op] [b] pos) (tOp r ta tb) := by
  intro pins s σ H Q I h
  exact wpAny_Compare1 (binT ha hb I h fun v u s2 x y H2 I2 rx ry q => ho pins s2 σ H2 x y v u Q I2 rx ry q) hm
/-- a reading of a value as a test -/
def tTest (t : TE) : TT := fun σ H Q => t σ H fun x H' => ∃ k, x = .bl k ∧ Q k H'
theorem pt_cmpR {op : CmpOp} {r : R2} (ho : OpR X (compareOp op) r) (ha : PE X a ta) (hb : PE X b tb) (hm : behindInMarks op b = false) : PT X (.Compare a [op] [b] pos) (tTest (tOp r ta tb)) := by
  intro pins s σ H Q I h
  refine wpAny_isTrue_Compare1 (thn (ha pins s σ H _ I h) fun v s1 ⟨x, H1, I1, r1, q1⟩ => thn (hb pins s1 σ H1 _ I1 q1) fun u s2 ⟨y, H2, I2, r2, q2⟩ =>
    thn (ho pins s2 σ H2 x y v u _ I2 r1 r2 q2) fun c s3 ⟨z, H3, I3, r3, k, e, q3⟩ => ?_) hm
  subst e
  cases r3
  exact wpAny_truthy_bool ⟨H3, I3, q3⟩
/-- a op1 b op2 c -/
def tChain (r r' : R2) (ta tb tc : TE) : TE := fun σ H Q => ta σ H fun x H1 => tb σ H1 fun y H2 => r x y H2 fun z H3 => ∃ k, z = .bl k ∧
  (if k = true then tc σ H3 fun w' H4 => r' y w' H4 Q else Q (.bl false) H3)
/-! ### truth -/
/-- a value's truth by the abstract heap -/
def TruV (K : PySem.W.Frag) (x : V) (H : Hp) (k : Bool) : Prop :=
  match x with
  | .non => k = false
  | .bl b => k = b
  | .int i => k = (i != 0)
  | .str y => y.length ≤ sizeLine ∧ k = ((y.length : Int) != 0)
  | .byt y => y.size ≤ sizeLine ∧ k = ((y.size : Int) != 0)
  | .ref p => (∃ xs, SqL K H p xs ∧ k = !xs.isEmpty) ∨ (∃ xs, SqT K H p xs ∧ k = !xs.isEmpty) ∨ ∃ kvs, H p = some (.dK kvs) ∧ k = !kvs.isEmpty
  | _ => False
theorem line63 : (sizeLine : Nat) < 2 ^ 63 := by rw [sizeLine_eq]; decide
/-! ### strs and bytes -/
def PlainIxT (b : Expr) : Prop := ∀ o i, subscripted b false o i = operate [o, i] (getItem o i)
/-! ### scalar builtins, by CallR -/
theorem vals1 {x : V} {us : List Value} (r : Vals [x] us) : ∃ u, us = [u] ∧ RelV x u := by
  cases r with
  | cons r1 r2 => cases r2; exact ⟨_, rfl, r1⟩
theorem vals2 {x y : V} {us : List Value} (r : Vals [x, y] us) : ∃ u w', us = [u, w'] ∧ RelV x u ∧ RelV y w' := by
  cases r with
  | cons r1 r2 =>
    cases r2 with
    | cons r3 r4 => cases r4; exact ⟨_, _, rfl, r1, r3⟩
theorem call_int1 : CallR X (.type "int") (fun xs H Q => (∃ i, xs = [.int i] ∧ Q (.int i) H) ∨ ∃ k, xs = [.bl k] ∧ Q (.int (if k then 1 else 0)) H) := by
  intro pins s σ H xs us Q I r h
  rcases h with ⟨i, rfl, q⟩ | ⟨k, rfl, q⟩
  · obtain ⟨u, rfl, t, rfl⟩ := vals1 r
    exact call_int_int ⟨.int i, H, I, ⟨_, rfl⟩, q⟩
  · obtain ⟨u, rfl, r1⟩ := vals1 r
    cases r1
    exact call_int_bool ⟨.int (if k then 1 else 0), H, I.tok _, ⟨_, rfl⟩, q⟩
/-- len of a str, a bytes, a list, a tuple -/
def LenV (K : PySem.W.Frag) (x : V) (H : Hp) (n : Nat) : Prop :=
  match x with
  | .str y => y.length ≤ sizeLine ∧ n = y.length
  | .byt y => y.size ≤ sizeLine ∧ n = y.size
  | .ref p => (∃ xs, SqL K H p xs ∧ n = xs.length) ∨ ∃ xs, SqT K H p xs ∧ n = xs.length
  | _ => False
end
end L2

namespace L2
open PySem PySem.Spec PyProof.Rows

/-! ### an instance, its attributes a map -/
structure ObjM (h : Heap) (x dx C : Addr) (mA : Str → Option Value) : Prop where
  obj : h.get? x = some (PySem.W.instObj C dx)
  ns : h.Ns1 dx mA
  ne : dx ≠ x

theorem lookIn_ns {h : Heap} {dx : Addr} {mA : Str → Option Value} (n : h.Ns1 dx mA) : ∃ od, h.get? dx = some od ∧ ∀ name, PySem.W.lookIn name od = some (mA name) := by
  obtain ⟨o, es, ep, ho, hd, hk, _, hm⟩ := n
  refine ⟨o, ho, fun name => ?_⟩
  have e := hm name
  unfold nsFind findBy at e
  rw [← Array.find?_toList] at e
  unfold PySem.W.lookIn
  rw [hd]
  dsimp only
  split
  · rename_i y q
    rw [q] at e
    exact congrArg some e
  · rename_i q
    rw [q] at e
    have a : es.toList.any (·.refKey) = false := by
      rw [List.any_eq_false]
      intro y hy
      obtain ⟨z, t, hkey⟩ := hk y (Array.mem_toList_iff.mp hy)
      simp [DictEntry.refKey, hkey]
    have a' : ¬ es.toList.any (·.refKey) = true := by rw [a]; exact Bool.false_ne_true
    rw [if_neg a']
    exact congrArg some e

theorem ObjM.look {h : Heap} {x dx C : Addr} {mA : Str → Option Value} (I : ObjM h x dx C mA) : ∃ od, PySem.W.InstAt h x (PySem.W.instObj C dx) C (some od) ∧ ∀ name, PySem.W.lookIn name od = some (mA name) :=
  let ⟨od, ho, hl⟩ := lookIn_ns I.ns
  ⟨od, ⟨I.obj, rfl, rfl, ho⟩, hl⟩

section
variable {prog : Program} {w : World} {A : Around} {E : Value → Shared → Prop} {s : Shared} {K : PySem.W.Frag} {x dx C f : Addr} {mA : Str → Option Value} {name : Str} {v : Value}

end

/-! ### the attributes as a list of pairs -/
def putF (f : Str) (v : V) : List (Str × V) → List (Str × V)
  | [] => [(f, v)]
  | (g, x) :: r => if g = f then (g, v) :: r else (g, x) :: putF f v r
theorem RelO.some_of {v : V} {o : Option Value} (r : RelO (some v) o) : ∃ u, o = some u ∧ RelV v u := by
  cases o with
  | none => exact (show False from r).elim
  | some u => exact ⟨u, rfl, r⟩
section
variable {P : Program} {w : World} {H H' : Hp} {h h' : Heap} {a C dx : Addr} {fs fs' : List (Str × V)}
theorem ins_get (hok : HOk P w H h) (e : H a = some (.ins C dx fs)) : ∃ mA, ObjM h a dx C mA ∧ (∀ f, RelO (fs.lookup f) (mA f)) ∧ PySem.Within mA (fs.map (·.1)) ∧ fs.length ≤ 1000 ∧ H dx = some (.own a) := by
  obtain ⟨d, z, ne, ob, mA, n, r, q⟩ := (show ObjOk P w H h a (.ins C dx fs) from hok a _ e)
  exact ⟨mA, ⟨ob, n, ne⟩, r, q, z, d⟩
end

/-! ### what of the text a class must have -/
structure Cls (K : PySem.W.Frag) (C : Addr) : Prop where
  pg : PySem.W.plainGet K C Str.empty = true
  hd : PySem.W.hasDictIn K C = true
  po : PySem.W.plainOver K C = true
  sa : PySem.W.findIn K (.ref C) "__setattr__" = some (some (.builtin "object.__setattr__"))
theorem Cls.get {K : PySem.W.Frag} {C : Addr} (c : Cls K C) (f : Str) : PySem.W.plainGet K C f = true := c.pg
/-- no class of it has the name -/
def NoAttr (K : PySem.W.Frag) (C : Addr) (f : Str) : Prop := PySem.W.findIn K (.ref C) f = some none
/-- a constant of the class -/
structure Con (K : PySem.W.Frag) (C : Addr) (f : Str) (v : V) (u : Value) : Prop where
  at_ : PySem.W.findIn K (.ref C) f = some (some u)
  rel : RelV v u
  get : PySem.W.specialIn K u "__get__" = some none
  cp : PySem.W.copiedNames.contains f = false
/-- a method: a plain def of the class or of one above it -/
structure Meth (K : PySem.W.Frag) (C : Addr) (m : Str) (f : Addr) : Prop where
  at_ : PySem.W.findIn K (.ref C) m = some (some (.ref f))
  fn : PySem.W.isFn K (.ref f) = true
  kp : PySem.W.keepIn K (.ref f) = true

section
variable {X : Cx} {pins : List (Addr × Obj)} {σ : St} {H : Hp} {s : Shared} {a C dx : Addr} {fs : List (Str × V)} {f : Str} {v : V} {A : Around} {E : Value → Shared → Prop}

/-- a new instance, tracked, without attributes -/
theorem Inv.made (I : Inv X pins σ H s) : Inv X pins σ (upd (upd H s.heap.objs.size (.own (s.heap.objs.size + 1))) (s.heap.objs.size + 1) (.ins C s.heap.objs.size []))
    { s with heap := (s.heap.push PySem.W.emptyDict).push (PySem.W.instObj C s.heap.objs.size) } := by
  have e1 : (s.heap.push PySem.W.emptyDict).get? s.heap.objs.size = some PySem.W.emptyDict := Heap.get?_push_size s.heap rfl
  have e2 : ((s.heap.push PySem.W.emptyDict).push (PySem.W.instObj C s.heap.objs.size)).get? (s.heap.objs.size + 1) = some (PySem.W.instObj C s.heap.objs.size) := by
    have := Heap.get?_push_size (s.heap.push PySem.W.emptyDict) (o := PySem.W.instObj C s.heap.objs.size) rfl
    rwa [Heap.size_push] at this
  have e3 : (s.heap.push PySem.W.emptyDict).Ns s.heap.objs.size (fun _ => none) := ⟨PySem.W.emptyDict, #[], _, e1, rfl, (fun e he => absurd he (by simp)), fun _ => rfl⟩
  have I1 := I.laid (a := s.heap.objs.size) (o := .own (s.heap.objs.size + 1)) (h' := s.heap.push PySem.W.emptyDict) (t' := s.toks) (fun b u q => Heap.get?_push_of_some _ q) (Nat.le_refl _) ⟨_, e1⟩
  refine I1.laid (a := s.heap.objs.size + 1) (o := .ins C s.heap.objs.size []) (t' := s.toks) (fun b u q => Heap.get?_push_of_some _ q) (Nat.le_of_eq (Heap.size_push _ _)) ?_
  have ne : s.heap.objs.size ≠ s.heap.objs.size + 1 := Nat.ne_of_lt (Nat.lt_succ_self _)
  refine ⟨by rw [upd_ne ne, upd_same], Nat.zero_le _, ne, e2, fun _ => none, (Heap.Ns1.of_empty e3).at fun o q => Heap.get?_push_of_some _ q, fun _ => True.intro, fun y hy => absurd rfl hy⟩

end

/-! ### readings and rules -/
/-- e.f, an attribute of the instance -/
def tFld (K : PySem.W.Frag) (ta : TE) (f : Str) : TE := fun σ H Q => ta σ H fun x H1 => ∃ a C dx fs v, x = .ref a ∧ H1 a = some (.ins C dx fs) ∧ Cls K C ∧ NoAttr K C f ∧ fs.lookup f = some v ∧ Q v H1
/-- e.f, a constant of the class -/
def tCon (K : PySem.W.Frag) (ta : TE) (f : Str) : TE := fun σ H Q => ta σ H fun x H1 => ∃ a C dx fs v u, x = .ref a ∧ H1 a = some (.ins C dx fs) ∧ Cls K C ∧ Con K C f v u ∧ fs.lookup f = none ∧ Q v H1
/-- e.f = value -/
def sFld (K : PySem.W.Frag) (ta tv : TE) (f : Str) : TS := fun D σ H => tv σ H fun y H1 => ta σ H1 fun x H2 => ∃ a C dx fs, x = .ref a ∧ H2 a = some (.ins C dx fs) ∧ Cls K C ∧ NoAttr K C f ∧ fs.length < 1000 ∧
  D.nx σ (upd H2 a (.ins C dx (putF f y fs)))
/-- an augmented operator on two values -/
def InOp (X : Cx) (op : Operator) (rd : V → V → Hp → VK → Prop) : Prop :=
  ∀ (pins : List (Addr × Obj)) (s : Shared) (σ : St) (H : Hp) (x y : V) (u v : Value) (Q : VK), Inv X pins σ H s → RelV x u → RelV y v → rd x y H Q → wpAny (model X.prog X.w) X.A (inplaceOp op u v) (EP X pins σ Q) X.xe s
/-- e.f op= value -/
def sFldAug (K : PySem.W.Frag) (ta tv : TE) (rd : V → V → Hp → VK → Prop) (f : Str) : TS := fun D σ H => ta σ H fun x H1 => ∃ a C dx fs v, x = .ref a ∧ H1 a = some (.ins C dx fs) ∧ Cls K C ∧ NoAttr K C f ∧ fs.lookup f = some v ∧
  tv σ H1 fun y H2 => rd v y H2 fun z H3 => ∃ dx' fs', H3 a = some (.ins C dx' fs') ∧ fs'.length < 1000 ∧ D.nx σ (upd H3 a (.ins C dx' (putF f z fs')))

section
variable {X : Cx} {o e value : Expr} {f : Str} {pos pos' tpos : Pos} {ta tv : TE}
def rAdd : V → V → Hp → VK → Prop := fun x y H Q => ∃ i j, x = .int i ∧ y = .int j ∧ Q (.int (i + j)) H
def rSub : V → V → Hp → VK → Prop := fun x y H Q => ∃ i j, x = .int i ∧ y = .int j ∧ Q (.int (i - j)) H
end

/-! ### isinstance -/
section
variable {X : Cx} {pins : List (Addr × Obj)} {σ : St} {H : Hp} {s : Shared} {A : Around} {E : Value → Shared → Prop} {Q : Value → Shared → Prop} {c : Value} {b : Bool}
/-- the type of a value, as the fragment's deciders take it; for an instance its class -/
inductive TyOf (K : PySem.W.Frag) (H : Hp) : V → Value → Prop where
  | non : TyOf K H .non (.type "NoneType")
  | bl (x : Bool) : TyOf K H (.bl x) (.type "bool")
  | int (i : Int) : TyOf K H (.int i) (.type "int")
  | str (x : Str) : TyOf K H (.str x) (.type "str")
  | flt (x : UInt64) : TyOf K H (.flt x) (.type "float")
  | lst {a : Addr} {xs : List V} (e : H a = some (.lst xs)) : TyOf K H (.ref a) (.type "list")
  | frz {a : Addr} {o : Obj} {xs : List V} (e : H a = some (.frz o (.lst xs))) : TyOf K H (.ref a) (.type "list")
  | tup {a : Addr} {xs : List V} (e : H a = some (.tup xs)) : TyOf K H (.ref a) (.type "tuple")
  | dK {a : Addr} {kvs : List (Key × V)} (e : H a = some (.dK kvs)) : TyOf K H (.ref a) (.type "dict")
  | dT {a : Addr} {kvs : List (List Key × V)} (e : H a = some (.dT kvs)) : TyOf K H (.ref a) (.type "dict")
  | ins {a C dx : Addr} {fs : List (Str × V)} (e : H a = some (.ins C dx fs)) (cl : Cls K C) (ha : PySem.W.findIn K (.ref C) "__class__" = some (some (.builtin "object.__class__")))
      (hn : PySem.W.specialIn K (.builtin "object.__class__") "__get__" = some (some (.builtin "getset_descriptor.__get__"))) (htk : PySem.W.takesIn K (.builtin "object.__class__") = some true)
      (hm : PySem.W.mroIn K C (.type "object") = some true) : TyOf K H (.ref a) (.ref C)
/-- isinstance(x, c) for one class c, a built-in or an own one: kitOne's answer -/
theorem isinst_ok {x : V} {u t : Value} (I : Inv X pins σ H s) (rx : RelV x u) (ty : TyOf X.K H x t) (e : PySem.W.kitOne X.K t c = some b) (h : ∀ tk, Q (.bool b) { s with toks := tk }) :
    wpAny (model X.prog X.w) A (call (.builtin "isinstance") [u, c]) Q E s := by
  cases ty with
  | non => cases (show u = Value.none from rx); exact PySem.W.kia_one PySem.W.kitx_none I.kIn True.intro e (fun z => nomatch z) h
  | bl y => cases (show u = Value.bool y from rx); exact PySem.W.kia_one PySem.W.kitx_bool I.kIn True.intro e (fun z => nomatch z) h
  | int i => obtain ⟨t, q⟩ := (show ∃ t, u = Value.int i t from rx); cases q; exact PySem.W.kia_one PySem.W.kitx_int I.kIn True.intro e (fun z => nomatch z) h
  | str y => obtain ⟨t, q⟩ := (show ∃ t, u = Value.str y t from rx); cases q; exact PySem.W.kia_one PySem.W.kitx_str I.kIn True.intro e (fun z => nomatch z) h
  | flt y => obtain ⟨t, q⟩ := (show ∃ t, u = Value.float y t from rx); cases q; exact PySem.W.kia_one PySem.W.kitx_float I.kIn True.intro e (fun z => nomatch z) h
  | @lst a xs ea =>
    cases (show u = Value.ref a from rx)
    obtain ⟨_, _, n, _, h1⟩ := (show ObjOk X.prog X.w H s.heap a (.lst xs) from I.hok a _ ea)
    exact PySem.W.kia_one PySem.W.kitx_list I.kIn ⟨_, h1, rfl⟩ e (fun z => nomatch z) h
  | @frz a ob xs ea =>
    cases (show u = Value.ref a from rx)
    obtain ⟨_, _, _, n, _, h1⟩ := (show ObjOk X.prog X.w H s.heap a (.frz ob (.lst xs)) from I.hok a _ ea)
    exact PySem.W.kia_one PySem.W.kitx_list I.kIn ⟨_, h1, rfl⟩ e (fun z => nomatch z) h
  | @tup a xs ea =>
    cases (show u = Value.ref a from rx)
    obtain ⟨_, _, _, p⟩ := (show ObjOk X.prog X.w H s.heap a (.tup xs) from I.hok a _ ea)
    obtain ⟨o, h1, h2, _⟩ := p
    exact PySem.W.kia_one PySem.W.kitx_tuple I.kIn ⟨o, h1, h2⟩ e (fun z => nomatch z) h
  | @dK a kvs ea =>
    cases (show u = Value.ref a from rx)
    obtain ⟨_, _, vs, _, p⟩ := (show ObjOk X.prog X.w H s.heap a (.dK kvs) from I.hok a _ ea)
    obtain ⟨o, es, ep, h1, h2, _⟩ := p
    exact PySem.W.kia_one PySem.W.kitx_dict I.kIn ⟨o, h1, h2.1⟩ e (fun z => nomatch z) h
  | @dT a kvs ea =>
    cases (show u = Value.ref a from rx)
    obtain ⟨_, _, xs, _, o, es, ep, h1, h2, _⟩ := (show ObjOk X.prog X.w H s.heap a (.dT kvs) from I.hok a _ ea)
    exact PySem.W.kia_one PySem.W.kitx_dict I.kIn ⟨o, h1, h2.1⟩ e (fun z => nomatch z) h
  | @ins a C dx fs ea cl ha hn htk hm =>
    cases (show u = Value.ref a from rx)
    obtain ⟨mA, O, _⟩ := ins_get I.hok ea
    obtain ⟨od, J, _⟩ := O.look
    exact PySem.W.kia_one (PySem.W.kitx_own (cl.get _) cl.hd ha hn htk hm) I.kIn J e (fun z => nomatch z) h
end
end L2

namespace L2
open PySem PySem.Spec PyProof.Rows

/-! ### room -/
structure Room (k : Nat) (A : Around) : Prop where
  hd : A.handled = none
  dp : A.depth + 3 * k + 5 < recursionLimit
  un : A.units + 16 * k + 200 < cLine
theorem Room.mono {j k : Nat} {A : Around} (r : Room k A) (h : j ≤ k) : Room j A := ⟨r.hd, by have := r.dp; omega, by have := r.un; omega⟩
theorem Room.deeper {k : Nat} {A : Around} (r : Room (k + 1) A) (env : Env) : Room k (A.deeper env) :=
  ⟨r.hd, by have := r.dp; show A.depth + 1 + 3 * k + 5 < _; omega, by have := r.un; show A.units + 3 + 16 * k + 200 < _; omega⟩
theorem Room.in1 {k : Nat} {A : Around} (r : Room (k + 1) A) : Room k A.in1 :=
  ⟨r.hd, by have := r.dp; show A.depth + 3 * k + 5 < _; omega, by have := r.un; show A.units + 1 + 16 * k + 200 < _; omega⟩
theorem make_depth {A : Around} {C : Addr} {us : List Value} {kw : List (Str × Value)} : (A.under (.builtin "type.__call__" ⟨.ref C :: us, kw⟩)).depth = A.depth + 1 := by
  first | rfl | simp [Around.under, Code.weight, Code.isCreation, Code.isGuard, Code.isCaller, Code.frames, Code.isFrame, guardIds]
theorem make_units {A : Around} {C : Addr} {us : List Value} {kw : List (Str × Value)} : (A.under (.builtin "type.__call__" ⟨.ref C :: us, kw⟩)).units = A.units + 1 := by
  first | rfl | simp [Around.under, Code.cUnits, Code.frames, Code.isFrame]
theorem Room.make {k : Nat} {A : Around} (r : Room (k + 1) A) (C : Addr) (us : List Value) (kw : List (Str × Value)) : Room k (A.under (.builtin "type.__call__" ⟨.ref C :: us, kw⟩)) :=
  ⟨r.hd, by have := r.dp; rw [make_depth]; omega, by have := r.un; rw [make_units]; omega⟩
theorem Room.depth {k : Nat} {A : Around} (r : Room k A) : A.depth < recursionLimit := by have := r.dp; omega
theorem Room.units {k : Nat} {A : Around} (r : Room k A) : A.units + 64 < cLine := by have := r.un; omega
/-! ### argument lists and displays -/
def tNil : TA := fun _ H Q => Q [] H
def tCons (ta : TE) (tr : TA) : TA := fun σ H Q => ta σ H fun x H1 => tr σ H1 fun xs H2 => Q (x :: xs) H2
section
variable {X : Cx} {e : Expr} {es : List Expr} {te : TE} {t : TA} {pos : Pos}
theorem pa_nil : PA X [] tNil := fun _ _ _ _ H Q I h => Calls.spliced_nil ⟨[], H, I, .nil, h⟩
theorem pa_cons (ha : PE X e te) (hr : PA X es t) (hs : starEach (e :: es) X.env = (false, eval e X.env) :: starEach es X.env := by rfl) : PA X (e :: es) (tCons te t) := by
  intro pos pins s σ H Q I h
  rw [hs]
  show wpAny _ _ (spliced ((false, eval e X.env) :: backTo pos (starEach es X.env))) _ _ s
  refine Calls.spliced_cons (thn (ha pins s σ H _ I h) fun u s1 ⟨x, H1, I1, r1, q1⟩ => ?_)
  exact thn (hr pos pins s1 σ H1 _ I1 q1) fun us s2 ⟨xs, H2, I2, r2, q2⟩ => ⟨x :: xs, H2, I2, .cons r1 r2, q2⟩

/-- a tuple, a list of written items -/
def tTup (t : TA) : TE := fun σ H Q => t σ H fun xs H1 => xs.length ≤ sizeLine ∧ ∀ p, H1 p = none → Q (.ref p) (upd H1 p (.tup xs))
def tLst (t : TA) : TE := fun σ H Q => t σ H fun xs H1 => xs.length ≤ sizeLine ∧ ∀ p, H1 p = none → Q (.ref p) (upd H1 p (.lst xs))
theorem pe_tup {x1} (h : PA X es t) : PE X (.Tuple es x1 pos) (tTup t) := by
  intro pins s σ H Q I hq
  refine wpAny_Tuple_spliced (thn (h pos pins s σ H _ I hq) fun us s1 ⟨xs, H1, I1, r, z, q⟩ => ⟨by rw [← r.length]; exact z, ?_⟩)
  have hf : H1 s1.heap.objs.size = none := I1.hok.fresh (Nat.le_refl _)
  refine ⟨.ref s1.heap.objs.size, upd H1 s1.heap.objs.size (.tup xs), I1.laid (t' := s1.toks) (fun b u e => Heap.get?_push_of_some _ e) (Nat.le_refl _) ?_, rfl, q _ hf⟩
  exact ⟨z, us, r, ⟨_, Heap.get?_push_size _ rfl, rfl, _, rfl⟩⟩
theorem pe_lst (h : PA X es t) : PE X (.List es pos) (tLst t) := by
  intro pins s σ H Q I hq
  refine wpAny_List_spliced (thn (h pos pins s σ H _ I hq) fun us s1 ⟨xs, H1, I1, r, z, q⟩ => ⟨by rw [← r.length]; exact z, ?_⟩)
  have hf : H1 s1.heap.objs.size = none := I1.hok.fresh (Nat.le_refl _)
  refine ⟨.ref s1.heap.objs.size, upd H1 s1.heap.objs.size (.lst xs), I1.laid (t' := s1.toks) (fun b u e => Heap.get?_push_of_some _ e) (Nat.le_refl _) ?_, rfl, q _ hf⟩
  exact ⟨z, us, 0, r, Heap.get?_push_size _ rfl⟩
end

/-! ### what a def promises -/
/-- a def's promise: the bound arguments in the parameters' order, the heap, the wanted end, the wanted exception -/
abbrev Sp := List V → Hp → VK → XK → Prop
/-- how an exception lies behind a call (file 08 gives it): the callers' frames, abstract heap and state ahead of the call, the wish, the exception, the state -/
abbrev CXT := List Env → Hp → Shared → XK → Value → Shared → Prop

/-- the state at a call -/
structure Env0 (P : Program) (w : World) (K : PySem.W.Frag) (mg : Str → Option Value) (base : Heap) (A : Around) (outer : List Env) (s : Shared) (H : Hp) : Prop where
  frames : A.frames = some outer
  mod : Mod K mg base
  bs : ∀ b o, base.get? b = some o → s.heap.get? b = some o ∧ H b = none
  bsz : base.objs.size ≤ s.heap.objs.size
  funs : s.heap.FunFrames base outer
  frf : ∀ b ∈ frs outer, H b = none
  hok : HOk P w H s.heap
  bare : AllBare s.gens
/-- a call's end -/
def CE (outer : List Env) (P : Program) (w : World) (H : Hp) (s : Shared) (Q : VK) (u : Value) (s' : Shared) : Prop :=
  ∃ v H', s'.os = s.os ∧ AllBare s'.gens ∧ Un (frs outer) [] H H' s.heap s'.heap ∧ HOk P w H' s'.heap ∧ RelV v u ∧ Q v H'
def CR (CX : CXT) (outer : List Env) (P : Program) (w : World) (H : Hp) (s : Shared) (Q : VK) (E : XK) (r : Result) (s' : Shared) : Prop :=
  match r with
  | .ok (.ret u) => CE outer P w H s Q u s'
  | .ok _ => False
  | .error e => CX outer H s E e s'
structure FnOk (P : Program) (w : World) (K : PySem.W.Frag) (mg : Str → Option Value) (base : Heap) (CX : CXT) (k : Nat) (f : Addr) (fd : FuncData) (ps : List Str) (sp : Sp) : Prop where
  len : ∀ vs H Q E, sp vs H Q E → vs.length = ps.length
  run : ∀ (A : Around) (outer : List Env) (s : Shared) (H : Hp) (args : Args) (us : List Value) (vs : List V) (Q : VK) (E : XK), Room k A → Env0 P w K mg base A outer s H → BindsTo s fd args (ps.zip us) → Vals vs us → sp vs H Q E →
    codeAny (model P w) A (.call (.ref f) args) (CR CX outer P w H s Q E) s
theorem FnOk.mono {P : Program} {w : World} {K : PySem.W.Frag} {mg : Str → Option Value} {base : Heap} {CX : CXT} {j k : Nat} {f : Addr} {fd : FuncData} {ps : List Str} {sp : Sp} (F : FnOk P w K mg base CX j f fd ps sp) (h : j ≤ k) :
    FnOk P w K mg base CX k f fd ps sp := ⟨F.len, fun A outer s H args us vs Q E hr => F.run A outer s H args us vs Q E (hr.mono h)⟩
/-- a weaker promise -/
theorem FnOk.imp {P : Program} {w : World} {K : PySem.W.Frag} {mg : Str → Option Value} {base : Heap} {CX : CXT} {k : Nat} {f : Addr} {fd : FuncData} {ps : List Str} {sp sp' : Sp} (F : FnOk P w K mg base CX k f fd ps sp)
    (h : ∀ vs H Q E, sp' vs H Q E → sp vs H Q E) : FnOk P w K mg base CX k f fd ps sp' :=
  ⟨fun vs H Q E q => F.len vs H Q E (h _ _ _ _ q), fun A outer s H args us vs Q E hr he hb hv hs => F.run A outer s H args us vs Q E hr he hb hv (h _ _ _ _ hs)⟩

theorem Env0.make {P : Program} {w : World} {K : PySem.W.Frag} {mg : Str → Option Value} {base : Heap} {A : Around} {outer : List Env} {s : Shared} {H : Hp} (e : Env0 P w K mg base A outer s H) (C : Addr) (us : List Value) (kw : List (Str × Value)) :
    Env0 P w K mg base (A.under (.builtin "type.__call__" ⟨.ref C :: us, kw⟩)) outer s H := ⟨by first | exact e.frames | (simpa [Around.under, Code.envs, Code.isFrame, pushEnvs] using e.frames), e.mod, e.bs, e.bsz, e.funs, e.frf, e.hok, e.bare⟩
theorem Env0.in1 {P : Program} {w : World} {K : PySem.W.Frag} {mg : Str → Option Value} {base : Heap} {A : Around} {outer : List Env} {s : Shared} {H : Hp} (e : Env0 P w K mg base A outer s H) :
    Env0 P w K mg base A.in1 outer s H := ⟨e.frames, e.mod, e.bs, e.bsz, e.funs, e.frf, e.hok, e.bare⟩

section
variable {X : Cx} {pins : List (Addr × Obj)} {σ : St} {H : Hp} {s s' : Shared}
/-- from a body: what a callee wants -/
theorem Inv.env0 (I : Inv X pins σ H s) : Env0 X.prog X.w X.K X.mg X.base X.A X.stack s H :=
  ⟨I.ok.frames, I.ok.mod, I.bs, Nat.le_trans I.ok.bsz I.sz, I.stack, I.stkFree, I.hok, I.bare⟩
/-- behind a call -/
theorem Inv.after {Q : VK} {u : Value} (I : Inv X pins σ H s) (h : CE X.stack X.prog X.w H s Q u s') : EP X pins σ Q u s' := by
  obtain ⟨v, H', os, bare, un, hok, r, q⟩ := h
  obtain ⟨hh, g, d, t, os'⟩ := s'
  obtain rfl : os' = s.os := os
  exact ⟨v, H', I.call (h' := hh) (g' := g) (d' := d) (t' := t) (ch := []) un hok bare (fun b z => absurd z (by simp)), r, q⟩
end

/-! ### calls -/
/-- f(..): the written arguments, then the defaults dvs; E: what is wanted of an exception -/
def tCall (sp : Sp) (dvs : List V) (E : XK) (t : TA) : TE := fun σ H Q => t σ H fun vs H1 => sp (vs ++ dvs) H1 Q E
/-- o.m(..) of an instance of the class at C -/
def tMeth (C : Addr) (m : Str) (sp : Sp) (dvs : List V) (E : XK) (ta : TE) (t : TA) : TE := fun σ H Q => ta σ H fun x H1 => ∃ a dx fs, x = .ref a ∧ H1 a = some (.ins C dx fs) ∧ fs.lookup m = none ∧
  t σ H1 fun vs H2 => sp (x :: (vs ++ dvs)) H2 Q E
/-- C(..): a new instance and its dict, then __init__ -/
def tMake (C : Addr) (sp : Sp) (dvs : List V) (E : XK) (t : TA) : TE := fun σ H Q => t σ H fun vs H1 => ∀ x dx, H1 x = none → H1 dx = none → dx ≠ x →
  sp (.ref x :: (vs ++ dvs)) (upd (upd H1 dx (.own x)) x (.ins C dx [])) (fun v H2 => v = .non ∧ Q (.ref x) H2) E

/-- how the parameters are bound: us the positional arguments, kw the keywords' values by name, ds the defaults that fill up -/
def Binds (K : PySem.W.Frag) (fd : FuncData) (ps : List Str) (ds : List Value) : Prop :=
  ∀ (s : Shared) (us : List Value), K.In s.heap → (us ++ ds).length = ps.length → BindsTo s fd ⟨us, []⟩ (ps.zip (us ++ ds))
/-- every parameter is given -/
theorem Binds.all {K : PySem.W.Frag} {fd : FuncData} {ps : List Str} (h : ∀ us : List Value, us.length = ps.length → bindArgs fd ⟨us, []⟩ = pure (ps.zip us)) : Binds K fd ps [] := fun s us _ hl => by
  rw [List.append_nil] at hl ⊢
  exact .of_eq (h us hl)

/-- an exception of a callee reaches what this body wants of exceptions -/
def Passes (CX : CXT) (X : Cx) (E : XK) : Prop := ∀ (pins : List (Addr × Obj)) (σ : St) (H : Hp) (s : Shared) (e : Value) (s' : Shared), Inv X pins σ H s → CX X.stack H s E e s' → X.xe e s'

section
variable {X : Cx} {CX : CXT} {k : Nat} {f C : Addr} {fd : FuncData} {ps : List Str} {sp : Sp} {dvs : List V} {ds : List Value} {E : XK} {x m : Str} {p pos apos : Pos} {e o : Expr} {es : List Expr} {ta : TE} {t : TA}

/-- the callee runs -/
theorem run_fn {pins : List (Addr × Obj)} {σ : St} {H : Hp} {s : Shared} {Q : VK} {us : List Value} {vs : List V} (F : FnOk X.prog X.w X.K X.mg X.base CX k f fd ps sp) (hr : Room k X.A) (hb : Binds X.K fd ps ds) (hd : Vals dvs ds) (hx : Passes CX X E)
    (I : Inv X pins σ H s) (r : Vals vs us) (h : sp (vs ++ dvs) H Q E) : wpAny (model X.prog X.w) X.A (call (.ref f) us) (EP X pins σ Q) X.xe s := by
  have r2 : Vals (vs ++ dvs) (us ++ ds) := r.append hd
  have hl : (us ++ ds).length = ps.length := by rw [← r2.length]; exact F.len _ _ _ _ h
  refine wpAny_call (codeAny_mono (F.run X.A X.stack s H ⟨us, []⟩ (us ++ ds) (vs ++ dvs) Q E hr I.env0 (hb s us I.kIn hl) r2 h) fun r s' hq => ?_)
  cases r with
  | error e => exact hx pins σ H s e s' I hq
  | ok fl =>
    cases fl with
    | ret u => exact I.after hq
    | next => exact False.elim hq
    | brk => exact False.elim hq
    | cont => exact False.elim hq

theorem pe_call (F : FnOk X.prog X.w X.K X.mg X.base CX k f fd ps sp) (hr : Room k X.A) (hg : Gl X x) (hm : X.mg x = some (.ref f)) (hk : PySem.W.keepIn X.K (.ref f) = true) (hb : Binds X.K fd ps ds) (hd : Vals dvs ds) (hx : Passes CX X E)
    (ha : PA X (e :: es) t) (hdb : (x == ("__debug__" : Str)) = false := by decide) (he : starEach (e :: es) X.env = (false, eval e X.env) :: starEach es X.env := by rfl) (hpl : (backTo pos (starEach es X.env)).any (·.1) = false := by rfl) :
    PE X (.Call (.Name x p) (e :: es) [] pos) (tCall sp dvs E t) := by
  intro pins s σ H Q I h
  refine wpAny_Call_Name_kw (ld_glob I hg hm ?_ hdb)
  refine PySem.W.callWith_K (h₀ := X.base) I.ok.mod.kin hk (thn (ha pos pins s σ H _ I h) fun us s1 ⟨vs, H1, I1, r, q⟩ => ⟨I1.kIn, ?_⟩) he hpl
  exact run_fn F hr hb hd hx I1 r q
/-- what a class must have to be made -/
structure Mk (K : PySem.W.Frag) (C f : Addr) : Prop where
  makes : PySem.W.makesIn K C = true
  init : PySem.W.findIn K (.ref C) "__init__" = some (some (.ref f))
  fn : PySem.W.isFn K (.ref f) = true
  kp : PySem.W.keepIn K (.ref C) = true

end

/-! ### keywords -/
/-- the values of the keywords, from the left -/
def PK (X : Cx) (kws : List Keyword) (t : TA) : Prop :=
  ∀ (pos : Pos) (pins : List (Addr × Obj)) (s : Shared) (σ : St) (H : Hp) (Q : List V → Hp → Prop), Inv X pins σ H s → t σ H Q → wpAny (model X.prog X.w) X.A (evalAll ((backToKw pos (keywordEach kws X.env)).map (·.2))) (AP X pins σ Q) X.xe s
section
variable {X : Cx} {CX : CXT} {k : Nat} {f C : Addr} {fd : FuncData} {ps ks : List Str} {sp : Sp} {E : XK} {x m : Str} {p pos apos kpos : Pos} {e o : Expr} {es : List Expr} {kws : List Keyword} {te ta : TE} {t tk : TA} {nm : Option Str}
/-- how a call with keywords binds: g puts the positional values us and the keywords' values ws (names ks) in the parameters' order, defaults among them -/
structure KBinds (K : PySem.W.Frag) (fd : FuncData) (ps ks : List Str) (g : List Value → List Value → List Value) (gV : List V → List V → List V) : Prop where
  to : ∀ (s : Shared) (us ws : List Value), K.In s.heap → (g us ws).length = ps.length → BindsTo s fd ⟨us, ks.zip ws⟩ (ps.zip (g us ws))
  rel : ∀ {vs : List V} {us : List Value} {zs : List V} {ws : List Value}, Vals vs us → Vals zs ws → Vals (gV vs zs) (g us ws)
def tCallK (sp : Sp) (gV : List V → List V → List V) (E : XK) (t tk : TA) : TE := fun σ H Q => t σ H fun vs H1 => tk σ H1 fun zs H2 => sp (gV vs zs) H2 Q E
variable {g : List Value → List Value → List Value} {gV : List V → List V → List V}
end

/-! ### a def's body keeps its promise -/
/-- names: the parameters first -/
structure FnScope (N P : List Str) (sc : Scope) : Prop where
  kind : sc.kind = .function
  co : sc.isCoroutine = false
  gen : sc.isGenerator = false
  nd : N.Nodup
  pre : N.take P.length = P
  par : ∀ x ∈ P, sc.names.lookup x = some .local ∨ sc.names.lookup x = some .cell
  nofree : ∀ y ∈ sc.names, y.2 ≠ .free

theorem bindL_out {kindOf : Str → Option NameKind} {x : Str} : ∀ {binds : List (Str × Value)} {m : Str → Option Value}, (∀ v, (x, v) ∉ binds) → bindL kindOf binds m x = m x
  | [], _, _ => rfl
  | (n, v) :: r, m, h => by
    unfold bindL
    rw [bindL_out fun w hw => h w (List.mem_cons_of_mem _ hw)]
    split
    · have : x ≠ n := by rintro rfl; exact h v List.mem_cons_self
      simp [this]
    · rfl
theorem bindC_out {kindOf : Str → Option NameKind} {x : Str} : ∀ {binds : List (Str × Value)} {m : Str → Option Value}, (∀ v, (x, v) ∉ binds) → bindC kindOf binds m x = m x
  | [], _, _ => rfl
  | (n, v) :: r, m, h => by
    unfold bindC
    rw [bindC_out fun w hw => h w (List.mem_cons_of_mem _ hw)]
    split
    · rfl
    · have : x ≠ n := by rintro rfl; exact h v List.mem_cons_self
      simp [this]
theorem bindL_get {kindOf : Str → Option NameKind} {x : Str} {v : Value} : ∀ {P : List Str} {vs : List Value} {i : Nat} {m : Str → Option Value}, P.Nodup → P[i]? = some x → vs[i]? = some v → kindOf x = some .local →
    bindL kindOf (P.zip vs) m x = some v
  | [], _, _, _, _, h, _, _ => by simp at h
  | _ :: _, [], _, _, _, _, h, _ => by simp at h
  | p :: P, w :: vs, 0, m, nd, h1, h2, hk => by
    simp at h1 h2; subst h1; subst h2
    show bindL kindOf ((p, w) :: P.zip vs) m p = _
    unfold bindL
    rw [bindL_out fun v hv => (List.nodup_cons.mp nd).1 (List.of_mem_zip hv).1, if_pos hk]
    simp
  | p :: P, w :: vs, i + 1, m, nd, h1, h2, hk => by
    show bindL kindOf ((p, w) :: P.zip vs) m x = _
    unfold bindL
    exact bindL_get (i := i) (List.nodup_cons.mp nd).2 (by simpa using h1) (by simpa using h2) hk
theorem bindC_get {kindOf : Str → Option NameKind} {x : Str} {v : Value} : ∀ {P : List Str} {vs : List Value} {i : Nat} {m : Str → Option Value}, P.Nodup → P[i]? = some x → vs[i]? = some v → kindOf x ≠ some .local →
    bindC kindOf (P.zip vs) m x = some v
  | [], _, _, _, _, h, _, _ => by simp at h
  | _ :: _, [], _, _, _, _, h, _ => by simp at h
  | p :: P, w :: vs, 0, m, nd, h1, h2, hk => by
    simp at h1 h2; subst h1; subst h2
    show bindC kindOf ((p, w) :: P.zip vs) m p = _
    unfold bindC
    rw [bindC_out fun v hv => (List.nodup_cons.mp nd).1 (List.of_mem_zip hv).1, if_neg hk]
    simp
  | p :: P, w :: vs, i + 1, m, nd, h1, h2, hk => by
    show bindC kindOf ((p, w) :: P.zip vs) m x = _
    unfold bindC
    exact bindC_get (i := i) (List.nodup_cons.mp nd).2 (by simpa using h1) (by simpa using h2) hk

/-- the names' values at the entry -/
def start (N : List Str) (vs : List V) : St := vs.map some ++ List.replicate (N.length - vs.length) none

/-- the context of a def's body, at its entry; an exception leaves the frame, then lies as CX says -/
def cxOf (CX : CXT) (P : Program) (w : World) (K : PySem.W.Frag) (mg : Str → Option Value) (base : Heap) (N : List Str) (qual : Str) (scope : Scope) (f : Addr) (cd : Value) (A : Around) (outer : List Env) (s : Shared) (H : Hp) (E : XK) : Cx where
  prog := P
  w := w
  K := K
  mg := mg
  base := base
  A := A.deeper (envOfC qual scope s.heap.objs.size f cd)
  N := N
  s₀ := s
  H₀ := H
  env := envOfC qual scope s.heap.objs.size f cd
  outer := outer
  stack := envOfC qual scope s.heap.objs.size f cd :: outer
  ex := []
  calm := true
  fn := fun _ => true
  pn := []
  xe := fun e s' => wpAny (model P w) (A.deeper (envOfC qual scope s.heap.objs.size f cd)) (leaving (envOfC qual scope s.heap.objs.size f cd) e) (fun _ s'' => CX outer H s E e s'') (fun e' s'' => CX outer H s E e' s'') s'

theorem cell_has {sc : Scope} {n : Nat} {x : Str} (h : sc.names.lookup x = some .cell) : ∃ c, (cellsFrom n sc.names []).lookup x = some c := by
  have q := PySem.W.cellsFrom_some sc.names n [] (.inl h)
  exact Option.isSome_iff_exists.mp q

theorem inv_start {CX : CXT} {P : Program} {w : World} {K : PySem.W.Frag} {mg : Str → Option Value} {base : Heap} {N ps : List Str} {qual : Str} {scope : Scope} {f : Addr} {cd : Value} {A : Around} {outer : List Env} {s s1 : Shared} {H : Hp} {E : XK} {us : List Value} {vs : List V}
    (S : FnScope N ps scope) (hd : A.handled = none) (e0 : Env0 P w K mg base A outer s H) (hl : vs.length = ps.length) (r : Vals vs us)
    (x : InCallC s s.heap.objs.size (bindL (envOfC qual scope s.heap.objs.size f cd).kindOf (ps.zip us) fun _ => none) (cellsFrom (s.heap.objs.size + 1) scope.names []) (bindC (envOfC qual scope s.heap.objs.size f cd).kindOf (ps.zip us) fun _ => none) s1) :
    Inv (cxOf CX P w K mg base N qual scope f cd A outer s H E) [] (start N vs) H s1 := by
  have hpl : ps.length ≤ N.length := by have := congrArg List.length S.pre; rw [List.length_take] at this; omega
  obtain ⟨h1, tk, rfl, hk⟩ := x.done
  have noA : ∀ b : Addr, b ∉ (cxOf CX P w K mg base N qual scope f cd A outer s H E).ex := fun b z => absurd (show b ∈ ([] : List Addr) from z) (by simp)
  refine ⟨⟨e0.mod, S.kind, rfl, rfl, Nat.le_refl _, fun y z c h1 h2 => ?_, fun y hy => ?_, fun y c _ h => ?_, fun _ => hd, Around.frames_deeper e0.frames, .inr ⟨rfl, rfl⟩, fun b z => absurd z (noA b), e0.bs, e0.bsz, fun b _ _ => noA b, fun b z => absurd z (noA b), e0.funs, e0.frf⟩,
    rfl, e0.bare, Un.kept hk, ⟨_, x.toInCall.ns, fun i y v h1 h2 h3 => ?_⟩, fun y c h => ⟨_, x.cell y c h⟩, e0.hok.fresh (Nat.le_refl _), fun y c h => ?_, fun p hp => absurd (show p ∈ ([] : List (Addr × Obj)) from hp) (by simp), e0.hok.kept hk, ?_⟩
  · exact name_of_addr x.apart (PySem.mem_of_lookup h1) (PySem.mem_of_lookup h2)
  · have hy : scope.names.lookup y = some .cell ∨ scope.names.lookup y = some .free := hy
    rcases hy with hy | hy
    · exact cell_has hy
    · exact absurd rfl (S.nofree _ (PySem.mem_of_lookup hy))
  · exact Nat.le_of_lt (x.above y c (PySem.mem_of_lookup h))
  · have hi : i < vs.length := by
      unfold start at h2
      by_cases hi : i < vs.length
      · exact hi
      · rw [List.getElem?_append_right (by simpa using hi)] at h2
        rw [List.getElem?_replicate] at h2
        split at h2 <;> cases h2
    have ha : vs[i]? = some v := by
      unfold start at h2
      rw [List.getElem?_append_left (by simpa using hi), List.getElem?_map] at h2
      cases e : vs[i]? with
      | none => rw [e] at h2; cases h2
      | some a => rw [e] at h2; cases h2; rfl
    obtain ⟨u, hu, rv⟩ := r.get ha
    have hp : ps[i]? = some y := by
      rw [← S.pre, List.getElem?_take_of_lt (by omega)]; exact h1
    have ndP : ps.Nodup := by rw [← S.pre]; exact S.nd.sublist (List.take_sublist _ _)
    refine ⟨u, rv, ?_⟩
    rcases S.par y (List.mem_of_getElem? hp) with k | k
    · exact .inl ⟨k, bindL_get ndP hp hu k⟩
    · obtain ⟨c, e⟩ := cell_has (n := s.heap.objs.size + 1) k
      refine .inr ⟨.inl k, c, e, ?_⟩
      have q := x.cell y c e
      rw [bindC_get ndP hp hu (by show scope.names.lookup y ≠ _; rw [k]; decide)] at q
      exact q
  · exact e0.hok.fresh (Nat.le_of_lt (x.above y c (PySem.mem_of_lookup h)))
  · unfold start
    show _ = N.length
    rw [List.length_append, List.length_map, List.length_replicate]
    omega

/-- THE RULE: a def (or a method) of the text, by its body. The body's reading t is chosen for each entry; it is run at the parameters' values -/
theorem fn_of {CX : CXT} {P : Program} {w : World} {K : PySem.W.Frag} {mg : Str → Option Value} {base : Heap} {k : Nat} {f : Addr} {name qual : Str} {params : Arguments} {body : List Stmt} {scope : Scope} {dV kV doc pm cdv ct oc : Value} {an od : Option Addr}
    {osl : Array (Option Value)} {N ps : List Str} {sp : Sp} (lk : K.lookup f = some ⟨oc, od, .func (PySem.W.fnOf name qual params body scope dV kV doc pm an cdv ct), osl⟩) (hcd : PySem.W.codeIn K cdv qual = true) (S : FnScope N ps scope)
    (len : ∀ vs H Q E, sp vs H Q E → vs.length = ps.length)
    (hbody : ∀ (A : Around) (outer : List Env) (s : Shared) (H : Hp) (vs : List V) (Q : VK) (E : XK), Room k (A.deeper (envOfC qual scope s.heap.objs.size f cdv)) → sp vs H Q E →
      ∃ t, PSs (cxOf CX P w K mg base N qual scope f cdv A outer s H E) body t ∧ t { nx := fun _ H' => Q .non H', rt := Q } (start N vs) H) :
    FnOk P w K mg base CX (k + 1) f (PySem.W.fnOf name qual params body scope dV kV doc pm an cdv ct) ps sp := by
  refine ⟨len, fun A outer s H args us vs Q E hr e0 hb r hsp => ?_⟩
  have hl := len _ _ _ _ hsp
  have KX : K.In s.heap := e0.mod.kin.keeps fun b o e => (e0.bs b o e).1
  have lim : s.heap.NoLimit := e0.mod.nolimit.keeps fun b o e => (e0.bs b o e).1
  have hkind : ∀ y ∈ ps.zip us, scope.names.lookup y.1 = some .local ∨ (scope.names.lookup y.1 = some .cell ∧ ((cellsFrom (s.heap.objs.size + 1) scope.names []).lookup y.1).isSome = true) := fun ⟨n, v⟩ hy => by
    rcases S.par n (List.of_mem_zip hy).1 with q | q
    · exact .inl q
    · exact .inr ⟨q, PySem.W.cellsFrom_some _ _ _ (.inl q)⟩
  refine codeAny_call_function hr.depth (KX _ _ lk) rfl S.co S.gen rfl (PySem.W.codeRec_of KX hcd) (hb _ _ _ _ ?_)
  refine wpAny_newFunctionEnv_cells S.kind hkind fun env he s1 x => ?_
  subst he
  refine ⟨lim.keeps x.toInCall.keep, codeAny_func ?_⟩
  obtain ⟨t, ht, hq⟩ := hbody A outer s H vs Q E (hr.deeper _) hsp
  have I : Inv (cxOf CX P w K mg base N qual scope f cdv A outer s H E) [] (start N vs) H s1 := inv_start S hr.hd e0 hl r x
  refine wpAny_mono (ht [] s1 (start N vs) H _ I hq) (fun fl s' hs => ?_) fun e s' hs => hs
  have fin : ∀ {σ' : St} {H' : Hp} {v : V} {u : Value}, Inv (cxOf CX P w K mg base N qual scope f cdv A outer s H E) [] σ' H' s' → RelV v u → Q v H' → CE outer P w H s Q u s' :=
    fun {σ' H' v u} J rv q => ⟨v, H', J.os, J.bare, J.base, J.hok, rv, q⟩
  cases fl with
  | ret u =>
    obtain ⟨v, σ', H', J, rv, q⟩ := hs
    exact fin J rv q
  | next =>
    obtain ⟨σ', H', J, q⟩ := hs
    exact fin (v := V.non) (u := Value.none) J rfl q
  | brk =>
    obtain ⟨_, _, _, q⟩ := hs
    exact False.elim q
  | cont =>
    obtain ⟨_, _, _, q⟩ := hs
    exact False.elim q
end L2

namespace L2
open PySem PySem.Spec PyProof.Rows
section
variable {X : Cx} {x : Str} {p pos : Pos} {e : Expr} {es : List Expr} {t : TA} {id T : String} {r : List V → Hp → VK → Prop}

def tCB (r : List V → Hp → VK → Prop) (t : TA) : TE := fun σ H Q => t σ H fun vs H1 => r vs H1 Q
/-- f(e, ..), f a built-in function -/
theorem pe_callB (hc : CallR X (.builtin id) r) (hg : Gl X x) (hm : X.mg x = none) (hv : bootBuiltins x = some (.builtin id)) (ha : PA X (e :: es) t) (hn : x ≠ "__name__" := by decide) (hdb : (x == ("__debug__" : Str)) = false := by decide)
    (he : starEach (e :: es) X.env = (false, eval e X.env) :: starEach es X.env := by rfl) (hpl : (backTo pos (starEach es X.env)).any (·.1) = false := by rfl) : PE X (.Call (.Name x p) (e :: es) [] pos) (tCB r t) := by
  intro pins s σ H Q I h
  refine wpAny_Call_Name_kw (ld_blt I hg hm hv ?_ hn hdb)
  exact PyProof.Rows.callWith_builtin1 (thn (ha pos pins s σ H _ I h) fun us s1 ⟨vs, H1, I1, r1, q1⟩ => hc pins s1 σ H1 vs us Q I1 r1 q1) he hpl
/-- T(e, ..), T a built-in type -/
theorem pe_callTy (hc : CallR X (.type T) r) (hg : Gl X x) (hm : X.mg x = none) (hv : bootBuiltins x = some (.type T)) (ha : PA X (e :: es) t) (hn : x ≠ "__name__" := by decide) (hdb : (x == ("__debug__" : Str)) = false := by decide)
    (he : starEach (e :: es) X.env = (false, eval e X.env) :: starEach es X.env := by rfl) (hpl : (backTo pos (starEach es X.env)).any (·.1) = false := by rfl) : PE X (.Call (.Name x p) (e :: es) [] pos) (tCB r t) := by
  intro pins s σ H Q I h
  refine wpAny_Call_Name_kw (ld_blt I hg hm hv ?_ hn hdb)
  exact PyProof.Rows.callWith_type1 (thn (ha pos pins s σ H _ I h) fun us s1 ⟨vs, H1, I1, r1, q1⟩ => hc pins s1 σ H1 vs us Q I1 r1 q1) he hpl
end
end L2

namespace HT
open PySem PyProof.Rows

/-- t < u of tuples of ints -/
def lexLt : List Int → List Int → Bool
  | [], [] => false
  | [], _ :: _ => true
  | _ :: _, [] => false
  | x :: xs, y :: ys => if x = y then lexLt xs ys else decide (x < y)
section
open PySem.SeqAt
open PySem.AutoSeq1 (wpAny_loadPart')
open PySem.MeetsSeq PySem.MeetsSeq2 PySem.MeetsSeq3

end

section
variable {prog : Program} {w : World} {A : Around} {E : Value → Shared → Prop} {s : Shared}

/-! ### t[a:b], not the whole -/
/-- a slice's bound as a place among n (d where it is left out) -/
def sIx (n d : Nat) : Option Int → Nat
  | none => d
  | some v => if v < 0 then (v + (n : Int)).toNat else min v.toNat n
theorem sIx_le (n d : Nat) (hd : d ≤ n) (o : Option Int) : sIx n d o ≤ n := by
  cases o with
  | none => exact hd
  | some v =>
    show (if v < 0 then (v + (n : Int)).toNat else min v.toNat n) ≤ n
    by_cases hv : v < 0
    · rw [if_pos hv]; omega
    · rw [if_neg hv]; exact Nat.min_le_right _ _
theorem clip_eq (v : Int) (n d : Nat) : (if v < 0 then max (v + (n : Int)) 0 else min v (n : Int)) = ((sIx n d (some v) : Nat) : Int) := by
  show (if v < 0 then max (v + (n : Int)) 0 else min v (n : Int)) = (((if v < 0 then (v + (n : Int)).toNat else min v.toNat n) : Nat) : Int)
  by_cases hv : v < 0
  · simp only [if_pos hv]; omega
  · simp only [if_neg hv]; omega
theorem adjust_gen (lo hi : Option Int) (n : Nat) : Builtin.Slice.sliceAdjust lo hi 1 (n : Int) = (((sIx n 0 lo : Nat) : Int), ((sIx n n hi : Nat) : Int)) := by
  have h1 : ¬ ((1 : Int) < 0) := by omega
  unfold Builtin.Slice.sliceAdjust
  simp only [h1, if_false]
  refine Prod.ext ?_ ?_
  · cases lo with
    | none => rfl
    | some v => exact clip_eq v n 0
  · cases hi with
    | none => rfl
    | some v => exact clip_eq v n n
theorem places_gen (i j : Nat) : Builtin.Slice.slicePlaces (i : Int) (j : Int) 1 = j - i := by
  unfold Builtin.Slice.slicePlaces
  have h1 : (1 : Int) > 0 := by omega
  simp only [h1, if_true, Int.ediv_one]
  split <;> omega
theorem slicePart_ {v : Value} {o : Option Int} {Q : Option Int → Shared → Prop} (p : IsPart v o) (h : Q o s) : wpAny (model prog w) A (Builtin.Slice.slicePartIndex v) Q E s := by
  cases p with
  | none => exact slicePart_none h
  | int i t => exact slicePart_int h
theorem sliceApplied_gen {sl : Addr} {vl vu : Value} {lo hi : Option Int} {n : Nat} {Q : Int × Int × Nat → Shared → Prop} (hs : s.heap.IsSliceOf sl vl vu .none) (pl : IsPart vl lo) (pu : IsPart vu hi)
    (h : Q (((sIx n 0 lo : Nat) : Int), 1, sIx n n hi - sIx n 0 lo) s) : wpAny (model prog w) A (Builtin.Slice.sliceApplied (.ref sl) (pure (n : Int))) Q E s := by
  obtain ⟨os, hos, hcs, hds⟩ := id hs
  unfold Builtin.Slice.sliceApplied Builtin.Slice.sliceFields
  refine wpAny_bind (wpAny_bind (wpAny_field hos hds (x := vl) rfl (wpAny_bind (wpAny_field hos hds (x := vu) rfl (wpAny_bind (wpAny_field hos hds (x := .none) rfl (wpAny_pure ?_)))))))
  refine wpAny_bind (slicePart_none ?_)
  show wpAny _ _ (if ((1 : Int) == 0) = true then _ else _) _ _ s
  rw [if_neg (by decide)]
  refine wpAny_bind (slicePart_ pl (wpAny_bind (slicePart_ pu (wpAny_bind (wpAny_pure ?_)))))
  show wpAny _ _ (match Builtin.Slice.sliceAdjust lo hi 1 (n : Int) with | (lo, hi) => pure (lo, (1 : Int), Builtin.Slice.slicePlaces lo hi 1)) _ _ s
  rw [adjust_gen lo hi n]
  show wpAny _ _ (pure (((sIx n 0 lo : Nat) : Int), (1 : Int), Builtin.Slice.slicePlaces ((sIx n 0 lo : Nat) : Int) ((sIx n n hi : Nat) : Int) 1)) _ _ s
  rw [places_gen]
  exact wpAny_pure h
theorem pick_gen (xs : Array Value) (i k : Nat) : ((List.range k).filterMap fun (m : Nat) => xs[((i : Int) + (m : Int) * 1).toNat]?).toArray = ((xs.toList.drop i).take k).toArray := by
  have e : (fun (m : Nat) => xs[((i : Int) + (m : Int) * 1).toNat]?) = fun m => xs[i + m]? := by
    funext m
    have : ((i : Int) + (m : Int) * 1).toNat = i + m := by omega
    rw [this]
  rw [e]
  have := pick_run xs i k
  rw [List.filterMap_map] at this
  have e2 : ((fun x => xs[x]?) ∘ fun x => i + x) = fun m => xs[i + m]? := rfl
  rw [e2] at this
  rw [this]

theorem getItem_tuple_cut {t sl : Addr} {items : Array Value} {vl vu : Value} {lo hi : Option Int} {Q : Value → Shared → Prop} (ht : IsTup s.heap t items) (hs : s.heap.IsSliceOf sl vl vu .none) (pl : IsPart vl lo) (pu : IsPart vu hi)
    (hw : ¬ (sIx items.size 0 lo = 0 ∧ sIx items.size items.size hi = items.size))
    (h : Q (.ref s.heap.objs.size) { s with heap := s.heap.push { cls := .type "tuple", data := .seq ((items.toList.drop (sIx items.size 0 lo)).take (sIx items.size items.size hi - sIx items.size 0 lo)).toArray } })
    (hsz : items.size ≤ sizeLine) : wpAny (model prog w) A (getItem (.ref t) (.ref sl)) Q E s := by
  have htake : sizeOk (.seq ((items.toList.drop (sIx items.size 0 lo)).take (sIx items.size items.size hi - sIx items.size 0 lo)).toArray) := by
    show ((items.toList.drop (sIx items.size 0 lo)).take (sIx items.size items.size hi - sIx items.size 0 lo)).toArray.size ≤ sizeLine
    rw [List.size_toArray, List.length_take, List.length_drop, Array.length_toList]
    omega
  have hj : sIx items.size items.size hi ≤ items.size := sIx_le _ _ (Nat.le_refl _) hi
  obtain ⟨os, hos, hcs, hds⟩ := id hs
  have hTs : s.TypeIs (.ref sl) "slice" := ⟨os, hos, hcs⟩
  unfold getItem
  try with_reducible refine wpAny_holding ?_
  first | refine wpAny_bind (wpAny_pure ?_) | skip
  refine wpAny_bind (wpAny_sequenceKey ht.typeIs (by decide) ?_)
  refine wpAny_bind (wpAny_callSpecial?_slot (name := Str.ofString "__getitem__") ht.typeIs PyProof.Rows.slot_tuple_getitem
    (wpAny_call_entry PyProof.Rows.slot_tuple_getitem ht.typeIs entry_tuple_getitem ?_ (args_tuple_getitem _ _)))
  show wpAny _ _ (Builtin.Tuple.tupleItemsOf (.ref t) >>= _) _ _ s
  refine wpAny_bind (tupleItemsOf_ ht ?_)
  refine wpAny_bind (wpAny_typeOf hTs ?_)
  rw [if_pos (by decide)]
  refine wpAny_bind (sliceApplied_gen hs pl pu ?_)
  have hno : ¬ ((((sIx items.size 0 lo : Nat) : Int) == 0 && (1 : Int) == 1 && (sIx items.size items.size hi - sIx items.size 0 lo) == items.size) = true) := by
    intro q
    rw [Bool.and_eq_true, Bool.and_eq_true] at q
    have q1 : ((sIx items.size 0 lo : Nat) : Int) = 0 := eq_of_beq q.1.1
    have q2 : sIx items.size items.size hi - sIx items.size 0 lo = items.size := eq_of_beq q.2
    exact hw ⟨by omega, by omega⟩
  show wpAny _ _ (if (((sIx items.size 0 lo : Nat) : Int) == 0 && (1 : Int) == 1 && (sIx items.size items.size hi - sIx items.size 0 lo) == items.size) = true then _ else _) _ _ s
  rw [if_neg hno, pick_gen]
  first
    | exact wpAny_bind (m := Builtin.Tuple.tupleExact _) (wpAny_newObj_type (wpAny_pure ⟨_, rfl, wpAny_pure h⟩) htake)
    | exact wpAny_bind (m := Builtin.Tuple.tupleExact _) (wpAny_newObj_type (wpAny_bind (wpAny_pure (wpAny_pure ⟨_, rfl, wpAny_pure h⟩))) htake)
    | exact wpAny_bind (wpAny_bind (m := Builtin.Tuple.tupleExact _) (wpAny_newObj_type (wpAny_pure (wpAny_pure ⟨_, rfl, wpAny_pure h⟩)) htake))
    | exact wpAny_bind (wpAny_bind (m := Builtin.Tuple.tupleExact _) (wpAny_newObj_type (wpAny_pure ⟨_, rfl, wpAny_pure h⟩) htake))
end
end HT

namespace L2
open PySem PySem.Spec PyProof.Rows

/-! ### the parts of a slice -/
abbrev TO := St → Hp → (Option Int → Hp → Prop) → Prop
/-- a slice's part (left out, or an int) -/
def PO (X : Cx) (e : Option Expr) (t : TO) : Prop :=
  ∀ (pins : List (Addr × Obj)) (s : Shared) (σ : St) (H : Hp) (Q : Option Int → Hp → Prop), Inv X pins σ H s → t σ H Q →
    wpAny (model X.prog X.w) X.A (evalPart e X.env) (fun u s' => ∃ o H', Inv X pins σ H' s' ∧ IsPart u o ∧ Q o H') X.xe s
def tNoPart : TO := fun _ H Q => Q none H
def tPart (t : TE) : TO := fun σ H Q => t σ H fun x H1 => ∃ i, x = .int i ∧ Q (some i) H1

section
variable {X : Cx} {e : Expr} {te : TE} {lo hi : Option Expr} {tl th : TO} {pos p2 : Pos}

theorem po_none : PO X none tNoPart := by
  intro pins s σ H Q I h
  rw [evalPart_none]
  exact wpAny_pure ⟨none, H, I, .none, h⟩
theorem po_some (h : PE X e te) : PO X (some e) (tPart te) := by
  intro pins s σ H Q I hw
  rw [evalPart_some]
  refine thn (h pins s σ H _ I hw) fun u s1 ⟨x, H1, I1, r1, q1⟩ => ?_
  obtain ⟨i, rfl, q⟩ := q1
  obtain ⟨t, rfl⟩ := r1
  exact ⟨some i, H1, I1, .int i t, q⟩

/-- what a slice of a value is, by values: the slice object stands at sl -/
def SlR (X : Cx) (r : V → Option Int → Option Int → Hp → VK → Prop) : Prop :=
  ∀ (pins : List (Addr × Obj)) (s : Shared) (σ : St) (H : Hp) (x : V) (v vl vu : Value) (lo hi : Option Int) (sl : Addr) (Q : VK), Inv X pins σ H s → RelV x v → s.heap.IsSliceOf sl vl vu .none → IsPart vl lo → IsPart vu hi → r x lo hi H Q →
    ∃ T id, typeLookup (.type T) "__getitem__" = pure (some (.builtin id)) ∧ s.TypeIs v T ∧ wpAny (model X.prog X.w) X.A (getItem v (.ref sl)) (EP X pins σ Q) X.xe s
theorem SlR.or {r r' : V → Option Int → Option Int → Hp → VK → Prop} (h : SlR X r) (h' : SlR X r') : SlR X (fun x lo hi H Q => r x lo hi H Q ∨ r' x lo hi H Q) := by
  intro pins s σ H x v vl vu lo hi sl Q I rx hs pl pu q
  rcases q with q | q
  · exact h pins s σ H x v vl vu lo hi sl Q I rx hs pl pu q
  · exact h' pins s σ H x v vl vu lo hi sl Q I rx hs pl pu q
def tSl (r : V → Option Int → Option Int → Hp → VK → Prop) (te : TE) (tl th : TO) : TE := fun σ H Q => te σ H fun x H1 => tl σ H1 fun l H2 => th σ H2 fun u H3 => r x l u H3 Q
/-- a[lo:hi], any a -/
theorem pe_slice {r : V → Option Int → Option Int → Hp → VK → Prop} (hr : SlR X r) (he : PE X e te) (hl : PO X lo tl) (hu : PO X hi th) : PE X (.Subscript e (.Slice lo hi none p2) pos) (tSl r te tl th) := by
  intro pins s σ H Q I h
  refine Subscript_ (thn (he pins s σ H _ I h) fun v s1 ⟨x, H1, I1, r1, q1⟩ => ?_)
  refine wpAny_Slice (thn (hl pins s1 σ H1 _ I1 q1) fun vl s2 ⟨l, H2, I2, pl, q2⟩ => thn (hu pins s2 σ H2 _ I2 q2) fun vu s3 ⟨u, H3, I3, pu, q3⟩ => ?_)
  rw [evalPart_none]
  refine wpAny_pure ?_
  have I4 : Inv X pins σ H3 { s3 with heap := s3.heap.push { cls := .type "slice", data := .fields #[vl, vu, .none] } } := I3.kept (t' := s3.toks) fun b ob q => Heap.get?_push_of_some _ q
  obtain ⟨T, id, hT, ht, hg⟩ := hr pins { s3 with heap := s3.heap.push { cls := .type "slice", data := .fields #[vl, vu, .none] } } σ H3 x v vl vu l u s3.heap.objs.size Q I4 r1 (Heap.IsSliceOf.new ..) pl pu q3
  show wpAny (model X.prog X.w) X.A (subscriptTail e (.Slice lo hi none p2) v (.ref s3.heap.objs.size)) (EP X pins σ Q) X.xe { s3 with heap := s3.heap.push { cls := .type "slice", data := .fields #[vl, vu, .none] } }
  exact tail_any (ops := [.ref s3.heap.objs.size, v]) ht hT hg (by with_unfolding_all rfl)

/-- the items of xs[lo:hi] -/
def cutV (xs : List V) (lo hi : Option Int) : List V := (xs.drop (HT.sIx xs.length 0 lo)).take (HT.sIx xs.length xs.length hi - HT.sIx xs.length 0 lo)
theorem cutV_length (xs : List V) (lo hi : Option Int) : (cutV xs lo hi).length ≤ xs.length := by
  unfold cutV
  rw [List.length_take, List.length_drop]
  omega
/-- t[lo:hi], not the whole of it (the whole would be t itself) -/
def rSlT (K : PySem.W.Frag) : V → Option Int → Option Int → Hp → VK → Prop := fun x lo hi H Q => ∃ a xs, x = .ref a ∧ SqT K H a xs ∧
  ¬ (HT.sIx xs.length 0 lo = 0 ∧ HT.sIx xs.length xs.length hi = xs.length) ∧ ∀ p, H p = none → Q (.ref p) (upd H p (.tup (cutV xs lo hi)))
theorem sl_tup : SlR X (rSlT X.K) := by
  intro pins s σ H x v vl vu lo hi sl Q I rx hs pl pu h
  obtain ⟨a, xs, rfl, hx, hw, q⟩ := h
  cases rx
  obtain ⟨its, r, ht, hz⟩ := I.tuple hx
  have hlen : its.toArray.size = xs.length := by rw [List.size_toArray]; exact r.length.symm
  refine ⟨"tuple", _, PyProof.Rows.slot_tuple_getitem.lookup, ht.typeIs, ?_⟩
  refine HT.getItem_tuple_cut ht hs pl pu (by rw [hlen]; exact hw) ?_ (by rw [hlen]; exact hz)
  rw [hlen]
  refine ⟨.ref s.heap.objs.size, _, I.laid (t' := s.toks) (o := .tup (cutV xs lo hi)) (fun b ob q => Heap.get?_push_of_some _ q) (Nat.le_refl _) ?_, rfl, q _ (I.hok.fresh (Nat.le_refl _))⟩
  exact ⟨Nat.le_trans (cutV_length xs lo hi) hz, _, (r.drop (HT.sIx xs.length 0 lo)).take (HT.sIx xs.length xs.length hi - HT.sIx xs.length 0 lo), IsTup.new _ _⟩

/-! ### t < u, t + u -/
def rLtT (K : PySem.W.Frag) : R2 := fun x y H Q => ∃ a b ns ms, x = .ref a ∧ y = .ref b ∧ SqT K H a (ns.map V.int) ∧ SqT K H b (ms.map V.int) ∧ Q (.bl (HT.lexLt ns ms)) H
/-- t + u, t not empty: u empty gives t itself -/
def rCatT (K : PySem.W.Frag) : R2 := fun x y H Q => ∃ a b xs ys, x = .ref a ∧ y = .ref b ∧ SqT K H a xs ∧ SqT K H b ys ∧ xs ≠ [] ∧ xs.length + ys.length ≤ sizeLine ∧
  (ys = [] → Q (.ref a) H) ∧ (ys ≠ [] → ∀ p, H p = none → Q (.ref p) (upd H p (.tup (xs ++ ys))))
end
end L2

namespace L2
open PySem PySem.Spec PyProof.Rows

/-! ### places -/
/-- the place that an index of any sign means -/
def ixN (n : Nat) (i : Int) : Option Nat := if 0 ≤ i then (if i < n then some i.toNat else none) else if -(n : Int) ≤ i then some (i + n).toNat else none
def atI {α : Type} (xs : List α) (i : Int) : Option α := (ixN xs.length i).bind fun j => xs[j]?
theorem ixN_seq {n : Nat} {i : Int} {j : Nat} (h : ixN n i = some j) : seqIndex? i n = some j ∧ j < n ∧ -(n : Int) ≤ i ∧ i < n := by
  unfold ixN at h
  by_cases h0 : 0 ≤ i
  · rw [if_pos h0] at h
    by_cases h1 : i < n
    · rw [if_pos h1] at h
      have e : i.toNat = j := Option.some.inj h
      exact ⟨by rw [seqIndex_of h0 h1, e], by omega, by omega, h1⟩
    · rw [if_neg h1] at h; cases h
  · rw [if_neg h0] at h
    by_cases h1 : -(n : Int) ≤ i
    · rw [if_pos h1] at h
      have e : (i + n).toNat = j := Option.some.inj h
      exact ⟨by rw [seqIndex_neg (by omega) h1, e], by omega, h1, by omega⟩
    · rw [if_neg h1] at h; cases h
theorem atI_get {α : Type} {xs : List α} {i : Int} {v : α} (h : atI xs i = some v) : ∃ j, seqIndex? i xs.length = some j ∧ xs[j]? = some v ∧ j < xs.length ∧ -(xs.length : Int) ≤ i ∧ i < xs.length := by
  unfold atI at h
  cases e : ixN xs.length i with
  | none => rw [e] at h; cases h
  | some j =>
    rw [e] at h
    obtain ⟨h1, h2, h3, h4⟩ := ixN_seq e
    exact ⟨j, h1, h, h2, h3, h4⟩
theorem atI_nat {α : Type} {xs : List α} {j : Nat} {v : α} (h : xs[j]? = some v) : atI xs (j : Int) = some v := by
  have hj : j < xs.length := (List.getElem?_eq_some_iff.mp h).1
  have e : ixN xs.length (j : Int) = some j := by
    unfold ixN
    rw [if_pos (by omega), if_pos (by omega)]; simp
  unfold atI; rw [e]; exact h
/-! ### what may be subscripted -/
/-- what stands as an index of a plain subscript -/
def PlainIx (b : Expr) : Prop := ∀ o i, subscripted b false o i = operate [o, i] (getItem o i)
/-- a subscript by values -/
def IxR (X : Cx) (r : R2) : Prop :=
  ∀ (value slice : Expr) (pins : List (Addr × Obj)) (s : Shared) (σ : St) (H : Hp) (x y : V) (v u : Value) (Q : VK), Inv X pins σ H s → RelV x v → RelV y u → r x y H Q →
    subscripted slice false v u = operate [v, u] (getItem v u) → wpAny (model X.prog X.w) X.A (subscriptTail value slice v u) (EP X pins σ Q) X.xe s
/-- a call of a builtin's method by values: the receiver, the arguments -/
def MtR (X : Cx) (id : String) (r : V → List V → Hp → VK → Prop) : Prop :=
  ∀ (pins : List (Addr × Obj)) (s : Shared) (σ : St) (H : Hp) (x : V) (xs : List V) (v : Value) (us : List Value) (Q : VK), Inv X pins σ H s → RelV x v → Vals xs us → r x xs H Q →
    wpAny (model X.prog X.w) X.A (call (.builtin id) (v :: us)) (EP X pins σ Q) X.xe s
section
variable {X : Cx} {a b : Expr} {ta tb : TE} {pos : Pos}
theorem IxR.or {r r' : R2} (h : IxR X r) (h' : IxR X r') : IxR X (fun x y H Q => r x y H Q ∨ r' x y H Q) := by
  intro value slice pins s σ H x y v u Q I rx ry q hs
  rcases q with q | q
  · exact h value slice pins s σ H x y v u Q I rx ry q hs
  · exact h' value slice pins s σ H x y v u Q I rx ry q hs
theorem MtR.or {id : String} {r r' : V → List V → Hp → VK → Prop} (h : MtR X id r) (h' : MtR X id r') : MtR X id (fun x xs H Q => r x xs H Q ∨ r' x xs H Q) := by
  intro pins s σ H x xs v us Q I rx rs q
  rcases q with q | q
  · exact h pins s σ H x xs v us Q I rx rs q
  · exact h' pins s σ H x xs v us Q I rx rs q
/-- a[b] -/
theorem pe_ix {r : R2} (hr : IxR X r) (ha : PE X a ta) (hb : PE X b tb) (hs : PlainIx b) : PE X (.Subscript a b pos) (tOp r ta tb) := by
  intro pins s σ H Q I h
  exact Subscript_ (binT ha hb I h fun v u s2 x y H2 I2 rx ry q => hr a b pins s2 σ H2 x y v u Q I2 rx ry q (hs _ _))

def rIxL (K : PySem.W.Frag) : R2 := fun x y H Q => ∃ p xs i v, x = .ref p ∧ y = .int i ∧ SqL K H p xs ∧ atI xs i = some v ∧ Q v H
def rIxT (K : PySem.W.Frag) : R2 := fun x y H Q => ∃ p xs i v, x = .ref p ∧ y = .int i ∧ SqT K H p xs ∧ atI xs i = some v ∧ Q v H
def rIxS : R2 := fun x y H Q => ∃ z i c, x = .str z ∧ y = .int i ∧ z.length ≤ sizeLine ∧ atI z.cps.toList i = some c ∧ Q (.str ⟨#[c]⟩) H
theorem ix_list : IxR X (rIxL X.K) := by
  intro value slice pins s σ H x y v u Q I rx ry h hs
  obtain ⟨p, xs, i, z, rfl, rfl, hq, he, q⟩ := h
  cases rx
  obtain ⟨t, rfl⟩ := ry
  obtain ⟨its, r, pl, hz⟩ := I.list hq
  obtain ⟨j, h1, h2, h3, h4, h5⟩ := atI_get he
  obtain ⟨w, ew, rw'⟩ := r.get h2
  have hl := r.length
  have hn := line63
  have fin : EP X pins σ Q w s := ⟨z, H, I, rw', q⟩
  by_cases h0 : 0 ≤ i
  · have hj : i.toNat = j := by
      rw [seqIndex_of h0 h5] at h1
      exact Option.some.inj h1
    exact item_listR pl.isList h0 (by omega) (by rw [hj]; simpa using ew) fin hs
  · have hj : (i + (its.toArray.size : Int)).toNat = j := by
      rw [seqIndex_neg (by omega) h4] at h1
      rw [List.size_toArray, ← hl]
      exact Option.some.inj h1
    exact subscriptTail_builtinR (x := w) pl.isList.typeIs slot_list_getitem.lookup
      (wpAny_getItem_list_neg (Q := fun r s' => r = w ∧ EP X pins σ Q r s') pl.isList (by omega) (by rw [List.size_toArray] <;> omega) (by omega) (by rw [hj]; simpa using ew) ⟨rfl, fin⟩) hs
theorem ix_tup : IxR X (rIxT X.K) := by
  intro value slice pins s σ H x y v u Q I rx ry h hs
  obtain ⟨p, xs, i, z, rfl, rfl, hq, he, q⟩ := h
  cases rx
  obtain ⟨t, rfl⟩ := ry
  obtain ⟨its, r, pl, hz⟩ := I.tuple hq
  obtain ⟨j, h1, h2, h3, h4, h5⟩ := atI_get he
  obtain ⟨w, ew, rw'⟩ := r.get h2
  have hl := r.length
  have hn := line63
  have fin : EP X pins σ Q w s := ⟨z, H, I, rw', q⟩
  exact subscriptTail_builtinR (x := w) pl.typeIs slot_tuple_getitem.lookup
    (getItem_tuple (j := j) (Q := fun r s' => r = w ∧ EP X pins σ Q r s') pl (by omega) (by omega) (by rw [List.size_toArray, ← hl]; exact h1) (by simpa using ew) ⟨rfl, fin⟩) hs
theorem ix_str : IxR X rIxS := by
  intro value slice pins s σ H x y v u Q I rx ry h hs
  obtain ⟨z, i, c, rfl, rfl, hz, he, q⟩ := h
  obtain ⟨t, rfl⟩ := rx
  obtain ⟨t', rfl⟩ := ry
  obtain ⟨j, h1, h2, h3, h4, h5⟩ := atI_get he
  have hl : z.cps.toList.length = z.length := by simp [Str.length]
  rw [hl] at h1 h4 h5
  have hn := line63
  exact tail_any (typeIs_str s z t) slot_str_getitem.lookup (getItem_str (c := c) (by
    have e1 : decide (i < -(2 ^ 63 : Int)) = false := decide_eq_false (by omega)
    have e2 : decide (i ≥ 2 ^ 63) = false := decide_eq_false (by omega)
    rw [e1, e2, Bool.or_false]) (by rw [h1]; simpa using h2) ⟨.str ⟨#[c]⟩, H, I.tok _, ⟨_, rfl⟩, q⟩) hs
/-- list, tuple or str -/
def rIx (K : PySem.W.Frag) : R2 := fun x y H Q => rIxL K x y H Q ∨ rIxT K x y H Q ∨ rIxS x y H Q
/-! ### xs[i] = v, any sign -/
/-- the list's object behind a store -/
theorem mapSeq_set (its : List Value) (n j : Nat) (u : Value) : Obj.mapSeq (·.setIfInBounds j u) { cls := .type "list", data := .seq its.toArray n } = { cls := .type "list", data := .seq (its.set j u).toArray n } := by
  simp [Obj.mapSeq]
theorem Inv.lst {pins : List (Addr × Obj)} {σ : St} {H : Hp} {s : Shared} {p : Addr} {xs : List V} (I : Inv X pins σ H s) (h : H p = some (.lst xs)) :
    ∃ (its : List Value) (n : Nat), Vals xs its ∧ s.heap.get? p = some { cls := .type "list", data := .seq its.toArray n } ∧ xs.length ≤ sizeLine := by
  obtain ⟨z, its, n, r, e⟩ := I.hok p _ h
  exact ⟨its, n, r, e, z⟩
/-- the list at p is written by an update of its object -/
theorem Inv.lstUpd {pins : List (Addr × Obj)} {σ : St} {H : Hp} {s : Shared} {p : Addr} {xs ys : List V} {its its' : List Value} {n n' : Nat} {f : Obj → Obj} (I : Inv X pins σ H s) (h : H p = some (.lst xs))
    (ho : s.heap.get? p = some { cls := .type "list", data := .seq its.toArray n }) (hf : f { cls := .type "list", data := .seq its.toArray n } = { cls := .type "list", data := .seq its'.toArray n' }) (r : Vals ys its') (hz : ys.length ≤ sizeLine) (t : Nat) :
    Inv X pins σ (upd H p (.lst ys)) { s with heap := s.heap.update p f, toks := t } := by
  have e : (s.heap.update p f).get? p = some { cls := .type "list", data := .seq its'.toArray n' } := by
    rw [Heap.get?_update_self f ho (by rw [hf] <;> rfl), hf]
  refine I.write (x := p) (e := p) (by rw [h]; trivial) (.inl rfl) (fun b u hb q => (Heap.get?_update_other _ _ (Ne.symm hb)).trans q) ⟨_, e⟩ ?_
  exact ⟨hz, its', n', r, e⟩
def rSetL : V → V → V → Hp → (Hp → Prop) → Prop := fun o i v H Q => ∃ p xs k j, o = .ref p ∧ i = .int k ∧ H p = some (.lst xs) ∧ ixN xs.length k = some j ∧ Q (upd H p (.lst (xs.set j v)))
theorem set_list : PSet X rSetL := by
  intro pins s σ H o i v ov iv u Q I ro ri rv h
  obtain ⟨p, xs, k, j, rfl, rfl, hp, hj, q⟩ := h
  cases ro
  obtain ⟨t, rfl⟩ := ri
  obtain ⟨its, n, r, ho, hz⟩ := I.lst hp
  obtain ⟨h1, h2, h3, h4⟩ := ixN_seq hj
  have hl := r.length
  have hn := line63
  have I' : Inv X pins σ (upd H p (.lst (xs.set j v))) { s with heap := s.heap.update p (Obj.mapSeq (·.setIfInBounds j u)) } :=
    I.lstUpd hp ho (mapSeq_set its n j u) (r.set rv j) (by rw [List.length_set]; exact hz) s.toks
  by_cases h0 : 0 ≤ k
  · have hk : k.toNat = j := by
      rw [seqIndex_of h0 h4] at h1
      exact Option.some.inj h1
    exact PySem.W.ki_setAt ho h0 (by omega) (by rw [List.size_toArray, ← hl]; exact h4) (by rw [hk]; exact ⟨_, I', q⟩)
  · have hk : (k + (its.toArray.size : Int)).toNat = j := by
      rw [seqIndex_neg (by omega) h3] at h1
      rw [List.size_toArray, ← hl]
      exact Option.some.inj h1
    exact PySem.W.ki_setBack ho (by omega) (by rw [List.size_toArray, ← hl]; exact h3) (by omega) (by rw [hk]; exact ⟨_, I', q⟩)

/-! ### slices -/
/-- xs[lo:hi] of a list: a new list -/
def rSlL (K : PySem.W.Frag) : V → Option Int → Option Int → Hp → VK → Prop := fun x lo hi H Q => ∃ a xs, x = .ref a ∧ SqL K H a xs ∧ ∀ p, H p = none → Q (.ref p) (upd H p (.lst (cutV xs lo hi)))
/-! ### in, not in: flat items -/
def flatV : V → Bool
  | .non => true
  | .bl _ => true
  | .int _ => true
  | .str _ => true
  | _ => false
/-- == of flat values -/
def eqV : V → V → Bool
  | .non, .non => true
  | .bl a, .bl b => a == b
  | .bl a, .int b => (if a then 1 else 0) == b
  | .int a, .bl b => a == (if b then 1 else 0)
  | .int a, .int b => a == b
  | .str a, .str b => a == b
  | _, _ => false
theorem eqAt_V {A : Around} {s : Shared} {y x : V} {u v : Value} (ry : RelV y u) (rx : RelV x v) (fy : flatV y = true) (fx : flatV x = true) : SeqAt.EqAt A s u v (eqV y x) := by
  cases y with
  | non =>
    cases ry
    cases x with
    | non => cases rx; exact SeqAt.EqAt.same _
    | bl b => cases rx; exact SeqAt.EqAt.none_bool b
    | int b => obtain ⟨t, rfl⟩ := rx; exact SeqAt.EqAt.none_int b t
    | str b => obtain ⟨t, rfl⟩ := rx; exact SeqAt.EqAt.none_str b t
    | _ => exact absurd (show false = true from fx) Bool.false_ne_true
  | bl a =>
    cases ry
    cases x with
    | non => cases rx; exact SeqAt.EqAt.bool_none a
    | bl b => cases rx; exact SeqAt.EqAt.bool_bool a b
    | int b => obtain ⟨t, rfl⟩ := rx; exact SeqAt.EqAt.bool_int a b t
    | str b => obtain ⟨t, rfl⟩ := rx; exact SeqAt.EqAt.bool_str a b t
    | _ => exact absurd (show false = true from fx) Bool.false_ne_true
  | int a =>
    obtain ⟨t', rfl⟩ := ry
    cases x with
    | non => cases rx; exact SeqAt.EqAt.int_none a t'
    | bl b => cases rx; exact SeqAt.EqAt.int_bool a t' b
    | int b => obtain ⟨t, rfl⟩ := rx; exact SeqAt.EqAt.int_int a t' b t
    | str b => obtain ⟨t, rfl⟩ := rx; exact SeqAt.EqAt.int_str a t' b t
    | _ => exact absurd (show false = true from fx) Bool.false_ne_true
  | str a =>
    obtain ⟨t', rfl⟩ := ry
    cases x with
    | non => cases rx; exact SeqAt.EqAt.str_none a t'
    | bl b => cases rx; exact SeqAt.EqAt.str_bool a t' b
    | int b => obtain ⟨t, rfl⟩ := rx; exact SeqAt.EqAt.str_int a t' b t
    | str b => obtain ⟨t, rfl⟩ := rx; exact SeqAt.EqAt.str_str a t' b t
    | _ => exact absurd (show false = true from fx) Bool.false_ne_true
  | _ => exact absurd (show false = true from fy) Bool.false_ne_true
/-- the items' answers, read off the values (a value's own answer does not lean on its token) -/
def eqU (x : V) (u : Value) : Bool := match u with
  | .none => eqV .non x
  | .bool b => eqV (.bl b) x
  | .int i _ => eqV (.int i) x
  | .str z _ => eqV (.str z) x
  | _ => false
theorem eqU_of {x y : V} {u : Value} (r : RelV y u) (f : flatV y = true) : eqU x u = eqV y x := by
  cases y with
  | non => cases r; rfl
  | bl b => cases r; rfl
  | int i => obtain ⟨t, rfl⟩ := r; rfl
  | str z => obtain ⟨t, rfl⟩ := r; rfl
  | _ => exact absurd (show false = true from f) Bool.false_ne_true
theorem any_eqU {x : V} : ∀ {xs : List V} {us : List Value}, Vals xs us → xs.all flatV = true → us.any (eqU x) = xs.any fun y => eqV y x
  | _, _, .nil, _ => rfl
  | y :: xs, u :: us, .cons r t, f => by
    rw [List.all_cons, Bool.and_eq_true] at f
    rw [List.any_cons, List.any_cons, eqU_of r f.1, any_eqU t f.2]
theorem mem_eqAt {A : Around} {s : Shared} {x : V} {v : Value} (rx : RelV x v) (fx : flatV x = true) : ∀ {xs : List V} {us : List Value}, Vals xs us → xs.all flatV = true → ∀ u ∈ us, SeqAt.EqAt A s u v (eqU x u)
  | _, _, .nil, _ => fun u hu => by cases hu
  | y :: xs, u :: us, .cons r t, f => fun u' hu => by
    rw [List.all_cons, Bool.and_eq_true] at f
    rcases List.mem_cons.mp hu with rfl | hu
    · rw [eqU_of r f.1]; exact eqAt_V r rx f.1 fx
    · exact mem_eqAt rx fx t f.2 u' hu
def inV (x : V) (xs : List V) : Bool := xs.any fun y => eqV y x
/-- x in a list or tuple of flat items -/
def rIn (K : PySem.W.Frag) (neg : Bool) : R2 := fun x y H Q => ∃ p xs, y = .ref p ∧ (SqL K H p xs ∨ SqT K H p xs) ∧ flatV x = true ∧ xs.all flatV = true ∧ Q (.bl (if neg then !inV x xs else inV x xs)) H
theorem op_in_seq : OpR X (compareOp .In) (rIn X.K false) := by
  intro pins s σ H x y v u Q I rx ry h
  obtain ⟨p, xs, rfl, hq, fx, fs, q⟩ := h
  cases ry
  rcases hq with hq | hq
  · obtain ⟨its, r, pl, hz⟩ := I.list hq
    refine SeqAt.in_listAt (eqU x) pl.isList (fun w hw => mem_eqAt rx fx r fs w (by simpa using hw)) ⟨.bl _, H, I, rfl, ?_⟩
    rw [show its.toArray.any (eqU x) = its.any (eqU x) by simp, any_eqU r fs]
    exact q
  · obtain ⟨its, r, pl, hz⟩ := I.tuple hq
    refine SeqAt.in_tupleAt (eqU x) pl (fun w hw => mem_eqAt rx fx r fs w (by simpa using hw)) ⟨.bl _, H, I, rfl, ?_⟩
    rw [show its.toArray.any (eqU x) = its.any (eqU x) by simp, any_eqU r fs]
    exact q
theorem op_notIn_seq : OpR X (compareOp .NotIn) (rIn X.K true) := by
  intro pins s σ H x y v u Q I rx ry h
  obtain ⟨p, xs, rfl, hq, fx, fs, q⟩ := h
  cases ry
  rcases hq with hq | hq
  · obtain ⟨its, r, pl, hz⟩ := I.list hq
    refine SeqAt.notIn_listAt (eqU x) pl.isList (fun w hw => mem_eqAt rx fx r fs w (by simpa using hw)) ⟨.bl _, H, I, rfl, ?_⟩
    rw [show its.toArray.any (eqU x) = its.any (eqU x) by simp, any_eqU r fs]
    exact q
  · obtain ⟨its, r, pl, hz⟩ := I.tuple hq
    refine SeqAt.notIn_tupleAt (eqU x) pl (fun w hw => mem_eqAt rx fx r fs w (by simpa using hw)) ⟨.bl _, H, I, rfl, ?_⟩
    rw [show its.toArray.any (eqU x) = its.any (eqU x) by simp, any_eqU r fs]
    exact q
theorem op_notIn_str : OpR X (compareOp .NotIn) (fun x y H Q => ∃ i j, x = .str i ∧ y = .str j ∧ Q (.bl (!(!(Builtin.Str.occurrences j i 0 j.length 1).isEmpty))) H) := by
  intro pins s σ H x y v u Q I rx ry h
  obtain ⟨i, j, rfl, rfl, q⟩ := h
  obtain ⟨t, rfl⟩ := rx
  obtain ⟨t', rfl⟩ := ry
  exact notIn_str ⟨.bl _, H, I, rfl, q⟩

/-! ### len, list(x), tuple(x) of any list or tuple that is read -/
theorem call_len_seq : CallR X (.builtin "len") (fun xs H Q => ∃ p ys, xs = [.ref p] ∧ (SqL X.K H p ys ∨ SqT X.K H p ys) ∧ Q (.int ys.length) H) := by
  intro pins s σ H xs us Q I r h
  obtain ⟨p, ys, rfl, hq, q⟩ := h
  obtain ⟨u, rfl, rx⟩ := vals1 r
  cases rx
  have hn := line63
  rcases hq with hq | hq
  · obtain ⟨its, r', pl, hz⟩ := I.list hq
    have hlen := r'.length
    exact Calls.call_len_list pl.isList (by simp only [List.size_toArray] <;> omega) ⟨.int ys.length, H, I.tok _, ⟨s.toks + 1, by rw [List.size_toArray, hlen]⟩, q⟩
  · obtain ⟨its, r', pl, hz⟩ := I.tuple hq
    have hlen := r'.length
    exact len_tuple pl (by simp only [List.size_toArray] <;> omega) ⟨.int ys.length, H, I.tok _, ⟨s.toks + 1, by rw [List.size_toArray, hlen]⟩, q⟩
theorem CallR.or {f : Value} {r r' : List V → Hp → VK → Prop} (h : CallR X f r) (h' : CallR X f r') : CallR X f (fun xs H Q => r xs H Q ∨ r' xs H Q) := by
  intro pins s σ H xs us Q I rs q
  rcases q with q | q
  · exact h pins s σ H xs us Q I rs q
  · exact h' pins s σ H xs us Q I rs q
theorem call_list_of : CallR X (.type "list") (fun xs H Q => ∃ p ys, xs = [.ref p] ∧ (SqL X.K H p ys ∨ SqT X.K H p ys) ∧ ∀ l, H l = none → Q (.ref l) (upd H l (.lst ys))) := by
  intro pins s σ H xs us Q I r h
  obtain ⟨p, ys, rfl, hq, q⟩ := h
  obtain ⟨u, rfl, rx⟩ := vals1 r
  cases rx
  have fin : ∀ (its : List Value), Vals ys its → ys.length ≤ sizeLine → ∀ (h' : Heap) (c' : Nat), (∀ b o', s.heap.get? b = some o' → h'.get? b = some o') →
      h'.get? s.heap.objs.size = some { cls := .type "list", dict := none, data := .seq its.toArray c', slots := #[] } → EP X pins σ Q (.ref s.heap.objs.size) { s with heap := h' } := fun its r' hz h' c' kp e =>
    ⟨.ref s.heap.objs.size, _, I.laid (t' := s.toks) kp (Nat.le_refl _) (show ObjOk X.prog X.w _ h' _ (.lst ys) from ⟨hz, its, c', r', e⟩), rfl, q _ (I.hok.fresh (Nat.le_refl _))⟩
  rcases hq with hq | hq
  · obtain ⟨its, r', pl, hz⟩ := I.list hq
    have hlen := r'.length
    obtain ⟨o, ho, hc, n, hd⟩ := pl.isList
    exact call_list_seq p (.inl rfl) ho hc hd (fun h' c' kp e => fin its r' hz h' c' kp e) (by simp only [List.size_toArray] <;> omega)
  · obtain ⟨its, r', pl, hz⟩ := I.tuple hq
    have hlen := r'.length
    obtain ⟨o, ho, hc, n, hd⟩ := pl
    exact call_list_seq p (.inr rfl) ho hc hd (fun h' c' kp e => fin its r' hz h' c' kp e) (by simp only [List.size_toArray] <;> omega)
theorem call_tuple_of : CallR X (.type "tuple") (fun xs H Q => ∃ p ys, xs = [.ref p] ∧ ((SqL X.K H p ys ∧ ∀ l, H l = none → Q (.ref l) (upd H l (.tup ys))) ∨ (SqT X.K H p ys ∧ Q (.ref p) H))) := by
  intro pins s σ H xs us Q I r h
  obtain ⟨p, ys, rfl, h⟩ := h
  obtain ⟨u, rfl, rx⟩ := vals1 r
  cases rx
  rcases h with ⟨hq, q⟩ | ⟨hq, q⟩
  · obtain ⟨its, r', pl, hz⟩ := I.list hq
    have hlen := r'.length
    refine call_tuple_list pl.isList (fun h' kp => ?_) (by simp only [List.size_toArray] <;> omega)
    have I1 : Inv X pins σ H { s with heap := h' } := I.kept (t' := s.toks) kp
    have I2 : Inv X pins σ (upd H h'.objs.size (.tup ys)) { s with heap := h'.push { cls := .type "tuple", data := .seq its.toArray } } :=
      I1.laid (t' := s.toks) (fun b o e => Heap.get?_push_of_some _ e) (Nat.le_refl _) (show ObjOk X.prog X.w _ _ _ (.tup ys) from ⟨hz, its, r', IsTup.new _ _⟩)
    exact ⟨.ref h'.objs.size, _, I2, rfl, q _ (I1.hok.fresh (Nat.le_refl _))⟩
  · obtain ⟨its, r', pl, hz⟩ := I.tuple hq
    exact call_tuple_same pl ⟨.ref p, H, I, rfl, q⟩

/-! ### the call of a builtin's method: o.m(..) -/
/-- the value is of that builtin type -/
def tyV (K : PySem.W.Frag) (T : String) (x : V) (H : Hp) : Prop := match x with
  | .str _ => T = "str"
  | .int _ => T = "int"
  | .ref p => (T = "list" ∧ ∃ xs, SqL K H p xs) ∨ (T = "tuple" ∧ ∃ o, K.lookup p = some o ∧ o.cls = .type "tuple" ∧ o.dict = none) ∨
      (T = "dict" ∧ ((∃ kvs, H p = some (.dK kvs)) ∨ ∃ kvs, H p = some (.dT kvs))) ∨ (T = "set" ∧ ∃ S n, H p = some (.set S n))
  | _ => False
theorem tyV_is {pins : List (Addr × Obj)} {σ : St} {H : Hp} {s : Shared} {T : String} {x : V} {v : Value} (I : Inv X pins σ H s) (r : RelV x v) (ty : tyV X.K T x H) :
    s.TypeIs v T ∧ ∀ a, v = .ref a → ∃ ob, s.heap.get? a = some ob ∧ ob.dict = none := by
  cases x with
  | str z =>
    obtain ⟨t, rfl⟩ := r
    cases (show T = "str" from ty)
    exact ⟨typeIs_str s z t, fun _ e => nomatch e⟩
  | int i =>
    obtain ⟨t, rfl⟩ := r
    cases (show T = "int" from ty)
    exact ⟨typeIs_int s i t, fun _ e => nomatch e⟩
  | ref p =>
    cases r
    rcases ty with ⟨rfl, xs, hq⟩ | ⟨rfl, o, hk, hc, hd⟩ | ⟨rfl, hk⟩ | ⟨rfl, S, n, hk⟩
    · obtain ⟨its, _, pl, _⟩ := I.list hq
      refine ⟨pl.isList.typeIs, fun a e => ?_⟩
      cases e
      obtain ⟨o, n, e, c, hd, _⟩ := pl
      exact ⟨o, e, hd⟩
    · refine ⟨⟨o, I.kIn p o hk, hc⟩, fun a e => ?_⟩
      cases e
      exact ⟨o, I.kIn _ o hk, hd⟩
    · have z : ∃ o, s.heap.get? p = some o ∧ o.ExactDict := by
        rcases hk with ⟨kvs, hk⟩ | ⟨kvs, hk⟩
        · obtain ⟨_, _, _, _, o, _, _, e, ex, _⟩ := I.hok p _ hk
          exact ⟨o, e, ex⟩
        · obtain ⟨_, _, _, _, o, _, _, e, ex, _⟩ := I.hok p _ hk
          exact ⟨o, e, ex⟩
      obtain ⟨o, e, ex⟩ := z
      refine ⟨⟨o, e, ex.1⟩, fun a e2 => ?_⟩
      cases e2
      exact ⟨o, e, ex.2.1⟩
    · obtain ⟨o, _, _, _, e, ex, _⟩ := I.hok p _ hk
      refine ⟨⟨o, e, ex.1⟩, fun a e2 => ?_⟩
      cases e2
      exact ⟨o, e, ex.2.1⟩
  | _ => exact False.elim ty
def tBM0 (K : PySem.W.Frag) (T : String) (r : V → List V → Hp → VK → Prop) (to : TE) : TE := fun σ H Q => to σ H fun x H1 => tyV K T x H1 ∧ r x [] H1 Q
def tBM (K : PySem.W.Frag) (T : String) (r : V → List V → Hp → VK → Prop) (to : TE) (t : TA) : TE := fun σ H Q => to σ H fun x H1 => tyV K T x H1 ∧ t σ H1 fun xs H2 => r x xs H2 Q
variable {o e : Expr} {es : List Expr} {to : TE} {t : TA} {name : Str} {apos cpos : Pos} {T id : String} {r : V → List V → Hp → VK → Prop}
theorem pe_bm (pa : PlainAttrs T) (slot : Slot T name id) (hty : typeOf (.builtin id) = pure (.type "method_descriptor")) (hm : MtR X id r) (ho : PE X o to) (ha : PA X (e :: es) t)
    (hbase : attributeBase o name X.env (eval o X.env) = eval o X.env := by rfl)
    (hfew : ((backTo cpos (starEach (e :: es) X.env)).all (fun x => !x.1) && (backToKw cpos (keywordEach [] X.env)).all (fun x => x.1.isSome)
      && decide ((e :: es).length + ([] : List Keyword).length + (if ([] : List Keyword).isEmpty then 0 else 1) < 30)) = true := by rfl)
    (hline : (apos.endLine == cpos.line) = true := by rfl) (hs : starEach (e :: es) X.env = (false, eval e X.env) :: starEach es X.env := by rfl) (hplain : (backTo cpos (starEach es X.env)).any (·.1) = false := by rfl) :
    PE X (.Call (.Attribute o name apos) (e :: es) [] cpos) (tBM X.K T r to t) := by
  intro pins s σ H Q I h
  refine wpAny_Call_method_late hbase hfew hline rfl (thn (ho pins s σ H _ I h) fun v s1 ⟨x, H1, I1, r1, ty, q1⟩ => ?_)
  obtain ⟨h1, h2⟩ := tyV_is I1 r1 ty
  refine ⟨T, id, pa, slot, hty, h1, h2, ?_⟩
  have hA := ha cpos pins s1 σ H1 _ I1 q1
  rw [hs] at hA ⊢
  refine Calls.callWith_builtin (by show (false || (backTo cpos (starEach es X.env)).any (·.1)) = false; rw [hplain] <;> rfl) (Calls.evalArgs_plain ?_)
  exact thn hA fun us s2 ⟨vs, H2, I2, r2, q2⟩ => hm pins s2 σ H2 x vs v us Q I2 r1 r2 q2
/- xs.append(e), list.index on a module's tuple .. are MtR facts of 06m -/
end
end L2

namespace L2
open PySem PySem.Spec PyProof.Rows

def MtM (X : Cx) (id : String) (r : V → List V → Hp → VK → Prop) : Prop :=
  ∀ (pins : List (Addr × Obj)) (s : Shared) (σ : St) (H : Hp) (x : V) (xs : List V) (v : Value) (us : List Value) (Q : VK), Inv X pins σ H s → RelV x v → Vals xs us → r x xs H Q →
    wpAny (model X.prog X.w) X.A (call (.builtin id) (v :: us)) (EP X pins σ Q) X.xe s

/-! ### lists of values -/
theorem Vals.one : ∀ {x : V} {us : List Value}, Vals [x] us → ∃ u, us = [u] ∧ RelV x u
  | _, _, .cons r .nil => ⟨_, rfl, r⟩
theorem Vals.two : ∀ {x y : V} {us : List Value}, Vals [x, y] us → ∃ u v, us = [u, v] ∧ RelV x u ∧ RelV y v
  | _, _, _, .cons r (.cons q .nil) => ⟨_, _, rfl, r, q⟩
theorem Vals.zero : ∀ {us : List Value}, Vals [] us → us = []
  | _, .nil => rfl
theorem Vals.dropLast {xs : List V} {us : List Value} (h : Vals xs us) : Vals xs.dropLast us.dropLast := by
  induction h with
  | nil => exact .nil
  | cons r t ih =>
    cases t with
    | nil => exact .nil
    | cons q t' => exact .cons r ih
theorem Vals.eraseIdx : ∀ {xs : List V} {us : List Value} (i : Nat), Vals xs us → Vals (xs.eraseIdx i) (us.eraseIdx i)
  | _, _, _, .nil => .nil
  | _, _, 0, .cons _ t => t
  | _, _, i + 1, .cons r t => .cons r (Vals.eraseIdx i t)
theorem Vals.reverse {xs : List V} {us : List Value} (h : Vals xs us) : Vals xs.reverse us.reverse := by
  induction h with
  | nil => exact .nil
  | cons r t ih => rw [List.reverse_cons, List.reverse_cons]; exact Vals.append ih (.cons r .nil)
section
variable {X : Cx} {pins : List (Addr × Obj)} {σ : St} {H : Hp} {s : Shared} {l b : Addr} {xs ys zs : List V}

/-! ### the two steps: a tracked list is rewritten, a new list is laid -/
theorem Inv.lset {its its' : List Value} {n : Nat} {f : Array Value → Array Value} {t' : Nat} (I : Inv X pins σ H s) (hH : H l = some (.lst xs))
    (e : s.heap.get? l = some { cls := .type "list", data := .seq its.toArray n }) (hf : f its.toArray = its'.toArray) (hv : Vals ys its') (hz : ys.length ≤ sizeLine) :
    Inv X pins σ (upd H l (.lst ys)) { s with heap := s.heap.update l (Obj.mapSeq f), toks := t' } := by
  have q := PySem.IsL.update e f
  rw [hf] at q
  refine I.write (x := l) (e := l) (by rw [hH]; exact trivial) (.inl rfl) (fun b' u hb hu => (Heap.get?_update_other s.heap (Obj.mapSeq f) (Ne.symm hb)).trans hu) ⟨_, q⟩ ?_
  exact ⟨hz, its', _, hv, q⟩
theorem Inv.lnew {its : List Value} {t' : Nat} (I : Inv X pins σ H s) (hv : Vals ys its) (hz : ys.length ≤ sizeLine) :
    Inv X pins σ (upd H s.heap.objs.size (.lst ys)) { s with heap := s.heap.push { cls := .type "list", data := .seq its.toArray }, toks := t' } :=
  I.laid (fun _ _ q => Heap.get?_push_of_some _ q) (Nat.le_refl _) ⟨hz, its, 0, hv, Heap.get?_push_size _ rfl⟩
theorem Inv.fresh (I : Inv X pins σ H s) : H s.heap.objs.size = none := I.hok.fresh (Nat.le_refl _)
theorem Inv.lstM (I : Inv X pins σ H s) (hH : H l = some (.lst xs)) : xs.length ≤ sizeLine ∧ ∃ (its : List Value) (n : Nat), Vals xs its ∧ xs.length = its.length ∧ s.heap.get? l = some { cls := .type "list", data := .seq its.toArray n } := by
  obtain ⟨z, its, n, r, e⟩ := I.hok l _ hH
  exact ⟨z, its, n, r, r.length, e⟩

end

section
variable {X : Cx}

/-! ### methods -/
def rAppend : V → List V → Hp → VK → Prop := fun x vs H Q => ∃ l xs y, x = .ref l ∧ vs = [y] ∧ H l = some (.lst xs) ∧ xs.length < sizeLine ∧ Q .non (upd H l (.lst (xs ++ [y])))
theorem mt_append : MtM X "list.append" rAppend := by
  intro pins s σ H x vs v us Q I rx rv h
  obtain ⟨l, xs, y, rfl, rfl, hH, hz, q⟩ := h
  cases rx
  obtain ⟨u, rfl, ru⟩ := rv.one
  obtain ⟨z, its, n, r, hl, e⟩ := I.lstM hH
  refine call_meets F.slot_list_append ⟨_, e, rfl⟩ F.entry_list_append (F.args_list_append_2 _ _) (PySem.list_append l its.toArray n u (by rw [List.size_toArray]; omega)) ⟨e, ?_⟩
  refine ⟨.non, _, I.lset (its' := its ++ [u]) hH e (by simp) (r.append (.cons ru .nil)) ?_, rfl, q⟩
  rw [List.length_append, List.length_singleton]
  omega

def rExtend : V → List V → Hp → VK → Prop := fun x vs H Q => ∃ l b xs zs, x = .ref l ∧ vs = [.ref b] ∧ H l = some (.lst xs) ∧ H b = some (.lst zs) ∧ xs.length + zs.length ≤ sizeLine ∧ Q .non (upd H l (.lst (xs ++ zs)))
def rPop : V → List V → Hp → VK → Prop := fun x vs H Q => ∃ l xs y, x = .ref l ∧ vs = [] ∧ H l = some (.lst xs) ∧ xs[xs.length - 1]? = some y ∧ Q y (upd H l (.lst xs.dropLast))
def rPopAt : V → List V → Hp → VK → Prop := fun x vs H Q => ∃ l xs i k y, x = .ref l ∧ vs = [.int i] ∧ H l = some (.lst xs) ∧ -(2 ^ 63) ≤ i ∧ i < 2 ^ 63 ∧ seqIndex? i xs.length = some k ∧ xs[k]? = some y ∧ Q y (upd H l (.lst (xs.eraseIdx k)))
def rReverse : V → List V → Hp → VK → Prop := fun x vs H Q => ∃ l xs, x = .ref l ∧ vs = [] ∧ H l = some (.lst xs) ∧ Q .non (upd H l (.lst xs.reverse))
def rClear : V → List V → Hp → VK → Prop := fun x vs H Q => ∃ l xs, x = .ref l ∧ vs = [] ∧ H l = some (.lst xs) ∧ Q .non (upd H l (.lst []))
/-! ### list + list, list += list, list * int -/
def rCat : R2 := fun x y H Q => ∃ l b xs zs, x = .ref l ∧ y = .ref b ∧ H l = some (.lst xs) ∧ H b = some (.lst zs) ∧ xs.length + zs.length ≤ sizeLine ∧ ∀ p, H p = none → Q (.ref p) (upd H p (.lst (xs ++ zs)))
theorem op_cat : OpR X (binaryOp .Add) rCat := by
  intro pins s σ H x y v u Q I rx ry h
  obtain ⟨l, b, xs, zs, rfl, rfl, hH, hB, hz, q⟩ := h
  cases rx
  cases ry
  obtain ⟨z, its, n, r, hl, e⟩ := I.lstM hH
  obtain ⟨z2, its2, n2, r2, hl2, e2⟩ := I.lstM hB
  refine PySem.P.add_list e e2 ?_ (by rw [List.size_toArray, List.size_toArray]; omega)
  have ea : its.toArray ++ its2.toArray = (its ++ its2).toArray := by simp
  rw [ea]
  exact ⟨.ref _, _, I.lnew (t' := s.toks) (r.append r2) (by rw [List.length_append]; omega), rfl, q _ I.fresh⟩
/-- a list times an int (a negative one is nothing) -/
def rRep : R2 := fun x y H Q => ∃ l k xs, x = .ref l ∧ y = .int k ∧ H l = some (.lst xs) ∧ -(2 ^ 63) ≤ k ∧ k < 2 ^ 63 ∧ xs.length * k.toNat ≤ sizeLine ∧
  ∀ p, H p = none → Q (.ref p) (upd H p (.lst (List.replicate k.toNat xs).flatten))
/-! ### del xs[i] -/
end

/-! ### xs[a:b] = ys -/
section
variable {prog : Program} {w : World} {A : Around} {E : Value → Shared → Prop} {s : Shared}
end

section
variable {X : Cx}
end
end L2

namespace L2
open PySem PySem.Spec PyProof.Rows

/-! ### lists of pairs as tables -/
section
variable {κ : Type} [DecidableEq κ]
def valV (kvs : List (κ × V)) (k : κ) : Option V := (kvs.find? fun kv => decide (kv.1 = k)).map (·.2)
/-- in its place, or at the end -/
def putK (kvs : List (κ × V)) (k : κ) (v : V) : List (κ × V) :=
  if (kvs.any fun kv => decide (kv.1 = k)) = true then kvs.map (fun kv => if kv.1 = k then (kv.1, v) else kv) else kvs ++ [(k, v)]
def dropK (kvs : List (κ × V)) (k : κ) : List (κ × V) := kvs.filter fun kv => decide (kv.1 ≠ k)

theorem valV_pos {p : κ × V} {r : List (κ × V)} {k : κ} (e : p.1 = k) : valV (p :: r) k = some p.2 := by simp [valV, List.find?_cons, e]
theorem valV_neg {p : κ × V} {r : List (κ × V)} {k : κ} (e : ¬ p.1 = k) : valV (p :: r) k = valV r k := by simp [valV, List.find?_cons, e]
theorem valV_any (k : κ) : ∀ kvs : List (κ × V), (kvs.any fun kv => decide (kv.1 = k)) = (valV kvs k).isSome
  | [] => rfl
  | p :: r => by
    rw [List.any_cons]
    by_cases e : p.1 = k
    · simp only [valV_pos e, decide_eq_true e, Bool.true_or, Option.isSome_some]
    · rw [valV_neg e, decide_eq_false e, Bool.false_or]; exact valV_any k r
theorem valV_map (k j : κ) (y : V) : ∀ kvs : List (κ × V), valV (kvs.map fun kv => if kv.1 = k then (kv.1, y) else kv) j = (valV kvs j).map fun x => if j = k then y else x
  | [] => rfl
  | p :: r => by
    have ih := valV_map k j y r
    rw [List.map_cons]
    by_cases h : p.1 = k
    · rw [if_pos h]
      by_cases e : p.1 = j
      · rw [valV_pos (p := (p.1, y)) e, valV_pos e, Option.map_some, if_pos (e.symm.trans h)]
      · rw [valV_neg (p := (p.1, y)) e, valV_neg e, ih]
    · rw [if_neg h]
      by_cases e : p.1 = j
      · rw [valV_pos (p := p) e, valV_pos e, Option.map_some, if_neg (fun z => h (e.trans z))]
      · rw [valV_neg (p := p) e, valV_neg e, ih]
theorem valV_snoc (k j : κ) (y : V) : ∀ kvs : List (κ × V), valV kvs k = none → valV (kvs ++ [(k, y)]) j = if j = k then some y else valV kvs j
  | [], _ => by
    by_cases e : k = j
    · rw [if_pos e.symm]; exact valV_pos (p := (k, y)) e
    · rw [if_neg (fun z => e z.symm)]; exact valV_neg (p := (k, y)) e
  | p :: r, hn => by
    rw [List.cons_append]
    have hk : ¬ p.1 = k := fun z => by rw [valV_pos z] at hn; cases hn
    rw [valV_neg hk] at hn
    have ih := valV_snoc k j y r hn
    by_cases e : p.1 = j
    · rw [valV_pos e, valV_pos e, if_neg (fun z => hk (e.trans z))]
    · rw [valV_neg e, valV_neg e, ih]
theorem valV_put (kvs : List (κ × V)) (k j : κ) (y : V) : valV (putK kvs k y) j = if j = k then some y else valV kvs j := by
  unfold putK
  by_cases a : (kvs.any fun kv => decide (kv.1 = k)) = true
  · rw [if_pos a, valV_map]
    rw [valV_any] at a
    by_cases e : j = k
    · obtain ⟨x, hx⟩ := Option.isSome_iff_exists.mp a
      rw [if_pos e, e, hx, Option.map_some, if_pos rfl]
    · rw [if_neg e]
      cases valV kvs j with
      | none => rfl
      | some x => rw [Option.map_some, if_neg e]
  · rw [if_neg a]
    refine valV_snoc k j y kvs ?_
    rw [valV_any] at a
    cases q : valV kvs k with
    | none => rfl
    | some x => rw [q] at a; exact (a rfl).elim
theorem length_putK (kvs : List (κ × V)) (k : κ) (v : V) : (putK kvs k v).length ≤ kvs.length + 1 := by
  unfold putK
  split
  · rw [List.length_map]; omega
  · rw [List.length_append, List.length_cons, List.length_nil]; omega
theorem RelO.isSome_eq {o : Option V} {u : Option Value} (r : RelO o u) : o.isSome = u.isSome := by
  cases o with
  | none => cases u with
    | none => rfl
    | some _ => exact (show False from r).elim
  | some _ => cases u with
    | none => exact (show False from r).elim
    | some _ => rfl
theorem RelO.getD {o : Option V} {u : Option Value} {d : V} {d' : Value} (r : RelO o u) (rd : RelV d d') : RelV (o.getD d) (u.getD d') := by
  cases o with
  | none => cases u with
    | none => exact rd
    | some _ => exact (show False from r).elim
  | some _ => cases u with
    | none => exact (show False from r).elim
    | some _ => exact r

/-- raw tables of the same keys -/
theorem KV.val {kvs : List (κ × V)} {vs : List (κ × Value)} (r : KV kvs vs) (k : κ) : RelO (valV kvs k) (valueAt vs k) := by
  unfold KV at r
  induction r with
  | nil => exact True.intro
  | @cons p q ps qs h t ih =>
    obtain ⟨h1, h2⟩ := h
    by_cases e : p.1 = k
    · have e' : q.1 = k := h1.symm.trans e
      have b : valueAt (q :: qs) k = some q.2 := by simp [valueAt, List.find?_cons, e']
      rw [valV_pos e, b]; exact h2
    · have e' : ¬ q.1 = k := fun z => e (h1.trans z)
      have b : valueAt (q :: qs) k = valueAt qs k := by simp [valueAt, List.find?_cons, e']
      rw [valV_neg e, b]; exact ih
theorem KV.any {kvs : List (κ × V)} {vs : List (κ × Value)} (r : KV kvs vs) (k : κ) : (kvs.any fun kv => decide (kv.1 = k)) = vs.any fun kv => decide (kv.1 = k) := by
  unfold KV at r
  induction r with
  | nil => rfl
  | cons h t ih => rw [List.any_cons, List.any_cons, ih, h.1]
theorem KV.repl {kvs : List (κ × V)} {vs : List (κ × Value)} (r : KV kvs vs) (k : κ) {y : V} {u : Value} (ry : RelV y u) :
    KV (kvs.map fun kv => if kv.1 = k then (kv.1, y) else kv) (vs.map fun kv => if kv.1 = k then (kv.1, u) else kv) := by
  unfold KV at r ⊢
  induction r with
  | nil => exact .nil
  | @cons p q ps qs h t ih =>
    rw [List.map_cons, List.map_cons]
    refine .cons ?_ ih
    obtain ⟨h1, h2⟩ := h
    by_cases e : p.1 = k
    · rw [if_pos e, if_pos (h1.symm.trans e)]; exact ⟨h1, ry⟩
    · rw [if_neg e, if_neg (fun z => e (h1.trans z))]; exact ⟨h1, h2⟩
theorem KV.put {kvs : List (κ × V)} {vs : List (κ × Value)} (r : KV kvs vs) (k : κ) {y : V} {u : Value} (ry : RelV y u) : KV (putK kvs k y) (stored vs k u) := by
  unfold putK stored
  rw [r.any k]
  by_cases e : (vs.any fun kv => decide (kv.1 = k)) = true
  · rw [if_pos e, if_pos e]; exact r.repl k ry
  · rw [if_neg e, if_neg e]; exact Paired.snoc r ⟨rfl, ry⟩
theorem KV.drop {kvs : List (κ × V)} {vs : List (κ × Value)} (r : KV kvs vs) (k : κ) : KV (dropK kvs k) (without vs k) := by
  unfold KV at r ⊢
  unfold dropK without
  induction r with
  | nil => exact .nil
  | @cons p q ps qs h t ih =>
    obtain ⟨h1, h2⟩ := h
    rw [List.filter_cons, List.filter_cons]
    by_cases e : p.1 = k
    · have a : ¬ decide (p.1 ≠ k) = true := by simp [e]
      have b : ¬ decide (q.1 ≠ k) = true := by simp [h1.symm.trans e]
      rw [if_neg a, if_neg b]; exact ih
    · have e' : ¬ q.1 = k := fun z => e (h1.trans z)
      have a : decide (p.1 ≠ k) = true := by simp [e]
      have b : decide (q.1 ≠ k) = true := by simp [e']
      rw [if_pos a, if_pos b]; exact .cons ⟨h1, h2⟩ ih
theorem KV.keys {kvs : List (κ × V)} {vs : List (κ × Value)} (r : KV kvs vs) : kvs.map (·.1) = vs.map (·.1) := by
  unfold KV at r
  induction r with
  | nil => rfl
  | cons h t ih => rw [List.map_cons, List.map_cons, ih, h.1]
theorem KV.length {kvs : List (κ × V)} {vs : List (κ × Value)} (r : KV kvs vs) : kvs.length = vs.length := Paired.length r
end


/-! ### a tracked dict, its keys ints and texts or tuples of these -/
theorem kV_is {P : Program} {w : World} {k : Key} {u : Value} (r : RelV (kV k) u) : (mixKind P w).is k u = true := by
  cases k with
  | inl i => obtain ⟨t, e⟩ := (show ∃ t, u = Value.int i t from r); subst e; exact mixKind_int P w i t
  | inr x => obtain ⟨t, e⟩ := (show ∃ t, u = Value.str x t from r); subst e; exact mixKind_str P w x t
theorem items_are {P : Program} {w : World} : ∀ {ks : List Key} {us : List Value}, Vals (ks.map kV) us → ItemsAre (mixKind P w) ks us
  | [], _, r => by rw [List.map_nil] at r; cases r; exact .nil
  | k :: ks, _, r => by
    rw [List.map_cons] at r
    cases r with
    | cons h t => exact .cons (kV_is h) (items_are t)

/-- raw entries of a dict with tuple keys -/
abbrev KT (H : Hp) : List (List Key × V) → List (List Key × Addr × Value) → Prop := Paired fun p q => p.1 = q.1 ∧ H q.2.1 = some (.tup (p.1.map kV)) ∧ RelV p.2 q.2.2
theorem KT.val {H : Hp} {kvs : List (List Key × V)} {xs : List (List Key × Addr × Value)} (r : KT H kvs xs) (k : List Key) : RelO (valV kvs k) ((atKey xs k).map (·.2)) := by
  induction r with
  | nil => exact True.intro
  | @cons p q ps qs h t ih =>
    obtain ⟨h1, _, h2⟩ := h
    by_cases e : p.1 = k
    · have e' : q.1 = k := h1.symm.trans e
      have b : atKey (q :: qs) k = some q.2 := by simp [atKey, List.find?_cons, e']
      rw [valV_pos e, b]; exact h2
    · have e' : ¬ q.1 = k := fun z => e (h1.trans z)
      have b : atKey (q :: qs) k = atKey qs k := by simp [atKey, List.find?_cons, e']
      rw [valV_neg e, b]; exact ih
theorem KT.repl {H : Hp} {kvs : List (List Key × V)} {xs : List (List Key × Addr × Value)} (r : KT H kvs xs) (k : List Key) {y : V} {u : Value} (ry : RelV y u) :
    KT H (kvs.map fun kv => if kv.1 = k then (kv.1, y) else kv) (xs.map (putAt k u)) := by
  induction r with
  | nil => exact .nil
  | @cons p q ps qs h t ih =>
    rw [List.map_cons, List.map_cons]
    refine .cons ?_ ih
    obtain ⟨h1, h2, h3⟩ := h
    unfold putAt
    by_cases e : p.1 = k
    · rw [if_pos e, if_pos (h1.symm.trans e)]; exact ⟨h1, h2, ry⟩
    · rw [if_neg e, if_neg (fun z => e (h1.trans z))]; exact ⟨h1, h2, h3⟩
theorem KT.put {H : Hp} {kvs : List (List Key × V)} {xs : List (List Key × Addr × Value)} (r : KT H kvs xs) (k : List Key) {b : Addr} {y : V} {u : Value} (hb : H b = some (.tup (k.map kV))) (ry : RelV y u) :
    KT H (putK kvs k y) (storedH xs k b u) := by
  have e : (kvs.any fun kv => decide (kv.1 = k)) = (atKey xs k).isSome := by
    rw [valV_any, (r.val k).isSome_eq, Option.isSome_map]
  unfold putK storedH
  rw [e]
  by_cases q : (atKey xs k).isSome = true
  · rw [if_pos q, if_pos q]; exact r.repl k ry
  · rw [if_neg q, if_neg q]; exact Paired.snoc r ⟨rfl, hb, ry⟩
theorem KT.keeps {H H' : Hp} {kvs : List (List Key × V)} {xs : List (List Key × Addr × Value)} (r : KT H kvs xs) (ht : ∀ b ys, H b = some (.tup ys) → H' b = some (.tup ys)) : KT H' kvs xs :=
  Paired.mapP r fun _ _ z => ⟨z.1, ht _ _ z.2.1, z.2.2⟩

section
variable {P : Program} {w : World} {H : Hp} {h : Heap} {a : Addr}
theorem rd_of {u : HO} (ok : HOk P w H h) (e : Rd H a u) : ObjOk P w H h a u := e.ok ok
theorem dk_rd {kvs : List (Key × V)} (ok : HOk P w H h) (e : Rd H a (.dK kvs)) : kvs.length ≤ sizeLine ∧ (a == sysModules) = false ∧ ∃ vs, KV kvs vs ∧ h.DictOf (mixKind P w) a vs :=
  show ObjOk P w H h a (.dK kvs) from rd_of ok e
theorem dk_of {kvs : List (Key × V)} (ok : HOk P w H h) (e : H a = some (.dK kvs)) : kvs.length ≤ sizeLine ∧ (a == sysModules) = false ∧ ∃ vs, KV kvs vs ∧ h.DictOf (mixKind P w) a vs := dk_rd ok (.inl e)
/-- a tracked tuple of ints and texts is a key -/
theorem key_of {ks : List Key} (ok : HOk P w H h) (e : H a = some (.tup (ks.map kV))) : (tupleKind (mixKind P w)).is h ks a := by
  obtain ⟨_, its, r, o, h1, h2, n, h3⟩ := (show ObjOk P w H h a (.tup (ks.map kV)) from ok a _ e)
  exact ⟨o, its.toArray, n, h1, h2, h3, by simpa using items_are r⟩
theorem dt_rd {kvs : List (List Key × V)} (ok : HOk P w H h) (e : Rd H a (.dT kvs)) : kvs.length ≤ sizeLine ∧ (a == sysModules) = false ∧
    ∃ xs, KT H kvs xs ∧ h.DictOfH (tupleKind (mixKind P w)) a xs := by
  obtain ⟨z, y, xs, r, o, es, ep, h1, h2, h3, h4, h5⟩ := (show ObjOk P w H h a (.dT kvs) from rd_of ok e)
  refine ⟨z, y, xs, r, o, es, ep, h1, h2, h3, h4, fun x hx => ?_, h5⟩
  have all : ∀ {l : List (List Key × V)} {m : List (List Key × Addr × Value)}, KT H l m → ∀ x ∈ m, (tupleKind (mixKind P w)).is h x.1 x.2.1 := by
    intro l m q
    induction q with
    | nil => intro x hx; exact nomatch hx
    | @cons p q ps qs hq t ih =>
      intro x hx
      rcases List.mem_cons.mp hx with e | hx
      · subst e
        exact key_of ok (by rw [← hq.1]; exact hq.2.1)
      · exact ih x hx
  exact all r x hx
theorem dt_of {kvs : List (List Key × V)} (ok : HOk P w H h) (e : H a = some (.dT kvs)) : kvs.length ≤ sizeLine ∧ (a == sysModules) = false ∧
    ∃ xs, KT H kvs xs ∧ h.DictOfH (tupleKind (mixKind P w)) a xs := dt_rd ok (.inl e)
end

/-- what the dict at a holds at the key y -/
def DGet (H : Hp) (a : Addr) (y : V) (r : Option V) : Prop :=
  (∃ kvs k, Rd H a (.dK kvs) ∧ y = kV k ∧ r = valV kvs k) ∨ ∃ kvs k b, Rd H a (.dT kvs) ∧ y = .ref b ∧ H b = some (.tup (k.map kV)) ∧ r = valV kvs k
/-- the heap behind a[y] = v -/
def DPut (H : Hp) (a : Addr) (y v : V) (H' : Hp) : Prop :=
  (∃ kvs k, H a = some (.dK kvs) ∧ y = kV k ∧ kvs.length < sizeLine ∧ H' = upd H a (.dK (putK kvs k v))) ∨
  ∃ kvs k b, H a = some (.dT kvs) ∧ y = .ref b ∧ H b = some (.tup (k.map kV)) ∧ kvs.length < sizeLine ∧ H' = upd H a (.dT (putK kvs k v))
theorem DGet.k {H : Hp} {a : Addr} {kvs : List (Key × V)} {k : Key} (e : H a = some (.dK kvs)) : DGet H a (kV k) (valV kvs k) := .inl ⟨kvs, k, .inl e, rfl, rfl⟩
theorem DGet.t {H : Hp} {a b : Addr} {kvs : List (List Key × V)} {k : List Key} (e : H a = some (.dT kvs)) (eb : H b = some (.tup (k.map kV))) : DGet H a (.ref b) (valV kvs k) := .inr ⟨kvs, k, b, .inl e, rfl, eb, rfl⟩
theorem DPut.k {H : Hp} {a : Addr} {kvs : List (Key × V)} {k : Key} {v : V} (e : H a = some (.dK kvs)) (hl : kvs.length < sizeLine) : DPut H a (kV k) v (upd H a (.dK (putK kvs k v))) := .inl ⟨kvs, k, e, rfl, hl, rfl⟩
theorem DPut.t {H : Hp} {a b : Addr} {kvs : List (List Key × V)} {k : List Key} {v : V} (e : H a = some (.dT kvs)) (eb : H b = some (.tup (k.map kV))) (hl : kvs.length < sizeLine) :
    DPut H a (.ref b) v (upd H a (.dT (putK kvs k v))) := .inr ⟨kvs, k, b, e, rfl, eb, hl, rfl⟩


section
variable {X : Cx} {pins : List (Addr × Obj)} {σ : St} {H : Hp} {s : Shared} {a : Addr} {y v : V} {u r : Value} {o : Option V} {A : Around} {E : Value → Shared → Prop}

theorem Inv.big (I : Inv X pins σ H s) : sysModules < s.heap.objs.size := by
  have h : mainGlobals < s.heap.objs.size := (I.mod.glob.keeps I.bk).lt
  exact Nat.lt_trans (by decide) h

/-- d[y], there -/
theorem d_getItem {Q : Value → Shared → Prop} (hu : A.units + 1 < cLine) (I : Inv X pins σ H s) (g : DGet H a y (some v)) (ry : RelV y u) (h : ∀ w' s', Inv X pins σ H s' → RelV v w' → Q w' s') :
    wpAny (model X.prog X.w) A (getItem (.ref a) u) Q E s := by
  rcases g with ⟨kvs, k, e, ey, l⟩ | ⟨kvs, k, b, e, ey, eb, l⟩
  · subst ey
    obtain ⟨z, hd, vs, rel, dd⟩ := dk_rd I.hok e
    obtain ⟨w', hw, rw'⟩ := RelO.some_of (v := v) (o := valueAt vs k) (by rw [l]; exact rel.val k)
    exact wpAny_getItem_of (kV_is ry) dd.mapOf hw (h w' _ (I.tok _) rw')
  · subst ey
    cases (show u = Value.ref b from ry)
    obtain ⟨z, hd, xs, rel, dd⟩ := dt_rd I.hok e
    obtain ⟨w', hw, rw'⟩ := RelO.some_of (v := v) (o := (atKey xs k).map (·.2)) (by rw [l]; exact rel.val k)
    obtain ⟨p, hp, hp2⟩ := Option.map_eq_some_iff.mp hw
    refine wpAny_getItem_heap (tupleKind_room_in1 hu) (key_of I.hok eb) dd hp ?_
    rw [hp2]
    exact h w' _ (I.tok _) rw'
/-- a dict's object is replaced -/
theorem d_write {h' : Heap} {t' : Nat} {ob : HO} (I : Inv X pins σ H s) (mu : Mut (H a)) (hs : Heap.SameBut a s.heap h') (he : ∃ q, h'.get? a = some q) (new : ObjOk X.prog X.w (upd H a ob) h' a ob) :
    Inv X pins σ (upd H a ob) { s with heap := h', toks := t' } :=
  I.write (x := a) (e := a) mu (.inl rfl) (fun b q hb z => (hs.2 b hb).trans z) he new
theorem dk_new {P : Program} {w : World} {H' : Hp} {h' : Heap} {kvs : List (Key × V)} {vs : List (Key × Value)} (z : kvs.length ≤ sizeLine) (hd : (a == sysModules) = false) (rel : KV kvs vs) (dd : h'.DictOf (mixKind P w) a vs) :
    ObjOk P w H' h' a (.dK kvs) := ⟨z, hd, vs, rel, dd⟩
/-- d[y] = v -/
theorem d_setItem {H' : Hp} {Q : Unit → Shared → Prop} (hu : A.units + 1 < cLine) (I : Inv X pins σ H s) (g : DPut H a y v H') (ry : RelV y u) (rv : RelV v r) (h : ∀ s', Inv X pins σ H' s' → Q () s') :
    wpAny (model X.prog X.w) A (setItem (.ref a) u r) Q E s := by
  rcases g with ⟨kvs, k, e, ey, l, eH⟩ | ⟨kvs, k, b, e, ey, eb, l, eH⟩
  · subst ey eH
    obtain ⟨z, hd, vs, rel, dd⟩ := dk_of I.hok e
    have hz : vs.length ≤ sizeLine := by rw [← rel.length]; exact z
    have hl : (putK kvs k v).length ≤ sizeLine := by have := length_putK kvs k v; omega
    refine wpAny_setItem_pairs (hsz := hz) (kV_is ry) dd fun h' dd' hs => h _ ?_
    have he : ∃ q, h'.get? a = some q := let ⟨q, _, _, hq, _⟩ := dd'; ⟨q, hq⟩
    exact d_write I (by rw [e]; exact True.intro) hs he (dk_new hl hd (rel.put k rv) dd')
  · subst ey eH
    cases (show u = Value.ref b from ry)
    obtain ⟨z, hd, xs, rel, dd⟩ := dt_of I.hok e
    have hz : xs.length ≤ sizeLine := by rw [← Paired.length rel]; exact z
    have hl : (putK kvs k v).length ≤ sizeLine := by have := length_putK kvs k v; omega
    refine wpAny_setItem_heap (hsz := hz) (tupleKind_room_in1 hu) (key_of I.hok eb) dd fun h' dd' hs => h _ ?_
    obtain ⟨q, es, ep, hq, h2, h3, h4, _, h5⟩ := dd'
    refine d_write I (by rw [e]; exact True.intro) hs ⟨q, hq⟩ ⟨hl, hd, _, (rel.put k eb rv).keeps fun c ys ec => ?_, q, es, ep, hq, h2, h3, h4, h5⟩
    rw [upd_ne (ne_of ec e (fun z => nomatch z))]
    exact ec
end

section
variable {X : Cx} {pins : List (Addr × Obj)} {σ : St} {H : Hp} {s : Shared} {a : Addr} {kvs : List (Key × V)} {k : Key} {u : Value} {A : Around} {E : Value → Shared → Prop}
end


/-! ### readings and rules -/
/-- the element of a subscription, not a slice -/
def NoSl (i : Expr) : Prop := ∀ ov iv, subscripted i false ov iv = operate [ov, iv] (getItem ov iv)
theorem subD_of {prog : Program} {w : World} {A : Around} {E : Value → Shared → Prop} {s : Shared} {env : Env} {value slice : Expr} {pos : Pos} {T id : String} {Q : Value → Shared → Prop}
    (hl : typeLookup (.type T) "__getitem__" = pure (some (.builtin id))) (hs : NoSl slice)
    (h : wpAny (model prog w) A (eval value env) (fun o s₁ => wpAny (model prog w) A (eval slice env) (fun i s₂ => s₂.TypeIs o T ∧ wpAny (model prog w) A (getItem o i) Q E s₂) E s₁) E s) :
    wpAny (model prog w) A (eval (.Subscript value slice pos) env) Q E s := by
  refine Subscript_ (wpAny_mono h (fun o s₁ h₁ => wpAny_mono h₁ (fun i s₂ h₂ => ?_) fun _ _ x => x) fun _ _ x => x)
  obtain ⟨hT, h₂⟩ := h₂
  unfold subscriptTail
  refine wpAny_bind ?_
  rw [getitemInPython_of_ne hT.not_modules]
  refine wpAny_bind (wpAny_specialOf hT hl ?_)
  have fin : wpAny (model prog w) A (subscripted slice false o i) (fun r s₃ => wpAny (model prog w) A (letTemporaryGo value o r >>= fun _ => pure r) Q E s₃) E s₂ := by
    rw [hs o i]
    exact wpAny_operating (wpAny_mono h₂ (fun r s₃ h₃ => wpAny_bind (wpAny_letTemporaryGo (wpAny_pure h₃))) fun _ _ x => x)
  first
    | exact wpAny_pure (wpAny_bind fin)
    | exact wpAny_bind (wpAny_pure (wpAny_bind fin))
    | exact wpAny_bind fin

theorem dict_typeIs {X : Cx} {pins : List (Addr × Obj)} {σ : St} {H : Hp} {s : Shared} {a : Addr} {y : V} {o : Option V} (I : Inv X pins σ H s) (g : DGet H a y o) : s.TypeIs (.ref a) "dict" := by
  rcases g with ⟨kvs, k, e, _, _⟩ | ⟨kvs, k, b, e, _, _, _⟩
  · obtain ⟨_, _, vs, _, dd⟩ := dk_rd I.hok e
    exact dd.typeIs
  · obtain ⟨_, _, xs, _, dd⟩ := dt_rd I.hok e
    exact dd.typeIs
/-- d[y] -/
def tDGet (td ty : TE) : TE := fun σ H Q => td σ H fun x H1 => ty σ H1 fun y H2 => ∃ a v, x = .ref a ∧ DGet H2 a y (some v) ∧ Q v H2
/-- y in d, y not in d -/
def tDIn (ty td : TE) : TE := fun σ H Q => ty σ H fun y H1 => td σ H1 fun x H2 => ∃ a o, x = .ref a ∧ DGet H2 a y o ∧ Q (.bl o.isSome) H2
def tDNotIn (ty td : TE) : TE := fun σ H Q => ty σ H fun y H1 => td σ H1 fun x H2 => ∃ a o, x = .ref a ∧ DGet H2 a y o ∧ Q (.bl (!o.isSome)) H2
/-- d[y] = v -/
def sDPut (td ty tv : TE) : TS := fun D σ H => tv σ H fun v H1 => td σ H1 fun x H2 => ty σ H2 fun y H3 => ∃ a H4, x = .ref a ∧ DPut H3 a y v H4 ∧ D.nx σ H4
/-- d[y] op= v -/
def sDAug (td ty tv : TE) (rd : V → V → Hp → VK → Prop) : TS := fun D σ H => td σ H fun x H1 => ty σ H1 fun y H2 => ∃ a v, x = .ref a ∧ DGet H2 a y (some v) ∧
  tv σ H2 fun y2 H3 => rd v y2 H3 fun z H4 => ∃ H5, DPut H4 a y z H5 ∧ D.nx σ H5
/-- del d[y] -/
def sDDel (td ty : TE) : TS := fun D σ H => td σ H fun x H1 => ty σ H1 fun y H2 => ∃ a kvs k, x = .ref a ∧ H2 a = some (.dK kvs) ∧ y = kV k ∧ (valV kvs k).isSome = true ∧ D.nx σ (upd H2 a (.dK (dropK kvs k)))

section
variable {X : Cx} {o i e value : Expr} {pos pos' tpos : Pos} {td ty tv : TE}
theorem pe_dget (hu : X.A.units + 1 < cLine) (ho : PE X o td) (hi : PE X i ty) (hs : NoSl i) : PE X (.Subscript o i pos) (tDGet td ty) := by
  intro pins s σ H Q I h
  refine subD_of PySem.F.slot_dict_getitem.lookup hs (thn (ho pins s σ H _ I h) fun u s1 ⟨x, H1, I1, rx, q1⟩ => thn (hi pins s1 σ H1 _ I1 q1) fun iv s2 ⟨y, H2, I2, ry, a, v, ex, g, q2⟩ => ?_)
  subst ex
  obtain rfl : u = Value.ref a := rx
  exact ⟨dict_typeIs I2 g, d_getItem hu I2 g ry fun w' s3 I3 rw' => ⟨v, H2, I3, rw', q2⟩⟩
theorem ps_dput (hu : X.A.units + 1 < cLine) (ho : PE X o td) (hi : PE X i ty) (hv : PE X value tv) (hs : swapsWith value (some (.Subscript o i pos')) pos.line X.env = pure false) :
    PS X (.Assign [.Subscript o i pos'] value pos) (sDPut td ty tv) := by
  intro pins s σ H D I h
  refine wpAny_Assign_Subscript (thn (hv pins s σ H _ I h) fun r s1 ⟨v, H1, I1, rv, q1⟩ => thn (ho pins s1 σ H1 _ I1 q1) fun u s2 ⟨x, H2, I2, rx, q2⟩ => thn (hi pins s2 σ H2 _ I2 q2) fun iv s3 ⟨y, H3, I3, ry, a, H4, ex, g, q3⟩ => ?_) hs
  subst ex
  obtain rfl : u = Value.ref a := rx
  exact d_setItem hu I3 g ry rv fun s4 I4 => ⟨σ, H4, I4, q3⟩
end


/-! ### displays -/
theorem dk_empty {P : Program} {w : World} {H : Hp} (h : Heap) (hb : sysModules < h.objs.size) : ObjOk P w H (h.push { cls := .type "dict", data := .dict #[] }) h.objs.size (.dK []) :=
  ⟨Nat.zero_le _, beq_eq_false_iff_ne.mpr (Ne.symm (Nat.ne_of_lt hb)), [], .nil, Heap.DictOf.new h⟩
/-- {}, to be a dict of the kind that is wanted -/
def tDNewK : TE := fun _ H Q => ∀ p, H p = none → Q (.ref p) (upd H p (.dK []))
def tDNewT : TE := fun _ H Q => ∀ p, H p = none → Q (.ref p) (upd H p (.dT []))
section
variable {X : Cx} {pos : Pos}
theorem pe_dnewK : PE X (.Dict [] [] pos) tDNewK := fun pins s σ H Q I h =>
  wpAny_Dict_empty ⟨.ref s.heap.objs.size, _, I.laid (a := s.heap.objs.size) (o := .dK []) (t' := s.toks) (fun _ _ q => Heap.get?_push_of_some _ q) (Nat.le_refl _) (dk_empty s.heap I.big), rfl, h _ (I.hok.fresh (Nat.le_refl _))⟩
end

/-- the pairs of a display, from the left -/
def tPairs : List (TE × TE) → St → Hp → (List (V × V) → Hp → Prop) → Prop
  | [], _, H, Q => Q [] H
  | (tk, tv) :: r, σ, H, Q => tk σ H fun x H1 => tv σ H1 fun y H2 => tPairs r σ H2 fun ps H3 => Q ((x, y) :: ps) H3
abbrev VV : List (V × V) → List (Value × Value) → Prop := Paired fun p q => RelV p.1 q.1 ∧ RelV p.2 q.2
def PPs (X : Cx) (pos : Pos) (keys : List (Option Expr)) (values : List Expr) (trs : List (TE × TE)) : Prop :=
  ∀ (pins : List (Addr × Obj)) (s : Shared) (σ : St) (H : Hp) (Q : List (V × V) → Hp → Prop), Inv X pins σ H s → tPairs trs σ H Q →
    wpAny (model X.prog X.w) X.A (evalPairs (pairTrees keys values X.env pos)) (fun vs s' => ∃ ps H', Inv X pins σ H' s' ∧ VV ps vs ∧ Q ps H') X.xe s
def mergeK (kvs more : List (Key × V)) : List (Key × V) := more.foldl (fun acc kv => putK acc kv.1 kv.2) kvs
/-- {k: v, ..} with keys ints and texts; the new dict stands empty while the pairs are made -/
def tDisp (trs : List (TE × TE)) : TE := fun σ H Q => ∀ p, H p = none → tPairs trs σ (upd H p (.dK [])) fun ps H2 => H2 p = some (.dK []) ∧ ∃ kvs : List (Key × V), ps = kvs.map (fun kv => (kV kv.1, kv.2)) ∧ kvs.length ≤ 15 ∧ Q (.ref p) (upd H2 p (.dK (mergeK [] kvs)))
/-! ### methods -/
/-- a method call o.m(e) of a built-in, with one argument: what must be seen of the text -/
structure M1 (X : Cx) (o : Expr) (m : Str) (apos : Pos) (e : Expr) (cpos : Pos) : Prop where
  base : attributeBase o m X.env (eval o X.env) = eval o X.env
  few : ((backTo cpos (starEach [e] X.env)).all (fun x => !x.1) && (backToKw cpos (keywordEach [] X.env)).all (fun x => x.1.isSome)
    && decide (([e] : List Expr).length + ([] : List Keyword).length + (if ([] : List Keyword).isEmpty then 0 else 1) < 30)) = true
  line : (apos.endLine == cpos.line) = true
  trees : backTo cpos (starEach [e] X.env) = [(false, eval e X.env)]
structure M2 (X : Cx) (o : Expr) (m : Str) (apos : Pos) (e f : Expr) (cpos : Pos) : Prop where
  base : attributeBase o m X.env (eval o X.env) = eval o X.env
  few : ((backTo cpos (starEach [e, f] X.env)).all (fun x => !x.1) && (backToKw cpos (keywordEach [] X.env)).all (fun x => x.1.isSome)
    && decide (([e, f] : List Expr).length + ([] : List Keyword).length + (if ([] : List Keyword).isEmpty then 0 else 1) < 30)) = true
  line : (apos.endLine == cpos.line) = true
  trees : backTo cpos (starEach [e, f] X.env) = [(false, eval e X.env), (false, eval f X.env)]

/-- a is a dict, whatever its keys -/
def IsD (H : Hp) (a : Addr) : Prop := (∃ kvs, Rd H a (.dK kvs)) ∨ ∃ kvs, Rd H a (.dT kvs)
section
variable {X : Cx} {pins : List (Addr × Obj)} {σ : St} {H : Hp} {s : Shared} {a : Addr} {y d : V} {u r : Value} {o : Option V} {A : Around} {E : Value → Shared → Prop}
end

def tDGet1 (td ty : TE) : TE := fun σ H Q => td σ H fun x H1 => ∃ a, x = .ref a ∧ IsD H1 a ∧ ty σ H1 fun y H2 => ∃ o, DGet H2 a y o ∧ Q (o.getD .non) H2
def tDGet2 (td ty tx : TE) : TE := fun σ H Q => td σ H fun x H1 => ∃ a, x = .ref a ∧ IsD H1 a ∧ ty σ H1 fun y H2 => tx σ H2 fun z H3 => ∃ o, DGet H3 a y o ∧ Q (o.getD z) H3
/-- d.pop(k): there; d.pop(k, x): there or not -/
def tDPop1 (td ty : TE) : TE := fun σ H Q => td σ H fun x H1 => ∃ a, x = .ref a ∧ IsD H1 a ∧ ty σ H1 fun y H2 => ∃ kvs k v, H2 a = some (.dK kvs) ∧ y = kV k ∧ valV kvs k = some v ∧ Q v (upd H2 a (.dK (dropK kvs k)))
def tDPop2 (td ty tx : TE) : TE := fun σ H Q => td σ H fun x H1 => ∃ a, x = .ref a ∧ IsD H1 a ∧ ty σ H1 fun y H2 => tx σ H2 fun z H3 => ∃ kvs k, H3 a = some (.dK kvs) ∧ y = kV k ∧
  (∀ v, valV kvs k = some v → Q v (upd H3 a (.dK (dropK kvs k)))) ∧ (valV kvs k = none → Q z H3)
section
variable {X : Cx} {o e f : Expr} {apos cpos : Pos} {td ty tx : TE}
end

/-! ### dict(d): a copy -/
section
variable {X : Cx} {pins : List (Addr × Obj)} {σ : St} {H : Hp} {s : Shared} {a : Addr} {kvs : List (Key × V)} {A : Around} {E : Value → Shared → Prop}
end


section
variable {X : Cx} {pins : List (Addr × Obj)} {σ : St} {H : Hp} {s : Shared} {a : Addr} {y : V} {u : Value} {A : Around} {E : Value → Shared → Prop}
end
end L2

namespace Att
open PySem PySem.W PySem.Calls PyProof.Rows

/-! ### the script -/
theorem ints_of_wellAll {P : Params} {h : Heap} : ∀ (ns : List Int) (vs : List Value), WellAll P h vs (ns.map WData.int) → IntsAre vs ns := by
  intro ns
  induction ns with
  | nil =>
    intro vs w
    rw [List.map_nil] at w
    cases w
    exact .nil
  | cons n ns ih =>
    intro vs w
    rw [List.map_cons] at w
    cases w with
    | cons a b =>
      cases a
      exact .cons _ _ (ih _ b)

theorem script_of {l : OpenLaw} {n : Nat} (hn : l.most = some n) {P : Params} {h : Heap} {args : List WData} {vals : List Value}
    (hpre : l.row.toRowW.claim.pre args = true) (hwl : WellAll P h vals args) :
    ∃ a vs ns, vals = [Value.ref a] ∧ args = [WData.list (ns.map WData.int)] ∧ h.get? a = some { cls := .type "list", data := .seq vs.toArray } ∧ IntsAre vs ns ∧ ns.length ≤ n := by
  have hsh : WShape.hasAll [] args [.list .int] = true := (pre_splitW hpre).1
  have hc : l.pre.holds [] { args := args } = true := (pre_splitW hpre).2
  obtain ⟨d, r, rfl, h1, h2⟩ := hasAllW_cons hsh
  obtain rfl := hasAllW_nil h2
  obtain ⟨xs, rfl, h3⟩ := hasW_list h1
  obtain ⟨ns, rfl⟩ := items_int h3
  have hlen : ns.length ≤ n := by
    unfold OpenLaw.pre at hc
    have h4 : (WTm.not (.lt (.lit (.int (n : Int))) (.len (.arg 0)))).holds [] { args := [.list (ns.map .int)] } = true := by
      have h4 := (holds_andW hc).1
      rw [hn] at h4
      exact h4
    have h5 := condW_of h4 (w_not (w_lt w_lit (w_len_list (w_arg rfl))))
    rw [List.length_map] at h5
    refine Nat.le_of_not_lt fun q => ?_
    have q' : (n : Int) < ((ns.length : Nat) : Int) := by omega
    first
      | (rw [decide_eq_true q'] at h5; exact absurd h5 (by decide))
      | (simp at h5; omega)
  cases hwl with
  | cons w1 w2 =>
    cases w2
    cases w1 with
    | list ho hall => exact ⟨_, _, ns, rfl, rfl, ho, ints_of_wellAll ns _ hall, hlen⟩

theorem post_true (l : OpenLaw) (args : List WData) : l.row.toRowW.claim.post args (.bool true) args = true :=
  postW_of (r := l.row.toRowW) (X := (true == true))
    (show WShape.has [] (.bool true) .bool = true by first | rfl | decide | simp [WShape.has, WShape.arms, WShape.armsAll])
    (show (WTm.eq .res (.lit (.bool true))).value [] { args := args, res := some (.bool true), after := args } = some (.bool (true == true)) from w_eq_bool (w_res rfl) w_lit) rfl

/-! ### the attachment: holds_open's last premise (the goal 'hc' behind k_head) from a wpAny of the law's body -/
/-- the same from a codeAny of the CALL (for a layer whose function contracts speak of calls) -/
theorem attach_call {l : OpenLaw} {n : Nat} {q : Program} {loose : List Str} {XP : (Str → Option Value) → Heap → Prop} {YP : World → Heap → Prop} {d : DefRec}
    (hn : l.most = some n) (hdf : d.params.defaults = [])
    (call : ∀ (w : World) (s₀ s₁ : Shared) (mg mb : Str → Option Value) (fa : Addr) (o : Obj) (pm cd doc : Value) (a : Addr) (vs : List Value) (ns : List Int),
      Ground q loose [] XP w s₀ mg mb s₁.heap → YP w s₁.heap →
      s₁.heap.get? fa = some o → o.data = .func (docDef d.name d.params d.body d.scope pm cd doc) → s₁.heap.CodeRec cd d.name → mg d.name = some (.ref fa) →
      s₁.heap.get? a = some { cls := .type "list", data := .seq vs.toArray } → IntsAre vs ns → ns.length ≤ n → s₁.gens = #[] →
      codeAny (model l.prog w) callerA (.call (.ref fa) ⟨[.ref a], []⟩) (fun r s' => r = .ok (.ret (.bool true)) ∧ OldK s₁.heap s'.heap ∧ s'.os = s₁.os ∧ AllBare s'.gens) s₁) :
    WalkO q loose XP YP l.row.toRowW d [] (fun f vs => PySem.call f vs) := by
  intro w s₀ s₁ mg mb G Y fa o pm cd doc dV kV ho hd hcd hD hmg hg args vals as hpre hlay hrd hwl hlo
  obtain rfl : dV = .none := Dflts.none hD hdf
  obtain rfl : kV = .none := Dflts.noKw hD
  obtain ⟨a, vs, ns, rfl, rfl, hobj, hints, hlen⟩ := script_of hn hpre hwl
  refine enter_call (codeAny_mono (call w s₀ s₁ mg mb fa o pm cd doc a vs ns G Y ho (fd_plain hd) hcd hmg hobj hints hlen hg) fun r s' hq => ?_)
  obtain ⟨rfl, h2, h3, h4⟩ := hq
  exact ⟨.inl ⟨.bool true, .bool true, [], rfl, fun _ => rfl, .bool true, post_true l _, fun _ => ⟨List.Pairwise.nil, fun _ hm => (nomatch hm)⟩⟩, h2, h3, h4⟩

/-! ### rules over ANY heap (no ledger) from facts about the written part K: the library's own take a ledger (News) for what they write -/
section
variable {prog : Program} {w : World} {A : Around} {E : Value → Shared → Prop} {s : Shared} {K : Frag}

/-! the whole heap as the ledger: makes every rule that writes through a ledger a rule over any heap -/
def noObjs (h : Heap) : Heap := { h with objs := #[] }
def ledger (h : Heap) (L d : Addr) : List (Addr × Obj) := (List.range h.objs.size).filterMap fun a => if a = L ∨ a = d then none else (h.get? a).map fun o => (a, o)
end
end Att

namespace L2
open PySem PySem.Spec PyProof.Rows

theorem vals_ints : ∀ {vs : List Value} {ns : List Int}, IntsAre vs ns → Vals (ns.map V.int) vs
  | _, _, .nil => .nil
  | _, _, .cons n t h => .cons ⟨t, rfl⟩ (vals_ints h)

/-- nothing is tracked but the script, known to the object (or it is an object of the module) -/
def Only (H : Hp) : Prop := ∀ b, H b = none ∨ ∃ o xs, H b = some (.frz o (.lst xs))

/-- THE HEAD: the law's promise, at the heap behind the top. F, the promise of the law's def, may use that base is part of the heap (so K.In base, base.Ns mainGlobals mg stand in Mod) -/
theorem law_call {P : Program} {w : World} {K : PySem.W.Frag} {mg mb : Str → Option Value} {CX : CXT} {k : Nat} {fa a : Addr} {fd : FuncData} {x : Str} {sp : Sp} {s₁ : Shared} {vs : List Value} {ns : List Int}
    (KX : K.In s₁.heap) (hns : s₁.heap.Ns mainGlobals mg) (hb : s₁.heap.Ns builtinsNs mb) (hbb : ∀ x : Str, x ≠ "__name__" → mb x = bootBuiltins x) (hlim : s₁.heap.NoLimit) (hg : s₁.gens = #[])
    (ha : s₁.heap.get? a = some { cls := .type "list", data := .seq vs.toArray }) (hi : IntsAre vs ns) (hl : ns.length ≤ sizeLine) (hr : Room k callerA)
    (F : ∀ base : Heap, K.In base → base.Ns mainGlobals mg → FnOk P w K mg base CX k fa fd [x] sp) (hbind : ∀ (s : Shared) (u : Value), BindsTo s fd ⟨[u], []⟩ [(x, u)])
    (hsp : ∀ H : Hp, Only H → SqL K H a (ns.map V.int) → sp [.ref a] H (fun v _ => v = .bl true) fun _ _ _ => False)
    (hCX : ∀ H e s', CX [] H s₁ (fun _ _ _ => False) e s' → False) :
    codeAny (model P w) callerA (.call (.ref fa) ⟨[.ref a], []⟩) (fun r s' => r = .ok (.ret (.bool true)) ∧ OldK s₁.heap s'.heap ∧ s'.os = s₁.os ∧ AllBare s'.gens) s₁ := by
  have rv := vals_ints hi
  have lenV := hi.length
  -- from an abstract heap in which nothing but the script may be tracked
  have core : ∀ H : Hp, Only H → SqL K H a (ns.map V.int) → HOk P w H s₁.heap → (∀ b, H b ≠ none → b = a) → (H a ≠ none → K.lookup a = none) →
      codeAny (model P w) callerA (.call (.ref fa) ⟨[.ref a], []⟩) (fun r s' => r = .ok (.ret (.bool true)) ∧ OldK s₁.heap s'.heap ∧ s'.os = s₁.os ∧ AllBare s'.gens) s₁ := by
    intro H hO hS hok hA hK
    have base_of : ∀ {b : Addr} {o : Obj}, s₁.heap.get? b = some o → H b = none → (hidT s₁.heap H).get? b = some o := fun e n => hidT_get e n
    have noA : ∀ {b : Addr} {o : Obj} {es : Array DictEntry} {ep : Nat}, s₁.heap.get? b = some o → o.data = .dict es ep → H b = none := fun {b o es ep} e d => by
      cases q : H b with
      | none => rfl
      | some u =>
        have e' : b = a := hA b (by rw [q]; simp)
        subst e'
        rw [ha] at e; cases e
        have d' : Data.seq vs.toArray _ = Data.dict es ep := d
        cases d'
    have nsK : ∀ {b : Addr} {m : Str → Option Value}, s₁.heap.Ns b m → (hidT s₁.heap H).Ns b m := fun {b m} ⟨o, es, ep, e, d, r⟩ => ⟨o, es, ep, base_of e (noA e d), d, r⟩
    have hKb : K.In (hidT s₁.heap H) := fun b o e => base_of (KX b o e) (by
      cases q : H b with
      | none => rfl
      | some u =>
        have e' : b = a := hA b (by rw [q]; simp)
        subst e'
        rw [hK (by rw [q]; simp)] at e; cases e)
    have hM : Mod K mg (hidT s₁.heap H) := ⟨hKb, nsK hns, ⟨mb, nsK hb, hbb⟩, let ⟨mc, h1, h2⟩ := hlim; ⟨mc, nsK h1, h2⟩⟩
    have e0 : Env0 P w K mg (hidT s₁.heap H) callerA [] s₁ H := ⟨rfl, hM, fun b o e => of_hidT e, Nat.le_of_eq (hidT_size _ _), trivial, fun b hb => absurd (show b ∈ ([] : List Addr) from hb) (by simp), hok, .of_eq hg⟩
    refine codeAny_mono ((F _ hKb (nsK hns)).run callerA [] s₁ H ⟨[.ref a], []⟩ [.ref a] [.ref a] _ _ hr e0 (hbind s₁ (.ref a)) (.cons rfl .nil) (hsp H hO hS)) fun r s' h => ?_
    cases r with
    | error e => exact (hCX H e s' h).elim
    | ok fl =>
      cases fl with
      | next => exact False.elim h
      | brk => exact False.elim h
      | cont => exact False.elim h
      | ret u =>
        obtain ⟨v, H', os, bare, un, hok', r', q⟩ := h
        have q' : v = .bl true := q
        subst q'
        obtain rfl : u = Value.bool true := r'
        refine ⟨rfl, OldK.of_keep fun b o e => ?_, os, bare⟩
        cases q : H b with
        | none => exact un.keep b o e q (by intro z; exact absurd (show b ∈ ([] : List Addr) from z) (by simp)) (by simp)
        | some u =>
          rcases hO b with z | ⟨ob, xs, z⟩
          · rw [q] at z; cases z
          · have z2 := un.frzs b ob _ z
            obtain ⟨e1, _⟩ := hok b _ z
            obtain ⟨e2, _⟩ := hok' b _ z2
            rw [e] at e1; cases e1
            exact e2
  cases hk : K.lookup a with
  | some o =>
    -- the script is one of the module's own objects
    have e := KX a o hk
    rw [ha] at e
    cases e
    refine core (fun _ => none) (fun _ => .inl rfl) (.inr ⟨_, vs.toArray, _, hk, rfl, rfl, rfl, by rw [List.size_toArray, lenV]; exact hl, by simpa using rv⟩) (fun b u z => by have z' : (none : Option HO) = some u := z; cases z') (fun b z => absurd rfl z) fun z => absurd rfl z
  | none =>
    refine core (fun b => if b = a then some (.frz { cls := .type "list", data := .seq vs.toArray } (.lst (ns.map V.int))) else none) (fun b => ?_) (.inl (.inr ⟨{ cls := .type "list", data := .seq vs.toArray }, if_pos rfl⟩)) (fun b u z => ?_) (fun b z => ?_) fun _ => hk
    · by_cases hb : b = a
      · exact .inr ⟨_, _, if_pos hb⟩
      · exact .inl (if_neg hb)
    · by_cases hb : b = a
      · have z' := (if_pos hb).symm.trans z
        cases z'
        subst hb
        exact ⟨ha, by rw [List.length_map]; exact hl, vs, _, rv, ha⟩
      · have z' := (if_neg hb).symm.trans z
        cases z'
    · by_cases hb : b = a
      · exact hb
      · exact absurd (if_neg hb) z
end L2

namespace L2
open PySem PySem.Spec PyProof.Rows

abbrev KOf {K : PySem.W.Frag} {h : Heap} (_ : K.In h) : PySem.W.Frag := K

/-- the goal that k_head leaves (case hc), from the law's promise. F gives the function object fd (K's own) once, then the promise over every base -/
theorem walk_of {l : PySem.W.OpenLaw} {n k : Nat} {q : Program} {loose : List Str} {XP : (Str → Option Value) → Heap → Prop} {YP : World → Heap → Prop} {d : DefRec} {K : Params → PySem.W.Frag} {CX : World → CXT} {sp : World → Sp} {x : Str}
    (hn : l.most = some n) (hn2 : n ≤ sizeLine) (hdf : d.params.defaults = []) (hr : Room k callerA)
    (hY : ∀ (w : World) (h : Heap), YP w h → (K w.params).In h)
    (F : ∀ (w : World) (mg : Str → Option Value) (fa : Addr) (h : Heap), (K w.params).In h → h.Ns mainGlobals mg → mg d.name = some (.ref fa) →
      ∃ fd : FuncData, (∀ (s : Shared) (u : Value), BindsTo s fd ⟨[u], []⟩ [(x, u)]) ∧
        ∀ base : Heap, (K w.params).In base → base.Ns mainGlobals mg → FnOk l.prog w (K w.params) mg base (CX w) k fa fd [x] (sp w))
    (hsp : ∀ (w : World) (H : Hp) (a : Addr) (ns : List Int), ns.length ≤ n → Only H → SqL (K w.params) H a (ns.map V.int) → sp w [.ref a] H (fun v _ => v = .bl true) fun _ _ _ => False)
    (hCX : ∀ (w : World) (H : Hp) (s : Shared) (e : Value) (s' : Shared), CX w [] H s (fun _ _ _ => False) e s' → False) :
    PySem.W.WalkO q loose XP YP l.row.toRowW d [] (fun f vs => PySem.call f vs) := by
  refine Att.attach_call hn hdf fun w s₀ s₁ mg mb fa o pm cd doc a vs ns G Y ho hd hcd hmg hobj hints hlen hg => ?_
  have KX := hY w _ Y
  obtain ⟨fd, hb, hF⟩ := F w mg fa _ KX G.T.g hmg
  exact law_call KX G.T.g G.T.b G.T.builtins G.T.nolimit hg hobj hints (Nat.le_trans hlen hn2) hr hF hb (fun H hO hS => hsp w H a ns hlen hO hS) fun H e s' => hCX w H s₁ e s'
end L2

/-! SHORT WORDS over the layer: a def of the text, its body, what a loop and a test want. -/
namespace L2
open PySem PySem.Spec PyProof.Rows

/-! ### the text by places -/
/-- the j-th statement of a class's body -/
def inClass (s : Stmt) (j : Nat) : Stmt := match s with
  | .ClassDef _ _ _ body _ _ _ _ _ _ _ => body.getD j (.Pass ⟨0, 0, 0, 0⟩)
  | _ => .Pass ⟨0, 0, 0, 0⟩
def defArgs (s : Stmt) : Arguments := match s with
  | .FunctionDef _ a _ _ _ _ _ _ _ _ => a
  | _ => { posonlyargs := [], args := [], vararg := none, kwonlyargs := [], kw_defaults := [], kwarg := none, defaults := [] }
def defBody (s : Stmt) : List Stmt := match s with
  | .FunctionDef _ _ b _ _ _ _ _ _ _ => b
  | _ => []
def defScope (s : Stmt) : Scope := match s with
  | .FunctionDef _ _ _ _ _ _ sc _ _ _ => sc
  | _ => { kind := .function, names := [], isGenerator := false, isCoroutine := false }

/-! ### no exception leaves a def -/
abbrev CX0 : CXT := fun _ _ _ _ _ _ => False
abbrev E0 : XK := fun _ _ _ => False
theorem pass0 {X : Cx} : Passes CX0 X E0 := fun _ _ _ _ _ _ _ h => h.elim

/-! ### a def (or method) of the text as it stands behind the top -/
structure Fun (K : PySem.W.Frag) (x qual : Str) (st : Stmt) (f : Addr) (fd : FuncData) : Prop where
  ex : ∃ (oc : Value) (od : Option Addr) (kV doc pm : Value) (an : Option Addr) (cdv ct : Value) (osl : Array (Option Value)),
    fd = PySem.W.fnOf x qual (defArgs st) (defBody st) (defScope st) .none kV doc pm an cdv ct ∧ K.lookup f = some ⟨oc, od, .func fd, osl⟩ ∧ PySem.W.codeIn K cdv qual = true
  kp : PySem.W.keepIn K (.ref f) = true
section
variable {P : Program} {w : World} {K : PySem.W.Frag} {mg : Str → Option Value} {base : Heap}
/-- THE RULE for a def: its body as a term of rules, and the reading of that term -/
theorem Fun.ok {x qual : Str} {st : Stmt} {f : Addr} {fd : FuncData} {N ps : List Str} {k : Nat} {sp : Sp} (F : Fun K x qual st f fd) (S : FnScope N ps (defScope st)) (len : ∀ vs H Q E, sp vs H Q E → vs.length = ps.length)
    (hbody : ∀ (cdv : Value) (A : Around) (outer : List Env) (s : Shared) (H : Hp) (vs : List V) (Q : VK) (E : XK), Room k (A.deeper (envOfC qual (defScope st) s.heap.objs.size f cdv)) → sp vs H Q E →
      ∃ t, PSs (cxOf CX0 P w K mg base N qual (defScope st) f cdv A outer s H E).nox (defBody st) t ∧ t { nx := fun _ H' => Q .non H', rt := Q } (start N vs) H) : FnOk P w K mg base CX0 (k + 1) f fd ps sp := by
  obtain ⟨oc, od, kV, doc, pm, an, cdv, ct, osl, rfl, lk, hcd⟩ := F.ex
  refine fn_of lk hcd S len fun A outer s H vs Q E hr hsp => ?_
  obtain ⟨t, h, q⟩ := hbody cdv A outer s H vs Q E hr hsp
  exact ⟨t, h.nox, q⟩
/-- how its arguments bind (no defaults): h is «fun _ _ _ _ _ _ us hl => match us, hl with | [_, _], _ => rfl», one _ a parameter -/
theorem Fun.binds {x qual : Str} {st : Stmt} {f : Addr} {fd : FuncData} {ps : List Str} (F : Fun K x qual st f fd)
    (h : ∀ (kV doc pm : Value) (an : Option Addr) (cdv ct : Value) (us : List Value), us.length = ps.length → bindArgs (PySem.W.fnOf x qual (defArgs st) (defBody st) (defScope st) .none kV doc pm an cdv ct) ⟨us, []⟩ = pure (ps.zip us)) : Binds K fd ps [] := by
  obtain ⟨oc, od, kV, doc, pm, an, cdv, ct, osl, rfl, lk, hcd⟩ := F.ex
  exact .all (h kV doc pm an cdv ct)
theorem fun_mk {x qual : Str} {st : Stmt} {f : Addr} {oc : Value} {od an : Option Addr} {osl : Array (Option Value)} {kV doc pm cdv ct : Value} (l : K.lookup f = some ⟨oc, od, .func (PySem.W.fnOf x qual (defArgs st) (defBody st) (defScope st) .none kV doc pm an cdv ct), osl⟩)
    (c : PySem.W.codeIn K cdv qual = true) (k : PySem.W.keepIn K (.ref f) = true) : Fun K x qual st f (PySem.W.fnOf x qual (defArgs st) (defBody st) (defScope st) .none kV doc pm an cdv ct) := ⟨⟨oc, od, kV, doc, pm, an, cdv, ct, osl, rfl, l, c⟩, k⟩
end
theorem small1000 {n : Nat} (h : n ≤ 1000) : n < sizeLine := Nat.lt_of_le_of_lt h (by decide)

/-! ### expressions in short: the name that stands in the i-th slot -/
section
variable {X : Cx}
theorem pv (i : Nat) {x : Str} {pos : Pos} (hN : X.N[i]? = some x := by rfl) (hv : Vis X.env.scope x := by first | exact Or.inl rfl | exact Or.inr (Or.inl rfl) | exact Or.inr (Or.inr rfl)) (hd : (x == ("__debug__" : Str)) = false := by decide)
    (hcd : (x == ("__classdict__" : Str)) = false := by decide) : PE X (.Name x pos) (tVar i) := pe_var hN hv hd hcd
end

/-! ### tests -/
theorem iteF {A B : Prop} (h : B) : if false = true then A else B := by
  rw [if_neg Bool.false_ne_true]
  exact h
theorem iteT {A B : Prop} (h : A) : if true = true then A else B := by
  rw [if_pos rfl]
  exact h
theorem ite2 {c A B : Prop} [Decidable c] (h1 : c → A) (h2 : ¬ c → B) : if c then A else B := by
  by_cases h : c
  · rw [if_pos h]
    exact h1 h
  · rw [if_neg h]
    exact h2 h
theorem iteNS {c A B : Prop} [Decidable c] (hc : c) (h : B) : if (!decide c) = true then A else B := by
  rw [decide_eq_true hc]
  exact iteF h

/-! ### heaps -/
/-- all that was tracked is as it was -/
def Same (H H' : Hp) : Prop := ∀ b o, H b = some o → H' b = some o
theorem Same.refl (H : Hp) : Same H H := fun _ _ h => h
theorem Same.trans {H H1 H2 : Hp} (a : Same H H1) (b : Same H1 H2) : Same H H2 := fun c o h => b c o (a c o h)
theorem Same.free {H H' : Hp} (e : Same H H') {l : Addr} (h : H' l = Option.none) : H l = Option.none := by
  cases q : H l with
  | none => rfl
  | some o =>
    rw [e l o q] at h
    cases h
theorem Same.seq {K : PySem.W.Frag} {H H' : Hp} {a : Addr} {xs : List V} (e : Same H H') (h : SqL K H a xs) : SqL K H' a xs := by
  rcases h with (h | ⟨o, h⟩) | h
  · exact .inl (.inl (e _ _ h))
  · exact .inl (.inr ⟨o, e _ _ h⟩)
  · exact .inr h

section
variable {X : Cx}
end
/-! ### a dict's pairs: keys that differ -/
section
variable {κ : Type} [DecidableEq κ]
end
end L2


set_option maxRecDepth 100000
namespace L2
open PySem PySem.Spec PyProof.Rows

/-! ### comprehensions -/
abbrev NO : Value → Shared → Prop := fun _ _ => False
section
variable {prog : Program} {w : World} {A : Around} {R : Result → Shared → Prop}
theorem comp_loop {elt target iter : Expr} {ifs : List Expr} {scope : Scope} {pos : Pos} {it acc : Value} {env : Env} (J : Nat → Shared → Prop)
    (turn : ∀ n s, J n s → wpAny (model prog w) A (pyNext it) (fun r s1 => match r with
      | none => R (.ok .next) s1
      | some v => wpAny (model prog w) A (letOwnedTupleGo target it v) (fun _ s1 => wpAny (model prog w) A (assign target env v) (fun _ s2 =>
          wpAny (model prog w) A (forIn ifs true fun c r => if r = true then do let ok ← isTrue c env (eval c env); pure (ForInStep.yield ok) else pure (ForInStep.yield r)) (fun ok s3 =>
            if ok = true then wpAny (model prog w) A (eval elt env) (fun x s4 => wpAny (model prog w) A (call (.builtin "list.append") [acc, x]) (fun _ s5 => ∃ m, m < n ∧ J m s5) NO s4) NO s3
            else ∃ m, m < n ∧ J m s3) NO s2) NO s1) NO s1) NO s)
    (n : Nat) {s : Shared} (h : J n s) : codeAny (model prog w) A (.compLoop (.ListComp elt [⟨target, iter, ifs, 0⟩] scope pos) 0 it acc env) R s := by
  refine codeAny_loop rfl J (fun n s hJ => ?_) n h
  show wpAny _ A ((compTurn (.ListComp elt [⟨target, iter, ifs, 0⟩] scope pos) 0 it acc env).onRaise (fun x => do noteFrame x env; theTreesLotGoes x)) _ _ s
  refine wpAny_noted ?_
  rw [compTurn_list]
  refine wpAny_bind (wpAny_standAt (wpAny_bind (wpAny_mono (turn n s hJ) (fun r s1 h1 => ?_) fun _ _ z => z.elim)))
  cases r with
  | none => exact wpAny_pure h1
  | some v =>
    refine wpAny_bind (wpAny_mono h1 (fun _ s1 h1 => ?_) fun _ _ z => z.elim)
    refine wpAny_bind (wpAny_mono h1 (fun _ s2 h2 => ?_) fun _ _ z => z.elim)
    refine wpAny_bind (wpAny_mono h2 (fun ok s3 h3 => ?_) fun _ _ z => z.elim)
    cases ok with
    | false => exact wpAny_pure ⟨rfl, h3⟩
    | true =>
      refine wpAny_bind (wpAny_bind (wpAny_mono h3 (fun x s4 h4 => ?_) fun _ _ z => z.elim))
      exact wpAny_bind (wpAny_mono h4 (fun _ s5 h5 => wpAny_pure (wpAny_pure ⟨rfl, h5⟩)) fun _ _ z => z.elim)
end

/-- the context of a comprehension's block: its own names live at C, the iterator at fp turns -/
def cxC (X : Cx) (scope : Scope) (cl : List (Str × Addr)) (N : List Str) (C : Addr) (fp : List Addr) (s : Shared) (H : Hp) (pins : List (Addr × Obj)) : Cx :=
  { X with N := N, env := compEnvC scope cl C X.env, s₀ := s, H₀ := H, outer := X.stack, ex := fp, fn := fun _ => false, pn := X.pn ++ pins, xe := NO }
/-- the cells that are handed in are the function's -/
inductive ClOk (env : Env) : List (Str × Addr) → Prop
  | nil : ClOk env []
  | cons {x c r} : env.cells.lookup x = some c → ClOk env r → ClOk env ((x, c) :: r)
theorem ClOk.get {env : Env} : ∀ {cl : List (Str × Addr)}, ClOk env cl → ∀ {x c}, cl.lookup x = some c → env.cells.lookup x = some c
  | _, .nil, _, _, h => by cases h
  | _, .cons (x := y) h1 r, x, c, h => by
    rw [List.lookup_cons] at h
    split at h
    · rename_i e
      have e' : x = y := eq_of_beq e
      cases h
      rw [e']
      exact h1
    · exact r.get h
/-- every free name has its cell -/
inductive FreeOk (cl : List (Str × Addr)) : List (Str × NameKind) → Prop
  | nil : FreeOk cl []
  | skip {x k r} : k ≠ .free → k ≠ .cell → FreeOk cl r → FreeOk cl ((x, k) :: r)
  | free {x r} : (∃ c, cl.lookup x = some c) → FreeOk cl r → FreeOk cl ((x, .free) :: r)
theorem FreeOk.get {cl : List (Str × Addr)} {env : Env} : ∀ {ns : List (Str × NameKind)}, FreeOk cl ns → ∀ {x}, ((ns.map fun (n, k) => if (k == .free && env.scope.kind == .function && env.kindOf n == some .cell) then (n, .cell) else (n, k)).lookup x = some .cell ∨
    (ns.map fun (n, k) => if (k == .free && env.scope.kind == .function && env.kindOf n == some .cell) then (n, .cell) else (n, k)).lookup x = some .free) → ∃ c, cl.lookup x = some c
  | _, .nil, _, h => by rcases h with h | h <;> cases h
  | (y, k) :: r, .skip h1 h2 q, x, h => by
    have ek : (k == NameKind.free) = false := by cases k <;> first | rfl | exact absurd rfl h1
    simp only [List.map_cons, ek, Bool.false_and, Bool.false_eq_true, if_false, List.lookup_cons] at h
    cases e : x == y with
    | true =>
      simp only [e] at h
      rcases h with h | h
      · exact absurd (Option.some.inj h) h2
      · exact absurd (Option.some.inj h) h1
    | false =>
      simp only [e] at h
      exact q.get h
  | (y, _) :: r, .free h1 q, x, h => by
    cases e : x == y with
    | true =>
      rw [eq_of_beq e]
      exact h1
    | false =>
      refine q.get (env := env) (x := x) ?_
      have drop : ∀ (p : Str × NameKind) (l : List (Str × NameKind)), p.1 = y → (p :: l).lookup x = l.lookup x := fun p l hp => by
        obtain ⟨p1, p2⟩ := p
        obtain rfl : p1 = y := hp
        rw [List.lookup_cons, e]
      rw [List.map_cons, drop _ _ (by dsimp only; split <;> rfl)] at h
      exact h
/-- which names of the function the block reads -/
inductive Capt (X : Cx) (scope : Scope) (cl : List (Str × Addr)) : List Str → List (Option Nat) → Prop
  | nil : Capt X scope cl [] []
  | tgt {x N c} : Capt X scope cl N c → Capt X scope cl (x :: N) (none :: c)
  | var {x N c} {j : Nat} : X.N[j]? = some x → (X.env.kindOf x = some .cell ∨ X.env.kindOf x = some .free) → (∃ a, cl.lookup x = some a) →
      ((relabel scope X.env).names.lookup x = some .cell ∨ (relabel scope X.env).names.lookup x = some .free) → Capt X scope cl N c → Capt X scope cl (x :: N) (some j :: c)
def capS (capt : List (Option Nat)) (σ : St) : St := capt.map fun (c : Option Nat) => c.bind fun (j : Nat) => (σ[j]?).bind id
theorem Capt.len {X : Cx} {scope : Scope} {cl : List (Str × Addr)} : ∀ {N : List Str} {capt : List (Option Nat)}, Capt X scope cl N capt → N.length = capt.length
  | _, _, .nil => rfl
  | _, _, .tgt h => by rw [List.length_cons, List.length_cons, h.len]
  | _, _, .var _ _ _ _ h => by rw [List.length_cons, List.length_cons, h.len]
theorem Capt.get {X : Cx} {scope : Scope} {cl : List (Str × Addr)} {σ : St} : ∀ {N : List Str} {capt : List (Option Nat)}, Capt X scope cl N capt → ∀ {i : Nat} {x : Str} {v : V}, N[i]? = some x → (capS capt σ)[i]? = some (some v) →
    ∃ j : Nat, X.N[j]? = some x ∧ σ[j]? = some (some v) ∧ (X.env.kindOf x = some .cell ∨ X.env.kindOf x = some .free) ∧ (∃ a, cl.lookup x = some a) ∧
      ((relabel scope X.env).names.lookup x = some .cell ∨ (relabel scope X.env).names.lookup x = some .free)
  | _, _, .nil, i, _, _, h, _ => by simp at h
  | _, _, .tgt h, 0, _, _, _, e => by simp [capS] at e
  | _, _, .tgt h, i + 1, x, v, e1, e2 => h.get (i := i) (by simpa using e1) (by simpa [capS] using e2)
  | _, _, .var (j := j) h1 h2 h3 h4 h, 0, x, v, e1, e2 => by
    simp only [List.getElem?_cons_zero, Option.some.injEq] at e1
    subst e1
    refine ⟨j, h1, ?_, h2, h3, h4⟩
    simp only [capS, List.map_cons, List.getElem?_cons_zero, Option.bind_some, Option.some.injEq] at e2
    cases q : σ[j]? with
    | none => rw [q] at e2; cases e2
    | some o => rw [q] at e2; simpa using e2
  | _, _, .var _ _ _ _ h, i + 1, x, v, e1, e2 => h.get (i := i) (by simpa using e1) (by simpa [capS] using e2)
/-- the tests of a comprehension -/
def PIf (X : Cx) (ifs : List Expr) (t : TT) : Prop :=
  ∀ (pins : List (Addr × Obj)) (s : Shared) (σ : St) (H : Hp) (Q : Bool → Hp → Prop), Inv X pins σ H s → t σ H Q →
    wpAny (model X.prog X.w) X.A (forIn ifs true fun c r => if r = true then do let ok ← isTrue c X.env (eval c X.env); pure (ForInStep.yield ok) else pure (ForInStep.yield r)) (TP X pins σ Q) X.xe s
def tYes : TT := fun _ H Q => Q true H
theorem pif_nil {X : Cx} : PIf X [] tYes := fun _ _ _ H _ I h => wpAny_tests_nil ⟨H, I, h⟩
theorem pif_one {X : Cx} {c : Expr} {t : TT} (h : PT X c t) : PIf X [c] t := fun pins s σ H Q I hw => wpAny_tests_one (h pins s σ H Q I hw)
/-- the names that the block reads are as they were -/
def ExtS : St → St → Prop
  | [], [] => True
  | none :: r, _ :: q => ExtS r q
  | some v :: r, some u :: q => u = v ∧ ExtS r q
  | _, _ => False
theorem ExtS.len : ∀ {a b : St}, ExtS a b → a.length = b.length
  | [], [], _ => rfl
  | none :: r, _ :: q, h => by rw [List.length_cons, List.length_cons, ExtS.len (a := r) (b := q) h]
  | some v :: r, some u :: q, h => by rw [List.length_cons, List.length_cons, ExtS.len h.2]
  | [], _ :: _, h => h.elim
  | none :: _, [], h => h.elim
  | some _ :: _, [], h => h.elim
  | some _ :: _, none :: _, h => h.elim
theorem ExtS.get : ∀ {a b : St}, ExtS a b → ∀ (i : Nat) (v : V), a[i]? = some (some v) → b[i]? = some (some v)
  | [], [], _, i, v, e => by simp at e
  | none :: r, _ :: q, h, 0, v, e => by simp at e
  | none :: r, _ :: q, h, i + 1, v, e => by
    have h' : ExtS r q := h
    simpa using h'.get i v (by simpa using e)
  | some w :: r, some u :: q, h, 0, v, e => by
    obtain ⟨e1, _⟩ : u = w ∧ ExtS r q := h
    subst e1
    simpa using e
  | some w :: r, some u :: q, h, i + 1, v, e => by
    have h' : ExtS r q := h.2
    simpa using h'.get i v (by simpa using e)
  | [], _ :: _, h, _, _, _ => h.elim
  | none :: _, [], h, _, _, _ => h.elim
  | some _ :: _, [], h, _, _, _ => h.elim
  | some _ :: _, none :: _, h, _, _, _ => h.elim
/-- what the block does, turn by turn: W, the invariant by the turn, a measure, the items so far -/
def CompW (J : It) (g : TG) (tc : TT) (te : TE) (σ0 : St) (H1 : Hp) (Q : VK) : Prop := ∀ D, H1 D = none →
  ∃ W : Nat → Nat → List V → Hp → Prop, (∃ m, W 0 m [] (upd H1 D (.lst []))) ∧ ∀ i m ys H2, W i m ys H2 → H2 D = some (.lst ys) ∧
    ((J.stop i H2 ∧ Q (.ref D) H2) ∨ (J.go i H2 ∧ ys.length < sizeLine ∧ ∃ N : List V → Hp → Prop, (∀ ys' H', N ys' H' → ∃ m', m' < m ∧ W (i + 1) m' ys' H') ∧ ∀ x H3, J.yld i H2 x H3 → g x σ0 H3 fun σ4 H4 => ExtS σ0 σ4 ∧ tc σ4 H4 fun b H5 =>
      if b = true then te σ4 H5 fun y H6 => H6 D = some (.lst ys) ∧ N (ys ++ [y]) (upd H6 D (.lst (ys ++ [y])))
      else N ys H5))
def tComp (wi : TI) (g : TG) (tc : TT) (te : TE) (capt : List (Option Nat)) : TE := fun σ H Q => wi σ H fun J H1 => CompW J g tc te (capS capt σ) H1 Q
section
variable {X : Cx} {tg iter elt : Expr} {ifs : List Expr} {scope : Scope} {cl : List (Str × Addr)} {N : List Str} {capt : List (Option Nat)} {wi : TI} {g : TG} {tc : TT} {te : TE} {pos : Pos}
/-- the block's context at its entry -/
theorem cxC_start {pins : List (Addr × Obj)} {σ : St} {H : Hp} {s : Shared} {fp : List Addr} {C : Addr} {h1 : Heap} {tk : Nat} {m : Str → Option Value} (I : Inv X pins σ H s) (hf : ∀ b ∈ fp, FpOk X pins H b) (hx : ∀ b ∈ fp, ∃ o, s.heap.get? b = some o)
    (hcap : Capt X scope cl N capt) (hok : ClOk X.env cl) (hfr : FreeOk cl scope.names) (hkind : scope.kind = .function) (hC : s.heap.objs.size ≤ C) (hn : h1.Ns C m) (hk : ∀ b o, s.heap.get? b = some o → h1.get? b = some o) :
    Inv (cxC X scope cl N C fp s H pins) [] (capS capt σ) H { s with heap := h1, toks := tk } := by
  have lt : ∀ {b : Addr} {o : Obj}, s.heap.get? b = some o → b ≠ C := fun e => Nat.ne_of_lt (Nat.lt_of_lt_of_le (Heap.lt_size e) hC)
  have nst : ∀ b, b ≠ X.env.locals → b ∉ X.fs → b ∉ frs X.stack := fun b h1 h2 h3 => (List.mem_cons.mp (I.stkSub b h3)).elim h1 h2
  refine ⟨⟨I.ok.mod, hkind, I.ok.glob, I.ok.blt, hC, fun x y c e1 e2 => I.ok.inj x y c (hok.get e1) (hok.get e2), fun x e => hfr.get (env := X.env) e, fun x c e _ => absurd (show false = true from e) Bool.false_ne_true, I.ok.hd, I.ok.frames, .inl rfl, fun b hb => ?_, I.bs,
    Nat.le_trans I.ok.bsz I.sz, fun b o e hb => ?_, fun b hb => ?_, I.stack, I.stkFree⟩, rfl, I.bare, Un.kept hk, ⟨m, hn, fun i x v e1 e2 e3 => ?_⟩, fun x c e => ?_, I.hok.fresh hC, fun x c e => I.freeC x c (hok.get e), fun p hp => ?_, I.hok.kept hk, ?_⟩
  · obtain ⟨o, e⟩ := hx b hb
    exact ⟨lt e, fun x c e' => (hf b hb).2.2.2.2.1 x c (hok.get e')⟩
  · rcases (hf b hb).2.2.2.1 with z | z
    · exact I.ok.noex b o e z
    · exact absurd (Nat.lt_of_lt_of_le (Heap.lt_size e) (Nat.le_trans I.ok.bsz z)) (Nat.lt_irrefl _)
  · exact nst b (hf b hb).2.1 (hf b hb).2.2.1
  · obtain ⟨j, hj, hs, hkd, ⟨a, ha⟩, hk2⟩ := hcap.get e1 e2
    obtain ⟨m0, _, hl⟩ := I.loc
    obtain ⟨u, r, l⟩ := hl j x v hj hs (.inr hkd)
    refine ⟨u, r, .inr ⟨hk2, a, ha, ?_⟩⟩
    rcases l with ⟨k, _⟩ | ⟨_, c, ec, o, eo, ed⟩
    · rcases hkd with z | z
      · rw [z] at k; cases k
      · rw [z] at k; cases k
    · rw [hok.get ha] at ec
      cases ec
      exact ⟨o, hk _ _ eo, ed⟩
  · obtain ⟨v, o, eo, ed⟩ := I.cell x c (hok.get e)
    exact ⟨v, o, hk _ _ eo, ed⟩
  · have hp' : p ∈ X.pn ++ pins := by
      have z : p ∈ (X.pn ++ pins) ++ [] := hp
      simpa using z
    obtain ⟨e, n, ne, nf, d⟩ := I.pin p hp'
    exact ⟨hk _ _ e, n, lt e, nst _ ne nf, d⟩
  · show (capt.map _).length = N.length
    rw [List.length_map, hcap.len]
/-- behind the block -/
theorem cxC_end {pins pins' : List (Addr × Obj)} {σ σ' : St} {H H' : Hp} {s s' : Shared} {fp : List Addr} {C : Addr} {h' : Heap} (I : Inv X pins σ H s) (hf : ∀ b ∈ fp, FpOk X pins H b) (hC : s.heap.objs.size ≤ C)
    (J : Inv (cxC X scope cl N C fp s H pins) pins' σ' H' s') (sb : Heap.SameBut C s'.heap h') : Inv X pins σ H' { s' with heap := h' } := by
  have lt : ∀ {b : Addr} {o : Obj}, s.heap.get? b = some o → b ≠ C := fun e => Nat.ne_of_lt (Nat.lt_of_lt_of_le (Heap.lt_size e) hC)
  have U : Un (frs X.stack) fp H H' s.heap s'.heap := J.base
  have hCn : H' C = none := J.free
  refine I.call' (ch := fp) J.os ⟨fun b o e n hb hx => (sb.2 b (lt e)).trans (U.keep b o e n hb hx), fun b o e n hb hx => ?_, U.free, fun b o e hx => ?_, U.tups, U.frzs, U.tbls⟩ (fun b o e => ?_) J.bare fun b hb => ?_
  · obtain ⟨sl, q⟩ := U.slot b o e n hb hx
    exact ⟨sl, (sb.2 b (lt e)).trans q⟩
  · obtain ⟨o', q⟩ := U.there b o e hx
    exact ⟨o', (sb.2 b (lt e)).trans q⟩
  · refine (J.hok b o e).stay (fun c v hc q => (sb.2 c ?_).trans q) (fun _ q => q) fun _ _ q => q
    rcases hc with z | z
    · intro z2
      rw [← z, z2, hCn] at e
      cases e
    · intro z2
      rw [z2, hCn] at z
      cases z
  · obtain ⟨_, f1, _, f3, f4, f5⟩ := hf b hb
    exact ⟨f3, f1, f4, f5⟩
end
end L2

set_option maxRecDepth 100000
namespace L2
open PySem PySem.Spec PyProof.Rows
section
variable {X : Cx} {tg iter elt : Expr} {ifs : List Expr} {scope : Scope} {cl : List (Str × Addr)} {N : List Str} {capt : List (Option Nat)} {wi : TI} {g : TG} {tc : TT} {te : TE} {pos : Pos}
/-- the block: a new list, the block's names, the loop; R: what is wanted behind -/
theorem comp_block {pins : List (Addr × Obj)} {σ : St} {H2 : Hp} {s2 : Shared} {it : Addr} {fp : List Addr} {tn : Nat → Heap → Prop} {J : It} {Q : V → Hp → Prop} {RR : Value → Addr → Result → Shared → Prop} {E : Value → Shared → Prop} (hc : X.calm = true)
    (hok : ClOk X.env cl) (hfr : FreeOk cl scope.names) (hcap : Capt X scope cl N capt)
    (hg : ∀ C fp s H pn, PG (cxC X scope cl N C fp s H pn) tg g) (ht : ∀ C fp s H pn, PIf (cxC X scope cl N C fp s H pn) ifs tc) (he : ∀ C fp s H pn, PE (cxC X scope cl N C fp s H pn) elt te)
    (hcell : ∀ y ∈ scope.names, y.2 ≠ .cell) (hkind : scope.kind = .function)
    (I2 : Inv X pins σ H2 s2) (T : Turn X.prog X.w X.K tg J fp it tn) (st2 : tn 0 s2.heap) (f2 : ∀ b ∈ fp, FpOk X pins H2 b)
    (h : CompW J g tc te (capS capt σ) H2 Q)
    (hR : ∀ D C s' m H', s'.heap.Ns C m → Inv X pins σ H' s' → FpOk X pins H' C → Q (.ref D) H' → RR (.ref D) C (.ok .next) s') :
    wpAny (model X.prog X.w) X.A (newList []) (fun acc s3 => wpAny (model X.prog X.w) X.A (newFunctionEnv scope X.env.globals cl [] X.env.qual none .none (some X.env)) (fun cenv s4 =>
      codeAny (model X.prog X.w) X.A (.compStart (.ListComp elt [⟨tg, iter, ifs, 0⟩] scope pos) 0 (.ref it) acc { cenv with scope := relabel scope X.env }) (RR acc cenv.locals) s4) E s3) E s2 := by
  obtain ⟨W, ⟨m0, w0⟩, turn⟩ := h s2.heap.objs.size (I2.hok.fresh (Nat.le_refl _))
  have I3 : Inv X pins σ (upd H2 s2.heap.objs.size (.lst [])) { s2 with heap := s2.heap.push { cls := .type "list", data := .seq ([] : List Value).toArray }, toks := s2.toks } := I2.lnew (its := []) .nil (Nat.zero_le _)
  have oz : ∀ b ∈ fp, ∃ o, s2.heap.get? b = some o := fun b hb => let ⟨o, e, _⟩ := T.obj _ _ st2 b hb; ⟨o, e⟩
  have f3 : ∀ b ∈ fp, FpOk X pins (upd H2 s2.heap.objs.size (.lst [])) b := fun b hb => by
    obtain ⟨o, e⟩ := oz b hb
    exact ⟨by rw [upd_ne (Nat.ne_of_lt (Heap.lt_size e))]; exact (f2 b hb).1, (f2 b hb).2⟩
  have o3 : ∀ b ∈ fp, ∃ o, (s2.heap.push { cls := .type "list", data := .seq ([] : List Value).toArray }).get? b = some o := fun b hb => let ⟨o, e⟩ := oz b hb; ⟨o, Heap.get?_push_of_some _ e⟩
  have st3 : tn 0 (s2.heap.push { cls := .type "list", data := .seq ([] : List Value).toArray }) := T.keep _ _ _ st2 fun b _ o e => Heap.get?_push_of_some _ e
  refine wpAny_newObj_type (wpAny_newFunctionEnv hcell (by intro y hy; simp at hy) (fun h1 hns hsb => ?_) hkind)
  dsimp only at hns hsb ⊢
  generalize hG : s2.heap.push { cls := .type "list", dict := none, data := .seq ([] : List Value).toArray } = G at *
  have keep : ∀ b o, G.get? b = some o → h1.get? b = some o := fun b o e => hsb.extBut b o (Nat.ne_of_lt (Heap.lt_size e)) (Heap.get?_push_of_some _ e)
  have I4 : Inv (cxC X scope cl N G.objs.size fp { s2 with heap := G, toks := s2.toks } (upd H2 s2.heap.objs.size (.lst [])) pins) [] (capS capt σ) (upd H2 s2.heap.objs.size (.lst [])) { s2 with heap := h1, toks := s2.toks + ([] : List (Str × Value)).length } :=
    cxC_start (s := { s2 with heap := G, toks := s2.toks }) I3 f3 o3 hcap hok hfr hkind (Nat.le_refl _) hns keep
  have st4 : tn 0 h1 := T.keep _ _ _ st3 fun b _ o e => keep b o e
  -- the iterator's objects in the block's context
  have stat : ∀ {H' : Hp}, (∀ b ∈ fp, H' b = none) → ∀ b ∈ fp, FpOk (cxC X scope cl N G.objs.size fp { s2 with heap := G, toks := s2.toks } (upd H2 s2.heap.objs.size (.lst [])) pins) [] H' b := fun {H'} hn b hb => by
    obtain ⟨o, e⟩ := o3 b hb
    refine ⟨hn b hb, Nat.ne_of_lt (Heap.lt_size e), fun z => (List.mem_cons.mp (I3.stkSub b z)).elim (f3 b hb).2.1 (f3 b hb).2.2.1, .inl hb, fun x c e' => (f3 b hb).2.2.2.2.1 x c (hok.get e'), fun p hp => ?_⟩
    have z : p ∈ (X.pn ++ pins) ++ [] := hp
    exact (f3 b hb).2.2.2.2.2 p (by simpa using z)
  have loop : codeAny (model X.prog X.w) X.A (.compLoop (.ListComp elt [⟨tg, iter, ifs, 0⟩] scope pos) 0 (.ref it) (.ref s2.heap.objs.size) (compEnvC scope cl G.objs.size X.env)) (RR (.ref s2.heap.objs.size) G.objs.size)
      { s2 with heap := h1, toks := s2.toks + ([] : List (Str × Value)).length } := by
    refine comp_loop (fun n s' => ∃ i ys H', Inv (cxC X scope cl N G.objs.size fp { s2 with heap := G, toks := s2.toks } (upd H2 s2.heap.objs.size (.lst [])) pins) [] (capS capt σ) H' s' ∧ tn i s'.heap ∧ (∀ b ∈ fp, H' b = none) ∧ W i n ys H') ?_ m0
      ⟨0, [], _, I4, st4, fun b hb => (f3 b hb).1, w0⟩
    rintro n s5 ⟨i, ys, H5, I5, st5, fr5, w5⟩
    obtain ⟨hD5, alt⟩ := turn i n ys H5 w5
    rcases alt with ⟨stop, qn⟩ | ⟨go, hlt, N', hN', step⟩
    · refine thn (T.done (cxC X scope cl N G.objs.size fp { s2 with heap := G, toks := s2.toks } (upd H2 s2.heap.objs.size (.lst [])) pins) rfl rfl rfl hc i [] s5 _ H5 NO I5 (stat fr5) st5 stop) fun r s6 ⟨hr, I6⟩ => ?_
      subst hr
      obtain ⟨m6, hn6, _⟩ := I6.loc
      exact hR _ _ s6 m6 H5 hn6 (cxC_end (s := { s2 with heap := G, toks := s2.toks }) I3 f3 (Nat.le_refl _) I6 (.refl _ _)) (I3.fpOk (Nat.le_refl _) I6.free) qn
    · refine thn (T.item (cxC X scope cl N G.objs.size fp { s2 with heap := G, toks := s2.toks } (upd H2 s2.heap.objs.size (.lst [])) pins) rfl rfl rfl hc i [] s5 _ H5 NO I5 (stat fr5) st5 go) fun r s6 ⟨u, hr, h6⟩ => ?_
      subst hr
      refine thn h6 fun _ s7 ⟨x, H7, I7, r7, y7, st7, fr7⟩ => ?_
      have I7' := I7.pinned (stat fr7) (T.obj _ _ st7)
      refine thn (hg _ _ _ _ _ _ s7 _ H7 x u _ I7' r7 (step x H7 y7)) fun _ s8 ⟨σ8, H8, I8, x8, q8⟩ => ?_
      refine thn (ht _ _ _ _ _ _ s8 σ8 H8 _ I8 q8) fun ok s9 ⟨H9, I9, q9⟩ => ?_
      have again : ∀ {H' : Hp} {s' : Shared} {ys' : List V}, Inv (cxC X scope cl N G.objs.size fp { s2 with heap := G, toks := s2.toks } (upd H2 s2.heap.objs.size (.lst [])) pins) ([] ++ pinsAt fp s7.heap) σ8 H' s' → (∃ m', m' < n ∧ W (i + 1) m' ys' H') →
          ∃ m, m < n ∧ ∃ i ys H', Inv (cxC X scope cl N G.objs.size fp { s2 with heap := G, toks := s2.toks } (upd H2 s2.heap.objs.size (.lst [])) pins) [] (capS capt σ) H' s' ∧ tn i s'.heap ∧ (∀ b ∈ fp, H' b = none) ∧ W i m ys H' := fun {H' s' ys'} J' ⟨m', hm, w'⟩ => by
        refine ⟨m', hm, i + 1, ys', H', (J'.unpinned).weak x8.len (fun j v e => x8.get j v e), T.keep _ _ _ st7 fun b hb o e => (J'.pin (b, o) (List.mem_append_right _ (List.mem_append_right _ (mem_pinsAt hb e)))).1, fun b hb => ?_, w'⟩
        obtain ⟨o, e, _⟩ := T.obj _ _ st7 b hb
        exact (J'.pin (b, o) (List.mem_append_right _ (List.mem_append_right _ (mem_pinsAt hb e)))).2.1
      cases ok with
      | false =>
        rw [if_neg Bool.false_ne_true] at q9 ⊢
        exact again I9 (hN' _ _ q9)
      | true =>
        rw [if_pos rfl] at q9 ⊢
        refine thn (he _ _ _ _ _ _ s9 σ8 H9 _ I9 q9) fun y10 s10 ⟨y, H10, I10, r10, hD10, q10⟩ => ?_
        refine thn (mt_append _ s10 σ8 H10 (.ref s2.heap.objs.size) [y] _ _ (fun _ H' => N' (ys ++ [y]) H') I10 rfl (.cons r10 .nil) ⟨_, ys, y, rfl, rfl, hD10, hlt, q10⟩) fun _ s11 ⟨_, H11, I11, _, q11⟩ => ?_
        exact again I11 (hN' _ _ q11)
  exact codeAny_compStart_list loop (T.self _ 0 _ _ _ st4 loop)
/-- a list comprehension with one for -/
theorem pe_comp (hc : X.calm = true) (hi : PI X tg iter wi) (hclos : closureFor scope X.env = pure cl) (hok : ClOk X.env cl) (hfr : FreeOk cl scope.names) (hcap : Capt X scope cl N capt)
    (hg : ∀ C fp s H pn, PG (cxC X scope cl N C fp s H pn) tg g) (ht : ∀ C fp s H pn, PIf (cxC X scope cl N C fp s H pn) ifs tc) (he : ∀ C fp s H pn, PE (cxC X scope cl N C fp s H pn) elt te)
    (hcell : ∀ y ∈ scope.names, y.2 ≠ .cell := by decide +kernel) (hkind : scope.kind = .function := by rfl) (hnames : ∀ x ∈ scope.names, x.2 = .local → scope.names.lookup x.1 = some .local := by decide +kernel)
    (hs : ∀ x, foldedSetIterable iter X.env x = pure x := by intro _; rfl) : PE X (.ListComp elt [⟨tg, iter, ifs, 0⟩] scope pos) (tComp wi g tc te capt) := by
  intro pins s σ H Q I h
  rw [eval_ListComp]
  refine wpAny_comprehension_free (use := none) rfl hs hclos hkind hnames (thn (hi pins s σ H _ I h) fun v s1 h1 => thn h1 fun itv s2 h2 => ?_)
  obtain ⟨it, fp, tn, J, H2, e, I2, T, st2, f2, q2⟩ := h2
  subst e
  refine comp_block (RR := fun acc C => compPost (model X.prog X.w) X.A X.xe none (EP X pins σ Q) acc C) hc hok hfr hcap hg ht he hcell hkind I2 T st2 f2 q2 fun D C s' m H' hn I' ⟨f0, f1, _, f3, f4, f5⟩ q => ?_
  exact ⟨m, hn, fun h' sb => ⟨.ref D, H', I'.turned (t' := s'.toks) (fun b o hb e => (sb.2 b hb).trans e) f0 f1 f3 f4 f5, rfl, q⟩⟩
/-- name = [..] -/
theorem ps_comp {i : Nat} {x : Str} {px spos : Pos} (hN : X.N.Nodup) (hix : X.N[i]? = some x) (hx : Loc X.env.scope x) (hc : X.calm = true) (hi : PI X tg iter wi) (hclos : closureFor scope X.env = pure cl) (hok : ClOk X.env cl) (hfr : FreeOk cl scope.names) (hcap : Capt X scope cl N capt)
    (hg : ∀ C fp s H pn, PG (cxC X scope cl N C fp s H pn) tg g) (ht : ∀ C fp s H pn, PIf (cxC X scope cl N C fp s H pn) ifs tc) (he : ∀ C fp s H pn, PE (cxC X scope cl N C fp s H pn) elt te)
    (hsw : swapsWith (.ListComp elt [⟨tg, iter, ifs, 0⟩] scope pos) (some (.Name x px)) spos.line X.env = pure true := by rfl)
    (hcell : ∀ y ∈ scope.names, y.2 ≠ .cell := by decide +kernel) (hkind : scope.kind = .function := by rfl) (hnames : ∀ x ∈ scope.names, x.2 = .local → scope.names.lookup x.1 = some .local := by decide +kernel)
    (hs : ∀ x, foldedSetIterable iter X.env x = pure x := by intro _; rfl) (hf : X.fn x = true ∨ X.env.scope.names.lookup x = some .local := by first | exact .inl rfl | exact .inr rfl | assumption) :
    PS X (.Assign [.Name x px] (.ListComp elt [⟨tg, iter, ifs, 0⟩] scope pos) spos) (tAsg (tComp wi g tc te capt) (gName i)) := by
  intro pins s σ H D I h
  rw [exec_Assign_Name_used _ _ _ _ hsw]
  refine wpAny_bind (wpAny_standAt (wpAny_bind ?_))
  show wpAny _ X.A (do let _ ← comprehension (.ListComp elt [⟨tg, iter, ifs, 0⟩] scope pos) scope X.env _ (newList []) false (eval iter X.env) (some (assign (.Name x px) X.env))) _ _ s
  refine wpAny_bind (wpAny_mono (wpAny_comprehension_free (use := some (assign (.Name x px) X.env)) (Q := fun _ s' => SP X pins D .next s') rfl hs hclos hkind hnames (thn (hi pins s σ H _ I h) fun v s1 h1 => thn h1 fun itv s2 h2 => ?_))
    (fun _ s' hq => wpAny_pure (wpAny_pure hq)) fun _ _ e => e)
  obtain ⟨it, fp, tn, J, H2, e, I2, T, st2, f2, q2⟩ := h2
  subst e
  refine comp_block (RR := fun acc C => compPost (model X.prog X.w) X.A X.xe (some (assign (.Name x px) X.env)) (fun _ s' => SP X pins D .next s') acc C) (Q := fun v H1 => D.nx (σ.set i (some v)) H1) hc hok hfr hcap hg ht he hcell hkind I2 T st2 f2 q2 fun D' C s' m H' hn I' ⟨f0, f1, _, f3, f4, f5⟩ q => ?_
  show wpAny _ _ (assign (.Name x px) X.env (.ref D')) _ _ _
  refine wpAny_assign_Name (store_ok2 I' hN hix hx (show RelV (.ref D') (.ref D') from rfl) (fun s'' I'' ⟨a, sb, ha⟩ => ?_) hf)
  have hCa : C ≠ a := by
    rcases ha with z | z
    · rw [z]; exact f1
    · exact (f4 x a z).symm
  exact ⟨m, hn.sameBut sb hCa, fun h' sb' => ⟨σ.set i (some (.ref D')), H', I''.turned (t' := s''.toks) (fun b o hb e => (sb'.2 b hb).trans e) f0 f1 f3 f4 f5, q⟩⟩
end
/-- over a range -/
theorem comp_range {lo : Int} {n : Nat} {g : TG} {tc : TT} {te : TE} {σ0 : St} {H : Hp} {Q : VK} (Pv : Addr → Nat → List V → Hp → Prop) (h0 : ∀ D, H D = none → Pv D 0 [] (upd H D (.lst [])))
    (hl : ∀ D i ys H, i ≤ n → Pv D i ys H → H D = some (.lst ys) ∧ (i < n → ys.length < sizeLine))
    (hs : ∀ D i ys H, i < n → Pv D i ys H → g (.int (lo + i)) σ0 H fun σ4 H4 => ExtS σ0 σ4 ∧ tc σ4 H4 fun b H5 => if b = true then te σ4 H5 fun y H6 => H6 D = some (.lst ys) ∧ Pv D (i + 1) (ys ++ [y]) (upd H6 D (.lst (ys ++ [y]))) else Pv D (i + 1) ys H5)
    (hd : ∀ D ys H, Pv D n ys H → Q (.ref D) H) : CompW (Itr lo n) g tc te σ0 H Q := by
  intro D hD
  refine ⟨fun i m ys H => m = n - i ∧ i ≤ n ∧ Pv D i ys H, ⟨n, by simp, Nat.zero_le _, h0 D hD⟩, ?_⟩
  rintro i m ys H2 ⟨rfl, hi, p⟩
  obtain ⟨e, lt⟩ := hl D i ys H2 hi p
  refine ⟨e, ?_⟩
  by_cases hlt : i < n
  · refine .inr ⟨hlt, lt hlt, fun ys' H' => Pv D (i + 1) ys' H', fun ys' H' p' => ⟨n - (i + 1), by omega, rfl, hlt, p'⟩, fun x H3 y => ?_⟩
    obtain ⟨e1, e2⟩ := y
    subst e1 e2
    exact hs D i ys _ hlt p
  · have z : i = n := by omega
    subst z
    exact .inl ⟨Nat.le_refl _, hd D ys H2 p⟩
/-- over a list that stays as it is -/
theorem comp_list {K : PySem.W.Frag} {a : Addr} {xs : List V} {g : TG} {tc : TT} {te : TE} {σ0 : St} {H : Hp} {Q : VK} (Pv : Addr → Nat → List V → Hp → Prop) (h0 : ∀ D, H D = none → Pv D 0 [] (upd H D (.lst [])))
    (hl : ∀ D i ys H, i ≤ xs.length → Pv D i ys H → SqL K H a xs ∧ H D = some (.lst ys) ∧ (i < xs.length → ys.length < sizeLine))
    (hs : ∀ D i x ys H, xs[i]? = some x → Pv D i ys H → g x σ0 H fun σ4 H4 => ExtS σ0 σ4 ∧ tc σ4 H4 fun b H5 => if b = true then te σ4 H5 fun y H6 => H6 D = some (.lst ys) ∧ Pv D (i + 1) (ys ++ [y]) (upd H6 D (.lst (ys ++ [y]))) else Pv D (i + 1) ys H5)
    (hd : ∀ D ys H, Pv D xs.length ys H → Q (.ref D) H) : CompW (Itl K a) g tc te σ0 H Q := by
  intro D hD
  refine ⟨fun i m ys H => m = xs.length - i ∧ i ≤ xs.length ∧ Pv D i ys H, ⟨xs.length, by simp, Nat.zero_le _, h0 D hD⟩, ?_⟩
  rintro i m ys H2 ⟨rfl, hi, p⟩
  obtain ⟨sq, e, lt⟩ := hl D i ys H2 hi p
  refine ⟨e, ?_⟩
  by_cases hlt : i < xs.length
  · refine .inr ⟨⟨xs, xs[i], sq, by simp [hlt]⟩, lt hlt, fun ys' H' => Pv D (i + 1) ys' H', fun ys' H' p' => ⟨xs.length - (i + 1), by omega, rfl, hlt, p'⟩, fun x H3 y => ?_⟩
    obtain ⟨e1, e2⟩ := y
    subst e1
    exact hs D i x ys _ (e2 xs sq) p
  · have z : i = xs.length := by omega
    subst z
    exact .inl ⟨⟨xs, sq, Nat.le_refl _⟩, hd D ys H2 p⟩
/-- over a tuple -/
theorem comp_tup {K : PySem.W.Frag} {a : Addr} {xs : List V} {g : TG} {tc : TT} {te : TE} {σ0 : St} {H : Hp} {Q : VK} (Pv : Addr → Nat → List V → Hp → Prop) (h0 : ∀ D, H D = none → Pv D 0 [] (upd H D (.lst [])))
    (hl : ∀ D i ys H, i ≤ xs.length → Pv D i ys H → SqT K H a xs ∧ H D = some (.lst ys) ∧ (i < xs.length → ys.length < sizeLine))
    (hs : ∀ D i x ys H, xs[i]? = some x → Pv D i ys H → g x σ0 H fun σ4 H4 => ExtS σ0 σ4 ∧ tc σ4 H4 fun b H5 => if b = true then te σ4 H5 fun y H6 => H6 D = some (.lst ys) ∧ Pv D (i + 1) (ys ++ [y]) (upd H6 D (.lst (ys ++ [y]))) else Pv D (i + 1) ys H5)
    (hd : ∀ D ys H, Pv D xs.length ys H → Q (.ref D) H) : CompW (Itt K a) g tc te σ0 H Q := by
  intro D hD
  refine ⟨fun i m ys H => m = xs.length - i ∧ i ≤ xs.length ∧ Pv D i ys H, ⟨xs.length, by simp, Nat.zero_le _, h0 D hD⟩, ?_⟩
  rintro i m ys H2 ⟨rfl, hi, p⟩
  obtain ⟨sq, e, lt⟩ := hl D i ys H2 hi p
  refine ⟨e, ?_⟩
  by_cases hlt : i < xs.length
  · refine .inr ⟨⟨xs, xs[i], sq, by simp [hlt]⟩, lt hlt, fun ys' H' => Pv D (i + 1) ys' H', fun ys' H' p' => ⟨xs.length - (i + 1), by omega, rfl, hlt, p'⟩, fun x H3 y => ?_⟩
    obtain ⟨e1, e2⟩ := y
    subst e1
    exact hs D i x ys _ (e2 xs sq) p
  · have z : i = xs.length := by omega
    subst z
    exact .inl ⟨⟨xs, sq, Nat.le_refl _⟩, hd D ys H2 p⟩
end L2

namespace Ev
open PySem
/-- the table of a small set of small ints -/
def tab (led : Bool) (pl : List Nat) : SetTable := { mask := 7, place := pl.toArray, dummies := #[], finger := 0, led := led, moves := 0, plain := true }
def r1 : List (List Nat) := (List.range 8).map fun a => [a]
def r2 : List (List Nat) := (List.range 8).flatMap fun a => ((List.range 8).filter (fun b => decide (a < b))).map fun b => [a, b]
def r3 : List (List Nat) := (List.range 8).flatMap fun a => ((List.range 8).filter (fun b => decide (a < b))).flatMap fun b => ((List.range 8).filter (fun c => decide (b < c))).map fun c => [a, b, c]
def rises : Nat → List (List Nat)
  | 0 => [[]]
  | 1 => r1
  | 2 => r2
  | 3 => r3
  | _ => []
/-- one more member finds its place -/
def layOk (led : Bool) (n : Nat) (pl : List Nat) (h : Nat) : Bool :=
  match (tab led pl).freeSlot (h : Int) with
  | some (j, false) =>
    let q := (tab led pl).put j
    decide (q.1 = tab led q.1.place.toList) && (rises (n + 1)).contains q.1.place.toList && (q.1.place.size == n + 1)
  | _ => false
end Ev

namespace Ev
open PySem
theorem rises_len : ∀ n : Nat, n ≤ 3 → ∀ pl ∈ rises n, pl.length = n := by
  intro n hn
  match n, hn with
  | 0, _ => decide +kernel
  | 1, _ => decide +kernel
  | 2, _ => decide +kernel
  | 3, _ => decide +kernel
/-- the members of a set, with their hashes -/
def Mem (ks : List Int) (es : List (Int × Value)) : Prop := PySem.Paired (fun (k : Int) (e : Int × Value) => ∃ t, e = (k, Value.int k t)) ks es
def setObj (es : Array (Int × Value)) (ep : Nat) (t : SetTable) : Obj := { cls := .type "set", dict := none, data := .set es ep t }
theorem Mem.take : ∀ {ks : List Int} {es : List (Int × Value)} (n : Nat), Mem ks es → Mem (ks.take n) (es.take n)
  | _, _, 0, _ => .nil
  | _, _, _ + 1, .nil => .nil
  | _, _, n + 1, .cons r t => .cons r (Mem.take n t)
theorem Mem.drop : ∀ {ks : List Int} {es : List (Int × Value)} (n : Nat), Mem ks es → Mem (ks.drop n) (es.drop n)
  | _, _, 0, r => r
  | _, _, _ + 1, .nil => .nil
  | _, _, n + 1, .cons _ t => Mem.drop n t
structure SetG (h : Heap) (a : Addr) (led : Bool) (ks : List Int) : Prop where
  at_ : ∃ es ep pl, h.get? a = some (setObj es ep (tab led pl)) ∧ Mem ks es.toList ∧ pl ∈ rises ks.length
  few : ks.length ≤ 3
  nd : ks.Nodup
  rng : ∀ k ∈ ks, 0 ≤ k ∧ k < 80
section
variable {prog : Program} {w : World} {A : Around} {E : Value → Shared → Prop} {s : Shared}
end
end Ev

set_option maxRecDepth 100000
namespace Ev
open PySem
/-- sets are walked by the text -/
def byText (w : World) : Bool := w.params.followText "set-order"
def ordOf (w : World) (a : Addr) (ep : Nat) (es : Array (Int × Value)) : Array (Int × Value) := if byText w then pickOrder (w.params.setOrder a ep) es else es
def slotOf (pl : List Nat) : Nat → Nat
  | 0 => 0
  | i + 1 => pl.getD i 0 + 1
structure SetAt (w : World) (h : Heap) (a : Addr) (es : Array (Int × Value)) (ep : Nat) (pl : List Nat) : Prop where
  ob : h.get? a = some (setObj es ep (tab (!byText w) pl))
  few : es.size ≤ 3
  ris : pl ∈ rises es.size
def SetIter (w : World) (h : Heap) (I a : Addr) (n ep : Nat) (pl : List Nat) (i : Nat) : Prop :=
  ∃ slot : Nat, h.get? I = some { cls := .type "set_iterator", data := .fields #[rawInt slot, rawInt i, .ref a, rawInt n, rawInt ep] } ∧ (byText w = false → slot = slotOf pl i)
theorem SetIter.type {w : World} {s : Shared} {I a : Addr} {n ep : Nat} {pl : List Nat} {i : Nat} (x : SetIter w s.heap I a n ep pl i) : s.TypeIs (.ref I) "set_iterator" := let ⟨_, h, _⟩ := x; ⟨_, h, rfl⟩
section
variable {prog : Program} {w : World} {A : Around} {E : Value → Shared → Prop} {s : Shared} {a I : Addr} {es : Array (Int × Value)} {ep : Nat} {pl : List Nat}
theorem SetAt.type (S : SetAt w s.heap a es ep pl) : s.TypeIs (.ref a) "set" := ⟨_, S.ob, rfl⟩
end
end Ev

set_option maxRecDepth 100000
namespace Ev
open PySem
theorem SetAt.at {w : World} {h h' : Heap} {a : Addr} {es : Array (Int × Value)} {ep : Nat} {pl : List Nat} (S : SetAt w h a es ep pl) (e : ∀ o, h.get? a = some o → h'.get? a = some o) : SetAt w h' a es ep pl := ⟨e _ S.ob, S.few, S.ris⟩
theorem SetIter.at {w : World} {h h' : Heap} {I a : Addr} {n ep : Nat} {pl : List Nat} {i : Nat} (x : SetIter w h I a n ep pl i) (e : ∀ o, h.get? I = some o → h'.get? I = some o) : SetIter w h' I a n ep pl i := let ⟨sl, q, r⟩ := x; ⟨sl, e _ q, r⟩
section
variable {prog : Program} {w : World} {A : Around} {E : Value → Shared → Prop} {s : Shared} {a I : Addr} {es : Array (Int × Value)} {ep : Nat} {pl : List Nat} {i : Nat}
end
end Ev

set_option maxRecDepth 100000
namespace Ev
open PySem
section
variable {prog : Program} {w : World} {A : Around} {E : Value → Shared → Prop} {s : Shared} {a I : Addr} {es : Array (Int × Value)} {ep : Nat} {pl : List Nat} {i : Nat}
end
end Ev

set_option maxRecDepth 100000
namespace Ev
open PySem PyProof.Rows
section
variable {prog : Program} {w : World} {A : Around} {R : Result → Shared → Prop}
end
section
variable {prog : Program} {w : World} {A : Around} {E : Value → Shared → Prop} {s : Shared}
end
end Ev

set_option maxRecDepth 100000
namespace Ev
open PySem PyProof.Rows
section
variable {prog : Program} {w : World} {A : Around} {E : Value → Shared → Prop} {s : Shared}
end
end Ev

set_option maxRecDepth 100000
namespace L2
open PySem PySem.Spec PyProof.Rows
/-! ### sets of few small ints -/
def SetO (w : World) (a : Addr) (ks : List Int) : HO := .ext fun h => Ev.SetG h a (!Ev.byText w) ks
theorem ints_vals : ∀ {ns : List Int} {us : List Value}, Vals (ns.map V.int) us → IntsAre us ns
  | [], _, .nil => .nil
  | n :: r, _, .cons ⟨t, e⟩ q => by
    subst e
    exact .cons n t (ints_vals q)
section
variable {X : Cx}
end
theorem SetO.inj {w : World} {a b : Addr} {ks js : List Int} (e : SetO w a ks = SetO w b js) : (fun h => Ev.SetG h a (!Ev.byText w) ks) = fun h => Ev.SetG h b (!Ev.byText w) js := by
  injection e
end L2
namespace Ev
open PySem PySem.W PyProof.Rows PySem.Calls
section
variable {prog : Program} {w : World} {A : Around} {E : Value → Shared → Prop} {s : Shared}
end
/-- the ints of a list of int values -/
def num : Value → Int
  | .int k _ => k
  | _ => 0
section
variable {prog : Program} {w : World} {A : Around} {E : Value → Shared → Prop} {s : Shared}
end
end Ev

namespace L2
open PySem PySem.Spec PyProof.Rows
theorem ObjOk.there {P : Program} {w : World} {H : Hp} {h : Heap} {a : Addr} {o : HO} (x : ObjOk P w H h a o) : ∃ ob, h.get? a = some ob := by
  cases o with
  | lst xs => obtain ⟨_, _, _, _, e⟩ := x; exact ⟨_, e⟩
  | tup xs => obtain ⟨_, _, _, o, e, _⟩ := x; exact ⟨_, e⟩
  | dK kvs => obtain ⟨_, _, _, _, o, _, _, e, _⟩ := x; exact ⟨_, e⟩
  | dT kvs => obtain ⟨_, _, _, _, o, _, _, e, _⟩ := x; exact ⟨_, e⟩
  | set S n => obtain ⟨o, _, _, _, e, _⟩ := x; exact ⟨_, e⟩
  | ins C dx fs => obtain ⟨_, _, _, e, _⟩ := x; exact ⟨_, e⟩
  | own y => exact x
  | xd fs => obtain ⟨_, ⟨_, _, _, e, _⟩, _⟩ := x; exact ⟨_, e⟩
  | rng lo hi => obtain ⟨_, _, _, e⟩ := x; exact ⟨_, e⟩
  | frz ob u => obtain ⟨e, _⟩ := x; exact ⟨_, e⟩
  | tbl ps => exact ⟨_, (show h.get? a = some _ from x)⟩
  | met f y => exact ⟨_, (show h.get? a = some _ from x)⟩
  | ext φ => obtain ⟨_, e, _⟩ := x; exact e
section
variable {X : Cx} {pins : List (Addr × Obj)} {σ : St} {H : Hp} {s : Shared} {h' : Heap} {a : Addr} {o : HO} {t' : Nat}
theorem Inv.off (I : Inv X pins σ H s) (ne : ∀ b ob, s.heap.get? b = some ob → b ≠ a) : H a = none := by
  cases q : H a with
  | none => rfl
  | some u =>
    obtain ⟨ob, e⟩ := (I.hok a u q).there
    exact absurd rfl (ne a ob e)
end
section
variable {X : Cx}
end
end L2

set_option maxRecDepth 100000
namespace L2
open PySem PySem.Spec PyProof.Rows
section
variable {X : Cx}
end
end L2

set_option maxRecDepth 100000
namespace L2
open PySem PySem.Spec PyProof.Rows
/-- isinstance of a built-in value and a built-in type -/
theorem kit_same {K : PySem.W.Frag} {t : Value} : PySem.W.kitOne K t t = some true := by
  unfold PySem.W.kitOne
  rw [if_pos (beq_self_eq_true _)]
section
variable {X : Cx}
theorem call_isi : CallR X (.builtin "isinstance") (fun xs H Q => ∃ (x : V) (T : String) (t : Value) (b : Bool), xs = [x, .ty T] ∧ TyOf X.K H x t ∧ PySem.W.kitOne X.K t (.type T) = some b ∧ Q (.bl b) H) := by
  intro pins s σ H xs us Q I r h
  obtain ⟨x, T, t, b, rfl, ty, e, q⟩ := h
  obtain ⟨u, v, rfl, ru, rv⟩ := vals2 r
  cases (show v = Value.type T from rv)
  exact isinst_ok I ru ty e fun tk => ⟨.bl b, H, I.tok tk, rfl, q⟩
end
end L2

set_option maxRecDepth 100000
/-! ### the law's own builders as plain functions -/
namespace Mi
def cell (ns : List Int) (k : Nat) : Int := ns.getD k 0
/-- sorted, each once -/
def put (x : Int) : List Int → List Int
  | [] => [x]
  | y :: r => if x < y then x :: y :: r else if x = y then y :: r else y :: put x r
def sset : List Int → List Int
  | [] => []
  | x :: r => put x (sset r)
abbrev Room := Int × Int × List Int
def ways (c many : Int) : List Int :=
  if c / 16 % 9 = 8 then (List.range (many - c / 32 % many).toNat).map fun (i : Nat) => c / 32 % many + (i : Int)
  else sset (([c / 32 % many, c / 2560 % many, c / 204800 % many] : List Int).take (1 + c / 16 % 3).toNat)
def room (c many ranks : Int) : Room := (c % 2, c / 2 % ranks, ways c many)
def many (ns : List Int) (k : Nat) (most : Int) : Int := 1 + cell ns k % most
def hall (ns : List Int) (k : Nat) (most ranks : Int) : List Room :=
  (List.range (many ns k most).toNat).map fun (j : Nat) => room (cell ns (k + 1 + j) + 77777 * (j : Int)) (many ns k most) ranks
def anyMost (ns : List Int) (k : Nat) (most : Int) : Int := if cell ns k % 6 = 5 then 2 * most else most
def anyHall (ns : List Int) (k : Nat) (most ranks : Int) : List Room := hall ns (k + 1) (anyMost ns k most) ranks
end Mi
namespace L2
open PySem
/-- the script: it never changes -/
def Scr (K : PySem.W.Frag) (H : Hp) (a : Addr) (ns : List Int) : Prop :=
  (∃ o, H a = some (.frz o (.lst (ns.map V.int)))) ∨
    ∃ (o : Obj) (its : Array Value) (n : Nat), K.lookup a = some o ∧ o.cls = .type "list" ∧ o.dict = none ∧ o.data = .seq its n ∧ its.size ≤ sizeLine ∧ Vals (ns.map V.int) its.toList
theorem Scr.of {K : PySem.W.Frag} {H : Hp} {a : Addr} {ns : List Int} (h : SqL K H a (ns.map V.int)) (o : Only H) : Scr K H a ns := by
  rcases h with (h | ⟨o', h⟩) | h
  · rcases o a with e | ⟨_, _, e⟩
    · rw [e] at h; cases h
    · rw [e] at h; cases h
  · exact .inl ⟨o', h⟩
  · exact .inr h
theorem Scr.sql {K : PySem.W.Frag} {H : Hp} {a : Addr} {ns : List Int} (h : Scr K H a ns) : SqL K H a (ns.map V.int) := by
  rcases h with ⟨o, h⟩ | h
  · exact .inl (.inr ⟨o, h⟩)
  · exact .inr h
/-- all but the object at p is as it was -/
def SameX (p : Addr) (H H' : Hp) : Prop := ∀ b o, H b = some o → b ≠ p → H' b = some o
theorem Scr.keep {K : PySem.W.Frag} {H H' : Hp} {a p : Addr} {ns : List Int} {xs : List V} (h : Scr K H a ns) (hp : H p = some (.lst xs)) (k : SameX p H H') : Scr K H' a ns := by
  rcases h with ⟨o, h⟩ | h
  · refine .inl ⟨o, k _ _ h ?_⟩
    rintro rfl
    rw [hp] at h
    cases h
  · exact .inr h
theorem Scr.same {K : PySem.W.Frag} {H H' : Hp} {a : Addr} {ns : List Int} (h : Scr K H a ns) (k : Same H H') : Scr K H' a ns := by
  rcases h with ⟨o, h⟩ | h
  · exact .inl ⟨o, k _ _ h⟩
  · exact .inr h
theorem same_new {H : Hp} {p : Addr} (h : H p = none) (o : HO) : Same H (upd H p o) := fun b u q => by rw [upd_ne (ne_of_none q h)]; exact q
theorem samex_upd {H : Hp} {p : Addr} {o : HO} : SameX p H (upd H p o) := fun b u q hb => by rw [upd_ne hb]; exact q
theorem SameX.trans {p : Addr} {H H1 H2 : Hp} (a : SameX p H H1) (b : SameX p H1 H2) : SameX p H H2 := fun c o h hc => b c o (a c o h hc) hc
theorem Same.x {p : Addr} {H H' : Hp} (a : Same H H') : SameX p H H' := fun c o h _ => a c o h
/-- a room, a hall in the heap -/
def RoomAt (H : Hp) (r : Mi.Room) (v : V) : Prop := ∃ p q, v = .ref p ∧ H p = some (.tup [.int r.1, .int r.2.1, .ref q]) ∧ H q = some (.tup (r.2.2.map V.int))
def HallAt (H : Hp) (l : Addr) (hall : List Mi.Room) : Prop := ∃ vs, H l = some (.lst vs) ∧ Paired (RoomAt H) hall vs
theorem RoomAt.tups {H H' : Hp} {r : Mi.Room} {v : V} (h : RoomAt H r v) (k : ∀ b xs, H b = some (.tup xs) → H' b = some (.tup xs)) : RoomAt H' r v := by
  obtain ⟨p, q, e, h1, h2⟩ := h
  exact ⟨p, q, e, k _ _ h1, k _ _ h2⟩
theorem rooms_tups {H H' : Hp} {hall : List Mi.Room} {vs : List V} (h : Paired (RoomAt H) hall vs) (k : ∀ b xs, H b = some (.tup xs) → H' b = some (.tup xs)) : Paired (RoomAt H') hall vs := Paired.imp' (fun _ _ z => z.tups k) h
theorem HallAt.same {H H' : Hp} {l : Addr} {hall : List Mi.Room} (h : HallAt H l hall) (k : Same H H') : HallAt H' l hall := by
  obtain ⟨vs, e, p⟩ := h
  exact ⟨vs, k _ _ e, rooms_tups p fun b xs q => k _ _ q⟩
end L2

set_option maxRecDepth 100000
namespace L2
open PySem PySem.Spec PyProof.Rows
/-! ### values as trees, and == of them -/
inductive T where
  | non | bl (b : Bool) | int (i : Int) | str (x : Str) | tup (l : List T) | lst (l : List T)
mutual
def Rep (K : PySem.W.Frag) (H : Hp) : T → V → Prop
  | .non, v => v = .non
  | .bl b, v => v = .bl b
  | .int i, v => v = .int i
  | .str x, v => v = .str x
  | .tup l, v => ∃ a xs, v = .ref a ∧ SqT K H a xs ∧ Reps K H l xs
  | .lst l, v => ∃ a xs, v = .ref a ∧ SqL K H a xs ∧ Reps K H l xs
def Reps (K : PySem.W.Frag) (H : Hp) : List T → List V → Prop
  | [], [] => True
  | t :: r, x :: q => Rep K H t x ∧ Reps K H r q
  | [], _ :: _ => False
  | _ :: _, [] => False
end
mutual
def eqT : T → T → Bool
  | .non, .non => true
  | .bl a, .bl b => a == b
  | .int a, .int b => a == b
  | .str a, .str b => a == b
  | .bl a, .int b => (if a then 1 else 0) == b
  | .int a, .bl b => a == (if b then 1 else 0)
  | .tup a, .tup b => eqTs a b
  | .lst a, .lst b => eqTs a b
  | _, _ => false
def eqTs : List T → List T → Bool
  | [], [] => true
  | a :: r, b :: q => eqT a b && eqTs r q
  | _, _ => false
end
mutual
def deep : T → Nat
  | .tup l => deeps l + 1
  | .lst l => deeps l + 1
  | _ => 0
def deeps : List T → Nat
  | [] => 0
  | t :: r => max (deep t) (deeps r)
end
mutual
theorem eqT_refl : ∀ t : T, eqT t t = true
  | .non => rfl
  | .bl b => by simp [eqT]
  | .int b => by simp [eqT]
  | .str b => by simp [eqT]
  | .tup l => by simp [eqT, eqTs_refl l]
  | .lst l => by simp [eqT, eqTs_refl l]
theorem eqTs_refl : ∀ l : List T, eqTs l l = true
  | [] => rfl
  | t :: r => by simp [eqTs, eqT_refl t, eqTs_refl r]
end
theorem Reps.len {K : PySem.W.Frag} {H : Hp} : ∀ {l : List T} {xs : List V}, Reps K H l xs → l.length = xs.length
  | [], [], _ => rfl
  | _ :: r, _ :: q, h => by
    obtain ⟨_, h⟩ := (show _ ∧ Reps K H r q from by simpa [Reps] using h)
    rw [List.length_cons, List.length_cons, Reps.len h]
  | [], _ :: _, h => by simp [Reps] at h
  | _ :: _, [], h => by simp [Reps] at h
theorem Reps.get {K : PySem.W.Frag} {H : Hp} : ∀ {l : List T} {xs : List V}, Reps K H l xs → ∀ {i : Nat} {t : T}, l[i]? = some t → ∃ x, xs[i]? = some x ∧ Rep K H t x
  | [], [], _, i, t, e => by simp at e
  | u :: r, y :: q, h, i, t, e => by
    obtain ⟨h1, h⟩ := (show Rep K H u y ∧ Reps K H r q from by simpa [Reps] using h)
    cases i with
    | zero =>
      simp only [List.getElem?_cons_zero, Option.some.injEq] at e
      subst e
      exact ⟨y, rfl, h1⟩
    | succ i => exact Reps.get h (i := i) (by simpa using e)
  | [], _ :: _, h, _, _, _ => by simp [Reps] at h
  | _ :: _, [], h, _, _, _ => by simp [Reps] at h
theorem deeps_get : ∀ {l : List T} {i : Nat} {t : T}, l[i]? = some t → deep t ≤ deeps l
  | [], i, t, e => by simp at e
  | u :: r, 0, t, e => by
    simp only [List.getElem?_cons_zero, Option.some.injEq] at e
    subst e
    simp [deeps]
    omega
  | u :: r, i + 1, t, e => by
    have := deeps_get (l := r) (i := i) (by simpa using e)
    simp [deeps]
    omega
theorem eqTs_all : ∀ {a b : List T} (_ : a.length = b.length), eqTs a b = (List.range a.length).all fun i => eqT (a.getD i .non) (b.getD i .non)
  | [], [], _ => by simp [eqTs]
  | x :: r, y :: q, h => by
    have ih := eqTs_all (a := r) (b := q) (by simpa using h)
    rw [eqTs, ih, List.length_cons, List.range_succ_eq_map, List.all_cons, List.all_map]
    rfl
  | [], _ :: _, h => by simp at h
  | _ :: _, [], h => by simp at h
theorem eqTs_len : ∀ {a b : List T}, a.length ≠ b.length → eqTs a b = false
  | [], [], h => absurd rfl h
  | x :: r, y :: q, h => by rw [eqTs, eqTs_len (a := r) (b := q) (by simpa using h), Bool.and_false]
  | [], _ :: _, _ => by simp [eqTs]
  | _ :: _, [], _ => by simp [eqTs]
section
variable {X : Cx} {pins : List (Addr × Obj)} {σ : St} {H : Hp} {s : Shared}
mutual
theorem Rep.uniq (I : Inv X pins σ H s) : ∀ {t u : T} {x : V}, Rep X.K H t x → Rep X.K H u x → t = u
  | .non, u, x, h1, h2 => by
    simp only [Rep] at h1
    subst h1
    cases u <;> simp [Rep] at h2 <;> rfl
  | .bl _, u, x, h1, h2 => by
    simp only [Rep] at h1
    subst h1
    cases u <;> simp [Rep] at h2 <;> rw [h2]
  | .int _, u, x, h1, h2 => by
    simp only [Rep] at h1
    subst h1
    cases u <;> simp [Rep] at h2 <;> rw [h2]
  | .str _, u, x, h1, h2 => by
    simp only [Rep] at h1
    subst h1
    cases u <;> simp [Rep] at h2 <;> rw [h2]
  | .tup l, u, x, h1, h2 => by
    simp only [Rep] at h1
    obtain ⟨a, xs, rfl, hq, hr⟩ := h1
    cases u with
    | tup l' =>
      simp only [Rep] at h2
      obtain ⟨a', xs', e, hq', hr'⟩ := h2
      cases e
      rw [I.tuple_inj hq' hq] at hr'
      rw [Reps.uniq I hr hr']
    | lst l' =>
      simp only [Rep] at h2
      obtain ⟨a', xs', e, hq', hr'⟩ := h2
      cases e
      obtain ⟨_, _, p, _⟩ := I.tuple hq
      obtain ⟨_, _, p', _⟩ := I.list hq'
      exact absurd rfl (SeqAt.ne_of_list_tuple p'.isList (show s.heap.IsTuple a _ from p))
    | _ => simp [Rep] at h2
  | .lst l, u, x, h1, h2 => by
    simp only [Rep] at h1
    obtain ⟨a, xs, rfl, hq, hr⟩ := h1
    cases u with
    | lst l' =>
      simp only [Rep] at h2
      obtain ⟨a', xs', e, hq', hr'⟩ := h2
      cases e
      rw [I.list_inj hq' hq] at hr'
      rw [Reps.uniq I hr hr']
    | tup l' =>
      simp only [Rep] at h2
      obtain ⟨a', xs', e, hq', hr'⟩ := h2
      cases e
      obtain ⟨_, _, p, _⟩ := I.tuple hq'
      obtain ⟨_, _, p', _⟩ := I.list hq
      exact absurd rfl (SeqAt.ne_of_list_tuple p'.isList (show s.heap.IsTuple a _ from p))
    | _ => simp [Rep] at h2
theorem Reps.uniq (I : Inv X pins σ H s) : ∀ {l m : List T} {xs : List V}, Reps X.K H l xs → Reps X.K H m xs → l = m
  | [], m, xs, h1, h2 => by
    cases xs with
    | nil => cases m with
      | nil => rfl
      | cons _ _ => simp [Reps] at h2
    | cons _ _ => simp [Reps] at h1
  | t :: r, m, xs, h1, h2 => by
    cases xs with
    | nil => simp [Reps] at h1
    | cons x q =>
      cases m with
      | nil => simp [Reps] at h2
      | cons u r' =>
        simp only [Reps] at h1 h2
        rw [Rep.uniq I h1.1 h2.1, Reps.uniq I h1.2 h2.2]
end
open PySem.SeqAt in
theorem eqAt_T (I : Inv X pins σ H s) : ∀ (n : Nat) {t u : T} {x y : V} {v w : Value} {A : Around}, deep t ≤ n → Rep X.K H t x → Rep X.K H u y → RelV x v → RelV y w → A.units + n < cLine → EqAt A s v w (eqT t u) := by
  intro n
  induction n with
  | zero =>
    intro t u x y v w A hd h1 h2 r1 r2 hu
    have hu' : A.units < cLine := by omega
    cases t with
    | tup l => simp [deep] at hd
    | lst l => simp [deep] at hd
    | non =>
      simp only [Rep] at h1
      subst h1
      cases r1
      cases u with
      | non => simp only [Rep] at h2; subst h2; cases r2; exact EqAt.same _
      | bl b => simp only [Rep] at h2; subst h2; cases r2; exact EqAt.none_bool _
      | int b => simp only [Rep] at h2; subst h2; obtain ⟨t, rfl⟩ := r2; exact EqAt.none_int _ _
      | str b => simp only [Rep] at h2; subst h2; obtain ⟨t, rfl⟩ := r2; exact EqAt.none_str _ _
      | tup l =>
        simp only [Rep] at h2; obtain ⟨a, xs, rfl, hq, _⟩ := h2; cases r2
        obtain ⟨_, _, p, _⟩ := I.tuple hq
        exact EqAt.none_tuple (show s.heap.IsTuple a _ from p) hu'
      | lst l =>
        simp only [Rep] at h2; obtain ⟨a, xs, rfl, hq, _⟩ := h2; cases r2
        obtain ⟨_, _, p, _⟩ := I.list hq
        exact EqAt.none_list p.isList hu'
    | bl b1 =>
      simp only [Rep] at h1
      subst h1
      cases r1
      cases u with
      | non => simp only [Rep] at h2; subst h2; cases r2; exact EqAt.bool_none _
      | bl b => simp only [Rep] at h2; subst h2; cases r2; exact EqAt.bool_bool _ _
      | int b => simp only [Rep] at h2; subst h2; obtain ⟨t, rfl⟩ := r2; exact EqAt.bool_int _ _ _
      | str b => simp only [Rep] at h2; subst h2; obtain ⟨t, rfl⟩ := r2; exact EqAt.bool_str _ _ _
      | tup l =>
        simp only [Rep] at h2; obtain ⟨a, xs, rfl, hq, _⟩ := h2; cases r2
        obtain ⟨_, _, p, _⟩ := I.tuple hq
        exact EqAt.bool_tuple _ (show s.heap.IsTuple a _ from p) hu'
      | lst l =>
        simp only [Rep] at h2; obtain ⟨a, xs, rfl, hq, _⟩ := h2; cases r2
        obtain ⟨_, _, p, _⟩ := I.list hq
        exact EqAt.bool_list _ p.isList hu'
    | int b1 =>
      simp only [Rep] at h1
      subst h1
      obtain ⟨t1, rfl⟩ := r1
      cases u with
      | non => simp only [Rep] at h2; subst h2; cases r2; exact EqAt.int_none _ _
      | bl b => simp only [Rep] at h2; subst h2; cases r2; exact EqAt.int_bool _ _ _
      | int b => simp only [Rep] at h2; subst h2; obtain ⟨t, rfl⟩ := r2; exact EqAt.int_int _ _ _ _
      | str b => simp only [Rep] at h2; subst h2; obtain ⟨t, rfl⟩ := r2; exact EqAt.int_str _ _ _ _
      | tup l =>
        simp only [Rep] at h2; obtain ⟨a, xs, rfl, hq, _⟩ := h2; cases r2
        obtain ⟨_, _, p, _⟩ := I.tuple hq
        exact EqAt.int_tuple _ _ (show s.heap.IsTuple a _ from p) hu'
      | lst l =>
        simp only [Rep] at h2; obtain ⟨a, xs, rfl, hq, _⟩ := h2; cases r2
        obtain ⟨_, _, p, _⟩ := I.list hq
        exact EqAt.int_list _ _ p.isList hu'
    | str b1 =>
      simp only [Rep] at h1
      subst h1
      obtain ⟨t1, rfl⟩ := r1
      cases u with
      | non => simp only [Rep] at h2; subst h2; cases r2; exact EqAt.str_none _ _
      | bl b => simp only [Rep] at h2; subst h2; cases r2; exact EqAt.str_bool _ _ _
      | int b => simp only [Rep] at h2; subst h2; obtain ⟨t, rfl⟩ := r2; exact EqAt.str_int _ _ _ _
      | str b => simp only [Rep] at h2; subst h2; obtain ⟨t, rfl⟩ := r2; exact EqAt.str_str _ _ _ _
      | tup l =>
        simp only [Rep] at h2; obtain ⟨a, xs, rfl, hq, _⟩ := h2; cases r2
        obtain ⟨_, _, p, _⟩ := I.tuple hq
        exact EqAt.str_tuple _ _ (show s.heap.IsTuple a _ from p) hu'
      | lst l =>
        simp only [Rep] at h2; obtain ⟨a, xs, rfl, hq, _⟩ := h2; cases r2
        obtain ⟨_, _, p, _⟩ := I.list hq
        exact EqAt.str_list _ _ p.isList hu'
  | succ n ih =>
    intro t u x y v w A hd h1 h2 r1 r2 hu
    have hu' : A.units < cLine := by omega
    by_cases h0 : deep t ≤ n
    · exact ih h0 h1 h2 r1 r2 (by omega)
    have item : ∀ {l m : List T} {xs ys : List V} {its its2 : List Value}, deeps l ≤ n → Reps X.K H l xs → Reps X.K H m ys → Vals xs its → Vals ys its2 → ∀ j (h1 : j < its.toArray.size) (h2 : j < its2.toArray.size),
        EqAt A.in1 s its.toArray[j] its2.toArray[j] (eqT (l.getD j .non) (m.getD j .non)) := fun {l m xs ys its its2} hd r1 r2 v1 v2 j hj1 hj2 => by
      have l1 := r1.len
      have l2 := r2.len
      have l3 := v1.length
      have l4 := v2.length
      rw [List.size_toArray] at hj1 hj2
      have e1 : l[j]? = some (l.getD j .non) := by rw [List.getD, List.getElem?_eq_getElem (show j < l.length by omega)]; rfl
      have e2 : m[j]? = some (m.getD j .non) := by rw [List.getD, List.getElem?_eq_getElem (show j < m.length by omega)]; rfl
      obtain ⟨x1, ex1, p1⟩ := r1.get e1
      obtain ⟨x2, ex2, p2⟩ := r2.get e2
      obtain ⟨u1, eu1, q1⟩ := v1.get ex1
      obtain ⟨u2, eu2, q2⟩ := v2.get ex2
      have z1 : its.toArray[j]'(by simpa using hj1) = u1 := by
        rw [List.getElem?_eq_getElem hj1] at eu1
        simpa using eu1
      have z2 : its2.toArray[j]'(by simpa using hj2) = u2 := by
        rw [List.getElem?_eq_getElem hj2] at eu2
        simpa using eu2
      rw [z1, z2]
      exact ih (Nat.le_trans (deeps_get e1) hd) p1 p2 q1 q2 (by show A.units + 1 + n < cLine; omega)
    cases t with
    | non => exact absurd (Nat.zero_le _) h0
    | bl _ => exact absurd (Nat.zero_le _) h0
    | int _ => exact absurd (Nat.zero_le _) h0
    | str _ => exact absurd (Nat.zero_le _) h0
    | tup l =>
      have hdl : deeps l ≤ n := by simpa [deep] using hd
      have h1' := h1
      simp only [Rep] at h1'
      obtain ⟨a, xs, rfl, hq, hr⟩ := h1'
      cases r1
      obtain ⟨its, rv, p, hz⟩ := I.tuple hq
      have pt : s.heap.IsTuple a its.toArray := p
      cases u with
      | non => simp only [Rep] at h2; subst h2; cases r2; exact EqAt.tuple_none pt hu'
      | bl b => simp only [Rep] at h2; subst h2; cases r2; exact EqAt.tuple_bool _ pt hu'
      | int b => simp only [Rep] at h2; subst h2; obtain ⟨t, rfl⟩ := r2; exact EqAt.tuple_int _ _ pt hu'
      | str b => simp only [Rep] at h2; subst h2; obtain ⟨t, rfl⟩ := r2; exact EqAt.tuple_str _ _ pt hu'
      | lst m =>
        simp only [Rep] at h2; obtain ⟨b, ys, rfl, hq2, _⟩ := h2; cases r2
        obtain ⟨_, _, p2, _⟩ := I.list hq2
        exact EqAt.tuple_list pt p2.isList hu'
      | tup m =>
        have h2' := h2
        simp only [Rep] at h2'
        obtain ⟨b, ys, rfl, hq2, hr2⟩ := h2'
        cases r2
        by_cases hab : a = b
        · subst hab
          rw [Rep.uniq I h2 h1, eqT_refl]
          exact EqAt.same _
        · obtain ⟨its2, rv2, p2, hz2⟩ := I.tuple hq2
          have z := RcAt.tuples pt (show s.heap.IsTuple b its2.toArray from p2) hu' (item hdl hr hr2 rv rv2)
          refine EqAt.of_refs hab ?_
          have l1 := hr.len
          have l2 := hr2.len
          have l3 := rv.length
          have l4 := rv2.length
          have e : ((List.range (min its.toArray.size its2.toArray.size)).all (fun j => eqT (l.getD j .non) (m.getD j .non)) && its.toArray.size == its2.toArray.size) = eqT (.tup l) (.tup m) := by
            show _ = eqTs l m
            rw [List.size_toArray, List.size_toArray, ← l3, ← l4, ← l1, ← l2]
            by_cases hl : l.length = m.length
            · rw [eqTs_all hl, hl]; simp
            · rw [eqTs_len hl, beq_eq_false_iff_ne.mpr hl, Bool.and_false]
          rw [e] at z
          exact z
    | lst l =>
      have hdl : deeps l ≤ n := by simpa [deep] using hd
      have h1' := h1
      simp only [Rep] at h1'
      obtain ⟨a, xs, rfl, hq, hr⟩ := h1'
      cases r1
      obtain ⟨its, rv, p, hz⟩ := I.list hq
      have pt : s.heap.IsList a its.toArray := p.isList
      cases u with
      | non => simp only [Rep] at h2; subst h2; cases r2; exact EqAt.list_none pt hu'
      | bl b => simp only [Rep] at h2; subst h2; cases r2; exact EqAt.list_bool _ pt hu'
      | int b => simp only [Rep] at h2; subst h2; obtain ⟨t, rfl⟩ := r2; exact EqAt.list_int _ _ pt hu'
      | str b => simp only [Rep] at h2; subst h2; obtain ⟨t, rfl⟩ := r2; exact EqAt.list_str _ _ pt hu'
      | tup m =>
        simp only [Rep] at h2; obtain ⟨b, ys, rfl, hq2, _⟩ := h2; cases r2
        obtain ⟨_, _, p2, _⟩ := I.tuple hq2
        exact EqAt.list_tuple pt (show s.heap.IsTuple b _ from p2) hu'
      | lst m =>
        have h2' := h2
        simp only [Rep] at h2'
        obtain ⟨b, ys, rfl, hq2, hr2⟩ := h2'
        cases r2
        by_cases hab : a = b
        · subst hab
          rw [Rep.uniq I h2 h1, eqT_refl]
          exact EqAt.same _
        · obtain ⟨its2, rv2, p2, hz2⟩ := I.list hq2
          have l1 := hr.len
          have l2 := hr2.len
          have l3 := rv.length
          have l4 := rv2.length
          refine EqAt.of_refs hab ?_
          by_cases hl : l.length = m.length
          · have z := RcAt.lists pt p2.isList (by rw [List.size_toArray, List.size_toArray]; omega) hu' (item hdl hr hr2 rv rv2)
            have e : (List.range its.toArray.size).all (fun j => eqT (l.getD j .non) (m.getD j .non)) = eqT (.lst l) (.lst m) := by
              show _ = eqTs l m
              rw [List.size_toArray, ← l3, ← l1, eqTs_all hl]
            rw [e] at z
            exact z
          · have e : eqT (.lst l) (.lst m) = false := eqTs_len hl
            rw [e]
            exact RcAt.lists_lengths pt p2.isList (by rw [List.size_toArray, List.size_toArray]; simp only [bne_iff_ne]; omega) hu'
end
section
variable {X : Cx} {pins : List (Addr × Obj)} {σ : St} {H : Hp} {s : Shared}
open PySem.SeqAt in
theorem eqAt_items (I : Inv X pins σ H s) {n : Nat} {A : Around} (hu : A.units + n < cLine) {l m : List T} {xs ys : List V} {its its2 : List Value} (hd : deeps l ≤ n) (r1 : Reps X.K H l xs) (r2 : Reps X.K H m ys) (v1 : Vals xs its) (v2 : Vals ys its2) (j : Nat)
    (hj1 : j < its.toArray.size) (hj2 : j < its2.toArray.size) : EqAt A s its.toArray[j] its2.toArray[j] (eqT (l.getD j .non) (m.getD j .non)) := by
  have l1 := r1.len
  have l2 := r2.len
  have l3 := v1.length
  have l4 := v2.length
  rw [List.size_toArray] at hj1 hj2
  have e1 : l[j]? = some (l.getD j .non) := by rw [List.getD, List.getElem?_eq_getElem (show j < l.length by omega)]; rfl
  have e2 : m[j]? = some (m.getD j .non) := by rw [List.getD, List.getElem?_eq_getElem (show j < m.length by omega)]; rfl
  obtain ⟨x1, ex1, p1⟩ := r1.get e1
  obtain ⟨x2, ex2, p2⟩ := r2.get e2
  obtain ⟨u1, eu1, q1⟩ := v1.get ex1
  obtain ⟨u2, eu2, q2⟩ := v2.get ex2
  have z1 : its.toArray[j]'(by simpa using hj1) = u1 := by
    rw [List.getElem?_eq_getElem hj1] at eu1
    simpa using eu1
  have z2 : its2.toArray[j]'(by simpa using hj2) = u2 := by
    rw [List.getElem?_eq_getElem hj2] at eu2
    simpa using eu2
  rw [z1, z2]
  exact eqAt_T I n (Nat.le_trans (deeps_get e1) hd) p1 p2 q1 q2 hu
open PySem.SeqAt in
theorem rcAt_lists (I : Inv X pins σ H s) {n : Nat} {A : Around} (hu : A.units + n + 1 < cLine) {l m : List T} {a b : Addr} (hd : deeps l ≤ n) (h1 : Rep X.K H (.lst l) (.ref a)) (h2 : Rep X.K H (.lst m) (.ref b)) : RcAt A s (.ref a) (.ref b) (eqTs l m) := by
  simp only [Rep] at h1 h2
  obtain ⟨_, xs, e1, hq, hr⟩ := h1
  cases e1
  obtain ⟨_, ys, e2, hq2, hr2⟩ := h2
  cases e2
  obtain ⟨its, rv, p, hz⟩ := I.list hq
  obtain ⟨its2, rv2, p2, hz2⟩ := I.list hq2
  have l1 := hr.len
  have l2 := hr2.len
  have l3 := rv.length
  have l4 := rv2.length
  by_cases hl : l.length = m.length
  · have z := RcAt.lists (A := A) p.isList p2.isList (by rw [List.size_toArray, List.size_toArray]; omega) (by omega) (eqAt_items I (A := A.in1) (n := n) (by show A.units + 1 + n < cLine; omega) hd hr hr2 rv rv2)
    have e : (List.range its.toArray.size).all (fun j => eqT (l.getD j .non) (m.getD j .non)) = eqTs l m := by rw [List.size_toArray, ← l3, ← l1, eqTs_all hl]
    rw [e] at z
    exact z
  · rw [eqTs_len hl]
    exact RcAt.lists_lengths p.isList p2.isList (by rw [List.size_toArray, List.size_toArray]; simp only [bne_iff_ne]; omega) (by omega)
open PySem.SeqAt in
end
section
variable {X : Cx}
/-- == of two lists, of two tuples, whatever they hold -/
theorem op_eqL (hu : X.A.units + 30 < cLine) : OpR X (compareOp .Eq) (fun x y H Q => ∃ l m, Rep X.K H (.lst l) x ∧ Rep X.K H (.lst m) y ∧ deeps l ≤ 20 ∧ Q (.bl (eqTs l m)) H) := by
  intro pins s σ H x y v u Q I rx ry h
  obtain ⟨l, m, h1, h2, hd, q⟩ := h
  obtain ⟨a, _, rfl, _⟩ := (show ∃ a xs, x = .ref a ∧ _ from by simpa only [Rep] using h1)
  obtain ⟨b, _, rfl, _⟩ := (show ∃ a xs, y = .ref a ∧ _ from by simpa only [Rep] using h2)
  cases rx
  cases ry
  exact rcAt_lists I (n := 20) (by omega) hd h1 h2 X.prog X.w X.xe _ ⟨.bl _, H, I, rfl, q⟩
end
theorem Reps.int {K : PySem.W.Frag} {H : Hp} : ∀ ns : List Int, Reps K H (ns.map T.int) (ns.map V.int)
  | [] => by simp [Reps]
  | n :: r => by simp only [List.map_cons, Reps, Rep]; exact ⟨trivial, Reps.int r⟩
theorem deeps_int : ∀ ns : List Int, deeps (ns.map T.int) = 0
  | [] => rfl
  | n :: r => by simp [deeps, deep, deeps_int r]
theorem eqTs_int : ∀ a b : List Int, eqTs (a.map T.int) (b.map T.int) = decide (a = b)
  | [], [] => by simp [eqTs]
  | x :: r, y :: q => by
    rw [List.map_cons, List.map_cons, eqTs, eqT, eqTs_int r q]
    by_cases h : x = y
    · subst h; simp
    · simp [h]
  | [], _ :: _ => by simp [eqTs]
  | _ :: _, [] => by simp [eqTs]
/-! ### the same rules where the fragment is named (within a comprehension) -/
section
variable {X : Cx}
theorem ixL (K : PySem.W.Frag) (h : X.K = K := by rfl) : IxR X (rIxL K) := h ▸ ix_list
theorem ixT (K : PySem.W.Frag) (h : X.K = K := by rfl) : IxR X (rIxT K) := h ▸ ix_tup
theorem inK (K : PySem.W.Frag) (h : X.K = K := by rfl) : OpR X (compareOp .In) (rIn K false) := h ▸ op_in_seq
theorem notInK (K : PySem.W.Frag) (h : X.K = K := by rfl) : OpR X (compareOp .NotIn) (rIn K true) := h ▸ op_notIn_seq
theorem isiK (K : PySem.W.Frag) (h : X.K = K := by rfl) : CallR X (.builtin "isinstance") (fun xs H Q => ∃ (x : V) (T : String) (t : Value) (b : Bool), xs = [x, .ty T] ∧ TyOf K H x t ∧ PySem.W.kitOne K t (.type T) = some b ∧ Q (.bl b) H) := h ▸ call_isi
end
end L2

set_option maxRecDepth 100000
namespace L2
open PySem
/-- a def of the text as it stands behind the top -/
structure At (K : PySem.W.Frag) (mg : Str → Option Value) (x : Str) (st : Stmt) (ps : List Str) (f : Addr) (fd : FuncData) : Prop where
  fn : Fun K x x st f fd
  bt : ∀ (s : Shared) (us : List Value), us.length = ps.length → BindsTo s fd ⟨us, []⟩ (ps.zip us)
  gl : mg x = some (.ref f)
theorem At.bd {K : PySem.W.Frag} {mg : Str → Option Value} {x : Str} {st : Stmt} {ps : List Str} {f : Addr} {fd : FuncData} (h : At K mg x st ps f fd) : Binds K fd ps [] := fun s us _ hl => by
  rw [List.append_nil] at hl ⊢
  exact h.bt s us hl
theorem At.kp {K : PySem.W.Frag} {mg : Str → Option Value} {x : Str} {st : Stmt} {ps : List Str} {f : Addr} {fd : FuncData} (h : At K mg x st ps f fd) : PySem.W.keepIn K (.ref f) = true := h.fn.kp
theorem at_mk {K : PySem.W.Frag} {h : Heap} {mg : Str → Option Value} {x : Str} {st : Stmt} {ps : List Str} {f : Addr} {od an : Option Addr} {sl : Array (Option Value)} {oc kV dc pm cd ct : Value} (X : K.In h) (G : h.Ns mainGlobals mg)
    (b : ∀ (kV doc pm : Value) (an : Option Addr) (cdv ct : Value) (us : List Value), us.length = ps.length → bindArgs (PySem.W.fnOf x x (defArgs st) (defBody st) (defScope st) .none kV doc pm an cdv ct) ⟨us, []⟩ = pure (ps.zip us))
    (a : PySem.W.nsIn K mainGlobals x = some (some (.ref f))) (l : K.lookup f = some ⟨oc, od, .func (PySem.W.fnOf x x (defArgs st) (defBody st) (defScope st) .none kV dc pm an cd ct), sl⟩) (c : PySem.W.codeIn K cd x = true) (k : PySem.W.keepIn K (.ref f) = true) :
    ∃ f fd, At K mg x st ps f fd :=
  ⟨f, _, fun_mk l c k, fun s us hl => .of_eq (b kV dc pm an cd ct us hl), PySem.W.mg_of X G a⟩
end L2

set_option maxRecDepth 100000
namespace Ev
open PySem PySem.W PySem.Calls PyProof.Rows PySem.Spec PySem.Builtin PySem.Builtin.ObjectAttr PySem.Builtin.Getset_descriptor
/-- what the top has written of an own error class -/
structure ExcK (K : Frag) (C : Addr) : Prop where
  ga : findIn K (.ref C) "__getattribute__" = some (some (.builtin "BaseException.__getattribute__"))
  gt : findIn K (.ref C) "__getattr__" = some none
  gc : findIn K (.ref C) "__class__" = some (some (.builtin "object.__class__"))
  mo : mroIn K C (.type "object") = some true
  mb : mroIn K C (.type "BaseException") = some true
  nd : specialIn K (.builtin "object.__class__") "__get__" = some (some (.builtin "getset_descriptor.__get__"))
  tk : takesIn K (.builtin "object.__class__") = some true
  hc : (clsIn K C).isSome = true
/-- an error of the class at C -/
def ExcAt (h : Heap) (x C : Addr) : Prop := ∃ ox, h.get? x = some ox ∧ ox.cls = .ref C
section
variable {M : Model} {h : Heap} {prog : Program} {w : World} {A : Around} {E : Value → Shared → Prop} {s : Shared} {K : Frag} {x C : Addr}
theorem ExcAt.ty (e : ExcAt h x C) : Looks M h (typeOf (.ref x)) (.ref C) := by
  obtain ⟨ox, a, c⟩ := e
  exact c ▸ (Looks.ld a).andThen .now
end
end Ev

set_option maxRecDepth 100000
namespace L2
open PySem PySem.Spec PyProof.Rows
/-! ### an error of an own class that leaves a def -/
/-- an error at e of the class at C, with its trace; both are younger than h0 and not tracked -/
structure Fly (h0 h : Heap) (H : Hp) (e C : Addr) : Prop where
  ex : ∃ oe vs T oT ts, h.get? e = some oe ∧ oe.cls = .ref C ∧ oe.data = .fields vs ∧ vs[1]? = some (.ref T) ∧ T ≠ e ∧ h.get? T = some oT ∧ oT.data = .fields ts ∧ ts[3]? = some .none ∧ h0.get? T = none ∧ H T = none
  new : h0.get? e = none
  off : H e = none
/-- how an error lies behind a call -/
def CX1 (P : Program) (w : World) : CXT := fun outer H s E x s' => ∃ a C H', x = .ref a ∧ s'.os = s.os ∧ AllBare s'.gens ∧ Un (frs outer) [] H H' s.heap s'.heap ∧ HOk P w H' s'.heap ∧ Fly s.heap s'.heap H' a C ∧ E (.ref C) none H'
/-- a def's body: nothing before its entry is walked, its own frame is the first -/
structure Dc (X : Cx) : Prop where
  ex : X.ex = []
  stk : X.stack = X.env :: X.outer
  fr : X.env.frame = some X.env.locals
section
variable {X : Cx} {pins : List (Addr × Obj)} {σ : St} {H : Hp} {s : Shared}
theorem Inv.untracked (I : Inv X pins σ H s) {b : Addr} (h : s.heap.get? b = none) : H b = none := by
  cases q : H b with
  | none => rfl
  | some u =>
    obtain ⟨o, e⟩ := (I.hok b u q).there
    rw [h] at e; cases e
end
end L2

set_option maxRecDepth 100000
namespace L2
open PySem PySem.Spec PyProof.Rows
/-! ### raise of an own class under ValueError -/
def bmV : List Value := [.type "ValueError", .type "Exception", .type "BaseException", .type "object"]
/-- what is known of an own error class that is raised -/
structure ErrK (K : PySem.W.Frag) (C : Addr) : Prop where
  k : Ev.ExcK K C
  ci : PySem.W.excIn K C bmV "ValueError.__new__" = true
/-- what an error of this def is to reach -/
def Throws (X : Cx) (E : XK) : Prop := ∀ e s', wpAny (model X.prog X.w) X.A (leaving X.env e) (fun _ s'' => CX1 X.prog X.w X.outer X.H₀ X.s₀ E e s'') (fun e' s'' => CX1 X.prog X.w X.outer X.H₀ X.s₀ E e' s'') s' → X.xe e s'
section
variable {X : Cx} {E : XK}
def tRaise (C : Addr) (E : XK) (te : TE) : TS := fun _ σ H => te σ H fun _ H1 => E (.ref C) none H1
end
/-! ### f-strings -/
abbrev TF := St → Hp → (Str → Hp → Prop) → Prop
def FP (X : Cx) (pins : List (Addr × Obj)) (σ : St) (Q : Str → Hp → Prop) (u : Value) (s' : Shared) : Prop := ∃ x t H', u = .str x t ∧ Inv X pins σ H' s' ∧ Q x H'
/-- a part of an f-string -/
def PF (X : Cx) (e : Expr) (t : TF) : Prop :=
  ∀ (pins : List (Addr × Obj)) (s : Shared) (σ : St) (H : Hp) (Q : Str → Hp → Prop), Inv X pins σ H s → t σ H Q → wpAny (model X.prog X.w) X.A (eval e X.env) (FP X pins σ Q) X.xe s
def PFs (X : Cx) (es : List Expr) (t : Str → TF) : Prop :=
  ∀ (acc : Str) (pins : List (Addr × Obj)) (s : Shared) (σ : St) (H : Hp) (Q : Str → Hp → Prop), Inv X pins σ H s → t acc σ H Q → wpAny (model X.prog X.w) X.A (joinParts acc (evalEach es X.env)) (FP X pins σ Q) X.xe s
section
variable {X : Cx}
def fStr (x : Str) : TF := fun _ H Q => Q x H
def txtI (a : Int) : Str := Str.ofString (toString a)
/-- {name} of an int -/
def fInt (te : TE) : TF := fun σ H Q => te σ H fun v H1 => ∃ a : Int, v = .int a ∧ a.natAbs.log2 < 1920 ∧ Q (txtI a) H1
def fNil (acc : Str) : TF := fun _ H Q => acc.length ≤ sizeLine ∧ Q acc H
def fCons (t : TF) (r : Str → TF) (acc : Str) : TF := fun σ H Q => t σ H fun y H1 => (acc ++ y).length ≤ sizeLine ∧ r (acc ++ y) σ H1 Q
def tFstr (t : Str → TF) : TE := fun σ H Q => t Str.empty σ H fun x H1 => Q (.str x) H1
end
end L2

set_option maxRecDepth 100000
namespace L2
open PySem PySem.Spec PyProof.Rows
/-! ### a def whose errors fly on -/
section
variable {P : Program} {w : World} {K : PySem.W.Frag} {mg : Str → Option Value} {base : Heap}
end
/-! ### calls within an except suite -/
/-- room, whatever is handled -/
structure RoomH (k : Nat) (A : Around) : Prop where
  dp : A.depth + 3 * k + 5 < recursionLimit
  un : A.units + 16 * k + 200 < cLine
theorem Room.h {k : Nat} {A : Around} (r : Room k A) : RoomH k A := ⟨r.dp, r.un⟩
theorem RoomH.mark {k : Nat} {A : Around} (r : RoomH k A) (e : Option Value) : RoomH k (A.mark e) := ⟨r.dp, r.un⟩
theorem RoomH.deeper {k : Nat} {A : Around} (r : RoomH (k + 1) A) (env : Env) : RoomH k (A.deeper env) :=
  ⟨by have := r.dp; show A.depth + 1 + 3 * k + 5 < _; omega, by have := r.un; show A.units + 3 + 16 * k + 200 < _; omega⟩
/-- a def that may be called while an error is handled (no error leaves it) -/
structure FnOkH (P : Program) (w : World) (K : PySem.W.Frag) (mg : Str → Option Value) (base : Heap) (k : Nat) (f : Addr) (fd : FuncData) (ps : List Str) (sp : Sp) : Prop where
  len : ∀ vs H Q E, sp vs H Q E → vs.length = ps.length
  run : ∀ (A : Around) (outer : List Env) (s : Shared) (H : Hp) (args : Args) (us : List Value) (vs : List V) (Q : VK), RoomH k A → Env0 P w K mg base A outer s H → BindsTo s fd args (ps.zip us) → Vals vs us → sp vs H Q E0 →
    codeAny (model P w) A (.call (.ref f) args) (CR CX0 outer P w H s Q E0) s
/-- its body's context -/
def cxH (P : Program) (w : World) (K : PySem.W.Frag) (mg : Str → Option Value) (base : Heap) (N : List Str) (qual : Str) (scope : Scope) (f : Addr) (cd : Value) (A : Around) (outer : List Env) (s : Shared) (H : Hp) : Cx :=
  { cxOf CX0 P w K mg base N qual scope f cd A outer s H E0 with calm := false, xe := fun _ _ => False }
section
variable {P : Program} {w : World} {K : PySem.W.Frag} {mg : Str → Option Value} {base : Heap}
end
section
variable {X : Cx} {k : Nat} {f : Addr} {fd : FuncData} {ps : List Str} {sp : Sp} {x : Str} {p pos : Pos} {e : Expr} {es : List Expr} {t : TA}
end
end L2

set_option maxRecDepth 100000
namespace L2
open PySem PySem.Spec PyProof.Rows
/-! ### the same frame seen otherwise -/
abbrev Cx.alt (X : Cx) (A : Around) (c : Bool) (pn : List (Addr × Obj)) (xe : Value → Shared → Prop) : Cx := { X with A := A, calm := c, pn := pn, xe := xe }
/-- within a try -/
abbrev Cx.tryC (X : Cx) (pn : List (Addr × Obj)) (xe : Value → Shared → Prop) : Cx := X.alt X.A X.calm pn xe
/-- within an except suite, the error at a being handled -/
abbrev Cx.hand (X : Cx) (pn : List (Addr × Obj)) (a : Addr) : Cx := X.alt (X.A.mark (some (.ref a))) false pn fun _ _ => False
/-- what an error's own objects are not -/
structure Off (X : Cx) (pins : List (Addr × Obj)) (H : Hp) (b : Addr) : Prop where
  s0 : X.s₀.heap.get? b = none
  h : H b = none
  lo : b ≠ X.env.locals
  ce : ∀ x c, X.env.cells.lookup x = some c → c ≠ b
  pi : ∀ p ∈ X.pn ++ pins, p.1 ≠ b
section
variable {X : Cx} {pins pins' : List (Addr × Obj)} {σ : St} {H H' : Hp} {s : Shared} {A : Around} {c : Bool} {pn : List (Addr × Obj)} {xe : Value → Shared → Prop}
theorem Inv.alt (I : Inv X pins σ H s) (hf : A.frames = X.A.frames) (hd : c = true → A.handled = none) (hp : ∀ p ∈ pn ++ pins', p ∈ X.pn ++ pins) : Inv (X.alt A c pn xe) pins' σ H s :=
  ⟨⟨I.ok.mod, I.ok.kind, I.ok.glob, I.ok.blt, I.ok.above, I.ok.inj, I.ok.has, I.ok.cab, hd, hf.trans I.ok.frames, I.ok.stk, I.ok.exf, I.ok.bs, I.ok.bsz, I.ok.noex, I.ok.exfs, I.ok.funs, I.ok.frf⟩, I.os, I.bare, I.base, I.loc, I.cell, I.free, I.freeC, fun p h => I.pin p (hp p h), I.hok, I.len⟩
/-- all but the error's own objects is kept, the frames up to slots -/
theorem Inv.over {hid : List Addr} {h' : Heap} (I : Inv X pins σ H s) (ho : ∀ b ∈ hid, Off X pins H b) (st : (PySem.W.hideAll s.heap (hid ++ frs X.stack)).StaysIn h') (sl : s.heap.UpToSlots h') : Inv X pins σ H { s with heap := h' } := by
  have kept : ∀ b o, b ∉ hid → b ∉ frs X.stack → s.heap.get? b = some o → h'.get? b = some o := fun b o hb hf q => st b o (PySem.W.hideAll_get _ q (by simp [hb, hf]))
  have any : ∀ b o, b ∉ hid → s.heap.get? b = some o → ∃ sl, h'.get? b = some { o with slots := sl } := fun b o hb q => by
    by_cases hf : b ∈ frs X.stack
    · obtain ⟨_, o', e', nd⟩ := I.stack.mem hf
      rw [q] at e'; cases e'
      exact sl b o q nd
    · exact ⟨o.slots, kept b o hb hf q⟩
  have noH : ∀ b o, X.s₀.heap.get? b = some o → b ∉ hid := fun b o q hb => by rw [(ho b hb).s0] at q; cases q
  have cellK : ∀ x c, X.env.cells.lookup x = some c → ∀ v, s.heap.IsCell c v → h'.IsCell c v := fun x c e v ⟨o, eo, ed⟩ => by
    obtain ⟨sl', q⟩ := any c o (fun z => (ho c z).ce x c e rfl) eo
    exact ⟨_, q, ed⟩
  refine ⟨I.ok, I.os, I.bare, ⟨fun b o q n hb hx => ?_, fun b o q n hb hx => ?_, I.base.free, fun b o q hx => ?_, I.base.tups, I.base.frzs, I.base.tbls⟩, ?_, fun x c e => ?_, I.free, I.freeC, fun p hp => ?_, fun b u q => ?_, I.len⟩
  · refine kept b o (noH b o q) (fun z => ?_) (I.base.keep b o q n hb hx)
    rcases List.mem_cons.mp (I.stkSub b z) with r | r
    · exact absurd r (Nat.ne_of_lt (Nat.lt_of_lt_of_le (Heap.lt_size q) I.ok.above))
    · exact hb r
  · obtain ⟨sl1, e1⟩ := I.base.slot b o q n hb hx
    obtain ⟨sl2, e2⟩ := any b _ (noH b o q) e1
    exact ⟨sl2, e2⟩
  · obtain ⟨o1, e1⟩ := I.base.there b o q hx
    obtain ⟨sl2, e2⟩ := any b o1 (noH b o q) e1
    exact ⟨_, e2⟩
  · obtain ⟨m, hn, hl⟩ := I.loc
    refine ⟨m, sl.ns hn, fun i x v e1 e2 e3 => ?_⟩
    obtain ⟨u, r, l⟩ := hl i x v e1 e2 e3
    refine ⟨u, r, ?_⟩
    rcases l with l | ⟨k, c, e, z⟩
    · exact .inl l
    · exact .inr ⟨k, c, e, cellK x c e _ z⟩
  · obtain ⟨v, z⟩ := I.cell x c e
    exact ⟨v, cellK x c e v z⟩
  · obtain ⟨e, n, ne, nf, dd⟩ := I.pin p hp
    refine ⟨kept p.1 p.2 (fun z => (ho p.1 z).pi p hp rfl) (fun z => ?_) e, n, ne, nf, dd⟩
    rcases List.mem_cons.mp (I.stkSub p.1 z) with r | r
    · exact ne r
    · exact nf r
  · refine (I.hok b u q).stay (fun c v hc z => kept c v (fun w' => ?_) (fun w' => ?_) z) (fun _ z => z) fun _ _ z => z
    · have n := (ho c w').h
      rcases hc with r | r
      · rw [r, q] at n; cases n
      · rw [r] at n; cases n
    · have n := I.stkFree c w'
      rcases hc with r | r
      · rw [r, q] at n; cases n
      · rw [r] at n; cases n
end
/-! ### try: .. except D as n: .. -/
def tTry (K : PySem.W.Frag) (DA : Addr) (len : Nat) (tb : XK → TS) (th : TS) (i : Nat) : TS := fun D σ H =>
  tb (fun C _ H' => PySem.W.exmOne K C (.ref DA) = some true ∧ ∀ (σ' : St) (e Ca : Addr), C = .ref Ca → σ'.length = len → H' e = none →
    th { nx := fun σ2 H2 => D.nx (σ2.set i none) H2, rt := D.rt, bk := fun σ2 H2 => D.bk (σ2.set i none) H2, ct := fun σ2 H2 => D.ct (σ2.set i none) H2 } (σ'.set i (some (.ref e))) (upd H' e (.ext fun h => Ev.ExcAt h e Ca))) D σ H
section
variable {X : Cx}
end
end L2

set_option maxRecDepth 100000
namespace L2
open PySem PySem.Spec PyProof.Rows
/-! ### for .. in enumerate(a list) -/
def Ite (K : PySem.W.Frag) (a : Addr) : It :=
  ⟨fun i H => ∃ xs x, SqL K H a xs ∧ xs[i]? = some x, fun i H x H' => ∃ p y, H p = none ∧ x = .ref p ∧ H' = upd H p (.tup [.int (i : Int), y]) ∧ ∀ xs, SqL K H a xs → xs[i]? = some y, fun i H => ∃ xs, SqL K H a xs ∧ xs.length ≤ i⟩
def iEnum (K : PySem.W.Frag) (ta : TA) : TI := fun σ H R => ta σ H fun vs H1 => ∃ a, vs = [.ref a] ∧ (∃ xs, SqL K H1 a xs) ∧ R (Ite K a) H1
end L2

set_option maxRecDepth 100000
namespace L2
open PySem PySem.Spec PyProof.Rows
/-! ### != of lists and tuples -/
section
variable {X : Cx} {pins : List (Addr × Obj)} {σ : St} {H : Hp} {s : Shared}
open PySem.SeqAt in
theorem neAt_lists (I : Inv X pins σ H s) {n : Nat} {A : Around} (hu : A.units + n + 1 < cLine) {l m : List T} {a b : Addr} (hd : deeps l ≤ n) (h1 : Rep X.K H (.lst l) (.ref a)) (h2 : Rep X.K H (.lst m) (.ref b)) : RcNeAt A s (.ref a) (.ref b) (!eqTs l m) := by
  simp only [Rep] at h1 h2
  obtain ⟨_, xs, e1, hq, hr⟩ := h1
  cases e1
  obtain ⟨_, ys, e2, hq2, hr2⟩ := h2
  cases e2
  obtain ⟨its, rv, p, hz⟩ := I.list hq
  obtain ⟨its2, rv2, p2, hz2⟩ := I.list hq2
  have l1 := hr.len
  have l2 := hr2.len
  have l3 := rv.length
  have l4 := rv2.length
  by_cases hl : l.length = m.length
  · have z := RcNeAt.lists (A := A) p.isList p2.isList (by rw [List.size_toArray, List.size_toArray]; omega) (by omega) (eqAt_items I (A := A.in1) (n := n) (by show A.units + 1 + n < cLine; omega) hd hr hr2 rv rv2)
    have e : (List.range its.toArray.size).all (fun j => eqT (l.getD j .non) (m.getD j .non)) = eqTs l m := by rw [List.size_toArray, ← l3, ← l1, eqTs_all hl]
    rw [e] at z
    exact z
  · rw [eqTs_len hl]
    exact RcNeAt.lists_lengths p.isList p2.isList (by rw [List.size_toArray, List.size_toArray]; simp only [bne_iff_ne]; omega) (by omega)
open PySem.SeqAt in
end
section
variable {X : Cx}
theorem op_neL (hu : X.A.units + 30 < cLine) : OpR X (compareOp .NotEq) (fun x y H Q => ∃ l m, Rep X.K H (.lst l) x ∧ Rep X.K H (.lst m) y ∧ deeps l ≤ 20 ∧ Q (.bl (!eqTs l m)) H) := by
  intro pins s σ H x y v u Q I rx ry h
  obtain ⟨l, m, h1, h2, hd, q⟩ := h
  obtain ⟨a, _, rfl, _⟩ := (show ∃ a xs, x = .ref a ∧ _ from by simpa only [Rep] using h1)
  obtain ⟨b, _, rfl, _⟩ := (show ∃ a xs, y = .ref a ∧ _ from by simpa only [Rep] using h2)
  cases rx
  cases ry
  exact neAt_lists I (n := 20) (by omega) hd h1 h2 X.prog X.w X.xe _ ⟨.bl _, H, I, rfl, q⟩
end
/-! ### list(reversed(a list)) -/
section
variable {prog : Program} {w : World} {A : Around} {E : Value → Shared → Prop} {s : Shared}
end
section
variable {X : Cx}
def tListRev (K : PySem.W.Frag) (te : TE) : TE := fun σ H Q => te σ H fun x H1 => ∃ l ys, x = .ref l ∧ SqL K H1 l ys ∧ ys.length ≤ 1000 ∧ ∀ d, H1 d = none → Q (.ref d) (upd H1 d (.lst ys.reverse))
end
end L2

set_option maxRecDepth 100000
namespace Mi
/-- the first fault of the ways: 4, 5, or none -/
def wf (n last : Int) : List Int → Int
  | [] => -1
  | w :: r => if w < 0 ∨ n ≤ w then 4 else if w ≤ last then 5 else wf n w r
def fault (n : Int) : List Room → Int
  | [] => -1
  | r :: t => if r.2.2 = [] then 6 else if wf n (-1) r.2.2 = -1 then fault n t else wf n (-1) r.2.2
end Mi
namespace L2
open PySem
theorem ifeqT {a b : Int} {A B : Prop} (h : a = b) (x : A) : if decide (V.int a = V.int b) = true then A else B := by rw [h, decide_eq_true rfl]; exact iteT x
theorem ifeqF {a b : Int} {A B : Prop} (h : a ≠ b) (x : B) : if decide (V.int a = V.int b) = true then A else B := by rw [decide_eq_false (fun z => h (by injection z))]; exact iteF x
theorem ifeq2 {a b : Int} {A B : Prop} (x : a = b → A) (y : a ≠ b → B) : if decide (V.int a = V.int b) = true then A else B := by
  by_cases h : a = b
  · exact ifeqT h (x h)
  · exact ifeqF h (y h)
theorem Same.tup {K : PySem.W.Frag} {H H' : Hp} {a : Addr} {xs : List V} (e : Same H H') (h : SqT K H a xs) : SqT K H' a xs := by
  rcases h with (h | ⟨o, h⟩) | h
  · exact .inl (.inl (e _ _ h))
  · exact .inl (.inr ⟨o, e _ _ h⟩)
  · exact .inr h
section
variable {X : Cx}
end
end L2
namespace L2
open PySem
theorem RoomH.mono {j k : Nat} {A : PySem.Around} (r : RoomH k A) (h : j ≤ k) : RoomH j A := ⟨by have := r.dp; omega, by have := r.un; omega⟩
theorem Reps.nil {K : PySem.W.Frag} {H : Hp} : Reps K H [] [] := by simp [Reps]
theorem drop_at {α : Type} {l : List α} {i : Nat} {x : α} (h : l[i]? = some x) : l.drop i = x :: l.drop (i + 1) := by
  obtain ⟨hi, e⟩ := List.getElem?_eq_some_iff.mp h
  rw [List.drop_eq_getElem_cons hi, e]
/-- what the law asks of an error: its place -/
def bools (p : Int) : List V := ((List.range 7).map fun (k : Nat) => V.bl (decide ((k : Int) = p))) ++ [.bl true]
/-- what the classes of refusals are known by: c 0 .. c 6 in the law's order -/
structure Errs (K : PySem.W.Frag) (mg : PySem.Str → Option PySem.Value) (D : PySem.Addr) (c : Nat → PySem.Addr) (used : List Nat) : Prop where
  gD : mg "DuelError" = some (.ref D)
  g0 : mg "Again" = some (.ref (c 0))
  g1 : mg "BadMove" = some (.ref (c 1))
  g2 : mg "BadText" = some (.ref (c 2))
  g3 : mg "Free" = some (.ref (c 3))
  g4 : mg "NoRoom" = some (.ref (c 4))
  g5 : mg "NotRising" = some (.ref (c 5))
  g6 : mg "NoWay" = some (.ref (c 6))
  gV : mg "ValueError" = none
  k : ∀ p ∈ used, ErrK K (c p)
  m : ∀ p ∈ used, PySem.W.exmOne K (.ref (c p)) (.ref D) = some true
  i : ∀ p ∈ used, ∀ q < 7, PySem.W.kitOne K (.ref (c p)) (.ref (c q)) = some (decide (q = p))
  v : ∀ p ∈ used, PySem.W.kitOne K (.ref (c p)) (.type "ValueError") = some true
end L2
namespace Mi
theorem put_len (x : Int) : ∀ l : List Int, (put x l).length ≤ l.length + 1
  | [] => by simp [put]
  | y :: r => by
    unfold put
    split
    · simp
    · split
      · simp
      · have := put_len x r
        simp only [List.length_cons]
        omega
theorem sset_len : ∀ l : List Int, (sset l).length ≤ l.length
  | [] => by simp [sset]
  | x :: r => by
    have h1 := put_len x (sset r)
    have h2 := sset_len r
    simp only [sset, List.length_cons]
    omega
theorem ways_len {c m : Int} (h1 : 0 < m) (h2 : m ≤ 80) : (ways c m).length ≤ 80 := by
  unfold ways
  split
  · have := Int.emod_nonneg (c / 32) (show m ≠ 0 by omega)
    rw [List.length_map, List.length_range]
    omega
  · have := sset_len (([c / 32 % m, c / 2560 % m, c / 204800 % m] : List Int).take (1 + c / 16 % 3).toNat)
    have h3 : (([c / 32 % m, c / 2560 % m, c / 204800 % m] : List Int).take (1 + c / 16 % 3).toNat).length ≤ 3 := by simp; omega
    omega
end Mi
namespace L2
open PySem
def roomT (r : Mi.Room) : T := .tup [.int r.1, .int r.2.1, .tup (r.2.2.map T.int)]
def boolsT (p : Int) : List T := ((List.range 7).map fun (k : Nat) => T.bl (decide ((k : Int) = p))) ++ [.bl true]
theorem Paired.set {F : Mi.Room → V → Prop} {r : Mi.Room} {v : V} (h : F r v) : ∀ {l : List Mi.Room} {vs : List V} (i : Nat), Paired F l vs → Paired F (l.set i r) (vs.set i v)
  | _, _, _, .nil => .nil
  | _, _, 0, .cons _ t => .cons h t
  | _, _, i + 1, .cons a t => .cons a (Paired.set h i t)
end L2
namespace L2
open PySem
/-- a room of the hall is put in another's place -/
theorem HallAt.put {H : Hp} {l : Addr} {hs : List Mi.Room} {vs : List V} {r : Mi.Room} {v : V} {j : Nat} (e : H l = some (.lst vs)) (p : Paired (RoomAt H) hs vs) (h : RoomAt H r v) : HallAt (upd H l (.lst (vs.set j v))) l (hs.set j r) := by
  have k : ∀ b xs, H b = some (.tup xs) → (upd H l (.lst (vs.set j v))) b = some (.tup xs) := fun b xs q => by rw [upd_ne (ne_of q e (by intro z; cases z))]; exact q
  exact ⟨_, upd_same, Paired.set (h.tups k) j (rooms_tups p k)⟩
theorem Scr.lst {K : PySem.W.Frag} {H : Hp} {a l : Addr} {ns : List Int} {xs ys : List V} (h : Scr K H a ns) (e : H l = some (.lst xs)) : Scr K (upd H l (.lst ys)) a ns := h.keep e samex_upd
end L2
namespace L2
open PySem PySem.W
/-- all that is asked of the p-th class, by one look -/
def errOk (K : Frag) (D : Addr) (c : List Addr) (p : Nat) : Bool :=
  let C := c.getD p 0
  (findIn K (.ref C) "__getattribute__" == some (some (.builtin "BaseException.__getattribute__"))) && (findIn K (.ref C) "__getattr__" == some none) && (findIn K (.ref C) "__class__" == some (some (.builtin "object.__class__"))) &&
  (mroIn K C (.type "object") == some true) && (mroIn K C (.type "BaseException") == some true) && (specialIn K (.builtin "object.__class__") "__get__" == some (some (.builtin "getset_descriptor.__get__"))) && (takesIn K (.builtin "object.__class__") == some true) && (clsIn K C).isSome &&
  excIn K C bmV "ValueError.__new__" && (exmOne K (.ref C) (.ref D) == some true) && (kitOne K (.ref C) (.type "ValueError") == some true) && (List.range 7).all fun q => kitOne K (.ref C) (.ref (c.getD q 0)) == some (decide (q = p))
end L2

set_option maxRecDepth 100000
namespace L2
open PySem
/-! ### statements -/
inductive Sy where
  | y0 (b : Bool) | mk (b : Bool) (x : Str) | nm (x : Str) | st (b : Bool) (s : Sy) | pr (b : Bool) (s t : Sy) | bn (b : Bool) (x : Str) (s : Sy)
namespace Sy
def k0 : Bool → Str | true => "yes" | false => "no"
def k1 : Bool → Str | true => "mark" | false => "unmark"
def k2 : Bool → Str | true => "some" | false => "every"
def k3 : Bool → Str | true => "both" | false => "either"
def k4 : Bool → Str | true => "least" | false => "most"
def kind : Sy → Str
  | y0 b => k0 b | mk b _ => k1 b | nm _ => "name" | st b _ => k2 b | pr b _ _ => k3 b | bn b _ _ => k4 b
def subs : Sy → List Sy
  | st _ s => [s] | pr _ s t => [s, t] | bn _ _ s => [s] | _ => []
def size : Sy → Nat
  | st _ s => s.size + 1 | pr _ s t => s.size + t.size + 1 | bn _ _ s => s.size + 1 | _ => 1
def depth : Sy → Nat
  | st _ s => s.depth + 1 | pr _ s t => max s.depth t.depth + 1 | bn _ _ s => s.depth + 1 | _ => 1
def names : List Str := ["X", "Y", "Z", "U"]
def marks : List Str := ["p", "q", "r"]
/-- every name is bound, none twice -/
def ok : List Str → Sy → Prop
  | _, y0 _ => True | _, mk _ x => x ∈ marks | B, nm x => x ∈ B | B, st _ s => s.ok B | B, pr _ s t => s.ok B ∧ t.ok B | B, bn _ x s => x ∉ B ∧ x ∈ names ∧ s.ok (B ++ [x])
def faults : List Str → Sy → List Nat
  | _, y0 _ => [] | _, mk _ _ => [] | B, nm x => if x ∈ B then [] else [3] | B, st _ s => s.faults B | B, pr _ s t => s.faults B ++ t.faults B
  | B, bn _ x s => (if x ∈ B then [0] else []) ++ s.faults (B ++ [x])
def t : Sy → T
  | y0 b => .tup [.str (k0 b)] | mk b x => .tup [.str (k1 b), .str x] | nm x => .tup [.str "name", .str x] | st b s => .tup [.str (k2 b), s.t] | pr b s u => .tup [.str (k3 b), s.t, u.t] | bn b x s => .tup [.str (k4 b), .str x, s.t]
theorem depth_subs {s u : Sy} (h : u ∈ s.subs) : u.depth + 1 ≤ s.depth := by
  cases s <;> simp [subs] at h
  · subst h; simp [depth]
  · rcases h with rfl | rfl <;> simp [depth] <;> omega
  · subst h; simp [depth]
theorem depth_pos (s : Sy) : 1 ≤ s.depth := by cases s <;> simp [depth]
end Sy
def SyAt (H : Hp) : Sy → V → Prop
  | .y0 b, v => ∃ a, v = .ref a ∧ H a = some (.tup [.str (Sy.k0 b)])
  | .mk b x, v => ∃ a, v = .ref a ∧ H a = some (.tup [.str (Sy.k1 b), .str x])
  | .nm x, v => ∃ a, v = .ref a ∧ H a = some (.tup [.str "name", .str x])
  | .st b s, v => ∃ a u, v = .ref a ∧ H a = some (.tup [.str (Sy.k2 b), u]) ∧ SyAt H s u
  | .pr b s t, v => ∃ a u u', v = .ref a ∧ H a = some (.tup [.str (Sy.k3 b), u, u']) ∧ SyAt H s u ∧ SyAt H t u'
  | .bn b x s, v => ∃ a u, v = .ref a ∧ H a = some (.tup [.str (Sy.k4 b), .str x, u]) ∧ SyAt H s u
theorem SyAt.imp {H H' : Hp} (k : ∀ a xs, H a = some (.tup xs) → H' a = some (.tup xs)) : ∀ {s : Sy} {v : V}, SyAt H s v → SyAt H' s v
  | .y0 _, _, ⟨a, e, h⟩ => ⟨a, e, k _ _ h⟩
  | .mk _ _, _, ⟨a, e, h⟩ => ⟨a, e, k _ _ h⟩
  | .nm _, _, ⟨a, e, h⟩ => ⟨a, e, k _ _ h⟩
  | .st _ _, _, ⟨a, u, e, h, r⟩ => ⟨a, u, e, k _ _ h, SyAt.imp k r⟩
  | .pr _ _ _, _, ⟨a, u, u', e, h, r, r'⟩ => ⟨a, u, u', e, k _ _ h, SyAt.imp k r, SyAt.imp k r'⟩
  | .bn _ _ _, _, ⟨a, u, e, h, r⟩ => ⟨a, u, e, k _ _ h, SyAt.imp k r⟩
theorem SyAt.same {H H' : Hp} {s : Sy} {v : V} (h : SyAt H s v) (k : Same H H') : SyAt H' s v := h.imp fun a xs e => k a _ e
theorem SyAt.keep {H H' : Hp} {s : Sy} {v : V} {p : Addr} {xs : List V} (h : SyAt H s v) (hp : H p = some (.lst xs)) (k : SameX p H H') : SyAt H' s v := h.imp fun a ys e => k a _ e fun z => by rw [z, hp] at e; cases e
/-- what stands behind the kind: texts and statements -/
inductive Sarg where
  | tx (x : Str) | sy (s : Sy)
def SargAt (H : Hp) : Sarg → V → Prop
  | .tx x, v => v = .str x
  | .sy s, v => SyAt H s v
namespace Sy
def args : Sy → List Sarg
  | y0 _ => [] | mk _ x => [.tx x] | nm x => [.tx x] | st _ s => [.sy s] | pr _ s t => [.sy s, .sy t] | bn _ x s => [.tx x, .sy s]
end Sy
def Sarg.subs : List Sarg → List Sy
  | [] => [] | .tx _ :: r => Sarg.subs r | .sy s :: r => s :: Sarg.subs r
theorem Sarg.subs_args (s : Sy) : Sarg.subs s.args = s.subs := by cases s <;> rfl
theorem Sarg.subs_app : ∀ (l m : List Sarg), Sarg.subs (l ++ m) = Sarg.subs l ++ Sarg.subs m
  | [], _ => rfl
  | .tx _ :: r, m => by rw [List.cons_append, Sarg.subs, Sarg.subs, Sarg.subs_app r m]
  | .sy _ :: r, m => by rw [List.cons_append, Sarg.subs, Sarg.subs, Sarg.subs_app r m, List.cons_append]
theorem SargAt.same {H H' : Hp} {s : Sarg} {v : V} (h : SargAt H s v) (k : Same H H') : SargAt H' s v := by
  cases s with
  | tx x => exact h
  | sy s => exact SyAt.same h k
theorem SyAt.args {H : Hp} {s : Sy} {v : V} (h : SyAt H s v) : ∃ a xs, v = .ref a ∧ H a = some (.tup (.str s.kind :: xs)) ∧ Paired (SargAt H) s.args xs := by
  cases s with
  | y0 b => obtain ⟨a, e, h⟩ := h; exact ⟨a, [], e, h, .nil⟩
  | mk b x => obtain ⟨a, e, h⟩ := h; exact ⟨a, _, e, h, .cons rfl .nil⟩
  | nm x => obtain ⟨a, e, h⟩ := h; exact ⟨a, _, e, h, .cons rfl .nil⟩
  | st b s => obtain ⟨a, u, e, h, r⟩ := h; exact ⟨a, _, e, h, .cons r .nil⟩
  | pr b s t => obtain ⟨a, u, u', e, h, r, r'⟩ := h; exact ⟨a, _, e, h, .cons r (.cons r' .nil)⟩
  | bn b x s => obtain ⟨a, u, e, h, r⟩ := h; exact ⟨a, _, e, h, .cons rfl (.cons r .nil)⟩
theorem SyAt.tup {H : Hp} {s : Sy} {v : V} (h : SyAt H s v) : ∃ a xs, v = .ref a ∧ H a = some (.tup xs) := by
  obtain ⟨a, xs, e, h, _⟩ := h.args
  exact ⟨a, _, e, h⟩
theorem pair_backG {α : Type} {F : α → V → Prop} : ∀ {l : List α} {vs : List V}, Paired F l vs → ∀ {i : Nat} {v : V}, vs[i]? = some v → ∃ r, l[i]? = some r ∧ F r v
  | _, _, .nil, i, v, e => by simp at e
  | _, _, .cons h t, 0, v, e => by simp at e; subst e; exact ⟨_, rfl, h⟩
  | _, _, .cons h t, i + 1, v, e => pair_backG t (i := i) (by simpa using e)
theorem pair_snoc {α : Type} {F : α → V → Prop} {a : α} {v : V} (h : F a v) : ∀ {l : List α} {vs : List V}, Paired F l vs → Paired F (l ++ [a]) (vs ++ [v])
  | _, _, .nil => .cons h .nil
  | _, _, .cons g t => .cons g (pair_snoc h t)
theorem ifS {a b : Str} {A B : Prop} (x : a = b → A) (y : a ≠ b → B) : if decide (V.str a = V.str b) = true then A else B := by
  by_cases h : a = b
  · rw [decide_eq_true (by rw [h])]; exact iteT (x h)
  · rw [decide_eq_false (fun z => h (by injection z))]; exact iteF (y h)
theorem inS (x : Str) : ∀ B : List Str, inV (.str x) (B.map V.str) = decide (x ∈ B)
  | [] => by simp [inV]
  | y :: B => by
    have ih := inS x B
    unfold inV at ih ⊢
    rw [List.map_cons, List.any_cons, ih]
    show (y == x || decide (x ∈ B)) = decide (x ∈ y :: B)
    rw [Bool.eq_iff_iff]
    simp only [Bool.or_eq_true, beq_iff_eq, decide_eq_true_eq, List.mem_cons]
    constructor
    · rintro (h | h)
      · exact .inl h.symm
      · exact .inr h
    · rintro (h | h)
      · exact .inl h.symm
      · exact .inr h
theorem flatS : ∀ B : List Str, (B.map V.str).all flatV = true
  | [] => rfl
  | y :: B => by rw [List.map_cons, List.all_cons, flatS B]; rfl
end L2

set_option maxRecDepth 100000
set_option maxHeartbeats 4000000
namespace L2
open PySem
theorem slice1 {k : V} {xs : List V} : cutV (k :: xs) (some 1) none = xs := by
  unfold cutV
  simp [HT.sIx]
theorem slice1n {k : V} {xs : List V} : ¬ (HT.sIx (k :: xs).length 0 (some 1) = 0 ∧ HT.sIx (k :: xs).length (k :: xs).length none = (k :: xs).length) := by
  simp [HT.sIx]
theorem args_le (s : Sy) : s.args.length ≤ 2 := by cases s <;> simp [Sy.args]
end L2
namespace L2
namespace Sy
theorem kind_name {s : Sy} (h : s.kind = "name") : ∃ x, s = .nm x := by
  cases s with
  | nm x => exact ⟨x, rfl⟩
  | y0 b => cases b <;> exact absurd h (by simp only [kind]; decide)
  | mk b x => cases b <;> exact absurd h (by simp only [kind]; decide)
  | st b x => cases b <;> exact absurd h (by simp only [kind]; decide)
  | pr b x y => cases b <;> exact absurd h (by simp only [kind]; decide)
  | bn b x y => cases b <;> exact absurd h (by simp only [kind]; decide)
theorem kind_bind {s : Sy} (h : s.kind ∈ (["least", "most"] : List PySem.Str)) : ∃ b x u, s = .bn b x u := by
  cases s with
  | nm x => exact absurd h (by simp only [kind]; decide)
  | y0 b => cases b <;> exact absurd h (by simp only [kind]; decide)
  | mk b x => cases b <;> exact absurd h (by simp only [kind]; decide)
  | st b x => cases b <;> exact absurd h (by simp only [kind]; decide)
  | pr b x y => cases b <;> exact absurd h (by simp only [kind]; decide)
  | bn b x y => exact ⟨b, x, y, rfl⟩
theorem bind_kind (b : Bool) : k4 b ∈ (["least", "most"] : List PySem.Str) := by cases b <;> decide
end Sy
theorem at0 {x : V} {xs : List V} : atI (x :: xs) 0 = some x := atI_nat (j := 0) rfl
theorem at1 {x y : V} {xs : List V} : atI (x :: y :: xs) 1 = some y := atI_nat (j := 1) rfl
theorem at2 {x y z : V} {xs : List V} : atI (x :: y :: z :: xs) 2 = some z := atI_nat (j := 2) rfl
end L2
namespace L2
open PySem
theorem Reps.str {K : PySem.W.Frag} {H : Hp} : ∀ ns : List Str, Reps K H (ns.map T.str) (ns.map V.str)
  | [] => by simp [Reps]
  | n :: r => by simp only [List.map_cons, Reps, Rep]; exact ⟨trivial, Reps.str r⟩
theorem deeps_str : ∀ ns : List Str, deeps (ns.map T.str) = 0
  | [] => rfl
  | n :: r => by simp [deeps, deep, deeps_str r]
theorem eqTs_nilS (ws : List Str) : eqTs (ws.map T.str) [] = decide (ws = []) := by cases ws <;> simp [eqTs]
theorem pick0 (n : Int) {x y : V} : atI [x, y] (n % 2) = some (if n % 2 = 0 then x else y) := by
  rcases Int.emod_two_eq n with e | e <;> rw [e] <;> rfl
theorem pickK2 (n : Int) : atI [V.str "some", V.str "every"] (n % 2) = some (V.str (Sy.k2 (decide (n % 2 = 0)))) := by
  rcases Int.emod_two_eq n with e | e <;> rw [e] <;> rfl
theorem pickK3 (n : Int) : atI [V.str "both", V.str "either"] (n % 2) = some (V.str (Sy.k3 (decide (n % 2 = 0)))) := by
  rcases Int.emod_two_eq n with e | e <;> rw [e] <;> rfl
theorem pickK4 (n : Int) : atI [V.str "least", V.str "most"] (n % 2) = some (V.str (Sy.k4 (decide (n % 2 = 0)))) := by
  rcases Int.emod_two_eq n with e | e <;> rw [e] <;> rfl
theorem pickK1 (n : Int) : atI [V.str "mark", V.str "unmark"] (n % 2) = some (V.str (Sy.k1 (decide (n % 2 = 0)))) := by
  rcases Int.emod_two_eq n with e | e <;> rw [e] <;> rfl
theorem pickS {xs : List Str} {i : Int} (h0 : 0 ≤ i) (h1 : i < (xs.length : Int)) : ∃ x, x ∈ xs ∧ atI (xs.map V.str) i = some (V.str x) := by
  obtain ⟨j, rfl⟩ := Int.eq_ofNat_of_zero_le h0
  have hj : j < xs.length := by omega
  exact ⟨xs[j], List.getElem_mem hj, atI_nat (by rw [List.getElem?_map, List.getElem?_eq_getElem hj]; rfl)⟩
theorem pickM (n : Int) : ∃ c, atI (Str.ofString "pqr").cps.toList (n % 3) = some c ∧ (⟨#[c]⟩ : Str) ∈ Sy.marks := by
  have h0 := Int.emod_nonneg n (show (3 : Int) ≠ 0 by decide)
  have h3 := Int.emod_lt_of_pos n (show (0 : Int) < 3 by decide)
  rcases (show n % 3 = 0 ∨ n % 3 = 1 ∨ n % 3 = 2 by omega) with e | e | e <;> rw [e]
  · exact ⟨112, by decide +kernel, by decide +kernel⟩
  · exact ⟨113, by decide +kernel, by decide +kernel⟩
  · exact ⟨114, by decide +kernel, by decide +kernel⟩
end L2
namespace L2
open PySem
theorem keepS {H H' : Hp} {b p : Addr} {B : List Str} {x y : Int} (h : H b = some (.lst (B.map V.str))) (hp : H p = some (.lst [.int x, .int y])) (k : SameX p H H') : H' b = some (.lst (B.map V.str)) := by
  refine k _ _ h fun z => ?_
  rw [z, hp] at h
  injection h with h
  injection h with h
  cases B with
  | nil => cases h
  | cons u r => injection h with h; cases h
theorem SameX.after {p : Addr} {H H1 H2 : Hp} (a : SameX p H H1) (b : Same H1 H2) : SameX p H H2 := fun c o h hc => b c o (a c o h hc)
end L2
namespace L2
open PySem
def natV (n : Nat) : V := .int (n : Int)
end L2

set_option maxRecDepth 100000
/-! ### where a statement holds in a world of N places -/
namespace L2
open PySem
structure Wo (N : Nat) where
  ma : Fin N → Str
  ws : Fin N → List (Fin N)
abbrev Tr (N : Nat) := Fin N → Bool
abbrev En (N : Nat) := Str → Tr N
namespace Se
variable {N : Nat}
def inM (x m : Str) : Bool := !(Builtin.Str.occurrences m x 0 m.length 1).isEmpty
def put (e : En N) (x : Str) (t : Tr N) : En N := fun y => if y = x then t else e y
def it (F : Tr N → Tr N) : Nat → Tr N → Tr N
  | 0, t => t
  | n + 1, t => F (it F n t)
def hold (W : Wo N) : Sy → En N → Tr N
  | .y0 b, _ => fun _ => b
  | .mk b x, _ => fun i => inM x (W.ma i) == b
  | .nm x, e => e x
  | .st b s, e => fun i => if b = true then (W.ws i).any (hold W s e) else (W.ws i).all (hold W s e)
  | .pr b s t, e => fun i => if b = true then hold W s e i && hold W t e i else hold W s e i || hold W t e i
  | .bn b x s, e => it (fun t => hold W s (put e x t)) N (fun _ => !b)
def le (f g : Tr N) : Prop := ∀ i, f i = true → g i = true
theorem it_mono {F G : Tr N → Tr N} (h : ∀ t u, le t u → le (F t) (G u)) {t : Tr N} : ∀ n, le (it F n t) (it G n t)
  | 0 => fun _ h => h
  | n + 1 => h _ _ (it_mono h n)
theorem put_le {e e' : En N} {x : Str} {t u : Tr N} (h : ∀ y, le (e y) (e' y)) (ht : le t u) : ∀ y, le (put e x t y) (put e' x u y) := fun y => by
  unfold put
  split
  · exact ht
  · exact h y
theorem mono (W : Wo N) : ∀ (s : Sy) {e e' : En N}, (∀ x, le (e x) (e' x)) → le (hold W s e) (hold W s e')
  | .y0 _, _, _, _ => fun _ h => h
  | .mk _ _, _, _, _ => fun _ h => h
  | .nm x, _, _, h => h x
  | .st b s, e, e', h => fun i hi => by
    have ih := mono W s h
    simp only [hold] at hi ⊢
    split at hi
    · rename_i hb
      rw [if_pos hb]
      obtain ⟨j, hj, z⟩ := List.any_eq_true.mp hi
      exact List.any_eq_true.mpr ⟨j, hj, ih j z⟩
    · rename_i hb
      rw [if_neg hb]
      exact List.all_eq_true.mpr fun j hj => ih j (List.all_eq_true.mp hi j hj)
  | .pr b s t, e, e', h => fun i hi => by
    have i1 := mono W s h i
    have i2 := mono W t h i
    simp only [hold] at hi ⊢
    split at hi
    · rename_i hb
      rw [if_pos hb]
      rw [Bool.and_eq_true] at hi ⊢
      exact ⟨i1 hi.1, i2 hi.2⟩
    · rename_i hb
      rw [if_neg hb]
      rw [Bool.or_eq_true] at hi ⊢
      exact hi.imp i1 i2
  | .bn b x s, e, e', h => it_mono (fun t u ht => mono W s (put_le h ht)) N
/-- the one grows, the other shrinks -/
def leB (b : Bool) (f g : Tr N) : Prop := ∀ i, f i = b → g i = b
theorem leB_of {b : Bool} {F : Tr N → Tr N} (h : ∀ t u, le t u → le (F t) (F u)) {t u : Tr N} (ht : leB b t u) : leB b (F t) (F u) := by
  cases b with
  | true => exact h t u ht
  | false =>
    have ht' : le u t := fun i z => by
      cases e : t i with
      | true => rfl
      | false => rw [ht i e] at z; cases z
    intro i z
    have := h u t ht' i
    cases e : F u i with
    | false => rfl
    | true => rw [this e] at z; cases z
theorem chain {b : Bool} {F : Tr N → Tr N} (h : ∀ t u, le t u → le (F t) (F u)) : ∀ n, leB b (it F n fun _ => !b) (it F (n + 1) fun _ => !b)
  | 0 => fun i z => by
    have z' : (!b) = b := z
    cases b <;> cases z'
  | n + 1 => leB_of h (chain h n)
def left (b : Bool) (f : Tr N) : Nat := (List.finRange N).countP fun i => f i == !b
theorem countP_lt {α : Type} {p q : α → Bool} : ∀ {l : List α}, (∀ x, p x = true → q x = true) → (∃ x ∈ l, q x = true ∧ p x = false) → l.countP p < l.countP q
  | [], _, ⟨x, hx, _⟩ => by cases hx
  | y :: l, h, ⟨x, hx, h1, h2⟩ => by
    rcases List.mem_cons.mp hx with e | hx
    · subst e
      rw [List.countP_cons_of_neg (by simp [h2]), List.countP_cons_of_pos h1]
      exact Nat.lt_succ_of_le (List.countP_mono_left fun x _ => h x)
    · have ih := countP_lt (l := l) h ⟨x, hx, h1, h2⟩
      rw [List.countP_cons, List.countP_cons]
      by_cases hp : p y = true
      · rw [if_pos hp, if_pos (h y hp)]; omega
      · rw [if_neg hp]; omega
theorem left_lt {b : Bool} {f g : Tr N} (h : leB b f g) (hne : g ≠ f) : left b g < left b f := by
  refine countP_lt (fun i z => ?_) ?_
  · have z' : g i = !b := by simpa using z
    have : f i ≠ b := fun e => by rw [h i e] at z'; cases b <;> cases z'
    cases e : f i <;> cases b <;> simp_all
  · have : ∃ i, g i ≠ f i := Classical.byContradiction fun n => hne (funext fun i => Classical.byContradiction fun z => n ⟨i, z⟩)
    obtain ⟨i, hi⟩ := this
    refine ⟨i, List.mem_finRange i, ?_, ?_⟩
    · have : f i ≠ b := fun e => hi ((h i e).trans e.symm)
      cases e : f i <;> cases b <;> simp_all
    · have : f i ≠ b := fun e => hi ((h i e).trans e.symm)
      cases e : f i <;> cases e2 : g i <;> cases b <;> simp_all
theorem left_le (b : Bool) (f : Tr N) : left b f ≤ N := by
  unfold left
  exact Nat.le_trans List.countP_le_length (by simp)
theorem it_stay {F : Tr N → Tr N} {t : Tr N} {n : Nat} (h : it F (n + 1) t = it F n t) : ∀ m, it F (n + m) t = it F n t
  | 0 => rfl
  | m + 1 => by
    show F (it F (n + m) t) = _
    rw [it_stay h m]
    exact h
theorem stable {b : Bool} {F : Tr N → Tr N} (h : ∀ t u, le t u → le (F t) (F u)) : it F (N + 1) (fun _ => !b) = it F N fun _ => !b := by
  have key : ∀ n, it F (n + 1) (fun _ => !b) = it F n (fun _ => !b) ∨ left b (it F (n + 1) fun _ => !b) + (n + 1) ≤ N := by
    intro n
    induction n with
    | zero =>
      by_cases e : it F 1 (fun _ => !b) = it F 0 fun _ => !b
      · exact .inl e
      · have := left_lt (chain h 0) e
        have := left_le b (it F 0 fun _ => !b)
        exact .inr (by omega)
    | succ n ih =>
      by_cases e : it F (n + 2) (fun _ => !b) = it F (n + 1) fun _ => !b
      · exact .inl e
      · have l := left_lt (chain h (n + 1)) e
        rcases ih with z | z
        · exact absurd (by show F (it F (n + 1) _) = F (it F n _); rw [z]) e
        · exact .inr (by omega)
  rcases key N with z | z
  · exact z
  · omega
/-- where the loop stops it has come to the end -/
theorem stops {b : Bool} {F : Tr N → Tr N} (h : ∀ t u, le t u → le (F t) (F u)) {n : Nat} (hn : it F (n + 1) (fun _ => !b) = it F n fun _ => !b) : it F (n + 1) (fun _ => !b) = it F N fun _ => !b := by
  rcases Nat.le_total n N with z | z
  · obtain ⟨m, rfl⟩ := Nat.exists_eq_add_of_le z
    rw [hn]
    have := it_stay hn m
    rw [this]
  · obtain ⟨m, hm⟩ := Nat.exists_eq_add_of_le z
    subst hm
    rw [hn]
    exact it_stay (stable h) m
theorem F_mono (W : Wo N) (s : Sy) (e : En N) (x : Str) : ∀ t u, le t u → le (hold W s (put e x t)) (hold W s (put e x u)) := fun _ _ ht => mono W s (put_le (fun _ _ z => z) ht)
/-- turned: where the statement does not hold -/
def turn : Sy → Sy
  | .y0 b => .y0 (!b) | .mk b x => .mk (!b) x | .nm x => .nm x | .st b s => .st (!b) (turn s) | .pr b s t => .pr (!b) (turn s) (turn t) | .bn b x s => .bn (!b) x (turn s)
def neg (t : Tr N) : Tr N := fun i => !t i
def negE (e : En N) : En N := fun x => neg (e x)
end Se
end L2

set_option maxRecDepth 100000
namespace L2
open PySem PySem.Spec PyProof.Rows
section
variable {X : Cx}
/-- all(a list of bools) -/
theorem call_allB (hc : X.calm = true) : CallR X (.builtin "all") (fun xs H Q => ∃ (l : Addr) (bs : List Bool), xs = [.ref l] ∧ SqL X.K H l (bs.map V.bl) ∧ Q (.bl (bs.all id)) H) := by
  intro pins s σ H xs us Q I r h
  obtain ⟨l, bs, rfl, hq, q⟩ := h
  obtain ⟨u, rfl, ru⟩ := vals1 r
  cases ru
  obtain ⟨its, rv, p, hz⟩ := I.list hq
  have hlen := rv.length
  rw [List.length_map] at hlen
  have lt : l < s.heap.objs.size := by obtain ⟨o, e, _⟩ := p.isList; exact Heap.lt_size e
  refine call_all_walk (wpAny_pyIter_list p.isList ?_)
  refine ⟨s.heap.objs.size, _, _, its.toArray.size, _, _, fun i => bs.getD i true, rfl, Walks.list (A := X.A.in1) (show X.A.in1.handled = none from I.ok.hd hc) s.heap.objs.size l (Nat.ne_of_lt lt) its.toArray, ⟨⟨_, Heap.get?_push_size _ rfl, rfl, rfl⟩, p.isList.at fun o e => Heap.get?_push_of_some _ e⟩, ?_, fun h' tk kk => ?_⟩
  · intro i v s' Q' E' hv hQ'
    have hv' : its[i]? = some v := by simpa using hv
    have hb : bs[i]? = some (bs.getD i true) := by
      have hi : i < its.length := (List.getElem?_eq_some_iff.mp hv').1
      rw [List.getD, List.getElem?_eq_getElem (show i < bs.length by omega)]
      rfl
    obtain ⟨u, hu, ru⟩ := rv.get (i := i) (x := .bl (bs.getD i true)) (by rw [List.getElem?_map, hb]; rfl)
    rw [hv'] at hu
    cases hu
    cases ru
    exact wpAny_truthy_bool hQ'
  · have e : (List.range its.toArray.size).all (fun i => bs.getD i true) = bs.all id := by
      rw [List.size_toArray, ← hlen, Bool.eq_iff_iff, List.all_eq_true, List.all_eq_true]
      constructor
      · intro h x hx
        obtain ⟨i, hi, e⟩ := List.mem_iff_getElem.mp hx
        have z := h i (List.mem_range.mpr hi)
        rw [List.getD, List.getElem?_eq_getElem hi] at z
        rw [← e]
        exact z
      · intro h i hi
        have hi' := List.mem_range.mp hi
        rw [List.getD, List.getElem?_eq_getElem hi']
        exact h _ (List.getElem_mem hi')
    rw [e]
    refine ⟨.bl _, H, ?_, rfl, q⟩
    refine I.kept fun b o hb => kk b o (fun z => ?_) (Heap.get?_push_of_some _ hb)
    exact absurd (Heap.lt_size hb) (by rw [List.mem_singleton.mp z]; exact Nat.lt_irrefl _)
end
end L2
namespace Mi
/-! ### the walk -/
def mv (ms : List Int) (x : Int) : Int := ms.getD x.toNat 0
/-- from the trail tr and the room at: the trail until a room comes again, and that room -/
def fin (ms : List Int) : Nat → List Int → Int → List Int × Int
  | 0, tr, at_ => (tr, at_)
  | n + 1, tr, at_ => if at_ ∈ tr then (tr, at_) else fin ms n (tr ++ [at_]) (mv ms at_)
theorem fin_in {ms : List Int} {n : Nat} {tr : List Int} {x : Int} (h : x ∈ tr) : fin ms n tr x = (tr, x) := by
  cases n with
  | zero => rfl
  | succ n => rw [fin, if_pos h]
theorem few : ∀ (n : Nat) (l : List Int), l.Nodup → (∀ x ∈ l, 0 ≤ x ∧ x < (n : Int)) → l.length ≤ n
  | 0, l, _, h => by
    cases l with
    | nil => simp
    | cons x r => have := h x List.mem_cons_self; omega
  | n + 1, l, nd, h => by
    by_cases hn : (n : Int) ∈ l
    · have e := List.length_erase_of_mem hn
      have z := few n (l.erase (n : Int)) (nd.erase _) fun x hx => by
        have h1 := h x (List.mem_of_mem_erase hx)
        have h2 : x ≠ (n : Int) := fun e => by
          subst e
          exact absurd hx (List.Nodup.not_mem_erase nd)
        omega
      omega
    · have z := few n l nd fun x hx => by
        have h1 := h x hx
        have h2 : x ≠ (n : Int) := fun e => hn (e ▸ hx)
        omega
      omega
/-- what a walk's trail is between two turns -/
structure Way (n : Nat) (ms : List Int) (st : Int) (tr : List Int) (at_ : Int) : Prop where
  nd : tr.Nodup
  tin : ∀ x ∈ tr, 0 ≤ x ∧ x < (n : Int)
  ain : 0 ≤ at_ ∧ at_ < (n : Int)
  run : fin ms n [] st = fin ms (n - tr.length) tr at_
theorem Way.start {n : Nat} {ms : List Int} {st : Int} (h : 0 ≤ st ∧ st < (n : Int)) : Way n ms st [] st := ⟨List.nodup_nil, by simp, h, rfl⟩
theorem Way.lt {n : Nat} {ms : List Int} {st : Int} {tr : List Int} {x : Int} (h : Way n ms st tr x) (hx : x ∉ tr) : tr.length < n := by
  have z := few n (x :: tr) (List.nodup_cons.mpr ⟨hx, h.nd⟩) fun y hy => by
    rcases List.mem_cons.mp hy with e | e
    · rw [e]; exact h.ain
    · exact h.tin y e
  rw [List.length_cons] at z
  omega
theorem Way.next {n : Nat} {ms : List Int} {st : Int} {tr : List Int} {x : Int} (h : Way n ms st tr x) (hx : x ∉ tr) (hm : 0 ≤ mv ms x ∧ mv ms x < (n : Int)) : Way n ms st (tr ++ [x]) (mv ms x) := by
  have hl := h.lt hx
  refine ⟨?_, fun y hy => ?_, hm, ?_⟩
  · refine List.nodup_append.mpr ⟨h.nd, by simp, fun a ha b hb => ?_⟩
    rw [List.mem_singleton.mp hb]
    exact fun e => hx (e ▸ ha)
  · rcases List.mem_append.mp hy with e | e
    · exact h.tin y e
    · rw [List.mem_singleton.mp e]; exact h.ain
  · rw [h.run]
    obtain ⟨k, hk⟩ : ∃ k, n - tr.length = k + 1 := ⟨n - tr.length - 1, by omega⟩
    rw [hk, fin, if_neg hx]
    congr 1
    rw [List.length_append, List.length_singleton]
    omega
theorem Way.done {n : Nat} {ms : List Int} {st : Int} {tr : List Int} {x : Int} (h : Way n ms st tr x) (hx : x ∈ tr) : fin ms n [] st = (tr, x) := by rw [h.run, fin_in hx]
/-- the dict of a trail: each room and its place -/
def came (tr : List Int) (k : Nat) : List (L2.Key × L2.V) := match tr with
  | [] => []
  | x :: r => (.inl x, .int (k : Int)) :: came r (k + 1)
end Mi

set_option maxRecDepth 100000
namespace L2
open PySem PySem.Spec PyProof.Rows
section
variable {X : Cx}
theorem strs_vals : ∀ {ts : List Str} {us : List Value}, Vals (ts.map V.str) us → ∃ l : List (Str × Tok), us = strValues l ∧ l.map (·.1) = ts
  | [], _, .nil => ⟨[], rfl, rfl⟩
  | t :: ts, _, .cons r rs => by
    obtain ⟨k, rfl⟩ := r
    obtain ⟨l, rfl, e⟩ := strs_vals rs
    exact ⟨(t, k) :: l, rfl, by rw [List.map_cons, e]⟩
/-- sep.join(a list of texts) -/
theorem mt_join : MtR X "str.join" (fun x vs H Q => ∃ (z : Str) (l : Addr) (ts : List Str), x = .str z ∧ vs = [.ref l] ∧ SqL X.K H l (ts.map V.str) ∧ JoinOk z ts = true ∧ Q (.str (Str.join z ts)) H) := by
  intro pins s σ H x vs v us Q I rx rv h
  obtain ⟨z, l, ts, rfl, rfl, hq, hj, q⟩ := h
  obtain ⟨t, rfl⟩ := rx
  obtain ⟨u, rfl, ru⟩ := vals1 rv
  cases ru
  obtain ⟨its, r, p, hz⟩ := I.list hq
  obtain ⟨ps, rfl, e⟩ := strs_vals r
  refine SC.join p.isList e hj fun t' k => ⟨.str _, H, I.tok _, ⟨_, rfl⟩, ?_⟩
  rw [show Txt.join z ts = Str.join z ts from StrLaws.glued_eq_join z ts]
  exact q
end
/-! ### split of join -/
namespace Tx
end Tx
end L2

set_option maxRecDepth 100000
namespace L2
open PySem PySem.Spec PyProof.Rows
/-! ### a dict of the module -/
def KDw (P : Program) (w : World) (K : PySem.W.Frag) (a : Addr) (kvs : List (Key × V)) : Prop :=
  (a == sysModules) = false ∧ ∃ (o : Obj) (es : Array DictEntry) (ep : Nat) (vs : List (Key × Value)), K.lookup a = some o ∧ o.ExactDict ∧ o.data = .dict es ep ∧ PySem.KeysOf (mixKind P w) es ∧ PySem.Pairs (mixKind P w) es.toList vs ∧ (vs.map (·.1)).Nodup ∧ KV kvs vs
section
variable {X : Cx} {pins : List (Addr × Obj)} {σ : St} {H : Hp} {s : Shared} {a : Addr} {kvs : List (Key × V)}
theorem Inv.kd (I : Inv X pins σ H s) (h : KDw X.prog X.w X.K a kvs) : (a == sysModules) = false ∧ ∃ vs, KV kvs vs ∧ s.heap.DictOf (mixKind X.prog X.w) a vs := by
  obtain ⟨h0, o, es, ep, vs, hk, h1, h2, h3, h4, h5, h6⟩ := h
  exact ⟨h0, vs, h6, o, es, ep, I.kIn a o hk, h1, h2, h3, h4, h5⟩
def tDGetK (P : Program) (w : World) (K : PySem.W.Frag) (td ty : TE) : TE := fun σ H Q => td σ H fun x H1 => ty σ H1 fun y H2 => ∃ (a : Addr) (kvs : List (Key × V)) (k : Key) (v : V), x = .ref a ∧ y = kV k ∧ KDw P w K a kvs ∧ valV kvs k = some v ∧ Q v H2
/-- any(a list of bools) -/
theorem call_anyB (hc : X.calm = true) : CallR X (.builtin "any") (fun xs H Q => ∃ (l : Addr) (bs : List Bool), xs = [.ref l] ∧ SqL X.K H l (bs.map V.bl) ∧ Q (.bl (bs.any id)) H) := by
  intro pins s σ H xs us Q I r h
  obtain ⟨l, bs, rfl, hq, q⟩ := h
  obtain ⟨u, rfl, ru⟩ := vals1 r
  cases ru
  obtain ⟨its, rv, p, hz⟩ := I.list hq
  have hlen := rv.length
  rw [List.length_map] at hlen
  have lt : l < s.heap.objs.size := by obtain ⟨o, e, _⟩ := p.isList; exact Heap.lt_size e
  refine call_any_walk (wpAny_pyIter_list p.isList ?_)
  refine ⟨s.heap.objs.size, _, _, its.toArray.size, _, _, fun i => bs.getD i true, rfl, Walks.list (A := X.A.in1) (show X.A.in1.handled = none from I.ok.hd hc) s.heap.objs.size l (Nat.ne_of_lt lt) its.toArray, ⟨⟨_, Heap.get?_push_size _ rfl, rfl, rfl⟩, p.isList.at fun o e => Heap.get?_push_of_some _ e⟩, ?_, fun h' tk kk => ?_⟩
  · intro i v s' Q' E' hv hQ'
    have hv' : its[i]? = some v := by simpa using hv
    have hb : bs[i]? = some (bs.getD i true) := by
      have hi : i < its.length := (List.getElem?_eq_some_iff.mp hv').1
      rw [List.getD, List.getElem?_eq_getElem (show i < bs.length by omega)]
      rfl
    obtain ⟨u, hu, ru⟩ := rv.get (i := i) (x := .bl (bs.getD i true)) (by rw [List.getElem?_map, hb]; rfl)
    rw [hv'] at hu
    cases hu
    cases ru
    exact wpAny_truthy_bool hQ'
  · have e : (List.range its.toArray.size).any (fun i => bs.getD i true) = bs.any id := by
      rw [List.size_toArray, ← hlen, Bool.eq_iff_iff, List.any_eq_true, List.any_eq_true]
      constructor
      · rintro ⟨i, hi, z⟩
        have hi' := List.mem_range.mp hi
        rw [List.getD, List.getElem?_eq_getElem hi'] at z
        exact ⟨_, List.getElem_mem hi', z⟩
      · rintro ⟨x, hx, z⟩
        obtain ⟨i, hi, e⟩ := List.mem_iff_getElem.mp hx
        refine ⟨i, List.mem_range.mpr hi, ?_⟩
        rw [List.getD, List.getElem?_eq_getElem hi, e]
        exact z
    rw [e]
    refine ⟨.bl _, H, ?_, rfl, q⟩
    refine I.kept fun b o hb => kk b o (fun z => ?_) (Heap.get?_push_of_some _ hb)
    exact absurd (Heap.lt_size hb) (by rw [List.mem_singleton.mp z]; exact Nat.lt_irrefl _)
end
/-! ### the signs of an ASCII text -/
def Its (x : Str) : It := ⟨fun i _ => i < x.cps.size, fun i H y H' => H' = H ∧ ∃ c, x.cps[i]? = some c ∧ y = .str ⟨#[c]⟩, fun i _ => x.cps.size ≤ i⟩
def iStr (tl : TE) : TI := fun σ H R => tl σ H fun x H1 => ∃ z : Str, x = .str z ∧ z.cps.all (· < 128) = true ∧ R (Its z) H1
end L2

set_option maxRecDepth 100000
namespace L2
open PySem PySem.Spec PyProof.Rows
section
variable {X : Cx} {pins : List (Addr × Obj)} {σ : St} {H : Hp} {s : Shared}
end
end L2
namespace L2
open PySem
/-! ### a tuple of texts, written in the module -/
def strsOf : List Value → Option (List Str)
  | [] => some []
  | .str x _ :: r => (strsOf r).map fun l => x :: l
  | _ => none
theorem strsOf_vals : ∀ {us : List Value} {B : List Str}, strsOf us = some B → Vals (B.map V.str) us
  | [], B, h => by simp [strsOf] at h; subst h; exact .nil
  | .str x t :: r, B, h => by
    simp only [strsOf, Option.map_eq_some_iff] at h
    obtain ⟨l, hl, rfl⟩ := h
    exact .cons ⟨t, rfl⟩ (strsOf_vals hl)
  | .none :: _, _, h | .bool _ :: _, _, h | .int _ _ :: _, _, h | .ref _ :: _, _, h | .float _ _ :: _, _, h | .bytes _ _ :: _, _, h | .type _ :: _, _, h | .builtin _ :: _, _, h | .ellipsis :: _, _, h | .notImplemented :: _, _, h => by simp [strsOf] at h
theorem ct_mk {K : PySem.W.Frag} {h : Heap} {mg : Str → Option Value} {a : Addr} {o : Obj} {its : Array Value} {n : Nat} {B : List Str} {x : Str} (X : K.In h) (G : h.Ns mainGlobals mg) (nB : PySem.W.nsIn K mainGlobals x = some (some (.ref a))) (lk : K.lookup a = some o)
    (hc : o.cls = .type "tuple") (hd : o.data = .seq its n) (hs : its.size ≤ 1000) (hv : strsOf its.toList = some B) : ∃ a, mg x = some (.ref a) ∧ ∀ H, SqT K H a (B.map V.str) :=
  ⟨a, PySem.W.mg_of X G nB, fun _ => .inr ⟨o, its, n, lk, hc, hd, Nat.le_of_lt (small1000 hs), strsOf_vals hv⟩⟩
end L2

set_option maxRecDepth 100000
namespace L2
open PySem PySem.Spec PyProof.Rows
/-! ### for .. in zip(a list, a list) -/
theorem boot_zip : bootBuiltins "zip" = some (.type "zip") := by decide +kernel
def Itz (K : PySem.W.Frag) (a b : Addr) : It :=
  ⟨fun i H => ∃ xs ys x y, SqL K H a xs ∧ SqL K H b ys ∧ xs[i]? = some x ∧ ys[i]? = some y,
   fun i H x H' => ∃ p u v, H p = none ∧ x = .ref p ∧ H' = upd H p (.tup [u, v]) ∧ ∀ xs ys, SqL K H a xs → SqL K H b ys → xs[i]? = some u ∧ ys[i]? = some v,
   fun i H => ∃ xs ys, SqL K H a xs ∧ SqL K H b ys ∧ (xs.length ≤ i ∨ ys.length ≤ i)⟩
theorem turn_zip {P : Program} {w : World} {K : PySem.W.Frag} {elts : List Expr} {x1 : Nat} {pos : Pos} (a b z TI TO i1 i2 : Addr) (ap : ZipApart z TI TO i1 i2 a b) :
    Turn P w K (.Tuple elts x1 pos) (Itz K a b) [z, TO, i1, i2, TI] z (fun i h => IsZip h z TI TO .none ∧ IsPair h TI (.ref i1) (.ref i2) ∧ (∃ u v, IsPair h TO u v) ∧ h.IsListIter i1 a i ∧ h.IsListIter i2 b i) where
  mem := by simp
  obj := fun i h ⟨st, ti, ⟨u, v, to⟩, l1, l2⟩ c hc => by
    simp only [List.mem_cons, List.not_mem_nil, or_false] at hc
    rcases hc with e | e | e | e | e <;> subst e
    · exact ⟨_, st, fun v q => by have q' : Data.fields _ = Data.cell v := q; cases q'⟩
    · exact ⟨_, to, fun v q => by have q' : Data.seq _ _ = Data.cell v := q; cases q'⟩
    · obtain ⟨o, e, c, d⟩ := l1
      exact ⟨o, e, fun v q => by rw [d] at q; cases q⟩
    · obtain ⟨o, e, c, d⟩ := l2
      exact ⟨o, e, fun v q => by rw [d] at q; cases q⟩
    · exact ⟨_, ti, fun v q => by have q' : Data.seq _ _ = Data.cell v := q; cases q'⟩
  keep := fun i h h' ⟨st, ti, ⟨u, v, to⟩, l1, l2⟩ k => ⟨k z (by simp) _ st, k TI (by simp) _ ti, ⟨u, v, k TO (by simp) _ to⟩, l1.at fun o q => k i1 (by simp) o q, l2.at fun o q => k i2 (by simp) o q⟩
  item := by
    intro X hP hw hK hc i pins s σ H E I hf ⟨st, ti, ⟨ua, ub, to⟩, l1, l2⟩ hg
    subst hP hw hK
    obtain ⟨xs, ys, x, y, hq, hq2, hx, hy⟩ := hg
    obtain ⟨its, rv, p, hz⟩ := I.list hq
    obtain ⟨its2, rv2, p2, hz2⟩ := I.list hq2
    obtain ⟨u, hu, ru⟩ := rv.get hx
    obtain ⟨u2, hu2, ru2⟩ := rv2.get hy
    refine wpAny_pyNext_zip_item ap st ti to l1 l2 p.isList p2.isList (x := u) (y := u2) (by simpa using hu) (by simpa using hu2) fun h1 out to1 l11 l21 tup sz kk => ⟨_, rfl, ?_⟩
    refine wpAny_letOwnedTupleGo_zip (s := { s with heap := h1 }) out fun h2 st2 sb => ?_
    have hp : H s.heap.objs.size = none := I.hok.fresh (Nat.le_refl _)
    have lt : ∀ b o, s.heap.get? b = some o → b ≠ s.heap.objs.size := fun b o q => Nat.ne_of_lt (Heap.lt_size q)
    have nz : s.heap.objs.size ≠ z := (lt z _ st).symm
    have k2 : ∀ b o, b ≠ z → b ≠ TO → b ≠ i1 → b ≠ i2 → s.heap.get? b = some o → h2.get? b = some o := fun b o h3 h4 h5 h6 q => (sb.2 b h3).trans (kk b o h3 h4 h5 h6 q)
    have tup2 : h2.get? s.heap.objs.size = some { cls := .type "tuple", data := .seq #[u, u2] } := (sb.2 _ nz).trans tup
    have ch : ∀ c, c ∉ [z, TO, i1, i2] → c ≠ z ∧ c ≠ TO ∧ c ≠ i1 ∧ c ≠ i2 := fun c hn => ⟨fun e => hn (by simp [e]), fun e => hn (by simp [e]), fun e => hn (by simp [e]), fun e => hn (by simp [e])⟩
    refine ⟨.ref s.heap.objs.size, upd H s.heap.objs.size (.tup [x, y]), ?_, rfl, ⟨_, x, y, hp, rfl, rfl, fun ys1 ys2 hy1 hy2 => by rw [I.list_inj hy1 hq, I.list_inj hy2 hq2]; exact ⟨hx, hy⟩⟩,
      ⟨st2, k2 TI _ ap.TIz ap.TITO ap.TIi1 ap.TIi2 ti, ⟨u, u2, (sb.2 TO ap.TOz).trans to1⟩, l11.at fun o q => (sb.2 i1 ap.i1z).trans q, l21.at fun o q => (sb.2 i2 ap.i2z).trans q⟩, fun c hb => ?_⟩
    · show Inv X pins σ (upd H s.heap.objs.size (.tup [x, y])) { s with heap := h2, gens := s.gens, drawn := s.drawn, toks := s.toks }
      refine I.step (h' := h2) (g' := s.gens) (t' := s.toks) (d' := s.drawn) (ch := [z, TO, i1, i2]) (fun c hb => ?_) (fun c o _ _ hn q _ => by obtain ⟨a1, a2, a3, a4⟩ := ch c hn; exact k2 c o a1 a2 a3 a4 q) (fun c o _ _ hn q _ => by obtain ⟨a1, a2, a3, a4⟩ := ch c hn; exact ⟨o.slots, k2 c o a1 a2 a3 a4 q⟩)
        (fun b o _ q n => by rw [upd_ne (lt b o q)]; exact n) (fun c o hn q => by obtain ⟨a1, a2, a3, a4⟩ := ch c hn; exact ⟨o, k2 c o a1 a2 a3 a4 q⟩) (fun b ys q => by rw [upd_ne (ne_of_none q hp)]; exact q) (fun b o v q => by rw [upd_ne (ne_of_none q hp)]; exact q)
        (fun b ps q => ⟨#[], by rw [upd_ne (ne_of_none q hp), q]; simp⟩) (fun m hm => ?_) (fun c v q => ?_) I.bare
      · obtain ⟨f0, f1, f2, f3, f4, f5⟩ := hf c (by
          simp only [List.mem_cons, List.not_mem_nil, or_false] at hb ⊢
          rcases hb with e | e | e | e <;> simp [e])
        exact ⟨f3, f1, f4, f5⟩
      · obtain ⟨o, es, ep, q, r⟩ := hm
        have n1 := (hf z (by simp)).2.1
        have n2 := (hf TO (by simp)).2.1
        have n3 := (hf i1 (by simp)).2.1
        have n4 := (hf i2 (by simp)).2.1
        exact ⟨o, es, ep, k2 _ o n1.symm n2.symm n3.symm n4.symm q, r⟩
      · by_cases hb : c = s.heap.objs.size
        · subst hb
          rw [upd_same] at q
          cases q
          exact ⟨(by show 2 ≤ sizeLine; decide), [u, u2], .cons ru (.cons ru2 .nil), ⟨_, tup2, rfl, _, rfl⟩⟩
        · rw [upd_ne hb] at q
          have no : ∀ d, d ∈ [z, TO, i1, i2, TI] → (c = d ∨ H d = some (.own c)) → False := fun d hd hor => by
            have f0 := (hf d hd).1
            rcases hor with r | r
            · rw [r, f0] at q; cases q
            · rw [r] at f0; cases f0
          refine (I.hok c v q).stay (fun d o hc' z' => k2 d o ?_ ?_ ?_ ?_ z') (fun c z => by rw [upd_ne (ne_of_none z hp)]; exact z) fun c ys z => by rw [upd_ne (ne_of_none z hp)]; exact z
          · rintro rfl; exact no d (by simp) (hc'.imp (fun e => e.symm) id)
          · rintro rfl; exact no d (by simp) (hc'.imp (fun e => e.symm) id)
          · rintro rfl; exact no d (by simp) (hc'.imp (fun e => e.symm) id)
          · rintro rfl; exact no d (by simp) (hc'.imp (fun e => e.symm) id)
    · have hne : c ≠ s.heap.objs.size := by
        simp only [List.mem_cons, List.not_mem_nil, or_false] at hb
        rcases hb with e | e | e | e | e <;> subst e
        · exact lt _ _ st
        · exact lt _ _ to
        · obtain ⟨o, q, _⟩ := l1; exact lt _ _ q
        · obtain ⟨o, q, _⟩ := l2; exact lt _ _ q
        · exact lt _ _ ti
      rw [upd_ne hne]
      exact (hf c hb).1
  done := by
    intro X hP hw hK hc i pins s σ H E I hf ⟨st, ti, ⟨ua, ub, to⟩, l1, l2⟩ hg
    subst hP hw hK
    obtain ⟨xs, ys, hq, hq2, hx⟩ := hg
    obtain ⟨its, rv, p, hz⟩ := I.list hq
    obtain ⟨its2, rv2, p2, hz2⟩ := I.list hq2
    have hl := rv.length
    have hl2 := rv2.length
    refine wpAny_pyNext_zip_end (I.ok.hd hc) ap st ti to l1 l2 p.isList p2.isList (hx.imp (fun z => by simp; omega) (fun z => by simp; omega)) fun h' kk => ⟨rfl, ?_⟩
    have ch : ∀ c, c ∉ [z, TO, i1, i2] → c ≠ z ∧ c ≠ TO ∧ c ≠ i1 ∧ c ≠ i2 := fun c hn => ⟨fun e => hn (by simp [e]), fun e => hn (by simp [e]), fun e => hn (by simp [e]), fun e => hn (by simp [e])⟩
    show Inv X pins σ H { s with heap := h', gens := s.gens, drawn := s.drawn, toks := s.toks }
    refine I.step (h' := h') (g' := s.gens) (t' := s.toks) (d' := s.drawn) (ch := [z, TO, i1, i2]) (fun c hb => ?_) (fun c o _ _ hn q _ => by obtain ⟨a1, a2, a3, a4⟩ := ch c hn; exact kk c o a1 a2 a3 a4 q) (fun c o _ _ hn q _ => by obtain ⟨a1, a2, a3, a4⟩ := ch c hn; exact ⟨o.slots, kk c o a1 a2 a3 a4 q⟩)
      (fun b o _ q n => n) (fun c o hn q => by obtain ⟨a1, a2, a3, a4⟩ := ch c hn; exact ⟨o, kk c o a1 a2 a3 a4 q⟩) (fun b ys q => q) (fun b o v q => q)
      (fun b ps q => ⟨#[], by rw [q]; simp⟩) (fun m hm => ?_) (fun c v q => ?_) I.bare
    · obtain ⟨f0, f1, f2, f3, f4, f5⟩ := hf c (by
        simp only [List.mem_cons, List.not_mem_nil, or_false] at hb ⊢
        rcases hb with e | e | e | e <;> simp [e])
      exact ⟨f3, f1, f4, f5⟩
    · obtain ⟨o, es, ep, q, r⟩ := hm
      have n1 := (hf z (by simp)).2.1
      have n2 := (hf TO (by simp)).2.1
      have n3 := (hf i1 (by simp)).2.1
      have n4 := (hf i2 (by simp)).2.1
      exact ⟨o, es, ep, kk _ o n1.symm n2.symm n3.symm n4.symm q, r⟩
    · have no : ∀ d, d ∈ [z, TO, i1, i2, TI] → (c = d ∨ H d = some (.own c)) → False := fun d hd hor => by
        have f0 := (hf d hd).1
        rcases hor with r | r
        · rw [r, f0] at q; cases q
        · rw [r] at f0; cases f0
      refine (I.hok c v q).stay (fun d o hc' z' => kk d o ?_ ?_ ?_ ?_ z') (fun c z => z) fun c ys z => z
      · rintro rfl; exact no d (by simp) (hc'.imp (fun e => e.symm) id)
      · rintro rfl; exact no d (by simp) (hc'.imp (fun e => e.symm) id)
      · rintro rfl; exact no d (by simp) (hc'.imp (fun e => e.symm) id)
      · rintro rfl; exact no d (by simp) (hc'.imp (fun e => e.symm) id)
  self := fun _ _ _ _ _ ⟨st, _⟩ h => wpAny_pyIter_zip st h
def iZip (K : PySem.W.Frag) (ta : TA) : TI := fun σ H R => ta σ H fun vs H1 => ∃ a b, vs = [.ref a, .ref b] ∧ (∃ xs, SqL K H1 a xs) ∧ (∃ ys, SqL K H1 b ys) ∧ R (Itz K a b) H1
theorem pi_zip {X : Cx} {e e' : Expr} {ta : TA} {p pos tpos : Pos} {elts : List Expr} {x1 : Nat} (hg : Gl X "zip") (hm : X.mg "zip" = none) (ha : PA X [e, e'] ta) (hs : starEach [e, e'] X.env = (false, eval e X.env) :: starEach [e'] X.env := by rfl) (hs2 : ((backTo pos (starEach [e'] X.env)).any fun x => x.1) = false := by rfl) :
    PI X (.Tuple elts x1 tpos) (.Call (.Name "zip" p) [e, e'] [] pos) (iZip X.K ta) := by
  intro pins s σ H R I h
  refine Call_ (ld_blt I hg hm boot_zip (PyProof.Rows.callWith_type1 (thn (ha pos pins s σ H _ I h) fun us s1 ⟨vs, H1, I1, r1, q1⟩ => ?_) hs hs2))
  obtain ⟨a, b, e1, ⟨xs, hq⟩, ⟨ys, hq2⟩, q⟩ := q1
  subst e1
  cases r1 with
  | cons r rr =>
    cases rr with
    | cons r' rr =>
      cases rr
      cases r
      cases r'
      obtain ⟨its, rv, pl, hz⟩ := I1.list hq
      obtain ⟨its2, rv2, pl2, hz2⟩ := I1.list hq2
      have la : a < s1.heap.objs.size := by obtain ⟨o, e, _⟩ := pl.isList; exact Heap.lt_size e
      have lb : b < s1.heap.objs.size := by obtain ⟨o, e, _⟩ := pl2.isList; exact Heap.lt_size e
      refine call_zip_2 pl.isList pl2.isList fun h' st ti to l1 l2 sz kk => ?_
      have I2 : Inv X pins σ H1 { s1 with heap := h' } := I1.kept (t' := s1.toks) kk
      refine wpAny_pyIter_zip (s := { s1 with heap := h' }) st ?_
      have ap : ZipApart (s1.heap.objs.size + 4) (s1.heap.objs.size + 2) (s1.heap.objs.size + 3) s1.heap.objs.size (s1.heap.objs.size + 1) a b := by
        generalize s1.heap.objs.size = n at la lb
        have A1 : ∀ i, a ≠ n + i := fun i => Nat.ne_of_lt (Nat.lt_of_lt_of_le la (Nat.le_add_right _ _))
        have A2 : ∀ i, b ≠ n + i := fun i => Nat.ne_of_lt (Nat.lt_of_lt_of_le lb (Nat.le_add_right _ _))
        have N : ∀ i j : Nat, i ≠ j → n + i ≠ n + j := fun i j h z => h (Nat.add_left_cancel z)
        exact ⟨N 2 4 (by decide), N 3 4 (by decide), N 0 4 (by decide), N 1 4 (by decide), N 2 3 (by decide), N 2 0 (by decide), N 2 1 (by decide), N 3 0 (by decide), N 3 1 (by decide), N 0 1 (by decide), A1 4, A1 3, A1 0, A1 1, A2 4, A2 3, A2 0, A2 1⟩
      refine ⟨s1.heap.objs.size + 4, [s1.heap.objs.size + 4, s1.heap.objs.size + 3, s1.heap.objs.size, s1.heap.objs.size + 1, s1.heap.objs.size + 2], _, _, H1, rfl, I2, turn_zip a b (s1.heap.objs.size + 4) (s1.heap.objs.size + 2) (s1.heap.objs.size + 3) s1.heap.objs.size (s1.heap.objs.size + 1) ap, ⟨st, ti, ⟨_, _, to⟩, l1, l2⟩, fun c hb => ?_, q⟩
      have hb' : s1.heap.objs.size ≤ c := by
        simp only [List.mem_cons, List.not_mem_nil, or_false] at hb
        rcases hb with e | e | e | e | e <;> rw [e]
        · exact Nat.le_add_right _ _
        · exact Nat.le_add_right _ _
        · exact Nat.le_refl _
        · exact Nat.le_add_right _ _
        · exact Nat.le_add_right _ _
      exact I1.fpOk hb' (I1.hok.fresh hb')
/-- over two lists of one length, which stay as they are -/
theorem comp_zip {K : PySem.W.Frag} {a b : Addr} {xs ys : List V} (hlen : xs.length = ys.length) {g : TG} {tc : TT} {te : TE} {σ0 : St} {H : Hp} {Q : VK} (Pv : Addr → Nat → List V → Hp → Prop) (h0 : ∀ D, H D = none → Pv D 0 [] (upd H D (.lst [])))
    (hl : ∀ D i zs H, i ≤ xs.length → Pv D i zs H → SqL K H a xs ∧ SqL K H b ys ∧ H D = some (.lst zs) ∧ (i < xs.length → zs.length < sizeLine))
    (hs : ∀ D i x y zs H p, xs[i]? = some x → ys[i]? = some y → H p = none → Pv D i zs H → g (.ref p) σ0 (upd H p (.tup [x, y])) fun σ4 H4 => ExtS σ0 σ4 ∧ tc σ4 H4 fun b H5 => if b = true then te σ4 H5 fun v H6 => H6 D = some (.lst zs) ∧ Pv D (i + 1) (zs ++ [v]) (upd H6 D (.lst (zs ++ [v]))) else Pv D (i + 1) zs H5)
    (hd : ∀ D zs H, Pv D xs.length zs H → Q (.ref D) H) : CompW (Itz K a b) g tc te σ0 H Q := by
  intro D hD
  refine ⟨fun i m zs H => m = xs.length - i ∧ i ≤ xs.length ∧ Pv D i zs H, ⟨xs.length, by simp, Nat.zero_le _, h0 D hD⟩, ?_⟩
  rintro i m zs H2 ⟨rfl, hi, p⟩
  obtain ⟨sq, sq2, e, lt⟩ := hl D i zs H2 hi p
  refine ⟨e, ?_⟩
  by_cases hlt : i < xs.length
  · refine .inr ⟨⟨xs, ys, xs[i], ys[i]'(by omega), sq, sq2, by simp [hlt], by simp [show i < ys.length by omega]⟩, lt hlt, fun ys' H' => Pv D (i + 1) ys' H', fun ys' H' p' => ⟨xs.length - (i + 1), by omega, rfl, hlt, p'⟩, fun x H3 y => ?_⟩
    obtain ⟨ad, u, v, hn, e1, e2, y⟩ := y
    subst e1 e2
    obtain ⟨y1, y2⟩ := y xs ys sq sq2
    exact hs D i u v zs _ ad y1 y2 hn p
  · have z : i = xs.length := by omega
    subst z
    exact .inl ⟨⟨xs, ys, sq, sq2, .inl (Nat.le_refl _)⟩, hd D zs H2 p⟩
end L2
namespace L2
open PySem
/-! ### a dict of texts to texts, written in the module -/
def ofES (e : DictEntry) : Str × Tok × Str × Tok := match e.key, e.val with
  | .str x t, .str i u => (x, t, i, u)
  | _, _ => (Str.empty, 0, Str.empty, 0)
def toES (w : World) (q : Str × Tok × Str × Tok) : DictEntry := ⟨PyData.keyHash w.params q.1, .str q.1 q.2.1, .str q.2.2.1 q.2.2.2⟩
def kvES (q : Str × Tok × Str × Tok) : Key × V := (.inr q.1, .str q.2.2.1)
def vES (q : Str × Tok × Str × Tok) : Key × Value := (.inr q.1, .str q.2.2.1 q.2.2.2)
end L2

set_option maxRecDepth 100000
namespace L2
open PySem PySem.Spec PyProof.Rows
/-- the error passes from a place with these names -/
def PassesF (CX : CXT) (X : Cx) (E : XK) (σ : St) : Prop := ∀ (pins : List (Addr × Obj)) (H : Hp) (s : Shared) (e : Value) (s' : Shared), Inv X pins σ H s → CX X.stack H s E e s' → X.xe e s'
def PSsF (X : Cx) (st : List Stmt) (t : TS) (σ : St) : Prop := ∀ (pins : List (Addr × Obj)) (s : Shared) (H : Hp) (D : Ends), Inv X pins σ H s → t D σ H → wpAny (model X.prog X.w) X.A (execs st X.env) (SP X pins D) X.xe s
section
variable {X : Cx} {CX : CXT} {k : Nat} {f C : Addr} {fd : FuncData} {ps : List Str} {sp : Sp} {dvs : List V} {ds : List Value} {E : XK} {x m : Str} {p pos pos' : Pos} {e : Expr} {es : List Expr} {t : TA} {σ : St}
end
def tTryF (K : PySem.W.Frag) (DA : Addr) (tb : XK → TS) (th : TS) (i : Nat) : TS := fun D σ H =>
  tb (fun C _ H' => PySem.W.exmOne K C (.ref DA) = some true ∧ ∀ (e Ca : Addr), C = .ref Ca → H' e = none →
    th { nx := fun σ2 H2 => D.nx (σ2.set i none) H2, rt := D.rt, bk := fun σ2 H2 => D.bk (σ2.set i none) H2, ct := fun σ2 H2 => D.ct (σ2.set i none) H2 } (σ.set i (some (.ref e))) (upd H' e (.ext fun h => Ev.ExcAt h e Ca))) D σ H
section
variable {X : Cx}
end
end L2

set_option maxRecDepth 100000
namespace L2
open PySem PySem.Spec PyProof.Rows
def tCut (P : St → Hp → Prop) (t u : TS) : TS := fun D σ H => t { D with nx := P } σ H ∧ ∀ σ' H', P σ' H' → u D σ' H'
/-- a statement with a word of its own for what holds behind it -/
theorem pss_cut {X : Cx} {st : Stmt} {rest : List Stmt} {t u : TS} (P : St → Hp → Prop) (h1 : PS X st t) (h2 : PSs X rest u) : PSs X (st :: rest) (tCut P t u) := by
  intro pins s σ H D I h
  refine wpAny_execs_cons (thn (h1 pins s σ H { D with nx := P } I h.1) fun f s1 q => ?_)
  cases f with
  | next =>
    obtain ⟨σ', H', I', q⟩ := q
    exact h2 pins s1 σ' H' D I' (h.2 σ' H' q)
  | ret v => exact q
  | brk => exact q
  | cont => exact q
end L2

set_option maxRecDepth 100000
namespace L2
open PySem PySem.Spec PyProof.Rows
section
variable {X : Cx} {pins : List (Addr × Obj)} {σ : St} {H : Hp} {s : Shared} {a : Addr} {kvs : List (Key × V)}
def tFrz (t : TE) : TE := fun σ H Q => t σ H fun x H1 => ∃ a kvs, x = .ref a ∧ H1 a = some (.dK kvs) ∧ ∀ o, Q (.ref a) (upd H1 a (.frz o (.dK kvs)))
end
/-! ### for k in d, d only read -/
def Itd (a : Addr) (o : Obj) (kvs : List (Key × V)) : It := ⟨fun i H => H a = some (.frz o (.dK kvs)) ∧ i < kvs.length, fun i H y H' => H' = H ∧ ∃ kv, kvs[i]? = some kv ∧ y = kV kv.1, fun i H => H a = some (.frz o (.dK kvs)) ∧ kvs.length ≤ i⟩
def iDict (tl : TE) : TI := fun σ H R => tl σ H fun x H1 => ∃ a o kvs, x = .ref a ∧ H1 a = some (.frz o (.dK kvs)) ∧ R (Itd a o kvs) H1
end L2

set_option maxRecDepth 100000
namespace PySem
namespace F
end F
section
variable {prog : Program} {w : World} {A : Around} {E : Value → Shared → Prop} {s : Shared} {a : Addr}
end
end PySem

set_option maxRecDepth 100000
namespace L2
open PySem PySem.Spec PyProof.Rows
section
variable {prog : Program} {w : World} {A : Around} {R : Result → Shared → Prop}
end
section
variable {prog : Program} {w : World} {A : Around} {E : Value → Shared → Prop} {s : Shared}
end
section
variable {X : Cx}
/-- a pair of a key and a value -/
def PairAt (H : Hp) (p : Addr) (kv : Key × V) : Prop := H p = some (.tup [kV kv.1, kv.2])
end
end L2

set_option maxRecDepth 100000
namespace L2
open PySem PySem.Spec PyProof.Rows
section
variable {X : Cx}
end
end L2

set_option maxRecDepth 100000
namespace L2
open PySem PySem.Spec PyProof.Rows
section
variable {X : Cx}
/-- dict(a dict) -/
theorem call_dictD : CallR X (.type "dict") (fun xs H Q => ∃ (a : Addr) (kvs : List (Key × V)), xs = [.ref a] ∧ Rd H a (.dK kvs) ∧ ∀ d, H d = none → Q (.ref d) (upd H d (.dK kvs))) := by
  intro pins s σ H xs us Q I r h
  obtain ⟨a, kvs, rfl, ha, q⟩ := h
  obtain ⟨u, rfl, ru⟩ := vals1 r
  cases ru
  obtain ⟨z, y, vs, rk, dd⟩ := dk_rd I.hok ha
  have lk := KV.length rk
  refine kt_call_dict y dd (by rw [← lk]; exact z) fun h' hd' sb => ?_
  have kp : ∀ b o, s.heap.get? b = some o → h'.get? b = some o := fun b o e => (sb.2 b (Nat.ne_of_lt (Heap.lt_size e))).trans (Heap.get?_push_of_some _ e)
  exact ⟨.ref s.heap.objs.size, upd H s.heap.objs.size (.dK kvs), I.laid (t' := s.toks) kp (Nat.le_refl _) ⟨z, beq_eq_false_iff_ne.mpr (Ne.symm (Nat.ne_of_lt I.big)), vs, rk, hd'⟩, rfl, q _ (I.hok.fresh (Nat.le_refl _))⟩
end
end L2

set_option maxRecDepth 100000
namespace Law
open PySem L2
def top (i : Nat) : Stmt := PySem.Challenge.pw_everduel_k17_whole_least_and_most.main.body.getD i (.Pass ⟨0, 0, 0, 0⟩)
abbrev sTrueAt : Stmt := top 2
abbrev sHolding : Stmt := top 3
abbrev sLedOn : Stmt := top 4
abbrev sByItself : Stmt := top 5
abbrev sClosed : Stmt := top 6
abbrev sCell : Stmt := top 8
abbrev sNext : Stmt := top 9
abbrev sLeaf : Stmt := top 10
abbrev sSay : Stmt := top 11
abbrev sWorld : Stmt := top 12
abbrev sSets : Stmt := top 13
abbrev sLed : Stmt := top 14
abbrev sPlaces : Stmt := top 15
abbrev sTruths : Stmt := top 16
abbrev sNested : Stmt := top 17
abbrev sLaw : Stmt := top 18
section
variable {P : Program} {w : World} {K : PySem.W.Frag} {mg : Str → Option Value} {base : Heap} {f g : Addr} {fd gd : FuncData}
def spCell (K : PySem.W.Frag) : Sp := fun vs H Q _ => ∃ (a : Addr) (ns : List Int) (k : Nat), vs = [.ref a, .int (k : Int)] ∧ Scr K H a ns ∧ Q (.int (Mi.cell ns k)) H
theorem scCell : FnScope ["script", "k"] ["script", "k"] (defScope sCell) := ⟨rfl, rfl, rfl, by decide +kernel, rfl, by decide +kernel, by decide +kernel⟩
theorem ok_cell (F : Fun K "_law_cell_at" "_law_cell_at" sCell f fd) (ml : mg "len" = none) : FnOk P w K mg base CX0 1 f fd ["script", "k"] (spCell K) := by
  refine F.ok scCell (fun vs H Q E h => ?_) (fun cdv A outer s H vs Q E hr h => ?_)
  · obtain ⟨a, ns, k, rfl, _⟩ := h
    rfl
  obtain ⟨a, ns, k, rfl, hS, q⟩ := h
  refine ⟨_, pss_cons (ps_if (pt_cmpR op_lt (pv 1) (pe_callB call_len_seq rfl ml PySem.boot_len (pa_cons (pv 0) pa_nil)) (nomark _)) (pss_one (ps_ret (pe_ix ix_list (pv 0) (pv 1) (fun _ _ => rfl)))) pss_nil) (pss_one (ps_ret pe_int)), ?_⟩
  refine ⟨_, rfl, _, rfl, a, _, rfl, .inl hS.sql, _, _, rfl, rfl, _, rfl, ?_⟩
  refine ite2 (fun c => ?_) (fun c => ?_)
  · have c' : (k : Int) < (((ns.map V.int).length : Nat) : Int) := of_decide_eq_true c
    rw [List.length_map] at c'
    have hk : k < ns.length := by omega
    refine ⟨_, rfl, _, rfl, a, _, _, _, rfl, rfl, hS.sql, atI_nat (v := V.int ns[k]) (by rw [List.getElem?_map, List.getElem?_eq_getElem hk]; rfl), ?_⟩
    have e : Mi.cell ns k = ns[k] := by simp [Mi.cell, List.getD, List.getElem?_eq_getElem hk]
    rw [e] at q
    exact q
  · have c' : ¬ (k : Int) < (((ns.map V.int).length : Nat) : Int) := of_decide_eq_false (Bool.eq_false_iff.mpr c)
    rw [List.length_map] at c'
    have e : Mi.cell ns k = 0 := by simp [Mi.cell, List.getD, List.getElem?_eq_none (show ns.length ≤ k by omega)]
    rw [e] at q
    exact q
/-- next: the spot goes on by one -/
def spNext (K : PySem.W.Frag) : Sp := fun vs H Q _ => ∃ (a p : Addr) (ns : List Int) (k : Nat) (m : V), vs = [.ref a, .ref p] ∧ Scr K H a ns ∧ H p = some (.lst [.int (k : Int), m]) ∧ Q (.int (Mi.cell ns k)) (upd H p (.lst [.int ((k + 1 : Nat) : Int), m]))
theorem scNext : FnScope ["script", "spot"] ["script", "spot"] (defScope sNext) := ⟨rfl, rfl, rfl, by decide +kernel, rfl, by decide +kernel, by decide +kernel⟩
theorem ok_next (F : Fun K "_law_next" "_law_next" sNext f fd) (G : FnOk P w K mg base CX0 1 g gd ["script", "k"] (spCell K)) (bG : Binds K gd ["script", "k"] []) (kG : PySem.W.keepIn K (.ref g) = true) (mG : mg "_law_cell_at" = some (.ref g)) :
    FnOk P w K mg base CX0 2 f fd ["script", "spot"] (spNext K) := by
  refine F.ok scNext (fun vs H Q E h => ?_) (fun cdv A outer s H vs Q E hr h => ?_)
  · obtain ⟨a, p, ns, k, m, rfl, _⟩ := h
    rfl
  obtain ⟨a, p, ns, k, m, rfl, hS, hp, q⟩ := h
  refine ⟨_, pss_cons (ps_asg (pe_op op_add (pe_ix ix_list (pv 1) pe_int (fun _ _ => rfl)) pe_int) (pg_sub (pv 1) pe_int set_list))
    (pss_one (ps_ret (pe_call G hr rfl mG kG bG .nil pass0 (pa_cons (pv 0) (pa_cons (pe_op op_sub (pe_ix ix_list (pv 1) pe_int (fun _ _ => rfl)) pe_int) pa_nil))))), ?_⟩
  refine ⟨_, rfl, _, _, _, _, rfl, rfl, SqL.of hp, (show atI [V.int (k : Int), m] 0 = some _ from rfl), _, _, rfl, rfl, _, rfl, p, _, 0, 0, rfl, rfl, hp, rfl, ?_⟩
  have h1 : (upd H p (.lst ([V.int (k : Int), m].set 0 (V.int ((k : Int) + 1))))) p = some (.lst [V.int ((k : Int) + 1), m]) := upd_same
  refine ⟨_, rfl, _, rfl, _, _, _, _, rfl, rfl, SqL.of h1, (show atI [V.int ((k : Int) + 1), m] 0 = some _ from rfl), _, _, rfl, rfl, a, ns, k, ?_, hS.keep hp samex_upd, ?_⟩
  · show [V.ref a, V.int ((k : Int) + 1 - 1)] = [V.ref a, V.int (k : Int)]
    rw [show (k : Int) + 1 - 1 = (k : Int) by omega]
  · have e : V.int (((k + 1 : Nat)) : Int) = V.int ((k : Int) + 1) := by simp
    rw [e] at q
    exact q
end
end Law

set_option maxRecDepth 100000
set_option maxHeartbeats 4000000
namespace Law
open PySem L2
section
variable {P : Program} {w : World} {K : PySem.W.Frag} {mg : Str → Option Value} {base : Heap} {f g : Addr} {fd gd : FuncData}
def spLeaf : Sp := fun vs H Q _ => ∃ (c : Int) (b : Addr) (B : List Str), vs = [.int c, .ref b] ∧ H b = some (.lst (B.map V.str)) ∧ ∀ v H' s, Same H H' → SyAt H' s v → s.depth = 1 → s.size = 1 → s.ok B → Q v H'
theorem scLeaf : FnScope ["cell", "bound", "kind"] ["cell", "bound"] (defScope sLeaf) := ⟨rfl, rfl, rfl, by decide +kernel, rfl, by decide +kernel, by decide +kernel⟩
theorem ok_leaf (F : Fun K "_law_leaf" "_law_leaf" sLeaf f fd) (ml : mg "len" = none) : FnOk P w K mg base CX0 1 f fd ["cell", "bound"] spLeaf := by
  refine F.ok scLeaf (fun vs H Q E h => ?_) (fun cdv A outer s H vs Q E hr h => ?_)
  · obtain ⟨c, b, B, rfl, _⟩ := h
    rfl
  obtain ⟨c, b, B, rfl, hb, q⟩ := h
  have hu : _ + 30 < cLine := Nat.lt_of_le_of_lt (Nat.add_le_add_left (by decide : 30 ≤ 64) _) hr.units
  refine ⟨_, pss_cons (ps_set (i := 2) scLeaf.nd rfl (Or.inl rfl) (pe_op op_mod (pv 0) pe_int))
    (pss_cons (ps_if (pt_cmpR op_eq (pv 2) pe_int (nomark _)) (pss_one (ps_ret (pe_ix ix_list (pe_lst (pa_cons (pe_tup (pa_cons pe_str pa_nil)) (pa_cons (pe_tup (pa_cons pe_str pa_nil)) pa_nil))) (pe_op op_mod (pe_op op_fdiv (pv 0) pe_int) pe_int) (fun _ _ => rfl)))) pss_nil)
    (pss_cons (ps_if (PW.pt (pw_and (pt_cmpR op_gt (pv 2) pe_int (nomark _)) (pw_and1 (pt_cmpR (op_neL hu) (pv 1) (pe_lst pa_nil) (nomark _)))))
      (pss_one (ps_ret (pe_tup (pa_cons pe_str (pa_cons (pe_ix ix_list (pv 1) (pe_op op_mod (pe_op op_fdiv (pv 0) pe_int) (pe_callB call_len_seq rfl ml PySem.boot_len (pa_cons (pv 1) pa_nil))) (fun _ _ => rfl)) pa_nil))))) pss_nil)
    (pss_one (ps_ret (pe_tup (pa_cons (pe_ix ix_list (pe_lst (pa_cons pe_str (pa_cons pe_str pa_nil))) (pe_op op_mod (pv 2) pe_int) (fun _ _ => rfl)) (pa_cons (pe_ix ix_str pe_str (pe_op op_mod (pe_op op_fdiv (pv 0) pe_int) pe_int) (fun _ _ => rfl)) pa_nil))))))), ?_⟩
  have last : ∀ H2, Same H H2 → tRet (tTup (tCons (tOp (rIxL K) (tLst (tCons (tC (.str "mark")) (tCons (tC (.str "unmark")) tNil))) (tOp (rI (fun _ j => 0 < j) fun i j => .int (i % j)) (tVar 2) (tC (.int 2)))) (tCons (tOp rIxS (tC (.str "pqr")) (tOp (rI (fun _ j => 0 < j) fun i j => .int (i % j)) (tOp (rI CDiv fun i j => .int (i / j)) (tVar 0) (tC (.int 7))) (tC (.int 3)))) tNil)))
      { nx := fun _ H' => Q .non H', rt := Q } [some (.int c), some (.ref b), some (.int (c % 7))] H2 := fun H2 s2 => by
    refine ⟨(by show 2 ≤ sizeLine; decide), fun l hl => ⟨_, rfl, _, _, rfl, rfl, (by show (0 : Int) < 2; decide), l, _, _, _, rfl, rfl, SqL.of upd_same, pickK1 _, ?_⟩⟩
    obtain ⟨ch, hch, hm⟩ := pickM (c / 7)
    refine ⟨_, rfl, _, _, rfl, rfl, ⟨by decide, by decide⟩, _, _, rfl, rfl, (by show (0 : Int) < 3; decide), _, _, ch, rfl, rfl, (by decide +kernel), hch, (by show 2 ≤ sizeLine; decide), fun t ht => ?_⟩
    refine q _ _ (.mk (decide (c % 7 % 2 = 0)) ⟨#[ch]⟩) (s2.trans ((same_new hl _).trans (same_new ht _))) ⟨t, rfl, upd_same⟩ rfl rfl hm
  refine ⟨_, rfl, _, _, rfl, rfl, (by show (0 : Int) < 7; decide), ?_⟩
  refine ⟨_, rfl, rfl, _, rfl, ifeq2 (fun e => ?_) (fun ne => ?_)⟩
  · refine ⟨(by show 1 ≤ sizeLine; decide), fun t1 h1 => ⟨(by show 1 ≤ sizeLine; decide), fun t2 h2 => ⟨(by show 2 ≤ sizeLine; decide), fun l hl => ?_⟩⟩⟩
    refine ⟨_, rfl, _, _, rfl, rfl, ⟨by decide, by decide⟩, _, _, rfl, rfl, (by show (0 : Int) < 2; decide), l, _, _, _, rfl, rfl, SqL.of upd_same, pick0 _, ?_⟩
    have sm : Same H _ := (same_new h1 (.tup [V.str "yes"])).trans ((same_new h2 (.tup [V.str "no"])).trans (same_new hl (.lst [V.ref t1, V.ref t2])))
    split
    · exact q _ _ (.y0 true) sm ⟨t1, rfl, by rw [upd_ne (ne_of_none (by rw [upd_ne (ne_of_none upd_same h2)]; exact upd_same) hl), upd_ne (ne_of_none upd_same h2)]; exact upd_same⟩ rfl rfl trivial
    · exact q _ _ (.y0 false) sm ⟨t2, rfl, by rw [upd_ne (ne_of_none upd_same hl)]; exact upd_same⟩ rfl rfl trivial
  · refine ⟨_, rfl, _, _, rfl, rfl, _, rfl, ite2 (fun c1 => ?_) (fun _ => iteF (last H (Same.refl H)))⟩
    refine ⟨_, rfl, (by decide), fun e he => ?_⟩
    have s1 := same_new he (.lst [])
    refine ⟨B.map T.str, [], ?_, ?_, by rw [deeps_str]; decide, _, rfl, ?_⟩
    · simp only [Rep]
      exact ⟨b, _, rfl, SqL.of (s1 _ _ hb), Reps.str B⟩
    · simp only [Rep]
      exact ⟨e, [], rfl, SqL.of upd_same, Reps.nil⟩
    rw [eqTs_nilS]
    by_cases hB : B = []
    · rw [decide_eq_true hB]
      exact iteF (last _ s1)
    · rw [decide_eq_false hB]
      refine iteT ?_
      have hl : 0 < B.length := List.length_pos_iff.mpr hB
      have hlI : (0 : Int) < (((B.map V.str).length : Nat) : Int) := by rw [List.length_map]; omega
      obtain ⟨x, hx, ex⟩ := pickS (xs := B) (i := c / 7 % (((B.map V.str).length : Nat) : Int)) (Int.emod_nonneg _ (by omega)) (by have := Int.emod_lt_of_pos (c / 7) hlI; rw [List.length_map] at this ⊢; exact this)
      refine ⟨_, rfl, _, rfl, _, _, rfl, rfl, ⟨by decide, by decide⟩, _, rfl, b, _, rfl, .inl (SqL.of (s1 _ _ hb)), _, _, rfl, rfl, hlI, b, _, _, _, rfl, rfl, SqL.of (s1 _ _ hb), ex, (by show 2 ≤ sizeLine; decide), fun t ht => ?_⟩
      exact q _ _ (.nm x) (s1.trans (same_new ht _)) ⟨t, rfl, upd_same⟩ rfl rfl hx
end
end Law
namespace Law
open PySem L2
section
variable {P : Program} {w : World} {K : PySem.W.Frag} {mg : Str → Option Value} {base : Heap} {f g : Addr} {fd gd : FuncData}
/-- a statement by cells -/
def spSay (K : PySem.W.Frag) (D : Nat) : Sp := fun vs H Q _ => ∃ (a p b : Addr) (ns : List Int) (k m deep : Nat) (B : List Str), vs = [.ref a, .ref p, .int (deep : Int), .ref b] ∧ Scr K H a ns ∧ H p = some (.lst [.int (k : Int), .int (m : Int)]) ∧ H b = some (.lst (B.map V.str)) ∧ 1 ≤ deep ∧ deep ≤ D ∧ B.length + D ≤ 900 ∧
  ∀ v H' s (k' m' : Nat), SameX p H H' → H' p = some (.lst [.int (k' : Int), .int (m' : Int)]) → SyAt H' s v → s.depth ≤ deep → s.size + m' = m + 1 → s.ok B → Q v H'
theorem scSay : FnScope ["script", "spot", "deep", "bound", "cell", "kind", "name", "free", "part", "first", "second"] ["script", "spot", "deep", "bound"] (defScope sSay) := ⟨rfl, rfl, rfl, by decide +kernel, rfl, by decide +kernel, by decide +kernel⟩
def midSay (a p b : Addr) (c : Int) (k m deep : Nat) (H : Hp) : St → Hp → Prop := fun σ H6 => ∃ z6 z7 z8, σ = [some (.ref a), some (.ref p), some (.int (deep : Int)), some (.ref b), some (.int c), some (.int (c % 9)), z6, z7, z8, none, none] ∧ SameX p H H6 ∧ H6 p = some (.lst [.int ((k + 1 : Nat) : Int), .int ((m - 1 : Nat) : Int)]) ∧ 2 ≤ m ∧ 2 ≤ deep
theorem ndNB : (["name", "bound"] : List Str).Nodup := by decide +kernel
theorem ok_say (F : Fun K "_law_saying" "_law_saying" sSay f fd) {fN fL : Addr} {dN dL : FuncData} (GN : FnOk P w K mg base CX0 2 fN dN ["script", "spot"] (spNext K)) (bN : Binds K dN ["script", "spot"] []) (kN : PySem.W.keepIn K (.ref fN) = true) (mN : mg "_law_next" = some (.ref fN))
    (GL : FnOk P w K mg base CX0 1 fL dL ["cell", "bound"] spLeaf) (bL : Binds K dL ["cell", "bound"] []) (kL : PySem.W.keepIn K (.ref fL) = true) (mL : mg "_law_leaf" = some (.ref fL))
    (bS : Binds K fd ["script", "spot", "deep", "bound"] []) (kS : PySem.W.keepIn K (.ref f) = true) (mS : mg "_law_saying" = some (.ref f)) (ml : mg "len" = none) : ∀ D, FnOk P w K mg base CX0 (3 + D) f fd ["script", "spot", "deep", "bound"] (spSay K D) := by
  intro D
  induction D with
  | zero =>
    refine F.ok scSay (fun vs H Q E h => ?_) (fun cdv A outer s H vs Q E hr h => ?_)
    · obtain ⟨a, p, b, ns, k, m, deep, B, rfl, _⟩ := h
      rfl
    obtain ⟨a, p, b, ns, k, m, deep, B, rfl, _, _, _, h1, h2, _⟩ := h
    omega
  | succ D ih =>
    refine F.ok scSay (fun vs H Q E h => ?_) (fun cdv A outer s H vs Q E hr h => ?_)
    · obtain ⟨a, p, b, ns, k, m, deep, B, rfl, _⟩ := h
      rfl
    obtain ⟨a, p, b, ns, k, m, deep, B, rfl, hS, hp, hb, hd1, hd2, hB, q⟩ := h
    have hr1 : L2.Room 1 _ := hr.mono (by show 1 ≤ 3 + D; omega)
    have hr2 : L2.Room 2 _ := hr.mono (by show 2 ≤ 3 + D; omega)
    have hu : _ + 30 < cLine := Nat.lt_of_le_of_lt (Nat.add_le_add_left (by decide : 30 ≤ 64) _) hr.units
    refine ⟨_, pss_cons (ps_set (i := 4) scSay.nd rfl (Or.inl rfl) (pe_call GN hr2 rfl mN kN bN .nil pass0 (pa_cons (pv 0) (pa_cons (pv 1) pa_nil))))
      (pss_cons (ps_set (i := 5) scSay.nd rfl (Or.inl rfl) (pe_op op_mod (pv 4) pe_int))
      (pss_cons (ps_if (PW.pt (pw_or (pt_cmpR op_lt (pv 2) pe_int (nomark _)) (pw_or (pt_cmpR op_lt (pe_ix ix_list (pv 1) pe_int (fun _ _ => rfl)) pe_int (nomark _)) (pw_or1 (pt_cmpR op_eq (pv 5) pe_int (nomark _))))))
        (pss_one (ps_ret (pe_call GL hr1 rfl mL kL bL .nil pass0 (pa_cons (pe_op op_fdiv (pv 4) pe_int) (pa_cons (pv 3) pa_nil))))) pss_nil)
      (pss_cons (ps_asg (pe_op op_sub (pe_ix ix_list (pv 1) pe_int (fun _ _ => rfl)) pe_int) (pg_sub (pv 1) pe_int set_list))
      (pss_cons (ps_if (pt_cmpR op_lt (pv 5) pe_int (nomark _)) (pss_one (ps_ret (pe_tup (pa_cons (pe_ix ix_list (pe_lst (pa_cons pe_str (pa_cons pe_str pa_nil))) (pe_op op_mod (pv 5) pe_int) (fun _ _ => rfl))
          (pa_cons (pe_call ih hr rfl mS kS bS .nil pass0 (pa_cons (pv 0) (pa_cons (pv 1) (pa_cons (pe_op op_sub (pv 2) pe_int) (pa_cons (pv 3) pa_nil))))) pa_nil))))) pss_nil)
      (pss_cons (ps_comp (i := 7) scSay.nd rfl (Or.inl rfl) (N := ["name", "bound"]) (capt := [none, some 3]) rfl (pi_list (pe_lst (pa_cons pe_str (pa_cons pe_str (pa_cons pe_str (pa_cons pe_str pa_nil)))))) rfl (by repeat (first | exact .nil | refine .cons rfl ?_))
        (by repeat (first | exact .nil | refine .skip (by decide) (by decide) ?_ | refine .free ⟨_, rfl⟩ ?_)) (.tgt (.var rfl (.inl rfl) ⟨_, rfl⟩ (.inl rfl) .nil))
        (fun _ _ _ _ _ => pg_name (i := 0) ndNB rfl (Or.inl rfl)) (fun _ _ _ _ _ => pif_one (pt_cmpR (notInK K) (pv 0) (pv 1) rfl)) (fun _ _ _ _ _ => pv 0))
      (pss_cut (midSay a p b (Mi.cell ns k) k m deep H) (ps_if (PW.pt (pw_and (pt_cmpR op_gt (pv 5) pe_int (nomark _)) (pw_and1 (pt_cmpR (op_neL hu) (pv 7) (pe_lst pa_nil) (nomark _)))))
        (pss_cons (ps_set (i := 6) scSay.nd rfl (Or.inl rfl) (pe_ix ix_list (pv 7) (pe_op op_mod (pe_op op_fdiv (pv 4) pe_int) (pe_callB call_len_seq rfl ml PySem.boot_len (pa_cons (pv 7) pa_nil))) (fun _ _ => rfl)))
        (pss_cons (ps_set (i := 8) scSay.nd rfl (Or.inl rfl) (pe_call ih hr rfl mS kS bS .nil pass0 (pa_cons (pv 0) (pa_cons (pv 1) (pa_cons (pe_op op_sub (pv 2) pe_int) (pa_cons (pe_op op_cat (pv 3) (pe_lst (pa_cons (pv 6) pa_nil))) pa_nil))))))
        (pss_one (ps_ret (pe_tup (pa_cons (pe_ix ix_list (pe_lst (pa_cons pe_str (pa_cons pe_str pa_nil))) (pe_op op_mod (pv 5) pe_int) (fun _ _ => rfl)) (pa_cons (pv 6) (pa_cons (pv 8) pa_nil)))))))) pss_nil)
      (pss_cons (ps_asg (pe_op op_sub (pe_ix ix_list (pv 1) pe_int (fun _ _ => rfl)) pe_int) (pg_sub (pv 1) pe_int set_list))
      (pss_cons (ps_set (i := 9) scSay.nd rfl (Or.inl rfl) (pe_call ih hr rfl mS kS bS .nil pass0 (pa_cons (pv 0) (pa_cons (pv 1) (pa_cons (pe_op op_sub (pv 2) pe_int) (pa_cons (pv 3) pa_nil))))))
      (pss_cons (ps_set (i := 10) scSay.nd rfl (Or.inl rfl) (pe_call ih hr rfl mS kS bS .nil pass0 (pa_cons (pv 0) (pa_cons (pv 1) (pa_cons (pe_op op_sub (pv 2) pe_int) (pa_cons (pv 3) pa_nil))))))
      (pss_one (ps_ret (pe_tup (pa_cons (pe_ix ix_list (pe_lst (pa_cons pe_str (pa_cons pe_str pa_nil))) (pe_op op_mod (pv 5) pe_int) (fun _ _ => rfl)) (pa_cons (pv 9) (pa_cons (pv 10) pa_nil))))))))))))))), ?_⟩
    refine ⟨_, rfl, _, rfl, a, p, ns, k, _, rfl, hS, hp, ?_⟩
    generalize hH1 : upd H p (.lst [.int ((k + 1 : Nat) : Int), .int (m : Int)]) = H1
    have x1 : SameX p H H1 := by rw [← hH1]; exact samex_upd
    have p1 : H1 p = some (.lst [.int ((k + 1 : Nat) : Int), .int (m : Int)]) := by rw [← hH1]; exact upd_same
    have b1 := keepS hb hp x1
    have hS1 := hS.keep hp x1
    generalize hc : Mi.cell ns k = c
    have leaf : tRet (tCall spLeaf [] E0 (tCons (tOp (rI CDiv fun i j => .int (i / j)) (tVar 4) (tC (.int 9))) (tCons (tVar 3) tNil))) { nx := fun _ H' => Q .non H', rt := Q } [some (.ref a), some (.ref p), some (.int (deep : Int)), some (.ref b), some (.int c), some (.int (c % 9)), none, none, none, none, none] H1 := by
      refine ⟨_, rfl, _, _, rfl, rfl, ⟨by decide, by decide⟩, _, rfl, _, b, B, rfl, b1, fun v H2 s s2 hs e1 e2 ok => ?_⟩
      exact q v H2 s (k + 1) m (x1.after s2) (s2 _ _ p1) hs (by omega) (by omega) ok
    refine ⟨_, rfl, _, _, rfl, rfl, (by show (0 : Int) < 9; decide), ?_⟩
    refine ⟨_, rfl, _, _, rfl, rfl, _, rfl, ite2 (fun _ => iteT leaf) (fun c1 => ?_)⟩
    have c1' : ¬ (deep : Int) < 2 := of_decide_eq_false (Bool.eq_false_iff.mpr c1)
    refine ⟨_, rfl, p, _, _, _, rfl, rfl, SqL.of p1, at1, _, _, rfl, rfl, _, rfl, ite2 (fun _ => iteT leaf) (fun c2 => ?_)⟩
    have c2' : ¬ (m : Int) < 2 := of_decide_eq_false (Bool.eq_false_iff.mpr c2)
    refine ⟨_, rfl, rfl, _, rfl, ifeq2 (fun _ => leaf) (fun _ => ?_)⟩
    refine ⟨_, rfl, p, _, _, _, rfl, rfl, SqL.of p1, at1, _, _, rfl, rfl, _, rfl, p, _, 1, 1, rfl, rfl, p1, rfl, ?_⟩
    have e1 : ([V.int ((k + 1 : Nat) : Int), V.int (m : Int)] : List V).set 1 (V.int ((m : Int) - 1)) = [V.int ((k + 1 : Nat) : Int), V.int ((m - 1 : Nat) : Int)] := by
      show [V.int ((k + 1 : Nat) : Int), V.int ((m : Int) - 1)] = _
      rw [show (m : Int) - 1 = ((m - 1 : Nat) : Int) by omega]
    rw [e1]
    generalize hH2 : upd H1 p (.lst [V.int ((k + 1 : Nat) : Int), V.int ((m - 1 : Nat) : Int)]) = H2
    have x2 : SameX p H H2 := by rw [← hH2]; exact x1.trans samex_upd
    have p2 : H2 p = some (.lst [.int ((k + 1 : Nat) : Int), .int ((m - 1 : Nat) : Int)]) := by rw [← hH2]; exact upd_same
    have b2 := keepS hb hp x2
    have hS2 := hS.keep hp x2
    have dd : (deep : Int) - 1 = ((deep - 1 : Nat) : Int) := by omega
    refine ⟨_, rfl, _, _, rfl, rfl, _, rfl, ite2 (fun _ => ?_) (fun c4 => ?_)⟩
    · refine ⟨(by show 2 ≤ sizeLine; decide), fun l hl => ⟨_, rfl, _, _, rfl, rfl, (by show (0 : Int) < 2; decide), l, _, _, _, rfl, rfl, SqL.of upd_same, pickK2 _, ?_⟩⟩
      have s3 := same_new hl (.lst [V.str "some", V.str "every"])
      refine ⟨_, rfl, _, rfl, _, rfl, _, _, rfl, rfl, _, rfl, a, p, b, ns, k + 1, m - 1, deep - 1, B, ?_, hS2.same s3, s3 _ _ p2, s3 _ _ b2, by omega, by omega, by omega, fun v H4 s k' m' x4 p4 hs hde hsi ok => ⟨(by show 2 ≤ sizeLine; decide), fun t ht => ?_⟩⟩
      · show [V.ref a, V.ref p, V.int ((deep : Int) - 1), V.ref b] = _
        rw [dd]
      · have s5 := same_new ht (.tup [V.str (Sy.k2 (decide (c % 9 % 2 = 0))), v])
        exact q _ _ (.st (decide (c % 9 % 2 = 0)) s) k' m' (((x2.after s3).trans x4).after s5) (s5 _ _ p4) ⟨t, v, rfl, upd_same, hs.same s5⟩ (by simp [Sy.depth]; omega) (by simp [Sy.size]; omega) ok
    refine ⟨(by show 4 ≤ sizeLine; decide), fun l0 hl0 => ?_⟩
    have s3 := same_new hl0 (.lst [V.str "X", V.str "Y", V.str "Z", V.str "U"])
    generalize hH3 : upd H2 l0 (.lst [V.str "X", V.str "Y", V.str "Z", V.str "U"]) = H3 at s3
    have e3 : H3 l0 = some (.lst (Sy.names.map V.str)) := by rw [← hH3]; exact upd_same
    refine ⟨l0, rfl, ⟨_, SqL.of e3⟩, ?_⟩
    refine comp_list (K := K) (a := l0) (xs := Sy.names.map V.str) (fun D i ys H5 => Same H3 H5 ∧ H3 D = none ∧ H5 D = some (.lst ys) ∧ ys = ((Sy.names.take i).filter fun x => decide (x ∉ B)).map V.str) ?_ ?_ ?_ ?_
    · exact fun D hD => ⟨same_new hD _, hD, upd_same, rfl⟩
    · rintro C i ys H5 hi ⟨sm, hD, h5, ey⟩
      refine ⟨SqL.of (sm _ _ e3), h5, fun _ => ?_⟩
      rw [ey]
      refine small1000 ?_
      rw [List.length_map]
      have := List.length_filter_le (fun x => decide (x ∉ B)) (Sy.names.take i)
      have h4 : (Sy.names.take i).length ≤ 4 := by simp [Sy.names]; omega
      omega
    · rintro C i x ys H5 hx ⟨sm, hD, h5, ey⟩
      rw [List.getElem?_map] at hx
      obtain ⟨z, ez, rfl⟩ := Option.map_eq_some_iff.mp hx
      have tk : Sy.names.take (i + 1) = Sy.names.take i ++ [z] := by
        obtain ⟨hi, e⟩ := List.getElem?_eq_some_iff.mp ez
        rw [List.take_succ_eq_append_getElem hi, e]
      refine ⟨⟨rfl, trivial⟩, _, rfl, _, rfl, b, _, rfl, .inl (SqL.of (sm _ _ (s3 _ _ b2))), rfl, flatS B, _, rfl, ?_⟩
      rw [inS]
      by_cases hz : z ∈ B
      · rw [decide_eq_true hz]
        refine iteF ⟨sm, hD, h5, ?_⟩
        rw [ey, tk, List.filter_append]
        simp [hz]
      · rw [decide_eq_false hz]
        refine iteT ⟨_, rfl, h5, fun b o e => ?_, hD, upd_same, ?_⟩
        · rw [upd_ne (ne_of_none e hD)]
          exact sm b o e
        · rw [ey, tk, List.filter_append]
          simp [hz]
    rintro fr ys H5 ⟨sm5, hfr, h5, ey⟩
    rw [List.length_map, List.take_length] at ey
    generalize hFS : (Sy.names.filter fun x => decide (x ∉ B)) = FS at ey
    subst ey
    have x5 : SameX p H H5 := x2.after (s3.trans sm5)
    have p5 := (s3.trans sm5) _ _ p2
    have b5 := keepS hb hp x5
    have hS5 := hS.keep hp x5
    refine ⟨⟨_, rfl, _, _, rfl, rfl, _, rfl, ite2 (fun c5 => ?_) (fun _ => iteF ⟨_, _, _, rfl, x5, p5, by omega, by omega⟩)⟩, ?_⟩
    · refine ⟨_, rfl, (by decide), fun e he => ?_⟩
      have s6 := same_new he (.lst [])
      refine ⟨FS.map T.str, [], ?_, ?_, by rw [deeps_str]; decide, _, rfl, ?_⟩
      · simp only [Rep]
        exact ⟨fr, _, rfl, SqL.of (s6 _ _ h5), Reps.str FS⟩
      · simp only [Rep]
        exact ⟨e, [], rfl, SqL.of upd_same, Reps.nil⟩
      rw [eqTs_nilS]
      generalize hH6 : upd H5 e (.lst []) = H6 at s6
      by_cases hF : FS = []
      · rw [decide_eq_true hF]
        exact iteF ⟨_, _, _, rfl, x5.after s6, s6 _ _ p5, by omega, by omega⟩
      · rw [decide_eq_false hF]
        refine iteT ?_
        have hl : 0 < FS.length := List.length_pos_iff.mpr hF
        have hlI : (0 : Int) < (((FS.map V.str).length : Nat) : Int) := by rw [List.length_map]; omega
        obtain ⟨x, hx, ex⟩ := pickS (xs := FS) (i := c / 9 % (((FS.map V.str).length : Nat) : Int)) (Int.emod_nonneg _ (by omega)) (by have := Int.emod_lt_of_pos (c / 9) hlI; rw [List.length_map] at this ⊢; exact this)
        have hx2 : x ∈ Sy.names ∧ x ∉ B := by
          rw [← hFS] at hx
          simpa using hx
        refine ⟨_, rfl, _, rfl, _, _, rfl, rfl, ⟨by decide, by decide⟩, _, rfl, fr, _, rfl, .inl (SqL.of (s6 _ _ h5)), _, _, rfl, rfl, hlI, fr, _, _, _, rfl, rfl, SqL.of (s6 _ _ h5), ex, ?_⟩
        refine ⟨_, rfl, _, rfl, _, rfl, _, _, rfl, rfl, _, rfl, _, rfl, (by show 1 ≤ sizeLine; decide), fun n hn => ?_⟩
        have s7 := same_new hn (.lst [V.str x])
        refine ⟨b, n, _, _, rfl, rfl, s7 _ _ (s6 _ _ b5), upd_same, ?_, fun bn hbn => ?_⟩
        · rw [List.length_map]; exact Nat.le_of_lt (small1000 (by simp; omega))
        have s8 := s6.trans (s7.trans (same_new hbn (.lst (B.map V.str ++ [V.str x]))))
        have p8 := s8 _ _ p5
        have x8 := x5.after s8
        refine ⟨a, p, bn, ns, k + 1, m - 1, deep - 1, B ++ [x], ?_, hS.keep hp x8, p8, ?_, by omega, by omega, by simp; omega, fun v H9 s k' m' x9 p9 hs hde hsi ok => ?_⟩
        · show [V.ref a, V.ref p, V.int ((deep : Int) - 1), V.ref bn] = _
          rw [dd]
        · rw [upd_same, List.map_append]
          rfl
        refine ⟨(by show 2 ≤ sizeLine; decide), fun l hl => ⟨_, rfl, _, _, rfl, rfl, (by show (0 : Int) < 2; decide), l, _, _, _, rfl, rfl, SqL.of upd_same, pickK4 _, _, rfl, _, rfl, (by show 3 ≤ sizeLine; decide), fun t ht => ?_⟩⟩
        have s10 := (same_new hl (.lst [V.str "least", V.str "most"])).trans (same_new ht (.tup [V.str (Sy.k4 (decide (c % 9 % 2 = 0))), V.str x, v]))
        exact q _ _ (.bn (decide (c % 9 % 2 = 0)) x s) k' m' ((x8.trans x9).after s10) (s10 _ _ p9) ⟨t, v, rfl, upd_same, hs.same s10⟩ (by simp [Sy.depth]; omega) (by simp [Sy.size]; omega) ⟨hx2.2, hx2.1, ok⟩
    · rintro _ H6 ⟨z6, z7, z8, rfl, x6, p6, hm2, hd22⟩
      subst hc
      refine ⟨_, rfl, p, _, _, _, rfl, rfl, SqL.of p6, at1, _, _, rfl, rfl, _, rfl, p, _, 1, 1, rfl, rfl, p6, rfl, ?_⟩
      have e2 : ([V.int ((k + 1 : Nat) : Int), V.int ((m - 1 : Nat) : Int)] : List V).set 1 (V.int (((m - 1 : Nat) : Int) - 1)) = [V.int ((k + 1 : Nat) : Int), V.int ((m - 2 : Nat) : Int)] := by
        show [V.int ((k + 1 : Nat) : Int), V.int (((m - 1 : Nat) : Int) - 1)] = _
        rw [show ((m - 1 : Nat) : Int) - 1 = ((m - 2 : Nat) : Int) by omega]
      rw [e2]
      generalize hH7 : upd H6 p (.lst [V.int ((k + 1 : Nat) : Int), V.int ((m - 2 : Nat) : Int)]) = H7
      have x7 : SameX p H H7 := by rw [← hH7]; exact x6.trans samex_upd
      have p7 : H7 p = some (.lst [.int ((k + 1 : Nat) : Int), .int ((m - 2 : Nat) : Int)]) := by rw [← hH7]; exact upd_same
      refine ⟨_, rfl, _, rfl, _, rfl, _, _, rfl, rfl, _, rfl, a, p, b, ns, k + 1, m - 2, deep - 1, B, ?_, hS.keep hp x7, p7, keepS hb hp x7, by omega, by omega, by omega, fun v H8 s k' m' x8 p8 hs hde hsi ok => ?_⟩
      · show [V.ref a, V.ref p, V.int ((deep : Int) - 1), V.ref b] = _
        rw [dd]
      have y8 := x7.trans x8
      refine ⟨_, rfl, _, rfl, _, rfl, _, _, rfl, rfl, _, rfl, a, p, b, ns, k', m', deep - 1, B, ?_, hS.keep hp y8, p8, keepS hb hp y8, by omega, by omega, by omega, fun v2 H9 s2 k2 m2 x9 p9 hs2 hde2 hsi2 ok2 => ?_⟩
      · show [V.ref a, V.ref p, V.int ((deep : Int) - 1), V.ref b] = _
        rw [dd]
      refine ⟨(by show 2 ≤ sizeLine; decide), fun l hl => ⟨_, rfl, _, _, rfl, rfl, (by show (0 : Int) < 2; decide), l, _, _, _, rfl, rfl, SqL.of upd_same, pickK3 _, _, rfl, _, rfl, (by show 3 ≤ sizeLine; decide), fun t ht => ?_⟩⟩
      have s10 := (same_new hl (.lst [V.str "both", V.str "either"])).trans (same_new ht (.tup [V.str (Sy.k3 (decide (Mi.cell ns k % 9 % 2 = 0))), v, v2]))
      exact q _ _ (.pr (decide (Mi.cell ns k % 9 % 2 = 0)) s s2) k2 m2 ((y8.trans x9).after s10) (s10 _ _ p9) ⟨t, v, v2, rfl, upd_same, (hs.keep p8 x9).same s10, hs2.same s10⟩ (by simp [Sy.depth]; omega) (by simp [Sy.size]; omega) ⟨ok, ok2⟩
end
end Law

set_option maxRecDepth 100000
namespace L2
open PySem
theorem joinOk0 {ts : List Str} (hB : ∀ y ∈ ts, y.length ≤ 1) (hn : ts.length ≤ 100) : JoinOk (Str.ofString "") ts = true := by
  unfold JoinOk
  rw [StrLaws.joinFits hB]
  · rfl
  · have h3 : (Str.ofString "").length = 0 := by decide +kernel
    rw [h3]
    omega
/-- a place of a world, a world in the heap -/
def PlaceAt (H : Hp) (p : Str × List Nat) (v : V) : Prop := ∃ pa qa, v = .ref pa ∧ H pa = some (.tup [.str p.1, .ref qa]) ∧ H qa = some (.tup (p.2.map fun (w : Nat) => V.int (w : Int)))
theorem PlaceAt.imp {H H' : Hp} (k : ∀ a xs, H a = some (.tup xs) → H' a = some (.tup xs)) {p : Str × List Nat} {v : V} (h : PlaceAt H p v) : PlaceAt H' p v := by
  obtain ⟨pa, qa, e, h1, h2⟩ := h
  exact ⟨pa, qa, e, k _ _ h1, k _ _ h2⟩
structure WorldAt (H : Hp) (l : Addr) {N : Nat} (W : Wo N) (vs : List V) : Prop where
  lst : H l = some (.lst vs)
  len : vs.length = N
  at' : ∀ i : Fin N, ∃ v, vs[i.val]? = some v ∧ PlaceAt H (W.ma i, (W.ws i).map Fin.val) v
theorem WorldAt.imp {H H' : Hp} {l : Addr} {N : Nat} {W : Wo N} {vs : List V} (h : WorldAt H l W vs) (hl : H' l = some (.lst vs)) (k : ∀ a xs, H a = some (.tup xs) → H' a = some (.tup xs)) : WorldAt H' l W vs :=
  ⟨hl, h.len, fun i => by obtain ⟨v, e, p⟩ := h.at' i; exact ⟨v, e, p.imp k⟩⟩
theorem WorldAt.same {H H' : Hp} {l : Addr} {N : Nat} {W : Wo N} {vs : List V} (h : WorldAt H l W vs) (k : Same H H') : WorldAt H' l W vs := h.imp (k _ _ h.lst) fun a xs e => k _ _ e
def Wo.rises {N : Nat} (W : Wo N) : Prop := ∀ i, ((W.ws i).map Fin.val).Pairwise (· < ·)
def woOf (pl : List (Str × List Nat)) : Wo pl.length := ⟨fun i => pl[i].1, fun i => pl[i].2.filterMap fun w => if h : w < pl.length then some ⟨w, h⟩ else none⟩
theorem woOf_ws {N : Nat} : ∀ {l : List Nat}, (∀ w ∈ l, w < N) → (l.filterMap fun w => if h : w < N then some (⟨w, h⟩ : Fin N) else none).map Fin.val = l
  | [], _ => rfl
  | w :: l, h => by
    have hw := h w (by simp)
    rw [List.filterMap_cons]
    simp only [hw, dif_pos, List.map_cons]
    rw [woOf_ws fun u hu => h u (List.mem_cons_of_mem _ hu)]
theorem worldAt_of {H : Hp} {l : Addr} {pl : List (Str × List Nat)} {vs : List V} (hl : H l = some (.lst vs)) (pr : Paired (PlaceAt H) pl vs) (hw : ∀ p ∈ pl, ∀ w ∈ p.2, w < pl.length) : WorldAt H l (woOf pl) vs := by
  have len : pl.length = vs.length := Paired.length pr
  refine ⟨hl, len.symm, fun i => ?_⟩
  have hi : i.val < vs.length := len ▸ i.isLt
  refine ⟨vs[i.val], List.getElem?_eq_getElem hi, ?_⟩
  obtain ⟨r, er, pr'⟩ := pair_backG pr (List.getElem?_eq_getElem hi)
  have e : pl[i.val] = r := (List.getElem?_eq_some_iff.mp er).2
  have e2 : ((woOf pl).ws i).map Fin.val = r.2 := by
    show (pl[i.val].2.filterMap _).map Fin.val = _
    rw [woOf_ws (hw _ (List.getElem_mem i.isLt)), e]
  rw [e2]
  have e3 : (woOf pl).ma i = r.1 := by show pl[i.val].1 = _; rw [e]
  rw [e3]
  exact pr'
/-- the truths in the heap -/
def tr {N : Nat} (f : Tr N) : List V := (List.ofFn f).map V.bl
theorem tr_len {N : Nat} (f : Tr N) : (tr f).length = N := by simp [tr]
theorem tr_get {N : Nat} (f : Tr N) (i : Nat) (h : i < N) : (tr f)[i]? = some (.bl (f ⟨i, h⟩)) := by
  rw [tr, List.getElem?_map, List.getElem?_ofFn, dif_pos h]
  rfl
theorem tr_take {N : Nat} (f : Tr N) (i : Nat) (h : i < N) : (tr f).take (i + 1) = (tr f).take i ++ [.bl (f ⟨i, h⟩)] := by
  have hl : i < (tr f).length := by rw [tr_len]; exact h
  rw [List.take_succ_eq_append_getElem hl]
  congr 2
  have := tr_get f i h
  rw [List.getElem?_eq_getElem hl] at this
  exact Option.some.inj this
theorem tr_inj {N : Nat} {f g : Tr N} (h : tr f = tr g) : f = g := by
  funext i
  have h1 := tr_get f i.val i.isLt
  rw [h, tr_get g i.val i.isLt] at h1
  injection h1 with h1
  injection h1 with h1
  exact h1.symm
def trT {N : Nat} (f : Tr N) : List T := (List.ofFn f).map T.bl
theorem Reps.bls {K : PySem.W.Frag} {H : Hp} : ∀ bs : List Bool, Reps K H (bs.map T.bl) (bs.map V.bl)
  | [] => by simp [Reps]
  | n :: r => by simp only [List.map_cons, Reps, Rep]; exact ⟨trivial, Reps.bls r⟩
theorem deeps_bl : ∀ bs : List Bool, deeps (bs.map T.bl) = 0
  | [] => rfl
  | n :: r => by simp [deeps, deep, deeps_bl r]
theorem eqTs_bl : ∀ a b : List Bool, eqTs (a.map T.bl) (b.map T.bl) = decide (a = b)
  | [], [] => by simp [eqTs]
  | [], _ :: _ => by simp [eqTs]
  | _ :: _, [] => by simp [eqTs]
  | x :: a, y :: b => by
    have ih := eqTs_bl a b
    rw [List.map_cons, List.map_cons, eqTs, ih, eqT]
    rw [Bool.eq_iff_iff]
    simp
theorem ne_tr {N : Nat} {f g : Tr N} (h : f ≠ g) : eqTs (trT f) (trT g) = false := by
  unfold trT
  rw [eqTs_bl]
  exact decide_eq_false fun e => h (tr_inj (congrArg (List.map V.bl) e))
/-- the names' places -/
def EnvAt {N : Nat} (H : Hp) (d : Addr) (B : List Str) (e : En N) : Prop := ∃ kvs : List (Key × V), H d = some (.dK kvs) ∧ kvs.length ≤ B.length ∧ ∀ x ∈ B, ∃ l, valV kvs (.inr x) = some (.ref l) ∧ H l = some (.lst (tr (e x)))
theorem EnvAt.same {N : Nat} {H H' : Hp} {d : Addr} {B : List Str} {e : En N} (h : EnvAt H d B e) (k : Same H H') : EnvAt H' d B e := by
  obtain ⟨kvs, h1, h2, h3⟩ := h
  exact ⟨kvs, k _ _ h1, h2, fun x hx => by obtain ⟨l, e1, e2⟩ := h3 x hx; exact ⟨l, e1, k _ _ e2⟩⟩
theorem putK_len (kvs : List (Key × V)) (k : Key) (v : V) : (putK kvs k v).length ≤ kvs.length + 1 := by
  unfold putK
  split <;> simp
/-! inside a comprehension -/
theorem pgT (K : PySem.W.Frag) {X : Cx} {es : List Expr} {k : Nat} {t : TGs} {n : Nat} {pos : Pos} (hc : X.calm = true) (h : PGs X es t) (hK : X.K = K := by rfl)
    (hn : (assignEach es X.env).length = n := by rfl) (hst : (assignEach es X.env).findIdx? (·.1) = none := by rfl) : PG X (.Tuple es k pos) (gTup K n t) := hK ▸ pg_tup hc h hn hst
theorem piT (K : PySem.W.Frag) {X : Cx} {tg l : Expr} {tl : TE} (hl : PE X l tl) (hK : X.K = K := by rfl) : PI X tg l (iTup K tl) := hK ▸ pi_tup hl
theorem piL (K : PySem.W.Frag) {X : Cx} {tg l : Expr} {tl : TE} (hl : PE X l tl) (hK : X.K = K := by rfl) : PI X tg l (iList K tl) := hK ▸ pi_list hl
end L2

set_option maxRecDepth 100000
set_option maxHeartbeats 4000000
namespace Law
open PySem L2
section
variable {P : Program} {w : World} {K : PySem.W.Frag} {mg : Str → Option Value} {base : Heap} {f g : Addr} {fd gd : FuncData}
/-- a world by cells -/
def spWorld (K : PySem.W.Frag) : Sp := fun vs H Q _ => ∃ (a p : Addr) (ns : List Int) (k most : Nat) (m : V), vs = [.ref a, .ref p, .int (most : Int)] ∧ Scr K H a ns ∧ H p = some (.lst [.int (k : Int), m]) ∧ 0 < most ∧ most ≤ 6 ∧
  ∀ l H' k' (N : Nat) (W : Wo N) us, SameX p H H' → H l = none → H' p = some (.lst [.int ((k' : Nat) : Int), m]) → WorldAt H' l W us → 0 < N → N ≤ most → W.rises → Q (.ref l) H'
theorem scWorld : FnScope ["script", "spot", "most", "many", "world", "k", "cell", "marks", "ways"] ["script", "spot", "most"] (defScope sWorld) := ⟨rfl, rfl, rfl, by decide +kernel, rfl, by decide +kernel, by decide +kernel⟩
theorem at3 {i : Nat} (h : i < 3) : ∃ x, atI [V.int 1, V.int 2, V.int 4] (0 + (i : Int)) = some (.int x) ∧ 0 < x ∧ x < 100 := by
  rcases (show i = 0 ∨ i = 1 ∨ i = 2 by omega) with e | e | e <;> subst e
  · exact ⟨1, rfl, by decide, by decide⟩
  · exact ⟨2, rfl, by decide, by decide⟩
  · exact ⟨4, rfl, by decide, by decide⟩
theorem atP {i : Nat} (h : i < 3) : ∃ c, atI (Str.ofString "pqr").cps.toList (0 + (i : Int)) = some c := by
  rcases (show i = 0 ∨ i = 1 ∨ i = 2 by omega) with e | e | e <;> subst e
  · exact ⟨112, by decide +kernel⟩
  · exact ⟨113, by decide +kernel⟩
  · exact ⟨114, by decide +kernel⟩
theorem at6 {i : Nat} (h : i < 6) : ∃ x, atI [V.int 1, V.int 2, V.int 4, V.int 8, V.int 16, V.int 32] (0 + (i : Int)) = some (.int x) ∧ 0 < x ∧ x < 100 := by
  rcases (show i = 0 ∨ i = 1 ∨ i = 2 ∨ i = 3 ∨ i = 4 ∨ i = 5 by omega) with e | e | e | e | e | e <;> subst e
  · exact ⟨1, rfl, by decide, by decide⟩
  · exact ⟨2, rfl, by decide, by decide⟩
  · exact ⟨4, rfl, by decide, by decide⟩
  · exact ⟨8, rfl, by decide, by decide⟩
  · exact ⟨16, rfl, by decide, by decide⟩
  · exact ⟨32, rfl, by decide, by decide⟩
theorem ndJC : (["j", "cell"] : List Str).Nodup := by decide +kernel
theorem ndWC : (["way", "cell"] : List Str).Nodup := by decide +kernel
theorem ok_world (F : Fun K "_law_world" "_law_world" sWorld f fd) {fN : Addr} {dN : FuncData} (GN : FnOk P w K mg base CX0 2 fN dN ["script", "spot"] (spNext K)) (bN : Binds K dN ["script", "spot"] []) (kN : PySem.W.keepIn K (.ref fN) = true) (mN : mg "_law_next" = some (.ref fN))
    (mr : mg "range" = none) (mt : mg "tuple" = none) : FnOk P w K mg base CX0 3 f fd ["script", "spot", "most"] (spWorld K) := by
  refine F.ok scWorld (fun vs H Q E h => ?_) (fun cdv A outer s H vs Q E hr h => ?_)
  · obtain ⟨a, p, ns, k, most, m, rfl, _⟩ := h
    rfl
  obtain ⟨a, p, ns, k, most, m, rfl, hS, hp, hm0, hm6, q⟩ := h
  refine ⟨_, pss_cons (ps_set (i := 3) scWorld.nd rfl (Or.inl rfl) (pe_op op_add pe_int (pe_op op_mod (pe_call GN hr rfl mN kN bN .nil pass0 (pa_cons (pv 0) (pa_cons (pv 1) pa_nil))) (pv 2))))
    (pss_cons (ps_set (i := 4) scWorld.nd rfl (Or.inl rfl) (pe_lst pa_nil))
    (pss_cons (ps_for PassesOwn.never rfl (pi_range1 rfl mr (pa_cons (pv 3) pa_nil)) (pg_name (i := 5) scWorld.nd rfl (Or.inl rfl))
      (pss_cons (ps_set (i := 6) scWorld.nd rfl (Or.inr rfl) (pe_op op_add (pe_call GN hr rfl mN kN bN .nil pass0 (pa_cons (pv 0) (pa_cons (pv 1) pa_nil))) (pe_op op_mul pe_int (pv 5))))
      (pss_cons (ps_set (i := 7) scWorld.nd rfl (Or.inl rfl) (pe_bm PySem.F.plainAttrs_str PySem.F.slot_str_join PySem.F.type_str_join mt_join pe_str (pa_cons (pe_comp (N := ["j", "cell"]) (capt := [none, some 6]) rfl (pi_range1 rfl mr (pa_cons pe_int pa_nil)) rfl (by repeat (first | exact .nil | refine .cons rfl ?_))
          (by repeat (first | exact .nil | refine .skip (by decide) (by decide) ?_ | refine .free ⟨_, rfl⟩ ?_)) (.tgt (.var rfl (.inl rfl) ⟨_, rfl⟩ (.inl rfl) .nil))
          (fun _ _ _ _ _ => pg_name (i := 0) ndJC rfl (Or.inl rfl)) (fun _ _ _ _ _ => pif_one (pt_cmpR op_eq (pe_op op_mod (pe_op op_fdiv (pv 1) (pe_ix (ixL K) (pe_lst (pa_cons pe_int (pa_cons pe_int (pa_cons pe_int pa_nil)))) (pv 0) (fun _ _ => rfl))) pe_int) pe_int (nomark _)))
          (fun _ _ _ _ _ => pe_ix ix_str pe_str (pv 0) (fun _ _ => rfl))) pa_nil)))
      (pss_cons (ps_comp (i := 8) scWorld.nd rfl (Or.inl rfl) (N := ["way", "cell"]) (capt := [none, some 6]) rfl (pi_range1 rfl mr (pa_cons (pv 3) pa_nil)) rfl (by repeat (first | exact .nil | refine .cons rfl ?_))
          (by repeat (first | exact .nil | refine .skip (by decide) (by decide) ?_ | refine .free ⟨_, rfl⟩ ?_)) (.tgt (.var rfl (.inl rfl) ⟨_, rfl⟩ (.inl rfl) .nil))
          (fun _ _ _ _ _ => pg_name (i := 0) ndWC rfl (Or.inl rfl)) (fun _ _ _ _ _ => pif_one (pt_cmpR op_eq (pe_op op_mod (pe_op op_fdiv (pe_op op_fdiv (pv 1) pe_int) (pe_ix (ixL K) (pe_lst (pa_cons pe_int (pa_cons pe_int (pa_cons pe_int (pa_cons pe_int (pa_cons pe_int (pa_cons pe_int pa_nil))))))) (pv 0) (fun _ _ => rfl))) pe_int) pe_int (nomark _)))
          (fun _ _ _ _ _ => pv 0))
      (pss_one (ps_expr (pe_bm PySem.F.plainAttrs_list PySem.F.slot_list_append PySem.F.type_list_append mt_append (pv 4) (pa_cons (pe_tup (pa_cons (pv 7) (pa_cons (pe_callTy call_tuple_of rfl mt PyProof.Rows.boot_tuple (pa_cons (pv 8) pa_nil)) pa_nil))) pa_nil))))))))
    (pss_one (ps_ret (pv 4))))), ?_⟩
  have c0 := Int.emod_nonneg (Mi.cell ns k) (show (most : Int) ≠ 0 by omega)
  have c1 := Int.emod_lt_of_pos (Mi.cell ns k) (show (0 : Int) < (most : Int) by omega)
  refine ⟨_, rfl, _, rfl, a, p, ns, k, m, rfl, hS, hp, _, rfl, _, _, rfl, rfl, (by show (0 : Int) < (most : Int); omega), _, _, rfl, rfl, (by decide), fun l hl => ?_⟩
  have np : l ≠ p := fun z => by rw [z, upd_same] at hl; cases hl
  have hln : H l = none := by rw [upd_ne np] at hl; exact hl
  have x1 : SameX p H (upd (upd H p (.lst [.int ((k + 1 : Nat) : Int), m])) l (.lst [])) := samex_upd.after (same_new hl _)
  have p1 : (upd (upd H p (.lst [.int ((k + 1 : Nat) : Int), m])) l (.lst [])) p = some (.lst [.int ((k + 1 : Nat) : Int), m]) := by rw [upd_ne np.symm]; exact upd_same
  refine ⟨_, rfl, 1 + Mi.cell ns k % (most : Int), rfl, by omega, by omega, ?_⟩
  have N0 : 0 < (1 + Mi.cell ns k % (most : Int)).toNat := by omega
  have N6 : (1 + Mi.cell ns k % (most : Int)).toNat ≤ most := by omega
  have NI : 1 + Mi.cell ns k % (most : Int) = ((1 + Mi.cell ns k % (most : Int)).toNat : Int) := by omega
  generalize hN : (1 + Mi.cell ns k % (most : Int)).toNat = N at N0 N6 NI
  refine for_range (lo := 0) (n := N) (fun i σ H2 => ∃ (k' : Nat) (z5 z6 z7 z8 : Option V) (us : List V) (pl : List (Str × List Nat)), σ = [some (.ref a), some (.ref p), some (.int (most : Int)), some (.int (1 + Mi.cell ns k % (most : Int))), some (.ref l), z5, z6, z7, z8] ∧ SameX p H H2 ∧ H2 p = some (.lst [.int (k' : Int), m]) ∧ H2 l = some (.lst us) ∧ Paired (PlaceAt H2) pl us ∧ pl.length = i ∧ ∀ q ∈ pl, (∀ w ∈ q.2, w < N) ∧ q.2.Pairwise (· < ·))
    ⟨k + 1, none, none, none, none, [], [], rfl, x1, p1, upd_same, .nil, rfl, fun q hq => by cases hq⟩ ?_ ?_
  · rintro i σ H2 hi ⟨k', z5, z6, z7, z8, us, pl, rfl, x2, p2, l2, pr2, len2, all2⟩
    refine ⟨_, rfl, _, rfl, a, p, ns, k', m, rfl, hS.keep hp x2, p2, _, rfl, _, _, rfl, rfl, .inl ⟨by decide, by decide⟩, _, _, rfl, rfl, ?_⟩
    generalize hH3 : upd H2 p (.lst [.int ((k' + 1 : Nat) : Int), m]) = H3
    have x3 : SameX p H2 H3 := by rw [← hH3]; exact samex_upd
    have p3 : H3 p = some (.lst [.int ((k' + 1 : Nat) : Int), m]) := by rw [← hH3]; exact upd_same
    have l3 : H3 l = some (.lst us) := x3 _ _ l2 np
    have pr3 : Paired (PlaceAt H3) pl us := L2.Paired.mapP pr2 fun _ _ z => z.imp fun b xs e => x3 _ _ e fun y => by rw [y, p2] at e; cases e
    generalize hcell : Mi.cell ns k' + 77777 * (0 + (i : Int)) = cell
    refine ⟨rfl, 3, rfl, by decide, by decide, ?_⟩
    refine comp_range (lo := 0) (n := Int.toNat 3) (fun D i ys H4 => Same H3 H4 ∧ H3 D = none ∧ H4 D = some (.lst ys) ∧ (∃ ts : List Str, ys = ts.map V.str ∧ ∀ y ∈ ts, y.length ≤ 1) ∧ ys.length ≤ i) ?_ ?_ ?_ ?_
    · exact fun D hD => ⟨same_new hD _, hD, upd_same, ⟨[], rfl, fun y hy => by cases hy⟩, Nat.le_refl _⟩
    · rintro D j ys H4 hj ⟨sm, hD, h4, _, hl4⟩
      have : j ≤ 3 := hj
      exact ⟨h4, fun _ => small1000 (by omega)⟩
    · rintro D j ys H4 hj ⟨sm, hD, h4, ⟨ts, ey, hts⟩, hl4⟩
      have hj3 : j < 3 := hj
      obtain ⟨x, ex, x0, x9⟩ := at3 hj3
      obtain ⟨ch, ech⟩ := atP hj3
      refine ⟨⟨rfl, trivial⟩, _, rfl, (by show 3 ≤ sizeLine; decide), fun e he => ?_⟩
      have s5 := same_new he (.lst [V.int 1, V.int 2, V.int 4])
      refine ⟨_, rfl, e, _, _, _, rfl, rfl, SqL.of upd_same, ex, _, _, rfl, rfl, ⟨x0, by omega⟩, _, _, rfl, rfl, (by show (0 : Int) < 2; decide), rfl, _, rfl, ite2 (fun _ => ?_) (fun _ => ?_)⟩
      · have h5 := s5 _ _ h4
        refine ⟨_, rfl, _, _, ch, rfl, rfl, (by decide +kernel), ech, h5, fun b o eb => ?_, hD, upd_same, ⟨ts ++ [⟨#[ch]⟩], by rw [ey, List.map_append]; rfl, fun y hy => ?_⟩, by simp; omega⟩
        · rw [upd_ne (ne_of_none eb hD)]
          exact s5 _ _ (sm _ _ eb)
        · rcases List.mem_append.mp hy with z | z
          · exact hts y z
          · rw [List.mem_singleton.mp z]; exact Nat.le_refl 1
      · exact ⟨sm.trans s5, hD, s5 _ _ h4, ⟨ts, ey, hts⟩, by omega⟩
    rintro D ys H4 ⟨sm4, hD, h4, ⟨ts, ey, hts⟩, hl4⟩
    subst ey
    rw [List.length_map] at hl4
    refine ⟨_, D, ts, rfl, rfl, SqL.of h4, joinOk0 hts (by have : Int.toNat 3 = 3 := rfl; omega), ?_⟩
    generalize Str.join (Str.ofString "") ts = mk
    refine ⟨_, rfl, 1 + Mi.cell ns k % (most : Int), rfl, by omega, by omega, ?_⟩
    rw [hN]
    refine comp_range (lo := 0) (n := N) (fun D j ys H5 => Same H4 H5 ∧ H4 D = none ∧ H5 D = some (.lst ys) ∧ (∃ ws : List Nat, ys = ws.map (fun (w : Nat) => V.int (w : Int)) ∧ (∀ w ∈ ws, w < j) ∧ ws.Pairwise (· < ·)) ∧ ys.length ≤ j) ?_ ?_ ?_ ?_
    · exact fun D hD => ⟨same_new hD _, hD, upd_same, ⟨[], rfl, fun y hy => by (cases hy), .nil⟩, Nat.le_refl _⟩
    · rintro D j ys H5 hj ⟨sm, hD, h5, _, hl5⟩
      exact ⟨h5, fun _ => small1000 (by omega)⟩
    · rintro D j ys H5 hj ⟨sm, hD, h5, ⟨ws, ey, hws, hpw⟩, hl5⟩
      obtain ⟨x, ex, x0, x9⟩ := at6 (show j < 6 by omega)
      refine ⟨⟨rfl, trivial⟩, _, rfl, _, _, rfl, rfl, ⟨by decide, by decide⟩, (by show 6 ≤ sizeLine; decide), fun e he => ?_⟩
      have s6 := same_new he (.lst [V.int 1, V.int 2, V.int 4, V.int 8, V.int 16, V.int 32])
      refine ⟨_, rfl, e, _, _, _, rfl, rfl, SqL.of upd_same, ex, _, _, rfl, rfl, ⟨x0, by omega⟩, _, _, rfl, rfl, (by show (0 : Int) < 2; decide), rfl, _, rfl, ite2 (fun _ => ?_) (fun _ => ?_)⟩
      · refine ⟨_, rfl, s6 _ _ h5, fun b o eb => ?_, hD, upd_same, ⟨ws ++ [j], ?_, fun w' hw' => ?_, ?_⟩, by simp; omega⟩
        · rw [upd_ne (ne_of_none eb hD)]
          exact s6 _ _ (sm _ _ eb)
        · rw [ey, List.map_append]
          show _ = _ ++ [V.int (j : Int)]
          rw [show (0 : Int) + (j : Int) = (j : Int) by omega]
        · rcases List.mem_append.mp hw' with z | z
          · have := hws w' z; omega
          · rw [List.mem_singleton.mp z]; omega
        · refine List.pairwise_append.mpr ⟨hpw, List.pairwise_singleton _ _, fun a ha b hb => ?_⟩
          rw [List.mem_singleton.mp hb]
          exact hws a ha
      · exact ⟨sm.trans s6, hD, s6 _ _ h5, ⟨ws, ey, fun w' hw' => by have := hws w' hw'; omega, hpw⟩, by omega⟩
    rintro D5 ys H5 ⟨sm5, hD5, h5, ⟨ws, ey, hws, hpw⟩, hl5⟩
    subst ey
    have s5 := sm4.trans sm5
    refine ⟨_, rfl, .inl ⟨rfl, _, SqL.of (s5 _ _ l3)⟩, _, rfl, _, rfl, D5, _, rfl, .inl ⟨SqL.of h5, fun t ht => ⟨(by show 2 ≤ sizeLine; decide), fun u hu => ?_⟩⟩⟩
    have s7 := s5.trans ((same_new ht (.tup (ws.map fun (w : Nat) => V.int (w : Int)))).trans (same_new hu (.tup [V.str mk, V.ref t])))
    have lu : us.length = i := by rw [← len2]; exact (Paired.length pr3).symm
    have l7 := s7 _ _ l3
    refine ⟨l, us, V.ref u, rfl, rfl, l7, small1000 (by omega), k' + 1, _, _, _, _, us ++ [V.ref u], pl ++ [(mk, ws)], rfl, fun b o eb hb => ?_, ?_, upd_same, ?_, by simp [len2], fun q hq => ?_⟩
    · rw [upd_ne (fun z => by rw [z, hln] at eb; cases eb)]
      exact s7 _ _ (x3 _ _ (x2 _ _ eb hb) hb)
    · rw [upd_ne np.symm]
      exact s7 _ _ p3
    · have kk : ∀ b xs, (upd (upd H5 t (.tup (ws.map fun (w : Nat) => V.int (w : Int)))) u (.tup [V.str mk, V.ref t])) b = some (.tup xs) → (upd (upd (upd H5 t (.tup (ws.map fun (w : Nat) => V.int (w : Int)))) u (.tup [V.str mk, V.ref t])) l (.lst (us ++ [V.ref u]))) b = some (.tup xs) := fun b xs e => by
        rw [upd_ne (fun z => by rw [z, l7] at e; cases e)]
        exact e
      refine pair_snoc ?_ (L2.Paired.mapP pr3 fun _ _ z => (z.imp fun b xs e => s7 _ _ e).imp kk)
      exact ⟨u, t, rfl, kk _ _ upd_same, kk _ _ (by rw [upd_ne (ne_of_none upd_same hu)]; exact upd_same)⟩
    · rcases List.mem_append.mp hq with z | z
      · exact all2 q z
      · rw [List.mem_singleton.mp z]
        exact ⟨hws, hpw⟩
  · rintro σ H2 ⟨k', z5, z6, z7, z8, us, pl, rfl, x2, p2, l2, pr2, len2, all2⟩
    refine ⟨_, rfl, ?_⟩
    have wa := worldAt_of l2 pr2 fun q hq => by rw [len2]; exact (all2 q hq).1
    refine q l H2 k' pl.length (woOf pl) us x2 hln p2 wa (by omega) (by omega) fun i => ?_
    have : ((woOf pl).ws i).map Fin.val = pl[i.val].2 := by
      show (pl[i.val].2.filterMap _).map Fin.val = _
      rw [woOf_ws (fun w' hw' => Nat.lt_of_lt_of_eq ((all2 _ (List.getElem_mem i.isLt)).1 w' hw') len2.symm)]
    rw [this]
    exact (all2 _ (List.getElem_mem i.isLt)).2
end
end Law

set_option maxRecDepth 100000
set_option maxHeartbeats 4000000
namespace L2
open PySem
/-- what a statement without parts says at a place -/
def selfAt : Sy → Str → Bool
  | .mk b x, m => Se.inM x m == b
  | .y0 b, _ => b
  | _, _ => false
theorem anyB (K : PySem.W.Frag) {X : Cx} (hc : X.calm = true) (h : X.K = K := by rfl) : CallR X (.builtin "any") (fun xs H Q => ∃ (l : Addr) (bs : List Bool), xs = [.ref l] ∧ SqL K H l (bs.map V.bl) ∧ Q (.bl (bs.any id)) H) := h ▸ call_anyB hc
end L2
namespace L2
namespace Sy
theorem kind_st {s : Sy} (h : s.kind ∈ (["some", "every"] : List PySem.Str)) : ∃ b u, s = .st b u := by
  cases s with
  | nm x => exact absurd h (by simp only [kind]; decide)
  | y0 b => cases b <;> exact absurd h (by simp only [kind]; decide)
  | mk b x => cases b <;> exact absurd h (by simp only [kind]; decide)
  | st b x => exact ⟨b, x, rfl⟩
  | pr b x y => cases b <;> exact absurd h (by simp only [kind]; decide)
  | bn b x y => cases b <;> exact absurd h (by simp only [kind]; decide)
theorem kind_pr {s : Sy} (h : s.kind ∈ (["both", "either"] : List PySem.Str)) : ∃ b u t, s = .pr b u t := by
  cases s with
  | nm x => exact absurd h (by simp only [kind]; decide)
  | y0 b => cases b <;> exact absurd h (by simp only [kind]; decide)
  | mk b x => cases b <;> exact absurd h (by simp only [kind]; decide)
  | st b x => cases b <;> exact absurd h (by simp only [kind]; decide)
  | pr b x y => exact ⟨b, x, y, rfl⟩
  | bn b x y => cases b <;> exact absurd h (by simp only [kind]; decide)
theorem st_kind (b : Bool) : k2 b ∈ (["some", "every"] : List PySem.Str) := by cases b <;> decide
theorem pr_kind (b : Bool) : k3 b ∈ (["both", "either"] : List PySem.Str) := by cases b <;> decide
end Sy
theorem rises_len {N : Nat} : ∀ {l : List Nat} {a : Nat}, l.Pairwise (· < ·) → (∀ w ∈ l, a ≤ w ∧ w < N) → l.length ≤ N - a
  | [], _, _, _ => Nat.zero_le _
  | w :: l, a, hp, h => by
    obtain ⟨h1, h2⟩ := List.pairwise_cons.mp hp
    have hw := h w (by simp)
    have ih := rises_len (l := l) (a := w + 1) h2 fun u hu => ⟨h1 u hu, (h u (List.mem_cons_of_mem _ hu)).2⟩
    rw [List.length_cons]
    omega
theorem Wo.ways_len {N : Nat} {W : Wo N} (h : W.rises) (i : Fin N) : (W.ws i).length ≤ N := by
  have z := rises_len (a := 0) (N := N) (h i) fun w hw => by
    obtain ⟨u, _, e⟩ := List.mem_map.mp hw
    rw [← e]
    exact ⟨Nat.zero_le _, u.isLt⟩
  rw [List.length_map] at z
  omega
theorem take_all {α : Type} {l : List α} {n : Nat} (h : l.length = n) : l.take n = l := by rw [← h]; exact List.take_length
end L2
namespace Law
open PySem L2
section
seal PA PE PS PSs PT PI PG PGs PIf
variable {P : Program} {w : World} {K : PySem.W.Frag} {mg : Str → Option Value} {base : Heap} {f g : Addr} {fd gd : FuncData}
def spLedOn (K : PySem.W.Frag) : Sp := fun vs H Q _ => ∃ (b : Bool) (l : Addr) (bs : List Bool), vs = [.str (Sy.k2 b), .ref l] ∧ SqL K H l (bs.map V.bl) ∧ Q (.bl (if b = true then bs.any id else bs.all id)) H
theorem scLedOn : FnScope ["kind", "found"] ["kind", "found"] (defScope sLedOn) := ⟨rfl, rfl, rfl, by decide +kernel, rfl, by decide +kernel, by decide +kernel⟩
theorem ok_ledon (F : Fun K "led_on" "led_on" sLedOn f fd) (man : mg "any" = none) (mal : mg "all" = none) : FnOk P w K mg base CX0 1 f fd ["kind", "found"] (spLedOn K) := by
  refine F.ok scLedOn (fun vs H Q E h => ?_) (fun cdv A outer s H vs Q E hr h => ?_)
  · obtain ⟨b, l, bs, rfl, _⟩ := h
    rfl
  obtain ⟨b, l, bs, rfl, hl, q⟩ := h
  refine ⟨_, pss_one (ps_ret (pe_ifExp (pt_cmpR op_eq (pv 0) pe_str (nomark _)) (pe_callB (call_anyB rfl) rfl man PyProof.Rows.boot_any (pa_cons (pv 1) pa_nil)) (pe_callB (call_allB rfl) rfl mal PyProof.Rows.boot_all (pa_cons (pv 1) pa_nil)))), ?_⟩
  refine ⟨_, rfl, rfl, _, rfl, ifS (fun e => ?_) (fun e => ?_)⟩
  · cases b with
    | true => exact ⟨_, rfl, l, bs, rfl, hl, q⟩
    | false => exact absurd e (by decide)
  · cases b with
    | true => exact absurd rfl e
    | false => exact ⟨_, rfl, l, bs, rfl, hl, q⟩
def spByItself : Sp := fun vs H Q _ => ∃ (v : V) (s : Sy) (m : Str), vs = [v, .str m] ∧ SyAt H s v ∧ ((∃ b, s = .y0 b) ∨ ∃ b x, s = .mk b x) ∧ Q (.bl (selfAt s m)) H
theorem scByItself : FnScope ["saying", "marks"] ["saying", "marks"] (defScope sByItself) := ⟨rfl, rfl, rfl, by decide +kernel, rfl, by decide +kernel, by decide +kernel⟩
theorem ok_byitself (F : Fun K "holds_by_itself" "holds_by_itself" sByItself f fd) : FnOk P w K mg base CX0 1 f fd ["saying", "marks"] spByItself := by
  refine F.ok scByItself (fun vs H Q E h => ?_) (fun cdv A outer s H vs Q E hr h => ?_)
  · obtain ⟨v, s, m, rfl, _⟩ := h
    rfl
  obtain ⟨v, s, m, rfl, hs, hk, q⟩ := h
  refine ⟨_, pss_cons (ps_if (pt_cmpR op_eq (pe_ix ix_tup (pv 0) pe_int (fun _ _ => rfl)) pe_str (nomark _)) (pss_one (ps_ret (pe_cmpR op_in_str (pe_ix ix_tup (pv 0) pe_int (fun _ _ => rfl)) (pv 1) rfl))) pss_nil)
    (pss_cons (ps_if (pt_cmpR op_eq (pe_ix ix_tup (pv 0) pe_int (fun _ _ => rfl)) pe_str (nomark _)) (pss_one (ps_ret (pe_cmpR op_notIn_str (pe_ix ix_tup (pv 0) pe_int (fun _ _ => rfl)) (pv 1) rfl))) pss_nil)
    (pss_one (ps_ret (pe_cmpR op_eq (pe_ix ix_tup (pv 0) pe_int (fun _ _ => rfl)) pe_str (nomark _))))), ?_⟩
  rcases hk with ⟨b, rfl⟩ | ⟨b, x, rfl⟩
  · obtain ⟨a, rfl, ha⟩ := hs
    refine ⟨_, rfl, a, _, _, _, rfl, rfl, SqT.of ha, at0, rfl, _, rfl, ifS (fun e => absurd e (by cases b <;> decide)) (fun _ => ?_)⟩
    refine ⟨_, rfl, a, _, _, _, rfl, rfl, SqT.of ha, at0, rfl, _, rfl, ifS (fun e => absurd e (by cases b <;> decide)) (fun _ => ?_)⟩
    refine ⟨_, rfl, a, _, _, _, rfl, rfl, SqT.of ha, at0, rfl, ?_⟩
    have e : decide (V.str (Sy.k0 b) = V.str "yes") = b := by
      cases b with
      | true => exact decide_eq_true rfl
      | false => exact decide_eq_false (fun z => absurd (by injection z) (by decide : ¬ Sy.k0 false = "yes"))
    rw [e]
    exact q
  · obtain ⟨a, rfl, ha⟩ := hs
    refine ⟨_, rfl, a, _, _, _, rfl, rfl, SqT.of ha, at0, rfl, _, rfl, ifS (fun e => ?_) (fun e => ?_)⟩
    · cases b with
      | false => exact absurd e (by decide)
      | true =>
        refine ⟨_, rfl, a, _, _, _, rfl, rfl, SqT.of ha, at1, _, rfl, _, _, rfl, rfl, ?_⟩
        have z : (Se.inM x m == true) = Se.inM x m := by cases Se.inM x m <;> rfl
        rw [selfAt, z] at q
        exact q
    · cases b with
      | true => exact absurd rfl e
      | false =>
        refine ⟨_, rfl, a, _, _, _, rfl, rfl, SqT.of ha, at0, rfl, _, rfl, ifS (fun _ => ?_) (fun e => absurd rfl e)⟩
        refine ⟨_, rfl, a, _, _, _, rfl, rfl, SqT.of ha, at1, _, rfl, _, _, rfl, rfl, ?_⟩
        have z : (Se.inM x m == false) = !Se.inM x m := by cases Se.inM x m <;> rfl
        rw [selfAt, z] at q
        exact q
/-- for each place whether the statement holds there -/
def spHold (D : Nat) : Sp := fun vs H Q _ => ∃ (N : Nat) (l d : Addr) (W : Wo N) (us : List V) (v : V) (s : Sy) (B : List Str) (e : En N), vs = [.ref l, v, .ref d] ∧ WorldAt H l W us ∧ SyAt H s v ∧ EnvAt H d B e ∧ s.ok B ∧ s.depth ≤ D ∧ B.length + D ≤ 900 ∧ N ≤ 900 ∧ W.rises ∧
  ∀ r H', Same H H' → H r = none → H' r = some (.lst (tr (Se.hold W s e))) → Q (.ref r) H'
/-- the same of a least or most -/
def spClosed (D : Nat) : Sp := fun vs H Q _ => ∃ (N : Nat) (l d : Addr) (W : Wo N) (us : List V) (v : V) (b : Bool) (x : Str) (u : Sy) (B : List Str) (e : En N), vs = [.ref l, v, .ref d] ∧ WorldAt H l W us ∧ SyAt H (.bn b x u) v ∧ EnvAt H d B e ∧ (Sy.bn b x u).ok B ∧ (Sy.bn b x u).depth ≤ D ∧ B.length + D ≤ 900 ∧ N ≤ 900 ∧ W.rises ∧
  ∀ r H', Same H H' → H r = none → H' r = some (.lst (tr (Se.hold W (.bn b x u) e))) → Q (.ref r) H'
theorem scHold : FnScope ["world", "saying", "named", "kind", "inner", "left", "right"] ["world", "saying", "named"] (defScope sHolding) := ⟨rfl, rfl, rfl, by decide +kernel, rfl, by decide +kernel, by decide +kernel⟩
theorem ndMWIK : (["marks", "ways", "inner", "kind"] : List Str).Nodup := by decide +kernel
theorem ndWI : (["way", "inner"] : List Str).Nodup := by decide +kernel
theorem ndOT : (["one", "two"] : List Str).Nodup := by decide +kernel
theorem ndMWS : (["marks", "ways", "saying"] : List Str).Nodup := by decide +kernel
theorem ok_hold (F : Fun K "holding" "holding" sHolding f fd) {D : Nat} {fC fL fB aB : Addr} {dC dL dB : FuncData} (ih : FnOk P w K mg base CX0 (2 + 2 * D) f fd ["world", "saying", "named"] (spHold D)) (bH : Binds K fd ["world", "saying", "named"] []) (kH : PySem.W.keepIn K (.ref f) = true) (mH : mg "holding" = some (.ref f))
    (GC : FnOk P w K mg base CX0 (3 + 2 * D) fC dC ["world", "saying", "named"] (spClosed (D + 1))) (bC : Binds K dC ["world", "saying", "named"] []) (kC : PySem.W.keepIn K (.ref fC) = true) (mC : mg "closed" = some (.ref fC))
    (GL : FnOk P w K mg base CX0 1 fL dL ["kind", "found"] (spLedOn K)) (bL : Binds K dL ["kind", "found"] []) (kL : PySem.W.keepIn K (.ref fL) = true) (mL : mg "led_on" = some (.ref fL))
    (GB : FnOk P w K mg base CX0 1 fB dB ["saying", "marks"] spByItself) (bB : Binds K dB ["saying", "marks"] []) (kB : PySem.W.keepIn K (.ref fB) = true) (mB : mg "holds_by_itself" = some (.ref fB))
    (mBi : mg "BINDERS" = some (.ref aB)) (kBi : ∀ H, SqT K H aB ((["least", "most"] : List Str).map V.str)) (mli : mg "list" = none) (mz : mg "zip" = none) :
    FnOk P w K mg base CX0 (3 + 2 * D + 1) f fd ["world", "saying", "named"] (spHold (D + 1)) := by
  refine F.ok scHold (fun vs H Q E h => ?_) (fun cdv A outer s H vs Q E hr h => ?_)
  · obtain ⟨N, l, d, W, us, v, s, B, e, rfl, _⟩ := h
    rfl
  obtain ⟨N, l, d, W, us, v, s, B, e, rfl, hW, hs, he, hok, hd, hBD, hN, hri, q⟩ := id h
  have hr1 : L2.Room 1 _ := hr.mono (by omega)
  have hr2 : L2.Room (2 + 2 * D) _ := hr.mono (by omega)
  have hu : _ + 1 < cLine := Nat.lt_of_le_of_lt (Nat.add_le_add_left (by decide : 1 ≤ 64) _) hr.units
  refine ⟨_, pss_cons (ps_set (i := 3) scHold.nd rfl (Or.inr rfl) (pe_ix ix_tup (pv 1) pe_int (fun _ _ => rfl)))
    (pss_cons (ps_if (pt_cmpR op_eq (pv 3) pe_str (nomark _)) (pss_one (ps_ret (pe_callTy call_list_of rfl mli PyProof.Rows.boot_list (pa_cons (pe_dget hu (pv 2) (pe_ix ix_tup (pv 1) pe_int (fun _ _ => rfl)) (fun _ _ => rfl)) pa_nil)))) pss_nil)
    (pss_cons (ps_if (pt_cmpR op_in_seq (pv 3) (pe_glob (v := .ref aB) rfl mBi rfl) rfl) (pss_one (ps_ret (pe_call GC hr rfl mC kC bC .nil pass0 (pa_cons (pv 0) (pa_cons (pv 1) (pa_cons (pv 2) pa_nil)))))) pss_nil)
    (pss_cons (ps_if (pt_cmpR op_in_seq (pv 3) (pe_tup (pa_cons pe_str (pa_cons pe_str pa_nil))) rfl)
      (pss_cons (ps_set (i := 4) scHold.nd rfl (Or.inr rfl) (pe_call ih hr2 rfl mH kH bH .nil pass0 (pa_cons (pv 0) (pa_cons (pe_ix ix_tup (pv 1) pe_int (fun _ _ => rfl)) (pa_cons (pv 2) pa_nil)))))
      (pss_one (ps_ret (pe_comp (N := ["marks", "ways", "inner", "kind"]) (capt := [none, none, some 4, some 3]) rfl (pi_list (pv 0)) rfl (by repeat (first | exact .nil | refine .cons rfl ?_))
        (by repeat (first | exact .nil | refine .skip (by decide) (by decide) ?_ | refine .free ⟨_, rfl⟩ ?_)) (.tgt (.tgt (.var rfl (.inl rfl) ⟨_, rfl⟩ (.inl rfl) (.var rfl (.inl rfl) ⟨_, rfl⟩ (.inl rfl) .nil))))
        (fun _ _ _ _ _ => pgT K (n := 2) rfl (pgs_cons (pg_name (i := 0) ndMWIK rfl (Or.inl rfl)) (pgs_cons (pg_name (i := 1) ndMWIK rfl (Or.inl rfl)) pgs_nil))) (fun _ _ _ _ _ => pif_nil)
        (fun _ _ _ _ _ => pe_call GL hr1 rfl mL kL bL .nil pass0 (pa_cons (pv 3) (pa_cons (pe_comp (N := ["way", "inner"]) (capt := [none, some 2]) rfl (piT K (pv 1)) rfl (by repeat (first | exact .nil | refine .cons rfl ?_))
          (by repeat (first | exact .nil | refine .skip (by decide) (by decide) ?_ | refine .free ⟨_, rfl⟩ ?_)) (.tgt (.var rfl (.inl rfl) ⟨_, rfl⟩ (.inl rfl) .nil))
          (fun _ _ _ _ _ => pg_name (i := 0) ndWI rfl (Or.inl rfl)) (fun _ _ _ _ _ => pif_nil)
          (fun _ _ _ _ _ => pe_ix (ixL K) (pv 1) (pv 0) (fun _ _ => rfl))) pa_nil))))))) pss_nil)
    (pss_cons (ps_if (pt_cmpR op_in_seq (pv 3) (pe_tup (pa_cons pe_str (pa_cons pe_str pa_nil))) rfl)
      (pss_cons (ps_set (i := 5) scHold.nd rfl (Or.inl rfl) (pe_call ih hr2 rfl mH kH bH .nil pass0 (pa_cons (pv 0) (pa_cons (pe_ix ix_tup (pv 1) pe_int (fun _ _ => rfl)) (pa_cons (pv 2) pa_nil)))))
      (pss_cons (ps_set (i := 6) scHold.nd rfl (Or.inl rfl) (pe_call ih hr2 rfl mH kH bH .nil pass0 (pa_cons (pv 0) (pa_cons (pe_ix ix_tup (pv 1) pe_int (fun _ _ => rfl)) (pa_cons (pv 2) pa_nil)))))
      (pss_cons (ps_if (pt_cmpR op_eq (pv 3) pe_str (nomark _)) (pss_one (ps_ret (pe_comp (N := ["one", "two"]) (capt := [none, none]) rfl (pi_zip rfl mz (pa_cons (pv 5) (pa_cons (pv 6) pa_nil))) rfl (by repeat (first | exact .nil | refine .cons rfl ?_))
          (by repeat (first | exact .nil | refine .skip (by decide) (by decide) ?_ | refine .free ⟨_, rfl⟩ ?_)) (.tgt (.tgt .nil))
          (fun _ _ _ _ _ => pgT K (n := 2) rfl (pgs_cons (pg_name (i := 0) ndOT rfl (Or.inl rfl)) (pgs_cons (pg_name (i := 1) ndOT rfl (Or.inl rfl)) pgs_nil))) (fun _ _ _ _ _ => pif_nil)
          (fun _ _ _ _ _ => pe_and (pv 0) (pe_one (pv 1)))))) pss_nil)
      (pss_one (ps_ret (pe_comp (N := ["one", "two"]) (capt := [none, none]) rfl (pi_zip rfl mz (pa_cons (pv 5) (pa_cons (pv 6) pa_nil))) rfl (by repeat (first | exact .nil | refine .cons rfl ?_))
          (by repeat (first | exact .nil | refine .skip (by decide) (by decide) ?_ | refine .free ⟨_, rfl⟩ ?_)) (.tgt (.tgt .nil))
          (fun _ _ _ _ _ => pgT K (n := 2) rfl (pgs_cons (pg_name (i := 0) ndOT rfl (Or.inl rfl)) (pgs_cons (pg_name (i := 1) ndOT rfl (Or.inl rfl)) pgs_nil))) (fun _ _ _ _ _ => pif_nil)
          (fun _ _ _ _ _ => pe_or (pv 0) (pe_one (pv 1))))))))) pss_nil)
    (pss_one (ps_ret (pe_comp (N := ["marks", "ways", "saying"]) (capt := [none, none, some 1]) rfl (pi_list (pv 0)) rfl (by repeat (first | exact .nil | refine .cons rfl ?_))
        (by repeat (first | exact .nil | refine .skip (by decide) (by decide) ?_ | refine .free ⟨_, rfl⟩ ?_)) (.tgt (.tgt (.var rfl (.inl rfl) ⟨_, rfl⟩ (.inl rfl) .nil)))
        (fun _ _ _ _ _ => pgT K (n := 2) rfl (pgs_cons (pg_name (i := 0) ndMWS rfl (Or.inl rfl)) (pgs_cons (pg_name (i := 1) ndMWS rfl (Or.inl rfl)) pgs_nil))) (fun _ _ _ _ _ => pif_nil)
        (fun _ _ _ _ _ => pe_call GB hr1 rfl mB kB bB .nil pass0 (pa_cons (pv 2) (pa_cons (pv 0) pa_nil)))))))))), ?_⟩
  obtain ⟨a, xs, rfl, ha, pr⟩ := hs.args
  refine ⟨_, rfl, a, _, _, _, rfl, rfl, SqT.of ha, at0, ?_⟩
  refine ⟨_, rfl, rfl, _, rfl, ifS (fun e1 => ?_) (fun ne => ?_)⟩
  · obtain ⟨x, rfl⟩ := Sy.kind_name e1
    cases pr with
    | cons p1 pr => cases pr with
      | nil =>
        cases p1
        obtain ⟨kvs, hk, hkl, hx⟩ := he
        obtain ⟨lx, v1, v2⟩ := hx x hok
        have dg := DGet.k (k := .inr x) hk
        rw [v1] at dg
        exact ⟨_, rfl, _, rfl, a, _, _, _, rfl, rfl, SqT.of ha, at1, d, _, rfl, dg, lx, _, rfl, .inl (SqL.of v2), fun r hr' => q r _ (same_new hr' _) hr' upd_same⟩
  refine ⟨_, rfl, aB, _, rfl, .inr (kBi _), rfl, flatS _, _, rfl, ?_⟩
  rw [inS]
  by_cases hk : s.kind ∈ (["least", "most"] : List Str)
  · rw [decide_eq_true hk]
    obtain ⟨bb, x, u, rfl⟩ := Sy.kind_bind hk
    exact iteT ⟨_, rfl, _, rfl, _, rfl, N, l, d, W, us, _, bb, x, u, B, e, rfl, hW, hs, he, hok, hd, hBD, hN, hri, q⟩
  rw [decide_eq_false hk]
  refine iteF ⟨_, rfl, (by show 2 ≤ sizeLine; decide), fun t ht => ?_⟩
  have s1 := same_new ht (.tup [V.str "some", V.str "every"])
  generalize hH1 : upd H t (.tup [V.str "some", V.str "every"]) = H1 at s1
  have e1 : H1 t = some (.tup ((["some", "every"] : List Str).map V.str)) := by rw [← hH1]; exact upd_same
  refine ⟨t, _, rfl, .inr (SqT.of e1), rfl, flatS _, _, rfl, ?_⟩
  rw [inS]
  by_cases hk2 : s.kind ∈ (["some", "every"] : List Str)
  · rw [decide_eq_true hk2]
    obtain ⟨bb, u, rfl⟩ := Sy.kind_st hk2
    cases pr with
    | cons p1 pr => cases pr with
      | nil =>
        have hu' : SyAt H u _ := p1
        have du := Sy.depth_subs (s := .st bb u) (u := u) (by simp [Sy.subs])
        refine iteT ⟨_, rfl, _, rfl, a, _, _, _, rfl, rfl, SqT.of (s1 _ _ ha), at1, _, rfl, N, l, d, W, us, _, u, B, e, rfl, hW.same s1, hu'.same s1, he.same s1, hok, by omega, by omega, hN, hri, fun r1 H2 s2 _ hr1 => ?_⟩
        have s2' := s1.trans s2
        have hW2 := hW.same s2'
        refine ⟨_, rfl, l, rfl, ⟨_, SqL.of hW2.lst⟩, ?_⟩
        refine comp_list (K := K) (a := l) (xs := us) (fun C i ys H3 => Same H2 H3 ∧ H2 C = none ∧ H3 C = some (.lst ys) ∧ ys = (tr (Se.hold W (.st bb u) e)).take i) ?_ ?_ ?_ ?_
        · exact fun C hC => ⟨same_new hC _, hC, upd_same, by simp⟩
        · rintro C i ys H3 hi ⟨sm, hC, h3, ey⟩
          refine ⟨SqL.of (sm _ _ hW2.lst), h3, fun _ => ?_⟩
          rw [ey]
          refine small1000 ?_
          rw [List.length_take, tr_len]
          omega
        · rintro C i x ys H3 hx ⟨sm, hC, h3, ey⟩
          have hi : i < N := by rw [← hW.len]; exact (List.getElem?_eq_some_iff.mp hx).1
          obtain ⟨v', ev, pa, qa, rfl, hpa, hqa⟩ := (hW2.same sm).at' ⟨i, hi⟩
          have ex : V.ref pa = x := Option.some.inj (ev.symm.trans hx)
          subst ex
          refine ⟨pa, _, rfl, SqT.of hpa, rfl, _, _, rfl, _, _, rfl, rfl, ⟨rfl, rfl, trivial⟩, ?_⟩
          refine ⟨_, rfl, _, rfl, qa, rfl, ⟨_, SqT.of hqa⟩, ?_⟩
          refine comp_tup (K := K) (a := qa) (xs := ((W.ws ⟨i, hi⟩).map Fin.val).map fun (w : Nat) => V.int (w : Int)) (fun C2 j zs H4 => Same H3 H4 ∧ H3 C2 = none ∧ H4 C2 = some (.lst zs) ∧ zs = (((W.ws ⟨i, hi⟩).take j).map (Se.hold W u e)).map V.bl) ?_ ?_ ?_ ?_
          · exact fun C2 hC2 => ⟨same_new hC2 _, hC2, upd_same, rfl⟩
          · rintro C2 j zs H4 hj ⟨sm4, hC2, h4, ez⟩
            refine ⟨SqT.of (sm4 _ _ hqa), h4, fun hlt => ?_⟩
            rw [ez]
            simp only [List.length_map] at hlt hj ⊢
            rw [List.length_take]
            have hz := Wo.ways_len hri ⟨i, hi⟩
            refine small1000 ?_
            omega
          · rintro C2 j y zs H4 hy ⟨sm4, hC2, h4, ez⟩
            rw [List.getElem?_map, List.getElem?_map] at hy
            obtain ⟨n, en, ey'⟩ := Option.map_eq_some_iff.mp hy
            obtain ⟨wv, ew, en'⟩ := Option.map_eq_some_iff.mp en
            subst ey' en'
            have k4 := (sm.trans sm4) _ _ hr1
            refine ⟨⟨rfl, trivial⟩, _, rfl, _, rfl, r1, _, _, _, rfl, rfl, SqL.of k4, atI_nat (tr_get (Se.hold W u e) wv.val wv.isLt), h4, fun b o eb => ?_, hC2, upd_same, ?_⟩
            · rw [upd_ne (ne_of_none eb hC2)]
              exact sm4 b o eb
            · obtain ⟨hj, ej⟩ := List.getElem?_eq_some_iff.mp ew
              rw [ez, List.take_succ_eq_append_getElem hj, ej]
              simp
          · rintro C2 zs H4 ⟨sm4, hC2, h4, ez⟩
            rw [List.length_map, List.length_map, List.take_length] at ez
            subst ez
            refine ⟨bb, C2, _, rfl, SqL.of h4, sm4 _ _ h3, fun b o eb => ?_, hC, upd_same, ?_⟩
            · rw [upd_ne (ne_of_none eb hC)]
              exact sm4 _ _ (sm b o eb)
            · rw [ey, tr_take _ i hi]
              congr 2
              show V.bl _ = V.bl (if bb = true then _ else _)
              rw [List.any_map, List.all_map]
              rfl
        · rintro C ys H3 ⟨sm, hC, h3, ey⟩
          rw [take_all ((tr_len _).trans hW.len.symm)] at ey
          exact q C H3 (s2'.trans sm) (s2'.free hC) (by rw [h3, ey])
  rw [decide_eq_false hk2]
  refine iteF ⟨_, rfl, (by show 2 ≤ sizeLine; decide), fun t2 ht2 => ?_⟩
  have s2 := s1.trans (same_new ht2 (.tup [V.str "both", V.str "either"]))
  generalize hH2 : upd H1 t2 (.tup [V.str "both", V.str "either"]) = H2 at s2
  have e2 : H2 t2 = some (.tup ((["both", "either"] : List Str).map V.str)) := by rw [← hH2]; exact upd_same
  refine ⟨t2, _, rfl, .inr (SqT.of e2), rfl, flatS _, _, rfl, ?_⟩
  rw [inS]
  by_cases hk3 : s.kind ∈ (["both", "either"] : List Str)
  · rw [decide_eq_true hk3]
    obtain ⟨bb, u, u2, rfl⟩ := Sy.kind_pr hk3
    cases pr with
    | cons p1 pr => cases pr with
      | cons p2 pr => cases pr with
        | nil =>
          have hu1 : SyAt H u _ := p1
          have hu2 : SyAt H u2 _ := p2
          have du := Sy.depth_subs (s := .pr bb u u2) (u := u) (by simp [Sy.subs])
          have du2 := Sy.depth_subs (s := .pr bb u u2) (u := u2) (by simp [Sy.subs])
          refine iteT ⟨_, rfl, _, rfl, a, _, _, _, rfl, rfl, SqT.of (s2 _ _ ha), at1, _, rfl, N, l, d, W, us, _, u, B, e, rfl, hW.same s2, hu1.same s2, he.same s2, hok.1, by omega, by omega, hN, hri, fun r1 H3 s3 _ hr1 => ?_⟩
          have s3' := s2.trans s3
          refine ⟨_, rfl, _, rfl, a, _, _, _, rfl, rfl, SqT.of (s3' _ _ ha), at2, _, rfl, N, l, d, W, us, _, u2, B, e, rfl, hW.same s3', hu2.same s3', he.same s3', hok.2, by omega, by omega, hN, hri, fun r2 H4 s4 _ hr2 => ?_⟩
          have s4' := s3'.trans s4
          have hr14 := s4 _ _ hr1
          have ln : (tr (Se.hold W u e)).length = (tr (Se.hold W u2 e)).length := by rw [tr_len, tr_len]
          refine ⟨_, rfl, rfl, _, rfl, ifS (fun eb => ?_) (fun eb => ?_)⟩
          · have hbb : bb = true := by
              cases bb with
              | true => rfl
              | false => exact absurd eb (by simp only [Sy.kind]; decide)
            subst hbb
            refine ⟨_, rfl, _, rfl, r1, r2, rfl, ⟨_, SqL.of hr14⟩, ⟨_, SqL.of hr2⟩, ?_⟩
            refine comp_zip (K := K) (a := r1) (b := r2) ln (fun C i ys H5 => Same H4 H5 ∧ H4 C = none ∧ H5 C = some (.lst ys) ∧ ys = (tr (Se.hold W (.pr true u u2) e)).take i) ?_ ?_ ?_ ?_
            · exact fun C hC => ⟨same_new hC _, hC, upd_same, by simp⟩
            · rintro C i ys H5 hi ⟨sm, hC, h5, ey⟩
              refine ⟨SqL.of (sm _ _ hr14), SqL.of (sm _ _ hr2), h5, fun _ => ?_⟩
              rw [ey]
              refine small1000 ?_
              rw [List.length_take, tr_len]
              omega
            · rintro C i x y ys H5 p hx hy hp ⟨sm, hC, h5, ey⟩
              have hi : i < N := by have := (List.getElem?_eq_some_iff.mp hx).1; rw [tr_len] at this; exact this
              rw [tr_get _ i hi] at hx hy
              cases hx
              cases hy
              have sp := same_new hp (.tup [V.bl (Se.hold W u e ⟨i, hi⟩), V.bl (Se.hold W u2 e ⟨i, hi⟩)])
              refine ⟨p, _, rfl, SqT.of upd_same, rfl, _, _, rfl, _, _, rfl, rfl, trivial, _, rfl, _, rfl, ?_⟩
              have fin : ∀ z, z = (Se.hold W u e ⟨i, hi⟩ && Se.hold W u2 e ⟨i, hi⟩) → (upd H5 p (.tup [V.bl (Se.hold W u e ⟨i, hi⟩), V.bl (Se.hold W u2 e ⟨i, hi⟩)])) C = some (.lst ys) ∧ Same H4 (upd (upd H5 p (.tup [V.bl (Se.hold W u e ⟨i, hi⟩), V.bl (Se.hold W u2 e ⟨i, hi⟩)])) C (.lst (ys ++ [V.bl z]))) ∧ H4 C = none ∧ (upd (upd H5 p (.tup [V.bl (Se.hold W u e ⟨i, hi⟩), V.bl (Se.hold W u2 e ⟨i, hi⟩)])) C (.lst (ys ++ [V.bl z]))) C = some (.lst (ys ++ [V.bl z])) ∧ ys ++ [V.bl z] = (tr (Se.hold W (.pr true u u2) e)).take (i + 1) := fun z hz => by
                refine ⟨sp _ _ h5, fun b o eb => ?_, hC, upd_same, ?_⟩
                · rw [upd_ne (ne_of_none eb hC)]
                  exact sp _ _ (sm b o eb)
                · rw [ey, tr_take _ i hi, hz]
                  rfl
              refine ite2 (fun c => ⟨_, rfl, fin _ ?_⟩) (fun c => fin _ ?_)
              · rw [c]; rfl
              · rw [Bool.eq_false_iff.mpr c]; rfl
            · rintro C ys H5 ⟨sm, hC, h5, ey⟩
              rw [tr_len, take_all (tr_len _)] at ey
              exact q C H5 (s4'.trans sm) (s4'.free hC) (by rw [h5, ey])
          · have hbb : bb = false := by
              cases bb with
              | true => exact absurd rfl eb
              | false => rfl
            subst hbb
            refine ⟨_, rfl, _, rfl, r1, r2, rfl, ⟨_, SqL.of hr14⟩, ⟨_, SqL.of hr2⟩, ?_⟩
            refine comp_zip (K := K) (a := r1) (b := r2) ln (fun C i ys H5 => Same H4 H5 ∧ H4 C = none ∧ H5 C = some (.lst ys) ∧ ys = (tr (Se.hold W (.pr false u u2) e)).take i) ?_ ?_ ?_ ?_
            · exact fun C hC => ⟨same_new hC _, hC, upd_same, by simp⟩
            · rintro C i ys H5 hi ⟨sm, hC, h5, ey⟩
              refine ⟨SqL.of (sm _ _ hr14), SqL.of (sm _ _ hr2), h5, fun _ => ?_⟩
              rw [ey]
              refine small1000 ?_
              rw [List.length_take, tr_len]
              omega
            · rintro C i x y ys H5 p hx hy hp ⟨sm, hC, h5, ey⟩
              have hi : i < N := by have := (List.getElem?_eq_some_iff.mp hx).1; rw [tr_len] at this; exact this
              rw [tr_get _ i hi] at hx hy
              cases hx
              cases hy
              have sp := same_new hp (.tup [V.bl (Se.hold W u e ⟨i, hi⟩), V.bl (Se.hold W u2 e ⟨i, hi⟩)])
              refine ⟨p, _, rfl, SqT.of upd_same, rfl, _, _, rfl, _, _, rfl, rfl, trivial, _, rfl, _, rfl, ?_⟩
              have fin : ∀ z, z = (Se.hold W u e ⟨i, hi⟩ || Se.hold W u2 e ⟨i, hi⟩) → (upd H5 p (.tup [V.bl (Se.hold W u e ⟨i, hi⟩), V.bl (Se.hold W u2 e ⟨i, hi⟩)])) C = some (.lst ys) ∧ Same H4 (upd (upd H5 p (.tup [V.bl (Se.hold W u e ⟨i, hi⟩), V.bl (Se.hold W u2 e ⟨i, hi⟩)])) C (.lst (ys ++ [V.bl z]))) ∧ H4 C = none ∧ (upd (upd H5 p (.tup [V.bl (Se.hold W u e ⟨i, hi⟩), V.bl (Se.hold W u2 e ⟨i, hi⟩)])) C (.lst (ys ++ [V.bl z]))) C = some (.lst (ys ++ [V.bl z])) ∧ ys ++ [V.bl z] = (tr (Se.hold W (.pr false u u2) e)).take (i + 1) := fun z hz => by
                refine ⟨sp _ _ h5, fun b o eb => ?_, hC, upd_same, ?_⟩
                · rw [upd_ne (ne_of_none eb hC)]
                  exact sp _ _ (sm b o eb)
                · rw [ey, tr_take _ i hi, hz]
                  rfl
              refine ite2 (fun c => fin _ ?_) (fun c => ⟨_, rfl, fin _ ?_⟩)
              · rw [c]; rfl
              · rw [Bool.eq_false_iff.mpr c]; rfl
            · rintro C ys H5 ⟨sm, hC, h5, ey⟩
              rw [tr_len, take_all (tr_len _)] at ey
              exact q C H5 (s4'.trans sm) (s4'.free hC) (by rw [h5, ey])
  rw [decide_eq_false hk3]
  refine iteF ?_
  have kind0 : (∃ b, s = .y0 b) ∨ ∃ b x, s = .mk b x := by
    cases s with
    | y0 b => exact .inl ⟨b, rfl⟩
    | mk b x => exact .inr ⟨b, x, rfl⟩
    | nm x => exact absurd rfl ne
    | st b u => exact absurd (Sy.st_kind b) hk2
    | pr b u u2 => exact absurd (Sy.pr_kind b) hk3
    | bn b x u => exact absurd (Sy.bind_kind b) hk
  have hW2 := hW.same s2
  refine ⟨_, rfl, l, rfl, ⟨_, SqL.of hW2.lst⟩, ?_⟩
  refine comp_list (K := K) (a := l) (xs := us) (fun C i ys H3 => Same H2 H3 ∧ H2 C = none ∧ H3 C = some (.lst ys) ∧ ys = (tr (Se.hold W s e)).take i) ?_ ?_ ?_ ?_
  · exact fun C hC => ⟨same_new hC _, hC, upd_same, by simp⟩
  · rintro C i ys H3 hi ⟨sm, hC, h3, ey⟩
    refine ⟨SqL.of (sm _ _ hW2.lst), h3, fun _ => ?_⟩
    rw [ey]
    refine small1000 ?_
    rw [List.length_take, tr_len]
    omega
  · rintro C i x ys H3 hx ⟨sm, hC, h3, ey⟩
    have hi : i < N := by rw [← hW.len]; exact (List.getElem?_eq_some_iff.mp hx).1
    obtain ⟨v', ev, pa, qa, rfl, hpa, hqa⟩ := (hW2.same sm).at' ⟨i, hi⟩
    have ex : V.ref pa = x := Option.some.inj (ev.symm.trans hx)
    subst ex
    refine ⟨pa, _, rfl, SqT.of hpa, rfl, _, _, rfl, _, _, rfl, rfl, ⟨rfl, trivial⟩, ?_⟩
    refine ⟨_, rfl, _, rfl, _, s, _, rfl, hs.same (s2.trans sm), kind0, h3, fun b o eb => ?_, hC, upd_same, ?_⟩
    · rw [upd_ne (ne_of_none eb hC)]
      exact sm b o eb
    · rw [ey, tr_take _ i hi]
      congr 2
      rcases kind0 with ⟨b, rfl⟩ | ⟨b, x, rfl⟩ <;> rfl
  · rintro C ys H3 ⟨sm, hC, h3, ey⟩
    rw [take_all ((tr_len _).trans hW.len.symm)] at ey
    exact q C H3 (s2.trans sm) (s2.free hC) (by rw [h3, ey])
end
end Law

set_option maxRecDepth 100000
set_option maxHeartbeats 4000000
namespace L2
open PySem
theorem putK_has {kvs : List (Key × V)} {k : Key} {v w : V} (h : valV kvs k = some w) : (putK kvs k v).length = kvs.length := by
  unfold putK
  rw [valV_any, h]
  simp
end L2
namespace Law
open PySem L2
section
seal PA PE PS PSs PT PI PG PGs PIf
variable {P : Program} {w : World} {K : PySem.W.Frag} {mg : Str → Option Value} {base : Heap} {f g : Addr} {fd gd : FuncData}
theorem scClosed : FnScope ["world", "saying", "named", "inner", "found"] ["world", "saying", "named"] (defScope sClosed) := ⟨rfl, rfl, rfl, by decide +kernel, rfl, by decide +kernel, by decide +kernel⟩
theorem ndPS : (["place", "saying"] : List Str).Nodup := by decide +kernel
/-- what holds at each turn of the loop -/
def turnC {N : Nat} (l d a : Addr) (W : Wo N) (b : Bool) (x : Str) (u : Sy) (B : List Str) (e : En N) (H : Hp) (n : Nat) (σ : St) (H2 : Hp) : Prop :=
  ∃ (di fo li : Addr) (kvs : List (Key × V)), σ = [some (.ref l), some (.ref a), some (.ref d), some (.ref di), some (.ref fo)] ∧ Same H H2 ∧ H di = none ∧ H fo = none ∧ H2 di = some (.dK kvs) ∧ kvs.length ≤ B.length + 1 ∧ valV kvs (.inr x) = some (.ref li) ∧
    H2 li = some (.lst (tr (Se.it (fun t => Se.hold W u (Se.put e x t)) n fun _ => !b))) ∧ H2 fo = some (.lst (tr (Se.it (fun t => Se.hold W u (Se.put e x t)) (n + 1) fun _ => !b))) ∧ ∀ y ∈ B, ∃ ly, valV kvs (.inr y) = some (.ref ly) ∧ H2 ly = some (.lst (tr (e y)))
theorem env_put {N : Nat} {H2 H3 : Hp} {di lx : Addr} {kvs : List (Key × V)} {x : Str} {B : List Str} {e : En N} {t : Tr N} (h3 : H3 di = some (.dK (putK kvs (.inr x) (.ref lx)))) (hl : (putK kvs (.inr x) (.ref lx)).length ≤ B.length + 1) (hx : x ∉ B) (ht : H3 lx = some (.lst (tr t)))
    (hk : ∀ b xs, H2 b = some (.lst xs) → H3 b = some (.lst xs)) (hB : ∀ y ∈ B, ∃ ly, valV kvs (.inr y) = some (.ref ly) ∧ H2 ly = some (.lst (tr (e y)))) : EnvAt H3 di (B ++ [x]) (Se.put e x t) := by
  refine ⟨_, h3, by simpa using hl, fun y hy => ?_⟩
  rw [valV_put]
  by_cases hyx : y = x
  · subst hyx
    refine ⟨lx, by rw [if_pos rfl], ?_⟩
    show _ = some (HO.lst (tr (if y = y then t else e y)))
    rw [if_pos rfl]
    exact ht
  · have hyB : y ∈ B := by
      rcases List.mem_append.mp hy with z | z
      · exact z
      · exact absurd (List.mem_singleton.mp z) hyx
    obtain ⟨ly, h1, h2⟩ := hB y hyB
    refine ⟨ly, by rw [if_neg (fun z => hyx (by injection z))]; exact h1, ?_⟩
    show _ = some (HO.lst (tr (if y = x then t else e y)))
    rw [if_neg hyx]
    exact hk _ _ h2
theorem ok_closed (F : Fun K "closed" "closed" sClosed f fd) {D : Nat} {fH : Addr} {dH : FuncData} (GH : FnOk P w K mg base CX0 (2 + 2 * D) fH dH ["world", "saying", "named"] (spHold D)) (bH : Binds K dH ["world", "saying", "named"] []) (kH : PySem.W.keepIn K (.ref fH) = true) (mH : mg "holding" = some (.ref fH)) (md : mg "dict" = none) :
    FnOk P w K mg base CX0 (2 + 2 * D + 1) f fd ["world", "saying", "named"] (spClosed (D + 1)) := by
  refine F.ok scClosed (fun vs H Q E h => ?_) (fun cdv A outer s H vs Q E hr h => ?_)
  · obtain ⟨N, l, d, W, us, v, b, x, u, B, e, rfl, _⟩ := h
    rfl
  obtain ⟨N, l, d, W, us, v, b, x, u, B, e, rfl, hW, hs, he, hok, hd, hBD, hN, hri, q⟩ := h
  have hu : _ + 1 < cLine := Nat.lt_of_le_of_lt (Nat.add_le_add_left (by decide : 1 ≤ 64) _) hr.units
  have hu30 : _ + 30 < cLine := Nat.lt_of_le_of_lt (Nat.add_le_add_left (by decide : 30 ≤ 64) _) hr.units
  refine ⟨_, pss_cons (ps_set (i := 3) scClosed.nd rfl (Or.inl rfl) (pe_callTy call_dictD rfl md PyProof.Rows.boot_dict (pa_cons (pv 2) pa_nil)))
    (pss_cons (ps_dput hu (pv 3) (pe_ix ix_tup (pv 1) pe_int (fun _ _ => rfl)) (pe_comp (N := ["place", "saying"]) (capt := [none, some 1]) rfl (pi_list (pv 0)) rfl (by repeat (first | exact .nil | refine .cons rfl ?_))
        (by repeat (first | exact .nil | refine .skip (by decide) (by decide) ?_ | refine .free ⟨_, rfl⟩ ?_)) (.tgt (.var rfl (.inl rfl) ⟨_, rfl⟩ (.inl rfl) .nil))
        (fun _ _ _ _ _ => pg_name (i := 0) ndPS rfl (Or.inl rfl)) (fun _ _ _ _ _ => pif_nil) (fun _ _ _ _ _ => pe_cmpR op_eq (pe_ix (ixT K) (pv 1) pe_int (fun _ _ => rfl)) pe_str (nomark _))) rfl)
    (pss_cons (ps_set (i := 4) scClosed.nd rfl (Or.inl rfl) (pe_call GH hr rfl mH kH bH .nil pass0 (pa_cons (pv 0) (pa_cons (pe_ix ix_tup (pv 1) pe_int (fun _ _ => rfl)) (pa_cons (pv 3) pa_nil)))))
    (pss_cons (ps_while PassesOwn.never (pt_cmpR (op_neL hu30) (pv 4) (pe_dget hu (pv 3) (pe_ix ix_tup (pv 1) pe_int (fun _ _ => rfl)) (fun _ _ => rfl)) (nomark _))
      (pss_cons (ps_dput hu (pv 3) (pe_ix ix_tup (pv 1) pe_int (fun _ _ => rfl)) (pv 4) rfl)
      (pss_one (ps_set (i := 4) scClosed.nd rfl (Or.inl rfl) (pe_call GH hr rfl mH kH bH .nil pass0 (pa_cons (pv 0) (pa_cons (pe_ix ix_tup (pv 1) pe_int (fun _ _ => rfl)) (pa_cons (pv 3) pa_nil))))))))
    (pss_one (ps_ret (pv 4)))))), ?_⟩
  obtain ⟨a, uv, rfl, ha, hu'⟩ := hs
  obtain ⟨kvs0, hk0, hkl0, hkB⟩ := he
  have du := Sy.depth_subs (s := .bn b x u) (u := u) (by simp [Sy.subs])
  generalize hF : (fun t => Se.hold W u (Se.put e x t)) = Fn
  have Fm : ∀ t u, Se.le t u → Se.le (Fn t) (Fn u) := by rw [← hF]; exact Se.F_mono W u e x
  refine ⟨_, rfl, d, kvs0, rfl, .inl hk0, fun di hdi => ?_⟩
  have s1 := same_new hdi (.dK kvs0)
  generalize hH1 : upd H di (.dK kvs0) = H1 at s1
  have d1 : H1 di = some (.dK kvs0) := by rw [← hH1]; exact upd_same
  have hW1 := hW.same s1
  refine ⟨_, rfl, l, rfl, ⟨_, SqL.of hW1.lst⟩, ?_⟩
  refine comp_list (K := K) (a := l) (xs := us) (fun C i ys H2 => Same H1 H2 ∧ H1 C = none ∧ H2 C = some (.lst ys) ∧ ys = (tr (N := N) fun _ => !b).take i) ?_ ?_ ?_ ?_
  · exact fun C hC => ⟨same_new hC _, hC, upd_same, by simp⟩
  · rintro C i ys H2 hi ⟨sm, hC, h2, ey⟩
    refine ⟨SqL.of (sm _ _ hW1.lst), h2, fun _ => ?_⟩
    rw [ey]
    refine small1000 ?_
    rw [List.length_take, tr_len]
    omega
  · rintro C i y ys H2 hy ⟨sm, hC, h2, ey⟩
    have hi : i < N := by rw [← hW.len]; exact (List.getElem?_eq_some_iff.mp hy).1
    refine ⟨⟨rfl, trivial⟩, _, rfl, a, _, _, _, rfl, rfl, SqT.of ((s1.trans sm) _ _ ha), at0, rfl, h2, fun c o ec => ?_, hC, upd_same, ?_⟩
    · rw [upd_ne (ne_of_none ec hC)]
      exact sm c o ec
    · rw [ey, tr_take _ i hi]
      congr 2
      show V.bl _ = V.bl (!b)
      cases b with
      | true => exact congrArg V.bl (decide_eq_false (fun z => absurd (by injection z) (by decide : ¬ Sy.k4 true = "most")))
      | false => exact congrArg V.bl (decide_eq_true rfl)
  rintro C ys H2 ⟨sm2, hC, h2, ey⟩
  rw [take_all ((tr_len _).trans hW.len.symm)] at ey
  subst ey
  have s2 := s1.trans sm2
  have d2 := sm2 _ _ d1
  refine ⟨_, rfl, _, rfl, a, _, _, _, rfl, rfl, SqT.of (s2 _ _ ha), at1, di, _, rfl, DPut.k (k := .inr x) d2 (small1000 (by omega)), ?_⟩
  have hne : ∀ c o, H c = some o → c ≠ di := fun c o ec => ne_of_none ec hdi
  generalize hH3 : upd H2 di (.dK (putK kvs0 (.inr x) (.ref C))) = H3
  have d3 : H3 di = some (.dK (putK kvs0 (.inr x) (.ref C))) := by rw [← hH3]; exact upd_same
  have k3 : ∀ c xs, H2 c = some (.lst xs) → H3 c = some (.lst xs) := fun c xs ec => by rw [← hH3, upd_ne (fun z => by rw [z, d2] at ec; cases ec)]; exact ec
  have s3 : Same H H3 := fun c o ec => by rw [← hH3, upd_ne (hne c o ec)]; exact s2 _ _ ec
  have l3 : (putK kvs0 (.inr x) (.ref C)).length ≤ B.length + 1 := Nat.le_trans (putK_len _ _ _) (by omega)
  have B2 : ∀ y ∈ B, ∃ ly, valV kvs0 (.inr y) = some (.ref ly) ∧ H2 ly = some (.lst (tr (e y))) := fun y hy => by obtain ⟨ly, e1, e2⟩ := hkB y hy; exact ⟨ly, e1, s2 _ _ e2⟩
  have e3 : EnvAt H3 di (B ++ [x]) (Se.put e x fun _ => !b) := env_put d3 l3 hok.1 (k3 _ _ h2) k3 B2
  refine ⟨_, rfl, _, rfl, a, _, _, _, rfl, rfl, SqT.of (s3 _ _ ha), at2, _, rfl, N, l, di, W, us, _, u, B ++ [x], Se.put e x fun _ => !b, rfl, hW.same s3, hu'.same s3, e3, hok.2.2, by omega, by simp; omega, hN, hri, fun fo H4 s4 hfo h4 => ?_⟩
  have vx : ∀ (kv : List (Key × V)) (z : V), valV (putK kv (.inr x) z) (.inr x) = some z := fun kv z => by rw [valV_put, if_pos rfl]
  have vy : ∀ (kv : List (Key × V)) (z : V) (y : Str), y ∈ B → valV (putK kv (.inr x) z) (.inr y) = valV kv (.inr y) := fun kv z y hy => by
    rw [valV_put, if_neg (fun q => hok.1 (by injection q with q; rw [← q]; exact hy))]
  have init : turnC l d a W b x u B e H 0 [some (.ref l), some (.ref a), some (.ref d), some (.ref di), some (.ref fo)] H4 := by
    refine ⟨di, fo, C, _, rfl, s3.trans s4, hdi, s3.free hfo, s4 _ _ d3, l3, vx _ _, s4 _ _ (k3 _ _ h2), h4, fun y hy => ?_⟩
    obtain ⟨ly, e1, e2⟩ := B2 y hy
    exact ⟨ly, by rw [vy _ _ y hy]; exact e1, s4 _ _ (k3 _ _ e2)⟩
  refine ⟨fun m σ H5 => ∃ n, m = Se.left b (Se.it (fun t => Se.hold W u (Se.put e x t)) n fun _ => !b) ∧ turnC l d a W b x u B e H n σ H5, ⟨_, 0, rfl, init⟩, ?_⟩
  rintro m σ H5 ⟨n, rfl, di5, fo5, li5, kvs, rfl, s5, hdi5, hfo5, d5, l5, v5, h5i, h5f, hB5⟩
  have dg := DGet.k (k := .inr x) d5
  rw [v5] at dg
  have trR : ∀ (H' : Hp) (c : Addr) (t : Tr N), H' c = some (.lst (tr t)) → Rep K H' (.lst (trT t)) (.ref c) := fun H' c t hc => by
    simp only [Rep]
    exact ⟨c, _, rfl, SqL.of hc, Reps.bls _⟩
  refine ⟨_, rfl, _, rfl, _, rfl, a, _, _, _, rfl, rfl, SqT.of (s5 _ _ ha), at1, di5, _, rfl, dg, _, _, trR _ _ _ h5f, trR _ _ _ h5i, by unfold trT; rw [deeps_bl]; decide, _, rfl, ?_⟩
  by_cases heq : Se.it (fun t => Se.hold W u (Se.put e x t)) (n + 1) (fun _ => !b) = Se.it (fun t => Se.hold W u (Se.put e x t)) n fun _ => !b
  · rw [heq, eqTs_refl]
    refine iteF ⟨_, rfl, q fo5 H5 s5 hfo5 ?_⟩
    rw [h5f]
    have := Se.stops (Se.F_mono W u e x) heq
    rw [this]
    rfl
  · rw [ne_tr heq]
    refine iteT ⟨fun σ' H' => turnC l d a W b x u B e H (n + 1) σ' H', fun σ' H' ht => ⟨_, Se.left_lt (Se.chain (Se.F_mono W u e x) n) heq, n + 1, rfl, ht⟩, ?_⟩
    refine ⟨_, rfl, _, rfl, _, rfl, a, _, _, _, rfl, rfl, SqT.of (s5 _ _ ha), at1, di5, _, rfl, DPut.k (k := .inr x) d5 (small1000 (by omega)), ?_⟩
    have hne5 : ∀ c o, H c = some o → c ≠ di5 := fun c o ec => ne_of_none ec hdi5
    generalize hH6 : upd H5 di5 (.dK (putK kvs (.inr x) (.ref fo5))) = H6
    have d6 : H6 di5 = some (.dK (putK kvs (.inr x) (.ref fo5))) := by rw [← hH6]; exact upd_same
    have k6 : ∀ c xs, H5 c = some (.lst xs) → H6 c = some (.lst xs) := fun c xs ec => by rw [← hH6, upd_ne (fun z => by rw [z, d5] at ec; cases ec)]; exact ec
    have s6 : Same H H6 := fun c o ec => by rw [← hH6, upd_ne (hne5 c o ec)]; exact s5 _ _ ec
    have l6 : (putK kvs (.inr x) (.ref fo5)).length ≤ B.length + 1 := by rw [putK_has v5]; exact l5
    have e6 := env_put d6 l6 hok.1 (k6 _ _ h5f) k6 hB5
    refine ⟨_, rfl, _, rfl, a, _, _, _, rfl, rfl, SqT.of (s6 _ _ ha), at2, _, rfl, N, l, di5, W, us, _, u, B ++ [x], _, rfl, hW.same s6, hu'.same s6, e6, hok.2.2, by omega, by simp; omega, hN, hri, fun fo7 H7 s7 hfo7 h7 => ?_⟩
    refine ⟨di5, fo7, fo5, _, rfl, s6.trans s7, hdi5, s6.free hfo7, s7 _ _ d6, l6, vx _ _, s7 _ _ (k6 _ _ h5f), h7, fun y hy => ?_⟩
    obtain ⟨ly, e1, e2⟩ := hB5 y hy
    exact ⟨ly, by rw [vy _ _ y hy]; exact e1, s7 _ _ (k6 _ _ e2)⟩
end
end Law

set_option maxRecDepth 100000
namespace L2
open PySem PySem.Spec PyProof.Rows
section
variable {X : Cx}
end
def turnA : Sarg → Sarg
  | .tx x => .tx x
  | .sy s => .sy (Se.turn s)
theorem SargAt.imp {H H' : Hp} (k : ∀ a xs, H a = some (.tup xs) → H' a = some (.tup xs)) {s : Sarg} {v : V} (h : SargAt H s v) : SargAt H' s v := by
  cases s with
  | tx x => exact h
  | sy s => exact SyAt.imp k h
/-- the kinds in pairs -/
def kinds : List Str := ["yes", "no", "mark", "unmark", "some", "every", "both", "either", "least", "most", "name", "name"]
def turnedK : List (Key × V) := [(.inr "yes", .str "no"), (.inr "no", .str "yes"), (.inr "mark", .str "unmark"), (.inr "unmark", .str "mark"), (.inr "some", .str "every"), (.inr "every", .str "some"), (.inr "both", .str "either"), (.inr "either", .str "both"), (.inr "least", .str "most"), (.inr "most", .str "least"), (.inr "name", .str "name")]
/-- a list of many written texts -/
def strConsts : List Expr → Option (List Str)
  | [] => some []
  | .Constant (.str x) _ _ :: r => (strConsts r).map fun l => x :: l
  | _ => none
def tStrs (xs : List Str) : TA := fun _ H Q => Q (xs.map V.str) H
end L2

set_option maxRecDepth 100000
namespace L2
open PySem PySem.Spec PyProof.Rows
/-! ### max(a list of ints, default=..) -/
theorem max_loopD {prog : Program} {w : World} {A : Around} {R : Result → Shared → Prop} {I : Addr} {fp wr : List Addr} {n : Nat} {P : Nat → Value → Prop} {St : Nat → Heap → Prop} (W : Walks prog w A.in1 I fp wr n P St) (bt : Nat → Nat → Bool) (hcmp : CmpOf prog w A.in1 .Gt P bt) (S : Addr) (hSf : ¬ S ∈ fp) (kw : List (Str × Value)) :
    ∀ (k j : Nat) (s : Shared) (vb : Value) (c : Nat), n - (j + 1) = k → j + 1 ≤ n → St (j + 1) s.heap → P (argBest bt j) vb → s.heap.get? S = some { cls := .type "list", data := .seq #[vb, vb] c } →
      (∀ (v : Value) (h' : Heap) (tk : Nat), P (argBest bt (n - 1)) v → (∀ (b : Addr) (o : Obj), ¬ b ∈ wr → b ≠ S → s.heap.get? b = some o → h'.get? b = some o) → R (.ok (.ret v)) { s with heap := h', toks := tk }) →
      codeAny (model prog w) A (.builtin "max.loop" { pos := [.ref I, .none, .ref S], kw := kw }) R s := by
  have hSw : ¬ S ∈ wr := fun h => hSf (W.sub S h)
  intro k
  induction k with
  | zero =>
    intro j s vb c hk hj hst hPb hS hR
    have hin : n = j + 1 := by omega
    refine codeAny_builtin PySem.F.entry_max_loop ?_
    rw [Around.under_plainId PySem.F.plain_max_loop]
    refine wpAny_bind (wpAny_seqItems hS rfl ?_)
    refine wpAny_bind (wpAny_tryCatch (W.done s _ _ (hin ▸ hst) fun h' tk hk' => ?_))
    have hS' := hk' S _ hSw hS
    refine wpAny_bind (wpAny_updateSeq hS' rfl (wpAny_bind (wpAny_letGo (wpAny_pure ?_))) (by show 2 ≤ sizeLine; decide) (Nat.zero_le _))
    refine hR vb _ tk (by rw [hin]; exact hPb) fun b o hbw hbS e => ?_
    exact (Heap.get?_update_other _ _ (Ne.symm hbS)).trans (hk' b o hbw e)
  | succ k ih =>
    intro j s vb c hk hj hst hPb hS hR
    have hlt : j + 1 < n := by omega
    refine codeAny_builtin PySem.F.entry_max_loop ?_
    rw [Around.under_plainId PySem.F.plain_max_loop]
    refine wpAny_bind (wpAny_seqItems hS rfl ?_)
    refine wpAny_bind (wpAny_tryCatch (W.item (j + 1) s _ _ hlt hst fun v h' tk hP hst' hk' => ?_))
    have hS' := hk' S _ hSw hS
    refine wpAny_bind (wpAny_pure ?_)
    refine wpAny_bind (wpAny_tryCatch (wpAny_holding (wpAny_bind (hcmp (j + 1) (argBest bt j) v vb _ _ _ hP hPb ?_))))
    refine wpAny_bind (wpAny_holding (wpAny_truthy_bool (wpAny_bind (wpAny_letGo (wpAny_pure ?_)))))
    have best : argBest bt (j + 1) = if bt (j + 1) (argBest bt j) = true then j + 1 else argBest bt j := rfl
    cases hb : bt (j + 1) (argBest bt j) with
    | false =>
      rw [hb] at best
      refine wpAny_bind (wpAny_letGo (wpAny_pure ⟨plainId_quiet PySem.F.plain_max_loop _, ?_⟩))
      refine ih (j + 1) _ vb c (by omega) (by omega) hst' (by rw [best]; exact hPb) hS' fun v' h'' tk'' hP' hk'' => hR v' h'' tk'' hP' fun b o hbw hbS e => hk'' b o hbw hbS (hk' b o hbw e)
    | true =>
      rw [hb] at best
      refine wpAny_bind (wpAny_updateSeq hS' rfl (wpAny_bind (wpAny_letGo (wpAny_pure ⟨plainId_quiet PySem.F.plain_max_loop _, ?_⟩))) (by show 2 ≤ sizeLine; decide) (by show 2 ≤ sizeLine + 1; decide))
      refine ih (j + 1) _ v _ (by omega) (by omega) (W.frame (j + 1 + 1) h' _ hst' fun b hbf o e => (Heap.get?_update_other _ _ fun (z : S = b) => hSf (by rw [z]; exact hbf)).trans e) (by rw [best]; exact hP) (Heap.get?_update_self _ hS' rfl) fun v' h'' tk'' hP' hk'' => hR v' h'' tk'' hP' fun b o hbw hbS e => hk'' b o hbw hbS ((Heap.get?_update_other _ _ (Ne.symm hbS)).trans (hk' b o hbw e))
theorem args_maxD (x d : Value) : argsOk "max" { pos := [x], kw := [("default", d)] } := by
  unfold argsOk
  rfl
theorem check_maxD (x d : Value) : checkBuiltinCall "max" { pos := [x], kw := [("default", d)] } = pure () := by
  have h := args_maxD x d
  unfold checkBuiltinCall
  first
    | exact h
    | (simp only [PySem.F.kind_max]; exact h)
    | (rw [PySem.F.kind_max]; exact h)
theorem call_maxD_walk {prog : Program} {w : World} {A : Around} {E : Value → Shared → Prop} {s : Shared} {x d : Value} {Q : Value → Shared → Prop}
    (h : wpAny (model prog w) A.in1 (pyIter x) (fun it s₂ => ∃ (I : Addr) (fp wr : List Addr) (n : Nat) (P : Nat → Value → Prop) (St : Nat → Heap → Prop) (bt : Nat → Nat → Bool), it = .ref I ∧ Walks prog w A.in1 I fp wr n P St ∧ St 0 s₂.heap ∧ (∀ b ∈ fp, b < s₂.heap.objs.size) ∧ CmpOf prog w A.in1 .Gt P bt ∧
      (n = 0 → ∀ (h' : Heap) (tk : Nat), (∀ (b : Addr) (o : Obj), ¬ b ∈ wr → s₂.heap.get? b = some o → h'.get? b = some o) → Q d { s₂ with heap := h', toks := tk }) ∧
      (0 < n → ∀ (v : Value) (h' : Heap) (tk : Nat), P (argBest bt (n - 1)) v → (∀ (b : Addr) (o : Obj), ¬ b ∈ wr → s₂.heap.get? b = some o → h'.get? b = some o) → Q v { s₂ with heap := h', toks := tk })) E s) :
    wpAny (model prog w) A (call (.builtin "max") [x] [("default", d)]) Q E s := by
  refine wpAny_call (codeAny_call_builtin PySem.F.plain_max PySem.F.entry_max ?_)
  rw [check_maxD]
  refine wpAny_pure ?_
  refine wpAny_bind (wpAny_of_eq (show Builtin.Builtins.bindParams "max" ["key", "default"] 0 { kw := [("default", d)] } = pure [none, some d] from rfl) ?_)
  refine wpAny_bind (wpAny_pure (wpAny_bind (wpAny_mono h (fun it s₂ h₂ => ?_) (fun e s' he => he))))
  obtain ⟨I, fp, wr, n, P, St, bt, rfl, W, hst, hfp, hcmp, q0, q1⟩ := h₂
  refine wpAny_bind (wpAny_newObj_type ?_ (Nat.zero_le _))
  have hSf : ¬ s₂.heap.objs.size ∈ fp := fun hm => Nat.lt_irrefl _ (hfp _ hm)
  have hSw : ¬ s₂.heap.objs.size ∈ wr := fun h => hSf (W.sub _ h)
  have hname : (toString "max" ++ toString ".loop" : String) = "max.loop" := by decide
  refine wpAny_pure ?_
  rw [hname]
  refine ⟨plainId_quiet PySem.F.plain_max_loop _, ?_⟩
  show codeAny (model prog w) A (.builtin "max.loop" { pos := [.ref I, .none, .ref s₂.heap.objs.size], kw := [("default", d)] }) _ _
  refine codeAny_builtin PySem.F.entry_max_loop ?_
  rw [Around.under_plainId PySem.F.plain_max_loop]
  have keep : ∀ (b : Addr) (o : Obj), s₂.heap.get? b = some o → (s₂.heap.push { cls := .type "list", data := .seq #[] 0 }).get? b = some o := fun b o e => Heap.get?_push_of_some _ e
  have hS : (s₂.heap.push { cls := .type "list", data := .seq #[] 0 }).get? s₂.heap.objs.size = some { cls := .type "list", data := .seq #[] 0 } := Heap.get?_push_size _ rfl
  have hst0 : St 0 (s₂.heap.push { cls := .type "list", data := .seq #[] 0 }) := W.frame 0 _ _ hst fun b _ o e => keep b o e
  refine wpAny_bind (wpAny_seqItems hS rfl ?_)
  by_cases hn : n = 0
  · subst hn
    refine wpAny_bind (wpAny_tryCatch (W.done _ _ _ hst0 fun h' tk hk' => ?_))
    refine wpAny_bind (wpAny_rule (wpAny_pure ?_))
    exact q0 rfl h' tk fun b o hb e => hk' b o hb (keep b o e)
  · have hn0 : 0 < n := by omega
    refine wpAny_bind (wpAny_tryCatch (W.item 0 _ _ _ hn0 hst0 fun v h' tk hP hst' hk' => ?_))
    have hS' := hk' _ _ hSw hS
    refine wpAny_bind (wpAny_pure ?_)
    refine wpAny_bind (wpAny_updateSeq hS' rfl (wpAny_pure ⟨plainId_quiet PySem.F.plain_max_loop _, ?_⟩) (by show 0 ≤ sizeLine; exact Nat.zero_le _) (by show 2 ≤ sizeLine + 1; decide))
    refine max_loopD W bt hcmp s₂.heap.objs.size hSf _ (n - (0 + 1)) 0 _ v _ rfl hn0 (W.frame (0 + 1) h' _ hst' fun b hbf o e => (Heap.get?_update_other _ _ fun (z : s₂.heap.objs.size = b) => hSf (by rw [z]; exact hbf)).trans e) hP (Heap.get?_update_self _ hS' rfl) fun v' h'' tk'' hP' hk'' => ?_
    refine q1 hn0 v' h'' tk'' hP' fun b o hbw e => ?_
    have hbS : b ≠ s₂.heap.objs.size := Nat.ne_of_lt (Heap.lt_size e)
    exact hk'' b o hbw hbS ((Heap.get?_update_other _ _ (Ne.symm hbS)).trans (hk' b o hbw (keep b o e)))
section
variable {X : Cx}
def tMaxD (K : PySem.W.Frag) (ta td : TE) : TE := fun σ H Q => tCons ta tNil σ H fun vs H1 => td σ H1 fun y H2 => ∃ (l : Addr) (ns : List Int) (d : Int), vs = [.ref l] ∧ y = .int d ∧ SqL K H2 l (ns.map V.int) ∧ (ns = [] → Q (.int d) H2) ∧ (ns ≠ [] → ∀ M, M ∈ ns → (∀ a, a ∈ ns → a ≤ M) → Q (.int M) H2)
theorem pe_maxD {e v : Expr} {ta td : TE} {p kp pos : Pos} (hc : X.calm = true) (hg : Gl X "max") (hm : X.mg "max" = none) (ha : PE X e ta) (hd : PE X v td)
    (he : starEach [e] X.env = (false, eval e X.env) :: starEach [] X.env := by rfl) (hb : backTo pos (starEach [e] X.env) = (false, eval e X.env) :: backTo pos (starEach [] X.env) := by rfl) (hpl : ((backTo pos (starEach [e] X.env)).any fun x => x.1) = false := by rfl)
    (hk1 : ((backToKw pos (keywordEach [{ arg := some "default", value := v, pos := kp }] X.env)).all fun x => x.1.isSome) = true := by rfl) (hk2 : ((backToKw pos (keywordEach [{ arg := some "default", value := v, pos := kp }] X.env)).any fun x => x.1.isNone) = false := by rfl)
    (hk3 : (List.filterMap (fun x => x.1) (backToKw pos (keywordEach [{ arg := some "default", value := v, pos := kp }] X.env))) = [("default" : Str)] := by rfl) :
    PE X (.Call (.Name "max" p) [e] [{ arg := some "default", value := v, pos := kp }] pos) (tMaxD X.K ta td) := by
  intro pins s σ H Q I h
  refine wpAny_Call_Name_kw (ld_blt I hg hm PyProof.Rows.boot_max ?_ (by decide) (by decide))
  have pa : PA X [e] (tCons ta tNil) := pa_cons ha pa_nil he
  refine PyProof.Rows.callWith_kw (thn (pa pos pins s σ H _ I h) fun us s1 ⟨vs, H1, I1, r1, q1⟩ => ?_) hb hpl hk1 hk2
  · refine kws_cons (thn (hd pins s1 σ H1 _ I1 q1) fun uv s2 ⟨y, H2, I2, r2, q2⟩ => kws_nil ?_)
    obtain ⟨l, ns, d, rfl, rfl, hq, q0, q1⟩ := q2
    obtain ⟨u, rfl, ru⟩ := vals1 r1
    rw [hk3]
    obtain ⟨t, rfl⟩ := r2
    cases ru
    show wpAny (model X.prog X.w) X.A (call (.builtin "max") [.ref l] [("default", .int d t)]) (EP X pins σ Q) X.xe s2
    obtain ⟨its, rv, pl, hz⟩ := I2.list hq
    have hi := ints_vals rv
    have hlen := rv.length
    rw [List.length_map] at hlen
    have lt : l < s2.heap.objs.size := by obtain ⟨o, e, _⟩ := pl.isList; exact Heap.lt_size e
    have val : ∀ (i : Nat) (v : Value), its.toArray[i]? = some v → ∃ t, v = Value.int (ns.getD i 0) t := fun i v hv => by
      have hv' : its[i]? = some v := by simpa using hv
      have hi : i < ns.length := by have := (List.getElem?_eq_some_iff.mp hv').1; omega
      have e : ns.getD i 0 = ns[i] := by simp [List.getD, List.getElem?_eq_getElem hi]
      obtain ⟨u, hu, ru⟩ := rv.get (i := i) (x := .int ns[i]) (by rw [List.getElem?_map, List.getElem?_eq_getElem hi]; rfl)
      rw [hv'] at hu
      cases hu
      obtain ⟨t, rfl⟩ := ru
      rw [e]
      exact ⟨t, rfl⟩
    refine call_maxD_walk (wpAny_pyIter_list pl.isList ?_)
    refine ⟨s2.heap.objs.size, _, _, its.toArray.size, _, _, fun i j => decide (ns.getD i 0 > ns.getD j 0), rfl, Walks.list (A := X.A.in1) (show X.A.in1.handled = none from I2.ok.hd hc) s2.heap.objs.size l (Nat.ne_of_lt lt) its.toArray, ⟨⟨_, Heap.get?_push_size _ rfl, rfl, rfl⟩, pl.isList.at fun o e => Heap.get?_push_of_some _ e⟩, ?_, CmpOf.ints_gt (fun i => ns.getD i 0) val, fun h0 h' tk kk => ?_, fun h0 v h' tk hv kk => ?_⟩
    · intro b hb'
      have sz : ∀ o : Obj, (s2.heap.push o).objs.size = s2.heap.objs.size + 1 := fun o => by simp [Heap.push]
      simp only [List.mem_cons, List.not_mem_nil, or_false] at hb'
      show b < (s2.heap.push _).objs.size
      rw [sz]
      rcases hb' with e | e
      · rw [e]; exact Nat.lt_succ_self _
      · rw [e]; exact Nat.lt_succ_of_lt lt
    · have e0 : ns = [] := List.eq_nil_of_length_eq_zero (by rw [List.size_toArray] at h0; omega)
      refine ⟨.int d, H2, ?_, ⟨_, rfl⟩, q0 e0⟩
      refine I2.kept fun b o hb => kk b o (fun z => ?_) (Heap.get?_push_of_some _ hb)
      exact absurd (Heap.lt_size hb) (by rw [List.mem_singleton.mp z]; exact Nat.lt_irrefl _)
    · have hne : ns ≠ [] := fun z => by rw [List.size_toArray, ← hlen, z] at h0; exact absurd h0 (by decide)
      have hp := List.length_pos_iff.mpr hne
      obtain ⟨t, rfl⟩ := val _ _ hv
      obtain ⟨h1, h2⟩ := argBest_gt (fun i => ns.getD i 0) (its.toArray.size - 1)
      have mm : ∀ i, i < ns.length → ns.getD i 0 ∈ ns := fun i hi => by simp [List.getD, List.getElem?_eq_getElem hi]
      refine ⟨.int _, H2, ?_, ⟨_, rfl⟩, q1 hne _ (mm _ (Nat.lt_of_le_of_lt h1 (by rw [List.size_toArray]; omega))) fun a ha => ?_⟩
      · refine I2.kept fun b o hb => kk b o (fun z => ?_) (Heap.get?_push_of_some _ hb)
        exact absurd (Heap.lt_size hb) (by rw [List.mem_singleton.mp z]; exact Nat.lt_irrefl _)
      · obtain ⟨j, hj, rfl⟩ := List.mem_iff_getElem.mp ha
        have e : ns.getD j 0 = ns[j] := by simp [List.getD, List.getElem?_eq_getElem hj]
        rw [← e]
        exact h2 j (by rw [List.size_toArray]; omega)
end
end L2

set_option maxRecDepth 100000
set_option maxHeartbeats 4000000
namespace Law
open PySem L2
section
seal PA PE PS PSs PT PI PG PGs PIf
variable {P : Program} {w : World} {K : PySem.W.Frag} {mg : Str → Option Value} {base : Heap} {f g : Addr} {fd gd : FuncData}
theorem ok_holds {fH fC fL fB aB : Addr} {dH dC dL dB : FuncData} (FH : Fun K "holding" "holding" sHolding fH dH) (bH : Binds K dH ["world", "saying", "named"] []) (kH : PySem.W.keepIn K (.ref fH) = true) (mH : mg "holding" = some (.ref fH))
    (FC : Fun K "closed" "closed" sClosed fC dC) (bC : Binds K dC ["world", "saying", "named"] []) (kC : PySem.W.keepIn K (.ref fC) = true) (mC : mg "closed" = some (.ref fC))
    (GL : FnOk P w K mg base CX0 1 fL dL ["kind", "found"] (spLedOn K)) (bL : Binds K dL ["kind", "found"] []) (kL : PySem.W.keepIn K (.ref fL) = true) (mL : mg "led_on" = some (.ref fL))
    (GB : FnOk P w K mg base CX0 1 fB dB ["saying", "marks"] spByItself) (bB : Binds K dB ["saying", "marks"] []) (kB : PySem.W.keepIn K (.ref fB) = true) (mB : mg "holds_by_itself" = some (.ref fB))
    (mBi : mg "BINDERS" = some (.ref aB)) (kBi : ∀ H, SqT K H aB ((["least", "most"] : List Str).map V.str)) (mli : mg "list" = none) (mz : mg "zip" = none) (md : mg "dict" = none) : ∀ D, FnOk P w K mg base CX0 (2 + 2 * D) fH dH ["world", "saying", "named"] (spHold D) := by
  intro D
  induction D with
  | zero =>
    refine FH.ok (k := 1) scHold (fun vs H Q E h => ?_) (fun cdv A outer s H vs Q E hr h => ?_)
    · obtain ⟨N, l, d, W, us, v, s, B, e, rfl, _⟩ := h
      rfl
    obtain ⟨N, l, d, W, us, v, s, B, e, rfl, _, _, _, _, hd, _⟩ := h
    exact absurd (Nat.le_trans s.depth_pos hd) (by decide)
  | succ D ih =>
    have GC := ok_closed (P := P) (w := w) (base := base) FC ih bH kH mH md
    rw [show 2 + 2 * D + 1 = 3 + 2 * D by omega] at GC
    rw [show 2 + 2 * (D + 1) = 3 + 2 * D + 1 by omega]
    exact ok_hold FH ih bH kH mH GC bC kC mC GL bL kL mL GB bB kB mB mBi kBi mli mz
def spTrue (D : Nat) : Sp := fun vs H Q _ => ∃ (N : Nat) (l : Addr) (W : Wo N) (us : List V) (v : V) (s : Sy) (e : En N), vs = [.ref l, v] ∧ WorldAt H l W us ∧ SyAt H s v ∧ s.ok [] ∧ s.depth ≤ D ∧ N ≤ 900 ∧ W.rises ∧
  ∀ r H', Same H H' → H r = none → H' r = some (.lst (tr (Se.hold W s e))) → Q (.ref r) H'
theorem scTrue : FnScope ["world", "saying"] ["world", "saying"] (defScope sTrueAt) := ⟨rfl, rfl, rfl, by decide +kernel, rfl, by decide +kernel, by decide +kernel⟩
theorem ok_true (F : Fun K "true_at" "true_at" sTrueAt f fd) {D : Nat} (hD : D ≤ 800) {fH : Addr} {dH : FuncData} (GH : FnOk P w K mg base CX0 (2 + 2 * D) fH dH ["world", "saying", "named"] (spHold D)) (bH : Binds K dH ["world", "saying", "named"] []) (kH : PySem.W.keepIn K (.ref fH) = true) (mH : mg "holding" = some (.ref fH)) :
    FnOk P w K mg base CX0 (2 + 2 * D + 1) f fd ["world", "saying"] (spTrue D) := by
  refine F.ok scTrue (fun vs H Q E h => ?_) (fun cdv A outer s H vs Q E hr h => ?_)
  · obtain ⟨N, l, W, us, v, s, e, rfl, _⟩ := h
    rfl
  obtain ⟨N, l, W, us, v, s, e, rfl, hW, hs, hok, hd, hN, hri, q⟩ := h
  refine ⟨_, pss_one (ps_ret (pe_call GH hr rfl mH kH bH .nil pass0 (pa_cons (pv 0) (pa_cons (pv 1) (pa_cons pe_dnewK pa_nil))))), ?_⟩
  refine ⟨_, rfl, _, rfl, fun d hd' => ?_⟩
  have s1 := same_new hd' (.dK [])
  exact ⟨N, l, d, W, us, _, s, [], e, rfl, hW.same s1, hs.same s1, ⟨[], upd_same, Nat.le_refl _, fun x hx => by cases hx⟩, hok, hd, by simp; omega, hN, hri, fun r H' sm hr' h' => q r H' (s1.trans sm) (s1.free hr') h'⟩
theorem ndOn : (["one"] : List Str).Nodup := by decide +kernel
/-- a list of as many truths -/
def spTruths (K : PySem.W.Frag) : Sp := fun vs H Q _ => ∃ (l : Addr) (bs : List Bool), vs = [.ref l, .int (bs.length : Int)] ∧ H l = some (.lst (bs.map V.bl)) ∧ bs.length ≤ 1000 ∧ ∀ H', Same H H' → Q (.bl true) H'
theorem scTruths : FnScope ["found", "many"] ["found", "many"] (defScope sTruths) := ⟨rfl, rfl, rfl, by decide +kernel, rfl, by decide +kernel, by decide +kernel⟩
theorem ok_truths (F : Fun K "_law_truths" "_law_truths" sTruths f fd) (mi : mg "isinstance" = none) (mli : mg "list" = none) (mb : mg "bool" = none) (ml : mg "len" = none) (mal : mg "all" = none) : FnOk P w K mg base CX0 1 f fd ["found", "many"] (spTruths K) := by
  refine F.ok scTruths (fun vs H Q E h => ?_) (fun cdv A outer s H vs Q E hr h => ?_)
  · obtain ⟨l, bs, rfl, _⟩ := h
    rfl
  obtain ⟨l, bs, rfl, hl, hb, q⟩ := h
  refine ⟨_, pss_cons (ps_if (PW.pt (pw_or (pt_not (pt_val (pe_callB call_isi rfl mi PyProof.Rows.boot_isinstance (pa_cons (pv 0) (pa_cons (pe_bltn (v := .ty "list") rfl mli (by decide +kernel : bootBuiltins "list" = some (.type "list")) rfl) pa_nil)))))
        (pw_or1 (pt_cmpR op_ne (pe_callB call_len_seq rfl ml PySem.boot_len (pa_cons (pv 0) pa_nil)) (pv 1) (nomark _)))))
        (pss_one (ps_ret pe_bl)) pss_nil)
      (pss_one (ps_ret (pe_callB (call_allB rfl) rfl mal PyProof.Rows.boot_all (pa_cons (pe_comp (N := ["one"]) (capt := [none]) rfl (pi_list (pv 0)) rfl (by repeat (first | exact .nil | refine .cons rfl ?_))
        (by repeat (first | exact .nil | refine .skip (by decide) (by decide) ?_ | refine .free ⟨_, rfl⟩ ?_)) (.tgt .nil)
        (fun _ _ _ _ _ => pg_name (i := 0) ndOn rfl (Or.inl rfl)) (fun _ _ _ _ _ => pif_nil)
        (fun _ _ _ _ _ => pe_callB (isiK K) rfl mi PyProof.Rows.boot_isinstance (pa_cons (pv 0) (pa_cons (pe_bltn (v := .ty "bool") rfl mb (by decide +kernel : bootBuiltins "bool" = some (.type "bool")) rfl) pa_nil)))) pa_nil)))), ?_⟩
  refine ⟨_, rfl, _, _, _, true, rfl, .lst hl, kit_same, _, rfl, iteF ?_⟩
  refine ⟨_, rfl, l, _, rfl, .inl (SqL.of hl), _, rfl, rfl, _, rfl, ?_⟩
  refine iteNS (by rw [List.length_map]) ?_
  refine ⟨_, rfl, l, rfl, ⟨_, SqL.of hl⟩, ?_⟩
  refine comp_list (K := K) (a := l) (xs := bs.map V.bl) (fun C i ys H2 => Same H H2 ∧ H C = none ∧ H2 C = some (.lst ys) ∧ ys = (List.replicate i true).map V.bl) ?_ ?_ ?_ ?_
  · exact fun C hC => ⟨same_new hC _, hC, upd_same, rfl⟩
  · rintro C i ys H2 hi ⟨sm, hC, h2, ey⟩
    refine ⟨SqL.of (sm _ _ hl), h2, fun _ => ?_⟩
    rw [ey]
    rw [List.length_map] at hi
    exact small1000 (by simp; omega)
  · rintro C i x ys H2 hx ⟨sm, hC, h2, ey⟩
    rw [List.getElem?_map] at hx
    obtain ⟨z, ez, rfl⟩ := Option.map_eq_some_iff.mp hx
    refine ⟨trivial, _, rfl, _, _, _, true, rfl, .bl z, kit_same, h2, fun b o e => ?_, hC, upd_same, ?_⟩
    · rw [upd_ne (ne_of_none e hC)]
      exact sm b o e
    · rw [ey, List.replicate_succ', List.map_append]
      rfl
  · rintro C ys H2 ⟨sm, hC, h2, ey⟩
    refine ⟨C, List.replicate (bs.map V.bl).length true, rfl, by rw [← ey]; exact SqL.of h2, ?_⟩
    have e : (List.replicate (bs.map V.bl).length true).all id = true := by simp
    rw [e]
    exact q H2 sm
end
end Law

set_option maxRecDepth 100000
/-! ### the places that come of the words: the N-th turn lies below (above) each fixed set -/
namespace L2
open PySem
namespace Se
variable {N : Nat}
theorem it_below {b : Bool} {F : Tr N → Tr N} (h : ∀ t u, le t u → le (F t) (F u)) {S : Tr N} (hS : F S = S) : ∀ n, leB b (it F n fun _ => !b) S
  | 0 => fun i z => by
    have z' : (!b) = b := z
    cases b <;> cases z'
  | n + 1 => fun i z => by
    have := leB_of h (it_below (b := b) h hS n) i z
    rw [hS] at this
    exact this
/-- of a least: in every fixed set; of a most: in some -/
theorem least_all {F : Tr N → Tr N} (h : ∀ t u, le t u → le (F t) (F u)) (i : Fin N) : it F N (fun _ => !true) i = true ↔ ∀ S, F S = S → S i = true := by
  constructor
  · exact fun z S hS => it_below (b := true) h hS N i z
  · exact fun z => z _ (stable (b := true) h)
theorem most_some {F : Tr N → Tr N} (h : ∀ t u, le t u → le (F t) (F u)) (i : Fin N) : it F N (fun _ => !false) i = true ↔ ∃ S, F S = S ∧ S i = true := by
  constructor
  · exact fun z => ⟨_, stable (b := false) h, z⟩
  · rintro ⟨S, hS, z⟩
    cases e : it F N (fun _ => !false) i with
    | true => rfl
    | false =>
      have := it_below (b := false) h hS N i e
      rw [z] at this
      cases this
end Se
/-- the positions of a set, from the lowest -/
def pos {N : Nat} (f : Tr N) : List Nat := ((List.finRange N).filter f).map Fin.val
theorem mem_pos {N : Nat} {f : Tr N} {n : Nat} : n ∈ pos f ↔ ∃ h : n < N, f ⟨n, h⟩ = true := by
  unfold pos
  constructor
  · intro h
    obtain ⟨i, hi, rfl⟩ := List.mem_map.mp h
    exact ⟨i.isLt, (List.mem_filter.mp hi).2⟩
  · rintro ⟨h, e⟩
    exact List.mem_map.mpr ⟨⟨n, h⟩, List.mem_filter.mpr ⟨List.mem_finRange _, e⟩, rfl⟩
theorem pos_inj {N : Nat} {f g : Tr N} (h : pos f = pos g) : f = g := by
  funext i
  have h1 : i.val ∈ pos f ↔ i.val ∈ pos g := by rw [h]
  rw [mem_pos, mem_pos] at h1
  cases e1 : f i <;> cases e2 : g i
  · rfl
  · obtain ⟨_, z⟩ := h1.mpr ⟨i.isLt, e2⟩
    exact absurd (e1.symm.trans z) (by decide)
  · obtain ⟨_, z⟩ := h1.mp ⟨i.isLt, e1⟩
    exact absurd (e2.symm.trans z) (by decide)
  · rfl
theorem pos_len {N : Nat} (f : Tr N) : (pos f).length ≤ N := by
  unfold pos
  rw [List.length_map]
  exact Nat.le_trans (List.length_filter_le _ _) (by simp)
/-- all sets of numbers below k, in the law's order -/
def subsets : Nat → List (List Nat)
  | 0 => [[]]
  | k + 1 => subsets k ++ (subsets k).map fun l => l ++ [k]
/-- what is true below k alone, as a list -/
def upTo (f : Nat → Bool) : Nat → List Nat
  | 0 => []
  | k + 1 => if f k = true then upTo f k ++ [k] else upTo f k
theorem upTo_succ (f : Nat → Bool) (k : Nat) : upTo f (k + 1) = if f k = true then upTo f k ++ [k] else upTo f k := rfl
theorem upTo_mem (f : Nat → Bool) : ∀ k, upTo f k ∈ subsets k
  | 0 => by simp [upTo, subsets]
  | k + 1 => by
    have ih := upTo_mem f k
    unfold upTo subsets
    split
    · exact List.mem_append_right _ (List.mem_map.mpr ⟨_, ih, rfl⟩)
    · exact List.mem_append_left _ ih
theorem upTo_congr {f g : Nat → Bool} : ∀ {k : Nat}, (∀ n < k, f n = g n) → upTo f k = upTo g k
  | 0, _ => rfl
  | k + 1, h => by
    unfold upTo
    rw [h k (by omega), upTo_congr fun n hn => h n (by omega)]
theorem subsets_upTo : ∀ {k : Nat} {l : List Nat}, l ∈ subsets k → ∃ f : Nat → Bool, l = upTo f k
  | 0, l, h => ⟨fun _ => false, by simpa [subsets, upTo] using h⟩
  | k + 1, l, h => by
    rcases List.mem_append.mp (show l ∈ subsets k ++ _ from h) with h | h
    · obtain ⟨f, rfl⟩ := subsets_upTo h
      refine ⟨fun n => if n = k then false else f n, ?_⟩
      rw [upTo_succ]
      simp only [if_true, Bool.false_eq_true, if_false]
      exact upTo_congr fun n hn => by rw [if_neg (by omega)]
    · obtain ⟨l', hl', rfl⟩ := List.mem_map.mp h
      obtain ⟨f, rfl⟩ := subsets_upTo hl'
      refine ⟨fun n => if n = k then true else f n, ?_⟩
      rw [upTo_succ]
      simp only [if_true]
      rw [upTo_congr (f := fun n => if n = k then true else f n) (g := f) fun n hn => by rw [if_neg (by omega)]]
theorem upTo_filter (f : Nat → Bool) : ∀ k, upTo f k = (List.range k).filter f
  | 0 => rfl
  | k + 1 => by
    rw [List.range_succ, List.filter_append]
    unfold upTo
    rw [upTo_filter f k]
    split
    · rename_i h; simp [h]
    · rename_i h; simp [h]
def ext {N : Nat} (f : Tr N) : Nat → Bool := fun n => if h : n < N then f ⟨n, h⟩ else false
theorem pos_range {N : Nat} (f : Tr N) : pos f = (List.range N).filter (ext f) := by
  unfold pos
  have : List.range N = (List.finRange N).map Fin.val := List.ext_getElem (by simp) (fun i h1 h2 => by simp)
  rw [this, List.filter_map]
  congr 1
  refine List.filter_congr fun i _ => ?_
  show f i = ext f i.val
  simp [ext]
theorem pos_mem {N : Nat} (f : Tr N) : pos f ∈ subsets N := by rw [pos_range, ← upTo_filter]; exact upTo_mem _ _
theorem subsets_pos {N : Nat} {l : List Nat} (h : l ∈ subsets N) : ∃ f : Tr N, l = pos f := by
  obtain ⟨f, rfl⟩ := subsets_upTo h
  refine ⟨fun i => f i.val, ?_⟩
  rw [pos_range, upTo_filter]
  refine List.filter_congr fun n hn => ?_
  have := List.mem_range.mp hn
  simp [ext, this]
theorem subsets_len : ∀ k, (subsets k).length = 2 ^ k
  | 0 => rfl
  | k + 1 => by simp [subsets, subsets_len k, Nat.pow_succ]; omega
theorem subsets_each : ∀ {k : Nat} {l : List Nat}, l ∈ subsets k → l.length ≤ k
  | 0, l, h => by simp [subsets] at h; simp [h]
  | k + 1, l, h => by
    rcases List.mem_append.mp (show l ∈ subsets k ++ _ from h) with h | h
    · have := subsets_each h; omega
    · obtain ⟨l', hl', rfl⟩ := List.mem_map.mp h
      have := subsets_each hl'
      simp; omega
end L2

set_option maxRecDepth 100000
namespace L2
open PySem PySem.Spec PyProof.Rows
/-! ### comprehensions whose own target is read by a comprehension within: one own cell -/
def cellObj : Obj := { cls := .type "cell", data := .cell none }
theorem env_cell {M : Model} {A : Around} {E : Value → Shared → Prop} {s : Shared} {scope : Scope} {globals : Addr} {cl : List (Str × Addr)} {qual : Str} {env : Env} {o : Str} {pre post : List (Str × NameKind)} {Q : Env → Shared → Prop} (hn : scope.names = pre ++ (o, .cell) :: post) (h1 : ∀ y ∈ pre, y.2 ≠ .cell) (h2 : ∀ y ∈ post, y.2 ≠ .cell)
    (h : Q { scope := scope, locals := s.heap.objs.size, globals := globals, cells := (o, s.heap.objs.size + 1) :: cl, qual := qual, func := none, code := env.code, frame := env.frame, builtins := env.builtins } { s with heap := (s.heap.push { cls := .type "dict", data := .dict #[] }).push cellObj }) :
    wpAny M A (newFunctionEnv scope globals cl [] qual none .none (some env)) Q E s := by
  unfold newFunctionEnv
  refine wpAny_bind (wpAny_alloc ?_)
  refine wpAny_bind ?_
  rw [hn]
  refine wpAny_forIn_list _ (fun rest b s' => (∃ k, rest = pre.drop k ++ (o, .cell) :: post ∧ b = cl ∧ s' = { s with heap := s.heap.push { cls := .type "dict", data := .dict #[] } }) ∨ (∃ k, rest = post.drop k ∧ b = (o, s.heap.objs.size + 1) :: cl ∧ s' = { s with heap := (s.heap.push { cls := .type "dict", data := .dict #[] }).push cellObj })) _ ?_ ?_ _ _ ?_
  · rintro x rest b s' (⟨k, e1, rfl, rfl⟩ | ⟨k, e1, rfl, rfl⟩)
    · cases hd : pre.drop k with
      | nil =>
        rw [hd] at e1
        injection e1 with e1 e2
        subst e1 e2
        refine wpAny_bind (wpAny_alloc (wpAny_pure (.inr ⟨0, rfl, ?_, rfl⟩)))
        simp [Heap.push]
      | cons y r =>
        rw [hd] at e1
        injection e1 with e1 e2
        subst e1 e2
        have my : x ∈ pre := List.mem_of_mem_drop (by rw [hd]; simp)
        have hk := h1 x my
        obtain ⟨nm, kd⟩ := x
        have hk' : (kd == NameKind.cell) = false := by cases kd <;> first | rfl | exact absurd rfl hk
        show wpAny M A (if (kd == NameKind.cell) = true then _ else _) _ E _
        rw [hk']
        refine wpAny_pure (.inl ⟨k + 1, ?_, rfl, rfl⟩)
        have : pre.drop (k + 1) = r := by rw [← List.drop_drop, hd]; rfl
        rw [this]
        rfl
    · have my : x ∈ post := List.mem_of_mem_drop (by rw [← e1]; simp)
      have hk := h2 x my
      obtain ⟨nm, kd⟩ := x
      have hk' : (kd == NameKind.cell) = false := by cases kd <;> first | rfl | exact absurd rfl hk
      show wpAny M A (if (kd == NameKind.cell) = true then _ else _) _ E _
      rw [hk']
      refine wpAny_pure (.inr ⟨k + 1, ?_, rfl, rfl⟩)
      rw [← List.drop_drop, ← e1]
      rfl
  · rintro b s' (⟨k, e1, _, _⟩ | ⟨k, e1, rfl, rfl⟩)
    · have := congrArg List.length e1
      simp at this
    · exact wpAny_bind (wpAny_pure (wpAny_pure h))
  · exact .inl ⟨0, rfl, rfl, rfl⟩
theorem lk {o : Str} {n : Addr} {cl : List (Str × Addr)} {x : Str} {c : Addr} (h : ((o, n) :: cl).lookup x = some c) : (x = o ∧ c = n) ∨ (x ≠ o ∧ cl.lookup x = some c) := by
  rw [List.lookup_cons] at h
  split at h
  · rename_i e
    exact .inl ⟨eq_of_beq e, (Option.some.inj h).symm⟩
  · rename_i e
    exact .inr ⟨fun z => by rw [z] at e; simp at e, h⟩
theorem lk_ne {o : Str} {n : Addr} {cl : List (Str × Addr)} {x : Str} (h : x ≠ o) : ((o, n) :: cl).lookup x = cl.lookup x := by
  rw [List.lookup_cons]
  split
  · rename_i e
    exact absurd (eq_of_beq e) h
  · rfl
theorem lookup_skip {κ : Type} {o x : Str} {k : κ} (h : x ≠ o) : ∀ (l1 l2 : List (Str × κ)), (l1 ++ (o, k) :: l2).lookup x = (l1 ++ l2).lookup x
  | [], l2 => by
    rw [List.nil_append, List.nil_append, List.lookup_cons]
    split
    · rename_i e; exact absurd (eq_of_beq e) h
    · rfl
  | (y, q) :: l1, l2 => by
    rw [List.cons_append, List.cons_append, List.lookup_cons, List.lookup_cons, lookup_skip h l1 l2]
/-- the context of such a block -/
def cxD (X : Cx) (scope : Scope) (o : Str) (cl : List (Str × Addr)) (N : List Str) (C : Addr) (fp : List Addr) (s : Shared) (H : Hp) (pins : List (Addr × Obj)) : Cx :=
  { cxC X scope ((o, C + 1) :: cl) N C fp s H pins with fn := fun x => x == o }
section
variable {X : Cx} {tg iter elt : Expr} {ifs : List Expr} {scope : Scope} {o : Str} {pre post : List (Str × NameKind)} {cl : List (Str × Addr)} {N : List Str} {capt : List (Option Nat)} {wi : TI} {g : TG} {tc : TT} {te : TE} {pos : Pos}
theorem cxD_start {pins : List (Addr × Obj)} {σ : St} {H : Hp} {s : Shared} {fp : List Addr} {C : Addr} {h1 : Heap} {tk : Nat} {m : Str → Option Value} (I : Inv X pins σ H s) (hf : ∀ b ∈ fp, FpOk X pins H b) (hx : ∀ b ∈ fp, ∃ o, s.heap.get? b = some o)
    (hcap : Capt X scope cl N capt) (hok : ClOk X.env cl) (hnm : scope.names = pre ++ (o, .cell) :: post) (hfr : FreeOk cl (pre ++ post)) (ho : cl.lookup o = none) (hkind : scope.kind = .function) (hC : s.heap.objs.size ≤ C) (hn : h1.Ns C m) (hcell : h1.IsCell (C + 1) none) (hk : ∀ b o, s.heap.get? b = some o → h1.get? b = some o) :
    Inv (cxD X scope o cl N C fp s H pins) [] (capS capt σ) H { s with heap := h1, toks := tk } := by
  have lt : ∀ {b : Addr} {o : Obj}, s.heap.get? b = some o → b ≠ C := fun e => Nat.ne_of_lt (Nat.lt_of_lt_of_le (Heap.lt_size e) hC)
  have lt1 : ∀ {b : Addr} {o : Obj}, s.heap.get? b = some o → b ≠ C + 1 := fun e => Nat.ne_of_lt (Nat.lt_of_lt_of_le (Heap.lt_size e) (Nat.le_succ_of_le hC))
  have cellAt : ∀ {x : Str} {c : Addr}, cl.lookup x = some c → ∃ o, s.heap.get? c = some o := fun {x c} e => by
    obtain ⟨v, q, eq, _⟩ := I.cell x c (hok.get e)
    exact ⟨q, eq⟩
  have nst : ∀ b, b ≠ X.env.locals → b ∉ X.fs → b ∉ frs X.stack := fun b h1 h2 h3 => (List.mem_cons.mp (I.stkSub b h3)).elim h1 h2
  refine ⟨⟨I.ok.mod, hkind, I.ok.glob, I.ok.blt, hC, fun x y c e1 e2 => ?_, fun x e => ?_, fun x c e e2 => ?_, I.ok.hd, I.ok.frames, .inl rfl, fun b hb => ?_, I.bs,
    Nat.le_trans I.ok.bsz I.sz, fun b o e hb => ?_, fun b hb => ?_, I.stack, I.stkFree⟩, rfl, I.bare, Un.kept hk, ⟨m, hn, fun i x v e1 e2 e3 => ?_⟩, fun x c e => ?_, I.hok.fresh hC, fun x c e => ?_, fun p hp => ?_, I.hok.kept hk, ?_⟩
  · rcases lk e1 with ⟨h1, h2⟩ | ⟨h1, h2⟩ <;> rcases lk e2 with ⟨h3, h4⟩ | ⟨h3, h4⟩
    · rw [h1, h3]
    · obtain ⟨q, eq⟩ := cellAt h4
      exact absurd h2 (lt1 eq)
    · obtain ⟨q, eq⟩ := cellAt h2
      exact absurd h4 (lt1 eq)
    · exact I.ok.inj x y c (hok.get h2) (hok.get h4)
  · by_cases hxo : x = o
    · subst hxo
      exact ⟨C + 1, by show List.lookup x ((x, C + 1) :: cl) = _; rw [List.lookup_cons]; simp⟩
    · have e' : ((pre ++ post).map fun (n, k) => if (k == .free && X.env.scope.kind == .function && X.env.kindOf n == some .cell) then (n, .cell) else (n, k)).lookup x = some .cell ∨ ((pre ++ post).map fun (n, k) => if (k == .free && X.env.scope.kind == .function && X.env.kindOf n == some .cell) then (n, .cell) else (n, k)).lookup x = some .free := by
        have e0 : (relabel scope X.env).names.lookup x = some .cell ∨ (relabel scope X.env).names.lookup x = some .free := e
        have e1 : (relabel scope X.env).names = (pre.map fun (n, k) => if (k == .free && X.env.scope.kind == .function && X.env.kindOf n == some .cell) then (n, .cell) else (n, k)) ++ (o, .cell) :: (post.map fun (n, k) => if (k == .free && X.env.scope.kind == .function && X.env.kindOf n == some .cell) then (n, .cell) else (n, k)) := by
          show scope.names.map _ = _
          rw [hnm, List.map_append, List.map_cons]
          rfl
        rw [e1, lookup_skip hxo, ← List.map_append] at e0
        exact e0
      obtain ⟨c, hc⟩ := hfr.get (env := X.env) e'
      exact ⟨c, by show List.lookup x ((o, C + 1) :: cl) = _; rw [lk_ne hxo]; exact hc⟩
  · have hxo : x = o := eq_of_beq e
    rcases lk e2 with ⟨_, h2⟩ | ⟨h1, _⟩
    · rw [h2]; exact Nat.le_succ_of_le hC
    · exact absurd hxo h1
  · obtain ⟨q, eq⟩ := hx b hb
    refine ⟨lt eq, fun x c e' => ?_⟩
    rcases lk e' with ⟨_, h2⟩ | ⟨_, h2⟩
    · rw [h2]; exact (lt1 eq).symm
    · exact (hf b hb).2.2.2.2.1 x c (hok.get h2)
  · rcases (hf b hb).2.2.2.1 with z | z
    · exact I.ok.noex b o e z
    · exact absurd (Nat.lt_of_lt_of_le (Heap.lt_size e) (Nat.le_trans I.ok.bsz z)) (Nat.lt_irrefl _)
  · exact nst b (hf b hb).2.1 (hf b hb).2.2.1
  · obtain ⟨j, hj, hs, hkd, ⟨a, ha⟩, hk2⟩ := hcap.get e1 e2
    obtain ⟨m0, _, hl⟩ := I.loc
    obtain ⟨u, r, l⟩ := hl j x v hj hs (.inr hkd)
    have hxo : x ≠ o := fun z => by rw [z, ho] at ha; cases ha
    refine ⟨u, r, .inr ⟨hk2, a, (lk_ne hxo).trans ha, ?_⟩⟩
    rcases l with ⟨k, _⟩ | ⟨_, c, ec, o, eo, ed⟩
    · rcases hkd with z | z
      · rw [z] at k; cases k
      · rw [z] at k; cases k
    · rw [hok.get ha] at ec
      cases ec
      exact ⟨o, hk _ _ eo, ed⟩
  · rcases lk e with ⟨_, h2⟩ | ⟨_, h2⟩
    · rw [h2]; exact ⟨none, hcell⟩
    · obtain ⟨v, o, eo, ed⟩ := I.cell x c (hok.get h2)
      exact ⟨v, o, hk _ _ eo, ed⟩
  · rcases lk e with ⟨_, h2⟩ | ⟨_, h2⟩
    · rw [h2]; exact I.hok.fresh (Nat.le_succ_of_le hC)
    · exact I.freeC x c (hok.get h2)
  · have hp' : p ∈ X.pn ++ pins := by
      have z : p ∈ (X.pn ++ pins) ++ [] := hp
      simpa using z
    obtain ⟨e, n, ne, nf, d⟩ := I.pin p hp'
    exact ⟨hk _ _ e, n, lt e, nst _ ne nf, d⟩
  · show (capt.map _).length = N.length
    rw [List.length_map, hcap.len]
/-- behind the block -/
theorem cxD_end {pins pins' : List (Addr × Obj)} {σ σ' : St} {H H' : Hp} {s s' : Shared} {fp : List Addr} {C : Addr} {h' : Heap} (I : Inv X pins σ H s) (hf : ∀ b ∈ fp, FpOk X pins H b) (hC : s.heap.objs.size ≤ C)
    (J : Inv (cxD X scope o cl N C fp s H pins) pins' σ' H' s') (sb : Heap.SameBut C s'.heap h') : Inv X pins σ H' { s' with heap := h' } := by
  have lt : ∀ {b : Addr} {o : Obj}, s.heap.get? b = some o → b ≠ C := fun e => Nat.ne_of_lt (Nat.lt_of_lt_of_le (Heap.lt_size e) hC)
  have U : Un (frs X.stack) fp H H' s.heap s'.heap := J.base
  have hCn : H' C = none := J.free
  refine I.call' (ch := fp) J.os ⟨fun b o e n hb hx => (sb.2 b (lt e)).trans (U.keep b o e n hb hx), fun b o e n hb hx => ?_, U.free, fun b o e hx => ?_, U.tups, U.frzs, U.tbls⟩ (fun b o e => ?_) J.bare fun b hb => ?_
  · obtain ⟨sl, q⟩ := U.slot b o e n hb hx
    exact ⟨sl, (sb.2 b (lt e)).trans q⟩
  · obtain ⟨o', q⟩ := U.there b o e hx
    exact ⟨o', (sb.2 b (lt e)).trans q⟩
  · refine (J.hok b o e).stay (fun c v hc q => (sb.2 c ?_).trans q) (fun _ q => q) fun _ _ q => q
    rcases hc with z | z
    · intro z2
      rw [← z, z2, hCn] at e
      cases e
    · intro z2
      rw [z2, hCn] at z
      cases z
  · obtain ⟨_, f1, _, f3, f4, f5⟩ := hf b hb
    exact ⟨f3, f1, f4, f5⟩
/-- the block: a new list, the block's names, the loop; R: what is wanted behind -/
theorem comp_blockD {pins : List (Addr × Obj)} {σ : St} {H2 : Hp} {s2 : Shared} {it : Addr} {fp : List Addr} {tn : Nat → Heap → Prop} {J : It} {Q : V → Hp → Prop} {RR : Value → Addr → Result → Shared → Prop} {E : Value → Shared → Prop} (hc : X.calm = true)
    (hok : ClOk X.env cl) (hnm : scope.names = pre ++ (o, .cell) :: post) (hn1 : ∀ y ∈ pre, y.2 ≠ .cell) (hn2 : ∀ y ∈ post, y.2 ≠ .cell) (hfr : FreeOk cl (pre ++ post)) (ho : cl.lookup o = none) (hcap : Capt X scope cl N capt)
    (hg : ∀ C fp s H pn, PG (cxD X scope o cl N C fp s H pn) tg g) (ht : ∀ C fp s H pn, PIf (cxD X scope o cl N C fp s H pn) ifs tc) (he : ∀ C fp s H pn, PE (cxD X scope o cl N C fp s H pn) elt te)
    (hkind : scope.kind = .function)
    (I2 : Inv X pins σ H2 s2) (T : Turn X.prog X.w X.K tg J fp it tn) (st2 : tn 0 s2.heap) (f2 : ∀ b ∈ fp, FpOk X pins H2 b)
    (h : CompW J g tc te (capS capt σ) H2 Q)
    (hR : ∀ D C s' m H', s'.heap.Ns C m → Inv X pins σ H' s' → FpOk X pins H' C → Q (.ref D) H' → RR (.ref D) C (.ok .next) s') :
    wpAny (model X.prog X.w) X.A (newList []) (fun acc s3 => wpAny (model X.prog X.w) X.A (newFunctionEnv scope X.env.globals cl [] X.env.qual none .none (some X.env)) (fun cenv s4 =>
      codeAny (model X.prog X.w) X.A (.compStart (.ListComp elt [⟨tg, iter, ifs, 0⟩] scope pos) 0 (.ref it) acc { cenv with scope := relabel scope X.env }) (RR acc cenv.locals) s4) E s3) E s2 := by
  obtain ⟨W, ⟨m0, w0⟩, turn⟩ := h s2.heap.objs.size (I2.hok.fresh (Nat.le_refl _))
  have I3 : Inv X pins σ (upd H2 s2.heap.objs.size (.lst [])) { s2 with heap := s2.heap.push { cls := .type "list", data := .seq ([] : List Value).toArray }, toks := s2.toks } := I2.lnew (its := []) .nil (Nat.zero_le _)
  have oz : ∀ b ∈ fp, ∃ o, s2.heap.get? b = some o := fun b hb => let ⟨o, e, _⟩ := T.obj _ _ st2 b hb; ⟨o, e⟩
  have f3 : ∀ b ∈ fp, FpOk X pins (upd H2 s2.heap.objs.size (.lst [])) b := fun b hb => by
    obtain ⟨o, e⟩ := oz b hb
    exact ⟨by rw [upd_ne (Nat.ne_of_lt (Heap.lt_size e))]; exact (f2 b hb).1, (f2 b hb).2⟩
  have o3 : ∀ b ∈ fp, ∃ o, (s2.heap.push { cls := .type "list", data := .seq ([] : List Value).toArray }).get? b = some o := fun b hb => let ⟨o, e⟩ := oz b hb; ⟨o, Heap.get?_push_of_some _ e⟩
  have st3 : tn 0 (s2.heap.push { cls := .type "list", data := .seq ([] : List Value).toArray }) := T.keep _ _ _ st2 fun b _ o e => Heap.get?_push_of_some _ e
  refine wpAny_newObj_type (env_cell hnm hn1 hn2 ?_)
  dsimp only
  generalize hG : s2.heap.push { cls := .type "list", dict := none, data := .seq ([] : List Value).toArray } = G at *
  have keep : ∀ b o, G.get? b = some o → ((G.push { cls := .type "dict", data := .dict #[] }).push cellObj).get? b = some o := fun b o e => Heap.get?_push_of_some _ (Heap.get?_push_of_some _ e)
  have hns : ((G.push { cls := .type "dict", data := .dict #[] }).push cellObj).Ns G.objs.size fun _ => none := by
    obtain ⟨q, es, ep, e1, e2⟩ := Heap.Ns.new G (.type "dict")
    exact ⟨q, es, ep, Heap.get?_push_of_some _ e1, e2⟩
  have hcl : ((G.push { cls := .type "dict", data := .dict #[] }).push cellObj).IsCell (G.objs.size + 1) none := by
    have sz : (G.push { cls := .type "dict", data := .dict #[] }).objs.size = G.objs.size + 1 := by simp [Heap.push]
    have : ((G.push { cls := .type "dict", data := .dict #[] }).push cellObj).get? (G.push { cls := .type "dict", data := .dict #[] }).objs.size = some cellObj := Heap.get?_push_size _ rfl
    rw [sz] at this
    exact ⟨_, this, rfl⟩
  generalize hh1 : (G.push { cls := .type "dict", data := .dict #[] }).push cellObj = h1 at keep hns hcl
  have I4 : Inv (cxD X scope o cl N G.objs.size fp { s2 with heap := G, toks := s2.toks } (upd H2 s2.heap.objs.size (.lst [])) pins) [] (capS capt σ) (upd H2 s2.heap.objs.size (.lst [])) { s2 with heap := h1, toks := s2.toks } :=
    cxD_start (s := { s2 with heap := G, toks := s2.toks }) I3 f3 o3 hcap hok hnm hfr ho hkind (Nat.le_refl _) hns hcl keep
  have st4 : tn 0 h1 := T.keep _ _ _ st3 fun b _ o e => keep b o e
  -- the iterator's objects in the block's context
  have stat : ∀ {H' : Hp}, (∀ b ∈ fp, H' b = none) → ∀ b ∈ fp, FpOk (cxD X scope o cl N G.objs.size fp { s2 with heap := G, toks := s2.toks } (upd H2 s2.heap.objs.size (.lst [])) pins) [] H' b := fun {H'} hn b hb => by
    obtain ⟨o, e⟩ := o3 b hb
    refine ⟨hn b hb, Nat.ne_of_lt (Heap.lt_size e), fun z => (List.mem_cons.mp (I3.stkSub b z)).elim (f3 b hb).2.1 (f3 b hb).2.2.1, .inl hb, fun x c e' => ?_, fun p hp => ?_⟩
    · rcases lk e' with ⟨_, h2⟩ | ⟨_, h2⟩
      · rw [h2]; exact (Nat.ne_of_lt (Nat.lt_succ_of_lt (Heap.lt_size e))).symm
      · exact (f3 b hb).2.2.2.2.1 x c (hok.get h2)
    have z : p ∈ (X.pn ++ pins) ++ [] := hp
    exact (f3 b hb).2.2.2.2.2 p (by simpa using z)
  have loop : codeAny (model X.prog X.w) X.A (.compLoop (.ListComp elt [⟨tg, iter, ifs, 0⟩] scope pos) 0 (.ref it) (.ref s2.heap.objs.size) (compEnvC scope ((o, G.objs.size + 1) :: cl) G.objs.size X.env)) (RR (.ref s2.heap.objs.size) G.objs.size)
      { s2 with heap := h1, toks := s2.toks } := by
    refine comp_loop (fun n s' => ∃ i ys H', Inv (cxD X scope o cl N G.objs.size fp { s2 with heap := G, toks := s2.toks } (upd H2 s2.heap.objs.size (.lst [])) pins) [] (capS capt σ) H' s' ∧ tn i s'.heap ∧ (∀ b ∈ fp, H' b = none) ∧ W i n ys H') ?_ m0
      ⟨0, [], _, I4, st4, fun b hb => (f3 b hb).1, w0⟩
    rintro n s5 ⟨i, ys, H5, I5, st5, fr5, w5⟩
    obtain ⟨hD5, alt⟩ := turn i n ys H5 w5
    rcases alt with ⟨stop, qn⟩ | ⟨go, hlt, N', hN', step⟩
    · refine thn (T.done (cxD X scope o cl N G.objs.size fp { s2 with heap := G, toks := s2.toks } (upd H2 s2.heap.objs.size (.lst [])) pins) rfl rfl rfl hc i [] s5 _ H5 NO I5 (stat fr5) st5 stop) fun r s6 ⟨hr, I6⟩ => ?_
      subst hr
      obtain ⟨m6, hn6, _⟩ := I6.loc
      exact hR _ _ s6 m6 H5 hn6 (cxD_end (s := { s2 with heap := G, toks := s2.toks }) I3 f3 (Nat.le_refl _) I6 (.refl _ _)) (I3.fpOk (Nat.le_refl _) I6.free) qn
    · refine thn (T.item (cxD X scope o cl N G.objs.size fp { s2 with heap := G, toks := s2.toks } (upd H2 s2.heap.objs.size (.lst [])) pins) rfl rfl rfl hc i [] s5 _ H5 NO I5 (stat fr5) st5 go) fun r s6 ⟨u, hr, h6⟩ => ?_
      subst hr
      refine thn h6 fun _ s7 ⟨x, H7, I7, r7, y7, st7, fr7⟩ => ?_
      have I7' := I7.pinned (stat fr7) (T.obj _ _ st7)
      refine thn (hg _ _ _ _ _ _ s7 _ H7 x u _ I7' r7 (step x H7 y7)) fun _ s8 ⟨σ8, H8, I8, x8, q8⟩ => ?_
      refine thn (ht _ _ _ _ _ _ s8 σ8 H8 _ I8 q8) fun ok s9 ⟨H9, I9, q9⟩ => ?_
      have again : ∀ {H' : Hp} {s' : Shared} {ys' : List V}, Inv (cxD X scope o cl N G.objs.size fp { s2 with heap := G, toks := s2.toks } (upd H2 s2.heap.objs.size (.lst [])) pins) ([] ++ pinsAt fp s7.heap) σ8 H' s' → (∃ m', m' < n ∧ W (i + 1) m' ys' H') →
          ∃ m, m < n ∧ ∃ i ys H', Inv (cxD X scope o cl N G.objs.size fp { s2 with heap := G, toks := s2.toks } (upd H2 s2.heap.objs.size (.lst [])) pins) [] (capS capt σ) H' s' ∧ tn i s'.heap ∧ (∀ b ∈ fp, H' b = none) ∧ W i m ys H' := fun {H' s' ys'} J' ⟨m', hm, w'⟩ => by
        refine ⟨m', hm, i + 1, ys', H', (J'.unpinned).weak x8.len (fun j v e => x8.get j v e), T.keep _ _ _ st7 fun b hb o e => (J'.pin (b, o) (List.mem_append_right _ (List.mem_append_right _ (mem_pinsAt hb e)))).1, fun b hb => ?_, w'⟩
        obtain ⟨o, e, _⟩ := T.obj _ _ st7 b hb
        exact (J'.pin (b, o) (List.mem_append_right _ (List.mem_append_right _ (mem_pinsAt hb e)))).2.1
      cases ok with
      | false =>
        rw [if_neg Bool.false_ne_true] at q9 ⊢
        exact again I9 (hN' _ _ q9)
      | true =>
        rw [if_pos rfl] at q9 ⊢
        refine thn (he _ _ _ _ _ _ s9 σ8 H9 _ I9 q9) fun y10 s10 ⟨y, H10, I10, r10, hD10, q10⟩ => ?_
        refine thn (mt_append _ s10 σ8 H10 (.ref s2.heap.objs.size) [y] _ _ (fun _ H' => N' (ys ++ [y]) H') I10 rfl (.cons r10 .nil) ⟨_, ys, y, rfl, rfl, hD10, hlt, q10⟩) fun _ s11 ⟨_, H11, I11, _, q11⟩ => ?_
        exact again I11 (hN' _ _ q11)
  exact codeAny_compStart_list loop (T.self _ 0 _ _ _ st4 loop)
/-- a list comprehension with one for, its target a cell -/
theorem pe_compD (hc : X.calm = true) (hi : PI X tg iter wi) (hclos : closureFor scope X.env = pure cl) (hok : ClOk X.env cl) (hnm : scope.names = pre ++ (o, .cell) :: post) (hfr : FreeOk cl (pre ++ post)) (hcap : Capt X scope cl N capt)
    (hg : ∀ C fp s H pn, PG (cxD X scope o cl N C fp s H pn) tg g) (ht : ∀ C fp s H pn, PIf (cxD X scope o cl N C fp s H pn) ifs tc) (he : ∀ C fp s H pn, PE (cxD X scope o cl N C fp s H pn) elt te)
    (ho : cl.lookup o = none := by rfl) (hn1 : ∀ y ∈ pre, y.2 ≠ .cell := by decide +kernel) (hn2 : ∀ y ∈ post, y.2 ≠ .cell := by decide +kernel) (hkind : scope.kind = .function := by rfl) (hnames : ∀ x ∈ scope.names, x.2 = .local → scope.names.lookup x.1 = some .local := by decide +kernel)
    (hs : ∀ x, foldedSetIterable iter X.env x = pure x := by intro _; rfl) : PE X (.ListComp elt [⟨tg, iter, ifs, 0⟩] scope pos) (tComp wi g tc te capt) := by
  intro pins s σ H Q I h
  rw [eval_ListComp]
  refine wpAny_comprehension_free (use := none) rfl hs hclos hkind hnames (thn (hi pins s σ H _ I h) fun v s1 h1 => thn h1 fun itv s2 h2 => ?_)
  obtain ⟨it, fp, tn, J, H2, e, I2, T, st2, f2, q2⟩ := h2
  subst e
  refine comp_blockD (RR := fun acc C => compPost (model X.prog X.w) X.A X.xe none (EP X pins σ Q) acc C) hc hok hnm hn1 hn2 hfr ho hcap hg ht he hkind I2 T st2 f2 q2 fun D C s' m H' hn I' ⟨f0, f1, _, f3, f4, f5⟩ q => ?_
  exact ⟨m, hn, fun h' sb => ⟨.ref D, H', I'.turned (t' := s'.toks) (fun b o hb e => (sb.2 b hb).trans e) f0 f1 f3 f4 f5, rfl, q⟩⟩
end
end L2

set_option maxRecDepth 100000
set_option maxHeartbeats 4000000
namespace L2
open PySem
theorem allBK (K : PySem.W.Frag) {X : Cx} (hc : X.calm = true) (h : X.K = K := by rfl) : CallR X (.builtin "all") (fun xs H Q => ∃ (l : Addr) (bs : List Bool), xs = [.ref l] ∧ SqL K H l (bs.map V.bl) ∧ Q (.bl (bs.all id)) H) := h ▸ call_allB hc
def tIfB (t ta tb : TT) : TT := fun σ H Q => t σ H fun c H1 => if c = true then ta σ H1 Q else tb σ H1 Q
/-- a if t else b, as a test -/
theorem pt_ifExp {X : Cx} {c a b : Expr} {pos : Pos} {tA ta tb : TT} (hc : PT X c tA) (ha : PT X a ta) (hb : PT X b tb) : PT X (.IfExp c a b pos) (tIfB tA ta tb) := by
  intro pins s σ H Q I h
  refine wpAny_bind (thn (hc pins s σ H _ I h) fun d s1 ⟨H1, I1, q1⟩ => ?_)
  cases d with
  | true => exact ha pins s1 σ H1 Q I1 q1
  | false => exact hb pins s1 σ H1 Q I1 q1
def natsV (ls : List Nat) : List V := ls.map fun (n : Nat) => V.int (n : Int)
theorem natsV_snoc (xs : List Nat) (x : Nat) : natsV (xs ++ [x]) = natsV xs ++ [.int (x : Int)] := by simp [natsV]
theorem natsV_len (xs : List Nat) : (natsV xs).length = xs.length := by simp [natsV]
theorem natsV_flat : ∀ xs : List Nat, (natsV xs).all flatV = true
  | [] => rfl
  | x :: xs => by
    have := natsV_flat xs
    unfold natsV at this ⊢
    rw [List.map_cons, List.all_cons, this]
    rfl
theorem inN (x : Nat) : ∀ l : List Nat, inV (.int (x : Int)) (natsV l) = decide (x ∈ l)
  | [] => by simp [inV, natsV]
  | y :: l => by
    have ih := inN x l
    unfold inV natsV at ih ⊢
    rw [List.map_cons, List.any_cons, ih]
    show ((y : Int) == (x : Int) || decide (x ∈ l)) = decide (x ∈ y :: l)
    rw [Bool.eq_iff_iff]
    simp only [Bool.or_eq_true, beq_iff_eq, decide_eq_true_eq, List.mem_cons]
    constructor
    · rintro (h | h)
      · exact .inl (by omega)
      · exact .inr h
    · rintro (h | h)
      · exact .inl (by omega)
      · exact .inr h
def LiAt (H : Hp) (l : List Nat) (v : V) : Prop := ∃ a, v = .ref a ∧ H a = some (.lst (natsV l))
def LiF (H0 H : Hp) (l : List Nat) (v : V) : Prop := LiAt H l v ∧ ∀ a, v = .ref a → H0 a = none
theorem LiAt.same {H H' : Hp} {l : List Nat} {v : V} (h : LiAt H l v) (k : Same H H') : LiAt H' l v := by
  obtain ⟨a, e, h⟩ := h
  exact ⟨a, e, k _ _ h⟩
theorem pair_appendN {α : Type} {F : α → V → Prop} : ∀ {l m : List α} {xs ys : List V}, Paired F l xs → Paired F m ys → Paired F (l ++ m) (xs ++ ys)
  | _, _, _, _, .nil, q => q
  | _, _, _, _, .cons h t, q => .cons h (pair_appendN t q)
theorem decide_pos {N : Nat} (f : Tr N) (i : Fin N) : decide (i.val ∈ pos f) = f i := by
  cases e : f i with
  | true => exact decide_eq_true (mem_pos.mpr ⟨i.isLt, e⟩)
  | false => exact decide_eq_false fun h => by obtain ⟨_, z⟩ := mem_pos.mp h; exact absurd (e.symm.trans z) (by decide)
end L2
namespace Law
open PySem L2
section
seal PA PE PS PSs PT PI PG PGs PIf
variable {P : Program} {w : World} {K : PySem.W.Frag} {mg : Str → Option Value} {base : Heap} {f g : Addr} {fd gd : FuncData}
def spSets : Sp := fun vs H Q _ => ∃ k : Nat, vs = [.int (k : Int)] ∧ k ≤ 6 ∧ ∀ fo H' us, Same H H' → H' fo = some (.lst us) → H fo = none → Paired (LiF H H') (subsets k) us → Q (.ref fo) H'
theorem scSets : FnScope ["many", "found", "at"] ["many"] (defScope sSets) := ⟨rfl, rfl, rfl, by decide +kernel, rfl, by decide +kernel, by decide +kernel⟩
theorem ndOA : (["one", "at"] : List Str).Nodup := by decide +kernel
theorem ok_sets (F : Fun K "_law_sets" "_law_sets" sSets f fd) (mr : mg "range" = none) : FnOk P w K mg base CX0 1 f fd ["many"] spSets := by
  refine F.ok scSets (fun vs H Q E h => ?_) (fun cdv A outer s H vs Q E hr h => ?_)
  · obtain ⟨k, rfl, _⟩ := h
    rfl
  obtain ⟨k, rfl, hk, q⟩ := h
  refine ⟨_, pss_cons (ps_set (i := 1) scSets.nd rfl (Or.inl rfl) (pe_lst (pa_cons (pe_lst pa_nil) pa_nil))) (pss_cons (ps_for PassesOwn.never rfl (pi_range1 rfl mr (pa_cons (pv 0) pa_nil)) (pg_name (i := 2) scSets.nd rfl (Or.inr rfl)) (pss_one (ps_set (i := 1) scSets.nd rfl (Or.inl rfl) (pe_op op_cat (pv 1) (pe_comp (N := ["one", "at"]) (capt := [none, some 2]) rfl (pi_list (pv 1)) rfl (by repeat (first | exact .nil | refine .cons rfl ?_)) (by repeat (first | exact .nil | refine .skip (by decide) (by decide) ?_ | refine .free ⟨_, rfl⟩ ?_)) (.tgt (.var rfl (.inl rfl) ⟨_, rfl⟩ (.inl rfl) .nil)) (fun _ _ _ _ _ => pg_name (i := 0) ndOA rfl (Or.inl rfl)) (fun _ _ _ _ _ => pif_nil) (fun _ _ _ _ _ => (pe_op op_cat (pv 0) (pe_lst (pa_cons (pv 1) pa_nil))))))))) (pss_one (ps_ret (pv 1)))), ?_⟩
  refine ⟨(by decide), fun l0 h0 => ⟨(by show 1 ≤ sizeLine; decide), fun f0 hf0 => ?_⟩⟩
  have k0 := same_new h0 (.lst [])
  have k1 := same_new hf0 (.lst [V.ref l0])
  refine ⟨_, rfl, k, rfl, by omega, by omega, ?_⟩
  refine for_range (lo := 0) (n := Int.toNat (k : Int)) (fun i σ H2 => ∃ (fo : Addr) (z : Option V) (us : List V), σ = [some (.int (k : Int)), some (.ref fo), z] ∧ Same H H2 ∧ H2 fo = some (.lst us) ∧ H fo = none ∧ Paired (LiF H H2) (subsets i) us)
    ⟨f0, none, [V.ref l0], rfl, k0.trans k1, upd_same, k0.free hf0, .cons ⟨⟨l0, rfl, k1 _ _ upd_same⟩, fun a ea => by cases ea; exact h0⟩ .nil⟩ ?_ ?_
  · rintro i σ H2 hi ⟨fo, z, us, rfl, s2, h2, hfo, pr2⟩
    have hi6 : i < 6 := by omega
    have lus : us.length = 2 ^ i := by rw [← Paired.length pr2, subsets_len]
    have l64 : 2 ^ i ≤ 64 := Nat.le_trans (Nat.pow_le_pow_right (by decide) (show i ≤ 6 by omega)) (by decide)
    refine ⟨_, rfl, _, rfl, fo, rfl, ⟨_, SqL.of h2⟩, ?_⟩
    refine comp_list (K := K) (a := fo) (xs := us) (fun C j ys H3 => Same H2 H3 ∧ H2 C = none ∧ H3 C = some (.lst ys) ∧ Paired (fun l v => LiAt H3 l v ∧ ∀ a, v = .ref a → a ≠ C ∧ H a = none) (((subsets i).take j).map fun l => l ++ [i]) ys ∧ ys.length ≤ j) ?_ ?_ ?_ ?_
    · exact fun C hC => ⟨same_new hC _, hC, upd_same, .nil, Nat.le_refl _⟩
    · rintro C j ys H3 hj ⟨sm, hC, h3, _, hl⟩
      exact ⟨SqL.of (sm _ _ h2), h3, fun _ => small1000 (by omega)⟩
    · rintro C j x ys H3 hx ⟨sm, hC, h3, p3, hl⟩
      obtain ⟨l, hl', ⟨a, rfl, ha⟩, _⟩ := pair_backG pr2 hx
      obtain ⟨hj, ej⟩ := List.getElem?_eq_some_iff.mp hl'
      have hlm : l ∈ subsets i := List.mem_of_getElem? hl'
      have ll := subsets_each hlm
      refine ⟨⟨rfl, trivial⟩, _, rfl, _, rfl, (by show 1 ≤ sizeLine; decide), fun n hn => ?_⟩
      have k4 := same_new hn (.lst [V.int (0 + (i : Int))])
      refine ⟨a, n, _, _, rfl, rfl, k4 _ _ (sm _ _ ha), upd_same, Nat.le_of_lt (small1000 (by rw [natsV_len]; simp; omega)), fun m hm => ?_⟩
      have k5 := k4.trans (same_new hm (.lst (natsV l ++ [V.int (0 + (i : Int))])))
      have hmC : m ≠ C := fun z => by rw [z, k4 _ _ h3] at hm; cases hm
      have e6 : natsV l ++ [V.int (0 + (i : Int))] = natsV (l ++ [i]) := by rw [natsV_snoc, show (0 : Int) + (i : Int) = (i : Int) by omega]
      refine ⟨k5 _ _ h3, fun b o eb => ?_, hC, upd_same, ?_, by simp; omega⟩
      · rw [upd_ne (ne_of_none eb hC)]
        exact k5 _ _ (sm _ _ eb)
      · rw [List.take_succ_eq_append_getElem hj, ej, List.map_append]
        refine pair_snoc ⟨⟨m, rfl, ?_⟩, fun a ea => by cases ea; exact ⟨hmC, (s2.trans (sm.trans k4)).free hm⟩⟩ (L2.Paired.mapP p3 fun l' v ⟨⟨a', e', h'⟩, hne⟩ => ⟨⟨a', e', ?_⟩, hne⟩)
        · rw [upd_ne (hne a' e').1]
          exact k5 _ _ h'
        · rw [upd_ne hmC, upd_same, e6]
    · rintro C ys H3 ⟨sm, hC, h3, p3, hl⟩
      rw [show us.length = (subsets i).length by rw [lus, subsets_len], List.take_length] at p3
      have ly : ys.length ≤ 64 := by omega
      refine ⟨fo, C, _, _, rfl, rfl, sm _ _ h2, h3, Nat.le_of_lt (small1000 (by omega)), fun f1 hf1 => ?_⟩
      have k6 := same_new hf1 (.lst (us ++ ys))
      exact ⟨f1, _, us ++ ys, rfl, s2.trans (sm.trans k6), upd_same, (s2.trans sm).free hf1, pair_appendN (L2.Paired.mapP pr2 fun _ _ z => ⟨z.1.same (sm.trans k6), z.2⟩) (L2.Paired.mapP p3 fun _ _ z => ⟨z.1.same k6, fun a ea => (z.2 a ea).2⟩)⟩
  · rintro σ H2 ⟨fo, z, us, rfl, s2, h2, hfo, pr2⟩
    rw [show Int.toNat (k : Int) = k by omega] at pr2
    exact ⟨_, rfl, q fo H2 us s2 h2 hfo pr2⟩
def spLed : Sp := fun vs H Q _ => ∃ (N : Nat) (l th : Addr) (W : Wo N) (us : List V) (t : Tr N) (b : Bool), vs = [.ref l, .ref th, .str (Sy.k2 b)] ∧ WorldAt H l W us ∧ H th = some (.lst (natsV (pos t))) ∧ N ≤ 900 ∧ W.rises ∧
  ∀ r H', Same H H' → H' r = some (.lst (natsV (pos (N := N) fun i => if b = true then (W.ws i).any t else (W.ws i).all t))) → Q (.ref r) H'
theorem scLed : FnScope ["world", "there", "kind", "led"] ["world", "there", "kind"] (defScope sLed) := ⟨rfl, rfl, rfl, by decide +kernel, rfl, by decide +kernel, by decide +kernel⟩
theorem ndWT : (["way", "there"] : List Str).Nodup := by decide +kernel
theorem ndPT : (["place", "there"] : List Str).Nodup := by decide +kernel
theorem ndAKL : (["at", "kind", "led"] : List Str).Nodup := by decide +kernel
theorem ok_led (F : Fun K "_law_led" "_law_led" sLed f fd) (mr : mg "range" = none) (ml : mg "len" = none) (man : mg "any" = none) (mal : mg "all" = none) : FnOk P w K mg base CX0 1 f fd ["world", "there", "kind"] spLed := by
  refine F.ok scLed (fun vs H Q E h => ?_) (fun cdv A outer s H vs Q E hr h => ?_)
  · obtain ⟨N, l, th, W, us, t, b, rfl, _⟩ := h
    rfl
  obtain ⟨N, l, th, W, us, t, b, rfl, hW, hth, hN, hri, q⟩ := h
  refine ⟨_, pss_cons (ps_set (i := 3) scLed.nd rfl (Or.inr rfl) (pe_comp (N := ["place", "there"]) (capt := [none, some 1]) rfl (pi_list (pv 0)) rfl (by repeat (first | exact .nil | refine .cons rfl ?_)) (by repeat (first | exact .nil | refine .skip (by decide) (by decide) ?_ | refine .free ⟨_, rfl⟩ ?_)) (.tgt (.var rfl (.inl rfl) ⟨_, rfl⟩ (.inl rfl) .nil)) (fun _ _ _ _ _ => pg_name (i := 0) ndPT rfl (Or.inl rfl)) (fun _ _ _ _ _ => pif_nil) (fun _ _ _ _ _ => (pe_comp (N := ["way", "there"]) (capt := [none, some 1]) rfl (piT K (pe_ix (ixT K) (pv 0) pe_int (fun _ _ => rfl))) rfl (by repeat (first | exact .nil | refine .cons rfl ?_)) (by repeat (first | exact .nil | refine .skip (by decide) (by decide) ?_ | refine .free ⟨_, rfl⟩ ?_)) (.tgt (.var rfl (.inl rfl) ⟨_, rfl⟩ (.inl rfl) .nil)) (fun _ _ _ _ _ => pg_name (i := 0) ndWT rfl (Or.inl rfl)) (fun _ _ _ _ _ => pif_nil) (fun _ _ _ _ _ => (pe_cmpR (inK K) (pv 0) (pv 1) rfl)))))) (pss_one (ps_ret (pe_comp (N := ["at", "kind", "led"]) (capt := [none, some 2, some 3]) rfl (pi_range1 rfl mr (pa_cons (pe_callB call_len_seq rfl ml PySem.boot_len (pa_cons (pv 0) pa_nil)) pa_nil)) rfl (by repeat (first | exact .nil | refine .cons rfl ?_)) (by repeat (first | exact .nil | refine .skip (by decide) (by decide) ?_ | refine .free ⟨_, rfl⟩ ?_)) (.tgt (.var rfl (.inl rfl) ⟨_, rfl⟩ (.inl rfl) (.var rfl (.inl rfl) ⟨_, rfl⟩ (.inl rfl) .nil))) (fun _ _ _ _ _ => pg_name (i := 0) ndAKL rfl (Or.inl rfl)) (fun _ _ _ _ _ => (pif_one (pt_ifExp (pt_cmpR op_eq (pv 1) pe_str (nomark _)) (pt_val (pe_callB (anyB K rfl) rfl man PyProof.Rows.boot_any (pa_cons (pe_ix (ixL K) (pv 2) (pv 0) (fun _ _ => rfl)) pa_nil))) (pt_val (pe_callB (allBK K rfl) rfl mal PyProof.Rows.boot_all (pa_cons (pe_ix (ixL K) (pv 2) (pv 0) (fun _ _ => rfl)) pa_nil)))))) (fun _ _ _ _ _ => (pv 0))))), ?_⟩
  refine ⟨_, rfl, l, rfl, ⟨_, SqL.of hW.lst⟩, ?_⟩
  refine comp_list (K := K) (a := l) (xs := us) (fun C i ys H2 => Same H H2 ∧ H C = none ∧ H2 C = some (.lst ys) ∧ ys.length = i ∧ ∀ (j : Nat) (hj : j < N), j < i → ∃ a, ys[j]? = some (.ref a) ∧ a ≠ C ∧ H2 a = some (.lst (((W.ws ⟨j, hj⟩).map t).map V.bl))) ?_ ?_ ?_ ?_
  · exact fun C hC => ⟨same_new hC _, hC, upd_same, rfl, fun j hj h => absurd h (by omega)⟩
  · rintro C i ys H2 hi ⟨sm, hC, h2, hl, _⟩
    have := hW.len
    exact ⟨SqL.of (sm _ _ hW.lst), h2, fun _ => small1000 (by omega)⟩
  · rintro C i x ys H2 hx ⟨sm, hC, h2, hl, hall⟩
    have hiN : i < N := by rw [← hW.len]; exact (List.getElem?_eq_some_iff.mp hx).1
    obtain ⟨v', ev, pa, qa, rfl, hpa, hqa⟩ := (hW.same sm).at' ⟨i, hiN⟩
    have ex : V.ref pa = x := Option.some.inj (ev.symm.trans hx)
    subst ex
    refine ⟨⟨rfl, trivial⟩, _, rfl, pa, _, _, _, rfl, rfl, SqT.of hpa, at1, qa, rfl, ⟨_, SqT.of hqa⟩, ?_⟩
    have wl := Wo.ways_len hri ⟨i, hiN⟩
    refine comp_tup (K := K) (a := qa) (xs := ((W.ws ⟨i, hiN⟩).map Fin.val).map fun (w : Nat) => V.int (w : Int)) (fun C2 j zs H3 => Same H2 H3 ∧ H2 C2 = none ∧ H3 C2 = some (.lst zs) ∧ zs = (((W.ws ⟨i, hiN⟩).take j).map t).map V.bl) ?_ ?_ ?_ ?_
    · exact fun C2 hC2 => ⟨same_new hC2 _, hC2, upd_same, rfl⟩
    · rintro C2 j zs H3 hj ⟨sm3, hC2, h3, ez⟩
      refine ⟨SqT.of (sm3 _ _ hqa), h3, fun _ => ?_⟩
      rw [ez]
      exact small1000 (by simp; omega)
    · rintro C2 j y zs H3 hy ⟨sm3, hC2, h3, ez⟩
      rw [List.getElem?_map, List.getElem?_map] at hy
      obtain ⟨n, en, rfl⟩ := Option.map_eq_some_iff.mp hy
      obtain ⟨wv, ew, rfl⟩ := Option.map_eq_some_iff.mp en
      refine ⟨⟨rfl, trivial⟩, _, rfl, _, rfl, th, _, rfl, .inl (SqL.of ((sm.trans sm3) _ _ hth)), rfl, natsV_flat _, h3, fun c o ec => ?_, hC2, upd_same, ?_⟩
      · rw [upd_ne (ne_of_none ec hC2)]
        exact sm3 c o ec
      · obtain ⟨hj, ej⟩ := List.getElem?_eq_some_iff.mp ew
        rw [ez, List.take_succ_eq_append_getElem hj, ej]
        rw [show (if false = true then !inV (.int (wv.val : Int)) (natsV (pos t)) else inV (.int (wv.val : Int)) (natsV (pos t))) = t wv from (inN _ _).trans (decide_pos t wv)]
        simp
    · rintro C2 zs H3 ⟨sm3, hC2, h3, ez⟩
      rw [List.length_map, List.length_map, List.take_length] at ez
      subst ez
      have nC : C2 ≠ C := fun z => by rw [z, h2] at hC2; cases hC2
      have h3C := sm3 _ _ h2
      refine ⟨h3C, fun c o ec => ?_, hC, upd_same, by simp [hl], fun j hj hji => ?_⟩
      · rw [upd_ne (ne_of_none ec hC)]
        exact sm3 _ _ (sm c o ec)
      · by_cases hjl : j < i
        · obtain ⟨a, e1, e2, e3⟩ := hall j hj hjl
          refine ⟨a, ?_, e2, ?_⟩
          · rw [List.getElem?_append_left (by omega)]; exact e1
          · rw [upd_ne e2]; exact sm3 _ _ e3
        · have : j = i := by omega
          subst this
          refine ⟨C2, ?_, nC, ?_⟩
          · rw [List.getElem?_append_right (by omega), hl]; simp
          · rw [upd_ne nC]; exact h3
  · rintro LD ys H2 ⟨sm, hLD, h2, hl, hall⟩
    have wl := hW.len
    refine ⟨_, rfl, l, _, rfl, .inl (SqL.of (sm _ _ hW.lst)), us.length, rfl, by omega, by omega, ?_⟩
    refine comp_range (lo := 0) (n := Int.toNat (us.length : Int)) (fun C i zs H3 => Same H2 H3 ∧ H2 C = none ∧ H3 C = some (.lst zs) ∧ zs = natsV ((List.range i).filter (ext (N := N) fun i => if b = true then (W.ws i).any t else (W.ws i).all t))) ?_ ?_ ?_ ?_
    · exact fun C hC => ⟨same_new hC _, hC, upd_same, rfl⟩
    · rintro C i zs H3 hi ⟨sm3, hC, h3, ez⟩
      refine ⟨h3, fun _ => ?_⟩
      rw [ez, natsV_len]
      have := List.length_filter_le (ext (N := N) fun i => if b = true then (W.ws i).any t else (W.ws i).all t) (List.range i)
      rw [List.length_range] at this
      exact small1000 (by omega)
    · rintro C i zs H3 hi ⟨sm3, hC, h3, ez⟩
      have hiN : i < N := by omega
      obtain ⟨a, e1, _, e3⟩ := hall i hiN (by omega)
      have ci : (0 : Int) + (i : Int) = (i : Int) := by omega
      have val : ext (N := N) (fun i => if b = true then (W.ws i).any t else (W.ws i).all t) i = (if b = true then (W.ws ⟨i, hiN⟩).any t else (W.ws ⟨i, hiN⟩).all t) := by simp [ext, hiN]
      have fin : ∀ bb : Bool, bb = ext (N := N) (fun i => if b = true then (W.ws i).any t else (W.ws i).all t) i → if bb = true then (tVar 0 : TE) [some (.int (0 + (i : Int))), some (.str (Sy.k2 b)), some (.ref LD)] H3 (fun y H6 => H6 C = some (.lst zs) ∧ Same H2 (upd H6 C (.lst (zs ++ [y]))) ∧ H2 C = none ∧ (upd H6 C (.lst (zs ++ [y]))) C = some (.lst (zs ++ [y])) ∧ zs ++ [y] = natsV ((List.range (i + 1)).filter (ext (N := N) fun i => if b = true then (W.ws i).any t else (W.ws i).all t))) else (Same H2 H3 ∧ H2 C = none ∧ H3 C = some (.lst zs) ∧ zs = natsV ((List.range (i + 1)).filter (ext (N := N) fun i => if b = true then (W.ws i).any t else (W.ws i).all t))) := fun bb hb => by
        cases bb with
        | true =>
          refine iteT ⟨_, rfl, h3, fun c o ec => ?_, hC, upd_same, ?_⟩
          · rw [upd_ne (ne_of_none ec hC)]
            exact sm3 c o ec
          · rw [List.range_succ, List.filter_append, ez]
            simp only [List.filter_cons, ← hb, if_true, List.filter_nil]
            rw [natsV_snoc, ci]
        | false =>
          refine iteF ⟨sm3, hC, h3, ?_⟩
          rw [List.range_succ, List.filter_append, ez]
          simp [List.filter_cons, ← hb]
      refine ⟨⟨rfl, rfl, trivial⟩, _, rfl, rfl, _, rfl, ifS (fun e => ?_) (fun e => ?_)⟩
      · have hb : b = true := by
          cases b with
          | true => rfl
          | false => exact absurd e (by decide)
        subst hb
        refine ⟨_, rfl, _, rfl, LD, _, _, _, rfl, rfl, SqL.of (sm3 _ _ h2), (by rw [ci]; exact atI_nat e1), a, _, rfl, SqL.of (sm3 _ _ e3), _, rfl, fin _ ?_⟩
        rw [val]
        simp
      · have hb : b = false := by
          cases b with
          | true => exact absurd rfl e
          | false => rfl
        subst hb
        refine ⟨_, rfl, _, rfl, LD, _, _, _, rfl, rfl, SqL.of (sm3 _ _ h2), (by rw [ci]; exact atI_nat e1), a, _, rfl, SqL.of (sm3 _ _ e3), _, rfl, fin _ ?_⟩
        rw [val]
        simp
    · rintro C zs H3 ⟨sm3, hC, h3, ez⟩
      refine q C H3 (sm.trans sm3) ?_
      rw [h3, ez, pos_range, show Int.toNat (us.length : Int) = N by omega]
end
end Law

set_option maxRecDepth 100000
set_option maxHeartbeats 4000000
namespace L2
open PySem
def PosEnv {N : Nat} (H : Hp) (d : Addr) (B : List Str) (e : En N) : Prop := ∃ kvs : List (Key × V), H d = some (.dK kvs) ∧ kvs.length ≤ B.length ∧ ∀ x ∈ B, ∃ l, valV kvs (.inr x) = some (.ref l) ∧ H l = some (.lst (natsV (pos (e x))))
theorem PosEnv.same {N : Nat} {H H' : Hp} {d : Addr} {B : List Str} {e : En N} (h : PosEnv H d B e) (k : Same H H') : PosEnv H' d B e := by
  obtain ⟨kvs, h1, h2, h3⟩ := h
  exact ⟨kvs, k _ _ h1, h2, fun x hx => by obtain ⟨l, e1, e2⟩ := h3 x hx; exact ⟨l, e1, k _ _ e2⟩⟩
theorem pos_filter {N : Nat} {f : Tr N} {c : Nat → Bool} (h : ∀ i (hi : i < N), c i = f ⟨i, hi⟩) : (List.range N).filter c = pos f := by
  rw [pos_range]
  refine List.filter_congr fun n hn => ?_
  have hn' := List.mem_range.mp hn
  rw [h n hn']
  simp [ext, hn']
theorem pos_and {N : Nat} {f g : Tr N} {c : Nat → Bool} (h : ∀ i (hi : i < N), c i = g ⟨i, hi⟩) : (pos f).filter c = pos fun i => f i && g i := by
  rw [pos_range, List.filter_filter]
  refine pos_filter fun i hi => ?_
  rw [h i hi]
  simp only [ext, hi, dite_true]
  exact Bool.and_comm _ _
def ofL {N : Nat} (l : List Nat) : Tr N := fun i => decide (i.val ∈ l)
theorem ofL_pos {N : Nat} (t : Tr N) : ofL (pos t) = t := by funext i; exact decide_pos t i
def fixB {N : Nat} (W : Wo N) (u : Sy) (e : En N) (x : Str) (l : List Nat) : Bool := decide (pos (Se.hold W u (Se.put e x (ofL l))) = l)
theorem fix_mem {N : Nat} {W : Wo N} {u : Sy} {e : En N} {x : Str} {l : List Nat} : l ∈ (subsets N).filter (fixB W u e x) ↔ ∃ S : Tr N, Se.hold W u (Se.put e x S) = S ∧ l = pos S := by
  rw [List.mem_filter]
  constructor
  · rintro ⟨h1, h2⟩
    obtain ⟨t, rfl⟩ := subsets_pos h1
    have h3 := of_decide_eq_true h2
    rw [ofL_pos] at h3
    exact ⟨t, pos_inj h3, rfl⟩
  · rintro ⟨S, hS, rfl⟩
    refine ⟨pos_mem S, decide_eq_true ?_⟩
    rw [ofL_pos, hS]
theorem least_eq {N : Nat} (W : Wo N) (u : Sy) (e : En N) (x : Str) (i : Fin N) : (((subsets N).filter (fixB W u e x)).map fun l => decide (i.val ∈ l)).all id = Se.hold W (.bn true x u) e i := by
  have h := Se.least_all (F := fun t => Se.hold W u (Se.put e x t)) (Se.F_mono W u e x) i
  rw [Bool.eq_iff_iff]
  show _ ↔ Se.it _ N (fun _ => !true) i = true
  rw [h, List.all_map, List.all_eq_true]
  constructor
  · intro z S hS
    have := z (pos S) (fix_mem.mpr ⟨S, hS, rfl⟩)
    exact (decide_pos S i).symm.trans this
  · intro z l hl
    obtain ⟨S, hS, rfl⟩ := fix_mem.mp hl
    exact (decide_pos S i).trans (z S hS)
theorem most_eq {N : Nat} (W : Wo N) (u : Sy) (e : En N) (x : Str) (i : Fin N) : (((subsets N).filter (fixB W u e x)).map fun l => decide (i.val ∈ l)).any id = Se.hold W (.bn false x u) e i := by
  have h := Se.most_some (F := fun t => Se.hold W u (Se.put e x t)) (Se.F_mono W u e x) i
  rw [Bool.eq_iff_iff]
  show _ ↔ Se.it _ N (fun _ => !false) i = true
  rw [h, List.any_map, List.any_eq_true]
  constructor
  · rintro ⟨l, hl, z⟩
    obtain ⟨S, hS, rfl⟩ := fix_mem.mp hl
    exact ⟨S, hS, (decide_pos S i).symm.trans z⟩
  · rintro ⟨S, hS, z⟩
    exact ⟨pos S, fix_mem.mpr ⟨S, hS, rfl⟩, (decide_pos S i).trans z⟩
theorem castBack : ∀ l : List Nat, ((l.map fun (n : Nat) => (n : Int)).map Int.toNat) = l
  | [] => rfl
  | a :: l => by
    rw [List.map_cons, List.map_cons, castBack l]
    rfl
theorem castInj {ns ms : List Nat} : (ns.map fun (n : Nat) => (n : Int)) = (ms.map fun (n : Nat) => (n : Int)) ↔ ns = ms := by
  constructor
  · intro h
    have := congrArg (List.map Int.toNat) h
    rw [castBack, castBack] at this
    exact this
  · intro h
    rw [h]
theorem posEnv_put {N : Nat} {H2 H3 : Hp} {di lx : Addr} {kvs : List (Key × V)} {x : Str} {B : List Str} {e : En N} {t : Tr N} (h3 : H3 di = some (.dK (putK kvs (.inr x) (.ref lx)))) (hl : kvs.length ≤ B.length) (hx : x ∉ B) (ht : H3 lx = some (.lst (natsV (pos t))))
    (hk : ∀ b xs, H2 b = some (.lst xs) → H3 b = some (.lst xs)) (hB : ∀ y ∈ B, ∃ ly, valV kvs (.inr y) = some (.ref ly) ∧ H2 ly = some (.lst (natsV (pos (e y))))) : PosEnv H3 di (B ++ [x]) (Se.put e x t) := by
  refine ⟨_, h3, ?_, fun y hy => ?_⟩
  · have := putK_len kvs (.inr x) (.ref lx)
    simp
    omega
  rw [valV_put]
  by_cases hyx : y = x
  · subst hyx
    refine ⟨lx, by rw [if_pos rfl], ?_⟩
    show _ = some (HO.lst (natsV (pos (if y = y then t else e y))))
    rw [if_pos rfl]
    exact ht
  · have hyB : y ∈ B := by
      rcases List.mem_append.mp hy with z | z
      · exact z
      · exact absurd (List.mem_singleton.mp z) hyx
    obtain ⟨ly, h1, h2⟩ := hB y hyB
    refine ⟨ly, by rw [if_neg (fun z => hyx (by injection z))]; exact h1, ?_⟩
    show _ = some (HO.lst (natsV (pos (if y = x then t else e y))))
    rw [if_neg hyx]
    exact hk _ _ h2
/-- [at for at in range(n) if ..] -/
theorem comp_rangeF {n : Nat} {r : St} {H : Hp} {Q : VK} {tc : TT} (c : Nat → Bool) (hext : ExtS r r) (hn : n ≤ 900)
    (hc : ∀ i, i < n → ∀ H2, Same H H2 → ∀ R : Bool → Hp → Prop, (∀ H3, Same H2 H3 → R (c i) H3) → tc (some (.int (0 + (i : Int))) :: r) H2 R)
    (hq : ∀ C H2, Same H H2 → H2 C = some (.lst (natsV ((List.range n).filter c))) → Q (.ref C) H2) : CompW (Itr 0 n) (gName 0) tc (tVar 0) (none :: r) H Q := by
  refine comp_range (lo := 0) (n := n) (fun C i zs H3 => Same H H3 ∧ H C = none ∧ H3 C = some (.lst zs) ∧ zs = natsV ((List.range i).filter c)) ?_ ?_ ?_ ?_
  · exact fun C hC => ⟨same_new hC _, hC, upd_same, rfl⟩
  · rintro C i zs H3 hi ⟨sm3, hC, h3, ez⟩
    refine ⟨h3, fun _ => ?_⟩
    rw [ez, natsV_len]
    have := List.length_filter_le c (List.range i)
    rw [List.length_range] at this
    exact small1000 (by omega)
  · rintro C i zs H3 hi ⟨sm3, hC, h3, ez⟩
    refine ⟨hext, hc i hi H3 sm3 _ fun H4 s4 => ?_⟩
    cases e : c i with
    | true =>
      refine iteT ⟨_, rfl, s4 _ _ h3, fun b o eb => ?_, hC, upd_same, ?_⟩
      · rw [upd_ne (ne_of_none eb hC)]
        exact s4 _ _ (sm3 b o eb)
      · rw [List.range_succ, List.filter_append, ez]
        simp only [List.filter_cons, e, if_true, List.filter_nil]
        rw [natsV_snoc, show (0 : Int) + (i : Int) = (i : Int) by omega]
    | false =>
      refine iteF ⟨sm3.trans s4, hC, s4 _ _ h3, ?_⟩
      rw [List.range_succ, List.filter_append, ez]
      simp [List.filter_cons, e]
  · rintro C zs H3 ⟨sm3, hC, h3, ez⟩
    exact hq C H3 sm3 (by rw [h3, ez])
end L2
namespace Law
open PySem L2
section
seal PA PE PS PSs PT PI PG PGs PIf
variable {P : Program} {w : World} {K : PySem.W.Frag} {mg : Str → Option Value} {base : Heap} {f g : Addr} {fd gd : FuncData}
def spPlaces (D : Nat) : Sp := fun vs H Q _ => ∃ (N : Nat) (l d : Addr) (W : Wo N) (us : List V) (v : V) (s : Sy) (B : List Str) (e : En N), vs = [.ref l, v, .ref d] ∧ WorldAt H l W us ∧ SyAt H s v ∧ PosEnv H d B e ∧ s.ok B ∧ s.depth ≤ D ∧ B.length + D ≤ 900 ∧ N ≤ 6 ∧ W.rises ∧
  ∀ r H', Same H H' → H' r = some (.lst (natsV (pos (Se.hold W s e)))) → Q (.ref r) H'
theorem scPlaces : FnScope ["world", "saying", "bound", "kind", "many", "one", "other", "still", "there", "inner"] ["world", "saying", "bound"] (defScope sPlaces) := ⟨rfl, rfl, rfl, by decide +kernel, rfl, by decide +kernel, by decide +kernel⟩
theorem ndAK : (["at", "kind"] : List Str).Nodup := by decide +kernel
theorem ndAKSW : (["at", "kind", "saying", "world"] : List Str).Nodup := by decide +kernel
theorem ndAO : (["at", "other"] : List Str).Nodup := by decide +kernel
theorem ndAOO : (["at", "one", "other"] : List Str).Nodup := by decide +kernel
theorem ndTA : (["there", "at"] : List Str).Nodup := by decide +kernel
theorem ndAS : (["at", "still"] : List Str).Nodup := by decide +kernel
theorem ok_places (F : Fun K "_law_places" "_law_places" sPlaces f fd) {fL fT : Addr} {dL dT : FuncData} (GL : FnOk P w K mg base CX0 1 fL dL ["world", "there", "kind"] spLed) (bL : Binds K dL ["world", "there", "kind"] []) (kL : PySem.W.keepIn K (.ref fL) = true) (mL : mg "_law_led" = some (.ref fL))
    (GT : FnOk P w K mg base CX0 1 fT dT ["many"] spSets) (bT : Binds K dT ["many"] []) (kT : PySem.W.keepIn K (.ref fT) = true) (mT : mg "_law_sets" = some (.ref fT))
    (bS : Binds K fd ["world", "saying", "bound"] []) (kS : PySem.W.keepIn K (.ref f) = true) (mS : mg "_law_places" = some (.ref f)) (ml : mg "len" = none) (mr : mg "range" = none) (md : mg "dict" = none) (man : mg "any" = none) (mal : mg "all" = none) :
    ∀ D, FnOk P w K mg base CX0 (1 + D) f fd ["world", "saying", "bound"] (spPlaces D) := by
  intro D
  induction D with
  | zero =>
    refine F.ok scPlaces (fun vs H Q E h => ?_) (fun cdv A outer s H vs Q E hr h => ?_)
    · obtain ⟨N, l, d, W, us, v, s, B, e, rfl, _⟩ := h
      rfl
    obtain ⟨N, l, d, W, us, v, s, B, e, rfl, _, _, _, _, hd, _⟩ := h
    exact absurd (Nat.le_trans s.depth_pos hd) (by decide)
  | succ D ih =>
    refine F.ok scPlaces (fun vs H Q E h => ?_) (fun cdv A outer s H vs Q E hr h => ?_)
    · obtain ⟨N, l, d, W, us, v, s, B, e, rfl, _⟩ := h
      rfl
    obtain ⟨N, l, d, W, us, v, s, B, e, rfl, hW, hs, he, hok, hd, hBD, hN, hri, q⟩ := h
    have hr1 : L2.Room 1 _ := hr.mono (by show 1 ≤ 1 + D; omega)
    have hu : _ + 1 < cLine := Nat.lt_of_le_of_lt (Nat.add_le_add_left (by decide : 1 ≤ 64) _) hr.units
    have hu30 : _ + 30 < cLine := Nat.lt_of_le_of_lt (Nat.add_le_add_left (by decide : 30 ≤ 64) _) hr.units
    refine ⟨_, pss_cons (ps_set (i := 3) scPlaces.nd rfl (Or.inr rfl) (pe_ix ix_tup (pv 1) pe_int (fun _ _ => rfl))) (pss_cons (ps_set (i := 4) scPlaces.nd rfl (Or.inl rfl) (pe_callB call_len_seq rfl ml PySem.boot_len (pa_cons (pv 0) pa_nil))) (pss_cons (ps_if (pt_cmpR op_eq (pv 3) pe_str (nomark _)) (pss_one (ps_ret (pe_dget hu (pv 2) (pe_ix ix_tup (pv 1) pe_int (fun _ _ => rfl)) (fun _ _ => rfl)))) pss_nil) (pss_cons (ps_if (pt_cmpR op_in_seq (pv 3) (pe_tup (pa_cons pe_str (pa_cons pe_str pa_nil))) rfl) (pss_one (ps_ret (pe_comp (N := ["at", "kind"]) (capt := [none, some 3]) rfl (pi_range1 rfl mr (pa_cons (pv 4) pa_nil)) rfl (by repeat (first | exact .nil | refine .cons rfl ?_)) (by repeat (first | exact .nil | refine .skip (by decide) (by decide) ?_ | refine .free ⟨_, rfl⟩ ?_)) (.tgt (.var rfl (.inl rfl) ⟨_, rfl⟩ (.inl rfl) .nil)) (fun _ _ _ _ _ => pg_name (i := 0) ndAK rfl (Or.inl rfl)) (fun _ _ _ _ _ => (pif_one (pt_cmpR op_eq (pv 1) pe_str (nomark _)))) (fun _ _ _ _ _ => (pv 0))))) pss_nil) (pss_cons (ps_if (pt_cmpR op_in_seq (pv 3) (pe_tup (pa_cons pe_str (pa_cons pe_str pa_nil))) rfl) (pss_one (ps_ret (pe_comp (N := ["at", "kind", "saying", "world"]) (capt := [none, some 3, some 1, some 0]) rfl (pi_range1 rfl mr (pa_cons (pv 4) pa_nil)) rfl (by repeat (first | exact .nil | refine .cons rfl ?_)) (by repeat (first | exact .nil | refine .skip (by decide) (by decide) ?_ | refine .free ⟨_, rfl⟩ ?_)) (.tgt (.var rfl (.inl rfl) ⟨_, rfl⟩ (.inl rfl) (.var rfl (.inl rfl) ⟨_, rfl⟩ (.inl rfl) (.var rfl (.inl rfl) ⟨_, rfl⟩ (.inl rfl) .nil)))) (fun _ _ _ _ _ => pg_name (i := 0) ndAKSW rfl (Or.inl rfl)) (fun _ _ _ _ _ => (pif_one (pt_cmpR op_eq (pe_cmpR op_in_str (pe_ix (ixT K) (pv 2) pe_int (fun _ _ => rfl)) (pe_ix (ixT K) (pe_ix (ixL K) (pv 3) (pv 0) (fun _ _ => rfl)) pe_int (fun _ _ => rfl)) rfl) (pe_cmpR op_eq (pv 1) pe_str (nomark _)) (nomark _)))) (fun _ _ _ _ _ => (pv 0))))) pss_nil) (pss_cons (ps_if (pt_cmpR op_in_seq (pv 3) (pe_tup (pa_cons pe_str (pa_cons pe_str pa_nil))) rfl) (pss_one (ps_ret (pe_call GL hr1 rfl mL kL bL .nil pass0 (pa_cons (pv 0) (pa_cons (pe_call ih hr rfl mS kS bS .nil pass0 (pa_cons (pv 0) (pa_cons (pe_ix ix_tup (pv 1) pe_int (fun _ _ => rfl)) (pa_cons (pv 2) pa_nil)))) (pa_cons (pv 3) pa_nil)))))) pss_nil) (pss_cons (ps_if (pt_cmpR op_in_seq (pv 3) (pe_tup (pa_cons pe_str (pa_cons pe_str pa_nil))) rfl) (pss_cons (ps_set (i := 5) scPlaces.nd rfl (Or.inr rfl) (pe_call ih hr rfl mS kS bS .nil pass0 (pa_cons (pv 0) (pa_cons (pe_ix ix_tup (pv 1) pe_int (fun _ _ => rfl)) (pa_cons (pv 2) pa_nil))))) (pss_cons (ps_set (i := 6) scPlaces.nd rfl (Or.inr rfl) (pe_call ih hr rfl mS kS bS .nil pass0 (pa_cons (pv 0) (pa_cons (pe_ix ix_tup (pv 1) pe_int (fun _ _ => rfl)) (pa_cons (pv 2) pa_nil))))) (pss_cons (ps_if (pt_cmpR op_eq (pv 3) pe_str (nomark _)) (pss_one (ps_ret (pe_comp (N := ["at", "other"]) (capt := [none, some 6]) rfl (pi_list (pv 5)) rfl (by repeat (first | exact .nil | refine .cons rfl ?_)) (by repeat (first | exact .nil | refine .skip (by decide) (by decide) ?_ | refine .free ⟨_, rfl⟩ ?_)) (.tgt (.var rfl (.inl rfl) ⟨_, rfl⟩ (.inl rfl) .nil)) (fun _ _ _ _ _ => pg_name (i := 0) ndAO rfl (Or.inl rfl)) (fun _ _ _ _ _ => (pif_one (pt_cmpR (inK K) (pv 0) (pv 1) rfl))) (fun _ _ _ _ _ => (pv 0))))) pss_nil) (pss_one (ps_ret (pe_comp (N := ["at", "one", "other"]) (capt := [none, some 5, some 6]) rfl (pi_range1 rfl mr (pa_cons (pv 4) pa_nil)) rfl (by repeat (first | exact .nil | refine .cons rfl ?_)) (by repeat (first | exact .nil | refine .skip (by decide) (by decide) ?_ | refine .free ⟨_, rfl⟩ ?_)) (.tgt (.var rfl (.inl rfl) ⟨_, rfl⟩ (.inl rfl) (.var rfl (.inl rfl) ⟨_, rfl⟩ (.inl rfl) .nil))) (fun _ _ _ _ _ => pg_name (i := 0) ndAOO rfl (Or.inl rfl)) (fun _ _ _ _ _ => (pif_one (PW.pt (pw_or (pt_cmpR (inK K) (pv 0) (pv 1) rfl) (pw_or1 (pt_cmpR (inK K) (pv 0) (pv 2) rfl)))))) (fun _ _ _ _ _ => (pv 0)))))))) pss_nil) (pss_cons (ps_set (i := 7) scPlaces.nd rfl (Or.inr rfl) (pe_lst pa_nil)) (pss_cons (ps_for PassesOwn.never rfl (pi_list (pe_call GT hr1 rfl mT kT bT .nil pass0 (pa_cons (pv 4) pa_nil))) (pg_name (i := 8) scPlaces.nd rfl (Or.inl rfl)) (pss_cons (ps_set (i := 9) scPlaces.nd rfl (Or.inl rfl) (pe_callTy call_dictD rfl md PyProof.Rows.boot_dict (pa_cons (pv 2) pa_nil))) (pss_cons (ps_dput hu (pv 9) (pe_ix ix_tup (pv 1) pe_int (fun _ _ => rfl)) (pv 8) rfl) (pss_one (ps_if (pt_cmpR (op_eqL hu30) (pe_call ih hr rfl mS kS bS .nil pass0 (pa_cons (pv 0) (pa_cons (pe_ix ix_tup (pv 1) pe_int (fun _ _ => rfl)) (pa_cons (pv 9) pa_nil)))) (pv 8) (nomark _)) (pss_one (ps_expr (pe_bm PySem.F.plainAttrs_list PySem.F.slot_list_append PySem.F.type_list_append mt_append (pv 7) (pa_cons (pv 8) pa_nil)))) pss_nil))))) (pss_cons (ps_if (pt_cmpR op_eq (pv 3) pe_str (nomark _)) (pss_one (ps_ret (pe_compD (N := ["at", "still"]) (capt := [none, some 7]) (o := "at") (pre := [(".0", .local)]) rfl (pi_range1 rfl mr (pa_cons (pv 4) pa_nil)) rfl (by repeat (first | exact .nil | refine .cons rfl ?_)) rfl (by repeat (first | exact .nil | refine .skip (by decide) (by decide) ?_ | refine .free ⟨_, rfl⟩ ?_)) (.tgt (.var rfl (.inl rfl) ⟨_, rfl⟩ (.inl rfl) .nil)) (fun _ _ _ _ _ => pg_name (i := 0) ndAS rfl (Or.inr rfl)) (fun _ _ _ _ _ => (pif_one (pt_val (pe_callB (allBK K rfl) rfl mal PyProof.Rows.boot_all (pa_cons (pe_comp (N := ["there", "at"]) (capt := [none, some 0]) rfl (piL K (pv 1)) rfl (by repeat (first | exact .nil | refine .cons rfl ?_)) (by repeat (first | exact .nil | refine .skip (by decide) (by decide) ?_ | refine .free ⟨_, rfl⟩ ?_)) (.tgt (.var rfl (.inl rfl) ⟨_, rfl⟩ (.inl rfl) .nil)) (fun _ _ _ _ _ => pg_name (i := 0) ndTA rfl (Or.inl rfl)) (fun _ _ _ _ _ => pif_nil) (fun _ _ _ _ _ => (pe_cmpR (inK K) (pv 1) (pv 0) rfl))) pa_nil))))) (fun _ _ _ _ _ => (pv 0))))) pss_nil) (pss_one (ps_ret (pe_compD (N := ["at", "still"]) (capt := [none, some 7]) (o := "at") (pre := [(".0", .local)]) rfl (pi_range1 rfl mr (pa_cons (pv 4) pa_nil)) rfl (by repeat (first | exact .nil | refine .cons rfl ?_)) rfl (by repeat (first | exact .nil | refine .skip (by decide) (by decide) ?_ | refine .free ⟨_, rfl⟩ ?_)) (.tgt (.var rfl (.inl rfl) ⟨_, rfl⟩ (.inl rfl) .nil)) (fun _ _ _ _ _ => pg_name (i := 0) ndAS rfl (Or.inr rfl)) (fun _ _ _ _ _ => (pif_one (pt_val (pe_callB (anyB K rfl) rfl man PyProof.Rows.boot_any (pa_cons (pe_comp (N := ["there", "at"]) (capt := [none, some 0]) rfl (piL K (pv 1)) rfl (by repeat (first | exact .nil | refine .cons rfl ?_)) (by repeat (first | exact .nil | refine .skip (by decide) (by decide) ?_ | refine .free ⟨_, rfl⟩ ?_)) (.tgt (.var rfl (.inl rfl) ⟨_, rfl⟩ (.inl rfl) .nil)) (fun _ _ _ _ _ => pg_name (i := 0) ndTA rfl (Or.inl rfl)) (fun _ _ _ _ _ => pif_nil) (fun _ _ _ _ _ => (pe_cmpR (inK K) (pv 1) (pv 0) rfl))) pa_nil))))) (fun _ _ _ _ _ => (pv 0)))))))))))))), ?_⟩
    obtain ⟨a, xs, rfl, ha, pr⟩ := id hs.args
    have wl : us.length = N := hW.len
    have fin : ∀ {H1 : Hp} {c : Nat → Bool}, Same H H1 → (∀ i (hi : i < N), c i = Se.hold W s e ⟨i, hi⟩) → ∀ C H2, Same H1 H2 → H2 C = some (.lst (natsV ((List.range (Int.toNat (us.length : Int))).filter c))) → Q (.ref C) H2 := fun {H1 c} s1 hc C H2 s2 h2 => by
      rw [show Int.toNat (us.length : Int) = N by omega, pos_filter hc] at h2
      exact q C H2 (s1.trans s2) h2
    refine ⟨_, rfl, a, _, _, _, rfl, rfl, SqT.of ha, at0, ?_⟩
    refine ⟨_, rfl, l, _, rfl, .inl (SqL.of hW.lst), ?_⟩
    refine ⟨_, rfl, rfl, _, rfl, ifS (fun e1 => ?_) (fun ne => ?_)⟩
    · obtain ⟨x, rfl⟩ := Sy.kind_name e1
      cases pr with
      | cons p1 pr => cases pr with
        | nil =>
          cases p1
          obtain ⟨kvs, hk, hkl, hx⟩ := he
          obtain ⟨lx, v1, v2⟩ := hx x hok
          have dg := DGet.k (k := .inr x) hk
          rw [v1] at dg
          exact ⟨_, rfl, _, rfl, a, _, _, _, rfl, rfl, SqT.of ha, at1, d, _, rfl, dg, q lx H (Same.refl H) v2⟩
    -- yes, no
    refine ⟨_, rfl, (by show 2 ≤ sizeLine; decide), fun t1 ht1 => ?_⟩
    have s1 := same_new ht1 (.tup [V.str "yes", V.str "no"])
    have e1 : (upd H t1 (.tup [V.str "yes", V.str "no"])) t1 = some (.tup ((["yes", "no"] : List Str).map V.str)) := upd_same
    generalize upd H t1 (.tup [V.str "yes", V.str "no"]) = H1 at s1 e1
    refine ⟨t1, _, rfl, .inr (SqT.of e1), rfl, flatS _, _, rfl, ?_⟩
    rw [inS]
    by_cases hk1 : s.kind ∈ (["yes", "no"] : List Str)
    · rw [decide_eq_true hk1]
      obtain ⟨b, rfl⟩ : ∃ b, s = .y0 b := by
        cases s with
        | y0 b => exact ⟨b, rfl⟩
        | nm x => exact absurd hk1 (by simp only [Sy.kind]; decide)
        | mk b x => cases b <;> exact absurd hk1 (by simp only [Sy.kind]; decide)
        | st b x => cases b <;> exact absurd hk1 (by simp only [Sy.kind]; decide)
        | pr b x y => cases b <;> exact absurd hk1 (by simp only [Sy.kind]; decide)
        | bn b x y => cases b <;> exact absurd hk1 (by simp only [Sy.kind]; decide)
      refine iteT ⟨_, rfl, us.length, rfl, by omega, by omega, ?_⟩
      refine comp_rangeF (r := [some (.str (Sy.k0 b))]) (fun _ => b) ⟨rfl, trivial⟩ (by omega) (fun i hi H2 s2 R hR => ⟨_, rfl, rfl, _, rfl, ?_⟩) (fin s1 fun i hi => rfl)
      have e2 : decide (V.str (Sy.k0 b) = V.str "yes") = b := by
        cases b with
        | true => exact decide_eq_true rfl
        | false => exact decide_eq_false (fun z => absurd (by injection z) (by decide : ¬ Sy.k0 false = "yes"))
      rw [e2]
      exact hR H2 (Same.refl _)
    rw [decide_eq_false hk1]
    -- mark, unmark
    refine iteF ⟨_, rfl, (by show 2 ≤ sizeLine; decide), fun t2 ht2 => ?_⟩
    have s2 := s1.trans (same_new ht2 (.tup [V.str "mark", V.str "unmark"]))
    have e2 : (upd H1 t2 (.tup [V.str "mark", V.str "unmark"])) t2 = some (.tup ((["mark", "unmark"] : List Str).map V.str)) := upd_same
    generalize upd H1 t2 (.tup [V.str "mark", V.str "unmark"]) = H2 at s2 e2
    refine ⟨t2, _, rfl, .inr (SqT.of e2), rfl, flatS _, _, rfl, ?_⟩
    rw [inS]
    by_cases hk2 : s.kind ∈ (["mark", "unmark"] : List Str)
    · rw [decide_eq_true hk2]
      obtain ⟨b, x, rfl⟩ : ∃ b x, s = .mk b x := by
        cases s with
        | mk b x => exact ⟨b, x, rfl⟩
        | nm x => exact absurd hk2 (by simp only [Sy.kind]; decide)
        | y0 b => cases b <;> exact absurd hk2 (by simp only [Sy.kind]; decide)
        | st b x => cases b <;> exact absurd hk2 (by simp only [Sy.kind]; decide)
        | pr b x y => cases b <;> exact absurd hk2 (by simp only [Sy.kind]; decide)
        | bn b x y => cases b <;> exact absurd hk2 (by simp only [Sy.kind]; decide)
      cases pr with
      | cons p1 pr => cases pr with
        | nil =>
          cases p1
          refine iteT ⟨_, rfl, us.length, rfl, by omega, by omega, ?_⟩
          refine comp_rangeF (r := [some (.str (Sy.k1 b)), some (.ref a), some (.ref l)]) (ext (Se.hold W (.mk b x) e)) ⟨rfl, rfl, rfl, trivial⟩ (by omega) (fun i hi H3 s3 R hR => ?_) (fin s2 fun i hi => by simp [ext, hi])
          have hiN : i < N := by omega
          have t3 := s2.trans s3
          obtain ⟨pv', ev, pa', wa', rfl, hpa', hwa'⟩ := (hW.same t3).at' ⟨i, hiN⟩
          refine ⟨_, rfl, a, _, _, _, rfl, rfl, SqT.of (t3 _ _ ha), at1, _, rfl, _, rfl, l, _, _, _, rfl, rfl, SqL.of (t3 _ _ hW.lst), (by rw [show (0 : Int) + (i : Int) = (i : Int) by omega]; exact atI_nat ev), pa', _, _, _, rfl, rfl, SqT.of hpa', at0, _, _, rfl, rfl, _, rfl, rfl, rfl, _, rfl, ?_⟩
          have e3 : decide (V.bl (Se.inM x (W.ma ⟨i, hiN⟩)) = V.bl (decide (V.str (Sy.k1 b) = V.str "mark"))) = ext (Se.hold W (.mk b x) e) i := by
            have e4 : decide (V.str (Sy.k1 b) = V.str "mark") = b := by
              cases b with
              | true => exact decide_eq_true rfl
              | false => exact decide_eq_false (fun z => absurd (by injection z) (by decide : ¬ Sy.k1 false = "mark"))
            rw [e4, show ext (Se.hold W (.mk b x) e) i = (Se.inM x (W.ma ⟨i, hiN⟩) == b) by simp [ext, hiN, Se.hold]]
            cases Se.inM x (W.ma ⟨i, hiN⟩) <;> cases b <;> decide
          have z := hR H3 (Same.refl _)
          rw [← e3] at z
          exact z
    rw [decide_eq_false hk2]
    -- some, every
    refine iteF ⟨_, rfl, (by show 2 ≤ sizeLine; decide), fun t3 ht3 => ?_⟩
    have s3 := s2.trans (same_new ht3 (.tup [V.str "some", V.str "every"]))
    have e3 : (upd H2 t3 (.tup [V.str "some", V.str "every"])) t3 = some (.tup ((["some", "every"] : List Str).map V.str)) := upd_same
    generalize upd H2 t3 (.tup [V.str "some", V.str "every"]) = H3 at s3 e3
    refine ⟨t3, _, rfl, .inr (SqT.of e3), rfl, flatS _, _, rfl, ?_⟩
    rw [inS]
    by_cases hk3 : s.kind ∈ (["some", "every"] : List Str)
    · rw [decide_eq_true hk3]
      obtain ⟨b, u, rfl⟩ := Sy.kind_st hk3
      cases pr with
      | cons p1 pr => cases pr with
        | nil =>
          have hu' : SyAt H u _ := p1
          have du := Sy.depth_subs (s := .st b u) (u := u) (by simp [Sy.subs])
          exact iteT ⟨_, rfl, _, rfl, _, rfl, a, _, _, _, rfl, rfl, SqT.of (s3 _ _ ha), at1, _, rfl, N, l, d, W, us, _, u, B, e, rfl, hW.same s3, hu'.same s3, he.same s3, hok, by omega, by omega, hN, hri, fun r1 H5 s5 h5 => ⟨_, rfl, N, l, r1, W, us, Se.hold W u e, b, rfl, hW.same (s3.trans s5), h5, by omega, hri, fun r H6 s6 h6 => q r H6 (s3.trans (s5.trans s6)) h6⟩⟩
    rw [decide_eq_false hk3]
    -- both, either
    refine iteF ⟨_, rfl, (by show 2 ≤ sizeLine; decide), fun t4 ht4 => ?_⟩
    have s4 := s3.trans (same_new ht4 (.tup [V.str "both", V.str "either"]))
    have e4 : (upd H3 t4 (.tup [V.str "both", V.str "either"])) t4 = some (.tup ((["both", "either"] : List Str).map V.str)) := upd_same
    generalize upd H3 t4 (.tup [V.str "both", V.str "either"]) = H4 at s4 e4
    refine ⟨t4, _, rfl, .inr (SqT.of e4), rfl, flatS _, _, rfl, ?_⟩
    rw [inS]
    by_cases hk4 : s.kind ∈ (["both", "either"] : List Str)
    · rw [decide_eq_true hk4]
      obtain ⟨b, u, u2, rfl⟩ := Sy.kind_pr hk4
      cases pr with
      | cons p1 pr => cases pr with
        | cons p2 pr => cases pr with
          | nil =>
            have hu1 : SyAt H u _ := p1
            have hu2 : SyAt H u2 _ := p2
            have du := Sy.depth_subs (s := .pr b u u2) (u := u) (by simp [Sy.subs])
            have du2 := Sy.depth_subs (s := .pr b u u2) (u := u2) (by simp [Sy.subs])
            refine iteT ⟨_, rfl, _, rfl, a, _, _, _, rfl, rfl, SqT.of (s4 _ _ ha), at1, _, rfl, N, l, d, W, us, _, u, B, e, rfl, hW.same s4, hu1.same s4, he.same s4, hok.1, by omega, by omega, hN, hri, fun r1 H5 s5 h5 => ?_⟩
            have s5' := s4.trans s5
            refine ⟨_, rfl, _, rfl, a, _, _, _, rfl, rfl, SqT.of (s5' _ _ ha), at2, _, rfl, N, l, d, W, us, _, u2, B, e, rfl, hW.same s5', hu2.same s5', he.same s5', hok.2, by omega, by omega, hN, hri, fun r2 H6 s6 h6 => ?_⟩
            have s6' := s5'.trans s6
            have h56 := s6 _ _ h5
            refine ⟨_, rfl, rfl, _, rfl, ifS (fun eb => ?_) (fun eb => ?_)⟩
            · have hbb : b = true := by
                cases b with
                | true => rfl
                | false => exact absurd eb (by simp only [Sy.kind]; decide)
              subst hbb
              refine ⟨_, rfl, r1, rfl, ⟨_, SqL.of h56⟩, ?_⟩
              refine comp_list (K := K) (a := r1) (xs := natsV (pos (Se.hold W u e))) (fun C j zs H7 => Same H6 H7 ∧ H6 C = none ∧ H7 C = some (.lst zs) ∧ zs = natsV (((pos (Se.hold W u e)).take j).filter fun n => decide (n ∈ pos (Se.hold W u2 e)))) ?_ ?_ ?_ ?_
              · exact fun C hC => ⟨same_new hC _, hC, upd_same, rfl⟩
              · rintro C j zs H7 hj ⟨sm, hC, h7, ez⟩
                refine ⟨SqL.of (sm _ _ h56), h7, fun _ => ?_⟩
                rw [ez, natsV_len]
                have h1 := List.length_filter_le (fun n => decide (n ∈ pos (Se.hold W u2 e))) ((pos (Se.hold W u e)).take j)
                have h2 := pos_len (Se.hold W u e)
                rw [List.length_take] at h1
                exact small1000 (by omega)
              · rintro C j x zs H7 hx ⟨sm, hC, h7, ez⟩
                rw [natsV, List.getElem?_map] at hx
                obtain ⟨n, en, rfl⟩ := Option.map_eq_some_iff.mp hx
                obtain ⟨hj, ej⟩ := List.getElem?_eq_some_iff.mp en
                refine ⟨⟨rfl, trivial⟩, _, rfl, _, rfl, r2, _, rfl, .inl (SqL.of (sm _ _ h6)), rfl, natsV_flat _, _, rfl, ?_⟩
                rw [show (if false = true then !inV (.int (n : Int)) (natsV (pos (Se.hold W u2 e))) else inV (.int (n : Int)) (natsV (pos (Se.hold W u2 e)))) = decide (n ∈ pos (Se.hold W u2 e)) from inN _ _]
                by_cases hm : n ∈ pos (Se.hold W u2 e)
                · rw [decide_eq_true hm]
                  refine iteT ⟨_, rfl, h7, fun c o ec => ?_, hC, upd_same, ?_⟩
                  · rw [upd_ne (ne_of_none ec hC)]
                    exact sm c o ec
                  · rw [List.take_succ_eq_append_getElem hj, ej, List.filter_append, ez]
                    simp [List.filter_cons, hm, natsV]
                · rw [decide_eq_false hm]
                  refine iteF ⟨sm, hC, h7, ?_⟩
                  rw [List.take_succ_eq_append_getElem hj, ej, List.filter_append, ez]
                  simp [List.filter_cons, hm]
              · rintro C zs H7 ⟨sm, hC, h7, ez⟩
                rw [natsV_len, List.take_length, pos_and (f := Se.hold W u e) (g := Se.hold W u2 e) fun i hi => decide_pos _ ⟨i, hi⟩] at ez
                exact q C H7 (s6'.trans sm) (by rw [h7, ez]; rfl)
            · have hbb : b = false := by
                cases b with
                | true => exact absurd rfl eb
                | false => rfl
              subst hbb
              refine ⟨_, rfl, us.length, rfl, by omega, by omega, ?_⟩
              refine comp_rangeF (r := [some (.ref r1), some (.ref r2)]) (fun n => decide (n ∈ pos (Se.hold W u e)) || decide (n ∈ pos (Se.hold W u2 e))) ⟨rfl, rfl, trivial⟩ (by omega) (fun i hi H7 s7 R hR => ?_) (fin s6' fun i hi => by
                rw [show decide (i ∈ pos (Se.hold W u e)) = Se.hold W u e ⟨i, hi⟩ from decide_pos _ ⟨i, hi⟩, show decide (i ∈ pos (Se.hold W u2 e)) = Se.hold W u2 e ⟨i, hi⟩ from decide_pos _ ⟨i, hi⟩]; rfl)
              have ci : V.int (0 + (i : Int)) = V.int (i : Int) := by rw [show (0 : Int) + (i : Int) = (i : Int) by omega]
              rw [ci]
              refine ⟨_, rfl, _, rfl, r1, _, rfl, .inl (SqL.of (s7 _ _ h56)), rfl, natsV_flat _, _, rfl, ?_⟩
              rw [show (if false = true then !inV (.int (i : Int)) (natsV (pos (Se.hold W u e))) else inV (.int (i : Int)) (natsV (pos (Se.hold W u e)))) = decide (i ∈ pos (Se.hold W u e)) from inN _ _]
              have z := hR H7 (Same.refl _)
              by_cases hm : i ∈ pos (Se.hold W u e)
              · rw [decide_eq_true hm] at z ⊢
                exact iteT z
              · rw [decide_eq_false hm] at z ⊢
                refine iteF ⟨_, rfl, _, rfl, r2, _, rfl, .inl (SqL.of (s7 _ _ h6)), rfl, natsV_flat _, _, rfl, ?_⟩
                rw [show (if false = true then !inV (.int (i : Int)) (natsV (pos (Se.hold W u2 e))) else inV (.int (i : Int)) (natsV (pos (Se.hold W u2 e)))) = decide (i ∈ pos (Se.hold W u2 e)) from inN _ _]
                exact z
    rw [decide_eq_false hk4]
    refine iteF ?_
    have hk5 : s.kind ∈ (["least", "most"] : List Str) := by
      cases s with
      | nm x => exact absurd rfl ne
      | y0 b => exact absurd (by show Sy.k0 b ∈ _; cases b <;> decide) hk1
      | mk b x => exact absurd (by show Sy.k1 b ∈ _; cases b <;> decide) hk2
      | st b x => exact absurd (Sy.st_kind b) hk3
      | pr b x y => exact absurd (Sy.pr_kind b) hk4
      | bn b x y => exact Sy.bind_kind b
    obtain ⟨b, x, u, rfl⟩ := Sy.kind_bind hk5
    cases pr with
    | cons p1 pr => cases pr with
      | cons p2 pr => cases pr with
        | nil =>
          cases p1
          have hu' : SyAt H u _ := p2
          have du := Sy.depth_subs (s := .bn b x u) (u := u) (by simp [Sy.subs])
          refine ⟨(by decide), fun sa hsa => ?_⟩
          have k5 := same_new hsa (.lst [])
          have sa5 : (upd H4 sa (.lst [])) sa = some (.lst []) := upd_same
          generalize upd H4 sa (.lst []) = H5 at k5 sa5
          have s5 := s4.trans k5
          refine ⟨_, rfl, us.length, rfl, by omega, fun fo H6 sus s6 hfo6 hfoN prs => ?_⟩
          have s6' := s5.trans s6
          have sa6 := s6 _ _ sa5
          have nfo : fo ≠ sa := fun z => by rw [z, sa5] at hfoN; cases hfoN
          rw [wl] at prs
          have lsus : sus.length = (subsets N).length := (Paired.length prs).symm
          have l64 : (subsets N).length ≤ 64 := by rw [subsets_len]; exact Nat.le_trans (Nat.pow_le_pow_right (by decide) hN) (by decide)
          refine ⟨fo, rfl, ⟨_, SqL.of hfo6⟩, ?_⟩
          have tupS : ∀ {H7 : Hp}, SameX sa H6 H7 → ∀ c ys, H6 c = some (.tup ys) → H7 c = some (.tup ys) := fun {H7} x7 c ys ec => x7 _ _ ec fun z => by rw [z, sa6] at ec; cases ec
          refine for_list (K := K) (a := fo) (xs := sus) (fun j σ H7 => (∃ z8 z9, σ = [some (.ref l), some (.ref a), some (.ref d), some (.str (Sy.k4 b)), some (.int (us.length : Int)), none, none, some (.ref sa), z8, z9]) ∧ SameX sa H6 H7 ∧ ∃ vs, H7 sa = some (.lst vs) ∧ Paired (fun l v => LiAt H7 l v ∧ ∀ c, v = .ref c → c ≠ sa) (((subsets N).take j).filter (fixB W u e x)) vs)
            ⟨⟨_, _, rfl⟩, fun c o ec _ => ec, [], sa6, .nil⟩ (fun j σ H7 _ ⟨_, x7, _⟩ => SqL.of (x7 _ _ hfo6 nfo)) ?_ ?_
          · rintro j y σ H7 hy ⟨⟨z8, z9, rfl⟩, x7, vs, h7, pr7⟩
            obtain ⟨ll, hll, ⟨a', rfl, ha'⟩, hnew⟩ := pair_backG prs hy
            obtain ⟨hj, ej⟩ := List.getElem?_eq_some_iff.mp hll
            have na' : a' ≠ sa := fun z => by have := hnew a' rfl; rw [z, sa5] at this; cases this
            obtain ⟨t, ht⟩ := subsets_pos (List.mem_of_getElem? hll)
            have of_t : ofL ll = t := by rw [ht, ofL_pos]
            have ha7 := x7 _ _ ha' na'
            obtain ⟨kvs0, hk0, hkl0, hkB⟩ := he
            have d6 := s6' _ _ hk0
            have nd : d ≠ sa := fun z => by rw [z, sa6] at d6; cases d6
            have d7 := x7 _ _ d6 nd
            have x7H : ∀ c o, H c = some o → H7 c = some o := fun c o ec => x7 _ _ (s6' _ _ ec) fun z => by
              rw [z] at ec
              rw [s4 _ _ ec] at hsa
              cases hsa
            have lsts : ∀ y ∈ B, ∃ ly, valV kvs0 (.inr y) = some (.ref ly) ∧ H7 ly = some (.lst (natsV (pos (e y)))) := fun y hy => by
              obtain ⟨ly, e1, e2⟩ := hkB y hy
              exact ⟨ly, e1, x7H _ _ e2⟩
            have lvs : vs.length ≤ 64 := by
              rw [← Paired.length pr7]
              have := List.length_filter_le (fixB W u e x) ((subsets N).take j)
              rw [List.length_take] at this
              omega
            refine ⟨_, rfl, d, kvs0, rfl, .inl d7, fun di hdi => ?_⟩
            have k8 := same_new hdi (.dK kvs0)
            have di8 : (upd H7 di (.dK kvs0)) di = some (.dK kvs0) := upd_same
            generalize upd H7 di (.dK kvs0) = H8 at k8 di8
            have a8 := k8 _ _ (x7H _ _ ha)
            refine ⟨_, rfl, _, rfl, _, rfl, a, _, _, _, rfl, rfl, SqT.of a8, at1, di, _, rfl, DPut.k (k := .inr x) di8 (small1000 (by omega)), ?_⟩
            have di9 : (upd H8 di (.dK (putK kvs0 (.inr x) (.ref a')))) di = some (.dK (putK kvs0 (.inr x) (.ref a'))) := upd_same
            have k9 : ∀ c o, H7 c = some o → (upd H8 di (.dK (putK kvs0 (.inr x) (.ref a')))) c = some o := fun c o ec => by rw [upd_ne (ne_of_none ec hdi)]; exact k8 _ _ ec
            generalize upd H8 di (.dK (putK kvs0 (.inr x) (.ref a'))) = H9 at di9 k9
            have k9H : Same H H9 := fun c o ec => k9 _ _ (x7H _ _ ec)
            have env9 : PosEnv H9 di (B ++ [x]) (Se.put e x t) := posEnv_put (H2 := H7) di9 hkl0 hok.1 (by rw [← ht]; exact k9 _ _ ha7) (fun c ys ec => k9 _ _ ec) lsts
            refine ⟨_, rfl, _, rfl, a, _, _, _, rfl, rfl, SqT.of (k9H _ _ ha), at2, _, rfl, N, l, di, W, us, _, u, B ++ [x], Se.put e x t, rfl, hW.same k9H, hu'.same k9H, env9, hok.2.2, by omega, by simp; omega, hN, hri, fun r8 H10 s10 h10 => ?_⟩
            have ha10 := s10 _ _ (k9 _ _ ha7)
            have natR : ∀ (c : Addr) (ws : List Nat), H10 c = some (.lst (natsV ws)) → Rep K H10 (.lst ((ws.map fun (n : Nat) => (n : Int)).map T.int)) (.ref c) := fun c ws hc => by
              simp only [Rep]
              refine ⟨c, _, rfl, SqL.of hc, ?_⟩
              have e0 : natsV ws = (ws.map fun (n : Nat) => (n : Int)).map V.int := by simp [natsV]
              rw [e0]
              exact Reps.int _
            refine ⟨_, rfl, _, _, natR _ _ h10, natR _ _ ha10, by rw [deeps_int]; decide, _, rfl, ?_⟩
            rw [eqTs_int, decide_eq_decide.mpr castInj]
            have fx : fixB W u e x ll = decide (pos (Se.hold W u (Se.put e x t)) = ll) := by unfold fixB; rw [of_t]
            rw [← fx]
            have tk : (subsets N).take (j + 1) = (subsets N).take j ++ [ll] := by rw [List.take_succ_eq_append_getElem hj, ej]
            have x10 : SameX sa H6 H10 := fun c o ec hc => s10 _ _ (k9 _ _ (x7 _ _ ec hc))
            have h10s := s10 _ _ (k9 _ _ h7)
            cases hfx : fixB W u e x ll with
            | true =>
              refine iteT ⟨_, rfl, .inl ⟨rfl, _, SqL.of h10s⟩, _, rfl, sa, _, _, rfl, rfl, h10s, small1000 (by omega), ⟨_, _, rfl⟩, fun c o ec hc => ?_, _, upd_same, ?_⟩
              · rw [upd_ne hc]
                exact x10 _ _ ec hc
              · rw [tk, List.filter_append]
                rw [show [ll].filter (fixB W u e x) = [ll] by simp [hfx]]
                refine pair_snoc ⟨⟨a', rfl, ?_⟩, fun c ec => by cases ec; exact na'⟩ (L2.Paired.mapP pr7 fun l' v' ⟨⟨c', e', h'⟩, hne⟩ => ⟨⟨c', e', ?_⟩, hne⟩)
                · rw [upd_ne (hne c' e')]
                  exact s10 _ _ (k9 _ _ h')
                · rw [upd_ne na']
                  exact ha10
            | false =>
              refine iteF ⟨⟨_, _, rfl⟩, x10, vs, h10s, ?_⟩
              rw [tk, List.filter_append]
              rw [show [ll].filter (fixB W u e x) = [] by simp [hfx], List.append_nil]
              exact L2.Paired.mapP pr7 fun l' v' ⟨⟨c', e', h'⟩, hne⟩ => ⟨⟨c', e', s10 _ _ (k9 _ _ h')⟩, hne⟩
          · rintro σ H7 ⟨⟨z8, z9, rfl⟩, x7, vs, h7, pr7⟩
            rw [lsus, List.take_length] at pr7
            have x7H : Same H H7 := fun c o ec => x7 _ _ (s6' _ _ ec) fun z => by
              rw [z] at ec
              rw [s4 _ _ ec] at hsa
              cases hsa
            have lvs : vs.length ≤ 64 := by
              rw [← Paired.length pr7]
              exact Nat.le_trans (List.length_filter_le _ _) l64
            generalize hSt : (subsets N).filter (fixB W u e x) = St at pr7
            have inner : ∀ (i : Nat) (H8 : Hp) (R : V → Hp → Prop), Same H7 H8 → (∀ C2 H9, Same H8 H9 → H9 C2 = some (.lst ((St.map fun l => decide (i ∈ l)).map V.bl)) → R (.ref C2) H9) →
                CompW (Itl K sa) (gName 0) tYes (tOp (rIn K false) (tVar 1) (tVar 0)) [none, some (.int (0 + (i : Int)))] H8 R := fun i H8 R s8 hR => by
              refine comp_list (K := K) (a := sa) (xs := vs) (fun C j zs H9 => Same H8 H9 ∧ H8 C = none ∧ H9 C = some (.lst zs) ∧ zs = ((St.take j).map fun l => decide (i ∈ l)).map V.bl) ?_ ?_ ?_ ?_
              · exact fun C hC => ⟨same_new hC _, hC, upd_same, rfl⟩
              · rintro C j zs H9 hj ⟨sm, hC, h9, ez⟩
                refine ⟨SqL.of ((s8.trans sm) _ _ h7), h9, fun _ => ?_⟩
                rw [ez]
                exact small1000 (by simp; omega)
              · rintro C j y zs H9 hy ⟨sm, hC, h9, ez⟩
                obtain ⟨ll, hll, ⟨a', rfl, ha'⟩, _⟩ := pair_backG pr7 hy
                obtain ⟨hj, ej⟩ := List.getElem?_eq_some_iff.mp hll
                refine ⟨⟨rfl, trivial⟩, _, rfl, _, rfl, a', _, rfl, .inl (SqL.of ((s8.trans sm) _ _ ha')), rfl, natsV_flat _, h9, fun c o ec => ?_, hC, upd_same, ?_⟩
                · rw [upd_ne (ne_of_none ec hC)]
                  exact sm c o ec
                · rw [List.take_succ_eq_append_getElem hj, ej, ez]
                  rw [show (if false = true then !inV (.int (0 + (i : Int))) (natsV ll) else inV (.int (0 + (i : Int))) (natsV ll)) = decide (i ∈ ll) by rw [show (0 : Int) + (i : Int) = (i : Int) by omega]; exact inN _ _]
                  simp
              · rintro C zs H9 ⟨sm, hC, h9, ez⟩
                rw [show vs.length = St.length from (Paired.length pr7).symm, List.take_length] at ez
                exact hR C H9 sm (by rw [h9, ez])
            refine ⟨_, rfl, rfl, _, rfl, ifS (fun eb => ?_) (fun eb => ?_)⟩
            · have hbb : b = true := by
                cases b with
                | true => rfl
                | false => exact absurd eb (by decide)
              subst hbb
              refine ⟨_, rfl, us.length, rfl, by omega, by omega, ?_⟩
              refine comp_rangeF (r := [some (.ref sa)]) (ext (Se.hold W (.bn true x u) e)) ⟨rfl, trivial⟩ (by omega) (fun i hi H8 s8 R hR => ?_) (fin x7H fun i hi => by simp [ext, hi])
              have hiN : i < N := by omega
              refine ⟨_, rfl, sa, rfl, ⟨_, SqL.of (s8 _ _ h7)⟩, inner i H8 _ s8 fun C2 H9 s9 h9 => ⟨C2, _, rfl, SqL.of h9, _, rfl, ?_⟩⟩
              rw [← hSt, least_eq W u e x ⟨i, hiN⟩]
              have z := hR H9 s9
              rw [show ext (Se.hold W (.bn true x u) e) i = Se.hold W (.bn true x u) e ⟨i, hiN⟩ by simp [ext, hiN]] at z
              exact z
            · have hbb : b = false := by
                cases b with
                | true => exact absurd rfl eb
                | false => rfl
              subst hbb
              refine ⟨_, rfl, us.length, rfl, by omega, by omega, ?_⟩
              refine comp_rangeF (r := [some (.ref sa)]) (ext (Se.hold W (.bn false x u) e)) ⟨rfl, trivial⟩ (by omega) (fun i hi H8 s8 R hR => ?_) (fin x7H fun i hi => by simp [ext, hi])
              have hiN : i < N := by omega
              refine ⟨_, rfl, sa, rfl, ⟨_, SqL.of (s8 _ _ h7)⟩, inner i H8 _ s8 fun C2 H9 s9 h9 => ⟨C2, _, rfl, SqL.of h9, _, rfl, ?_⟩⟩
              rw [← hSt, most_eq W u e x ⟨i, hiN⟩]
              have z := hR H9 s9
              rw [show ext (Se.hold W (.bn false x u) e) i = Se.hold W (.bn false x u) e ⟨i, hiN⟩ by simp [ext, hiN]] at z
              exact z
end
end Law

set_option maxRecDepth 100000
set_option maxHeartbeats 4000000
namespace L2
open PySem
theorem Reps.ofGet {K : PySem.W.Frag} {H : Hp} : ∀ {l : List T} {xs : List V}, l.length = xs.length → (∀ (i : Nat) (t : T) (x : V), l[i]? = some t → xs[i]? = some x → Rep K H t x) → Reps K H l xs
  | [], [], _, _ => by simp [Reps]
  | t :: l, x :: xs, hl, h => by
    simp only [Reps]
    exact ⟨h 0 t x rfl rfl, Reps.ofGet (by simpa using hl) fun i t' x' h1 h2 => h (i + 1) t' x' (by simpa using h1) (by simpa using h2)⟩
  | [], _ :: _, hl, _ => by simp at hl
  | _ :: _, [], hl, _ => by simp at hl
theorem deeps_le {n : Nat} : ∀ {l : List T}, (∀ t ∈ l, deep t ≤ n) → deeps l ≤ n
  | [], _ => Nat.zero_le _
  | t :: l, h => by
    simp only [deeps]
    exact Nat.max_le.mpr ⟨h t (by simp), deeps_le fun u hu => h u (List.mem_cons_of_mem _ hu)⟩
def placeT (m : Str) (ws : List Nat) : T := .tup [.str m, .tup ((ws.map fun (n : Nat) => (n : Int)).map T.int)]
def worldT {N : Nat} (W : Wo N) : List T := List.ofFn fun i => placeT (W.ma i) ((W.ws i).map Fin.val)
theorem world_rep {K : PySem.W.Frag} {H : Hp} {l : Addr} {N : Nat} {W : Wo N} {us : List V} (h : WorldAt H l W us) : Reps K H (worldT W) us := by
  refine Reps.ofGet (by simp [worldT, h.len]) fun i t x h1 h2 => ?_
  rw [worldT, List.getElem?_ofFn] at h1
  split at h1
  · rename_i hi
    cases h1
    obtain ⟨v, ev, pa, qa, rfl, hp, hq⟩ := h.at' ⟨i, hi⟩
    have e : V.ref pa = x := Option.some.inj (ev.symm.trans h2)
    subst e
    simp only [placeT, Rep, Reps]
    refine ⟨pa, _, rfl, SqT.of hp, rfl, ⟨qa, _, rfl, SqT.of hq, ?_⟩, trivial⟩
    have e : ((W.ws ⟨i, hi⟩).map Fin.val).map (fun (w : Nat) => V.int (w : Int)) = (((W.ws ⟨i, hi⟩).map Fin.val).map fun (n : Nat) => (n : Int)).map V.int := by simp
    rw [e]
    exact Reps.int _
  · cases h1
theorem world_deep {N : Nat} (W : Wo N) : deeps (worldT W) ≤ 20 := by
  refine deeps_le fun t ht => ?_
  obtain ⟨i, rfl⟩ := List.mem_ofFn.mp ht
  simp only [placeT, deep, deeps]
  rw [deeps_int]
  decide

end L2
namespace Law
open PySem L2
section
seal PA PE PS PSs PT PI PG PGs PIf
variable {P : Program} {w : World} {K : PySem.W.Frag} {mg : Str → Option Value} {base : Heap} {f g : Addr} {fd gd : FuncData}
def spNested (D : Nat) : Sp := fun vs H Q _ => ∃ (v : V) (s : Sy), vs = [v] ∧ SyAt H s v ∧ s.depth ≤ D ∧ ∀ (n : Int) H', Same H H' → Q (.int n) H'
theorem scNested : FnScope ["saying", "within"] ["saying"] (defScope sNested) := ⟨rfl, rfl, rfl, by decide +kernel, rfl, by decide +kernel, by decide +kernel⟩
theorem ok_nested (F : Fun K "_law_nested" "_law_nested" sNested f fd) (bS : Binds K fd ["saying"] []) (kS : PySem.W.keepIn K (.ref f) = true) (mS : mg "_law_nested" = some (.ref f)) (mm : mg "max" = none) (mi : mg "isinstance" = none) (mt : mg "tuple" = none) (mint : mg "int" = none) : ∀ D, FnOk P w K mg base CX0 (1 + D) f fd ["saying"] (spNested D) := by
  intro D
  induction D with
  | zero =>
    refine F.ok scNested (fun vs H Q E h => ?_) (fun cdv A outer s H vs Q E hr h => ?_)
    · obtain ⟨v, s, rfl, _⟩ := h
      rfl
    obtain ⟨v, s, rfl, _, hd, _⟩ := h
    exact absurd (Nat.le_trans s.depth_pos hd) (by decide)
  | succ D ih =>
    refine F.ok scNested (fun vs H Q E h => ?_) (fun cdv A outer s H vs Q E hr h => ?_)
    · obtain ⟨v, s, rfl, _⟩ := h
      rfl
    obtain ⟨v, s, rfl, hs, hd, q⟩ := h
    refine ⟨_, pss_cut (fun σ H2 => ∃ m : Int, σ = [some v, some (.int m)] ∧ Same H H2) (ps_set (i := 1) scNested.nd rfl (Or.inl rfl) (pe_maxD rfl rfl mm (pe_comp (N := ["one"]) (capt := [none]) rfl (pi_tup (pe_slice sl_tup (pv 0) (po_some pe_int) po_none)) rfl (by repeat (first | exact .nil | refine .cons rfl ?_)) (by repeat (first | exact .nil | refine .skip (by decide) (by decide) ?_ | refine .free ⟨_, rfl⟩ ?_)) (.tgt .nil) (fun _ _ _ _ _ => pg_name (i := 0) ndOn rfl (Or.inl rfl)) (fun _ _ _ _ _ => (pif_one (pt_val (pe_callB (isiK K) rfl mi PyProof.Rows.boot_isinstance (pa_cons (pv 0) (pa_cons (pe_bltn (v := .ty "tuple") rfl mt (by decide +kernel : bootBuiltins "tuple" = some (.type "tuple")) rfl) pa_nil)))))) (fun _ _ _ _ _ => (pe_call ih hr rfl mS kS bS .nil pass0 (pa_cons (pv 0) pa_nil)))) pe_int)) (pss_one (ps_ret (pe_op op_add (pv 1) (pe_callTy call_int1 rfl mint PyProof.Rows.boot_int (pa_cons (pe_cmpR op_in_seq (pe_ix ix_tup (pv 0) pe_int (fun _ _ => rfl)) (pe_tup (pa_cons pe_str (pa_cons pe_str pa_nil))) rfl) pa_nil))))), ?_⟩
    obtain ⟨a, xs, rfl, ha, pr⟩ := id hs.args
    refine ⟨⟨_, rfl, _, rfl, a, _, rfl, SqT.of ha, slice1n, fun t ht => ?_⟩, ?_⟩
    · rw [slice1]
      have s1 := same_new ht (.tup xs)
      generalize hH1 : upd H t (.tup xs) = H1 at s1
      have et : H1 t = some (.tup xs) := by rw [← hH1]; exact upd_same
      have lx : s.args.length = xs.length := Paired.length pr
      have al := args_le s
      refine ⟨t, rfl, ⟨xs, SqT.of et⟩, ?_⟩
      refine comp_tup (K := K) (a := t) (xs := xs) (fun C i ys H2 => Same H1 H2 ∧ H1 C = none ∧ H2 C = some (.lst ys) ∧ (∃ ns : List Int, ys = ns.map V.int) ∧ ys.length ≤ i) ?_ ?_ ?_ ?_
      · exact fun C hC => ⟨same_new hC _, hC, upd_same, ⟨[], rfl⟩, Nat.le_refl _⟩
      · rintro C i ys H2 hi ⟨sm, hC, h2, _, hl⟩
        exact ⟨SqT.of (sm _ _ et), h2, fun _ => small1000 (by omega)⟩
      · rintro C i x ys H2 hx ⟨sm, hC, h2, ⟨ns, ey⟩, hl⟩
        obtain ⟨r, hr', hxr⟩ := pair_backG pr hx
        cases r with
        | tx z =>
          cases hxr
          exact ⟨trivial, _, rfl, _, _, _, false, rfl, .str z, rfl, _, rfl, iteF ⟨sm, hC, h2, ⟨ns, ey⟩, by omega⟩⟩
        | sy u =>
          have hu : SyAt H2 u x := SyAt.same hxr (s1.trans sm)
          have mem : u ∈ s.subs := by
            have e : s.args = s.args.take i ++ (Sarg.sy u :: s.args.drop (i + 1)) := by rw [← drop_at hr', List.take_append_drop]
            rw [← Sarg.subs_args, e, Sarg.subs_app]
            simp [Sarg.subs]
          have dl := Sy.depth_subs mem
          obtain ⟨ua, us, rfl, hua⟩ := hu.tup
          refine ⟨trivial, _, rfl, _, _, _, true, rfl, .tup hua, kit_same, _, rfl, iteT ⟨_, rfl, _, u, rfl, hu, by omega, fun n H3 s3 => ⟨s3 _ _ h2, fun b o e => ?_, hC, upd_same, ⟨ns ++ [n], by rw [ey, List.map_append]; rfl⟩, by simp; omega⟩⟩⟩
          rw [upd_ne (ne_of_none e hC)]
          exact s3 _ _ (sm b o e)
      rintro C ys H2 ⟨sm, hC, h2, ⟨ns, ey⟩, _⟩
      subst ey
      exact ⟨C, ns, 0, rfl, rfl, SqL.of h2, fun _ => ⟨0, rfl, s1.trans sm⟩, fun _ M _ _ => ⟨M, rfl, s1.trans sm⟩⟩
    rintro _ H2 ⟨m, rfl, s2⟩
    refine ⟨_, rfl, _, rfl, a, _, _, _, rfl, rfl, SqT.of (s2 _ _ ha), at0, (by show 2 ≤ sizeLine; decide), fun t ht => ?_⟩
    exact ⟨t, (["least", "most"] : List Str).map V.str, rfl, .inr (SqT.of upd_same), rfl, flatS _, .inr ⟨_, rfl, _, _, rfl, rfl, q _ _ (s2.trans (same_new ht _))⟩⟩
def midW (a : Addr) (ns : List Int) (K : PySem.W.Frag) : St → Hp → Prop := fun σ H => ∃ (p l : Addr) (v : V) (z4 : Option V) (k m N : Nat) (W : Wo N) (us : List V) (s : Sy), σ = [some (.ref a), some (.ref p), some (.ref l), some v, z4, none, none, none] ∧ Scr K H a ns ∧ H p = some (.lst [.int (k : Int), .int (m : Int)]) ∧ l ≠ p ∧ WorldAt H l W us ∧ N ≤ 6 ∧ W.rises ∧ SyAt H s v ∧ s.ok [] ∧ s.depth ≤ 6
def midP (a : Addr) (ns : List Int) (K : PySem.W.Frag) : St → Hp → Prop := fun σ H => ∃ (p l : Addr) (v v4 : V) (k m N : Nat) (W : Wo N) (us : List V) (s : Sy), σ = [some (.ref a), some (.ref p), some (.ref l), some v, some v4, none, none, none] ∧ Scr K H a ns ∧ H p = some (.lst [.int (k : Int), .int (m : Int)]) ∧ l ≠ p ∧ WorldAt H l W us ∧ N ≤ 6 ∧ W.rises ∧ SyAt H s v4 ∧ s.ok ["X"] ∧ s.depth ≤ 3
theorem WorldAt.keepX {H H' : Hp} {l p : Addr} {N : Nat} {W : Wo N} {us ys : List V} (h : WorldAt H l W us) (hp : H p = some (.lst ys)) (ne : l ≠ p) (k : SameX p H H') : WorldAt H' l W us := h.imp (k _ _ h.lst ne) fun b xs e => k _ _ e fun z => by rw [z, hp] at e; cases e
def spLaw (K : PySem.W.Frag) : Sp := fun vs H Q _ => ∃ (a : Addr) (ns : List Int), vs = [.ref a] ∧ Scr K H a ns ∧ ns.length ≤ 63 ∧ ∀ H', Q (.bl true) H'
theorem scLaw : FnScope ["script", "spot", "world", "saying", "part", "kept", "due", "found"] ["script"] (defScope sLaw) := ⟨rfl, rfl, rfl, by decide +kernel, rfl, by decide +kernel, by decide +kernel⟩
theorem ndAD : (["at", "due"] : List Str).Nodup := by decide +kernel
theorem ok_law {fC fS fW fN fP fT fQ : Addr} {dC dS dW dN dP dT dQ : FuncData} (F : Fun K "law" "law" sLaw f fd)
    (GC : FnOk P w K mg base CX0 1 fC dC ["script", "k"] (spCell K)) (bC : Binds K dC ["script", "k"] []) (kC : PySem.W.keepIn K (.ref fC) = true) (mC : mg "_law_cell_at" = some (.ref fC))
    (GS : FnOk P w K mg base CX0 7 fS dS ["script", "spot", "deep", "bound"] (spSay K 4)) (bS : Binds K dS ["script", "spot", "deep", "bound"] []) (kS : PySem.W.keepIn K (.ref fS) = true) (mS : mg "_law_saying" = some (.ref fS))
    (GW : FnOk P w K mg base CX0 3 fW dW ["script", "spot", "most"] (spWorld K)) (bW : Binds K dW ["script", "spot", "most"] []) (kW : PySem.W.keepIn K (.ref fW) = true) (mW : mg "_law_world" = some (.ref fW))
    (GN : FnOk P w K mg base CX0 7 fN dN ["saying"] (spNested 6)) (bN : Binds K dN ["saying"] []) (kN : PySem.W.keepIn K (.ref fN) = true) (mN : mg "_law_nested" = some (.ref fN))
    (GP : FnOk P w K mg base CX0 7 fP dP ["world", "saying", "bound"] (spPlaces 6)) (bP : Binds K dP ["world", "saying", "bound"] []) (kP : PySem.W.keepIn K (.ref fP) = true) (mP : mg "_law_places" = some (.ref fP))
    (GT : FnOk P w K mg base CX0 15 fT dT ["world", "saying"] (spTrue 6)) (bT : Binds K dT ["world", "saying"] []) (kT : PySem.W.keepIn K (.ref fT) = true) (mT : mg "true_at" = some (.ref fT))
    (GQ : FnOk P w K mg base CX0 1 fQ dQ ["found", "many"] (spTruths K)) (bQ : Binds K dQ ["found", "many"] []) (kQ : PySem.W.keepIn K (.ref fQ) = true) (mQ : mg "_law_truths" = some (.ref fQ))
    (ml : mg "len" = none) (mr : mg "range" = none) (mli : mg "list" = none) (mint : mg "int" = none) : FnOk P w K mg base CX0 16 f fd ["script"] (spLaw K) := by
  refine F.ok scLaw (fun vs H Q E h => ?_) (fun cdv A outer s H vs Q E hr h => ?_)
  · obtain ⟨a, ns, rfl, _⟩ := h
    rfl
  obtain ⟨a, ns, rfl, hS, _, q⟩ := h
  have hr1 : L2.Room 1 _ := hr.mono (by decide)
  have hr3 : L2.Room 3 _ := hr.mono (by decide)
  have hr7 : L2.Room 7 _ := hr.mono (by decide)
  have hu : _ + 30 < cLine := Nat.lt_of_le_of_lt (Nat.add_le_add_left (by decide : 30 ≤ 64) _) hr.units
  refine ⟨_, pss_cons (ps_set (i := 1) scLaw.nd rfl (Or.inl rfl) (pe_lst (pa_cons pe_int (pa_cons pe_int pa_nil)))) (pss_cons (ps_set (i := 2) scLaw.nd rfl (Or.inl rfl) (pe_call GW hr3 rfl mW kW bW .nil pass0 (pa_cons (pv 0) (pa_cons (pv 1) (pa_cons (pe_op op_add pe_int (pe_callTy call_int1 rfl mint PyProof.Rows.boot_int (pa_cons (pe_cmpR op_eq (pe_op op_mod (pe_call GC hr1 rfl mC kC bC .nil pass0 (pa_cons (pv 0) (pa_cons pe_int pa_nil))) pe_int) pe_int (nomark _)) pa_nil))) pa_nil))))) (pss_cut (midW a ns K) (ps_set (i := 3) scLaw.nd rfl (Or.inl rfl) (pe_call GS hr7 rfl mS kS bS .nil pass0 (pa_cons (pv 0) (pa_cons (pv 1) (pa_cons pe_int (pa_cons (pe_lst pa_nil) pa_nil)))))) (pss_cut (midW a ns K) (ps_if (PW.pt (pw_and (pt_cmpR op_eq (pe_op op_mod (pe_op op_fdiv (pe_call GC hr1 rfl mC kC bC .nil pass0 (pa_cons (pv 0) (pa_cons pe_int pa_nil))) pe_int) pe_int) pe_int (nomark _)) (pw_and1 (pt_cmpR op_lt (pe_call GN hr7 rfl mN kN bN .nil pass0 (pa_cons (pv 3) pa_nil)) pe_int (nomark _))))) (pss_cons (ps_set (i := 4) scLaw.nd rfl (Or.inl rfl) (pe_call GS hr7 rfl mS kS bS .nil pass0 (pa_cons (pv 0) (pa_cons (pv 1) (pa_cons pe_int (pa_cons (pe_lst (pa_cons pe_str pa_nil)) pa_nil)))))) (pss_one (ps_if (pt_cmpR op_lt (pe_call GN hr7 rfl mN kN bN .nil pass0 (pa_cons (pv 4) pa_nil)) pe_int (nomark _)) (pss_one (ps_set (i := 3) scLaw.nd rfl (Or.inl rfl) (pe_tup (pa_cons (pe_ix ix_list (pe_lst (pa_cons pe_str (pa_cons pe_str pa_nil))) (pe_op op_mod (pe_op op_fdiv (pe_call GC hr1 rfl mC kC bC .nil pass0 (pa_cons (pv 0) (pa_cons pe_int pa_nil))) pe_int) pe_int) (fun _ _ => rfl)) (pa_cons pe_str (pa_cons (pv 4) pa_nil)))))) pss_nil))) pss_nil) (pss_cut (midW a ns K) (ps_if (pt_cmpR op_gt (pe_call GN hr7 rfl mN kN bN .nil pass0 (pa_cons (pv 3) pa_nil)) pe_int (nomark _)) (pss_one (ps_set (i := 3) scLaw.nd rfl (Or.inl rfl) (pe_tup (pa_cons pe_str (pa_cons (pe_tup (pa_cons pe_str (pa_cons pe_str (pa_cons (pe_tup (pa_cons pe_str (pa_cons (pe_tup (pa_cons pe_str (pa_cons pe_str pa_nil))) pa_nil))) pa_nil)))) pa_nil))))) pss_nil) (pss_cut (midW a ns K) (ps_if (pt_cmpR op_eq (pe_op op_mod (pe_op op_fdiv (pe_call GC hr1 rfl mC kC bC .nil pass0 (pa_cons (pv 0) (pa_cons pe_int pa_nil))) pe_int) pe_int) pe_int (nomark _)) (pss_cons (ps_set (i := 2) scLaw.nd rfl (Or.inl rfl) (pe_call GW hr3 rfl mW kW bW .nil pass0 (pa_cons (pv 0) (pa_cons (pv 1) (pa_cons pe_int pa_nil))))) (pss_cons (ps_asg pe_int (pg_sub (pv 1) pe_int set_list)) (pss_cons (ps_set (i := 4) scLaw.nd rfl (Or.inl rfl) (pe_call GS hr7 rfl mS kS bS .nil pass0 (pa_cons (pv 0) (pa_cons (pv 1) (pa_cons pe_int (pa_cons (pe_lst (pa_cons pe_str (pa_cons pe_str (pa_cons pe_str pa_nil)))) pa_nil)))))) (pss_one (ps_set (i := 3) scLaw.nd rfl (Or.inl rfl) (pe_tup (pa_cons pe_str (pa_cons pe_str (pa_cons (pe_tup (pa_cons pe_str (pa_cons pe_str (pa_cons (pe_tup (pa_cons pe_str (pa_cons pe_str (pa_cons (pv 4) pa_nil)))) pa_nil)))) pa_nil))))))))) pss_nil) (pss_cut (midW a ns K) (ps_if (pt_cmpR op_eq (pe_op op_mod (pe_op op_fdiv (pe_call GC hr1 rfl mC kC bC .nil pass0 (pa_cons (pv 0) (pa_cons pe_int pa_nil))) pe_int) pe_int) pe_int (nomark _)) (pss_cons (ps_set (i := 2) scLaw.nd rfl (Or.inl rfl) (pe_call GW hr3 rfl mW kW bW .nil pass0 (pa_cons (pv 0) (pa_cons (pv 1) (pa_cons pe_int pa_nil))))) (pss_cons (ps_asg pe_int (pg_sub (pv 1) pe_int set_list)) (pss_cons (ps_set (i := 4) scLaw.nd rfl (Or.inl rfl) (pe_call GS hr7 rfl mS kS bS .nil pass0 (pa_cons (pv 0) (pa_cons (pv 1) (pa_cons pe_int (pa_cons (pe_lst (pa_cons pe_str pa_nil)) pa_nil)))))) (pss_cut (midP a ns K) (ps_if (pt_cmpR op_gt (pe_call GN hr7 rfl mN kN bN .nil pass0 (pa_cons (pv 4) pa_nil)) pe_int (nomark _)) (pss_one (ps_set (i := 4) scLaw.nd rfl (Or.inl rfl) (pe_tup (pa_cons pe_str (pa_cons (pe_tup (pa_cons pe_str (pa_cons pe_str pa_nil))) (pa_cons (pe_tup (pa_cons pe_str (pa_cons (pe_tup (pa_cons pe_str (pa_cons pe_str pa_nil))) pa_nil))) pa_nil)))))) pss_nil) (pss_one (ps_set (i := 3) scLaw.nd rfl (Or.inl rfl) (pe_tup (pa_cons (pe_ix ix_list (pe_lst (pa_cons pe_str (pa_cons pe_str pa_nil))) (pe_op op_mod (pe_op op_fdiv (pe_call GC hr1 rfl mC kC bC .nil pass0 (pa_cons (pv 0) (pa_cons pe_int pa_nil))) pe_int) pe_int) (fun _ _ => rfl)) (pa_cons pe_str (pa_cons (pv 4) pa_nil)))))))))) pss_nil) (pss_cons (ps_set (i := 5) scLaw.nd rfl (Or.inl rfl) (pe_callTy call_list_of rfl mli PyProof.Rows.boot_list (pa_cons (pv 2) pa_nil))) (pss_cons (ps_set (i := 6) scLaw.nd rfl (Or.inr rfl) (pe_call GP hr7 rfl mP kP bP .nil pass0 (pa_cons (pv 2) (pa_cons (pv 3) (pa_cons pe_dnewK pa_nil))))) (pss_cons (ps_set (i := 7) scLaw.nd rfl (Or.inl rfl) (pe_call GT hr rfl mT kT bT .nil pass0 (pa_cons (pv 2) (pa_cons (pv 3) pa_nil)))) (pss_cons (ps_if (PW.pt (pw_or (pt_not (pt_val (pe_call GQ hr1 rfl mQ kQ bQ .nil pass0 (pa_cons (pv 7) (pa_cons (pe_callB call_len_seq rfl ml PySem.boot_len (pa_cons (pv 2) pa_nil)) pa_nil))))) (pw_or1 (pt_cmpR (op_neL hu) (pv 2) (pv 5) (nomark _))))) (pss_one (ps_ret pe_bl)) pss_nil) (pss_one (ps_ret (pe_and (pe_cmpR (op_eqL hu) (pv 7) (pe_comp (N := ["at", "due"]) (capt := [none, some 6]) rfl (pi_range1 rfl mr (pa_cons (pe_callB call_len_seq rfl ml PySem.boot_len (pa_cons (pv 2) pa_nil)) pa_nil)) rfl (by repeat (first | exact .nil | refine .cons rfl ?_)) (by repeat (first | exact .nil | refine .skip (by decide) (by decide) ?_ | refine .free ⟨_, rfl⟩ ?_)) (.tgt (.var rfl (.inl rfl) ⟨_, rfl⟩ (.inl rfl) .nil)) (fun _ _ _ _ _ => pg_name (i := 0) ndAD rfl (Or.inl rfl)) (fun _ _ _ _ _ => pif_nil) (fun _ _ _ _ _ => (pe_cmpR (inK K) (pv 0) (pv 1) rfl))) (nomark _)) (pe_one (pe_cmpR (op_eqL hu) (pe_call GT hr rfl mT kT bT .nil pass0 (pa_cons (pv 2) (pa_cons (pv 3) pa_nil))) (pv 7) (nomark _)))))))))))))))), ?_⟩
  have lt3 : ∀ c : Bool, ∃ n : Nat, (3 : Int) + (if c = true then 1 else 0) = (n : Int) ∧ 0 < n ∧ n ≤ 6 := fun c => by cases c; exact ⟨3, rfl, by decide, by decide⟩; exact ⟨4, rfl, by decide, by decide⟩
  refine ⟨(by show 2 ≤ sizeLine; decide), fun p hp => ?_⟩
  have s1 := same_new hp (.lst [.int 1, .int 8])
  have p1 : (upd H p (.lst [V.int 1, V.int 8])) p = some (.lst [.int ((1 : Nat) : Int), .int ((8 : Nat) : Int)]) := upd_same
  generalize upd H p (.lst [V.int 1, V.int 8]) = H1 at s1 p1
  have hS1 := hS.same s1
  refine ⟨_, rfl, _, rfl, _, rfl, a, ns, 0, rfl, hS1, _, _, rfl, rfl, (by show (0 : Int) < 4; decide), rfl, .inr ⟨_, rfl, _, _, rfl, rfl, ?_⟩⟩
  obtain ⟨n3, en3, n30, n36⟩ := lt3 (decide (V.int (Mi.cell ns 0 % 4) = V.int 1))
  refine ⟨a, p, ns, 1, n3, _, congrArg (fun z => [V.ref a, V.ref p, V.int z]) en3, hS1, p1, n30, n36, fun l H2 k2 N W us x2 hl2 p2 hW N0 N6 hri => ?_⟩
  have nel : l ≠ p := fun z => by rw [z, p1] at hl2; cases hl2
  have hS2 := hS1.keep p1 x2
  refine ⟨⟨_, rfl, _, rfl, (by decide), fun b hb => ?_⟩, ?_⟩
  · have k3 := same_new hb (.lst [])
    exact ⟨a, p, b, ns, k2, 8, 4, [], rfl, hS2.same k3, k3 _ _ p2, upd_same, by decide, by decide, by decide, fun v H3 sy k' m' x3 p3 hsy hde hsi hok => ⟨p, l, v, _, k', m', N, W, us, sy, rfl, (hS2.same k3).keep (k3 _ _ p2) x3, p3, nel, WorldAt.keepX (hW.same k3) (k3 _ _ p2) nel x3, by omega, hri, hsy, hok, by omega⟩⟩
  -- a least or most round it
  rintro _ H3 ⟨p, l, v, z4, k, m, N, W, us, s, rfl, hS3, hp3, nel3, hW3, N6, hri, hs3, hok, hd⟩
  have keepM : ∀ H4, Same H3 H4 → midW a ns K [some (.ref a), some (.ref p), some (.ref l), some v, z4, none, none, none] H4 := fun H4 s4 => ⟨p, l, v, z4, k, m, N, W, us, s, rfl, hS3.same s4, s4 _ _ hp3, nel3, hW3.same s4, N6, hri, hs3.same s4, hok, hd⟩
  refine ⟨⟨_, rfl, a, ns, 0, rfl, hS3, _, _, rfl, rfl, ⟨by decide, by decide⟩, _, _, rfl, rfl, (by show (0 : Int) < 3; decide), rfl, _, rfl, ifeq2 (fun _ => ?_) (fun _ => iteF (keepM H3 (Same.refl _)))⟩, ?_⟩
  · refine ⟨_, rfl, v, s, rfl, hs3, hd, fun n H4 s4 => ⟨_, _, rfl, rfl, _, rfl, ite2 (fun _ => ?_) (fun _ => keepM H4 s4)⟩⟩
    refine ⟨_, rfl, _, rfl, (by show 1 ≤ sizeLine; decide), fun b hb => ?_⟩
    have k5 := s4.trans (same_new hb (.lst [V.str "X"]))
    refine ⟨a, p, b, ns, k, m, 3, ["X"], rfl, hS3.same k5, k5 _ _ hp3, upd_same, by decide, by decide, by decide, fun v4 H5 s5 k' m' x5 p5 hsy hde hsi hok5 => ?_⟩
    have hS5 := (hS3.same k5).keep (k5 _ _ hp3) x5
    have hW5 := WorldAt.keepX (hW3.same k5) (k5 _ _ hp3) nel3 x5
    have hs5 : SyAt H5 s v := (hs3.same k5).keep (k5 _ _ hp3) x5
    refine ⟨_, rfl, v4, s5, rfl, hsy, by omega, fun n H6 s6 => ⟨_, _, rfl, rfl, _, rfl, ite2 (fun _ => ?_) (fun _ => ⟨p, l, v, _, k', m', N, W, us, s, rfl, hS5.same s6, s6 _ _ p5, nel3, hW5.same s6, N6, hri, hs5.same s6, hok, hd⟩)⟩⟩
    refine ⟨(by show 2 ≤ sizeLine; decide), fun ll hll => ?_⟩
    have s7 := s6.trans (same_new hll (.lst [V.str "least", V.str "most"]))
    refine ⟨_, rfl, a, ns, 0, rfl, hS5.same s7, _, _, rfl, rfl, ⟨by decide, by decide⟩, _, _, rfl, rfl, (by show (0 : Int) < 2; decide), ll, _, _, _, rfl, rfl, SqL.of upd_same, pickK4 _, _, rfl, (by show 3 ≤ sizeLine; decide), fun t ht => ?_⟩
    have s8 := s7.trans (same_new ht (.tup [V.str (Sy.k4 (decide (Mi.cell ns 0 / 12 % 2 = 0))), V.str "X", v4]))
    exact ⟨p, l, _, _, k', m', N, W, us, .bn (decide (Mi.cell ns 0 / 12 % 2 = 0)) "X" s5, rfl, hS5.same s8, s8 _ _ p5, nel3, hW5.same s8, N6, hri, ⟨t, v4, rfl, upd_same, hsy.same s8⟩, ⟨by simp, by decide, hok5⟩, by simp [Sy.depth]; omega⟩
  -- too many within one another
  rintro _ H3 ⟨p, l, v, z4, k, m, N, W, us, s, rfl, hS3, hp3, nel3, hW3, N6, hri, hs3, hok, hd⟩
  have keepM : ∀ H4, Same H3 H4 → midW a ns K [some (.ref a), some (.ref p), some (.ref l), some v, z4, none, none, none] H4 := fun H4 s4 => ⟨p, l, v, z4, k, m, N, W, us, s, rfl, hS3.same s4, s4 _ _ hp3, nel3, hW3.same s4, N6, hri, hs3.same s4, hok, hd⟩
  refine ⟨⟨_, rfl, v, s, rfl, hs3, hd, fun n H4 s4 => ⟨_, _, rfl, rfl, _, rfl, ite2 (fun _ => ?_) (fun _ => keepM H4 s4)⟩⟩, ?_⟩
  · refine ⟨(by show 2 ≤ sizeLine; decide), fun t1 h1 => ⟨(by show 2 ≤ sizeLine; decide), fun t2 h2 => ⟨(by show 3 ≤ sizeLine; decide), fun t3 h3 => ⟨(by show 2 ≤ sizeLine; decide), fun t4 h4 => ?_⟩⟩⟩⟩
    have q1 := same_new h1 (.tup [V.str "name", V.str "Y"])
    have q2 := same_new h2 (.tup [V.str "every", V.ref t1])
    have q3 := same_new h3 (.tup [V.str "most", V.str "Y", V.ref t2])
    have q4 := same_new h4 (.tup [V.str "some", V.ref t3])
    have s8 := s4.trans (q1.trans (q2.trans (q3.trans q4)))
    exact ⟨p, l, _, _, k, m, N, W, us, .st true (.bn false "Y" (.st false (.nm "Y"))), rfl, hS3.same s8, s8 _ _ hp3, nel3, hW3.same s8, N6, hri, ⟨t4, _, rfl, upd_same, t3, _, rfl, q4 _ _ upd_same, t2, _, rfl, q4 _ _ (q3 _ _ upd_same), t1, rfl, q4 _ _ (q3 _ _ (q2 _ _ upd_same))⟩, ⟨by simp, by decide, by show ("Y" : Str) ∈ _; simp⟩, by decide⟩
  -- three within one another
  rintro _ H3 ⟨p, l, v, z4, k, m, N, W, us, s, rfl, hS3, hp3, nel3, hW3, N6, hri, hs3, hok, hd⟩
  have keepM : ∀ H4, Same H3 H4 → midW a ns K [some (.ref a), some (.ref p), some (.ref l), some v, z4, none, none, none] H4 := fun H4 s4 => ⟨p, l, v, z4, k, m, N, W, us, s, rfl, hS3.same s4, s4 _ _ hp3, nel3, hW3.same s4, N6, hri, hs3.same s4, hok, hd⟩
  refine ⟨⟨_, rfl, a, ns, 0, rfl, hS3, _, _, rfl, rfl, ⟨by decide, by decide⟩, _, _, rfl, rfl, (by show (0 : Int) < 8; decide), rfl, _, rfl, ifeq2 (fun _ => ?_) (fun _ => keepM H3 (Same.refl _))⟩, ?_⟩
  · refine ⟨_, rfl, _, rfl, a, p, ns, k, 2, _, rfl, hS3, hp3, by decide, by decide, fun l4 H4 k4 N4 W4 us4 x4 hl4 p4 hW4 N40 N46 hri4 => ?_⟩
    have nel4 : l4 ≠ p := fun z => by rw [z, hp3] at hl4; cases hl4
    have hS4 := hS3.keep hp3 x4
    refine ⟨_, rfl, p, _, 1, 1, rfl, rfl, p4, rfl, ?_⟩
    have x5 : SameX p H4 (upd H4 p (.lst ([V.int (k4 : Int), V.int (m : Int)].set 1 (V.int 6)))) := samex_upd
    have p5 : (upd H4 p (.lst ([V.int (k4 : Int), V.int (m : Int)].set 1 (V.int 6)))) p = some (.lst [V.int (k4 : Int), V.int ((6 : Nat) : Int)]) := upd_same
    generalize upd H4 p (.lst ([V.int (k4 : Int), V.int (m : Int)].set 1 (V.int 6))) = H5 at x5 p5
    have hS5 := hS4.keep p4 x5
    have hW5 := WorldAt.keepX hW4 p4 nel4 x5
    refine ⟨_, rfl, _, rfl, (by show 3 ≤ sizeLine; decide), fun b hb => ?_⟩
    have k6 := same_new hb (.lst [V.str "X", V.str "Y", V.str "Z"])
    refine ⟨a, p, b, ns, k4, 6, 3, ["X", "Y", "Z"], rfl, hS5.same k6, k6 _ _ p5, upd_same, by decide, by decide, by decide, fun v4 H7 s7 k' m' x7 p7 hsy hde hsi hok7 => ?_⟩
    have hS7 := (hS5.same k6).keep (k6 _ _ p5) x7
    have hW7 := WorldAt.keepX (hW5.same k6) (k6 _ _ p5) nel4 x7
    refine ⟨_, rfl, (by show 3 ≤ sizeLine; decide), fun t1 h1 => ⟨(by show 3 ≤ sizeLine; decide), fun t2 h2 => ⟨(by show 3 ≤ sizeLine; decide), fun t3 h3 => ?_⟩⟩⟩
    have q1 := same_new h1 (.tup [V.str "least", V.str "Z", v4])
    have q2 := same_new h2 (.tup [V.str "most", V.str "Y", V.ref t1])
    have q3 := same_new h3 (.tup [V.str "least", V.str "X", V.ref t2])
    have s8 := q1.trans (q2.trans q3)
    exact ⟨p, l4, _, _, k', m', N4, W4, us4, .bn true "X" (.bn false "Y" (.bn true "Z" s7)), rfl, hS7.same s8, s8 _ _ p7, nel4, hW7.same s8, by omega, hri4, ⟨t3, _, rfl, upd_same, t2, _, rfl, q3 _ _ upd_same, t1, _, rfl, q3 _ _ (q2 _ _ upd_same), hsy.same s8⟩, ⟨by simp, by decide, by decide, by decide, by decide, by decide, hok7⟩, by simp [Sy.depth]; omega⟩
  -- one alone, over a larger world
  rintro _ H3 ⟨p, l, v, z4, k, m, N, W, us, s, rfl, hS3, hp3, nel3, hW3, N6, hri, hs3, hok, hd⟩
  have keepM : ∀ H4, Same H3 H4 → midW a ns K [some (.ref a), some (.ref p), some (.ref l), some v, z4, none, none, none] H4 := fun H4 s4 => ⟨p, l, v, z4, k, m, N, W, us, s, rfl, hS3.same s4, s4 _ _ hp3, nel3, hW3.same s4, N6, hri, hs3.same s4, hok, hd⟩
  refine ⟨⟨_, rfl, a, ns, 0, rfl, hS3, _, _, rfl, rfl, ⟨by decide, by decide⟩, _, _, rfl, rfl, (by show (0 : Int) < 8; decide), rfl, _, rfl, ifeq2 (fun _ => ?_) (fun _ => keepM H3 (Same.refl _))⟩, ?_⟩
  · refine ⟨_, rfl, _, rfl, a, p, ns, k, 6, _, rfl, hS3, hp3, by decide, by decide, fun l4 H4 k4 N4 W4 us4 x4 hl4 p4 hW4 N40 N46 hri4 => ?_⟩
    have nel4 : l4 ≠ p := fun z => by rw [z, hp3] at hl4; cases hl4
    have hS4 := hS3.keep hp3 x4
    refine ⟨_, rfl, p, _, 1, 1, rfl, rfl, p4, rfl, ?_⟩
    have x5 : SameX p H4 (upd H4 p (.lst ([V.int (k4 : Int), V.int (m : Int)].set 1 (V.int 4)))) := samex_upd
    have p5 : (upd H4 p (.lst ([V.int (k4 : Int), V.int (m : Int)].set 1 (V.int 4)))) p = some (.lst [V.int (k4 : Int), V.int ((4 : Nat) : Int)]) := upd_same
    generalize upd H4 p (.lst ([V.int (k4 : Int), V.int (m : Int)].set 1 (V.int 4))) = H5 at x5 p5
    have hS5 := hS4.keep p4 x5
    have hW5 := WorldAt.keepX hW4 p4 nel4 x5
    refine ⟨_, rfl, _, rfl, (by show 1 ≤ sizeLine; decide), fun b hb => ?_⟩
    have k6 := same_new hb (.lst [V.str "X"])
    refine ⟨a, p, b, ns, k4, 4, 3, ["X"], rfl, hS5.same k6, k6 _ _ p5, upd_same, by decide, by decide, by decide, fun v4 H7 s7 k' m' x7 p7 hsy hde hsi hok7 => ?_⟩
    have hS7 := (hS5.same k6).keep (k6 _ _ p5) x7
    have hW7 := WorldAt.keepX (hW5.same k6) (k6 _ _ p5) nel4 x7
    refine ⟨⟨_, rfl, v4, s7, rfl, hsy, by omega, fun n H8 s8 => ⟨_, _, rfl, rfl, _, rfl, ite2 (fun _ => ?_) (fun _ => ⟨p, l4, v, v4, k', m', N4, W4, us4, s7, rfl, hS7.same s8, s8 _ _ p7, nel4, hW7.same s8, by omega, hri4, hsy.same s8, hok7, hde⟩)⟩⟩, ?_⟩
    · refine ⟨(by show 2 ≤ sizeLine; decide), fun t1 h1 => ⟨(by show 2 ≤ sizeLine; decide), fun t2 h2 => ⟨(by show 2 ≤ sizeLine; decide), fun t3 h3 => ⟨(by show 3 ≤ sizeLine; decide), fun t4 h4 => ?_⟩⟩⟩⟩
      have q1 := same_new h1 (.tup [V.str "mark", V.str "p"])
      have q2 := same_new h2 (.tup [V.str "name", V.str "X"])
      have q3 := same_new h3 (.tup [V.str "some", V.ref t2])
      have q4 := same_new h4 (.tup [V.str "either", V.ref t1, V.ref t3])
      have s9 := s8.trans (q1.trans (q2.trans (q3.trans q4)))
      exact ⟨p, l4, v, _, k', m', N4, W4, us4, .pr false (.mk true "p") (.st true (.nm "X")), rfl, hS7.same s9, s9 _ _ p7, nel4, hW7.same s9, by omega, hri4, ⟨t4, _, _, rfl, upd_same, ⟨t1, rfl, q4 _ _ (q3 _ _ (q2 _ _ upd_same))⟩, t3, _, rfl, q4 _ _ upd_same, t2, rfl, q4 _ _ (q3 _ _ upd_same)⟩, ⟨by show ("p" : Str) ∈ Sy.marks; decide, by show ("X" : Str) ∈ _; simp⟩, by decide⟩
    rintro _ H8 ⟨p, l, v, v4, k, m, N, W, us, s, rfl, hS8, hp8, nel8, hW8, N8, hri8, hs8, hok8, hd8⟩
    refine ⟨(by show 2 ≤ sizeLine; decide), fun ll hll => ?_⟩
    have s7 := same_new hll (.lst [V.str "least", V.str "most"])
    refine ⟨_, rfl, a, ns, 0, rfl, hS8.same s7, _, _, rfl, rfl, ⟨by decide, by decide⟩, _, _, rfl, rfl, (by show (0 : Int) < 2; decide), ll, _, _, _, rfl, rfl, SqL.of upd_same, pickK4 _, _, rfl, (by show 3 ≤ sizeLine; decide), fun t ht => ?_⟩
    have s9 := s7.trans (same_new ht (.tup [V.str (Sy.k4 (decide (Mi.cell ns 0 / 192 % 2 = 0))), V.str "X", v4]))
    exact ⟨p, l, _, _, k, m, N, W, us, .bn (decide (Mi.cell ns 0 / 192 % 2 = 0)) "X" s, rfl, hS8.same s9, s9 _ _ hp8, nel8, hW8.same s9, N8, hri8, ⟨t, v4, rfl, upd_same, hs8.same s9⟩, ⟨by simp, by decide, hok8⟩, by simp [Sy.depth]; omega⟩
  rintro _ H3 ⟨p, l, v, z4, k, m, N, W, us, s, rfl, hS3, hp3, nel3, hW3, N6, hri, hs3, hok, hd⟩
  have wl : us.length = N := hW3.len
  refine ⟨_, rfl, l, _, rfl, .inl (SqL.of hW3.lst), fun kp hkp => ?_⟩
  have s4 := same_new hkp (.lst us)
  have kp4 : (upd H3 kp (.lst us)) kp = some (.lst us) := upd_same
  generalize upd H3 kp (.lst us) = H4 at s4 kp4
  refine ⟨_, rfl, _, rfl, fun d0 hd0 => ?_⟩
  have k5 := same_new hd0 (.dK [])
  have s5 := s4.trans k5
  refine ⟨N, l, d0, W, us, v, s, [], (fun _ _ => false), rfl, hW3.same s5, hs3.same s5, ⟨[], upd_same, Nat.le_refl _, fun x hx => by (cases hx)⟩, hok, hd, by decide, N6, hri, fun du H6 s6 h6 => ?_⟩
  have s6' := s5.trans s6
  refine ⟨_, rfl, _, rfl, N, l, W, us, v, s, (fun _ _ => false), rfl, hW3.same s6', hs3.same s6', hok, hd, by omega, hri, fun fo H7 s7 _ h7 => ?_⟩
  have s7' := s6'.trans s7
  generalize hT : Se.hold W s (fun _ _ => false) = T at h6 h7
  have e1 : (List.ofFn T).length = us.length := by simp [wl]
  refine ⟨_, rfl, _, rfl, l, _, rfl, .inl (SqL.of (hW3.same s7').lst), fo, List.ofFn T, (by rw [e1]; rfl), h7, by omega, fun H8 s8 => ⟨_, rfl, iteF ?_⟩⟩
  have s8' := s7'.trans s8
  have hW8 := hW3.same s8'
  refine ⟨_, rfl, _, rfl, worldT W, worldT W, ?_, ?_, world_deep W, _, rfl, ?_⟩
  · simp only [Rep]
    exact ⟨l, us, rfl, SqL.of hW8.lst, world_rep hW8⟩
  · simp only [Rep]
    exact ⟨kp, us, rfl, SqL.of ((k5.trans (s6.trans (s7.trans s8))) _ _ kp4), world_rep hW8⟩
  rw [eqTs_refl]
  refine iteF ?_
  have trR : ∀ (H' : Hp) (c : Addr), H' c = some (.lst (tr T)) → Rep K H' (.lst (trT T)) (.ref c) := fun H' c hc => by
    simp only [Rep]
    exact ⟨c, _, rfl, SqL.of hc, Reps.bls _⟩
  refine ⟨_, rfl, _, rfl, l, _, rfl, .inl (SqL.of hW8.lst), us.length, rfl, by omega, by omega, ?_⟩
  have du8 := (s7.trans s8) _ _ h6
  refine comp_range (lo := 0) (n := Int.toNat (us.length : Int)) (fun C i ys H9 => Same H8 H9 ∧ H8 C = none ∧ H9 C = some (.lst ys) ∧ ys = (tr T).take i) ?_ ?_ ?_ ?_
  · exact fun C hC => ⟨same_new hC _, hC, upd_same, by simp⟩
  · rintro C i ys H9 hi ⟨sm, hC, h9, ey⟩
    refine ⟨h9, fun _ => ?_⟩
    rw [ey, List.length_take, tr_len]
    exact small1000 (by omega)
  · rintro C i ys H9 hi ⟨sm, hC, h9, ey⟩
    have hiN : i < N := by omega
    refine ⟨⟨rfl, trivial⟩, _, rfl, _, rfl, du, _, rfl, .inl (SqL.of (sm _ _ du8)), rfl, natsV_flat _, h9, fun c o ec => ?_, hC, upd_same, ?_⟩
    · rw [upd_ne (ne_of_none ec hC)]
      exact sm c o ec
    · rw [ey, tr_take _ i hiN]
      rw [show (if false = true then !inV (.int (0 + (i : Int))) (natsV (pos T)) else inV (.int (0 + (i : Int))) (natsV (pos T))) = T ⟨i, hiN⟩ by rw [show (0 : Int) + (i : Int) = (i : Int) by omega]; exact (inN _ _).trans (decide_pos T ⟨i, hiN⟩)]
  · rintro C ys H9 ⟨sm, hC, h9, ey⟩
    rw [show Int.toNat (us.length : Int) = N by omega, take_all (tr_len T)] at ey
    subst ey
    refine ⟨_, _, trR _ _ ((s8.trans sm) _ _ h7), trR _ _ h9, by unfold trT; rw [deeps_bl]; decide, _, rfl, ?_⟩
    rw [eqTs_refl]
    have s9' := s8'.trans sm
    refine iteT ⟨_, rfl, _, rfl, N, l, W, us, v, s, (fun _ _ => false), rfl, hW3.same s9', hs3.same s9', hok, hd, by omega, hri, fun fo2 H10 s10 _ h10 => ?_⟩
    rw [hT] at h10
    refine ⟨_, rfl, _, _, trR _ _ h10, trR _ _ (s10 _ _ ((s8.trans sm) _ _ h7)), by unfold trT; rw [deeps_bl]; decide, ?_⟩
    rw [eqTs_refl]
    exact q H10
end
end Law

set_option maxRecDepth 100000
namespace Law
open PySem L2
theorem make {P : Program} {w : World} {K : PySem.W.Frag} {mg : Str → Option Value} {base : Heap} {f0 f1 f2 f3 f4 f5 f6 f7 f8 f9 f10 f11 f12 f13 f14 f15 : Addr} {d0 d1 d2 d3 d4 d5 d6 d7 d8 d9 d10 d11 d12 d13 d14 d15 : FuncData} {aB : Addr}
    (aTR : At K mg "true_at" sTrueAt ["world", "saying"] f0 d0) (aHO : At K mg "holding" sHolding ["world", "saying", "named"] f1 d1) (aLE : At K mg "led_on" sLedOn ["kind", "found"] f2 d2) (aBY : At K mg "holds_by_itself" sByItself ["saying", "marks"] f3 d3) (aCL : At K mg "closed" sClosed ["world", "saying", "named"] f4 d4) (aCE : At K mg "_law_cell_at" sCell ["script", "k"] f5 d5) (aNE : At K mg "_law_next" sNext ["script", "spot"] f6 d6) (aLF : At K mg "_law_leaf" sLeaf ["cell", "bound"] f7 d7) (aSA : At K mg "_law_saying" sSay ["script", "spot", "deep", "bound"] f8 d8) (aWO : At K mg "_law_world" sWorld ["script", "spot", "most"] f9 d9) (aSE : At K mg "_law_sets" sSets ["many"] f10 d10) (aLD : At K mg "_law_led" sLed ["world", "there", "kind"] f11 d11) (aPL : At K mg "_law_places" sPlaces ["world", "saying", "bound"] f12 d12) (aTU : At K mg "_law_truths" sTruths ["found", "many"] f13 d13) (aNS : At K mg "_law_nested" sNested ["saying"] f14 d14) (aLW : At K mg "law" sLaw ["script"] f15 d15)
    (ml : mg "len" = none) (mr : mg "range" = none) (mt : mg "tuple" = none) (mi : mg "isinstance" = none) (mb : mg "bool" = none) (mint : mg "int" = none) (mli : mg "list" = none) (mz : mg "zip" = none) (md : mg "dict" = none) (man : mg "any" = none) (mal : mg "all" = none) (mm : mg "max" = none)
    (mB : mg "BINDERS" = some (.ref aB)) (kB : ∀ H, SqT K H aB ((["least", "most"] : List Str).map V.str)) : FnOk P w K mg base CX0 16 f15 d15 ["script"] (spLaw K) := by
  have GLE := ok_ledon (P := P) (w := w) (mg := mg) (base := base) aLE.fn man mal
  have GBY := ok_byitself (P := P) (w := w) (mg := mg) (base := base) aBY.fn 
  have GHO := ok_holds (P := P) (w := w) (mg := mg) (base := base) aHO.fn aHO.bd aHO.kp aHO.gl aCL.fn aCL.bd aCL.kp aCL.gl GLE aLE.bd aLE.kp aLE.gl GBY aBY.bd aBY.kp aBY.gl mB kB mli mz md 6
  have GTR := ok_true (P := P) (w := w) (mg := mg) (base := base) aTR.fn (by decide) GHO aHO.bd aHO.kp aHO.gl
  have GCE := ok_cell (P := P) (w := w) (mg := mg) (base := base) aCE.fn ml
  have GNE := ok_next (P := P) (w := w) (mg := mg) (base := base) aNE.fn GCE aCE.bd aCE.kp aCE.gl
  have GLF := ok_leaf (P := P) (w := w) (mg := mg) (base := base) aLF.fn ml
  have GSA := ok_say (P := P) (w := w) (mg := mg) (base := base) aSA.fn GNE aNE.bd aNE.kp aNE.gl GLF aLF.bd aLF.kp aLF.gl aSA.bd aSA.kp aSA.gl ml 4
  have GWO := ok_world (P := P) (w := w) (mg := mg) (base := base) aWO.fn GNE aNE.bd aNE.kp aNE.gl mr mt
  have GSE := ok_sets (P := P) (w := w) (mg := mg) (base := base) aSE.fn mr
  have GLD := ok_led (P := P) (w := w) (mg := mg) (base := base) aLD.fn mr ml man mal
  have GPL := ok_places (P := P) (w := w) (mg := mg) (base := base) aPL.fn GLD aLD.bd aLD.kp aLD.gl GSE aSE.bd aSE.kp aSE.gl aPL.bd aPL.kp aPL.gl ml mr md man mal 6
  have GTU := ok_truths (P := P) (w := w) (mg := mg) (base := base) aTU.fn mi mli mb ml mal
  have GNS := ok_nested (P := P) (w := w) (mg := mg) (base := base) aNS.fn aNS.bd aNS.kp aNS.gl mm mi mt mint 6
  exact ok_law aLW.fn GCE aCE.bd aCE.kp aCE.gl GSA aSA.bd aSA.kp aSA.gl GWO aWO.bd aWO.kp aWO.gl GNS aNS.bd aNS.kp aNS.gl GPL aPL.bd aPL.kp aPL.gl GTR aTR.bd aTR.kp aTR.gl GTU aTU.bd aTU.kp aTU.gl ml mr mli mint
end Law
namespace Law
open PySem L2
theorem all_mk {l : PySem.W.OpenLaw} {w : World} {K : PySem.W.Frag} {mg : Str → Option Value} {fa : Addr} (hfa : mg "law" = some (.ref fa)) (D0 : ∃ f fd, At K mg "true_at" sTrueAt ["world", "saying"] f fd) (D1 : ∃ f fd, At K mg "holding" sHolding ["world", "saying", "named"] f fd) (D2 : ∃ f fd, At K mg "led_on" sLedOn ["kind", "found"] f fd) (D3 : ∃ f fd, At K mg "holds_by_itself" sByItself ["saying", "marks"] f fd) (D4 : ∃ f fd, At K mg "closed" sClosed ["world", "saying", "named"] f fd) (D5 : ∃ f fd, At K mg "_law_cell_at" sCell ["script", "k"] f fd) (D6 : ∃ f fd, At K mg "_law_next" sNext ["script", "spot"] f fd) (D7 : ∃ f fd, At K mg "_law_leaf" sLeaf ["cell", "bound"] f fd) (D8 : ∃ f fd, At K mg "_law_saying" sSay ["script", "spot", "deep", "bound"] f fd) (D9 : ∃ f fd, At K mg "_law_world" sWorld ["script", "spot", "most"] f fd) (D10 : ∃ f fd, At K mg "_law_sets" sSets ["many"] f fd) (D11 : ∃ f fd, At K mg "_law_led" sLed ["world", "there", "kind"] f fd) (D12 : ∃ f fd, At K mg "_law_places" sPlaces ["world", "saying", "bound"] f fd) (D13 : ∃ f fd, At K mg "_law_truths" sTruths ["found", "many"] f fd) (D14 : ∃ f fd, At K mg "_law_nested" sNested ["saying"] f fd) (D15 : ∃ f fd, At K mg "law" sLaw ["script"] f fd) (z0 : mg "len" = none) (z1 : mg "range" = none) (z2 : mg "tuple" = none) (z3 : mg "isinstance" = none) (z4 : mg "bool" = none) (z5 : mg "int" = none) (z6 : mg "list" = none) (z7 : mg "zip" = none) (z8 : mg "dict" = none) (z9 : mg "any" = none) (z10 : mg "all" = none) (z11 : mg "max" = none) (C0 : ∃ a, mg "BINDERS" = some (.ref a) ∧ ∀ H, SqT K H a ((["least", "most"] : List Str).map V.str)) :
    ∃ fd : FuncData, (∀ (s : Shared) (v : Value), BindsTo s fd ⟨[v], []⟩ [("script", v)]) ∧ ∀ base : Heap, K.In base → base.Ns mainGlobals mg → FnOk l.prog w K mg base CX0 16 fa fd ["script"] (spLaw K) := by
  obtain ⟨f0, d0, a0⟩ := D0
  obtain ⟨f1, d1, a1⟩ := D1
  obtain ⟨f2, d2, a2⟩ := D2
  obtain ⟨f3, d3, a3⟩ := D3
  obtain ⟨f4, d4, a4⟩ := D4
  obtain ⟨f5, d5, a5⟩ := D5
  obtain ⟨f6, d6, a6⟩ := D6
  obtain ⟨f7, d7, a7⟩ := D7
  obtain ⟨f8, d8, a8⟩ := D8
  obtain ⟨f9, d9, a9⟩ := D9
  obtain ⟨f10, d10, a10⟩ := D10
  obtain ⟨f11, d11, a11⟩ := D11
  obtain ⟨f12, d12, a12⟩ := D12
  obtain ⟨f13, d13, a13⟩ := D13
  obtain ⟨f14, d14, a14⟩ := D14
  obtain ⟨f15, d15, a15⟩ := D15
  obtain ⟨ca0, mc0, kc0⟩ := C0
  have e := hfa.symm.trans a15.gl
  cases e
  refine ⟨d15, fun s v => a15.bt s [v] rfl, fun base _ _ => ?_⟩
  exact make a0 a1 a2 a3 a4 a5 a6 a7 a8 a9 a10 a11 a12 a13 a14 a15 z0 z1 z2 z3 z4 z5 z6 z7 z8 z9 z10 z11 mc0 kc0
theorem walk {l : PySem.W.OpenLaw} {q : Program} {loose : List Str} {XP : (Str → Option Value) → Heap → Prop} {YP : World → Heap → Prop} {d : DefRec} {K : Params → PySem.W.Frag} (hn : l.most = some 63) (hdf : d.params.defaults = [])
    (hY : ∀ (w : World) (h : Heap), YP w h → (K w.params).In h)
    (F : ∀ (w : World) (mg : Str → Option Value) (fa : Addr) (h : Heap), (K w.params).In h → h.Ns mainGlobals mg → mg d.name = some (.ref fa) →
      ∃ fd : FuncData, (∀ (s : Shared) (u : Value), BindsTo s fd ⟨[u], []⟩ [("script", u)]) ∧ ∀ base : Heap, (K w.params).In base → base.Ns mainGlobals mg → FnOk l.prog w (K w.params) mg base CX0 16 fa fd ["script"] (spLaw (K w.params))) :
    PySem.W.WalkO q loose XP YP l.row.toRowW d [] (fun f vs => PySem.call f vs) :=
  L2.walk_of (n := 63) (k := 16) (x := "script") (CX := fun _ => CX0) (sp := fun w => spLaw (K w.params)) hn (by decide) hdf ⟨rfl, by decide, by decide⟩ hY F (fun _ _ a ns hl hO hS => ⟨a, ns, rfl, Scr.of hS hO, hl, fun _ => rfl⟩) fun _ _ _ _ _ z => z
end Law
open PySem PySem.W PyProof.Rows
set_option maxRecDepth 100000 in
set_option maxHeartbeats 0 in
theorem PySem.Challenge.cw_everduel_k17_whole_least_and_most_holds : PySem.Challenge.rw_everduel_k17_whole_least_and_most.Holds := by
  w_on; o_law; k_head; (case hw => w_witness2)
  k_fill
  refine Law.walk (l := PySem.Challenge.rw_everduel_k17_whole_least_and_most) rfl rfl (fun w h Y => PySem.W.kIn_of Y) ?F
  case F =>
    intro w mg fa h KX G hmg
    have D0 : ∃ f fd, L2.At (L2.KOf KX) mg "true_at" Law.sTrueAt ["world", "saying"] f fd := by
      dsimp only [L2.KOf]
      refine' L2.at_mk KX G (fun _ _ _ _ _ _ us hl => match us, hl with | [_, _], _ => rfl) ?a ?l ?c ?k
      (case a => k_is); (case l => k_is); (case c => k_is); (case k => k_is)
    have D1 : ∃ f fd, L2.At (L2.KOf KX) mg "holding" Law.sHolding ["world", "saying", "named"] f fd := by
      dsimp only [L2.KOf]
      refine' L2.at_mk KX G (fun _ _ _ _ _ _ us hl => match us, hl with | [_, _, _], _ => rfl) ?a ?l ?c ?k
      (case a => k_is); (case l => k_is); (case c => k_is); (case k => k_is)
    have D2 : ∃ f fd, L2.At (L2.KOf KX) mg "led_on" Law.sLedOn ["kind", "found"] f fd := by
      dsimp only [L2.KOf]
      refine' L2.at_mk KX G (fun _ _ _ _ _ _ us hl => match us, hl with | [_, _], _ => rfl) ?a ?l ?c ?k
      (case a => k_is); (case l => k_is); (case c => k_is); (case k => k_is)
    have D3 : ∃ f fd, L2.At (L2.KOf KX) mg "holds_by_itself" Law.sByItself ["saying", "marks"] f fd := by
      dsimp only [L2.KOf]
      refine' L2.at_mk KX G (fun _ _ _ _ _ _ us hl => match us, hl with | [_, _], _ => rfl) ?a ?l ?c ?k
      (case a => k_is); (case l => k_is); (case c => k_is); (case k => k_is)
    have D4 : ∃ f fd, L2.At (L2.KOf KX) mg "closed" Law.sClosed ["world", "saying", "named"] f fd := by
      dsimp only [L2.KOf]
      refine' L2.at_mk KX G (fun _ _ _ _ _ _ us hl => match us, hl with | [_, _, _], _ => rfl) ?a ?l ?c ?k
      (case a => k_is); (case l => k_is); (case c => k_is); (case k => k_is)
    have D5 : ∃ f fd, L2.At (L2.KOf KX) mg "_law_cell_at" Law.sCell ["script", "k"] f fd := by
      dsimp only [L2.KOf]
      refine' L2.at_mk KX G (fun _ _ _ _ _ _ us hl => match us, hl with | [_, _], _ => rfl) ?a ?l ?c ?k
      (case a => k_is); (case l => k_is); (case c => k_is); (case k => k_is)
    have D6 : ∃ f fd, L2.At (L2.KOf KX) mg "_law_next" Law.sNext ["script", "spot"] f fd := by
      dsimp only [L2.KOf]
      refine' L2.at_mk KX G (fun _ _ _ _ _ _ us hl => match us, hl with | [_, _], _ => rfl) ?a ?l ?c ?k
      (case a => k_is); (case l => k_is); (case c => k_is); (case k => k_is)
    have D7 : ∃ f fd, L2.At (L2.KOf KX) mg "_law_leaf" Law.sLeaf ["cell", "bound"] f fd := by
      dsimp only [L2.KOf]
      refine' L2.at_mk KX G (fun _ _ _ _ _ _ us hl => match us, hl with | [_, _], _ => rfl) ?a ?l ?c ?k
      (case a => k_is); (case l => k_is); (case c => k_is); (case k => k_is)
    have D8 : ∃ f fd, L2.At (L2.KOf KX) mg "_law_saying" Law.sSay ["script", "spot", "deep", "bound"] f fd := by
      dsimp only [L2.KOf]
      refine' L2.at_mk KX G (fun _ _ _ _ _ _ us hl => match us, hl with | [_, _, _, _], _ => rfl) ?a ?l ?c ?k
      (case a => k_is); (case l => k_is); (case c => k_is); (case k => k_is)
    have D9 : ∃ f fd, L2.At (L2.KOf KX) mg "_law_world" Law.sWorld ["script", "spot", "most"] f fd := by
      dsimp only [L2.KOf]
      refine' L2.at_mk KX G (fun _ _ _ _ _ _ us hl => match us, hl with | [_, _, _], _ => rfl) ?a ?l ?c ?k
      (case a => k_is); (case l => k_is); (case c => k_is); (case k => k_is)
    have D10 : ∃ f fd, L2.At (L2.KOf KX) mg "_law_sets" Law.sSets ["many"] f fd := by
      dsimp only [L2.KOf]
      refine' L2.at_mk KX G (fun _ _ _ _ _ _ us hl => match us, hl with | [_], _ => rfl) ?a ?l ?c ?k
      (case a => k_is); (case l => k_is); (case c => k_is); (case k => k_is)
    have D11 : ∃ f fd, L2.At (L2.KOf KX) mg "_law_led" Law.sLed ["world", "there", "kind"] f fd := by
      dsimp only [L2.KOf]
      refine' L2.at_mk KX G (fun _ _ _ _ _ _ us hl => match us, hl with | [_, _, _], _ => rfl) ?a ?l ?c ?k
      (case a => k_is); (case l => k_is); (case c => k_is); (case k => k_is)
    have D12 : ∃ f fd, L2.At (L2.KOf KX) mg "_law_places" Law.sPlaces ["world", "saying", "bound"] f fd := by
      dsimp only [L2.KOf]
      refine' L2.at_mk KX G (fun _ _ _ _ _ _ us hl => match us, hl with | [_, _, _], _ => rfl) ?a ?l ?c ?k
      (case a => k_is); (case l => k_is); (case c => k_is); (case k => k_is)
    have D13 : ∃ f fd, L2.At (L2.KOf KX) mg "_law_truths" Law.sTruths ["found", "many"] f fd := by
      dsimp only [L2.KOf]
      refine' L2.at_mk KX G (fun _ _ _ _ _ _ us hl => match us, hl with | [_, _], _ => rfl) ?a ?l ?c ?k
      (case a => k_is); (case l => k_is); (case c => k_is); (case k => k_is)
    have D14 : ∃ f fd, L2.At (L2.KOf KX) mg "_law_nested" Law.sNested ["saying"] f fd := by
      dsimp only [L2.KOf]
      refine' L2.at_mk KX G (fun _ _ _ _ _ _ us hl => match us, hl with | [_], _ => rfl) ?a ?l ?c ?k
      (case a => k_is); (case l => k_is); (case c => k_is); (case k => k_is)
    have D15 : ∃ f fd, L2.At (L2.KOf KX) mg "law" Law.sLaw ["script"] f fd := by
      dsimp only [L2.KOf]
      refine' L2.at_mk KX G (fun _ _ _ _ _ _ us hl => match us, hl with | [_], _ => rfl) ?a ?l ?c ?k
      (case a => k_is); (case l => k_is); (case c => k_is); (case k => k_is)
    have z0 : mg "len" = none := by
      refine' PySem.W.mg_none_of KX G ?z
      (case z => k_is)
    have z1 : mg "range" = none := by
      refine' PySem.W.mg_none_of KX G ?z
      (case z => k_is)
    have z2 : mg "tuple" = none := by
      refine' PySem.W.mg_none_of KX G ?z
      (case z => k_is)
    have z3 : mg "isinstance" = none := by
      refine' PySem.W.mg_none_of KX G ?z
      (case z => k_is)
    have z4 : mg "bool" = none := by
      refine' PySem.W.mg_none_of KX G ?z
      (case z => k_is)
    have z5 : mg "int" = none := by
      refine' PySem.W.mg_none_of KX G ?z
      (case z => k_is)
    have z6 : mg "list" = none := by
      refine' PySem.W.mg_none_of KX G ?z
      (case z => k_is)
    have z7 : mg "zip" = none := by
      refine' PySem.W.mg_none_of KX G ?z
      (case z => k_is)
    have z8 : mg "dict" = none := by
      refine' PySem.W.mg_none_of KX G ?z
      (case z => k_is)
    have z9 : mg "any" = none := by
      refine' PySem.W.mg_none_of KX G ?z
      (case z => k_is)
    have z10 : mg "all" = none := by
      refine' PySem.W.mg_none_of KX G ?z
      (case z => k_is)
    have z11 : mg "max" = none := by
      refine' PySem.W.mg_none_of KX G ?z
      (case z => k_is)
    have C0 : ∃ a, mg "BINDERS" = some (.ref a) ∧ ∀ H, L2.SqT (L2.KOf KX) H a ((["least", "most"] : List Str).map L2.V.str) := by
      dsimp only [L2.KOf]
      refine' L2.ct_mk KX G ?n ?l ?c ?d ?s ?v
      (case n => k_is); (case l => k_is); (case c => rfl); (case d => rfl); (case s => decide); (case v => rfl)
    exact Law.all_mk hmg D0 D1 D2 D3 D4 D5 D6 D7 D8 D9 D10 D11 D12 D13 D14 D15 z0 z1 z2 z3 z4 z5 z6 z7 z8 z9 z10 z11 C0
