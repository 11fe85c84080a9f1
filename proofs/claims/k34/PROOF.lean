import PyProof.Rows.All
import Wide.All
import OpenK.AllK
import Wide.FinOn
import Lean
import PyProof.EqAt
import PyProof.EqKinds
import PyProof.TupleCall
import PyProof.WalksEnum
import PyProof.EnumMake
import PyProof.ZipIter
import PyProof.ReprStr
import PyProof.StrBlockG
import PyProof.StrWalks
import PyProof.FString5
import PyProof.ConsumeWalk
import PyProof.SumAny
import PyProof.StrCalls2
import KE.KDictList
import PyProof.Draws
import PyProof.StrBlock2
import PyProof.DictIter
import PyProof.ExcInit
import PyProof.ExcClass3
import PyProof.FString
import PyProof.FitsInt
import PyProof.StrLawsRepr
import PyProof.Rows.Range3
import PyProof.StrCalls
import PySem.Challenge.RW_strokegrow_k34_deeds_refused
set_option Elab.async false
set_option linter.all false
set_option maxRecDepth 100000
/-! THE HAND LAYER, for ints, bools, texts, own classes, LISTS and tuples (index, slices, in, append, pop ..), calls, loops. Paste it whole ahead of your own text; what your proof does not reach may be deleted. -/
namespace L2
open PySem PySem.Spec PyProof.Rows

/-- a key: an int or a str -/
abbrev Key := Sum Int Str
def keyIs : Key → Value → Bool
  | .inl k, v => Value.isInt k v
  | .inr x, v => Value.isStrOf x v
def keyH (w : World) : Key → Int
  | .inl k => hashInt k
  | .inr x => hashStr w x
theorem keyIs_shape : ∀ {k : Key} {v : Value}, keyIs k v = true → (∃ i t, k = Sum.inl i ∧ v = Value.int i t) ∨ (∃ x t, k = Sum.inr x ∧ v = Value.str x t)
  | .inl i, v, h => by
    obtain ⟨t, e⟩ := Value.isInt_shape (k := i) (v := v) h
    exact .inl ⟨i, t, rfl, e⟩
  | .inr x, v, h => by
    obtain ⟨t, e⟩ := Value.isStrOf_shape (x := x) (v := v) h
    exact .inr ⟨x, t, rfl, e⟩
theorem key_ll (a b : Int) : decide ((Sum.inl a : Key) = Sum.inl b) = (a == b) := by
  by_cases e : a = b
  · subst e; simp
  · have h : ¬ (Sum.inl a : Key) = Sum.inl b := fun q => e (Sum.inl.inj q)
    rw [decide_eq_false h]
    exact (beq_eq_false_iff_ne.mpr e).symm
theorem key_rr (a b : Str) : decide ((Sum.inr a : Key) = Sum.inr b) = decide (a = b) := by
  by_cases e : a = b
  · subst e; simp
  · have h : ¬ (Sum.inr a : Key) = Sum.inr b := fun q => e (Sum.inr.inj q)
    rw [decide_eq_false h, decide_eq_false e]
theorem key_lr (a : Int) (b : Str) : decide ((Sum.inl a : Key) = Sum.inr b) = false := decide_eq_false (fun q => nomatch q)
theorem key_rl (a : Str) (b : Int) : decide ((Sum.inr a : Key) = Sum.inl b) = false := decide_eq_false (fun q => nomatch q)

def mixKind (prog : Program) (w : World) : PySem.KeyKind prog w Key where
  is := keyIs
  hash := keyH w
  inj := fun v a b ha hb => by
    rcases keyIs_shape ha with ⟨i, t, rfl, rfl⟩ | ⟨x, t, rfl, rfl⟩
    · rcases keyIs_shape hb with ⟨j, u, rfl, e⟩ | ⟨y, u, rfl, e⟩
      · injection e with e1 _; rw [e1]
      · exact nomatch e
    · rcases keyIs_shape hb with ⟨j, u, rfl, e⟩ | ⟨y, u, rfl, e⟩
      · exact nomatch e
      · injection e with e1 _; rw [e1]
  byValue := fun k v h => by
    rcases keyIs_shape h with ⟨i, t, rfl, rfl⟩ | ⟨x, t, rfl, rfl⟩ <;> rfl
  pyHash := fun hv h => by
    rcases keyIs_shape hv with ⟨i, t, rfl, rfl⟩ | ⟨x, t, rfl, rfl⟩
    · exact wpAny_pyHash_int h
    · exact wpAny_pyHash_str h
  eqBool := fun hu hv h => by
    rcases keyIs_shape hu with ⟨i, t, rfl, rfl⟩ | ⟨x, t, rfl, rfl⟩
    · rcases keyIs_shape hv with ⟨j, u, rfl, rfl⟩ | ⟨y, u, rfl, rfl⟩
      · rw [key_ll] at h; exact wpAny_eqBool_int h
      · rw [key_lr] at h; exact SeqAt.EqAt.int_str i t y u _ _ _ _ h
    · rcases keyIs_shape hv with ⟨j, u, rfl, rfl⟩ | ⟨y, u, rfl, rfl⟩
      · rw [key_rl] at h; exact SeqAt.EqAt.str_int x t j u _ _ _ _ h
      · rw [key_rr] at h; exact wpAny_eqBool_str h
  «strs» := fun k x t v h => by
    rcases keyIs_shape h with ⟨i, u, rfl, e⟩ | ⟨y, u, rfl, e⟩
    · exact nomatch e
    · injection e with e1 _
      subst e1
      cases v <;> rfl

end L2

namespace L2
open PySem PySem.Spec PyProof.Rows

/-- a value, without the heap -/
inductive V where
  | non | bl (b : Bool) | int (i : Int) | str (x : Str) | byt (b : Array UInt8) | flt (b : UInt64) | ref (a : Addr) | ty (n : String)
  deriving DecidableEq

def RelV : V → Value → Prop
  | .non, u => u = Value.none
  | .bl b, u => u = Value.bool b
  | .int i, u => ∃ t, u = Value.int i t
  | .str x, u => ∃ t, u = Value.str x t
  | .byt b, u => ∃ t, u = Value.bytes b t
  | .flt b, u => ∃ t, u = Value.float b t
  | .ref a, u => u = Value.ref a
  | .ty n, u => u = Value.type n

abbrev Vals : List V → List Value → Prop := Paired RelV
theorem Vals.length {xs : List V} {us : List Value} (r : Vals xs us) : xs.length = us.length := Paired.length r
theorem Vals.get : ∀ {xs : List V} {us : List Value} {i : Nat} {x : V}, Vals xs us → xs[i]? = some x → ∃ u, us[i]? = some u ∧ RelV x u
  | _, _, _, _, .nil, e => by simp at e
  | _, _, 0, _, .cons r _, e => by simp at e; subst e; exact ⟨_, rfl, r⟩
  | _, _, i + 1, x, .cons _ t, e => by
    obtain ⟨u, h1, h2⟩ := Vals.get (i := i) (x := x) t (by simpa using e)
    exact ⟨u, by simpa using h1, h2⟩
theorem Vals.set {x : V} {u : Value} (r : RelV x u) : ∀ {xs : List V} {us : List Value} (i : Nat), Vals xs us → Vals (xs.set i x) (us.set i u)
  | _, _, _, .nil => .nil
  | _, _, 0, .cons _ t => .cons r t
  | _, _, i + 1, .cons q t => .cons q (Vals.set r i t)
theorem Vals.append : ∀ {xs ys : List V} {us ws : List Value}, Vals xs us → Vals ys ws → Vals (xs ++ ys) (us ++ ws)
  | _, _, _, _, .nil, s => s
  | _, _, _, _, .cons r t, s => .cons r (Vals.append t s)
def RelO : Option V → Option Value → Prop
  | some v, some u => RelV v u
  | none, none => True
  | _, _ => False
def KV {κ : Type} : List (κ × V) → List (κ × Value) → Prop := Paired fun (p : κ × V) (q : κ × Value) => p.1 = q.1 ∧ RelV p.2 q.2

/-- a key of a dict (00_mix): an int or a text -/
def kV : Key → V
  | .inl i => .int i
  | .inr x => .str x

/-- what stands at a tracked address -/
inductive HO where
  /-- a list -/
  | lst (xs : List V)
  /-- a tuple (never changes) -/
  | tup (xs : List V)
  /-- a dict whose keys are ints and texts; one whose keys are tuples of ints and texts (the empty one is both) -/
  | dK (kvs : List (Key × V)) | dT (kvs : List (List Key × V))
  /-- a set of ints: its members, its size -/
  | set (S : Int → Bool) (n : Nat)
  /-- an instance of the class at C, its dict at dx, its attributes -/
  | ins (C dx : Addr) (fs : List (Str × V))
  /-- the dict of the instance at x -/
  | own (x : Addr)
  /-- the dict of an exception -/
  | xd (fs : List (Str × V))
  /-- a bound method, f of x -/
  | met (f x : Addr)
  /-- a range object lo, lo + 1, .. below hi -/
  | rng (lo hi : Int)
  /-- a thing that is known to the object (the script; a dict while a loop walks it): read, never written while it is so -/
  | frz (o : Obj) (u : HO)
  /-- a code object's table -/
  | tbl (ps : Array Value)
  /-- any other thing, by what is true of its one object (a def of one's own: SetO a S n := HO.ext fun h => ..) -/
  | ext (φ : Heap → Prop)

abbrev Hp := Addr → Option HO
def upd (H : Hp) (a : Addr) (o : HO) : Hp := fun b => if b = a then some o else H b
theorem upd_same {H : Hp} {a : Addr} {o : HO} : upd H a o a = some o := by unfold upd; rw [if_pos rfl]
theorem upd_ne {H : Hp} {a b : Addr} {o : HO} (h : b ≠ a) : upd H a o b = H b := by unfold upd; rw [if_neg h]
theorem ne_of_none {H : Hp} {a b : Addr} {o : HO} (h : H a = some o) (h' : H b = none) : a ≠ b := by
  intro e; subst e; rw [h] at h'; cases h'

section
variable (P : Program) (w : World)
def ObjOk (H : Hp) (h : Heap) (a : Addr) : HO → Prop
  | .lst xs => xs.length ≤ sizeLine ∧ ∃ (its : List Value) (n : Nat), Vals xs its ∧ h.get? a = some { cls := .type "list", data := .seq its.toArray n }
  | .tup xs => xs.length ≤ sizeLine ∧ ∃ its : List Value, Vals xs its ∧ IsTup h a its.toArray
  | .dK kvs => kvs.length ≤ sizeLine ∧ (a == sysModules) = false ∧ ∃ vs, KV kvs vs ∧ h.DictOf (mixKind P w) a vs
  | .dT kvs => kvs.length ≤ sizeLine ∧ (a == sysModules) = false ∧ ∃ xs : List (List Key × Addr × Value),
      Paired (fun (p : List Key × V) (q : List Key × Addr × Value) => p.1 = q.1 ∧ H q.2.1 = some (.tup (p.1.map kV)) ∧ RelV p.2 q.2.2) kvs xs ∧
      ∃ o es ep, h.get? a = some o ∧ o.ExactDict ∧ o.data = .dict es ep ∧ es.toList = xs.map (entryOfKey (tupleKind (mixKind P w))) ∧ (xs.map (·.1)).Nodup
  | .set S n => h.SetOf (intKind P w) a S n
  | .ins C dx fs => H dx = some (.own a) ∧ fs.length ≤ 1000 ∧ dx ≠ a ∧ h.get? a = some (PySem.W.instObj C dx) ∧
      ∃ mA, h.Ns1 dx mA ∧ (∀ f, RelO (fs.lookup f) (mA f)) ∧ PySem.Within mA (fs.map (·.1))
  | .own _ => ∃ o, h.get? a = some o
  | .xd fs => ∃ mA, h.Ns1 a mA ∧ ∀ f, RelO (fs.lookup f) (mA f)
  | .rng lo hi => ∃ t u v, h.get? a = some { cls := .type "range", data := .fields #[.int lo t, .int hi u, .int 1 v] }
  | .frz o u => h.get? a = some o ∧ ObjOk H h a u
  | .tbl ps => h.get? a = some { cls := .none, data := .fields ps }
  | .met f x => h.get? a = some (PySem.W.methodObj (.ref f) (.ref x))
  | .ext φ => φ h ∧ (∃ o, h.get? a = some o) ∧ ∀ h1 h2 : Heap, φ h1 → (∀ o, h1.get? a = some o → h2.get? a = some o) → φ h2
/-- the abstract heap is held -/
def HOk (H : Hp) (h : Heap) : Prop := ∀ a o, H a = some o → ObjOk P w H h a o
end

section
variable {P : Program} {w : World} {H H' : Hp} {h h' : Heap} {a : Addr} {o : HO}
theorem ObjOk.lt (x : ObjOk P w H h a o) : a < h.objs.size := by
  cases o with
  | lst xs => obtain ⟨_, _, _, _, e⟩ := x; exact Heap.lt_size e
  | tup xs => obtain ⟨_, _, _, p⟩ := x; exact p.lt
  | dK kvs => obtain ⟨_, _, _, _, o, _, _, e, _⟩ := x; exact Heap.lt_size e
  | dT kvs => obtain ⟨_, _, _, _, o, _, _, e, _⟩ := x; exact Heap.lt_size e
  | set S n => obtain ⟨o, _, _, _, e, _⟩ := x; exact Heap.lt_size e
  | ins C dx fs => obtain ⟨_, _, _, e, _⟩ := x; exact Heap.lt_size e
  | own y => obtain ⟨_, e⟩ := x; exact Heap.lt_size e
  | xd fs => obtain ⟨_, ⟨_, _, _, e, _⟩, _⟩ := x; exact Heap.lt_size e
  | rng lo hi => obtain ⟨_, _, _, e⟩ := x; exact Heap.lt_size e
  | frz ob u => obtain ⟨e, _⟩ := x; exact Heap.lt_size e
  | tbl ps => exact Heap.lt_size (show h.get? a = some _ from x)
  | met f y => exact Heap.lt_size (show h.get? a = some _ from x)
  | ext φ => obtain ⟨_, ⟨_, e⟩, _⟩ := x; exact Heap.lt_size e
theorem Paired.mapP {α β : Type} {F G : α → β → Prop} : ∀ {l₁ : List α} {l₂ : List β}, Paired F l₁ l₂ → (∀ a b, F a b → G a b) → Paired G l₁ l₂
  | _, _, .nil, _ => .nil
  | _, _, .cons r t, f => .cons (f _ _ r) (Paired.mapP t f)
/-- what an object's description leans on: its own object, its own dict, the tuples -/
theorem ObjOk.stay (x : ObjOk P w H h a o) (k : ∀ b u, (b = a ∨ H b = some (.own a)) → h.get? b = some u → h'.get? b = some u)
    (ho : ∀ b, H b = some (.own a) → H' b = some (.own a)) (ht : ∀ b xs, H b = some (.tup xs) → H' b = some (.tup xs)) : ObjOk P w H' h' a o := by
  induction o with
  | lst xs => obtain ⟨z, its, n, r, e⟩ := x; exact ⟨z, its, n, r, k _ _ (.inl rfl) e⟩
  | tup xs => obtain ⟨z, its, r, ob, e, c⟩ := x; exact ⟨z, its, r, ob, k _ _ (.inl rfl) e, c⟩
  | dK kvs => obtain ⟨z, y, vs, r, ob, es, ep, e, c⟩ := x; exact ⟨z, y, vs, r, ob, es, ep, k _ _ (.inl rfl) e, c⟩
  | dT kvs =>
    obtain ⟨z, y, xs, r, ob, es, ep, e, c⟩ := x
    exact ⟨z, y, xs, Paired.mapP r fun p q z => ⟨z.1, ht _ _ z.2.1, z.2.2⟩, ob, es, ep, k _ _ (.inl rfl) e, c⟩
  | set S n => obtain ⟨ob, es, ep, t, e, c⟩ := x; exact ⟨ob, es, ep, t, k _ _ (.inl rfl) e, c⟩
  | ins C dx fs =>
    obtain ⟨d, z, ne, e, mA, ⟨od, es, ep, e2, c⟩, r⟩ := x
    exact ⟨ho _ d, z, ne, k _ _ (.inl rfl) e, mA, ⟨od, es, ep, k _ _ (.inr d) e2, c⟩, r⟩
  | own y => obtain ⟨ob, e⟩ := x; exact ⟨ob, k _ _ (.inl rfl) e⟩
  | xd fs => obtain ⟨mA, ⟨od, es, ep, e, c⟩, r⟩ := x; exact ⟨mA, ⟨od, es, ep, k _ _ (.inl rfl) e, c⟩, r⟩
  | rng lo hi => obtain ⟨t, u, v, e⟩ := x; exact ⟨t, u, v, k _ _ (.inl rfl) e⟩
  | frz ob u ih => obtain ⟨e, q⟩ := x; exact ⟨k _ _ (.inl rfl) e, ih q⟩
  | tbl ps =>
    have e : h.get? a = some { cls := .none, data := .fields ps } := x
    show h'.get? a = some { cls := .none, data := .fields ps }
    exact k a _ (.inl rfl) e
  | met f y =>
    have e : h.get? a = some (PySem.W.methodObj (.ref f) (.ref y)) := x
    show h'.get? a = some (PySem.W.methodObj (.ref f) (.ref y))
    exact k a _ (.inl rfl) e
  | ext φ => obtain ⟨p, ⟨o, e⟩, st⟩ := x; exact ⟨st _ _ p fun o q => k _ _ (.inl rfl) q, ⟨o, k _ _ (.inl rfl) e⟩, st⟩
theorem HOk.lt (x : HOk P w H h) (e : H a = some o) : a < h.objs.size := (x a o e).lt
theorem HOk.fresh (x : HOk P w H h) (e : h.objs.size ≤ a) : H a = none := by
  cases q : H a with
  | none => rfl
  | some u => exact absurd (Nat.lt_of_lt_of_le (x.lt q) e) (Nat.lt_irrefl _)
/-- every object of the heap is kept -/
theorem HOk.kept (x : HOk P w H h) (k : ∀ b u, h.get? b = some u → h'.get? b = some u) : HOk P w H h' := fun a o e =>
  (x a o e).stay (fun b u _ q => k b u q) (fun _ q => q) fun _ _ q => q
/-- a new object is laid and tracked -/
theorem HOk.laid (x : HOk P w H h) (k : ∀ b u, h.get? b = some u → h'.get? b = some u) (hp : h.objs.size ≤ a) (new : ObjOk P w (upd H a o) h' a o) : HOk P w (upd H a o) h' := fun b u e => by
  have hn := x.fresh hp
  by_cases hb : b = a
  · subst hb; rw [upd_same] at e; cases e; exact new
  · rw [upd_ne hb] at e
    exact (x b u e).stay (fun c v _ q => k c v q) (fun c q => by rw [upd_ne (ne_of_none q hn)]; exact q) fun c xs q => by rw [upd_ne (ne_of_none q hn)]; exact q
end

/-- what may be read as u: it is u, or a known u -/
def Rd (H : Hp) (a : Addr) (u : HO) : Prop := H a = some u ∨ ∃ o, H a = some (.frz o u)
theorem Rd.ok {P : Program} {w : World} {H : Hp} {h : Heap} {a : Addr} {u : HO} (r : Rd H a u) (x : HOk P w H h) : ObjOk P w H h a u := by
  rcases r with r | ⟨o, r⟩
  · exact x a u r
  · obtain ⟨_, q⟩ := x a _ r
    exact q
/-- what may be written -/
def Mut : Option HO → Prop
  | some (.lst _) => True
  | some (.dK _) => True
  | some (.dT _) => True
  | some (.set _ _) => True
  | some (.ins _ _ _) => True
  | some (.ext _) => True
  | _ => False
section
variable {P : Program} {w : World} {H : Hp} {h h' : Heap} {x e : Addr} {o' : HO}
/-- the object at e is changed: x itself, or the dict of the instance x -/
theorem HOk.write (ok : HOk P w H h) (mu : Mut (H x)) (he : e = x ∨ H e = some (.own x)) (k : ∀ b u, b ≠ e → h.get? b = some u → h'.get? b = some u) (heo : ∃ u, h'.get? e = some u)
    (new : ObjOk P w (upd H x o') h' x o') : HOk P w (upd H x o') h' := fun b u q => by
  have nown : ∀ c y, H c = some (.own y) → c ≠ x := fun c y r z => by subst z; rw [r] at mu; exact mu
  have ntup : ∀ c xs, H c = some (.tup xs) → c ≠ x := fun c xs r z => by subst z; rw [r] at mu; exact mu
  by_cases hb : b = x
  · subst hb; rw [upd_same] at q; cases q; exact new
  · rw [upd_ne hb] at q
    by_cases hbe : b = e
    · have q' : H b = some (.own x) := by
        rcases he with z | z
        · exact absurd (hbe.trans z) hb
        · rw [hbe]; exact z
      rw [q] at q'; cases q'
      obtain ⟨v, hv⟩ := heo
      exact ⟨v, by rw [hbe]; exact hv⟩
    · refine (ok b u q).stay (fun c v hc r => k c v ?_ r) (fun c r => by rw [upd_ne (nown c b r)]; exact r) fun c xs r => by rw [upd_ne (ntup c xs r)]; exact r
      rcases hc with rfl | hc
      · exact hbe
      · rintro rfl
        rcases he with z | z
        · exact nown c b hc z
        · rw [hc] at z; cases z; exact hb rfl
end

/-! ### kept unless tracked; of the frames at fs (the callers') the slots may change (an exception that passes writes there); of the records at ex (iterators) nothing is said -/
structure Un (fs ex : List Addr) (H H' : Hp) (h h' : Heap) : Prop where
  keep : ∀ b o, h.get? b = some o → H b = none → b ∉ fs → b ∉ ex → h'.get? b = some o
  slot : ∀ b o, h.get? b = some o → H b = none → b ∈ fs → b ∉ ex → ∃ sl, h'.get? b = some { o with slots := sl }
  free : ∀ b o, h.get? b = some o → H b = none → b ∉ ex → H' b = none
  there : ∀ b o, h.get? b = some o → b ∉ ex → ∃ o', h'.get? b = some o'
  tups : ∀ b xs, H b = some (.tup xs) → H' b = some (.tup xs)
  frzs : ∀ b o u, H b = some (.frz o u) → H' b = some (.frz o u)
  tbls : ∀ b ps, H b = some (.tbl ps) → ∃ more, H' b = some (.tbl (ps ++ more))
section
variable {fs fs' ex ex' : List Addr} {H H1 H2 : Hp} {h h1 h2 h' : Heap} {a x e : Addr} {o : HO}
theorem Un.any (u : Un fs ex H H1 h h1) {b : Addr} {ob : Obj} (q : h.get? b = some ob) (n : H b = none) (hx : b ∉ ex) : ∃ sl, h1.get? b = some { ob with slots := sl } := by
  by_cases hb : b ∈ fs
  · exact u.slot b ob q n hb hx
  · exact ⟨ob.slots, u.keep b ob q n hb hx⟩
theorem Un.kept (k : ∀ b u, h.get? b = some u → h'.get? b = some u) : Un fs ex H H h h' :=
  ⟨fun b ob q _ _ _ => k b ob q, fun b ob q _ _ _ => ⟨ob.slots, k b ob q⟩, fun _ _ _ n _ => n, fun b ob q _ => ⟨ob, k b ob q⟩, fun _ _ q => q, fun _ _ _ q => q, fun _ ps q => ⟨#[], by rw [q]; simp⟩⟩
theorem Un.refl : Un fs ex H H h h := Un.kept fun _ _ q => q
theorem Un.laid (k : ∀ b u, h.get? b = some u → h'.get? b = some u) (hp : h.objs.size ≤ a) (hn : H a = none) : Un fs ex H (upd H a o) h h' where
  keep := fun b u q _ _ _ => k b u q
  slot := fun b u q _ _ _ => ⟨u.slots, k b u q⟩
  free := fun b u q n _ => by rw [upd_ne (Nat.ne_of_lt (Nat.lt_of_lt_of_le (Heap.lt_size q) hp))]; exact n
  there := fun b u q _ => ⟨u, k b u q⟩
  tups := fun b xs q => by rw [upd_ne (ne_of_none q hn)]; exact q
  frzs := fun b u xs q => by rw [upd_ne (ne_of_none q hn)]; exact q
  tbls := fun b ps q => ⟨#[], by rw [upd_ne (ne_of_none q hn), q]; simp⟩
theorem Un.write (mu : Mut (H x)) (he : e = x ∨ H e = some (.own x)) (k : ∀ b u, b ≠ e → h.get? b = some u → h'.get? b = some u) (heo : ∃ u, h'.get? e = some u) : Un fs ex H (upd H x o) h h' := by
  have hx : ∀ b, H b = none → b ≠ x := fun b n z => by subst z; rw [n] at mu; exact mu
  have hb : ∀ b, H b = none → b ≠ e := fun b n z => by
    subst z
    rcases he with r | r
    · exact hx b n r
    · rw [n] at r; cases r
  have hm : ∀ b u, H b = some u → ¬ Mut (some u) → b ≠ x := fun b u q nm z => by subst z; rw [q] at mu; exact nm mu
  refine ⟨fun b u q n _ _ => k b u (hb b n) q, fun b u q n _ _ => ⟨u.slots, k b u (hb b n) q⟩, fun b u q n _ => by rw [upd_ne (hx b n)]; exact n, fun b u q _ => ?_,
    fun b xs q => by rw [upd_ne (hm b _ q fun z => z)]; exact q, fun b u xs q => by rw [upd_ne (hm b _ q fun z => z)]; exact q, fun b ps q => ⟨#[], by rw [upd_ne (hm b _ q fun z => z), q]; simp⟩⟩
  by_cases hbe : b = e
  · subst hbe; exact heo
  · exact ⟨u, k b u hbe q⟩
end

/-! ### the heap without what is tracked -/
def trk (h : Heap) (H : Hp) : List Addr := (List.range h.objs.size).filter fun a => (H a).isSome
def hidT (h : Heap) (H : Hp) : Heap := PySem.W.hideAll h (trk h H)
theorem hidT_size (h : Heap) (H : Hp) : (hidT h H).objs.size = h.objs.size := PySem.W.hideAll_size _ _
theorem hidT_get {h : Heap} {H : Hp} {b : Addr} {o : Obj} (e : h.get? b = some o) (n : H b = none) : (hidT h H).get? b = some o :=
  PySem.W.hideAll_get _ e fun hm => by
    have q : (H b).isSome = true := (List.mem_filter.mp hm).2
    rw [n] at q; simp at q
theorem of_hidT {h : Heap} {H : Hp} {b : Addr} {o : Obj} (e : (hidT h H).get? b = some o) : h.get? b = some o ∧ H b = none := by
  have e' : h.get? b = some o := PySem.W.of_hideAll (trk h H) e
  refine ⟨e', ?_⟩
  cases q : H b with
  | none => rfl
  | some x =>
    have hm : b ∈ trk h H := List.mem_filter.mpr ⟨List.mem_range.mpr (Heap.lt_size e'), by simp [q]⟩
    have z : (hidT h H).get? b = none := PySem.W.hideAll_none (trk h H) hm
    rw [z] at e; cases e

/-! ### OpenK's ledger, filled with every new object but one -/
def allNews (g h : Heap) (L : Addr) : List (Addr × Obj) := (List.range h.objs.size).filterMap fun a => if a = L ∨ (g.get? a).isSome = true then none else (h.get? a).map fun o => (a, o)
def rest (g h : Heap) (L d : Addr) : List (Addr × Obj) := (allNews g h L).filter fun p => decide (p.1 ≠ d)
end L2

namespace L2
open PySem PySem.Spec PyProof.Rows

/-- the module's facts, over the base: the heap at the law's entry without what is tracked there -/
structure Mod (K : PySem.W.Frag) (mg : Str → Option Value) (base : Heap) : Prop where
  kin : K.In base
  glob : base.Ns mainGlobals mg
  blt : ∃ mb, base.Ns builtinsNs mb ∧ ∀ x : Str, x ≠ "__name__" → mb x = bootBuiltins x
  nolimit : base.NoLimit

/-- the context: a def's body (or a comprehension's block) running. base: fixed through the whole law; s₀, H₀: the entry; outer: the frames whose slots others may change (a def's callers); stack: all frames that run;
   ex: iterators that were made ahead of the entry and are walked here (a comprehension's); fn: the names whose cells were made at the entry (a def: all; a comprehension's block: its own); calm: not within an except suite; pn: pins that every state bears; xe: what is wanted of an exception that leaves the code -/
structure Cx where
  prog : Program
  w : World
  K : PySem.W.Frag
  mg : Str → Option Value
  base : Heap
  A : Around
  N : List Str
  s₀ : Shared
  H₀ : Hp
  env : Env
  outer : List Env
  stack : List Env
  ex : List Addr
  fn : Str → Bool
  calm : Bool
  pn : List (Addr × Obj)
  xe : Value → Shared → Prop
/-- the callers' frames -/
def frs (l : List Env) : List Addr := l.filterMap (·.frame)
abbrev Cx.fs (X : Cx) : List Addr := frs X.outer

def Vis (sc : Scope) (x : Str) : Prop := sc.names.lookup x = some .local ∨ sc.names.lookup x = some .cell ∨ sc.names.lookup x = some .free
def Loc (sc : Scope) (x : Str) : Prop := sc.names.lookup x = some .local ∨ sc.names.lookup x = some .cell
def Look (env : Env) (h : Heap) (m : Str → Option Value) (x : Str) (u : Value) : Prop :=
  (env.kindOf x = some .local ∧ m x = some u) ∨ ((env.kindOf x = some .cell ∨ env.kindOf x = some .free) ∧ ∃ c, env.cells.lookup x = some c ∧ h.IsCell c (some u))

structure Cx.Ok (X : Cx) : Prop where
  mod : Mod X.K X.mg X.base
  kind : X.env.scope.kind = .function
  glob : X.env.globals = mainGlobals
  blt : X.env.builtins = builtinsNs
  above : X.s₀.heap.objs.size ≤ X.env.locals
  inj : ∀ x y c, X.env.cells.lookup x = some c → X.env.cells.lookup y = some c → x = y
  has : ∀ x, (X.env.kindOf x = some .cell ∨ X.env.kindOf x = some .free) → ∃ c, X.env.cells.lookup x = some c
  cab : ∀ x c, X.fn x = true → X.env.cells.lookup x = some c → X.s₀.heap.objs.size ≤ c
  hd : X.calm = true → X.A.handled = none
  frames : X.A.frames = some X.stack
  stk : X.stack = X.outer ∨ (X.stack = X.env :: X.outer ∧ X.env.frame = some X.env.locals)
  exf : ∀ b ∈ X.ex, b ≠ X.env.locals ∧ ∀ x c, X.env.cells.lookup x = some c → c ≠ b
  bs : ∀ b o, X.base.get? b = some o → X.s₀.heap.get? b = some o ∧ X.H₀ b = none
  bsz : X.base.objs.size ≤ X.s₀.heap.objs.size
  noex : ∀ b o, X.base.get? b = some o → b ∉ X.ex
  exfs : ∀ b ∈ X.ex, b ∉ X.fs
  funs : X.s₀.heap.FunFrames X.base X.outer
  frf : ∀ b ∈ X.fs, X.H₀ b = none

structure Inv (X : Cx) (pins : List (Addr × Obj)) (σ : List (Option V)) (H : Hp) (s : Shared) : Prop where
  ok : X.Ok
  os : s.os = X.s₀.os
  bare : AllBare s.gens
  base : Un X.fs X.ex X.H₀ H X.s₀.heap s.heap
  loc : ∃ m, s.heap.Ns X.env.locals m ∧ ∀ (i : Nat) (x : Str) (v : V), X.N[i]? = some x → σ[i]? = some (some v) → Vis X.env.scope x → ∃ u, RelV v u ∧ Look X.env s.heap m x u
  cell : ∀ x c, X.env.cells.lookup x = some c → ∃ v, s.heap.IsCell c v
  free : H X.env.locals = none
  freeC : ∀ x c, X.env.cells.lookup x = some c → H c = none
  pin : ∀ p ∈ X.pn ++ pins, s.heap.get? p.1 = some p.2 ∧ H p.1 = none ∧ p.1 ≠ X.env.locals ∧ p.1 ∉ X.fs ∧ ∀ v, p.2.data ≠ .cell v
  hok : HOk X.prog X.w H s.heap
  len : σ.length = X.N.length

section
variable {X : Cx} {pins : List (Addr × Obj)} {σ : List (Option V)} {H H' : Hp} {s : Shared} {h' : Heap}

theorem Cx.Ok.nofr (ok : X.Ok) {b : Addr} {o : Obj} (e : X.base.get? b = some o) : b ∉ X.fs := fun hb => by
  have := (ok.funs.mem hb).1
  rw [e] at this; cases this
theorem Inv.bs (I : Inv X pins σ H s) : ∀ b o, X.base.get? b = some o → s.heap.get? b = some o ∧ H b = none := fun b o e =>
  ⟨I.base.keep b o (I.ok.bs b o e).1 (I.ok.bs b o e).2 (I.ok.nofr e) (I.ok.noex b o e), I.base.free b o (I.ok.bs b o e).1 (I.ok.bs b o e).2 (I.ok.noex b o e)⟩
theorem Inv.bk (I : Inv X pins σ H s) : ∀ b o, X.base.get? b = some o → s.heap.get? b = some o := fun b o e => (I.bs b o e).1
theorem Inv.mod (I : Inv X pins σ H s) : Mod X.K X.mg X.base := I.ok.mod
theorem Inv.kIn (I : Inv X pins σ H s) : X.K.In s.heap := I.ok.mod.kin.keeps I.bk
theorem Inv.lt (I : Inv X pins σ H s) : X.env.locals < s.heap.objs.size := let ⟨_, hn, _⟩ := I.loc; hn.lt
theorem Inv.sz (I : Inv X pins σ H s) : X.s₀.heap.objs.size ≤ s.heap.objs.size := Nat.le_trans I.ok.above (Nat.le_of_lt I.lt)
theorem Inv.nofs (I : Inv X pins σ H s) {a : Addr} (h : s.heap.objs.size ≤ a) : a ∉ X.fs := fun hb => by
  obtain ⟨_, o, ho, _⟩ := I.ok.funs.mem hb
  exact absurd (Nat.lt_of_lt_of_le (Heap.lt_size ho) (Nat.le_trans I.sz h)) (Nat.lt_irrefl _)
theorem Inv.cne (I : Inv X pins σ H s) : ∀ x c, X.env.cells.lookup x = some c → c ≠ X.env.locals := fun x c e z => by
  obtain ⟨v, o, ho, hd⟩ := I.cell x c e
  obtain ⟨m, ⟨o', es, ep, ho', hd', _⟩, _⟩ := I.loc
  rw [z, ho'] at ho; cases ho; rw [hd'] at hd; cases hd
theorem Inv.funs (I : Inv X pins σ H s) : s.heap.FunFrames X.base X.outer := by
  have all : ∀ (l : List Env), (∀ b ∈ frs l, b ∈ X.fs) → X.s₀.heap.FunFrames X.base l → s.heap.FunFrames X.base l := by
    intro l
    induction l with
    | nil => intro _ _; trivial
    | cons env r ih =>
      intro hs hl
      obtain ⟨hk, ⟨L, o, hf, hn, ho, hd⟩, hr⟩ := hl
      have hL : L ∈ X.fs := hs L (by unfold frs; rw [List.filterMap_cons, hf]; exact List.mem_cons_self)
      obtain ⟨sl, e⟩ := I.base.slot L o ho (I.ok.frf L hL) hL fun z => I.ok.exfs L z hL
      exact ⟨hk, ⟨L, _, hf, hn, e, hd⟩, ih (fun b hb => hs b (by unfold frs; rw [List.filterMap_cons, hf]; exact List.mem_cons_of_mem _ hb)) hr⟩
  exact all X.outer (fun _ hb => hb) I.ok.funs

/-- the frames that run, for a call -/
theorem Inv.stack (I : Inv X pins σ H s) : s.heap.FunFrames X.base X.stack := by
  rcases I.ok.stk with e | ⟨e, hf⟩
  · rw [e]; exact I.funs
  · rw [e]
    obtain ⟨m, hn, _⟩ := I.loc
    refine .cons (by rw [I.ok.kind]; decide) hf hn ?_ I.funs
    exact Heap.get?_none_of_le (Nat.le_trans I.ok.bsz I.ok.above)
theorem Inv.stkSub (I : Inv X pins σ H s) : ∀ b ∈ frs X.stack, b ∈ X.env.locals :: X.fs := fun b hb => by
  rcases I.ok.stk with e | ⟨e, hf⟩
  · rw [e] at hb; exact List.mem_cons_of_mem _ hb
  · rw [e] at hb
    unfold frs at hb
    rw [List.filterMap_cons, hf] at hb
    exact hb
theorem Inv.stkFree (I : Inv X pins σ H s) : ∀ b ∈ frs X.stack, H b = none := fun b hb => by
  rcases List.mem_cons.mp (I.stkSub b hb) with e | hb
  · rw [e]; exact I.free
  · obtain ⟨_, o, ho, _⟩ := I.ok.funs.mem hb
    exact I.base.free b o ho (I.ok.frf b hb) fun z => I.ok.exfs b z hb

/-- THE STEP: the untracked objects but the frame and the records at ch are kept (the callers' frames up to slots), the frame's map is kept, the new abstract heap is held -/
theorem Inv.step {g' : Array GenState} {t' : Nat} {d' : Drawn} {ch : List Addr} (I : Inv X pins σ H s)
    (hch : ∀ b ∈ ch, (b ∈ X.ex ∨ X.s₀.heap.objs.size ≤ b) ∧ b ≠ X.env.locals ∧ (∀ x c, X.env.cells.lookup x = some c → c ≠ b) ∧ ∀ p ∈ X.pn ++ pins, p.1 ≠ b)
    (keep : ∀ b o, b ≠ X.env.locals → b ∉ X.fs → b ∉ ch → s.heap.get? b = some o → H b = none → h'.get? b = some o)
    (slot : ∀ b o, b ≠ X.env.locals → b ∈ X.fs → b ∉ ch → s.heap.get? b = some o → H b = none → ∃ sl, h'.get? b = some { o with slots := sl }) (free : ∀ b o, b ∉ ch → s.heap.get? b = some o → H b = none → H' b = none)
    (there : ∀ b o, b ∉ ch → s.heap.get? b = some o → ∃ o', h'.get? b = some o')
    (tups : ∀ b xs, H b = some (.tup xs) → H' b = some (.tup xs)) (frzs : ∀ b o u, H b = some (.frz o u) → H' b = some (.frz o u)) (tbls : ∀ b ps, H b = some (.tbl ps) → ∃ more, H' b = some (.tbl (ps ++ more)))
    (ns : ∀ m, s.heap.Ns X.env.locals m → h'.Ns X.env.locals m) (hok : HOk X.prog X.w H' h') (hg : AllBare g') :
    Inv X pins σ H' { s with heap := h', gens := g', drawn := d', toks := t' } := by
  have neL : ∀ b o, X.s₀.heap.get? b = some o → b ≠ X.env.locals := fun b o e => Nat.ne_of_lt (Nat.lt_of_lt_of_le (Heap.lt_size e) I.ok.above)
  have neC : ∀ b o, X.s₀.heap.get? b = some o → b ∉ X.ex → b ∉ ch := fun b o e hx hb => by
    rcases (hch b hb).1 with z | z
    · exact hx z
    · exact absurd (Nat.lt_of_lt_of_le (Heap.lt_size e) z) (Nat.lt_irrefl _)
  have cellK : ∀ x c, X.env.cells.lookup x = some c → ∀ v, s.heap.IsCell c v → h'.IsCell c v := fun x c e v ⟨o, ho, hd⟩ => by
    have nch : c ∉ ch := fun z => (hch c z).2.2.1 x c e rfl
    by_cases hc : c ∈ X.fs
    · obtain ⟨sl, q⟩ := slot c o (I.cne x c e) hc nch ho (I.freeC x c e)
      exact ⟨_, q, hd⟩
    · exact ⟨o, keep c o (I.cne x c e) hc nch ho (I.freeC x c e), hd⟩
  refine ⟨I.ok, I.os, hg, ⟨fun b o e n hb hx => ?_, fun b o e n hb hx => ?_, fun b o e n hx => ?_, fun b o e hx => ?_, fun b xs e => tups b xs (I.base.tups b xs e), fun b o xs e => frzs b o xs (I.base.frzs b o xs e), fun b ps e => ?_⟩, ?_, fun x c e => ?_, ?_, fun x c e => ?_, fun p hp => ?_, hok, I.len⟩
  · exact keep b o (neL b o e) hb (neC b o e hx) (I.base.keep b o e n hb hx) (I.base.free b o e n hx)
  · obtain ⟨sl, e1⟩ := I.base.slot b o e n hb hx
    obtain ⟨sl', e2⟩ := slot b _ (neL b o e) hb (neC b o e hx) e1 (I.base.free b o e n hx)
    exact ⟨sl', e2⟩
  · obtain ⟨o', e1⟩ := I.base.there b o e hx
    exact free b o' (neC b o e hx) e1 (I.base.free b o e n hx)
  · obtain ⟨o', e1⟩ := I.base.there b o e hx
    exact there b o' (neC b o e hx) e1
  · obtain ⟨m1, e1⟩ := I.base.tbls b ps e
    obtain ⟨m2, e2⟩ := tbls b _ e1
    exact ⟨m1 ++ m2, by rw [e2, Array.append_assoc]⟩
  · obtain ⟨m, hn, hl⟩ := I.loc
    refine ⟨m, ns m hn, fun i x v e1 e2 e3 => ?_⟩
    obtain ⟨u, r, l⟩ := hl i x v e1 e2 e3
    refine ⟨u, r, ?_⟩
    rcases l with l | ⟨k, c, e, z⟩
    · exact .inl l
    · exact .inr ⟨k, c, e, cellK x c e _ z⟩
  · obtain ⟨v, z⟩ := I.cell x c e
    exact ⟨v, cellK x c e v z⟩
  · obtain ⟨m, ⟨o, _, _, ho, _⟩, _⟩ := I.loc
    exact free _ o (fun z => (hch _ z).2.1 rfl) ho I.free
  · obtain ⟨v, o, ho, hd⟩ := I.cell x c e
    exact free c o (fun z => (hch c z).2.2.1 x c e rfl) ho (I.freeC x c e)
  · obtain ⟨e, n, ne, nf, d⟩ := I.pin p hp
    have nch : p.1 ∉ ch := fun z => (hch p.1 z).2.2.2 p hp rfl
    exact ⟨keep p.1 p.2 ne nf nch e n, free p.1 p.2 nch e n, ne, nf, d⟩
/-- .. where the frame's own object is kept too -/
theorem Inv.un {t' : Nat} (I : Inv X pins σ H s) (u : Un X.fs [] H H' s.heap h') (hok : HOk X.prog X.w H' h') : Inv X pins σ H' { s with heap := h', toks := t' } := by
  obtain ⟨m, ⟨o, es, ep, ho, r⟩, _⟩ := id I.loc
  obtain ⟨sl, hL⟩ := u.any ho I.free (by simp)
  exact I.step (g' := s.gens) (d' := s.drawn) (ch := []) (fun _ z => nomatch z) (fun b o _ hb _ e n => u.keep b o e n hb (by simp)) (fun b o _ hb _ e n => u.slot b o e n hb (by simp)) (fun b o _ e n => u.free b o e n (by simp)) (fun b o _ e => u.there b o e (by simp)) u.tups u.frzs u.tbls (fun m' hm => by
    obtain ⟨o', es', ep', ho', r'⟩ := hm
    rw [ho] at ho'; cases ho'
    exact ⟨_, es', ep', hL, r'⟩) hok I.bare
/-- behind a call (or a comprehension's block): the slots of this frame may have changed too, the records at ch may have turned -/
theorem Inv.call {g' : Array GenState} {t' : Nat} {d' : Drawn} {ch : List Addr} (I : Inv X pins σ H s) (u : Un (frs X.stack) ch H H' s.heap h') (hok : HOk X.prog X.w H' h') (hg : AllBare g')
    (hch : ∀ b ∈ ch, (b ∈ X.ex ∨ X.s₀.heap.objs.size ≤ b) ∧ b ≠ X.env.locals ∧ (∀ x c, X.env.cells.lookup x = some c → c ≠ b) ∧ ∀ p ∈ X.pn ++ pins, p.1 ≠ b) :
    Inv X pins σ H' { s with heap := h', gens := g', drawn := d', toks := t' } := by
  obtain ⟨m, ⟨o, es, ep, ho, r⟩, _⟩ := id I.loc
  obtain ⟨sl, hL⟩ := u.any ho I.free fun z => (hch _ z).2.1 rfl
  exact I.step (ch := ch) hch (fun b o hL hb hc e n => u.keep b o e n (fun z => (List.mem_cons.mp (I.stkSub b z)).elim hL hb) hc) (fun b o _ _ hc e n => u.any e n hc) (fun b o hc e n => u.free b o e n hc) (fun b o hc e => u.there b o e hc) u.tups u.frzs u.tbls (fun m' hm => by
    obtain ⟨o', es', ep', ho', r'⟩ := hm
    rw [ho] at ho'; cases ho'
    exact ⟨_, es', ep', hL, r'⟩) hok hg
/-- an untracked record of ours (an iterator) has turned -/
theorem Inv.turned {t' : Nat} {it : Addr} (I : Inv X pins σ H s) (k : ∀ b o, b ≠ it → s.heap.get? b = some o → h'.get? b = some o) (hn : H it = none) (hL : it ≠ X.env.locals)
    (h1 : it ∈ X.ex ∨ X.s₀.heap.objs.size ≤ it) (h2 : ∀ x c, X.env.cells.lookup x = some c → c ≠ it) (h3 : ∀ p ∈ X.pn ++ pins, p.1 ≠ it) : Inv X pins σ H { s with heap := h', toks := t' } := by
  have nit : ∀ b u, H b = some u → b ≠ it := fun b u e z => by rw [z, hn] at e; cases e
  refine I.step (g' := s.gens) (d' := s.drawn) (ch := [it]) (fun b hb => ?_) (fun b o _ _ hc e _ => k b o (fun z => hc (by simp [z])) e) (fun b o _ _ hc e _ => ⟨o.slots, k b o (fun z => hc (by simp [z])) e⟩) (fun _ _ _ _ n => n)
    (fun b o hc e => ⟨o, k b o (fun z => hc (by simp [z])) e⟩) (fun _ _ e => e) (fun _ _ _ e => e) (fun b ps e => ⟨#[], by rw [e]; simp⟩) (fun m hm => ?_) (fun b u e => ?_) I.bare
  · have e : b = it := by simpa using hb
    subst e
    exact ⟨h1, hL, h2, h3⟩
  · obtain ⟨o, es, ep, ho, r⟩ := hm
    exact ⟨o, es, ep, k _ o (Ne.symm hL) ho, r⟩
  · refine (I.hok b u e).stay (fun c v hc q => k c v ?_ q) (fun _ q => q) fun _ _ q => q
    rcases hc with z | z
    · rw [z]; exact nit b u e
    · exact nit c _ z
theorem Inv.tok (I : Inv X pins σ H s) (t : Nat) : Inv X pins σ H { s with toks := t } := I.un (h' := s.heap) (t' := t) Un.refl I.hok
/-- all objects kept -/
theorem Inv.kept {t' : Nat} (I : Inv X pins σ H s) (k : ∀ b u, s.heap.get? b = some u → h'.get? b = some u) : Inv X pins σ H { s with heap := h', toks := t' } := I.un (Un.kept k) (I.hok.kept k)
/-- a new object laid and tracked -/
theorem Inv.laid {a : Addr} {o : HO} {t' : Nat} (I : Inv X pins σ H s) (k : ∀ b u, s.heap.get? b = some u → h'.get? b = some u) (hp : s.heap.objs.size ≤ a) (new : ObjOk X.prog X.w (upd H a o) h' a o) :
    Inv X pins σ (upd H a o) { s with heap := h', toks := t' } := I.un (Un.laid k hp (I.hok.fresh hp)) (I.hok.laid k hp new)
/-- an object written -/
theorem Inv.write {x e : Addr} {o : HO} {t' : Nat} (I : Inv X pins σ H s) (mu : Mut (H x)) (he : e = x ∨ H e = some (.own x)) (k : ∀ b u, b ≠ e → s.heap.get? b = some u → h'.get? b = some u) (heo : ∃ u, h'.get? e = some u)
    (new : ObjOk X.prog X.w (upd H x o) h' x o) : Inv X pins σ (upd H x o) { s with heap := h', toks := t' } := I.un (Un.write mu he k heo) (I.hok.write mu he k heo new)
theorem Inv.pins_of {pins' : List (Addr × Obj)} (I : Inv X pins σ H s) (h : ∀ p ∈ pins', s.heap.get? p.1 = some p.2 ∧ H p.1 = none ∧ p.1 ≠ X.env.locals ∧ p.1 ∉ X.fs ∧ ∀ v, p.2.data ≠ .cell v) : Inv X pins' σ H s :=
  ⟨I.ok, I.os, I.bare, I.base, I.loc, I.cell, I.free, I.freeC, fun p hp => (List.mem_append.mp hp).elim (fun z => I.pin p (List.mem_append_left _ z)) (h p), I.hok, I.len⟩

theorem nodup_ix {N : List Str} (hN : N.Nodup) {i j : Nat} {x : Str} (a : N[i]? = some x) (b : N[j]? = some x) : i = j := by
  obtain ⟨h1, e1⟩ := List.getElem?_eq_some_iff.mp a
  obtain ⟨h2, e2⟩ := List.getElem?_eq_some_iff.mp b
  exact (List.getElem_inj hN).mp (e1.trans e2.symm)

/-- a name is stored; what changed -/
theorem store_ok2 {M : Model} {A : Around} {E : Value → Shared → Prop} {i : Nat} {x : Str} {v : V} {u : Value} {Q : Unit → Shared → Prop} (I : Inv X pins σ H s) (hN : X.N.Nodup) (hi : X.N[i]? = some x) (hx : Loc X.env.scope x) (r : RelV v u)
    (h : ∀ s', Inv X pins (σ.set i (some v)) H s' → (∃ a, Heap.SameBut a s.heap s'.heap ∧ (a = X.env.locals ∨ X.env.cells.lookup x = some a)) → Q () s') (hf : X.fn x = true ∨ X.env.scope.names.lookup x = some .local := by first | exact .inl rfl | exact .inr rfl | assumption) : wpAny M A (storeName X.env x u) Q E s := by
  obtain ⟨m, hn, hl⟩ := id I.loc
  have hcls : (X.env.scope.kind == .class || (X.env.scope.kind == .module && X.env.locals != X.env.globals)) = false := by rw [I.ok.kind]; rfl
  have hiσ : i < σ.length := by rw [I.len]; exact (List.getElem?_eq_some_iff.mp hi).1
  have cne := I.cne
  have tracked : ∀ {a : Addr} {h' : Heap}, (∃ o, s.heap.get? a = some o ∧ H a = none) → Heap.SameBut a s.heap h' → HOk X.prog X.w H h' := fun {a h'} ha hs b ob e => by
    obtain ⟨_, _, hfree⟩ := ha
    refine (I.hok b ob e).stay (fun c w' hc q => (hs.2 c ?_).trans q) (fun _ q => q) fun _ _ q => q
    rintro rfl
    rcases hc with rfl | hc
    · rw [hfree] at e; cases e
    · rw [hfree] at hc; cases hc
  rcases hx with hk | hk
  · refine wpAny_storeName_local hk hn (fun h' hn' hs => ?_) hcls
    obtain ⟨oL, _, _, hoL, _⟩ := id hn
    refine h _ ⟨I.ok, I.os, I.bare, ⟨fun b o e n hb hx => ?_, fun b o e n hb hx => ?_, I.base.free, fun b o e hx => ?_, I.base.tups, I.base.frzs, I.base.tbls⟩, ⟨_, hn', fun j y v' e1 e2 e3 => ?_⟩, fun y c e => ?_, I.free, I.freeC, fun p hp => ?_, tracked ⟨oL, hoL, I.free⟩ hs, by simpa using I.len⟩ ⟨_, hs, .inl rfl⟩
    · exact (hs.2 b (Nat.ne_of_lt (Nat.lt_of_lt_of_le (Heap.lt_size e) I.ok.above))).trans (I.base.keep b o e n hb hx)
    · obtain ⟨sl, e1⟩ := I.base.slot b o e n hb hx
      exact ⟨sl, (hs.2 b (Nat.ne_of_lt (Nat.lt_of_lt_of_le (Heap.lt_size e) I.ok.above))).trans e1⟩
    · obtain ⟨o', e1⟩ := I.base.there b o e hx
      exact ⟨o', (hs.2 b (Nat.ne_of_lt (Nat.lt_of_lt_of_le (Heap.lt_size e) I.ok.above))).trans e1⟩
    · by_cases hj : j = i
      · subst hj
        rw [hi] at e1; cases e1
        rw [List.getElem?_set_self hiσ] at e2
        cases e2
        exact ⟨u, r, .inl ⟨hk, by simp⟩⟩
      · rw [List.getElem?_set_ne (Ne.symm hj)] at e2
        obtain ⟨u', r', q⟩ := hl j y v' e1 e2 e3
        refine ⟨u', r', ?_⟩
        rcases q with ⟨k, e⟩ | ⟨k, c, e, z⟩
        · refine .inl ⟨k, ?_⟩
          have : y ≠ x := fun e => hj (nodup_ix hN e1 (e ▸ hi))
          simp [this, e]
        · exact .inr ⟨k, c, e, z.sameBut hs (cne y c e)⟩
    · obtain ⟨w', z⟩ := I.cell y c e
      exact ⟨w', z.sameBut hs (cne y c e)⟩
    · obtain ⟨e, n, ne, nf, d⟩ := I.pin p hp
      exact ⟨(hs.2 p.1 ne).trans e, n, ne, nf, d⟩
  · have hfn : X.fn x = true := by
      rcases hf with z | z
      · exact z
      · rw [z] at hk; cases hk
    obtain ⟨c, hc⟩ := I.ok.has x (.inl hk)
    obtain ⟨w', z⟩ := I.cell x c hc
    refine wpAny_storeName_cell I.ok.kind hk hc z (fun h' hc' hs => ?_)
    obtain ⟨oc, hoc, hocd⟩ := id z
    refine h { s with heap := h' } ⟨I.ok, I.os, I.bare, ⟨fun b o e n hb hx => ?_, fun b o e n hb hx => ?_, I.base.free, fun b o e hx => ?_, I.base.tups, I.base.frzs, I.base.tbls⟩, ⟨m, hn.sameBut hs (Ne.symm (cne x c hc)), fun j y v' e1 e2 e3 => ?_⟩, fun y c' e => ?_, I.free, I.freeC, fun p hp => ?_, tracked ⟨oc, hoc, I.freeC x c hc⟩ hs, by simpa using I.len⟩ ⟨c, hs, .inr hc⟩
    · exact (hs.2 b (Nat.ne_of_lt (Nat.lt_of_lt_of_le (Heap.lt_size e) (I.ok.cab x c hfn hc)))).trans (I.base.keep b o e n hb hx)
    · obtain ⟨sl, e1⟩ := I.base.slot b o e n hb hx
      exact ⟨sl, (hs.2 b (Nat.ne_of_lt (Nat.lt_of_lt_of_le (Heap.lt_size e) (I.ok.cab x c hfn hc)))).trans e1⟩
    · obtain ⟨o', e1⟩ := I.base.there b o e hx
      exact ⟨o', (hs.2 b (Nat.ne_of_lt (Nat.lt_of_lt_of_le (Heap.lt_size e) (I.ok.cab x c hfn hc)))).trans e1⟩
    · by_cases hj : j = i
      · subst hj
        rw [hi] at e1; cases e1
        rw [List.getElem?_set_self hiσ] at e2
        cases e2
        exact ⟨u, r, .inr ⟨.inl hk, c, hc, hc'⟩⟩
      · rw [List.getElem?_set_ne (Ne.symm hj)] at e2
        obtain ⟨u', r', q⟩ := hl j y v' e1 e2 e3
        refine ⟨u', r', ?_⟩
        rcases q with q | ⟨k, c', e, z'⟩
        · exact .inl q
        · refine .inr ⟨k, c', e, z'.sameBut hs ?_⟩
          rintro rfl
          exact hj (nodup_ix hN e1 (I.ok.inj _ _ _ e hc ▸ hi))
    · by_cases hcc : c' = c
      · subst hcc; exact ⟨_, hc'⟩
      · obtain ⟨w2, z2⟩ := I.cell y c' e
        exact ⟨w2, z2.sameBut hs hcc⟩
    · obtain ⟨e, n, ne, nf, d⟩ := I.pin p hp
      refine ⟨(hs.2 p.1 ?_).trans e, n, ne, nf, d⟩
      intro q
      rw [q, hoc] at e
      have q' : oc = p.2 := Option.some.inj e
      exact d w' (by rw [← q']; exact hocd)
theorem store_ok {M : Model} {A : Around} {E : Value → Shared → Prop} {i : Nat} {x : Str} {v : V} {u : Value} {Q : Unit → Shared → Prop} (I : Inv X pins σ H s) (hN : X.N.Nodup) (hi : X.N[i]? = some x) (hx : Loc X.env.scope x) (r : RelV v u)
    (h : ∀ s', Inv X pins (σ.set i (some v)) H s' → Q () s') (hf : X.fn x = true ∨ X.env.scope.names.lookup x = some .local := by first | exact .inl rfl | exact .inr rfl | assumption) : wpAny M A (storeName X.env x u) Q E s :=
  store_ok2 I hN hi hx r (fun s' I' _ => h s' I') hf
/-- behind a call or a block, the state as it is -/
theorem Inv.call' {s' : Shared} {ch : List Addr} (I : Inv X pins σ H s) (ho : s'.os = s.os) (u : Un (frs X.stack) ch H H' s.heap s'.heap) (hok : HOk X.prog X.w H' s'.heap) (hg : AllBare s'.gens)
    (hch : ∀ b ∈ ch, (b ∈ X.ex ∨ X.s₀.heap.objs.size ≤ b) ∧ b ≠ X.env.locals ∧ (∀ x c, X.env.cells.lookup x = some c → c ≠ b) ∧ ∀ p ∈ X.pn ++ pins, p.1 ≠ b) : Inv X pins σ H' s' := by
  obtain ⟨h', g', d', t', o'⟩ := s'
  have e : o' = s.os := ho
  subst e
  exact I.call (g' := g') (t' := t') (d' := d') u hok hg hch
end

/-! ### the judgements -/
/-- an exception: its class, its own dict's address (where it has one), the abstract heap behind it -/
abbrev XK := Value → Option Addr → Hp → Prop
abbrev St := List (Option V)
abbrev VK := V → Hp → Prop
/-- an expression's reading; a test's; an argument list's -/
abbrev TE := St → Hp → VK → Prop
abbrev TT := St → Hp → (Bool → Hp → Prop) → Prop
abbrev TA := St → Hp → (List V → Hp → Prop) → Prop
/-- what is wanted behind a statement -/
structure Ends where
  nx : St → Hp → Prop
  rt : VK
  bk : St → Hp → Prop := fun _ _ => False
  ct : St → Hp → Prop := fun _ _ => False
abbrev TS := Ends → St → Hp → Prop

def EP (X : Cx) (pins : List (Addr × Obj)) (σ : St) (Q : VK) (u : Value) (s' : Shared) : Prop := ∃ v H', Inv X pins σ H' s' ∧ RelV v u ∧ Q v H'
def TP (X : Cx) (pins : List (Addr × Obj)) (σ : St) (Q : Bool → Hp → Prop) (b : Bool) (s' : Shared) : Prop := ∃ H', Inv X pins σ H' s' ∧ Q b H'
def AP (X : Cx) (pins : List (Addr × Obj)) (σ : St) (Q : List V → Hp → Prop) (us : List Value) (s' : Shared) : Prop := ∃ vs H', Inv X pins σ H' s' ∧ Vals vs us ∧ Q vs H'
def SP (X : Cx) (pins : List (Addr × Obj)) (D : Ends) (f : Flow) (s' : Shared) : Prop :=
  match f with
  | .next => ∃ σ' H', Inv X pins σ' H' s' ∧ D.nx σ' H'
  | .brk => ∃ σ' H', Inv X pins σ' H' s' ∧ D.bk σ' H'
  | .cont => ∃ σ' H', Inv X pins σ' H' s' ∧ D.ct σ' H'
  | .ret u => ∃ v σ' H', Inv X pins σ' H' s' ∧ RelV v u ∧ D.rt v H'

def PE (X : Cx) (e : Expr) (t : TE) : Prop :=
  ∀ (pins : List (Addr × Obj)) (s : Shared) (σ : St) (H : Hp) (Q : VK), Inv X pins σ H s → t σ H Q → wpAny (model X.prog X.w) X.A (eval e X.env) (EP X pins σ Q) X.xe s
def PT (X : Cx) (e : Expr) (t : TT) : Prop :=
  ∀ (pins : List (Addr × Obj)) (s : Shared) (σ : St) (H : Hp) (Q : Bool → Hp → Prop), Inv X pins σ H s → t σ H Q → wpAny (model X.prog X.w) X.A (isTrue e X.env (eval e X.env)) (TP X pins σ Q) X.xe s
/-- a test whatever its 'whole' is (and, or) -/
def PW (X : Cx) (e : Expr) (t : TT) : Prop :=
  ∀ (whole : Sem Value) (pins : List (Addr × Obj)) (s : Shared) (σ : St) (H : Hp) (Q : Bool → Hp → Prop), Inv X pins σ H s → t σ H Q → wpAny (model X.prog X.w) X.A (isTrue e X.env whole) (TP X pins σ Q) X.xe s
theorem PW.pt {X : Cx} {e : Expr} {t : TT} (h : PW X e t) : PT X e t := h _
/-- an argument list (no star), from the left -/
def PA (X : Cx) (es : List Expr) (t : TA) : Prop :=
  ∀ (pos : Pos) (pins : List (Addr × Obj)) (s : Shared) (σ : St) (H : Hp) (Q : List V → Hp → Prop), Inv X pins σ H s → t σ H Q → wpAny (model X.prog X.w) X.A (spliced (backTo pos (starEach es X.env))) (AP X pins σ Q) X.xe s
def PS (X : Cx) (st : Stmt) (t : TS) : Prop :=
  ∀ (pins : List (Addr × Obj)) (s : Shared) (σ : St) (H : Hp) (D : Ends), Inv X pins σ H s → t D σ H → wpAny (model X.prog X.w) X.A (exec st X.env) (SP X pins D) X.xe s
def PSs (X : Cx) (st : List Stmt) (t : TS) : Prop :=
  ∀ (pins : List (Addr × Obj)) (s : Shared) (σ : St) (H : Hp) (D : Ends), Inv X pins σ H s → t D σ H → wpAny (model X.prog X.w) X.A (execs st X.env) (SP X pins D) X.xe s
/-- weaken the end -/
theorem thn {α : Type} {t : Sem α} {Q Q' : α → Shared → Prop} {M : Model} {A : Around} {E : Value → Shared → Prop} {s : Shared} (h : wpAny M A t Q E s) (hQ : ∀ a s, Q a s → Q' a s) : wpAny M A t Q' E s := wpAny_mono h hQ fun _ _ x => x
end L2

namespace L2
open PySem PySem.Spec PyProof.Rows
section
variable {X : Cx}

/-! ### names and constants -/
def tVar (i : Nat) : TE := fun σ H Q => ∃ v, σ[i]? = some (some v) ∧ Q v H
def tC (v : V) : TE := fun _ H Q => Q v H
theorem pe_var {i : Nat} {x : Str} {pos : Pos} (hN : X.N[i]? = some x) (hv : Vis X.env.scope x) (hd : (x == ("__debug__" : Str)) = false := by decide) (hcd : (x == ("__classdict__" : Str)) = false := by decide) : PE X (.Name x pos) (tVar i) := by
  intro pins s σ H Q I h
  obtain ⟨v, e, h⟩ := h
  obtain ⟨m, hn, hl⟩ := I.loc
  obtain ⟨u, r, l⟩ := hl i x v hN e hv
  have fin : EP X pins σ Q u s := ⟨v, H, I, r, h⟩
  rcases l with ⟨hk, hm⟩ | ⟨hk, c, hc, hcell⟩
  · exact wpAny_Name (wpAny_loadName_local I.ok.kind hk hn hm fin) hd
  · rcases hk with hk | hk
    · exact wpAny_Name (wpAny_loadName_cell I.ok.kind hk hc hcell fin) hd
    · exact wpAny_Name (wpAny_loadName_free I.ok.kind hk hc hcell fin hcd) hd
theorem pe_int {i j pos} : PE X (.Constant (.int i) j pos) (tC (.int i)) := fun _ _ _ H _ I h => wpAny_Constant_int ⟨.int i, H, I.tok _, ⟨_, rfl⟩, h⟩
theorem pe_bl {b j pos} : PE X (.Constant (.bool b) j pos) (tC (.bl b)) := fun _ _ _ H _ I h => Constant_bool ⟨.bl b, H, I, rfl, h⟩
theorem pe_str {x j pos} : PE X (.Constant (.str x) j pos) (tC (.str x)) := fun _ _ _ H _ I h => Calls.Constant_str ⟨.str x, H, I.tok _, ⟨_, rfl⟩, h⟩

/-- a global name of the def -/
def Gl (X : Cx) (x : Str) : Prop := X.env.kindOf x = some .globalImplicit
theorem ld_glob {E : Value → Shared → Prop} {pins : List (Addr × Obj)} {s : Shared} {σ : St} {H : Hp} {x : Str} {u : Value} {pos : Pos} {Q : Value → Shared → Prop} (I : Inv X pins σ H s) (hg : Gl X x) (hm : X.mg x = some u) (h : Q u s)
    (hd : (x == ("__debug__" : Str)) = false := by decide) : wpAny (model X.prog X.w) X.A (eval (.Name x pos) X.env) Q E s :=
  Calls.Name_function_global I.ok.kind hg (Calls.loadGlobal_global (by rw [I.ok.glob]; exact I.mod.glob.keeps I.bk) hm h) hd
theorem ld_blt {E : Value → Shared → Prop} {pins : List (Addr × Obj)} {s : Shared} {σ : St} {H : Hp} {x : Str} {u : Value} {pos : Pos} {Q : Value → Shared → Prop} (I : Inv X pins σ H s) (hg : Gl X x) (hm : X.mg x = none) (hv : bootBuiltins x = some u) (h : Q u s)
    (hn : x ≠ "__name__" := by decide) (hd : (x == ("__debug__" : Str)) = false := by decide) : wpAny (model X.prog X.w) X.A (eval (.Name x pos) X.env) Q E s := by
  obtain ⟨mb, h1, h2⟩ := I.mod.blt
  exact Calls.Name_function_global I.ok.kind hg (Calls.loadGlobal_builtin (by rw [I.ok.glob]; exact I.mod.glob.keeps I.bk) hm (by rw [I.ok.blt]; exact h1.keeps I.bk) ((h2 x hn).trans hv) h) hd
/-- a module's constant, a class, a function, as a value -/
theorem pe_glob {x : Str} {v : V} {u : Value} {pos : Pos} (hg : Gl X x) (hm : X.mg x = some u) (r : RelV v u) (hd : (x == ("__debug__" : Str)) = false := by decide) : PE X (.Name x pos) (tC v) :=
  fun _ _ _ H _ I h => ld_glob I hg hm ⟨v, H, I, r, h⟩ hd
theorem pe_bltn {x : Str} {v : V} {u : Value} {pos : Pos} (hg : Gl X x) (hm : X.mg x = none) (hv : bootBuiltins x = some u) (r : RelV v u) (hn : x ≠ "__name__" := by decide) (hd : (x == ("__debug__" : Str)) = false := by decide) : PE X (.Name x pos) (tC v) :=
  fun _ _ _ H _ I h => ld_blt I hg hm hv ⟨v, H, I, r, h⟩ hn hd

/-! ### arithmetic -/
/-- two ints -/
def t2I (ta tb : TE) (k : Int → Int → Hp → Prop) : St → Hp → Prop := fun σ H => ta σ H fun x H1 => tb σ H1 fun y H2 => ∃ i j, x = .int i ∧ y = .int j ∧ k i j H2
def tAdd (ta tb : TE) : TE := fun σ H Q => t2I ta tb (fun i j H2 => Q (.int (i + j)) H2) σ H
def tSub (ta tb : TE) : TE := fun σ H Q => t2I ta tb (fun i j H2 => Q (.int (i - j)) H2) σ H
/-- the left factor below 2^64 -/
def tMul (ta tb : TE) : TE := fun σ H Q => t2I ta tb (fun i j H2 => (-(2 ^ 64) < i ∧ i < 2 ^ 64) ∧ Q (.int (i * j)) H2) σ H
variable {a b : Expr} {ta tb : TE} {pos : Pos}
/-! ### comparisons -/
def PC (X : Cx) (op : CmpOp) (a b : Expr) (t : TE) : Prop :=
  ∀ (pins : List (Addr × Obj)) (s : Shared) (σ : St) (H : Hp) (Q : VK), Inv X pins σ H s → t σ H Q →
    wpAny (model X.prog X.w) X.A (eval a X.env) (fun v s₁ => wpAny (model X.prog X.w) X.A (eval b X.env) (fun u s₂ => wpAny (model X.prog X.w) X.A (compareOp op v u) (EP X pins σ Q) X.xe s₂) X.xe s₁) X.xe s
def tCmp (p : Int → Int → Bool) (ta tb : TE) : TE := fun σ H Q => t2I ta tb (fun i j H2 => Q (.bl (p i j)) H2) σ H
abbrev tLt : TE → TE → TE := tCmp fun i j => decide (i < j)
abbrev tLe : TE → TE → TE := tCmp fun i j => decide (i ≤ j)
abbrev tGt : TE → TE → TE := tCmp fun i j => decide (j < i)
abbrev tGe : TE → TE → TE := tCmp fun i j => decide (j ≤ i)
abbrev tEqI : TE → TE → TE := tCmp fun i j => decide (i = j)
abbrev tNeI : TE → TE → TE := tCmp fun i j => !decide (i = j)
/-- is None -/
def tIsN (ta : TE) : TE := fun σ H Q => ta σ H fun x H1 => Q (.bl (decide (x = .non))) H1
def tNotN (ta : TE) : TE := fun σ H Q => ta σ H fun x H1 => Q (.bl (!decide (x = .non))) H1
/-- a comparison as a value, as a test -/
def tB (t : TE) : TT := fun σ H Q => t σ H fun x H1 => ∃ c, x = .bl c ∧ Q c H1
/-- an expression whose value is a bool, as a test -/
theorem pt_val {e : Expr} {t : TE} (h : PE X e t) (he : ∀ whole, isTrue e X.env whole = (do let v ← whole; standAt e.pos; holding [v] (truthy v)) := by intro _; rfl) : PT X e (tB t) := by
  intro pins s σ H Q I hw
  refine isTrue_plain (thn (h pins s σ H _ I hw) fun v s1 ⟨x, H1, I1, r1, q1⟩ => ?_) (he _)
  obtain ⟨d, rfl, q⟩ := q1
  cases r1
  exact wpAny_truthy_bool ⟨H1, I1, q⟩

/-! ### and, or, not -/
variable {tA tB' : TT} {rest : List Expr}
def tAnd (t u : TT) : TT := fun σ H Q => t σ H fun c H1 => if c = true then u σ H1 Q else Q false H1
def tOr (t u : TT) : TT := fun σ H Q => t σ H fun c H1 => if c = true then Q true H1 else u σ H1 Q
def tNot (t : TT) : TT := fun σ H Q => t σ H fun c H1 => Q (!c) H1
theorem pw_or1 (ha : PT X a tA) : PW X (.BoolOp .Or [a] pos) tA := by
  intro wh pins s σ H Q I h
  refine isTrue_or (thn (ha pins s σ H Q I h) fun c s1 e => ?_)
  cases c with
  | false => exact isTrue_or_nil e
  | true => exact e
theorem pw_or (ha : PT X a tA) (hb : PW X (.BoolOp .Or (b :: rest) pos) tB') : PW X (.BoolOp .Or (a :: b :: rest) pos) (tOr tA tB') := by
  intro wh pins s σ H Q I h
  refine isTrue_or (thn (ha pins s σ H _ I h) fun c s1 ⟨H1, I1, q1⟩ => ?_)
  cases c with
  | true => exact ⟨H1, I1, q1⟩
  | false => exact hb wh pins s1 σ H1 Q I1 q1
theorem pt_not (ha : PT X a tA) : PT X (.UnaryOp .Not a pos) (tNot tA) := by
  intro pins s σ H Q I h
  exact isTrue_not (ha pins s σ H (fun c H1 => Q (!c) H1) I h)
/-- .. as values (bools) -/
def tAndV (ta tb : TE) : TE := fun σ H Q => ta σ H fun x H1 => ∃ c, x = .bl c ∧ if c = true then tb σ H1 Q else Q (.bl false) H1
def tOrV (ta tb : TE) : TE := fun σ H Q => ta σ H fun x H1 => ∃ c, x = .bl c ∧ if c = true then Q (.bl true) H1 else tb σ H1 Q
def tNotV (ta : TE) : TE := fun σ H Q => ta σ H fun x H1 => ∃ c, x = .bl c ∧ Q (.bl (!c)) H1
theorem pe_one {op} {t : TE} (h : PE X a t) : PE X (.BoolOp op [a] pos) t := fun pins s σ H Q I hw => BoolOp_one (h pins s σ H Q I hw)
theorem pe_and (ha : PE X a ta) (hb : PE X (.BoolOp .And (b :: rest) pos) tb) : PE X (.BoolOp .And (a :: b :: rest) pos) (tAndV ta tb) := by
  intro pins s σ H Q I h
  refine BoolOp_and (thn (ha pins s σ H _ I h) fun v s1 ⟨x, H1, I1, r1, q1⟩ => ?_)
  obtain ⟨c, rfl, q1⟩ := q1
  cases r1
  refine wpAny_truthy_bool ?_
  cases c with
  | true => exact hb pins s1 σ H1 Q I1 q1
  | false => exact ⟨.bl false, H1, I1, rfl, q1⟩
theorem pe_not (ha : PE X a ta) : PE X (.UnaryOp .Not a pos) (tNotV ta) := by
  intro pins s σ H Q I h
  refine UnaryOp_ (thn (ha pins s σ H _ I h) fun v s1 ⟨x, H1, I1, r1, q1⟩ => ?_)
  obtain ⟨c, rfl, q1⟩ := q1
  cases r1
  exact not_of (wpAny_truthy_bool ⟨.bl (!c), H1, I1, rfl, q1⟩)
/-- a if t else b -/
def tIf (t : TT) (ta tb : TE) : TE := fun σ H Q => t σ H fun c H1 => if c = true then ta σ H1 Q else tb σ H1 Q
theorem pe_ifExp {c : Expr} (hc : PT X c tA) (ha : PE X a ta) (hb : PE X b tb) : PE X (.IfExp c a b pos) (tIf tA ta tb) := by
  intro pins s σ H Q I h
  refine wpAny_IfExp (thn (hc pins s σ H _ I h) fun d s1 ⟨H1, I1, q1⟩ => ?_)
  cases d with
  | true => exact ha pins s1 σ H1 Q I1 q1
  | false => exact hb pins s1 σ H1 Q I1 q1
end
end L2

namespace L2
open PySem PySem.Spec PyProof.Rows

/-! ### a list, a tuple that is read: tracked, frozen, or an object of the module -/
def SqL (K : PySem.W.Frag) (H : Hp) (a : Addr) (xs : List V) : Prop :=
  Rd H a (.lst xs) ∨
    ∃ (o : Obj) (its : Array Value) (n : Nat), K.lookup a = some o ∧ o.cls = .type "list" ∧ o.dict = none ∧ o.data = .seq its n ∧ its.size ≤ sizeLine ∧ Vals xs its.toList
def SqT (K : PySem.W.Frag) (H : Hp) (a : Addr) (xs : List V) : Prop :=
  Rd H a (.tup xs) ∨
    ∃ (o : Obj) (its : Array Value) (n : Nat), K.lookup a = some o ∧ o.cls = .type "tuple" ∧ o.data = .seq its n ∧ its.size ≤ sizeLine ∧ Vals xs its.toList
def absV : Value → Option V
  | .none => some .non
  | .bool b => some (.bl b)
  | .int i _ => some (.int i)
  | .str x _ => some (.str x)
  | .bytes b _ => some (.byt b)
  | .float b _ => some (.flt b)
  | .ref a => some (.ref a)
  | .type n => some (.ty n)
  | _ => none
theorem RelV.abs {x : V} {u : Value} (r : RelV x u) : absV u = some x := by
  cases x with
  | non => cases r; rfl
  | bl _ => cases r; rfl
  | int _ => obtain ⟨t, rfl⟩ := r; rfl
  | str _ => obtain ⟨t, rfl⟩ := r; rfl
  | byt _ => obtain ⟨t, rfl⟩ := r; rfl
  | flt _ => obtain ⟨t, rfl⟩ := r; rfl
  | ref _ => cases r; rfl
  | ty _ => cases r; rfl
theorem RelV.inj {x y : V} {u : Value} (r : RelV x u) (q : RelV y u) : x = y := Option.some.inj (r.abs.symm.trans q.abs)
theorem Vals.inj : ∀ {xs ys : List V} {us : List Value}, Vals xs us → Vals ys us → xs = ys
  | _, _, _, .nil, .nil => rfl
  | _, _, _, .cons r t, .cons r' t' => by rw [r.inj r', Vals.inj t t']
section
variable {X : Cx} {pins : List (Addr × Obj)} {σ : St} {H : Hp} {s : Shared} {a : Addr} {xs ys : List V}
theorem SqL.of {K : PySem.W.Frag} (h : H a = some (.lst xs)) : SqL K H a xs := .inl (.inl h)
theorem SqT.of {K : PySem.W.Frag} (h : H a = some (.tup xs)) : SqT K H a xs := .inl (.inl h)
theorem Inv.list (I : Inv X pins σ H s) (h : SqL X.K H a xs) : ∃ its : List Value, Vals xs its ∧ PlainL s.heap a its.toArray ∧ xs.length ≤ sizeLine := by
  rcases h with h | ⟨o, its, n, hk, hc, hd, hs, hz, r⟩
  · obtain ⟨z, its, n, r, e⟩ := h.ok I.hok
    exact ⟨its, r, ⟨_, n, e, rfl, rfl, rfl⟩, z⟩
  · refine ⟨its.toList, r, ⟨o, n, I.kIn a o hk, hc, hd, by simpa using hs⟩, ?_⟩
    have e := r.length
    simp only [Array.length_toList] at e
    omega
theorem Inv.tuple (I : Inv X pins σ H s) (h : SqT X.K H a xs) : ∃ its : List Value, Vals xs its ∧ IsTup s.heap a its.toArray ∧ xs.length ≤ sizeLine := by
  rcases h with h | ⟨o, its, n, hk, hc, hs, hz, r⟩
  · obtain ⟨z, its, r, p⟩ := h.ok I.hok
    exact ⟨its, r, p, z⟩
  · refine ⟨its.toList, r, ⟨o, I.kIn a o hk, hc, n, by simpa using hs⟩, ?_⟩
    have e := r.length
    simp only [Array.length_toList] at e
    omega
theorem Inv.list_inj (I : Inv X pins σ H s) (h : SqL X.K H a xs) (h' : SqL X.K H a ys) : xs = ys := by
  obtain ⟨its, r, ⟨o, n, e, _, _, d⟩, _⟩ := I.list h
  obtain ⟨its', r', ⟨o', n', e', _, _, d'⟩, _⟩ := I.list h'
  rw [e] at e'; cases e'
  rw [d] at d'
  injection d' with d1 _
  have : its = its' := by simpa using congrArg Array.toList d1
  subst this
  exact r.inj r'
end

/-! ### another wish about exceptions -/
abbrev Cx.wish (X : Cx) (E : Value → Shared → Prop) : Cx := { X with xe := E }
/-- no exception leaves -/
abbrev Cx.nox (X : Cx) : Cx := X.wish fun _ _ => False
section
variable {X : Cx} {pins : List (Addr × Obj)} {σ : St} {H : Hp} {s : Shared} {E : Value → Shared → Prop}
end

/-! ### blocks and small statements -/
section
variable {X : Cx} {st : Stmt} {rest : List Stmt} {t u : TS} {e : Expr} {te : TE} {pos : Pos}
def tNext : TS := fun D σ H => D.nx σ H
def tSeq (t u : TS) : TS := fun D σ H => t { D with nx := u D } σ H
theorem pss_nil : PSs X [] tNext := fun _ _ σ H _ I h => wpAny_execs_nil ⟨σ, H, I, h⟩
theorem pss_cons (h1 : PS X st t) (h2 : PSs X rest u) : PSs X (st :: rest) (tSeq t u) := by
  intro pins s σ H D I h
  refine wpAny_execs_cons (thn (h1 pins s σ H { D with nx := u D } I h) fun f s1 q => ?_)
  cases f with
  | next =>
    obtain ⟨σ', H', I', q⟩ := q
    exact h2 pins s1 σ' H' D I' q
  | ret v => exact q
  | brk => exact q
  | cont => exact q
theorem pss_one (h1 : PS X st t) : PSs X [st] t := by
  intro pins s σ H D I h
  refine wpAny_execs_cons (thn (h1 pins s σ H D I h) fun f s1 q => ?_)
  cases f with
  | next => exact wpAny_execs_nil q
  | ret v => exact q
  | brk => exact q
  | cont => exact q
def tBreak : TS := fun D σ H => D.bk σ H
def tCont : TS := fun D σ H => D.ct σ H
/-- in a def's body nothing is shown -/
theorem Inv.quiet {pins : List (Addr × Obj)} {σ : St} {H : Hp} {s : Shared} (I : Inv X pins σ H s) : interactive X.env = false := by simp [interactive, I.ok.kind]
/-- an expression whose value is dropped -/
def tDrop (te : TE) : TS := fun D σ H => te σ H fun _ H1 => D.nx σ H1
theorem ps_expr (he : PE X e te) (hs : swapsWith e none pos.line X.env = pure false := by rfl) : PS X (.Expr e pos) (tDrop te) := by
  intro pins s σ H D I h
  exact wpAny_Expr_any (thn (he pins s σ H _ I h) fun v s1 ⟨x, H1, I1, r1, q1⟩ => ⟨σ, H1, I1, q1⟩) I.quiet hs
def tRet (te : TE) : TS := fun D σ H => te σ H D.rt
theorem ps_ret (he : PE X e te) : PS X (.Return (some e) pos) (tRet te) := by
  intro pins s σ H D I h
  exact wpAny_Return_some (thn (he pins s σ H _ I h) fun v s1 ⟨x, H1, I1, r1, q1⟩ => ⟨x, σ, H1, I1, r1, q1⟩)
def tRetN : TS := fun D _ H => D.rt .non H
def tIfS (c : TT) (t u : TS) : TS := fun D σ H => c σ H fun b H1 => if b = true then t D σ H1 else u D σ H1
theorem ps_if {c : Expr} {a b : List Stmt} {tc : TT} (hc : PT X c tc) (ha : PSs X a t) (hb : PSs X b u) : PS X (.If c a b pos) (tIfS tc t u) := by
  intro pins s σ H D I h
  refine wpAny_If (thn (hc pins s σ H _ I h) fun d s1 ⟨H1, I1, q1⟩ => ?_)
  cases d with
  | true => exact ha pins s1 σ H1 D I1 q1
  | false => exact hb pins s1 σ H1 D I1 q1
/-- code that the proof never comes to -/
def tNever : TS := fun _ _ _ => False
theorem pss_never {sts : List Stmt} : PSs X sts tNever := fun _ _ _ _ _ _ h => h.elim
end

/-! ### targets -/
abbrev TG := V → St → Hp → (St → Hp → Prop) → Prop
abbrev TGs := List V → St → Hp → (St → Hp → Prop) → Prop
def PG (X : Cx) (target : Expr) (t : TG) : Prop :=
  ∀ (pins : List (Addr × Obj)) (s : Shared) (σ : St) (H : Hp) (v : V) (u : Value) (Q : St → Hp → Prop), Inv X pins σ H s → RelV v u → t v σ H Q →
    wpAny (model X.prog X.w) X.A (assign target X.env u) (fun _ s' => ∃ σ' H', Inv X pins σ' H' s' ∧ Q σ' H') X.xe s
/-- several targets, one after another -/
def PGs (X : Cx) (ts : List Expr) (t : TGs) : Prop :=
  ∀ (pins : List (Addr × Obj)) (s : Shared) (σ : St) (H : Hp) (vs : List V) (us : List Value) (Q : St → Hp → Prop), Inv X pins σ H s → Vals vs us → t vs σ H Q →
    wpAny (model X.prog X.w) X.A (assignInOrder ((assignEach ts X.env).map (·.2)) us) (fun _ s' => ∃ σ' H', Inv X pins σ' H' s' ∧ Q σ' H') X.xe s
/-- o[i] = v, by values -/
abbrev TSet := V → V → V → Hp → (Hp → Prop) → Prop
def PSet (X : Cx) (t : TSet) : Prop :=
  ∀ (pins : List (Addr × Obj)) (s : Shared) (σ : St) (H : Hp) (o i v : V) (ov iv u : Value) (Q : Hp → Prop), Inv X pins σ H s → RelV o ov → RelV i iv → RelV v u → t o i v H Q →
    wpAny (model X.prog X.w) X.A (setItem ov iv u) (fun _ s' => ∃ H', Inv X pins σ H' s' ∧ Q H') X.xe s
/-- a op= b, by values -/
abbrev TIp := V → V → Hp → VK → Prop
def PIp (X : Cx) (op : Operator) (t : TIp) : Prop :=
  ∀ (pins : List (Addr × Obj)) (s : Shared) (σ : St) (H : Hp) (x y : V) (v u : Value) (Q : VK), Inv X pins σ H s → RelV x v → RelV y u → t x y H Q →
    wpAny (model X.prog X.w) X.A (inplaceOp op v u) (EP X pins σ Q) X.xe s
section
variable {X : Cx} {pos : Pos}
def gName (i : Nat) : TG := fun v σ H Q => Q (σ.set i (some v)) H
theorem pg_name {i : Nat} {x : Str} (hN : X.N.Nodup) (hi : X.N[i]? = some x) (hx : Loc X.env.scope x) (hf : X.fn x = true ∨ X.env.scope.names.lookup x = some .local := by first | exact .inl rfl | exact .inr rfl | assumption) : PG X (.Name x pos) (gName i) := by
  intro pins s σ H v u Q I r h
  exact wpAny_assign_Name (store_ok I hN hi hx r (fun s' I' => ⟨_, H, I', h⟩) hf)
def gNil : TGs := fun vs σ H Q => vs = [] ∧ Q σ H
def gCons (t : TG) (u : TGs) : TGs := fun vs σ H Q => ∃ v r, vs = v :: r ∧ t v σ H fun σ' H' => u r σ' H' Q
/-- (a, b, ..) = a tuple of that length -/
def gTup (K : PySem.W.Frag) (n : Nat) (t : TGs) : TG := fun v σ H Q => ∃ a xs, v = .ref a ∧ SqT K H a xs ∧ xs.length = n ∧ t xs σ H Q
/-- o[i] = .. -/
def gSub (to ti : TE) (t : TSet) : TG := fun v σ H Q => to σ H fun o H1 => ti σ H1 fun i H2 => t o i v H2 fun H3 => Q σ H3
theorem pg_sub {o i : Expr} {to ti : TE} {t : TSet} (ho : PE X o to) (hi : PE X i ti) (hs : PSet X t)
    (ha : ∀ v, assign (.Subscript o i pos) X.env v = (do
      let ov ← holding [v] (eval o X.env)
      let iv ← holding [v, ov] (eval i X.env)
      standAt pos
      holding [v, ov, iv] (setItem ov iv v)
      release [v, ov, iv] []) := by intro _; rfl) : PG X (.Subscript o i pos) (gSub to ti t) := by
  intro pins s σ H v u Q I r h
  rw [ha]
  refine wpAny_bind (wpAny_holding (thn (ho pins s σ H _ I h) fun ov s1 ⟨x, H1, I1, r1, q1⟩ => ?_))
  refine wpAny_bind (wpAny_holding (thn (hi pins s1 σ H1 _ I1 q1) fun iv s2 ⟨y, H2, I2, r2, q2⟩ => ?_))
  refine wpAny_bind (wpAny_standAt (wpAny_bind (wpAny_holding (thn (hs pins s2 σ H2 x y v ov iv u _ I2 r1 r2 r q2) fun _ s3 ⟨H3, I3, q3⟩ => ?_))))
  exact wpAny_release ⟨σ, H3, I3, q3⟩
/-- target = value -/
def tAsg (te : TE) (g : TG) : TS := fun D σ H => te σ H fun x H1 => g x σ H1 D.nx
theorem ps_asg {tg e : Expr} {te : TE} {g : TG} (he : PE X e te) (hg : PG X tg g) (hs : swapsWithSole [tg] e pos.line X.env = pure false := by rfl) (hw : swappedStores [tg] e X.env = pure none := by rfl)
    (h1 : (assignEach [tg] X.env).map (·.2) = [assign tg X.env] := by rfl) : PS X (.Assign [tg] e pos) (tAsg te g) := by
  intro pins s σ H D I h
  refine wpAny_Assign_stores (thn (he pins s σ H _ I h) fun v s1 ⟨x, H1, I1, r1, q1⟩ => ?_) hs hw
  rw [h1]
  exact thn (hg pins s1 σ H1 x v _ I1 r1 q1) fun _ s2 q => q
/-- name = value -/
theorem ps_set {i : Nat} {x : Str} {e : Expr} {te : TE} {pos' : Pos} (hN : X.N.Nodup) (hi : X.N[i]? = some x) (hx : Loc X.env.scope x) (he : PE X e te) (hs : swapsWith e (some (.Name x pos')) pos.line X.env = pure false := by rfl) (hf : X.fn x = true ∨ X.env.scope.names.lookup x = some .local := by first | exact .inl rfl | exact .inr rfl | assumption) :
    PS X (.Assign [.Name x pos'] e pos) (tAsg te (gName i)) := by
  intro pins s σ H D I h
  refine wpAny_Assign_Name (thn (he pins s σ H _ I h) fun v s1 ⟨y, H1, I1, r1, q1⟩ => ?_) hs
  exact store_ok I1 hN hi hx r1 (fun s2 I2 => ⟨_, H1, I2, q1⟩) hf
/-- a, b = x, y with plain local names: stored from the right; the pair itself is not tracked (the opening rows as in PyProof/Rows/TupAssign.lean:23) -/
def tPar (i j : Nat) (ta : TA) : TS := fun D σ H => ta σ H fun vs H1 => ∃ v w, vs = [v, w] ∧ D.nx ((σ.set i (some v)).set j (some w)) H1
/-- name op= e -/
def tAug (i : Nat) (te : TE) (ti : TIp) : TS := fun D σ H => ∃ x, σ[i]? = some (some x) ∧ te σ H fun y H1 => ti x y H1 fun z H2 => D.nx (σ.set i (some z)) H2
/-- o[i] op= e -/
def tAugS (to ti te : TE) (tget : V → V → Hp → VK → Prop) (tip : TIp) (tset : TSet) : TS := fun D σ H => to σ H fun o H1 => ti σ H1 fun i H2 => tget o i H2 fun x H3 => te σ H3 fun y H4 => tip x y H4 fun z H5 => tset o i z H5 fun H6 => D.nx σ H6
/-- o[i], by values -/
def PGet (X : Cx) (t : V → V → Hp → VK → Prop) : Prop :=
  ∀ (pins : List (Addr × Obj)) (s : Shared) (σ : St) (H : Hp) (o i : V) (ov iv : Value) (Q : VK), Inv X pins σ H s → RelV o ov → RelV i iv → t o i H Q →
    wpAny (model X.prog X.w) X.A (getItem ov iv) (EP X pins σ Q) X.xe s
/-- ints -/
def ipI (f : Int → Int → Int) : TIp := fun x y H Q => ∃ i j, x = .int i ∧ y = .int j ∧ Q (.int (f i j)) H
end

/-! ### while -/
section
variable {X : Cx} {pos : Pos}
/-- the invariant W with its measure -/
def tWhile (c : TT) (tb : TS) : TS := fun D σ H => ∃ W : Nat → St → Hp → Prop, (∃ m, W m σ H) ∧ ∀ m σ H, W m σ H →
  c σ H fun b H1 => if b = true then ∃ N : St → Hp → Prop, (∀ σ' H', N σ' H' → ∃ m', m' < m ∧ W m' σ' H') ∧ tb { D with nx := N, ct := N, bk := D.nx } σ H1 else D.nx σ H1
end

/-! ### what a loop or a comprehension walks -/
/-- at turn i: it yields x (the heap may grow), or it stops -/
structure It where
  go : Nat → Hp → Prop
  yld : Nat → Hp → V → Hp → Prop
  stop : Nat → Hp → Prop
/-- the iterator's own objects may turn: they are not the frame's, not pinned, younger than the entry (or a comprehension's own) -/
def FpOk (X : Cx) (pins : List (Addr × Obj)) (H : Hp) (b : Addr) : Prop :=
  H b = none ∧ b ≠ X.env.locals ∧ b ∉ X.fs ∧ (b ∈ X.ex ∨ X.s₀.heap.objs.size ≤ b) ∧ (∀ x c, X.env.cells.lookup x = some c → c ≠ b) ∧ ∀ p ∈ X.pn ++ pins, p.1 ≠ b
theorem Inv.fpOk {X : Cx} {pins : List (Addr × Obj)} {σ : St} {H H' : Hp} {s : Shared} {b : Addr} (I : Inv X pins σ H s) (hb : s.heap.objs.size ≤ b) (hn : H' b = none) : FpOk X pins H' b := by
  refine ⟨hn, Nat.ne_of_gt (Nat.lt_of_lt_of_le I.lt hb), I.nofs hb, .inr (Nat.le_trans I.sz hb), fun x c e z => ?_, fun p hp z => ?_⟩
  · obtain ⟨v, q⟩ := I.cell x c e
    exact absurd (Nat.lt_of_lt_of_le q.lt (by rw [z]; exact hb)) (Nat.lt_irrefl _)
  · exact absurd (Nat.lt_of_lt_of_le (Heap.lt_size (I.pin p hp).1) (by rw [z]; exact hb)) (Nat.lt_irrefl _)
structure Turn (P : Program) (w : World) (K : PySem.W.Frag) (tg : Expr) (J : It) (fp : List Addr) (it : Addr) (tn : Nat → Heap → Prop) : Prop where
  mem : it ∈ fp
  obj : ∀ i h, tn i h → ∀ b ∈ fp, ∃ o, h.get? b = some o ∧ ∀ v, o.data ≠ .cell v
  keep : ∀ i h h', tn i h → (∀ b ∈ fp, ∀ o, h.get? b = some o → h'.get? b = some o) → tn i h'
  item : ∀ (X : Cx), X.prog = P → X.w = w → X.K = K → X.calm = true → ∀ (i : Nat) (pins : List (Addr × Obj)) (s : Shared) (σ : St) (H : Hp) (E : Value → Shared → Prop), Inv X pins σ H s → (∀ b ∈ fp, FpOk X pins H b) → tn i s.heap → J.go i H →
    wpAny (model P w) X.A (pyNext (.ref it)) (fun r s1 => ∃ u, r = some u ∧
      wpAny (model P w) X.A (letOwnedTupleGo tg (.ref it) u) (fun _ s2 => ∃ x H', Inv X pins σ H' s2 ∧ RelV x u ∧ J.yld i H x H' ∧ tn (i + 1) s2.heap ∧ ∀ b ∈ fp, H' b = none) E s1) E s
  done : ∀ (X : Cx), X.prog = P → X.w = w → X.K = K → X.calm = true → ∀ (i : Nat) (pins : List (Addr × Obj)) (s : Shared) (σ : St) (H : Hp) (E : Value → Shared → Prop), Inv X pins σ H s → (∀ b ∈ fp, FpOk X pins H b) → tn i s.heap → J.stop i H →
    wpAny (model P w) X.A (pyNext (.ref it)) (fun r s1 => r = none ∧ Inv X pins σ H s1) E s
  self : ∀ (A : Around) (i : Nat) (s : Shared) (Q : Value → Shared → Prop) (E : Value → Shared → Prop), tn i s.heap → Q (.ref it) s → wpAny (model P w) A (pyIter (.ref it)) Q E s
abbrev TI := St → Hp → (It → Hp → Prop) → Prop
/-- an iterator has come -/
def PIE (X : Cx) (pins : List (Addr × Obj)) (σ : St) (tg : Expr) (R : It → Hp → Prop) (itv : Value) (s2 : Shared) : Prop :=
  ∃ (it : Addr) (fp : List Addr) (tn : Nat → Heap → Prop) (J : It) (H' : Hp), itv = .ref it ∧ Inv X pins σ H' s2 ∧ Turn X.prog X.w X.K tg J fp it tn ∧ tn 0 s2.heap ∧ (∀ b ∈ fp, FpOk X pins H' b) ∧ R J H'
def PI (X : Cx) (tg iter : Expr) (wi : TI) : Prop :=
  ∀ (pins : List (Addr × Obj)) (s : Shared) (σ : St) (H : Hp) (R : It → Hp → Prop), Inv X pins σ H s → wi σ H R →
    wpAny (model X.prog X.w) X.A (eval iter X.env) (fun v s1 => wpAny (model X.prog X.w) X.A (pyIter v) (PIE X pins σ tg R) X.xe s1) X.xe s

/-- the step ahead of the store is nothing for an iterator that keeps no tuple -/
theorem go_of {M : Model} {A : Around} {E : Value → Shared → Prop} {s : Shared} {tg : Expr} {it : Addr} {u : Value} {o : Obj} {n : String} {vs : Array Value} {Q : Unit → Shared → Prop} (ho : s.heap.get? it = some o) (hc : o.cls = .type n) (hd : o.data = .fields vs)
    (hn : ["enumerate", "zip", "dict_itemiterator", "dict_reverseitemiterator", "odict_iterator", "itertools.zip_longest", "itertools.pairwise"].contains n = false) (hQ : Q () s) : wpAny M A (letOwnedTupleGo tg (.ref it) u) Q E s := by
  unfold letOwnedTupleGo
  cases tg <;> first
    | exact wpAny_pure hQ
    | (cases u <;> first
        | exact wpAny_pure hQ
        | (refine wpAny_bind (wpAny_load ho ?_)
           rw [hc, hd]
           show wpAny M A (if (["enumerate", "zip", "dict_itemiterator", "dict_reverseitemiterator", "odict_iterator", "itertools.zip_longest", "itertools.pairwise"].contains n && vs[0]? == some (rawInt _)) = true then _ else _) Q E s
           rw [if_neg (by intro h; rw [hn, Bool.false_and] at h; cases h)]
           exact wpAny_pure hQ))

/-- the list at a, as it stands at each turn (a loop may append to it) -/
def Itl (K : PySem.W.Frag) (a : Addr) : It :=
  ⟨fun i H => ∃ xs x, SqL K H a xs ∧ xs[i]? = some x, fun i H x H' => H' = H ∧ ∀ xs, SqL K H a xs → xs[i]? = some x, fun i H => ∃ xs, SqL K H a xs ∧ xs.length ≤ i⟩
def Itt (K : PySem.W.Frag) (a : Addr) : It :=
  ⟨fun i H => ∃ xs x, SqT K H a xs ∧ xs[i]? = some x, fun i H x H' => H' = H ∧ ∀ xs, SqT K H a xs → xs[i]? = some x, fun i H => ∃ xs, SqT K H a xs ∧ xs.length ≤ i⟩
/-- lo, lo + 1, .. (n of them) -/
def Itr (lo : Int) (n : Nat) : It := ⟨fun i _ => i < n, fun i H x H' => H' = H ∧ x = .int (lo + i), fun i _ => n ≤ i⟩
theorem turn_list {P : Program} {w : World} {K : PySem.W.Frag} {tg : Expr} (a it : Addr) : Turn P w K tg (Itl K a) [it] it (fun i h => h.IsListIter it a i) where
  mem := by simp
  obj := fun i h st b hb => by
    have e : b = it := by simpa using hb
    subst e
    obtain ⟨o, e, c, d⟩ := st
    exact ⟨o, e, fun v z => by rw [d] at z; cases z⟩
  keep := fun i h h' st k => st.at fun o e => k it (by simp) o e
  item := by
    intro X hP hw hK hc i pins s σ H E I hf st hg
    subst hP hw hK
    obtain ⟨xs, x, hq, hx⟩ := hg
    obtain ⟨its, rv, p, hz⟩ := I.list hq
    obtain ⟨u, hu, ru⟩ := rv.get hx
    obtain ⟨f0, f1, f2, f3, f4, f5⟩ := hf it (by simp)
    refine wpAny_pyNext_list_item st p.isList (x := u) (by simpa using hu) fun h' st' sb => ?_
    have I1 : Inv X pins σ H { s with heap := h' } := I.turned (t' := s.toks) (fun b o hb e => (sb.2 b hb).trans e) f0 f1 f3 f4 f5
    obtain ⟨o, e, c, d⟩ := id st'
    exact ⟨u, rfl, go_of (s := { s with heap := h' }) e c d (by decide) ⟨x, H, I1, ru, ⟨rfl, fun ys hy => by rw [I.list_inj hy hq]; exact hx⟩, st', fun b hb => (hf b hb).1⟩⟩
  done := by
    intro X hP hw hK hc i pins s σ H E I hf st hg
    subst hP hw hK
    obtain ⟨xs, hq, hx⟩ := hg
    obtain ⟨its, rv, p, hz⟩ := I.list hq
    obtain ⟨f0, f1, f2, f3, f4, f5⟩ := hf it (by simp)
    have hl := rv.length
    exact wpAny_pyNext_list_end (I.ok.hd hc) st p.isList (by simp; omega) fun h' eb => ⟨rfl, I.turned (t' := s.toks) (fun b o hb e => eb b o hb e) f0 f1 f3 f4 f5⟩
  self := fun _ _ _ _ _ st h => wpAny_pyIter_listiter st h
theorem turn_range {P : Program} {w : World} {K : PySem.W.Frag} {tg : Expr} (it : Addr) (lo : Int) (n : Nat) : Turn P w K tg (Itr lo n) [it] it (fun i h => IsRangeIter h it (lo + (i : Nat) * 1) ((n : Int) - (i : Nat)) 1) where
  mem := by simp
  obj := fun i h st b hb => by
    have e : b = it := by simpa using hb
    subst e
    exact ⟨_, st, fun v z => by
      have z' : Data.fields _ = Data.cell v := z
      cases z'⟩
  keep := fun i h h' st k => k it (by simp) _ st
  item := by
    intro X hP hw hK hc i pins s σ H E I hf st hg
    subst hP hw hK
    obtain ⟨f0, f1, f2, f3, f4, f5⟩ := hf it (by simp)
    have W := Walks.range (prog := X.prog) (w := X.w) (I.ok.hd hc) it lo 1 n
    refine W.item i s _ _ hg st fun v h' tk hv st' kk => ?_
    obtain ⟨t, rfl⟩ := hv
    have I1 : Inv X pins σ H { s with heap := h', toks := tk } := I.turned (fun b o hb e => kk b o (by simpa using hb) e) f0 f1 f3 f4 f5
    refine ⟨_, rfl, go_of (s := { s with heap := h', toks := tk }) (n := "range_iterator") st' rfl rfl (by decide) ⟨.int (lo + i), H, I1, ⟨t, ?_⟩, ⟨rfl, rfl⟩, st', fun b hb => (hf b hb).1⟩⟩
    rw [Int.mul_one]
  done := by
    intro X hP hw hK hc i pins s σ H E I hf st hg
    subst hP hw hK
    obtain ⟨f0, f1, f2, f3, f4, f5⟩ := hf it (by simp)
    exact wpAny_pyNext_range_end (I.ok.hd hc) st (by have : n ≤ i := hg; omega) fun h' eb => ⟨rfl, I.turned (t' := s.toks) (fun b o hb e => eb b o hb e) f0 f1 f3 f4 f5⟩
  self := fun _ _ _ _ _ st h => wpAny_pyIter_rangeiter st h
end L2

namespace L2
open PySem PySem.Spec PyProof.Rows
section
variable {X : Cx} {tg : Expr}
def iList (K : PySem.W.Frag) (tl : TE) : TI := fun σ H R => tl σ H fun x H1 => ∃ a, x = .ref a ∧ (∃ xs, SqL K H1 a xs) ∧ R (Itl K a) H1
def iTup (K : PySem.W.Frag) (tl : TE) : TI := fun σ H R => tl σ H fun x H1 => ∃ a, x = .ref a ∧ (∃ xs, SqT K H1 a xs) ∧ R (Itt K a) H1
theorem pi_list {l : Expr} {tl : TE} (hl : PE X l tl) : PI X tg l (iList X.K tl) := by
  intro pins s σ H R I h
  refine thn (hl pins s σ H _ I h) fun v s1 ⟨x, H1, I1, r1, q1⟩ => ?_
  obtain ⟨a, e, ⟨xs, hq⟩, q⟩ := q1
  subst e
  cases r1
  obtain ⟨its, rv, p, hz⟩ := I1.list hq
  refine wpAny_pyIter_list p.isList ?_
  refine ⟨s1.heap.objs.size, [s1.heap.objs.size], _, _, H1, rfl, I1.kept (t' := s1.toks) fun b o e => Heap.get?_push_of_some _ e, turn_list a _, ⟨_, Heap.get?_push_size _ rfl, rfl, rfl⟩, fun b hb => ?_, q⟩
  have e : b = s1.heap.objs.size := by simpa using hb
  subst e
  exact I1.fpOk (Nat.le_refl _) (I1.hok.fresh (Nat.le_refl _))
/-- a range object just made, walked -/
theorem range_it {pins : List (Addr × Obj)} {σ : St} {H : Hp} {s : Shared} {R : It → Hp → Prop} {E : Value → Shared → Prop} {lo hi : Int} {t u v : Tok} {tk : Nat} (I : Inv X pins σ H s) (h1 : -(2 ^ 62) ≤ lo) (h2 : lo < 2 ^ 62) (h3 : -(2 ^ 62) ≤ hi) (h4 : hi < 2 ^ 62)
    (q : R (Itr lo (hi - lo).toNat) H) : wpAny (model X.prog X.w) X.A (pyIter (.ref s.heap.objs.size)) (PIE X pins σ tg R) E { s with heap := s.heap.push { cls := .type "range", data := .fields #[.int lo t, .int hi u, .int 1 v] }, toks := tk } := by
  refine wpAny_pyIter_range (IsRange.new ..) (small_one h1 h2 h3 h4) ?_
  have I1 : Inv X pins σ H { s with heap := s.heap.push { cls := .type "range", data := .fields #[.int lo t, .int hi u, .int 1 v] }, toks := tk } := I.kept fun b o e => Heap.get?_push_of_some _ e
  refine ⟨(s.heap.push { cls := .type "range", data := .fields #[.int lo t, .int hi u, .int 1 v] }).objs.size, [(s.heap.push { cls := .type "range", data := .fields #[.int lo t, .int hi u, .int 1 v] }).objs.size], _, _, H, rfl,
    I1.kept (t' := tk) fun b o e => Heap.get?_push_of_some _ e, turn_range _ lo (hi - lo).toNat, ?_, fun b hb => ?_, q⟩
  · have e1 : lo + ((0 : Nat) : Int) * 1 = lo := by simp
    have e2 : (((hi - lo).toNat : Nat) : Int) - ((0 : Nat) : Int) = Builtin.Range.rangeSize lo hi 1 := by rw [rangeSize_one]; split <;> omega
    show IsRangeIter _ _ (lo + ((0 : Nat) : Int) * 1) ((((hi - lo).toNat : Nat) : Int) - ((0 : Nat) : Int)) 1
    rw [e1, e2]
    exact Heap.get?_push_size _ rfl
  · have e : b = (s.heap.push { cls := .type "range", data := .fields #[.int lo t, .int hi u, .int 1 v] }).objs.size := by simpa using hb
    subst e
    exact I1.fpOk (Nat.le_refl _) (I1.hok.fresh (Nat.le_refl _))
def iRng1 (ta : TA) : TI := fun σ H R => ta σ H fun vs H1 => ∃ j : Int, vs = [.int j] ∧ -(2 ^ 62) ≤ j ∧ j < 2 ^ 62 ∧ R (Itr 0 j.toNat) H1
def iRng2 (ta : TA) : TI := fun σ H R => ta σ H fun vs H1 => ∃ i j : Int, vs = [.int i, .int j] ∧ (-(2 ^ 62) ≤ i ∧ i < 2 ^ 62 ∧ -(2 ^ 62) ≤ j ∧ j < 2 ^ 62) ∧ R (Itr i (j - i).toNat) H1
theorem pi_range1 {a : Expr} {ta : TA} {p pos : Pos} (hg : Gl X "range") (hm : X.mg "range" = none) (ha : PA X [a] ta) (hs : starEach [a] X.env = [(false, eval a X.env)] := by rfl) : PI X tg (.Call (.Name "range" p) [a] [] pos) (iRng1 ta) := by
  intro pins s σ H R I h
  refine Call_ (ld_blt I hg hm boot_range (PyProof.Rows.callWith_type1 (thn (ha pos pins s σ H _ I h) fun us s1 ⟨vs, H1, I1, r1, q1⟩ => ?_) hs rfl))
  obtain ⟨j, e, q1, q2, q⟩ := q1
  subst e
  cases r1 with
  | cons r rr =>
    cases rr
    obtain ⟨t, rfl⟩ := r
    exact call_range_1 (range_it I1 (by omega) (by omega) q1 q2 (by simpa using q))
theorem pi_range2 {a b : Expr} {ta : TA} {p pos : Pos} (hg : Gl X "range") (hm : X.mg "range" = none) (ha : PA X [a, b] ta) (hs : starEach [a, b] X.env = [(false, eval a X.env), (false, eval b X.env)] := by rfl) (hs2 : starEach [b] X.env = [(false, eval b X.env)] := by rfl) :
    PI X tg (.Call (.Name "range" p) [a, b] [] pos) (iRng2 ta) := by
  intro pins s σ H R I h
  refine Call_ (ld_blt I hg hm boot_range (PyProof.Rows.callWith_type1 (thn (ha pos pins s σ H _ I h) fun us s1 ⟨vs, H1, I1, r1, q1⟩ => ?_) (by rw [hs, hs2]) (by rw [hs2]; rfl)))
  obtain ⟨i, j, e, ⟨q1, q2, q3, q4⟩, q⟩ := q1
  subst e
  cases r1 with
  | cons r rr =>
    cases rr with
    | cons r' rr =>
      cases rr
      obtain ⟨t, rfl⟩ := r
      obtain ⟨t', rfl⟩ := r'
      exact call_range_2 (range_it I1 q1 q2 q3 q4 q)

/-! ### for -/
/-- W: the invariant by the turn and a measure; N: what the body is to reach -/
def tFor (wi : TI) (g : TG) (tb : TS) : TS := fun D σ H => wi σ H fun J H1 => ∃ W : Nat → Nat → St → Hp → Prop, (∃ m, W 0 m σ H1) ∧ ∀ i m σ H, W i m σ H →
  (J.stop i H ∧ D.nx σ H) ∨ (J.go i H ∧ ∃ N : St → Hp → Prop, (∀ σ' H', N σ' H' → ∃ m', m' < m ∧ W (i + 1) m' σ' H') ∧ ∀ x H', J.yld i H x H' → g x σ H' fun σ2 H2 => tb { D with nx := N, ct := N, bk := D.nx } σ2 H2)
/-- the records at fp as they stand -/
def pinsAt (fp : List Addr) (h : Heap) : List (Addr × Obj) := fp.filterMap fun b => (h.get? b).map fun o => (b, o)
theorem mem_pinsAt {fp : List Addr} {h : Heap} {b : Addr} {o : Obj} (hb : b ∈ fp) (e : h.get? b = some o) : (b, o) ∈ pinsAt fp h := List.mem_filterMap.mpr ⟨b, hb, by rw [e]; rfl⟩
theorem of_pinsAt {fp : List Addr} {h : Heap} {p : Addr × Obj} (hp : p ∈ pinsAt fp h) : p.1 ∈ fp ∧ h.get? p.1 = some p.2 := by
  obtain ⟨b, hb, e⟩ := List.mem_filterMap.mp hp
  cases q : h.get? b with
  | none => rw [q] at e; cases e
  | some o =>
    rw [q] at e
    have e' : (b, o) = p := Option.some.inj e
    subst e'
    exact ⟨hb, q⟩
theorem Inv.pinned {pins : List (Addr × Obj)} {σ : St} {H : Hp} {s : Shared} {fp : List Addr} (I : Inv X pins σ H s) (hf : ∀ b ∈ fp, FpOk X pins H b) (ho : ∀ b ∈ fp, ∃ o, s.heap.get? b = some o ∧ ∀ v, o.data ≠ .cell v) : Inv X (pins ++ pinsAt fp s.heap) σ H s :=
  I.pins_of fun p hp => (List.mem_append.mp hp).elim (fun z => I.pin p (List.mem_append_right _ z)) fun z => by
    obtain ⟨hb, e⟩ := of_pinsAt z
    obtain ⟨f0, f1, f2, _⟩ := hf p.1 hb
    obtain ⟨o, e', d⟩ := ho p.1 hb
    rw [e] at e'; cases e'
    exact ⟨e, f0, f1, f2, d⟩
theorem Inv.unpinned {pins pl : List (Addr × Obj)} {σ : St} {H : Hp} {s : Shared} (I : Inv X (pins ++ pl) σ H s) : Inv X pins σ H s := I.pins_of fun p hp => I.pin p (List.mem_append_right _ (List.mem_append_left _ hp))
theorem ps_for {iter : Expr} {body : List Stmt} {wi : TI} {g : TG} {tb : TS} {pos : Pos} (hp : PassesOwn (model X.prog X.w) X.A X.env X.xe) (hc : X.calm = true) (hi : PI X tg iter wi) (hg : PG X tg g) (hb : PSs X body tb)
    (hs : ∀ x, foldedSetIterable iter X.env x = pure x := by intro _; rfl) : PS X (.For tg iter body [] pos) (tFor wi g tb) := by
  intro pins s σ H D I h
  refine wpAny_For (thn (hi pins s σ H _ I h) fun v s1 h1 => thn h1 fun itv s2 h2 => ?_) hs
  obtain ⟨it, fp, tn, J, H2, e, I2, T, st2, f2, W, ⟨m0, w0⟩, turn⟩ := h2
  subst e
  -- what stays true of the iterator's objects through the loop
  have stat : ∀ {H' : Hp}, (∀ b ∈ fp, H' b = none) → ∀ b ∈ fp, FpOk X pins H' b := fun hn b hb => ⟨hn b hb, (f2 b hb).2⟩
  refine codeAny_forLoop_any (fun n s' => ∃ i σ' H', Inv X pins σ' H' s' ∧ tn i s'.heap ∧ (∀ b ∈ fp, H' b = none) ∧ W i n σ' H') ?_ m0 ⟨0, σ, H2, I2, st2, fun b hb => (f2 b hb).1, w0⟩
  rintro n s3 ⟨i, σ3, H3, I3, st3, fr3, w3⟩
  rcases turn i n σ3 H3 w3 with ⟨stop, qn⟩ | ⟨go, N, hN, step⟩
  · refine wpAny_passesOwn hp (thn (T.done X rfl rfl rfl hc i pins s3 σ3 H3 X.xe I3 (stat fr3) st3 stop) fun r s4 ⟨hr, I4⟩ => ?_)
    subst hr
    exact wpAny_execs_nil ⟨σ3, H3, I4, qn⟩
  · refine wpAny_passesOwn hp (thn (T.item X rfl rfl rfl hc i pins s3 σ3 H3 X.xe I3 (stat fr3) st3 go) fun r s4 ⟨u, hr, h4⟩ => ?_)
    subst hr
    refine wpAny_passesOwn hp (thn h4 fun _ s5 ⟨x, H5, I5, r5, y5, st5, fr5⟩ => ?_)
    have I5' := I5.pinned (stat fr5) (T.obj _ _ st5)
    refine wpAny_passesOwn hp (thn (hg _ s5 σ3 H5 x u _ I5' r5 (step x H5 y5)) fun _ s6 ⟨σ6, H6, I6, q6⟩ => ?_)
    refine wpAny_passesOwn hp (thn (hb _ s6 σ6 H6 _ I6 q6) fun f s7 q7 => ?_)
    have again : ∀ {σ7 : St} {H7 : Hp}, Inv X (pins ++ pinsAt fp s5.heap) σ7 H7 s7 → N σ7 H7 → ∃ m, m < n ∧ ∃ i σ' H', Inv X pins σ' H' s7 ∧ tn i s7.heap ∧ (∀ b ∈ fp, H' b = none) ∧ W i m σ' H' := fun {σ7 H7} I7 n7 => by
      obtain ⟨m', hm, w7⟩ := hN σ7 H7 n7
      refine ⟨m', hm, i + 1, σ7, H7, I7.unpinned, T.keep _ _ _ st5 fun b hb o e => (I7.pin (b, o) (List.mem_append_right _ (List.mem_append_right _ (mem_pinsAt hb e)))).1, fun b hb => ?_, w7⟩
      obtain ⟨o, e, d⟩ := T.obj _ _ st5 b hb
      exact (I7.pin (b, o) (List.mem_append_right _ (List.mem_append_right _ (mem_pinsAt hb e)))).2.1
    cases f with
    | next => obtain ⟨σ7, H7, I7, n7⟩ := q7; exact again I7 n7
    | cont => obtain ⟨σ7, H7, I7, n7⟩ := q7; exact again I7 n7
    | brk => obtain ⟨σ7, H7, I7, q7⟩ := q7; exact ⟨σ7, H7, I7.unpinned, q7⟩
    | ret v => obtain ⟨x7, σ7, H7, I7, r7, q7⟩ := q7; exact ⟨x7, σ7, H7, I7.unpinned, r7, q7⟩
end

/-! ### the forms one uses -/
/-- over a list that the body leaves as it is -/
theorem for_list {K : PySem.W.Frag} {a : Addr} {xs : List V} {g : TG} {tb : TS} {D : Ends} {σ : St} {H : Hp} (Pv : Nat → St → Hp → Prop) (h0 : Pv 0 σ H) (hl : ∀ i σ H, i ≤ xs.length → Pv i σ H → SqL K H a xs)
    (hs : ∀ i x σ H, xs[i]? = some x → Pv i σ H → g x σ H fun σ2 H2 => tb { D with nx := Pv (i + 1), ct := Pv (i + 1), bk := D.nx } σ2 H2) (hd : ∀ σ H, Pv xs.length σ H → D.nx σ H) :
    ∃ W : Nat → Nat → St → Hp → Prop, (∃ m, W 0 m σ H) ∧ ∀ i m σ H, W i m σ H →
      ((Itl K a).stop i H ∧ D.nx σ H) ∨ ((Itl K a).go i H ∧ ∃ N : St → Hp → Prop, (∀ σ' H', N σ' H' → ∃ m', m' < m ∧ W (i + 1) m' σ' H') ∧ ∀ x H', (Itl K a).yld i H x H' → g x σ H' fun σ2 H2 => tb { D with nx := N, ct := N, bk := D.nx } σ2 H2) := by
  refine ⟨fun i m σ H => m = xs.length - i ∧ i ≤ xs.length ∧ Pv i σ H, ⟨xs.length, by simp, Nat.zero_le _, h0⟩, ?_⟩
  rintro i m σ H ⟨rfl, hi, p⟩
  have q := hl i σ H hi p
  by_cases hlt : i < xs.length
  · refine .inr ⟨⟨xs, xs[i], q, by simp [hlt]⟩, Pv (i + 1), fun σ' H' p' => ⟨xs.length - (i + 1), by omega, rfl, hlt, p'⟩, fun x H' y => ?_⟩
    obtain ⟨e, y⟩ := y
    subst e
    exact hs i x σ _ (y xs q) p
  · have e : i = xs.length := by omega
    subst e
    exact .inl ⟨⟨xs, q, Nat.le_refl _⟩, hd σ H p⟩
theorem for_range {lo : Int} {n : Nat} {g : TG} {tb : TS} {D : Ends} {σ : St} {H : Hp} (Pv : Nat → St → Hp → Prop) (h0 : Pv 0 σ H)
    (hs : ∀ i σ H, i < n → Pv i σ H → g (.int (lo + i)) σ H fun σ2 H2 => tb { D with nx := Pv (i + 1), ct := Pv (i + 1), bk := D.nx } σ2 H2) (hd : ∀ σ H, Pv n σ H → D.nx σ H) :
    ∃ W : Nat → Nat → St → Hp → Prop, (∃ m, W 0 m σ H) ∧ ∀ i m σ H, W i m σ H →
      ((Itr lo n).stop i H ∧ D.nx σ H) ∨ ((Itr lo n).go i H ∧ ∃ N : St → Hp → Prop, (∀ σ' H', N σ' H' → ∃ m', m' < m ∧ W (i + 1) m' σ' H') ∧ ∀ x H', (Itr lo n).yld i H x H' → g x σ H' fun σ2 H2 => tb { D with nx := N, ct := N, bk := D.nx } σ2 H2) := by
  refine ⟨fun i m σ H => m = n - i ∧ i ≤ n ∧ Pv i σ H, ⟨n, by simp, Nat.zero_le _, h0⟩, ?_⟩
  rintro i m σ H ⟨rfl, hi, p⟩
  by_cases hlt : i < n
  · refine .inr ⟨hlt, Pv (i + 1), fun σ' H' p' => ⟨n - (i + 1), by omega, rfl, hlt, p'⟩, fun x H' y => ?_⟩
    obtain ⟨e, y⟩ := y
    subst e y
    exact hs i σ _ hlt p
  · have e : i = n := by omega
    subst e
    exact .inl ⟨Nat.le_refl _, hd σ H p⟩
end L2

namespace L2
open PySem PySem.Spec PyProof.Rows

abbrev R2 := V → V → Hp → VK → Prop
/-- a two-place operation on values: f is binaryOp op, inplaceOp op or compareOp op -/
def OpR (X : Cx) (f : Value → Value → Sem Value) (r : R2) : Prop :=
  ∀ (pins : List (Addr × Obj)) (s : Shared) (σ : St) (H : Hp) (x y : V) (v u : Value) (Q : VK), Inv X pins σ H s → RelV x v → RelV y u → r x y H Q →
    wpAny (model X.prog X.w) X.A (f v u) (EP X pins σ Q) X.xe s
/-- a one-place operation -/
def UnR (X : Cx) (f : Value → Sem Value) (r : V → Hp → VK → Prop) : Prop :=
  ∀ (pins : List (Addr × Obj)) (s : Shared) (σ : St) (H : Hp) (x : V) (v : Value) (Q : VK), Inv X pins σ H s → RelV x v → r x H Q →
    wpAny (model X.prog X.w) X.A (f v) (EP X pins σ Q) X.xe s
/-- a call of a value that is known (a builtin, a type) with values -/
def CallR (X : Cx) (f : Value) (r : List V → Hp → VK → Prop) : Prop :=
  ∀ (pins : List (Addr × Obj)) (s : Shared) (σ : St) (H : Hp) (xs : List V) (us : List Value) (Q : VK), Inv X pins σ H s → Vals xs us → r xs H Q →
    wpAny (model X.prog X.w) X.A (call f us) (EP X pins σ Q) X.xe s
/-- a value's truth -/
def TruR (X : Cx) (r : V → Hp → (Bool → Hp → Prop) → Prop) : Prop :=
  ∀ (pins : List (Addr × Obj)) (s : Shared) (σ : St) (H : Hp) (x : V) (v : Value) (Q : Bool → Hp → Prop), Inv X pins σ H s → RelV x v → r x H Q →
    wpAny (model X.prog X.w) X.A (truthy v) (TP X pins σ Q) X.xe s

def tOp (r : R2) (ta tb : TE) : TE := fun σ H Q => ta σ H fun x H1 => tb σ H1 fun y H2 => r x y H2 Q
def tUn (r : V → Hp → VK → Prop) (ta : TE) : TE := fun σ H Q => ta σ H fun x H1 => r x H1 Q
/-- ints in, under C, and a value out -/
def rI (C : Int → Int → Prop) (g : Int → Int → V) : R2 := fun x y H Q => ∃ i j, x = .int i ∧ y = .int j ∧ C i j ∧ Q (g i j) H
def rI0 (g : Int → Int → V) : R2 := fun x y H Q => ∃ i j, x = .int i ∧ y = .int j ∧ Q (g i j) H
def rU (g : Int → V) : V → Hp → VK → Prop := fun x H Q => ∃ i, x = .int i ∧ Q (g i) H

section
variable {X : Cx} {a b c : Expr} {ta tb tc : TE} {pos : Pos}

theorem binT (ha : PE X a ta) (hb : PE X b tb) {pins : List (Addr × Obj)} {s : Shared} {σ : St} {H : Hp} {R : V → V → Hp → Prop} (I : Inv X pins σ H s)
    (h : ta σ H fun x H1 => tb σ H1 fun y H2 => R x y H2) {Q : Value → Shared → Prop} {f : Value → Value → Sem Value}
    (hf : ∀ v u s2 x y H2, Inv X pins σ H2 s2 → RelV x v → RelV y u → R x y H2 → wpAny (model X.prog X.w) X.A (f v u) Q X.xe s2) :
    wpAny (model X.prog X.w) X.A (eval a X.env) (fun v s₁ => wpAny (model X.prog X.w) X.A (eval b X.env) (fun u s₂ => wpAny (model X.prog X.w) X.A (f v u) Q X.xe s₂) X.xe s₁) X.xe s := by
  refine thn (ha pins s σ H _ I h) fun v s1 ⟨x, H1, I1, r1, q1⟩ => ?_
  refine thn (hb pins s1 σ H1 _ I1 q1) fun u s2 ⟨y, H2, I2, r2, q2⟩ => ?_
  exact hf v u s2 x y H2 I2 r1 r2 q2

theorem pe_op {op : Operator} {r : R2} (ho : OpR X (binaryOp op) r) (ha : PE X a ta) (hb : PE X b tb) : PE X (.BinOp a op b pos) (tOp r ta tb) := by
  intro pins s σ H Q I h
  exact wpAny_BinOp (binT ha hb I h fun v u s2 x y H2 I2 rx ry q => ho pins s2 σ H2 x y v u Q I2 rx ry q)
theorem pe_un {op : UnaryOp} {r : V → Hp → VK → Prop} (ho : UnR X (unaryOp op) r) (ha : PE X a ta) : PE X (.UnaryOp op a pos) (tUn r ta) := by
  intro pins s σ H Q I h
  exact UnaryOp_ (thn (ha pins s σ H _ I h) fun v s1 ⟨x, H1, I1, r1, q1⟩ => ho pins s1 σ H1 x v Q I1 r1 q1)
/-! ### ints -/
theorem opI {f : Value → Value → Sem Value} {C : Int → Int → Prop} {g : Int → Int → Int}
    (rule : ∀ (i j : Int) (t u : Tok) (s : Shared) (Q : Value → Shared → Prop) (E : Value → Shared → Prop), C i j → Q (.int (g i j) s.toks) { s with toks := s.toks + 1 } → wpAny (model X.prog X.w) X.A (f (.int i t) (.int j u)) Q E s) :
    OpR X f (rI C fun i j => .int (g i j)) := by
  intro pins s σ H x y v u Q I rx ry h
  obtain ⟨i, j, rfl, rfl, hc, q⟩ := h
  obtain ⟨t, rfl⟩ := rx
  obtain ⟨t', rfl⟩ := ry
  exact rule i j t t' s _ _ hc ⟨.int (g i j), H, I.tok _, ⟨_, rfl⟩, q⟩
theorem opI0 {f : Value → Value → Sem Value} {g : Int → Int → Int}
    (rule : ∀ (i j : Int) (t u : Tok) (s : Shared) (Q : Value → Shared → Prop) (E : Value → Shared → Prop), Q (.int (g i j) s.toks) { s with toks := s.toks + 1 } → wpAny (model X.prog X.w) X.A (f (.int i t) (.int j u)) Q E s) :
    OpR X f (rI0 fun i j => .int (g i j)) := by
  intro pins s σ H x y v u Q I rx ry h
  obtain ⟨i, j, rfl, rfl, q⟩ := h
  obtain ⟨t, rfl⟩ := rx
  obtain ⟨t', rfl⟩ := ry
  exact rule i j t t' s _ _ ⟨.int (g i j), H, I.tok _, ⟨_, rfl⟩, q⟩
theorem opB0 {f : Value → Value → Sem Value} {g : Int → Int → Bool}
    (rule : ∀ (i j : Int) (t u : Tok) (s : Shared) (Q : Value → Shared → Prop) (E : Value → Shared → Prop), Q (.bool (g i j)) s → wpAny (model X.prog X.w) X.A (f (.int i t) (.int j u)) Q E s) :
    OpR X f (rI0 fun i j => .bl (g i j)) := by
  intro pins s σ H x y v u Q I rx ry h
  obtain ⟨i, j, rfl, rfl, q⟩ := h
  obtain ⟨t, rfl⟩ := rx
  obtain ⟨t', rfl⟩ := ry
  exact rule i j t t' s _ _ ⟨.bl (g i j), H, I, rfl, q⟩

def CDiv (i j : Int) : Prop := 0 < j ∧ j < 1073741824
def CDivN (i j : Int) : Prop := j ≠ 0 ∧ j.natAbs < 1073741824
def CPow (i j : Int) : Prop := 0 ≤ j ∧ j ≤ 1000000 ∧ i.natAbs < 2 ^ 64
def CMul (i j : Int) : Prop := (-(2 ^ 64) < i ∧ i < 2 ^ 64) ∨ (-(2 ^ 64) < j ∧ j < 2 ^ 64)
theorem CMul.ok {i j : Int} (h : CMul i j) : IntMulOk i j := by
  rcases h with ⟨h1, h2⟩ | ⟨h1, h2⟩
  · exact .of_left (intBits_le_64 h1 h2)
  · exact .of_right (intBits_le_64 h1 h2)
theorem op_add : OpR X (binaryOp .Add) (rI0 fun i j => .int (i + j)) := opI0 fun _ _ _ _ _ _ _ q => add_int q
theorem op_sub : OpR X (binaryOp .Sub) (rI0 fun i j => .int (i - j)) := opI0 fun _ _ _ _ _ _ _ q => sub_int q
/-- % by a positive divisor of any size -/
theorem op_mod : OpR X (binaryOp .Mod) (rI (fun _ j => 0 < j) fun i j => .int (i % j)) := opI fun i j _ _ _ _ _ hc q => by
  have h1 : (0 : Int) < j := hc
  exact mod_int' (by omega) (by rw [Int.fmod_eq_emod_of_nonneg i (by omega)]; exact q)
theorem op_pow : OpR X (binaryOp .Pow) (rI CPow fun i j => .int (i ^ j.toNat)) := opI fun _ _ _ _ _ _ _ hc q => pow_int_small hc.1 hc.2.1 hc.2.2 q
theorem unI {f : Value → Sem Value} {g : Int → Int}
    (rule : ∀ (i : Int) (t : Tok) (s : Shared) (Q : Value → Shared → Prop) (E : Value → Shared → Prop), Q (.int (g i) s.toks) { s with toks := s.toks + 1 } → wpAny (model X.prog X.w) X.A (f (.int i t)) Q E s) :
    UnR X f (rU fun i => .int (g i)) := by
  intro pins s σ H x v Q I rx h
  obtain ⟨i, rfl, q⟩ := h
  obtain ⟨t, rfl⟩ := rx
  exact rule i t s _ _ ⟨.int (g i), H, I.tok _, ⟨_, rfl⟩, q⟩
theorem un_neg : UnR X (unaryOp .USub) (rU fun i => .int (-i)) := unI fun _ _ _ _ _ q => neg_int q
/-! ### bools among ints: n += (a < b) -/
end

/-! ### comparisons -/
/-- the scalars that == tells apart as data does -/
def scal : V → V → Bool
  | .non, .non => true | .non, .int _ => true | .int _, .non => true | .non, .bl _ => true | .bl _, .non => true | .non, .str _ => true | .str _, .non => true
  | .int _, .int _ => true | .bl _, .bl _ => true | .str _, .str _ => true | .byt _, .byt _ => true
  | .int _, .str _ => true | .str _, .int _ => true | .bl _, .str _ => true | .str _, .bl _ => true
  | _, _ => false
def rEq : R2 := fun x y H Q => scal x y = true ∧ Q (.bl (decide (x = y))) H
def rNe : R2 := fun x y H Q => scal x y = true ∧ Q (.bl (!decide (x = y))) H

theorem dec_int {i j : Int} : decide (V.int i = V.int j) = (i == j) := by
  rw [Bool.eq_iff_iff]
  simp
theorem dec_bl {i j : Bool} : decide (V.bl i = V.bl j) = (i == j) := by
  rw [Bool.eq_iff_iff]
  simp
theorem dec_str {i j : Str} : decide (V.str i = V.str j) = (i == j) := by
  rw [Bool.eq_iff_iff]
  simp
theorem dec_byt {i j : Array UInt8} : decide (V.byt i = V.byt j) = (i.toList == j.toList) := by
  rw [Bool.eq_iff_iff]
  cases i
  cases j
  simp

section
variable {X : Cx} {a b c : Expr} {ta tb tc : TE} {pos : Pos}
theorem fin_bl {pins : List (Addr × Obj)} {σ : St} {H : Hp} {s : Shared} {Q : VK} {k k' : Bool} (I : Inv X pins σ H s) (q : Q (.bl k) H) (e : k = k') : EP X pins σ Q (.bool k') s := by
  subst e
  exact ⟨.bl k, H, I, rfl, q⟩
theorem op_eq : OpR X (compareOp .Eq) rEq := by
  intro pins s σ H x y v u Q I rx ry h
  obtain ⟨hs, q⟩ := h
  cases x with
  | non =>
    cases rx
    cases y with
    | non => cases ry; exact PySem.EqNone.eq_none_none (fin_bl I q (by simp))
    | bl j => cases ry; exact PySem.EqNone.eq_none_bool (fin_bl I q (by simp))
    | int j => obtain ⟨t', rfl⟩ := ry; exact PySem.EqNone.eq_none_int (fin_bl I q (by simp))
    | str j => obtain ⟨t', rfl⟩ := ry; exact PySem.EqNone.eq_none_str (fin_bl I q (by simp))
    | _ => exact absurd (show false = true from hs) Bool.false_ne_true
  | bl i =>
    cases rx
    cases y with
    | non => cases ry; exact PySem.EqNone.eq_bool_none (fin_bl I q (by simp))
    | bl j => cases ry; exact eq_bool (fin_bl I q dec_bl)
    | str j => obtain ⟨t', rfl⟩ := ry; exact PySem.EqMixed.eq_bool_str (fin_bl I q (by simp))
    | _ => exact absurd (show false = true from hs) Bool.false_ne_true
  | int i =>
    obtain ⟨t, rfl⟩ := rx
    cases y with
    | non => cases ry; exact PySem.EqNone.eq_int_none (fin_bl I q (by simp))
    | int j => obtain ⟨t', rfl⟩ := ry; exact eq_int (fin_bl I q dec_int)
    | str j => obtain ⟨t', rfl⟩ := ry; exact PySem.EqMixed.eq_int_str (fin_bl I q (by simp))
    | _ => exact absurd (show false = true from hs) Bool.false_ne_true
  | str i =>
    obtain ⟨t, rfl⟩ := rx
    cases y with
    | non => cases ry; exact PySem.EqNone.eq_str_none (fin_bl I q (by simp))
    | bl j => cases ry; exact PySem.EqMixed.eq_str_bool (fin_bl I q (by simp))
    | int j => obtain ⟨t', rfl⟩ := ry; exact PySem.EqMixed.eq_str_int (fin_bl I q (by simp))
    | str j => obtain ⟨t', rfl⟩ := ry; exact eq_str (fin_bl I q dec_str)
    | _ => exact absurd (show false = true from hs) Bool.false_ne_true
  | byt i =>
    obtain ⟨t, rfl⟩ := rx
    cases y with
    | byt j => obtain ⟨t', rfl⟩ := ry; exact PySem.W.eq_bytes (fin_bl I q dec_byt)
    | _ => exact absurd (show false = true from hs) Bool.false_ne_true
  | _ => cases y <;> exact absurd (show false = true from hs) Bool.false_ne_true
theorem op_lt : OpR X (compareOp .Lt) (rI0 fun i j => .bl (decide (i < j))) := opB0 fun _ _ _ _ _ _ _ q => lt_int q
theorem op_ge : OpR X (compareOp .GtE) (rI0 fun i j => .bl (decide (j ≤ i))) := opB0 fun _ _ _ _ _ _ _ q => ge_int q
/-- is, is not of two objects that are tracked lists or instances -/
def isObj : HO → Bool
  | .lst _ => true
  | .ins _ _ _ => true
  | _ => false
theorem nomark (b : Expr) {op : CmpOp} (h : op ≠ .In := by decide) (h2 : op ≠ .NotIn := by decide) : behindInMarks op b = false := by
  have e1 : (op == CmpOp.In) = false := by cases op <;> first | rfl | exact absurd rfl h
  have e2 : (op == CmpOp.NotIn) = false := by cases op <;> first | rfl | exact absurd rfl h2
  cases b <;> simp [behindInMarks, e1, e2]
/-- a comparison as a value; hm: nomark b, or (for in, not in) by with_unfolding_all rfl -/
theorem pe_cmpR {op : CmpOp} {r : R2} (ho : OpR X (compareOp op) r) (ha : PE X a ta) (hb : PE X b tb) (hm : behindInMarks op b = false) : PE X (.Compare a [op] [b] pos) (tOp r ta tb) := by
  intro pins s σ H Q I h
  exact wpAny_Compare1 (binT ha hb I h fun v u s2 x y H2 I2 rx ry q => ho pins s2 σ H2 x y v u Q I2 rx ry q) hm
/-- a reading of a value as a test -/
def tTest (t : TE) : TT := fun σ H Q => t σ H fun x H' => ∃ k, x = .bl k ∧ Q k H'
theorem pt_cmpR {op : CmpOp} {r : R2} (ho : OpR X (compareOp op) r) (ha : PE X a ta) (hb : PE X b tb) (hm : behindInMarks op b = false) : PT X (.Compare a [op] [b] pos) (tTest (tOp r ta tb)) := by
  intro pins s σ H Q I h
  refine wpAny_isTrue_Compare1 (thn (ha pins s σ H _ I h) fun v s1 ⟨x, H1, I1, r1, q1⟩ => thn (hb pins s1 σ H1 _ I1 q1) fun u s2 ⟨y, H2, I2, r2, q2⟩ =>
    thn (ho pins s2 σ H2 x y v u _ I2 r1 r2 q2) fun c s3 ⟨z, H3, I3, r3, k, e, q3⟩ => ?_) hm
  subst e
  cases r3
  exact wpAny_truthy_bool ⟨H3, I3, q3⟩
/-- a op1 b op2 c -/
def tChain (r r' : R2) (ta tb tc : TE) : TE := fun σ H Q => ta σ H fun x H1 => tb σ H1 fun y H2 => r x y H2 fun z H3 => ∃ k, z = .bl k ∧
  (if k = true then tc σ H3 fun w' H4 => r' y w' H4 Q else Q (.bl false) H3)
/-! ### truth -/
/-- a value's truth by the abstract heap -/
def TruV (K : PySem.W.Frag) (x : V) (H : Hp) (k : Bool) : Prop :=
  match x with
  | .non => k = false
  | .bl b => k = b
  | .int i => k = (i != 0)
  | .str y => y.length ≤ sizeLine ∧ k = ((y.length : Int) != 0)
  | .byt y => y.size ≤ sizeLine ∧ k = ((y.size : Int) != 0)
  | .ref p => (∃ xs, SqL K H p xs ∧ k = !xs.isEmpty) ∨ (∃ xs, SqT K H p xs ∧ k = !xs.isEmpty) ∨ ∃ kvs, H p = some (.dK kvs) ∧ k = !kvs.isEmpty
  | _ => False
theorem line63 : (sizeLine : Nat) < 2 ^ 63 := by rw [sizeLine_eq]; decide
/-! ### strs and bytes -/
theorem op_add_str : OpR X (binaryOp .Add) (fun x y H Q => ∃ i j, x = .str i ∧ y = .str j ∧ i.length + j.length ≤ sizeLine ∧ Q (.str (i ++ j)) H) := by
  intro pins s σ H x y v u Q I rx ry h
  obtain ⟨i, j, rfl, rfl, hz, q⟩ := h
  obtain ⟨t, rfl⟩ := rx
  obtain ⟨t', rfl⟩ := ry
  exact add_str (fun t' tk => ⟨.str (i ++ j), H, I.tok _, ⟨_, rfl⟩, q⟩) hz
def PlainIxT (b : Expr) : Prop := ∀ o i, subscripted b false o i = operate [o, i] (getItem o i)
/-! ### scalar builtins, by CallR -/
theorem vals1 {x : V} {us : List Value} (r : Vals [x] us) : ∃ u, us = [u] ∧ RelV x u := by
  cases r with
  | cons r1 r2 => cases r2; exact ⟨_, rfl, r1⟩
theorem vals2 {x y : V} {us : List Value} (r : Vals [x, y] us) : ∃ u w', us = [u, w'] ∧ RelV x u ∧ RelV y w' := by
  cases r with
  | cons r1 r2 =>
    cases r2 with
    | cons r3 r4 => cases r4; exact ⟨_, _, rfl, r1, r3⟩
theorem call_max2 (hc : X.calm = true) : CallR X (.builtin "max") (fun xs H Q => ∃ i j, xs = [.int i, .int j] ∧ Q (.int (if j > i then j else i)) H) := by
  intro pins s σ H xs us Q I r h
  obtain ⟨i, j, rfl, q⟩ := h
  obtain ⟨u, w', rfl, ⟨t, rfl⟩, ⟨t', rfl⟩⟩ := vals2 r
  refine max_two_ints (I.ok.hd hc) fun h' tk k => ⟨_, H, I.kept k, ?_, q⟩
  by_cases hj : j > i
  · rw [if_pos hj, if_pos hj]; exact ⟨_, rfl⟩
  · rw [if_neg hj, if_neg hj]; exact ⟨_, rfl⟩
theorem call_min2 (hc : X.calm = true) : CallR X (.builtin "min") (fun xs H Q => ∃ i j, xs = [.int i, .int j] ∧ Q (.int (if j < i then j else i)) H) := by
  intro pins s σ H xs us Q I r h
  obtain ⟨i, j, rfl, q⟩ := h
  obtain ⟨u, w', rfl, ⟨t, rfl⟩, ⟨t', rfl⟩⟩ := vals2 r
  refine min_two_ints (I.ok.hd hc) fun h' tk k => ⟨_, H, I.kept k, ?_, q⟩
  by_cases hj : j < i
  · rw [if_pos hj, if_pos hj]; exact ⟨_, rfl⟩
  · rw [if_neg hj, if_neg hj]; exact ⟨_, rfl⟩
/-- len of a str, a bytes, a list, a tuple -/
def LenV (K : PySem.W.Frag) (x : V) (H : Hp) (n : Nat) : Prop :=
  match x with
  | .str y => y.length ≤ sizeLine ∧ n = y.length
  | .byt y => y.size ≤ sizeLine ∧ n = y.size
  | .ref p => (∃ xs, SqL K H p xs ∧ n = xs.length) ∨ ∃ xs, SqT K H p xs ∧ n = xs.length
  | _ => False
end
end L2

namespace L2
open PySem PySem.Spec PyProof.Rows

/-! ### an instance, its attributes a map -/
structure ObjM (h : Heap) (x dx C : Addr) (mA : Str → Option Value) : Prop where
  obj : h.get? x = some (PySem.W.instObj C dx)
  ns : h.Ns1 dx mA
  ne : dx ≠ x

theorem lookIn_ns {h : Heap} {dx : Addr} {mA : Str → Option Value} (n : h.Ns1 dx mA) : ∃ od, h.get? dx = some od ∧ ∀ name, PySem.W.lookIn name od = some (mA name) := by
  obtain ⟨o, es, ep, ho, hd, hk, _, hm⟩ := n
  refine ⟨o, ho, fun name => ?_⟩
  have e := hm name
  unfold nsFind findBy at e
  rw [← Array.find?_toList] at e
  unfold PySem.W.lookIn
  rw [hd]
  dsimp only
  split
  · rename_i y q
    rw [q] at e
    exact congrArg some e
  · rename_i q
    rw [q] at e
    have a : es.toList.any (·.refKey) = false := by
      rw [List.any_eq_false]
      intro y hy
      obtain ⟨z, t, hkey⟩ := hk y (Array.mem_toList_iff.mp hy)
      simp [DictEntry.refKey, hkey]
    have a' : ¬ es.toList.any (·.refKey) = true := by rw [a]; exact Bool.false_ne_true
    rw [if_neg a']
    exact congrArg some e

theorem ObjM.look {h : Heap} {x dx C : Addr} {mA : Str → Option Value} (I : ObjM h x dx C mA) : ∃ od, PySem.W.InstAt h x (PySem.W.instObj C dx) C (some od) ∧ ∀ name, PySem.W.lookIn name od = some (mA name) :=
  let ⟨od, ho, hl⟩ := lookIn_ns I.ns
  ⟨od, ⟨I.obj, rfl, rfl, ho⟩, hl⟩

section
variable {prog : Program} {w : World} {A : Around} {E : Value → Shared → Prop} {s : Shared} {K : PySem.W.Frag} {x dx C f : Addr} {mA : Str → Option Value} {name : Str} {v : Value}

theorem get_map {expr : Bool} {Q : Value → Shared → Prop} (X : K.In s.heap) (I : ObjM s.heap x dx C mA) (hg : PySem.W.plainGet K C name = true) (hh : PySem.W.hasDictIn K C = true)
    (ha : PySem.W.findIn K (.ref C) name = some none) (hv : mA name = some v) (hv' : PySem.W.handedIn v = true) (h : Q v { s with toks := s.toks + 1 }) :
    wpAny (model prog w) A (getAttr (.ref x) name expr) Q E s := by
  obtain ⟨od, J, hl⟩ := I.look
  exact PySem.W.get_value X J (PySem.W.plainGet_of hg).1 (PySem.W.findObj_own hh ha rfl (by rw [hl, hv])) hv' h

theorem get_meth {pl : Sem Bool} {Q : Value × List Value → Shared → Prop} (X : K.In s.heap) (I : ObjM s.heap x dx C mA) (hg : PySem.W.plainGet K C name = true)
    (hf : PySem.W.findIn K (.ref C) name = some (some (.ref f))) (ht : PySem.W.isFn K (.ref f) = true) (hv : mA name = none) (h : Q (.ref f, [.ref x]) s) :
    wpAny (model prog w) A (getMethod (.ref x) name pl) Q E s := by
  obtain ⟨od, J, hl⟩ := I.look
  exact PySem.W.method_fn X J (PySem.W.plainGet_of hg).1 (PySem.W.plainGet_of hg).2 hf (beq_iff_eq.mp ht) (by show (PySem.W.lookIn name od).map (·.isSome) = some false; rw [hl, hv]; rfl) h

theorem set_map {ns : List Str} {Q : Unit → Shared → Prop} (X : K.In s.heap) (I : ObjM s.heap x dx C mA)
    (hs : PySem.W.findIn K (.ref C) "__setattr__" = some (some (.builtin "object.__setattr__"))) (hp : PySem.W.plainOver K C = true) (ht : PySem.W.takerIn K C name = some none) (hh : PySem.W.hasDictIn K C = true)
    (hw : PySem.Within mA ns) (hsz : ns.length ≤ sizeLine)
    (h : ∀ h', ObjM h' x dx C (fun y => if y = name then some v else mA y) → Heap.SameBut dx s.heap h' → Q () { s with heap := h', toks := s.toks + 2 }) :
    wpAny (model prog w) A (setAttr (.ref x) name v) Q E s := by
  obtain ⟨od, J, hl⟩ := I.look
  refine PySem.W.set_plain X J hs (PySem.W.osa_open (s := { s with toks := s.toks + 1 }) (r := none) X J hp ht fun b => ?_)
  obtain ⟨cd, hc, hd'⟩ := PySem.W.any_some hh
  have hx : s.heap.get? x = some ⟨.ref C, some dx, .plain, #[]⟩ := I.obj
  refine wpAny_bind (wpAny_pure (wpAny_bind (wpAny_bind (wpAny_loadPart hx (wpAny_bind (PySem.W.Looks.here (s := { s with toks := s.toks + 1 }) (PySem.W.looks_clsIn X hc) ?_))))))
  rw [hd']
  refine wpAny_pure (a := some dx) (wpAny_bind (wpAny_pure (wpAny_bind ?_)))
  refine wpAny_nsSet1 (s := { s with toks := s.toks + 1 }) I.ns fun h' hn2 hs2 => ?_
  obtain ⟨oD, esD, epD, hoD, hdD, hcD⟩ := hn2.count (PySem.Within.cons name v hw)
  refine wpAny_bind (wpAny_lookBehind hoD (by rw [hdD]; exact pastItsLine_dict (Nat.le_trans hcD (by rw [List.length_cons]; omega))) ?_)
  exact wpAny_pure (h _ ⟨(hs2.2 _ (Ne.symm I.ne)).trans I.obj, hn2, I.ne⟩ hs2)

/-- C(..): the dict at the heap's end, the instance behind it; then its __init__ -/
theorem make_map {R : Result → Shared → Prop} {vs : List Value} {kw : List (Str × Value)} (X : K.In s.heap) (hm : PySem.W.makesIn K C = true)
    (hi : PySem.W.findIn K (.ref C) "__init__" = some (some (.ref f))) (hf : PySem.W.typeIn K (.ref f) = some (.type "function"))
    (h : codeAny (model prog w) (A.under (.builtin "type.__call__" ⟨.ref C :: vs, kw⟩)) (.call (.ref f) ⟨.ref (s.heap.objs.size + 1) :: vs, kw⟩) (PySem.W.InitBack (s.heap.objs.size + 1) R)
      { s with heap := (s.heap.push PySem.W.emptyDict).push (PySem.W.instObj C s.heap.objs.size) }) :
    codeAny (model prog w) A (.call (.ref C) ⟨vs, kw⟩) R s := by
  obtain ⟨hh, g, d, t, os⟩ := s
  exact PySem.W.make_core (PySem.W.makes_of X hm) (PySem.W.looks_findIn X hi) (fun self => PySem.W.bind_fn X self hf) (.inl rfl) h
/-- C() where there is no __init__ but object's -/
theorem make_map0 {R : Result → Shared → Prop} (X : K.In s.heap) (hm : PySem.W.makesIn K C = true)
    (hi : PySem.W.findIn K (.ref C) "__init__" = some (some (.builtin "object.__init__")))
    (hb : ∀ self, PySem.W.Looks (model prog w) s.heap (bindSpecial (.builtin "object.__init__") self) (.builtin "object.__init__", [self]))
    (h : codeAny (model prog w) (A.under (.builtin "type.__call__" ⟨[.ref C], []⟩)) (.call (.builtin "object.__init__") ⟨[.ref (s.heap.objs.size + 1)], []⟩) (PySem.W.InitBack (s.heap.objs.size + 1) R)
      { s with heap := (s.heap.push PySem.W.emptyDict).push (PySem.W.instObj C s.heap.objs.size) }) :
    codeAny (model prog w) A (.call (.ref C) ⟨[], []⟩) R s := by
  obtain ⟨hh, g, d, t, os⟩ := s
  exact PySem.W.make_core (PySem.W.makes_of X hm) (PySem.W.looks_findIn X hi) hb (.inr ⟨rfl, rfl⟩) h
end

/-! ### the attributes as a list of pairs -/
def putF (f : Str) (v : V) : List (Str × V) → List (Str × V)
  | [] => [(f, v)]
  | (g, x) :: r => if g = f then (g, v) :: r else (g, x) :: putF f v r
theorem lookup_putF (f g : Str) (v : V) : ∀ fs : List (Str × V), (putF f v fs).lookup g = if g = f then some v else fs.lookup g
  | [] => by
    show List.lookup g [(f, v)] = _
    by_cases h : g = f
    · have hb : (g == f) = true := beq_iff_eq.mpr h
      simp only [List.lookup, hb, if_pos h]
    · have hb : (g == f) = false := beq_eq_false_iff_ne.mpr h
      simp only [List.lookup, hb, if_neg h]
  | (k, x) :: r => by
    have ih := lookup_putF f g v r
    rw [show putF f v ((k, x) :: r) = (if k = f then (k, v) :: r else (k, x) :: putF f v r) from rfl]
    by_cases hk : k = f
    · rw [if_pos hk]
      by_cases h : g = k
      · have hb : (g == k) = true := beq_iff_eq.mpr h
        simp only [List.lookup, hb, if_pos (h.trans hk)]
      · have hb : (g == k) = false := beq_eq_false_iff_ne.mpr h
        simp only [List.lookup, hb, if_neg (fun e : g = f => h (e.trans hk.symm))]
    · rw [if_neg hk]
      by_cases h : g = k
      · have hb : (g == k) = true := beq_iff_eq.mpr h
        simp only [List.lookup, hb, if_neg (fun e : g = f => hk (h.symm.trans e))]
      · have hb : (g == k) = false := beq_eq_false_iff_ne.mpr h
        simp only [List.lookup, hb]
        exact ih
theorem keys_putF (f : Str) (v : V) : ∀ fs : List (Str × V), f ∈ (putF f v fs).map (·.1) ∧ ∀ g, g ∈ fs.map (·.1) → g ∈ (putF f v fs).map (·.1)
  | [] => ⟨by simp [putF], fun g h => by simp at h⟩
  | (k, x) :: r => by
    obtain ⟨i1, i2⟩ := keys_putF f v r
    rw [show putF f v ((k, x) :: r) = (if k = f then (k, v) :: r else (k, x) :: putF f v r) from rfl]
    by_cases hk : k = f
    · rw [if_pos hk]
      subst hk
      exact ⟨by simp, fun g h => by simpa using h⟩
    · rw [if_neg hk]
      refine ⟨?_, fun g h => ?_⟩
      · rw [List.map_cons]
        exact List.mem_cons_of_mem _ i1
      · rw [List.map_cons] at h ⊢
        rcases List.mem_cons.mp h with e | e
        · exact List.mem_cons.mpr (.inl e)
        · exact List.mem_cons_of_mem _ (i2 g e)
theorem length_putF (f : Str) (v : V) : ∀ fs : List (Str × V), (putF f v fs).length ≤ fs.length + 1
  | [] => by simp [putF]
  | (k, x) :: r => by
    have ih := length_putF f v r
    rw [show putF f v ((k, x) :: r) = (if k = f then (k, v) :: r else (k, x) :: putF f v r) from rfl]
    by_cases hk : k = f
    · rw [if_pos hk, List.length_cons, List.length_cons]; omega
    · rw [if_neg hk, List.length_cons, List.length_cons]; omega

theorem RelO.some_of {v : V} {o : Option Value} (r : RelO (some v) o) : ∃ u, o = some u ∧ RelV v u := by
  cases o with
  | none => exact (show False from r).elim
  | some u => exact ⟨u, rfl, r⟩
theorem RelO.none_of {o : Option Value} (r : RelO none o) : o = none := by
  cases o with
  | none => rfl
  | some u => exact (show False from r).elim
theorem handed_of {v : V} {u : Value} (r : RelV v u) : PySem.W.handedIn u = true := by
  cases v with
  | non => cases (show u = Value.none from r); rfl
  | bl b => cases (show u = Value.bool b from r); rfl
  | int i => obtain ⟨t, e⟩ := (show ∃ t, u = Value.int i t from r); cases e; rfl
  | str x => obtain ⟨t, e⟩ := (show ∃ t, u = Value.str x t from r); cases e; rfl
  | byt b => obtain ⟨t, e⟩ := (show ∃ t, u = Value.bytes b t from r); cases e; rfl
  | flt b => obtain ⟨t, e⟩ := (show ∃ t, u = Value.float b t from r); cases e; rfl
  | ref a => cases (show u = Value.ref a from r); rfl
  | ty n => cases (show u = Value.type n from r); rfl

section
variable {P : Program} {w : World} {H H' : Hp} {h h' : Heap} {a C dx : Addr} {fs fs' : List (Str × V)}
theorem ins_get (hok : HOk P w H h) (e : H a = some (.ins C dx fs)) : ∃ mA, ObjM h a dx C mA ∧ (∀ f, RelO (fs.lookup f) (mA f)) ∧ PySem.Within mA (fs.map (·.1)) ∧ fs.length ≤ 1000 ∧ H dx = some (.own a) := by
  obtain ⟨d, z, ne, ob, mA, n, r, q⟩ := (show ObjOk P w H h a (.ins C dx fs) from hok a _ e)
  exact ⟨mA, ⟨ob, n, ne⟩, r, q, z, d⟩
end

/-! ### what of the text a class must have -/
structure Cls (K : PySem.W.Frag) (C : Addr) : Prop where
  pg : PySem.W.plainGet K C Str.empty = true
  hd : PySem.W.hasDictIn K C = true
  po : PySem.W.plainOver K C = true
  sa : PySem.W.findIn K (.ref C) "__setattr__" = some (some (.builtin "object.__setattr__"))
theorem Cls.get {K : PySem.W.Frag} {C : Addr} (c : Cls K C) (f : Str) : PySem.W.plainGet K C f = true := c.pg
/-- no class of it has the name -/
def NoAttr (K : PySem.W.Frag) (C : Addr) (f : Str) : Prop := PySem.W.findIn K (.ref C) f = some none
theorem NoAttr.taker {K : PySem.W.Frag} {C : Addr} {f : Str} (n : NoAttr K C f) : PySem.W.takerIn K C f = some none := by
  unfold PySem.W.takerIn
  rw [show PySem.W.findIn K (.ref C) f = some none from n]
  rfl
/-- a constant of the class -/
structure Con (K : PySem.W.Frag) (C : Addr) (f : Str) (v : V) (u : Value) : Prop where
  at_ : PySem.W.findIn K (.ref C) f = some (some u)
  rel : RelV v u
  get : PySem.W.specialIn K u "__get__" = some none
  cp : PySem.W.copiedNames.contains f = false
/-- a method: a plain def of the class or of one above it -/
structure Meth (K : PySem.W.Frag) (C : Addr) (m : Str) (f : Addr) : Prop where
  at_ : PySem.W.findIn K (.ref C) m = some (some (.ref f))
  fn : PySem.W.isFn K (.ref f) = true
  kp : PySem.W.keepIn K (.ref f) = true

section
variable {X : Cx} {pins : List (Addr × Obj)} {σ : St} {H : Hp} {s : Shared} {a C dx : Addr} {fs : List (Str × V)} {f : Str} {v : V} {A : Around} {E : Value → Shared → Prop}

theorem getattr_ok {b : Bool} {Q : Value → Shared → Prop} (I : Inv X pins σ H s) (e : H a = some (.ins C dx fs)) (c : Cls X.K C) (n : NoAttr X.K C f) (l : fs.lookup f = some v)
    (h : ∀ u s', Inv X pins σ H s' → RelV v u → Q u s') : wpAny (model X.prog X.w) A (getAttr (.ref a) f b) Q E s := by
  obtain ⟨mA, O, r, _, _, _⟩ := ins_get I.hok e
  obtain ⟨u, hu, ru⟩ := RelO.some_of (v := v) (o := mA f) (by rw [← l]; exact r f)
  exact get_map I.kIn O (c.get f) c.hd n hu (handed_of ru) (h u _ (I.tok _) ru)

theorem getmeth_ok {m : Str} {g : Addr} {pl : Sem Bool} {Q : Value × List Value → Shared → Prop} (I : Inv X pins σ H s) (e : H a = some (.ins C dx fs)) (c : Cls X.K C) (k : Meth X.K C m g) (l : fs.lookup m = none)
    (h : Q (.ref g, [.ref a]) s) : wpAny (model X.prog X.w) A (getMethod (.ref a) m pl) Q E s := by
  obtain ⟨mA, O, r, _, _, _⟩ := ins_get I.hok e
  have hn : mA m = none := RelO.none_of (by rw [← l]; exact r m)
  exact get_meth I.kIn O (c.get m) k.at_ k.fn hn h

theorem setattr_ok {y : V} {u : Value} {Q : Unit → Shared → Prop} (I : Inv X pins σ H s) (e : H a = some (.ins C dx fs)) (c : Cls X.K C) (n : NoAttr X.K C f) (hl : fs.length < 1000) (ry : RelV y u)
    (h : ∀ s', Inv X pins σ (upd H a (.ins C dx (putF f y fs))) s' → Q () s') : wpAny (model X.prog X.w) A (setAttr (.ref a) f u) Q E s := by
  obtain ⟨mA, O, r, wi, _, ho⟩ := ins_get I.hok e
  have hz : (fs.map (·.1)).length ≤ sizeLine := by rw [List.length_map, sizeLine_eq]; omega
  refine set_map I.kIn O c.sa c.po n.taker c.hd wi hz fun h' O' sb => h _ ?_
  have hd : ∃ o, h'.get? dx = some o := let ⟨o, _, _, e', _⟩ := O'.ns; ⟨o, e'⟩
  refine I.write (x := a) (e := dx) (by rw [e]; exact True.intro) (.inr ho) (fun b q hb z => (sb.2 b hb).trans z) hd ?_
  refine ⟨by rw [upd_ne O.ne]; exact ho, ?_, O.ne, O'.obj, _, O'.ns, fun g => ?_, fun g hg => ?_⟩
  · have := length_putF f y fs; omega
  · show RelO ((putF f y fs).lookup g) (if g = f then some u else mA g)
    rw [lookup_putF]
    by_cases q : g = f
    · rw [if_pos q, if_pos q]; exact ry
    · rw [if_neg q, if_neg q]; exact r g
  · by_cases q : g = f
    · rw [q]; exact (keys_putF f y fs).1
    · refine (keys_putF f y fs).2 g (wi g fun z => hg ?_)
      show (if g = f then some u else mA g) = none
      rw [if_neg q]; exact z

/-- a new instance, tracked, without attributes -/
theorem Inv.made (I : Inv X pins σ H s) : Inv X pins σ (upd (upd H s.heap.objs.size (.own (s.heap.objs.size + 1))) (s.heap.objs.size + 1) (.ins C s.heap.objs.size []))
    { s with heap := (s.heap.push PySem.W.emptyDict).push (PySem.W.instObj C s.heap.objs.size) } := by
  have e1 : (s.heap.push PySem.W.emptyDict).get? s.heap.objs.size = some PySem.W.emptyDict := Heap.get?_push_size s.heap rfl
  have e2 : ((s.heap.push PySem.W.emptyDict).push (PySem.W.instObj C s.heap.objs.size)).get? (s.heap.objs.size + 1) = some (PySem.W.instObj C s.heap.objs.size) := by
    have := Heap.get?_push_size (s.heap.push PySem.W.emptyDict) (o := PySem.W.instObj C s.heap.objs.size) rfl
    rwa [Heap.size_push] at this
  have e3 : (s.heap.push PySem.W.emptyDict).Ns s.heap.objs.size (fun _ => none) := ⟨PySem.W.emptyDict, #[], _, e1, rfl, (fun e he => absurd he (by simp)), fun _ => rfl⟩
  have I1 := I.laid (a := s.heap.objs.size) (o := .own (s.heap.objs.size + 1)) (h' := s.heap.push PySem.W.emptyDict) (t' := s.toks) (fun b u q => Heap.get?_push_of_some _ q) (Nat.le_refl _) ⟨_, e1⟩
  refine I1.laid (a := s.heap.objs.size + 1) (o := .ins C s.heap.objs.size []) (t' := s.toks) (fun b u q => Heap.get?_push_of_some _ q) (Nat.le_of_eq (Heap.size_push _ _)) ?_
  have ne : s.heap.objs.size ≠ s.heap.objs.size + 1 := Nat.ne_of_lt (Nat.lt_succ_self _)
  refine ⟨by rw [upd_ne ne, upd_same], Nat.zero_le _, ne, e2, fun _ => none, (Heap.Ns1.of_empty e3).at fun o q => Heap.get?_push_of_some _ q, fun _ => True.intro, fun y hy => absurd rfl hy⟩

/-- e.f where nothing but the object is asked: through attributeBase (super) and the last hold -/
theorem attr_of {prog : Program} {w : World} {env : Env} {e : Expr} {f : Str} {pos : Pos} {s : Shared} {Q : Value → Shared → Prop} (hb : attributeBase e f env (eval e env) = eval e env)
    (h : wpAny (model prog w) A (eval e env) (fun o s₁ => wpAny (model prog w) A (getAttr o f true) Q E s₁) E s) : wpAny (model prog w) A (eval (.Attribute e f pos) env) Q E s :=
  Attribute_any_ h (by rw [arm_eval_Attribute, hb])
end

/-! ### readings and rules -/
/-- e.f, an attribute of the instance -/
def tFld (K : PySem.W.Frag) (ta : TE) (f : Str) : TE := fun σ H Q => ta σ H fun x H1 => ∃ a C dx fs v, x = .ref a ∧ H1 a = some (.ins C dx fs) ∧ Cls K C ∧ NoAttr K C f ∧ fs.lookup f = some v ∧ Q v H1
/-- e.f, a constant of the class -/
def tCon (K : PySem.W.Frag) (ta : TE) (f : Str) : TE := fun σ H Q => ta σ H fun x H1 => ∃ a C dx fs v u, x = .ref a ∧ H1 a = some (.ins C dx fs) ∧ Cls K C ∧ Con K C f v u ∧ fs.lookup f = none ∧ Q v H1
/-- e.f = value -/
def sFld (K : PySem.W.Frag) (ta tv : TE) (f : Str) : TS := fun D σ H => tv σ H fun y H1 => ta σ H1 fun x H2 => ∃ a C dx fs, x = .ref a ∧ H2 a = some (.ins C dx fs) ∧ Cls K C ∧ NoAttr K C f ∧ fs.length < 1000 ∧
  D.nx σ (upd H2 a (.ins C dx (putF f y fs)))
/-- an augmented operator on two values -/
def InOp (X : Cx) (op : Operator) (rd : V → V → Hp → VK → Prop) : Prop :=
  ∀ (pins : List (Addr × Obj)) (s : Shared) (σ : St) (H : Hp) (x y : V) (u v : Value) (Q : VK), Inv X pins σ H s → RelV x u → RelV y v → rd x y H Q → wpAny (model X.prog X.w) X.A (inplaceOp op u v) (EP X pins σ Q) X.xe s
/-- e.f op= value -/
def sFldAug (K : PySem.W.Frag) (ta tv : TE) (rd : V → V → Hp → VK → Prop) (f : Str) : TS := fun D σ H => ta σ H fun x H1 => ∃ a C dx fs v, x = .ref a ∧ H1 a = some (.ins C dx fs) ∧ Cls K C ∧ NoAttr K C f ∧ fs.lookup f = some v ∧
  tv σ H1 fun y H2 => rd v y H2 fun z H3 => ∃ dx' fs', H3 a = some (.ins C dx' fs') ∧ fs'.length < 1000 ∧ D.nx σ (upd H3 a (.ins C dx' (putF f z fs')))

section
variable {X : Cx} {o e value : Expr} {f : Str} {pos pos' tpos : Pos} {ta tv : TE}
theorem pe_fld (he : PE X e ta) (hb : attributeBase e f X.env (eval e X.env) = eval e X.env) : PE X (.Attribute e f pos) (tFld X.K ta f) := by
  intro pins s σ H Q I h
  refine attr_of hb (thn (he pins s σ H _ I h) fun u s1 ⟨x, H1, I1, rx, a, C, dx, fs, v, ex, ea, c, n, l, q⟩ => ?_)
  subst ex
  obtain rfl : u = Value.ref a := rx
  exact getattr_ok I1 ea c n l fun u' s2 I2 ru => ⟨v, H1, I2, ru, q⟩
theorem ps_fld (ha : PE X o ta) (hv : PE X value tv) (hs : swapsWith value (some (.Attribute o f pos')) pos.line X.env = pure false) : PS X (.Assign [.Attribute o f pos'] value pos) (sFld X.K ta tv f) := by
  intro pins s σ H D I h
  refine plainObj_wpAny_Assign_Attribute (thn (hv pins s σ H _ I h) fun u s1 ⟨y, H1, I1, ry, q⟩ => thn (ha pins s1 σ H1 _ I1 q) fun ov s2 ⟨x, H2, I2, rx, a, C, dx, fs, ex, ea, c, n, l, q2⟩ => ?_) hs
  subst ex
  obtain rfl : ov = Value.ref a := rx
  exact setattr_ok I2 ea c n l ry fun s3 I3 => ⟨σ, _, I3, q2⟩
def rAdd : V → V → Hp → VK → Prop := fun x y H Q => ∃ i j, x = .int i ∧ y = .int j ∧ Q (.int (i + j)) H
def rSub : V → V → Hp → VK → Prop := fun x y H Q => ∃ i j, x = .int i ∧ y = .int j ∧ Q (.int (i - j)) H
end

/-! ### isinstance -/
section
variable {X : Cx} {pins : List (Addr × Obj)} {σ : St} {H : Hp} {s : Shared} {A : Around} {E : Value → Shared → Prop} {Q : Value → Shared → Prop} {c : Value} {b : Bool}
/-- the type of a value, as the fragment's deciders take it; for an instance its class -/
inductive TyOf (K : PySem.W.Frag) (H : Hp) : V → Value → Prop where
  | non : TyOf K H .non (.type "NoneType")
  | bl (x : Bool) : TyOf K H (.bl x) (.type "bool")
  | int (i : Int) : TyOf K H (.int i) (.type "int")
  | str (x : Str) : TyOf K H (.str x) (.type "str")
  | flt (x : UInt64) : TyOf K H (.flt x) (.type "float")
  | lst {a : Addr} {xs : List V} (e : H a = some (.lst xs)) : TyOf K H (.ref a) (.type "list")
  | frz {a : Addr} {o : Obj} {xs : List V} (e : H a = some (.frz o (.lst xs))) : TyOf K H (.ref a) (.type "list")
  | tup {a : Addr} {xs : List V} (e : H a = some (.tup xs)) : TyOf K H (.ref a) (.type "tuple")
  | dK {a : Addr} {kvs : List (Key × V)} (e : H a = some (.dK kvs)) : TyOf K H (.ref a) (.type "dict")
  | dT {a : Addr} {kvs : List (List Key × V)} (e : H a = some (.dT kvs)) : TyOf K H (.ref a) (.type "dict")
  | ins {a C dx : Addr} {fs : List (Str × V)} (e : H a = some (.ins C dx fs)) (cl : Cls K C) (ha : PySem.W.findIn K (.ref C) "__class__" = some (some (.builtin "object.__class__")))
      (hn : PySem.W.specialIn K (.builtin "object.__class__") "__get__" = some (some (.builtin "getset_descriptor.__get__"))) (htk : PySem.W.takesIn K (.builtin "object.__class__") = some true)
      (hm : PySem.W.mroIn K C (.type "object") = some true) : TyOf K H (.ref a) (.ref C)
/-- isinstance(x, c) for one class c, a built-in or an own one: kitOne's answer -/
theorem isinst_ok {x : V} {u t : Value} (I : Inv X pins σ H s) (rx : RelV x u) (ty : TyOf X.K H x t) (e : PySem.W.kitOne X.K t c = some b) (h : ∀ tk, Q (.bool b) { s with toks := tk }) :
    wpAny (model X.prog X.w) A (call (.builtin "isinstance") [u, c]) Q E s := by
  cases ty with
  | non => cases (show u = Value.none from rx); exact PySem.W.kia_one PySem.W.kitx_none I.kIn True.intro e (fun z => nomatch z) h
  | bl y => cases (show u = Value.bool y from rx); exact PySem.W.kia_one PySem.W.kitx_bool I.kIn True.intro e (fun z => nomatch z) h
  | int i => obtain ⟨t, q⟩ := (show ∃ t, u = Value.int i t from rx); cases q; exact PySem.W.kia_one PySem.W.kitx_int I.kIn True.intro e (fun z => nomatch z) h
  | str y => obtain ⟨t, q⟩ := (show ∃ t, u = Value.str y t from rx); cases q; exact PySem.W.kia_one PySem.W.kitx_str I.kIn True.intro e (fun z => nomatch z) h
  | flt y => obtain ⟨t, q⟩ := (show ∃ t, u = Value.float y t from rx); cases q; exact PySem.W.kia_one PySem.W.kitx_float I.kIn True.intro e (fun z => nomatch z) h
  | @lst a xs ea =>
    cases (show u = Value.ref a from rx)
    obtain ⟨_, _, n, _, h1⟩ := (show ObjOk X.prog X.w H s.heap a (.lst xs) from I.hok a _ ea)
    exact PySem.W.kia_one PySem.W.kitx_list I.kIn ⟨_, h1, rfl⟩ e (fun z => nomatch z) h
  | @frz a ob xs ea =>
    cases (show u = Value.ref a from rx)
    obtain ⟨_, _, _, n, _, h1⟩ := (show ObjOk X.prog X.w H s.heap a (.frz ob (.lst xs)) from I.hok a _ ea)
    exact PySem.W.kia_one PySem.W.kitx_list I.kIn ⟨_, h1, rfl⟩ e (fun z => nomatch z) h
  | @tup a xs ea =>
    cases (show u = Value.ref a from rx)
    obtain ⟨_, _, _, p⟩ := (show ObjOk X.prog X.w H s.heap a (.tup xs) from I.hok a _ ea)
    obtain ⟨o, h1, h2, _⟩ := p
    exact PySem.W.kia_one PySem.W.kitx_tuple I.kIn ⟨o, h1, h2⟩ e (fun z => nomatch z) h
  | @dK a kvs ea =>
    cases (show u = Value.ref a from rx)
    obtain ⟨_, _, vs, _, p⟩ := (show ObjOk X.prog X.w H s.heap a (.dK kvs) from I.hok a _ ea)
    obtain ⟨o, es, ep, h1, h2, _⟩ := p
    exact PySem.W.kia_one PySem.W.kitx_dict I.kIn ⟨o, h1, h2.1⟩ e (fun z => nomatch z) h
  | @dT a kvs ea =>
    cases (show u = Value.ref a from rx)
    obtain ⟨_, _, xs, _, o, es, ep, h1, h2, _⟩ := (show ObjOk X.prog X.w H s.heap a (.dT kvs) from I.hok a _ ea)
    exact PySem.W.kia_one PySem.W.kitx_dict I.kIn ⟨o, h1, h2.1⟩ e (fun z => nomatch z) h
  | @ins a C dx fs ea cl ha hn htk hm =>
    cases (show u = Value.ref a from rx)
    obtain ⟨mA, O, _⟩ := ins_get I.hok ea
    obtain ⟨od, J, _⟩ := O.look
    exact PySem.W.kia_one (PySem.W.kitx_own (cl.get _) cl.hd ha hn htk hm) I.kIn J e (fun z => nomatch z) h
end
end L2

namespace L2
open PySem PySem.Spec PyProof.Rows

/-! ### room -/
structure Room (k : Nat) (A : Around) : Prop where
  hd : A.handled = none
  dp : A.depth + 3 * k + 5 < recursionLimit
  un : A.units + 16 * k + 200 < cLine
theorem Room.mono {j k : Nat} {A : Around} (r : Room k A) (h : j ≤ k) : Room j A := ⟨r.hd, by have := r.dp; omega, by have := r.un; omega⟩
theorem Room.deeper {k : Nat} {A : Around} (r : Room (k + 1) A) (env : Env) : Room k (A.deeper env) :=
  ⟨r.hd, by have := r.dp; show A.depth + 1 + 3 * k + 5 < _; omega, by have := r.un; show A.units + 3 + 16 * k + 200 < _; omega⟩
theorem make_depth {A : Around} {C : Addr} {us : List Value} {kw : List (Str × Value)} : (A.under (.builtin "type.__call__" ⟨.ref C :: us, kw⟩)).depth = A.depth + 1 := by
  first | rfl | simp [Around.under, Code.weight, Code.isCreation, Code.isGuard, Code.isCaller, Code.frames, Code.isFrame, guardIds]
theorem make_units {A : Around} {C : Addr} {us : List Value} {kw : List (Str × Value)} : (A.under (.builtin "type.__call__" ⟨.ref C :: us, kw⟩)).units = A.units + 1 := by
  first | rfl | simp [Around.under, Code.cUnits, Code.frames, Code.isFrame]
theorem Room.make {k : Nat} {A : Around} (r : Room (k + 1) A) (C : Addr) (us : List Value) (kw : List (Str × Value)) : Room k (A.under (.builtin "type.__call__" ⟨.ref C :: us, kw⟩)) :=
  ⟨r.hd, by have := r.dp; rw [make_depth]; omega, by have := r.un; rw [make_units]; omega⟩
theorem Room.depth {k : Nat} {A : Around} (r : Room k A) : A.depth < recursionLimit := by have := r.dp; omega
theorem Room.units {k : Nat} {A : Around} (r : Room k A) : A.units + 64 < cLine := by have := r.un; omega
/-! ### argument lists and displays -/
def tNil : TA := fun _ H Q => Q [] H
def tCons (ta : TE) (tr : TA) : TA := fun σ H Q => ta σ H fun x H1 => tr σ H1 fun xs H2 => Q (x :: xs) H2
section
variable {X : Cx} {e : Expr} {es : List Expr} {te : TE} {t : TA} {pos : Pos}
theorem pa_nil : PA X [] tNil := fun _ _ _ _ H Q I h => Calls.spliced_nil ⟨[], H, I, .nil, h⟩
theorem pa_cons (ha : PE X e te) (hr : PA X es t) (hs : starEach (e :: es) X.env = (false, eval e X.env) :: starEach es X.env := by rfl) : PA X (e :: es) (tCons te t) := by
  intro pos pins s σ H Q I h
  rw [hs]
  show wpAny _ _ (spliced ((false, eval e X.env) :: backTo pos (starEach es X.env))) _ _ s
  refine Calls.spliced_cons (thn (ha pins s σ H _ I h) fun u s1 ⟨x, H1, I1, r1, q1⟩ => ?_)
  exact thn (hr pos pins s1 σ H1 _ I1 q1) fun us s2 ⟨xs, H2, I2, r2, q2⟩ => ⟨x :: xs, H2, I2, .cons r1 r2, q2⟩

/-- a tuple, a list of written items -/
def tTup (t : TA) : TE := fun σ H Q => t σ H fun xs H1 => xs.length ≤ sizeLine ∧ ∀ p, H1 p = none → Q (.ref p) (upd H1 p (.tup xs))
def tLst (t : TA) : TE := fun σ H Q => t σ H fun xs H1 => xs.length ≤ sizeLine ∧ ∀ p, H1 p = none → Q (.ref p) (upd H1 p (.lst xs))
theorem pe_tup {x1} (h : PA X es t) : PE X (.Tuple es x1 pos) (tTup t) := by
  intro pins s σ H Q I hq
  refine wpAny_Tuple_spliced (thn (h pos pins s σ H _ I hq) fun us s1 ⟨xs, H1, I1, r, z, q⟩ => ⟨by rw [← r.length]; exact z, ?_⟩)
  have hf : H1 s1.heap.objs.size = none := I1.hok.fresh (Nat.le_refl _)
  refine ⟨.ref s1.heap.objs.size, upd H1 s1.heap.objs.size (.tup xs), I1.laid (t' := s1.toks) (fun b u e => Heap.get?_push_of_some _ e) (Nat.le_refl _) ?_, rfl, q _ hf⟩
  exact ⟨z, us, r, ⟨_, Heap.get?_push_size _ rfl, rfl, _, rfl⟩⟩
theorem pe_lst (h : PA X es t) : PE X (.List es pos) (tLst t) := by
  intro pins s σ H Q I hq
  refine wpAny_List_spliced (thn (h pos pins s σ H _ I hq) fun us s1 ⟨xs, H1, I1, r, z, q⟩ => ⟨by rw [← r.length]; exact z, ?_⟩)
  have hf : H1 s1.heap.objs.size = none := I1.hok.fresh (Nat.le_refl _)
  refine ⟨.ref s1.heap.objs.size, upd H1 s1.heap.objs.size (.lst xs), I1.laid (t' := s1.toks) (fun b u e => Heap.get?_push_of_some _ e) (Nat.le_refl _) ?_, rfl, q _ hf⟩
  exact ⟨z, us, 0, r, Heap.get?_push_size _ rfl⟩
end

/-! ### what a def promises -/
/-- a def's promise: the bound arguments in the parameters' order, the heap, the wanted end, the wanted exception -/
abbrev Sp := List V → Hp → VK → XK → Prop
/-- how an exception lies behind a call (file 08 gives it): the callers' frames, abstract heap and state ahead of the call, the wish, the exception, the state -/
abbrev CXT := List Env → Hp → Shared → XK → Value → Shared → Prop

/-- the state at a call -/
structure Env0 (P : Program) (w : World) (K : PySem.W.Frag) (mg : Str → Option Value) (base : Heap) (A : Around) (outer : List Env) (s : Shared) (H : Hp) : Prop where
  frames : A.frames = some outer
  mod : Mod K mg base
  bs : ∀ b o, base.get? b = some o → s.heap.get? b = some o ∧ H b = none
  bsz : base.objs.size ≤ s.heap.objs.size
  funs : s.heap.FunFrames base outer
  frf : ∀ b ∈ frs outer, H b = none
  hok : HOk P w H s.heap
  bare : AllBare s.gens
/-- a call's end -/
def CE (outer : List Env) (P : Program) (w : World) (H : Hp) (s : Shared) (Q : VK) (u : Value) (s' : Shared) : Prop :=
  ∃ v H', s'.os = s.os ∧ AllBare s'.gens ∧ Un (frs outer) [] H H' s.heap s'.heap ∧ HOk P w H' s'.heap ∧ RelV v u ∧ Q v H'
def CR (CX : CXT) (outer : List Env) (P : Program) (w : World) (H : Hp) (s : Shared) (Q : VK) (E : XK) (r : Result) (s' : Shared) : Prop :=
  match r with
  | .ok (.ret u) => CE outer P w H s Q u s'
  | .ok _ => False
  | .error e => CX outer H s E e s'
structure FnOk (P : Program) (w : World) (K : PySem.W.Frag) (mg : Str → Option Value) (base : Heap) (CX : CXT) (k : Nat) (f : Addr) (fd : FuncData) (ps : List Str) (sp : Sp) : Prop where
  len : ∀ vs H Q E, sp vs H Q E → vs.length = ps.length
  run : ∀ (A : Around) (outer : List Env) (s : Shared) (H : Hp) (args : Args) (us : List Value) (vs : List V) (Q : VK) (E : XK), Room k A → Env0 P w K mg base A outer s H → BindsTo s fd args (ps.zip us) → Vals vs us → sp vs H Q E →
    codeAny (model P w) A (.call (.ref f) args) (CR CX outer P w H s Q E) s
theorem Env0.make {P : Program} {w : World} {K : PySem.W.Frag} {mg : Str → Option Value} {base : Heap} {A : Around} {outer : List Env} {s : Shared} {H : Hp} (e : Env0 P w K mg base A outer s H) (C : Addr) (us : List Value) (kw : List (Str × Value)) :
    Env0 P w K mg base (A.under (.builtin "type.__call__" ⟨.ref C :: us, kw⟩)) outer s H := ⟨by first | exact e.frames | (simpa [Around.under, Code.envs, Code.isFrame, pushEnvs] using e.frames), e.mod, e.bs, e.bsz, e.funs, e.frf, e.hok, e.bare⟩
section
variable {X : Cx} {pins : List (Addr × Obj)} {σ : St} {H : Hp} {s s' : Shared}
/-- from a body: what a callee wants -/
theorem Inv.env0 (I : Inv X pins σ H s) : Env0 X.prog X.w X.K X.mg X.base X.A X.stack s H :=
  ⟨I.ok.frames, I.ok.mod, I.bs, Nat.le_trans I.ok.bsz I.sz, I.stack, I.stkFree, I.hok, I.bare⟩
/-- behind a call -/
theorem Inv.after {Q : VK} {u : Value} (I : Inv X pins σ H s) (h : CE X.stack X.prog X.w H s Q u s') : EP X pins σ Q u s' := by
  obtain ⟨v, H', os, bare, un, hok, r, q⟩ := h
  obtain ⟨hh, g, d, t, os'⟩ := s'
  obtain rfl : os' = s.os := os
  exact ⟨v, H', I.call (h' := hh) (g' := g) (d' := d) (t' := t) (ch := []) un hok bare (fun b z => absurd z (by simp)), r, q⟩
end

/-! ### calls -/
/-- f(..): the written arguments, then the defaults dvs; E: what is wanted of an exception -/
def tCall (sp : Sp) (dvs : List V) (E : XK) (t : TA) : TE := fun σ H Q => t σ H fun vs H1 => sp (vs ++ dvs) H1 Q E
/-- o.m(..) of an instance of the class at C -/
def tMeth (C : Addr) (m : Str) (sp : Sp) (dvs : List V) (E : XK) (ta : TE) (t : TA) : TE := fun σ H Q => ta σ H fun x H1 => ∃ a dx fs, x = .ref a ∧ H1 a = some (.ins C dx fs) ∧ fs.lookup m = none ∧
  t σ H1 fun vs H2 => sp (x :: (vs ++ dvs)) H2 Q E
/-- C(..): a new instance and its dict, then __init__ -/
def tMake (C : Addr) (sp : Sp) (dvs : List V) (E : XK) (t : TA) : TE := fun σ H Q => t σ H fun vs H1 => ∀ x dx, H1 x = none → H1 dx = none → dx ≠ x →
  sp (.ref x :: (vs ++ dvs)) (upd (upd H1 dx (.own x)) x (.ins C dx [])) (fun v H2 => v = .non ∧ Q (.ref x) H2) E

/-- how the parameters are bound: us the positional arguments, kw the keywords' values by name, ds the defaults that fill up -/
def Binds (K : PySem.W.Frag) (fd : FuncData) (ps : List Str) (ds : List Value) : Prop :=
  ∀ (s : Shared) (us : List Value), K.In s.heap → (us ++ ds).length = ps.length → BindsTo s fd ⟨us, []⟩ (ps.zip (us ++ ds))
/-- every parameter is given -/
theorem Binds.all {K : PySem.W.Frag} {fd : FuncData} {ps : List Str} (h : ∀ us : List Value, us.length = ps.length → bindArgs fd ⟨us, []⟩ = pure (ps.zip us)) : Binds K fd ps [] := fun s us _ hl => by
  rw [List.append_nil] at hl ⊢
  exact .of_eq (h us hl)

/-- an exception of a callee reaches what this body wants of exceptions -/
def Passes (CX : CXT) (X : Cx) (E : XK) : Prop := ∀ (pins : List (Addr × Obj)) (σ : St) (H : Hp) (s : Shared) (e : Value) (s' : Shared), Inv X pins σ H s → CX X.stack H s E e s' → X.xe e s'

section
variable {X : Cx} {CX : CXT} {k : Nat} {f C : Addr} {fd : FuncData} {ps : List Str} {sp : Sp} {dvs : List V} {ds : List Value} {E : XK} {x m : Str} {p pos apos : Pos} {e o : Expr} {es : List Expr} {ta : TE} {t : TA}

/-- the callee runs -/
theorem run_fn {pins : List (Addr × Obj)} {σ : St} {H : Hp} {s : Shared} {Q : VK} {us : List Value} {vs : List V} (F : FnOk X.prog X.w X.K X.mg X.base CX k f fd ps sp) (hr : Room k X.A) (hb : Binds X.K fd ps ds) (hd : Vals dvs ds) (hx : Passes CX X E)
    (I : Inv X pins σ H s) (r : Vals vs us) (h : sp (vs ++ dvs) H Q E) : wpAny (model X.prog X.w) X.A (call (.ref f) us) (EP X pins σ Q) X.xe s := by
  have r2 : Vals (vs ++ dvs) (us ++ ds) := r.append hd
  have hl : (us ++ ds).length = ps.length := by rw [← r2.length]; exact F.len _ _ _ _ h
  refine wpAny_call (codeAny_mono (F.run X.A X.stack s H ⟨us, []⟩ (us ++ ds) (vs ++ dvs) Q E hr I.env0 (hb s us I.kIn hl) r2 h) fun r s' hq => ?_)
  cases r with
  | error e => exact hx pins σ H s e s' I hq
  | ok fl =>
    cases fl with
    | ret u => exact I.after hq
    | next => exact False.elim hq
    | brk => exact False.elim hq
    | cont => exact False.elim hq

theorem pe_call (F : FnOk X.prog X.w X.K X.mg X.base CX k f fd ps sp) (hr : Room k X.A) (hg : Gl X x) (hm : X.mg x = some (.ref f)) (hk : PySem.W.keepIn X.K (.ref f) = true) (hb : Binds X.K fd ps ds) (hd : Vals dvs ds) (hx : Passes CX X E)
    (ha : PA X (e :: es) t) (hdb : (x == ("__debug__" : Str)) = false := by decide) (he : starEach (e :: es) X.env = (false, eval e X.env) :: starEach es X.env := by rfl) (hpl : (backTo pos (starEach es X.env)).any (·.1) = false := by rfl) :
    PE X (.Call (.Name x p) (e :: es) [] pos) (tCall sp dvs E t) := by
  intro pins s σ H Q I h
  refine wpAny_Call_Name_kw (ld_glob I hg hm ?_ hdb)
  refine PySem.W.callWith_K (h₀ := X.base) I.ok.mod.kin hk (thn (ha pos pins s σ H _ I h) fun us s1 ⟨vs, H1, I1, r, q⟩ => ⟨I1.kIn, ?_⟩) he hpl
  exact run_fn F hr hb hd hx I1 r q
/-- o.m(e, ..) -/
theorem pe_meth {pl : Sem Bool} (he : PE X o ta) (c : Cls X.K C) (hm : Meth X.K C m f) (F : FnOk X.prog X.w X.K X.mg X.base CX k f fd ps sp) (hr : Room k X.A) (hb : Binds X.K fd ps ds) (hd : Vals dvs ds) (hx : Passes CX X E) (ha : PA X (e :: es) t)
    (hst : starEach (e :: es) X.env = (false, eval e X.env) :: starEach es X.env := by rfl) (hpl : (backTo pos (starEach es X.env)).any (·.1) = false := by rfl)
    (ht : eval (.Call (.Attribute o m apos) (e :: es) [] pos) X.env = (do
      let ov ← eval o X.env
      standAt apos.atName
      let (f, first) ← holding [ov] (getMethod ov m pl)
      callWith pos f first (backTo pos (starEach (e :: es) X.env)) (backToKw pos (keywordEach [] X.env))) := by rfl) :
    PE X (.Call (.Attribute o m apos) (e :: es) [] pos) (tMeth C m sp dvs E ta t) := by
  intro pins s σ H Q I h
  refine PySem.W.methodCall_KW (pl := pl) (thn (he pins s σ H _ I h) fun u s1 ⟨x, H1, I1, rx, a, dx, fs, ex, ea, l, q⟩ => ?_) ht
  subst ex
  obtain rfl : u = Value.ref a := rx
  refine getmeth_ok I1 ea c hm l ?_
  refine PySem.W.callWith_K (first := [.ref a]) (h₀ := X.base) I.ok.mod.kin hm.kp (thn (ha pos pins s1 σ H1 _ I1 q) fun us s2 ⟨vs, H2, I2, r, q2⟩ => ⟨I2.kIn, ?_⟩) hst hpl
  exact run_fn (us := .ref a :: us) (vs := .ref a :: vs) F hr hb hd hx I2 (.cons rfl r) q2
/-- o.m() -/
theorem pe_meth0 {pl : Sem Bool} (he : PE X o ta) (c : Cls X.K C) (hm : Meth X.K C m f) (F : FnOk X.prog X.w X.K X.mg X.base CX k f fd ps sp) (hr : Room k X.A) (hb : Binds X.K fd ps ds) (hd : Vals dvs ds) (hx : Passes CX X E)
    (ht : eval (.Call (.Attribute o m apos) [] [] pos) X.env = (do
      let ov ← eval o X.env
      standAt apos.atName
      let (f, first) ← holding [ov] (getMethod ov m pl)
      callWith pos f first (backTo pos (starEach [] X.env)) (backToKw pos (keywordEach [] X.env))) := by rfl) :
    PE X (.Call (.Attribute o m apos) [] [] pos) (tMeth C m sp dvs E ta tNil) := by
  intro pins s σ H Q I h
  refine PySem.W.methodCall_KW (pl := pl) (thn (he pins s σ H _ I h) fun u s1 ⟨x, H1, I1, rx, a, dx, fs, ex, ea, l, q⟩ => ?_) ht
  subst ex
  obtain rfl : u = Value.ref a := rx
  refine getmeth_ok I1 ea c hm l ?_
  exact PySem.W.callWith_K0 (first := [.ref a]) I1.kIn hm.kp (run_fn (us := [.ref a]) (vs := [.ref a]) F hr hb hd hx I1 (.cons rfl .nil) q)

/-- what a class must have to be made -/
structure Mk (K : PySem.W.Frag) (C f : Addr) : Prop where
  makes : PySem.W.makesIn K C = true
  init : PySem.W.findIn K (.ref C) "__init__" = some (some (.ref f))
  fn : PySem.W.isFn K (.ref f) = true
  kp : PySem.W.keepIn K (.ref C) = true

theorem run_make {pins : List (Addr × Obj)} {σ : St} {H : Hp} {s : Shared} {Q : VK} {us : List Value} {vs : List V} (M : Mk X.K C f) (F : FnOk X.prog X.w X.K X.mg X.base CX k f fd ps sp) (hr : Room (k + 1) X.A) (hb : Binds X.K fd ps ds) (hd : Vals dvs ds)
    (hx : Passes CX X E) (I : Inv X pins σ H s) (r : Vals vs us)
    (h : ∀ x dx, H x = none → H dx = none → dx ≠ x → sp (.ref x :: (vs ++ dvs)) (upd (upd H dx (.own x)) x (.ins C dx [])) (fun v H2 => v = .non ∧ Q (.ref x) H2) E) :
    wpAny (model X.prog X.w) X.A (call (.ref C) us) (EP X pins σ Q) X.xe s := by
  have hq := h (s.heap.objs.size + 1) s.heap.objs.size (I.hok.fresh (Nat.le_succ _)) (I.hok.fresh (Nat.le_refl _)) (Nat.ne_of_lt (Nat.lt_succ_self _))
  have I2 := Inv.made (C := C) I
  have r2 : Vals (V.ref (s.heap.objs.size + 1) :: (vs ++ dvs)) (Value.ref (s.heap.objs.size + 1) :: (us ++ ds)) := .cons rfl (r.append hd)
  have hl : (Value.ref (s.heap.objs.size + 1) :: us ++ ds).length = ps.length := by
    have e := r2.length
    rw [F.len _ _ _ _ hq] at e
    exact e.symm
  refine wpAny_call (make_map (f := f) I.kIn M.makes M.init (beq_iff_eq.mp M.fn) (codeAny_mono (F.run _ X.stack _ _ ⟨Value.ref (s.heap.objs.size + 1) :: us, []⟩ (Value.ref (s.heap.objs.size + 1) :: (us ++ ds)) _ _ E (hr.make C us [])
    (I2.env0.make C us []) (hb _ (Value.ref (s.heap.objs.size + 1) :: us) I2.kIn hl) r2 hq) fun r s' hq' => ?_))
  cases r with
  | error e => exact hx pins σ _ _ e s' I2 hq'
  | ok fl =>
    cases fl with
    | ret u =>
      obtain ⟨v, H', I3, rv, ev, q3⟩ := I2.after hq'
      subst ev
      exact ⟨rv, ⟨V.ref (s.heap.objs.size + 1), H', I3, rfl, q3⟩⟩
    | next => exact False.elim hq'
    | brk => exact False.elim hq'
    | cont => exact False.elim hq'
theorem pe_make (M : Mk X.K C f) (F : FnOk X.prog X.w X.K X.mg X.base CX k f fd ps sp) (hr : Room (k + 1) X.A) (hg : Gl X x) (hm : X.mg x = some (.ref C)) (hb : Binds X.K fd ps ds) (hd : Vals dvs ds) (hx : Passes CX X E)
    (ha : PA X (e :: es) t) (hdb : (x == ("__debug__" : Str)) = false := by decide) (he : starEach (e :: es) X.env = (false, eval e X.env) :: starEach es X.env := by rfl) (hpl : (backTo pos (starEach es X.env)).any (·.1) = false := by rfl) :
    PE X (.Call (.Name x p) (e :: es) [] pos) (tMake C sp dvs E t) := by
  intro pins s σ H Q I h
  refine wpAny_Call_Name_kw (ld_glob I hg hm ?_ hdb)
  refine PySem.W.callWith_K (h₀ := X.base) I.ok.mod.kin M.kp (thn (ha pos pins s σ H _ I h) fun us s1 ⟨vs, H1, I1, r, q⟩ => ⟨I1.kIn, ?_⟩) he hpl
  exact run_make M F hr hb hd hx I1 r q
end

/-! ### keywords -/
/-- the values of the keywords, from the left -/
def PK (X : Cx) (kws : List Keyword) (t : TA) : Prop :=
  ∀ (pos : Pos) (pins : List (Addr × Obj)) (s : Shared) (σ : St) (H : Hp) (Q : List V → Hp → Prop), Inv X pins σ H s → t σ H Q → wpAny (model X.prog X.w) X.A (evalAll ((backToKw pos (keywordEach kws X.env)).map (·.2))) (AP X pins σ Q) X.xe s
section
variable {X : Cx} {CX : CXT} {k : Nat} {f C : Addr} {fd : FuncData} {ps ks : List Str} {sp : Sp} {E : XK} {x m : Str} {p pos apos kpos : Pos} {e o : Expr} {es : List Expr} {kws : List Keyword} {te ta : TE} {t tk : TA} {nm : Option Str}
/-- how a call with keywords binds: g puts the positional values us and the keywords' values ws (names ks) in the parameters' order, defaults among them -/
structure KBinds (K : PySem.W.Frag) (fd : FuncData) (ps ks : List Str) (g : List Value → List Value → List Value) (gV : List V → List V → List V) : Prop where
  to : ∀ (s : Shared) (us ws : List Value), K.In s.heap → (g us ws).length = ps.length → BindsTo s fd ⟨us, ks.zip ws⟩ (ps.zip (g us ws))
  rel : ∀ {vs : List V} {us : List Value} {zs : List V} {ws : List Value}, Vals vs us → Vals zs ws → Vals (gV vs zs) (g us ws)
def tCallK (sp : Sp) (gV : List V → List V → List V) (E : XK) (t tk : TA) : TE := fun σ H Q => t σ H fun vs H1 => tk σ H1 fun zs H2 => sp (gV vs zs) H2 Q E
variable {g : List Value → List Value → List Value} {gV : List V → List V → List V}
end

/-! ### a def's body keeps its promise -/
/-- names: the parameters first -/
structure FnScope (N P : List Str) (sc : Scope) : Prop where
  kind : sc.kind = .function
  co : sc.isCoroutine = false
  gen : sc.isGenerator = false
  nd : N.Nodup
  pre : N.take P.length = P
  par : ∀ x ∈ P, sc.names.lookup x = some .local ∨ sc.names.lookup x = some .cell
  nofree : ∀ y ∈ sc.names, y.2 ≠ .free

theorem bindL_out {kindOf : Str → Option NameKind} {x : Str} : ∀ {binds : List (Str × Value)} {m : Str → Option Value}, (∀ v, (x, v) ∉ binds) → bindL kindOf binds m x = m x
  | [], _, _ => rfl
  | (n, v) :: r, m, h => by
    unfold bindL
    rw [bindL_out fun w hw => h w (List.mem_cons_of_mem _ hw)]
    split
    · have : x ≠ n := by rintro rfl; exact h v List.mem_cons_self
      simp [this]
    · rfl
theorem bindC_out {kindOf : Str → Option NameKind} {x : Str} : ∀ {binds : List (Str × Value)} {m : Str → Option Value}, (∀ v, (x, v) ∉ binds) → bindC kindOf binds m x = m x
  | [], _, _ => rfl
  | (n, v) :: r, m, h => by
    unfold bindC
    rw [bindC_out fun w hw => h w (List.mem_cons_of_mem _ hw)]
    split
    · rfl
    · have : x ≠ n := by rintro rfl; exact h v List.mem_cons_self
      simp [this]
theorem bindL_get {kindOf : Str → Option NameKind} {x : Str} {v : Value} : ∀ {P : List Str} {vs : List Value} {i : Nat} {m : Str → Option Value}, P.Nodup → P[i]? = some x → vs[i]? = some v → kindOf x = some .local →
    bindL kindOf (P.zip vs) m x = some v
  | [], _, _, _, _, h, _, _ => by simp at h
  | _ :: _, [], _, _, _, _, h, _ => by simp at h
  | p :: P, w :: vs, 0, m, nd, h1, h2, hk => by
    simp at h1 h2; subst h1; subst h2
    show bindL kindOf ((p, w) :: P.zip vs) m p = _
    unfold bindL
    rw [bindL_out fun v hv => (List.nodup_cons.mp nd).1 (List.of_mem_zip hv).1, if_pos hk]
    simp
  | p :: P, w :: vs, i + 1, m, nd, h1, h2, hk => by
    show bindL kindOf ((p, w) :: P.zip vs) m x = _
    unfold bindL
    exact bindL_get (i := i) (List.nodup_cons.mp nd).2 (by simpa using h1) (by simpa using h2) hk
theorem bindC_get {kindOf : Str → Option NameKind} {x : Str} {v : Value} : ∀ {P : List Str} {vs : List Value} {i : Nat} {m : Str → Option Value}, P.Nodup → P[i]? = some x → vs[i]? = some v → kindOf x ≠ some .local →
    bindC kindOf (P.zip vs) m x = some v
  | [], _, _, _, _, h, _, _ => by simp at h
  | _ :: _, [], _, _, _, _, h, _ => by simp at h
  | p :: P, w :: vs, 0, m, nd, h1, h2, hk => by
    simp at h1 h2; subst h1; subst h2
    show bindC kindOf ((p, w) :: P.zip vs) m p = _
    unfold bindC
    rw [bindC_out fun v hv => (List.nodup_cons.mp nd).1 (List.of_mem_zip hv).1, if_neg hk]
    simp
  | p :: P, w :: vs, i + 1, m, nd, h1, h2, hk => by
    show bindC kindOf ((p, w) :: P.zip vs) m x = _
    unfold bindC
    exact bindC_get (i := i) (List.nodup_cons.mp nd).2 (by simpa using h1) (by simpa using h2) hk

/-- the names' values at the entry -/
def start (N : List Str) (vs : List V) : St := vs.map some ++ List.replicate (N.length - vs.length) none

/-- the context of a def's body, at its entry; an exception leaves the frame, then lies as CX says -/
def cxOf (CX : CXT) (P : Program) (w : World) (K : PySem.W.Frag) (mg : Str → Option Value) (base : Heap) (N : List Str) (qual : Str) (scope : Scope) (f : Addr) (cd : Value) (A : Around) (outer : List Env) (s : Shared) (H : Hp) (E : XK) : Cx where
  prog := P
  w := w
  K := K
  mg := mg
  base := base
  A := A.deeper (envOfC qual scope s.heap.objs.size f cd)
  N := N
  s₀ := s
  H₀ := H
  env := envOfC qual scope s.heap.objs.size f cd
  outer := outer
  stack := envOfC qual scope s.heap.objs.size f cd :: outer
  ex := []
  calm := true
  fn := fun _ => true
  pn := []
  xe := fun e s' => wpAny (model P w) (A.deeper (envOfC qual scope s.heap.objs.size f cd)) (leaving (envOfC qual scope s.heap.objs.size f cd) e) (fun _ s'' => CX outer H s E e s'') (fun e' s'' => CX outer H s E e' s'') s'

theorem cell_has {sc : Scope} {n : Nat} {x : Str} (h : sc.names.lookup x = some .cell) : ∃ c, (cellsFrom n sc.names []).lookup x = some c := by
  have q := PySem.W.cellsFrom_some sc.names n [] (.inl h)
  exact Option.isSome_iff_exists.mp q

theorem inv_start {CX : CXT} {P : Program} {w : World} {K : PySem.W.Frag} {mg : Str → Option Value} {base : Heap} {N ps : List Str} {qual : Str} {scope : Scope} {f : Addr} {cd : Value} {A : Around} {outer : List Env} {s s1 : Shared} {H : Hp} {E : XK} {us : List Value} {vs : List V}
    (S : FnScope N ps scope) (hd : A.handled = none) (e0 : Env0 P w K mg base A outer s H) (hl : vs.length = ps.length) (r : Vals vs us)
    (x : InCallC s s.heap.objs.size (bindL (envOfC qual scope s.heap.objs.size f cd).kindOf (ps.zip us) fun _ => none) (cellsFrom (s.heap.objs.size + 1) scope.names []) (bindC (envOfC qual scope s.heap.objs.size f cd).kindOf (ps.zip us) fun _ => none) s1) :
    Inv (cxOf CX P w K mg base N qual scope f cd A outer s H E) [] (start N vs) H s1 := by
  have hpl : ps.length ≤ N.length := by have := congrArg List.length S.pre; rw [List.length_take] at this; omega
  obtain ⟨h1, tk, rfl, hk⟩ := x.done
  have noA : ∀ b : Addr, b ∉ (cxOf CX P w K mg base N qual scope f cd A outer s H E).ex := fun b z => absurd (show b ∈ ([] : List Addr) from z) (by simp)
  refine ⟨⟨e0.mod, S.kind, rfl, rfl, Nat.le_refl _, fun y z c h1 h2 => ?_, fun y hy => ?_, fun y c _ h => ?_, fun _ => hd, Around.frames_deeper e0.frames, .inr ⟨rfl, rfl⟩, fun b z => absurd z (noA b), e0.bs, e0.bsz, fun b _ _ => noA b, fun b z => absurd z (noA b), e0.funs, e0.frf⟩,
    rfl, e0.bare, Un.kept hk, ⟨_, x.toInCall.ns, fun i y v h1 h2 h3 => ?_⟩, fun y c h => ⟨_, x.cell y c h⟩, e0.hok.fresh (Nat.le_refl _), fun y c h => ?_, fun p hp => absurd (show p ∈ ([] : List (Addr × Obj)) from hp) (by simp), e0.hok.kept hk, ?_⟩
  · exact name_of_addr x.apart (PySem.mem_of_lookup h1) (PySem.mem_of_lookup h2)
  · have hy : scope.names.lookup y = some .cell ∨ scope.names.lookup y = some .free := hy
    rcases hy with hy | hy
    · exact cell_has hy
    · exact absurd rfl (S.nofree _ (PySem.mem_of_lookup hy))
  · exact Nat.le_of_lt (x.above y c (PySem.mem_of_lookup h))
  · have hi : i < vs.length := by
      unfold start at h2
      by_cases hi : i < vs.length
      · exact hi
      · rw [List.getElem?_append_right (by simpa using hi)] at h2
        rw [List.getElem?_replicate] at h2
        split at h2 <;> cases h2
    have ha : vs[i]? = some v := by
      unfold start at h2
      rw [List.getElem?_append_left (by simpa using hi), List.getElem?_map] at h2
      cases e : vs[i]? with
      | none => rw [e] at h2; cases h2
      | some a => rw [e] at h2; cases h2; rfl
    obtain ⟨u, hu, rv⟩ := r.get ha
    have hp : ps[i]? = some y := by
      rw [← S.pre, List.getElem?_take_of_lt (by omega)]; exact h1
    have ndP : ps.Nodup := by rw [← S.pre]; exact S.nd.sublist (List.take_sublist _ _)
    refine ⟨u, rv, ?_⟩
    rcases S.par y (List.mem_of_getElem? hp) with k | k
    · exact .inl ⟨k, bindL_get ndP hp hu k⟩
    · obtain ⟨c, e⟩ := cell_has (n := s.heap.objs.size + 1) k
      refine .inr ⟨.inl k, c, e, ?_⟩
      have q := x.cell y c e
      rw [bindC_get ndP hp hu (by show scope.names.lookup y ≠ _; rw [k]; decide)] at q
      exact q
  · exact e0.hok.fresh (Nat.le_of_lt (x.above y c (PySem.mem_of_lookup h)))
  · unfold start
    show _ = N.length
    rw [List.length_append, List.length_map, List.length_replicate]
    omega

/-- THE RULE: a def (or a method) of the text, by its body. The body's reading t is chosen for each entry; it is run at the parameters' values -/
theorem fn_of {CX : CXT} {P : Program} {w : World} {K : PySem.W.Frag} {mg : Str → Option Value} {base : Heap} {k : Nat} {f : Addr} {name qual : Str} {params : Arguments} {body : List Stmt} {scope : Scope} {dV kV doc pm cdv ct oc : Value} {an od : Option Addr}
    {osl : Array (Option Value)} {N ps : List Str} {sp : Sp} (lk : K.lookup f = some ⟨oc, od, .func (PySem.W.fnOf name qual params body scope dV kV doc pm an cdv ct), osl⟩) (hcd : PySem.W.codeIn K cdv qual = true) (S : FnScope N ps scope)
    (len : ∀ vs H Q E, sp vs H Q E → vs.length = ps.length)
    (hbody : ∀ (A : Around) (outer : List Env) (s : Shared) (H : Hp) (vs : List V) (Q : VK) (E : XK), Room k (A.deeper (envOfC qual scope s.heap.objs.size f cdv)) → sp vs H Q E →
      ∃ t, PSs (cxOf CX P w K mg base N qual scope f cdv A outer s H E) body t ∧ t { nx := fun _ H' => Q .non H', rt := Q } (start N vs) H) :
    FnOk P w K mg base CX (k + 1) f (PySem.W.fnOf name qual params body scope dV kV doc pm an cdv ct) ps sp := by
  refine ⟨len, fun A outer s H args us vs Q E hr e0 hb r hsp => ?_⟩
  have hl := len _ _ _ _ hsp
  have KX : K.In s.heap := e0.mod.kin.keeps fun b o e => (e0.bs b o e).1
  have lim : s.heap.NoLimit := e0.mod.nolimit.keeps fun b o e => (e0.bs b o e).1
  have hkind : ∀ y ∈ ps.zip us, scope.names.lookup y.1 = some .local ∨ (scope.names.lookup y.1 = some .cell ∧ ((cellsFrom (s.heap.objs.size + 1) scope.names []).lookup y.1).isSome = true) := fun ⟨n, v⟩ hy => by
    rcases S.par n (List.of_mem_zip hy).1 with q | q
    · exact .inl q
    · exact .inr ⟨q, PySem.W.cellsFrom_some _ _ _ (.inl q)⟩
  refine codeAny_call_function hr.depth (KX _ _ lk) rfl S.co S.gen rfl (PySem.W.codeRec_of KX hcd) (hb _ _ _ _ ?_)
  refine wpAny_newFunctionEnv_cells S.kind hkind fun env he s1 x => ?_
  subst he
  refine ⟨lim.keeps x.toInCall.keep, codeAny_func ?_⟩
  obtain ⟨t, ht, hq⟩ := hbody A outer s H vs Q E (hr.deeper _) hsp
  have I : Inv (cxOf CX P w K mg base N qual scope f cdv A outer s H E) [] (start N vs) H s1 := inv_start S hr.hd e0 hl r x
  refine wpAny_mono (ht [] s1 (start N vs) H _ I hq) (fun fl s' hs => ?_) fun e s' hs => hs
  have fin : ∀ {σ' : St} {H' : Hp} {v : V} {u : Value}, Inv (cxOf CX P w K mg base N qual scope f cdv A outer s H E) [] σ' H' s' → RelV v u → Q v H' → CE outer P w H s Q u s' :=
    fun {σ' H' v u} J rv q => ⟨v, H', J.os, J.bare, J.base, J.hok, rv, q⟩
  cases fl with
  | ret u =>
    obtain ⟨v, σ', H', J, rv, q⟩ := hs
    exact fin J rv q
  | next =>
    obtain ⟨σ', H', J, q⟩ := hs
    exact fin (v := V.non) (u := Value.none) J rfl q
  | brk =>
    obtain ⟨_, _, _, q⟩ := hs
    exact False.elim q
  | cont =>
    obtain ⟨_, _, _, q⟩ := hs
    exact False.elim q
end L2

namespace L2
open PySem PySem.Spec PyProof.Rows
section
variable {X : Cx} {x : Str} {p pos : Pos} {e : Expr} {es : List Expr} {t : TA} {id T : String} {r : List V → Hp → VK → Prop}

def tCB (r : List V → Hp → VK → Prop) (t : TA) : TE := fun σ H Q => t σ H fun vs H1 => r vs H1 Q
/-- f(e, ..), f a built-in function -/
theorem pe_callB (hc : CallR X (.builtin id) r) (hg : Gl X x) (hm : X.mg x = none) (hv : bootBuiltins x = some (.builtin id)) (ha : PA X (e :: es) t) (hn : x ≠ "__name__" := by decide) (hdb : (x == ("__debug__" : Str)) = false := by decide)
    (he : starEach (e :: es) X.env = (false, eval e X.env) :: starEach es X.env := by rfl) (hpl : (backTo pos (starEach es X.env)).any (·.1) = false := by rfl) : PE X (.Call (.Name x p) (e :: es) [] pos) (tCB r t) := by
  intro pins s σ H Q I h
  refine wpAny_Call_Name_kw (ld_blt I hg hm hv ?_ hn hdb)
  exact PyProof.Rows.callWith_builtin1 (thn (ha pos pins s σ H _ I h) fun us s1 ⟨vs, H1, I1, r1, q1⟩ => hc pins s1 σ H1 vs us Q I1 r1 q1) he hpl
/-- T(e, ..), T a built-in type -/
theorem pe_callTy (hc : CallR X (.type T) r) (hg : Gl X x) (hm : X.mg x = none) (hv : bootBuiltins x = some (.type T)) (ha : PA X (e :: es) t) (hn : x ≠ "__name__" := by decide) (hdb : (x == ("__debug__" : Str)) = false := by decide)
    (he : starEach (e :: es) X.env = (false, eval e X.env) :: starEach es X.env := by rfl) (hpl : (backTo pos (starEach es X.env)).any (·.1) = false := by rfl) : PE X (.Call (.Name x p) (e :: es) [] pos) (tCB r t) := by
  intro pins s σ H Q I h
  refine wpAny_Call_Name_kw (ld_blt I hg hm hv ?_ hn hdb)
  exact PyProof.Rows.callWith_type1 (thn (ha pos pins s σ H _ I h) fun us s1 ⟨vs, H1, I1, r1, q1⟩ => hc pins s1 σ H1 vs us Q I1 r1 q1) he hpl
end
end L2

namespace HT
open PySem PyProof.Rows

/-- t < u of tuples of ints -/
def lexLt : List Int → List Int → Bool
  | [], [] => false
  | [], _ :: _ => true
  | _ :: _, [] => false
  | x :: xs, y :: ys => if x = y then lexLt xs ys else decide (x < y)
section
open PySem.SeqAt
open PySem.AutoSeq1 (wpAny_loadPart')
open PySem.MeetsSeq PySem.MeetsSeq2 PySem.MeetsSeq3

end

section
variable {prog : Program} {w : World} {A : Around} {E : Value → Shared → Prop} {s : Shared}

/-! ### t[a:b], not the whole -/
/-- a slice's bound as a place among n (d where it is left out) -/
def sIx (n d : Nat) : Option Int → Nat
  | none => d
  | some v => if v < 0 then (v + (n : Int)).toNat else min v.toNat n
end
end HT

namespace L2
open PySem PySem.Spec PyProof.Rows

/-! ### the parts of a slice -/
abbrev TO := St → Hp → (Option Int → Hp → Prop) → Prop
/-- a slice's part (left out, or an int) -/
def PO (X : Cx) (e : Option Expr) (t : TO) : Prop :=
  ∀ (pins : List (Addr × Obj)) (s : Shared) (σ : St) (H : Hp) (Q : Option Int → Hp → Prop), Inv X pins σ H s → t σ H Q →
    wpAny (model X.prog X.w) X.A (evalPart e X.env) (fun u s' => ∃ o H', Inv X pins σ H' s' ∧ IsPart u o ∧ Q o H') X.xe s
def tNoPart : TO := fun _ H Q => Q none H
def tPart (t : TE) : TO := fun σ H Q => t σ H fun x H1 => ∃ i, x = .int i ∧ Q (some i) H1

section
variable {X : Cx} {e : Expr} {te : TE} {lo hi : Option Expr} {tl th : TO} {pos p2 : Pos}

theorem po_none : PO X none tNoPart := by
  intro pins s σ H Q I h
  rw [evalPart_none]
  exact wpAny_pure ⟨none, H, I, .none, h⟩
theorem po_some (h : PE X e te) : PO X (some e) (tPart te) := by
  intro pins s σ H Q I hw
  rw [evalPart_some]
  refine thn (h pins s σ H _ I hw) fun u s1 ⟨x, H1, I1, r1, q1⟩ => ?_
  obtain ⟨i, rfl, q⟩ := q1
  obtain ⟨t, rfl⟩ := r1
  exact ⟨some i, H1, I1, .int i t, q⟩

/-- what a slice of a value is, by values: the slice object stands at sl -/
def SlR (X : Cx) (r : V → Option Int → Option Int → Hp → VK → Prop) : Prop :=
  ∀ (pins : List (Addr × Obj)) (s : Shared) (σ : St) (H : Hp) (x : V) (v vl vu : Value) (lo hi : Option Int) (sl : Addr) (Q : VK), Inv X pins σ H s → RelV x v → s.heap.IsSliceOf sl vl vu .none → IsPart vl lo → IsPart vu hi → r x lo hi H Q →
    ∃ T id, typeLookup (.type T) "__getitem__" = pure (some (.builtin id)) ∧ s.TypeIs v T ∧ wpAny (model X.prog X.w) X.A (getItem v (.ref sl)) (EP X pins σ Q) X.xe s
def tSl (r : V → Option Int → Option Int → Hp → VK → Prop) (te : TE) (tl th : TO) : TE := fun σ H Q => te σ H fun x H1 => tl σ H1 fun l H2 => th σ H2 fun u H3 => r x l u H3 Q
/-- a[lo:hi], any a -/
theorem pe_slice {r : V → Option Int → Option Int → Hp → VK → Prop} (hr : SlR X r) (he : PE X e te) (hl : PO X lo tl) (hu : PO X hi th) : PE X (.Subscript e (.Slice lo hi none p2) pos) (tSl r te tl th) := by
  intro pins s σ H Q I h
  refine Subscript_ (thn (he pins s σ H _ I h) fun v s1 ⟨x, H1, I1, r1, q1⟩ => ?_)
  refine wpAny_Slice (thn (hl pins s1 σ H1 _ I1 q1) fun vl s2 ⟨l, H2, I2, pl, q2⟩ => thn (hu pins s2 σ H2 _ I2 q2) fun vu s3 ⟨u, H3, I3, pu, q3⟩ => ?_)
  rw [evalPart_none]
  refine wpAny_pure ?_
  have I4 : Inv X pins σ H3 { s3 with heap := s3.heap.push { cls := .type "slice", data := .fields #[vl, vu, .none] } } := I3.kept (t' := s3.toks) fun b ob q => Heap.get?_push_of_some _ q
  obtain ⟨T, id, hT, ht, hg⟩ := hr pins { s3 with heap := s3.heap.push { cls := .type "slice", data := .fields #[vl, vu, .none] } } σ H3 x v vl vu l u s3.heap.objs.size Q I4 r1 (Heap.IsSliceOf.new ..) pl pu q3
  show wpAny (model X.prog X.w) X.A (subscriptTail e (.Slice lo hi none p2) v (.ref s3.heap.objs.size)) (EP X pins σ Q) X.xe { s3 with heap := s3.heap.push { cls := .type "slice", data := .fields #[vl, vu, .none] } }
  exact tail_any (ops := [.ref s3.heap.objs.size, v]) ht hT hg (by with_unfolding_all rfl)

/-- the items of xs[lo:hi] -/
def cutV (xs : List V) (lo hi : Option Int) : List V := (xs.drop (HT.sIx xs.length 0 lo)).take (HT.sIx xs.length xs.length hi - HT.sIx xs.length 0 lo)
/-- t[lo:hi], not the whole of it (the whole would be t itself) -/
def rSlT (K : PySem.W.Frag) : V → Option Int → Option Int → Hp → VK → Prop := fun x lo hi H Q => ∃ a xs, x = .ref a ∧ SqT K H a xs ∧
  ¬ (HT.sIx xs.length 0 lo = 0 ∧ HT.sIx xs.length xs.length hi = xs.length) ∧ ∀ p, H p = none → Q (.ref p) (upd H p (.tup (cutV xs lo hi)))
/-! ### t < u, t + u -/
def rLtT (K : PySem.W.Frag) : R2 := fun x y H Q => ∃ a b ns ms, x = .ref a ∧ y = .ref b ∧ SqT K H a (ns.map V.int) ∧ SqT K H b (ms.map V.int) ∧ Q (.bl (HT.lexLt ns ms)) H
/-- t + u, t not empty: u empty gives t itself -/
def rCatT (K : PySem.W.Frag) : R2 := fun x y H Q => ∃ a b xs ys, x = .ref a ∧ y = .ref b ∧ SqT K H a xs ∧ SqT K H b ys ∧ xs ≠ [] ∧ xs.length + ys.length ≤ sizeLine ∧
  (ys = [] → Q (.ref a) H) ∧ (ys ≠ [] → ∀ p, H p = none → Q (.ref p) (upd H p (.tup (xs ++ ys))))
end
end L2

namespace L2
open PySem PySem.Spec PyProof.Rows

/-! ### places -/
/-- the place that an index of any sign means -/
def ixN (n : Nat) (i : Int) : Option Nat := if 0 ≤ i then (if i < n then some i.toNat else none) else if -(n : Int) ≤ i then some (i + n).toNat else none
def atI {α : Type} (xs : List α) (i : Int) : Option α := (ixN xs.length i).bind fun j => xs[j]?
theorem ixN_seq {n : Nat} {i : Int} {j : Nat} (h : ixN n i = some j) : seqIndex? i n = some j ∧ j < n ∧ -(n : Int) ≤ i ∧ i < n := by
  unfold ixN at h
  by_cases h0 : 0 ≤ i
  · rw [if_pos h0] at h
    by_cases h1 : i < n
    · rw [if_pos h1] at h
      have e : i.toNat = j := Option.some.inj h
      exact ⟨by rw [seqIndex_of h0 h1, e], by omega, by omega, h1⟩
    · rw [if_neg h1] at h; cases h
  · rw [if_neg h0] at h
    by_cases h1 : -(n : Int) ≤ i
    · rw [if_pos h1] at h
      have e : (i + n).toNat = j := Option.some.inj h
      exact ⟨by rw [seqIndex_neg (by omega) h1, e], by omega, h1, by omega⟩
    · rw [if_neg h1] at h; cases h
theorem atI_get {α : Type} {xs : List α} {i : Int} {v : α} (h : atI xs i = some v) : ∃ j, seqIndex? i xs.length = some j ∧ xs[j]? = some v ∧ j < xs.length ∧ -(xs.length : Int) ≤ i ∧ i < xs.length := by
  unfold atI at h
  cases e : ixN xs.length i with
  | none => rw [e] at h; cases h
  | some j =>
    rw [e] at h
    obtain ⟨h1, h2, h3, h4⟩ := ixN_seq e
    exact ⟨j, h1, h, h2, h3, h4⟩
theorem atI_nat {α : Type} {xs : List α} {j : Nat} {v : α} (h : xs[j]? = some v) : atI xs (j : Int) = some v := by
  have hj : j < xs.length := (List.getElem?_eq_some_iff.mp h).1
  have e : ixN xs.length (j : Int) = some j := by
    unfold ixN
    rw [if_pos (by omega), if_pos (by omega)]; simp
  unfold atI; rw [e]; exact h
/-! ### what may be subscripted -/
/-- what stands as an index of a plain subscript -/
def PlainIx (b : Expr) : Prop := ∀ o i, subscripted b false o i = operate [o, i] (getItem o i)
/-- a subscript by values -/
def IxR (X : Cx) (r : R2) : Prop :=
  ∀ (value slice : Expr) (pins : List (Addr × Obj)) (s : Shared) (σ : St) (H : Hp) (x y : V) (v u : Value) (Q : VK), Inv X pins σ H s → RelV x v → RelV y u → r x y H Q →
    subscripted slice false v u = operate [v, u] (getItem v u) → wpAny (model X.prog X.w) X.A (subscriptTail value slice v u) (EP X pins σ Q) X.xe s
/-- a call of a builtin's method by values: the receiver, the arguments -/
def MtR (X : Cx) (id : String) (r : V → List V → Hp → VK → Prop) : Prop :=
  ∀ (pins : List (Addr × Obj)) (s : Shared) (σ : St) (H : Hp) (x : V) (xs : List V) (v : Value) (us : List Value) (Q : VK), Inv X pins σ H s → RelV x v → Vals xs us → r x xs H Q →
    wpAny (model X.prog X.w) X.A (call (.builtin id) (v :: us)) (EP X pins σ Q) X.xe s
section
variable {X : Cx} {a b : Expr} {ta tb : TE} {pos : Pos}
/-- a[b] -/
theorem pe_ix {r : R2} (hr : IxR X r) (ha : PE X a ta) (hb : PE X b tb) (hs : PlainIx b) : PE X (.Subscript a b pos) (tOp r ta tb) := by
  intro pins s σ H Q I h
  exact Subscript_ (binT ha hb I h fun v u s2 x y H2 I2 rx ry q => hr a b pins s2 σ H2 x y v u Q I2 rx ry q (hs _ _))

def rIxL (K : PySem.W.Frag) : R2 := fun x y H Q => ∃ p xs i v, x = .ref p ∧ y = .int i ∧ SqL K H p xs ∧ atI xs i = some v ∧ Q v H
def rIxT (K : PySem.W.Frag) : R2 := fun x y H Q => ∃ p xs i v, x = .ref p ∧ y = .int i ∧ SqT K H p xs ∧ atI xs i = some v ∧ Q v H
def rIxS : R2 := fun x y H Q => ∃ z i c, x = .str z ∧ y = .int i ∧ z.length ≤ sizeLine ∧ atI z.cps.toList i = some c ∧ Q (.str ⟨#[c]⟩) H
theorem ix_list : IxR X (rIxL X.K) := by
  intro value slice pins s σ H x y v u Q I rx ry h hs
  obtain ⟨p, xs, i, z, rfl, rfl, hq, he, q⟩ := h
  cases rx
  obtain ⟨t, rfl⟩ := ry
  obtain ⟨its, r, pl, hz⟩ := I.list hq
  obtain ⟨j, h1, h2, h3, h4, h5⟩ := atI_get he
  obtain ⟨w, ew, rw'⟩ := r.get h2
  have hl := r.length
  have hn := line63
  have fin : EP X pins σ Q w s := ⟨z, H, I, rw', q⟩
  by_cases h0 : 0 ≤ i
  · have hj : i.toNat = j := by
      rw [seqIndex_of h0 h5] at h1
      exact Option.some.inj h1
    exact item_listR pl.isList h0 (by omega) (by rw [hj]; simpa using ew) fin hs
  · have hj : (i + (its.toArray.size : Int)).toNat = j := by
      rw [seqIndex_neg (by omega) h4] at h1
      rw [List.size_toArray, ← hl]
      exact Option.some.inj h1
    exact subscriptTail_builtinR (x := w) pl.isList.typeIs slot_list_getitem.lookup
      (wpAny_getItem_list_neg (Q := fun r s' => r = w ∧ EP X pins σ Q r s') pl.isList (by omega) (by rw [List.size_toArray] <;> omega) (by omega) (by rw [hj]; simpa using ew) ⟨rfl, fin⟩) hs
theorem ix_tup : IxR X (rIxT X.K) := by
  intro value slice pins s σ H x y v u Q I rx ry h hs
  obtain ⟨p, xs, i, z, rfl, rfl, hq, he, q⟩ := h
  cases rx
  obtain ⟨t, rfl⟩ := ry
  obtain ⟨its, r, pl, hz⟩ := I.tuple hq
  obtain ⟨j, h1, h2, h3, h4, h5⟩ := atI_get he
  obtain ⟨w, ew, rw'⟩ := r.get h2
  have hl := r.length
  have hn := line63
  have fin : EP X pins σ Q w s := ⟨z, H, I, rw', q⟩
  exact subscriptTail_builtinR (x := w) pl.typeIs slot_tuple_getitem.lookup
    (getItem_tuple (j := j) (Q := fun r s' => r = w ∧ EP X pins σ Q r s') pl (by omega) (by omega) (by rw [List.size_toArray, ← hl]; exact h1) (by simpa using ew) ⟨rfl, fin⟩) hs
/-- list, tuple or str -/
def rIx (K : PySem.W.Frag) : R2 := fun x y H Q => rIxL K x y H Q ∨ rIxT K x y H Q ∨ rIxS x y H Q
/-! ### xs[i] = v, any sign -/
/-- the list's object behind a store -/
theorem mapSeq_set (its : List Value) (n j : Nat) (u : Value) : Obj.mapSeq (·.setIfInBounds j u) { cls := .type "list", data := .seq its.toArray n } = { cls := .type "list", data := .seq (its.set j u).toArray n } := by
  simp [Obj.mapSeq]
theorem Inv.lst {pins : List (Addr × Obj)} {σ : St} {H : Hp} {s : Shared} {p : Addr} {xs : List V} (I : Inv X pins σ H s) (h : H p = some (.lst xs)) :
    ∃ (its : List Value) (n : Nat), Vals xs its ∧ s.heap.get? p = some { cls := .type "list", data := .seq its.toArray n } ∧ xs.length ≤ sizeLine := by
  obtain ⟨z, its, n, r, e⟩ := I.hok p _ h
  exact ⟨its, n, r, e, z⟩
/-- the list at p is written by an update of its object -/
theorem Inv.lstUpd {pins : List (Addr × Obj)} {σ : St} {H : Hp} {s : Shared} {p : Addr} {xs ys : List V} {its its' : List Value} {n n' : Nat} {f : Obj → Obj} (I : Inv X pins σ H s) (h : H p = some (.lst xs))
    (ho : s.heap.get? p = some { cls := .type "list", data := .seq its.toArray n }) (hf : f { cls := .type "list", data := .seq its.toArray n } = { cls := .type "list", data := .seq its'.toArray n' }) (r : Vals ys its') (hz : ys.length ≤ sizeLine) (t : Nat) :
    Inv X pins σ (upd H p (.lst ys)) { s with heap := s.heap.update p f, toks := t } := by
  have e : (s.heap.update p f).get? p = some { cls := .type "list", data := .seq its'.toArray n' } := by
    rw [Heap.get?_update_self f ho (by rw [hf] <;> rfl), hf]
  refine I.write (x := p) (e := p) (by rw [h]; trivial) (.inl rfl) (fun b u hb q => (Heap.get?_update_other _ _ (Ne.symm hb)).trans q) ⟨_, e⟩ ?_
  exact ⟨hz, its', n', r, e⟩
def rSetL : V → V → V → Hp → (Hp → Prop) → Prop := fun o i v H Q => ∃ p xs k j, o = .ref p ∧ i = .int k ∧ H p = some (.lst xs) ∧ ixN xs.length k = some j ∧ Q (upd H p (.lst (xs.set j v)))
theorem set_list : PSet X rSetL := by
  intro pins s σ H o i v ov iv u Q I ro ri rv h
  obtain ⟨p, xs, k, j, rfl, rfl, hp, hj, q⟩ := h
  cases ro
  obtain ⟨t, rfl⟩ := ri
  obtain ⟨its, n, r, ho, hz⟩ := I.lst hp
  obtain ⟨h1, h2, h3, h4⟩ := ixN_seq hj
  have hl := r.length
  have hn := line63
  have I' : Inv X pins σ (upd H p (.lst (xs.set j v))) { s with heap := s.heap.update p (Obj.mapSeq (·.setIfInBounds j u)) } :=
    I.lstUpd hp ho (mapSeq_set its n j u) (r.set rv j) (by rw [List.length_set]; exact hz) s.toks
  by_cases h0 : 0 ≤ k
  · have hk : k.toNat = j := by
      rw [seqIndex_of h0 h4] at h1
      exact Option.some.inj h1
    exact PySem.W.ki_setAt ho h0 (by omega) (by rw [List.size_toArray, ← hl]; exact h4) (by rw [hk]; exact ⟨_, I', q⟩)
  · have hk : (k + (its.toArray.size : Int)).toNat = j := by
      rw [seqIndex_neg (by omega) h3] at h1
      rw [List.size_toArray, ← hl]
      exact Option.some.inj h1
    exact PySem.W.ki_setBack ho (by omega) (by rw [List.size_toArray, ← hl]; exact h3) (by omega) (by rw [hk]; exact ⟨_, I', q⟩)

/-! ### slices -/
/-- xs[lo:hi] of a list: a new list -/
def rSlL (K : PySem.W.Frag) : V → Option Int → Option Int → Hp → VK → Prop := fun x lo hi H Q => ∃ a xs, x = .ref a ∧ SqL K H a xs ∧ ∀ p, H p = none → Q (.ref p) (upd H p (.lst (cutV xs lo hi)))
/-! ### in, not in: flat items -/
def flatV : V → Bool
  | .non => true
  | .bl _ => true
  | .int _ => true
  | .str _ => true
  | _ => false
/-- == of flat values -/
def eqV : V → V → Bool
  | .non, .non => true
  | .bl a, .bl b => a == b
  | .bl a, .int b => (if a then 1 else 0) == b
  | .int a, .bl b => a == (if b then 1 else 0)
  | .int a, .int b => a == b
  | .str a, .str b => a == b
  | _, _ => false
theorem eqAt_V {A : Around} {s : Shared} {y x : V} {u v : Value} (ry : RelV y u) (rx : RelV x v) (fy : flatV y = true) (fx : flatV x = true) : SeqAt.EqAt A s u v (eqV y x) := by
  cases y with
  | non =>
    cases ry
    cases x with
    | non => cases rx; exact SeqAt.EqAt.same _
    | bl b => cases rx; exact SeqAt.EqAt.none_bool b
    | int b => obtain ⟨t, rfl⟩ := rx; exact SeqAt.EqAt.none_int b t
    | str b => obtain ⟨t, rfl⟩ := rx; exact SeqAt.EqAt.none_str b t
    | _ => exact absurd (show false = true from fx) Bool.false_ne_true
  | bl a =>
    cases ry
    cases x with
    | non => cases rx; exact SeqAt.EqAt.bool_none a
    | bl b => cases rx; exact SeqAt.EqAt.bool_bool a b
    | int b => obtain ⟨t, rfl⟩ := rx; exact SeqAt.EqAt.bool_int a b t
    | str b => obtain ⟨t, rfl⟩ := rx; exact SeqAt.EqAt.bool_str a b t
    | _ => exact absurd (show false = true from fx) Bool.false_ne_true
  | int a =>
    obtain ⟨t', rfl⟩ := ry
    cases x with
    | non => cases rx; exact SeqAt.EqAt.int_none a t'
    | bl b => cases rx; exact SeqAt.EqAt.int_bool a t' b
    | int b => obtain ⟨t, rfl⟩ := rx; exact SeqAt.EqAt.int_int a t' b t
    | str b => obtain ⟨t, rfl⟩ := rx; exact SeqAt.EqAt.int_str a t' b t
    | _ => exact absurd (show false = true from fx) Bool.false_ne_true
  | str a =>
    obtain ⟨t', rfl⟩ := ry
    cases x with
    | non => cases rx; exact SeqAt.EqAt.str_none a t'
    | bl b => cases rx; exact SeqAt.EqAt.str_bool a t' b
    | int b => obtain ⟨t, rfl⟩ := rx; exact SeqAt.EqAt.str_int a t' b t
    | str b => obtain ⟨t, rfl⟩ := rx; exact SeqAt.EqAt.str_str a t' b t
    | _ => exact absurd (show false = true from fx) Bool.false_ne_true
  | _ => exact absurd (show false = true from fy) Bool.false_ne_true
/-- the items' answers, read off the values (a value's own answer does not lean on its token) -/
def eqU (x : V) (u : Value) : Bool := match u with
  | .none => eqV .non x
  | .bool b => eqV (.bl b) x
  | .int i _ => eqV (.int i) x
  | .str z _ => eqV (.str z) x
  | _ => false
theorem eqU_of {x y : V} {u : Value} (r : RelV y u) (f : flatV y = true) : eqU x u = eqV y x := by
  cases y with
  | non => cases r; rfl
  | bl b => cases r; rfl
  | int i => obtain ⟨t, rfl⟩ := r; rfl
  | str z => obtain ⟨t, rfl⟩ := r; rfl
  | _ => exact absurd (show false = true from f) Bool.false_ne_true
theorem any_eqU {x : V} : ∀ {xs : List V} {us : List Value}, Vals xs us → xs.all flatV = true → us.any (eqU x) = xs.any fun y => eqV y x
  | _, _, .nil, _ => rfl
  | y :: xs, u :: us, .cons r t, f => by
    rw [List.all_cons, Bool.and_eq_true] at f
    rw [List.any_cons, List.any_cons, eqU_of r f.1, any_eqU t f.2]
theorem mem_eqAt {A : Around} {s : Shared} {x : V} {v : Value} (rx : RelV x v) (fx : flatV x = true) : ∀ {xs : List V} {us : List Value}, Vals xs us → xs.all flatV = true → ∀ u ∈ us, SeqAt.EqAt A s u v (eqU x u)
  | _, _, .nil, _ => fun u hu => by cases hu
  | y :: xs, u :: us, .cons r t, f => fun u' hu => by
    rw [List.all_cons, Bool.and_eq_true] at f
    rcases List.mem_cons.mp hu with rfl | hu
    · rw [eqU_of r f.1]; exact eqAt_V r rx f.1 fx
    · exact mem_eqAt rx fx t f.2 u' hu
def inV (x : V) (xs : List V) : Bool := xs.any fun y => eqV y x
/-- x in a list or tuple of flat items -/
def rIn (K : PySem.W.Frag) (neg : Bool) : R2 := fun x y H Q => ∃ p xs, y = .ref p ∧ (SqL K H p xs ∨ SqT K H p xs) ∧ flatV x = true ∧ xs.all flatV = true ∧ Q (.bl (if neg then !inV x xs else inV x xs)) H
theorem op_in_seq : OpR X (compareOp .In) (rIn X.K false) := by
  intro pins s σ H x y v u Q I rx ry h
  obtain ⟨p, xs, rfl, hq, fx, fs, q⟩ := h
  cases ry
  rcases hq with hq | hq
  · obtain ⟨its, r, pl, hz⟩ := I.list hq
    refine SeqAt.in_listAt (eqU x) pl.isList (fun w hw => mem_eqAt rx fx r fs w (by simpa using hw)) ⟨.bl _, H, I, rfl, ?_⟩
    rw [show its.toArray.any (eqU x) = its.any (eqU x) by simp, any_eqU r fs]
    exact q
  · obtain ⟨its, r, pl, hz⟩ := I.tuple hq
    refine SeqAt.in_tupleAt (eqU x) pl (fun w hw => mem_eqAt rx fx r fs w (by simpa using hw)) ⟨.bl _, H, I, rfl, ?_⟩
    rw [show its.toArray.any (eqU x) = its.any (eqU x) by simp, any_eqU r fs]
    exact q
theorem op_notIn_seq : OpR X (compareOp .NotIn) (rIn X.K true) := by
  intro pins s σ H x y v u Q I rx ry h
  obtain ⟨p, xs, rfl, hq, fx, fs, q⟩ := h
  cases ry
  rcases hq with hq | hq
  · obtain ⟨its, r, pl, hz⟩ := I.list hq
    refine SeqAt.notIn_listAt (eqU x) pl.isList (fun w hw => mem_eqAt rx fx r fs w (by simpa using hw)) ⟨.bl _, H, I, rfl, ?_⟩
    rw [show its.toArray.any (eqU x) = its.any (eqU x) by simp, any_eqU r fs]
    exact q
  · obtain ⟨its, r, pl, hz⟩ := I.tuple hq
    refine SeqAt.notIn_tupleAt (eqU x) pl (fun w hw => mem_eqAt rx fx r fs w (by simpa using hw)) ⟨.bl _, H, I, rfl, ?_⟩
    rw [show its.toArray.any (eqU x) = its.any (eqU x) by simp, any_eqU r fs]
    exact q
/-! ### len, list(x), tuple(x) of any list or tuple that is read -/
theorem call_len_seq : CallR X (.builtin "len") (fun xs H Q => ∃ p ys, xs = [.ref p] ∧ (SqL X.K H p ys ∨ SqT X.K H p ys) ∧ Q (.int ys.length) H) := by
  intro pins s σ H xs us Q I r h
  obtain ⟨p, ys, rfl, hq, q⟩ := h
  obtain ⟨u, rfl, rx⟩ := vals1 r
  cases rx
  have hn := line63
  rcases hq with hq | hq
  · obtain ⟨its, r', pl, hz⟩ := I.list hq
    have hlen := r'.length
    exact Calls.call_len_list pl.isList (by simp only [List.size_toArray] <;> omega) ⟨.int ys.length, H, I.tok _, ⟨s.toks + 1, by rw [List.size_toArray, hlen]⟩, q⟩
  · obtain ⟨its, r', pl, hz⟩ := I.tuple hq
    have hlen := r'.length
    exact len_tuple pl (by simp only [List.size_toArray] <;> omega) ⟨.int ys.length, H, I.tok _, ⟨s.toks + 1, by rw [List.size_toArray, hlen]⟩, q⟩
theorem call_list_of : CallR X (.type "list") (fun xs H Q => ∃ p ys, xs = [.ref p] ∧ (SqL X.K H p ys ∨ SqT X.K H p ys) ∧ ∀ l, H l = none → Q (.ref l) (upd H l (.lst ys))) := by
  intro pins s σ H xs us Q I r h
  obtain ⟨p, ys, rfl, hq, q⟩ := h
  obtain ⟨u, rfl, rx⟩ := vals1 r
  cases rx
  have fin : ∀ (its : List Value), Vals ys its → ys.length ≤ sizeLine → ∀ (h' : Heap) (c' : Nat), (∀ b o', s.heap.get? b = some o' → h'.get? b = some o') →
      h'.get? s.heap.objs.size = some { cls := .type "list", dict := none, data := .seq its.toArray c', slots := #[] } → EP X pins σ Q (.ref s.heap.objs.size) { s with heap := h' } := fun its r' hz h' c' kp e =>
    ⟨.ref s.heap.objs.size, _, I.laid (t' := s.toks) kp (Nat.le_refl _) (show ObjOk X.prog X.w _ h' _ (.lst ys) from ⟨hz, its, c', r', e⟩), rfl, q _ (I.hok.fresh (Nat.le_refl _))⟩
  rcases hq with hq | hq
  · obtain ⟨its, r', pl, hz⟩ := I.list hq
    have hlen := r'.length
    obtain ⟨o, ho, hc, n, hd⟩ := pl.isList
    exact call_list_seq p (.inl rfl) ho hc hd (fun h' c' kp e => fin its r' hz h' c' kp e) (by simp only [List.size_toArray] <;> omega)
  · obtain ⟨its, r', pl, hz⟩ := I.tuple hq
    have hlen := r'.length
    obtain ⟨o, ho, hc, n, hd⟩ := pl
    exact call_list_seq p (.inr rfl) ho hc hd (fun h' c' kp e => fin its r' hz h' c' kp e) (by simp only [List.size_toArray] <;> omega)
/-! ### the call of a builtin's method: o.m(..) -/
/-- the value is of that builtin type -/
def tyV (K : PySem.W.Frag) (T : String) (x : V) (H : Hp) : Prop := match x with
  | .str _ => T = "str"
  | .int _ => T = "int"
  | .ref p => (T = "list" ∧ ∃ xs, SqL K H p xs) ∨ (T = "tuple" ∧ ∃ o, K.lookup p = some o ∧ o.cls = .type "tuple" ∧ o.dict = none) ∨
      (T = "dict" ∧ ((∃ kvs, H p = some (.dK kvs)) ∨ ∃ kvs, H p = some (.dT kvs))) ∨ (T = "set" ∧ ∃ S n, H p = some (.set S n))
  | _ => False
theorem tyV_is {pins : List (Addr × Obj)} {σ : St} {H : Hp} {s : Shared} {T : String} {x : V} {v : Value} (I : Inv X pins σ H s) (r : RelV x v) (ty : tyV X.K T x H) :
    s.TypeIs v T ∧ ∀ a, v = .ref a → ∃ ob, s.heap.get? a = some ob ∧ ob.dict = none := by
  cases x with
  | str z =>
    obtain ⟨t, rfl⟩ := r
    cases (show T = "str" from ty)
    exact ⟨typeIs_str s z t, fun _ e => nomatch e⟩
  | int i =>
    obtain ⟨t, rfl⟩ := r
    cases (show T = "int" from ty)
    exact ⟨typeIs_int s i t, fun _ e => nomatch e⟩
  | ref p =>
    cases r
    rcases ty with ⟨rfl, xs, hq⟩ | ⟨rfl, o, hk, hc, hd⟩ | ⟨rfl, hk⟩ | ⟨rfl, S, n, hk⟩
    · obtain ⟨its, _, pl, _⟩ := I.list hq
      refine ⟨pl.isList.typeIs, fun a e => ?_⟩
      cases e
      obtain ⟨o, n, e, c, hd, _⟩ := pl
      exact ⟨o, e, hd⟩
    · refine ⟨⟨o, I.kIn p o hk, hc⟩, fun a e => ?_⟩
      cases e
      exact ⟨o, I.kIn _ o hk, hd⟩
    · have z : ∃ o, s.heap.get? p = some o ∧ o.ExactDict := by
        rcases hk with ⟨kvs, hk⟩ | ⟨kvs, hk⟩
        · obtain ⟨_, _, _, _, o, _, _, e, ex, _⟩ := I.hok p _ hk
          exact ⟨o, e, ex⟩
        · obtain ⟨_, _, _, _, o, _, _, e, ex, _⟩ := I.hok p _ hk
          exact ⟨o, e, ex⟩
      obtain ⟨o, e, ex⟩ := z
      refine ⟨⟨o, e, ex.1⟩, fun a e2 => ?_⟩
      cases e2
      exact ⟨o, e, ex.2.1⟩
    · obtain ⟨o, _, _, _, e, ex, _⟩ := I.hok p _ hk
      refine ⟨⟨o, e, ex.1⟩, fun a e2 => ?_⟩
      cases e2
      exact ⟨o, e, ex.2.1⟩
  | _ => exact False.elim ty
def tBM0 (K : PySem.W.Frag) (T : String) (r : V → List V → Hp → VK → Prop) (to : TE) : TE := fun σ H Q => to σ H fun x H1 => tyV K T x H1 ∧ r x [] H1 Q
def tBM (K : PySem.W.Frag) (T : String) (r : V → List V → Hp → VK → Prop) (to : TE) (t : TA) : TE := fun σ H Q => to σ H fun x H1 => tyV K T x H1 ∧ t σ H1 fun xs H2 => r x xs H2 Q
variable {o e : Expr} {es : List Expr} {to : TE} {t : TA} {name : Str} {apos cpos : Pos} {T id : String} {r : V → List V → Hp → VK → Prop}
theorem pe_bm (pa : PlainAttrs T) (slot : Slot T name id) (hty : typeOf (.builtin id) = pure (.type "method_descriptor")) (hm : MtR X id r) (ho : PE X o to) (ha : PA X (e :: es) t)
    (hbase : attributeBase o name X.env (eval o X.env) = eval o X.env := by rfl)
    (hfew : ((backTo cpos (starEach (e :: es) X.env)).all (fun x => !x.1) && (backToKw cpos (keywordEach [] X.env)).all (fun x => x.1.isSome)
      && decide ((e :: es).length + ([] : List Keyword).length + (if ([] : List Keyword).isEmpty then 0 else 1) < 30)) = true := by rfl)
    (hline : (apos.endLine == cpos.line) = true := by rfl) (hs : starEach (e :: es) X.env = (false, eval e X.env) :: starEach es X.env := by rfl) (hplain : (backTo cpos (starEach es X.env)).any (·.1) = false := by rfl) :
    PE X (.Call (.Attribute o name apos) (e :: es) [] cpos) (tBM X.K T r to t) := by
  intro pins s σ H Q I h
  refine wpAny_Call_method_late hbase hfew hline rfl (thn (ho pins s σ H _ I h) fun v s1 ⟨x, H1, I1, r1, ty, q1⟩ => ?_)
  obtain ⟨h1, h2⟩ := tyV_is I1 r1 ty
  refine ⟨T, id, pa, slot, hty, h1, h2, ?_⟩
  have hA := ha cpos pins s1 σ H1 _ I1 q1
  rw [hs] at hA ⊢
  refine Calls.callWith_builtin (by show (false || (backTo cpos (starEach es X.env)).any (·.1)) = false; rw [hplain] <;> rfl) (Calls.evalArgs_plain ?_)
  exact thn hA fun us s2 ⟨vs, H2, I2, r2, q2⟩ => hm pins s2 σ H2 x vs v us Q I2 r1 r2 q2
/- xs.append(e), list.index on a module's tuple .. are MtR facts of 06m -/
end
end L2

namespace L2
open PySem PySem.Spec PyProof.Rows

def MtM (X : Cx) (id : String) (r : V → List V → Hp → VK → Prop) : Prop :=
  ∀ (pins : List (Addr × Obj)) (s : Shared) (σ : St) (H : Hp) (x : V) (xs : List V) (v : Value) (us : List Value) (Q : VK), Inv X pins σ H s → RelV x v → Vals xs us → r x xs H Q →
    wpAny (model X.prog X.w) X.A (call (.builtin id) (v :: us)) (EP X pins σ Q) X.xe s

/-! ### lists of values -/
theorem Vals.one : ∀ {x : V} {us : List Value}, Vals [x] us → ∃ u, us = [u] ∧ RelV x u
  | _, _, .cons r .nil => ⟨_, rfl, r⟩
theorem Vals.rep {xs : List V} {us : List Value} (h : Vals xs us) : ∀ k : Nat, Vals (List.replicate k xs).flatten (List.replicate k us).flatten
  | 0 => .nil
  | k + 1 => by
    rw [List.replicate_succ, List.replicate_succ, List.flatten_cons, List.flatten_cons]
    exact Vals.append h (Vals.rep h k)
theorem foldl_rep (its : List Value) : ∀ (k : Nat) (acc : List Value),
    List.foldl (fun x1 x2 => x1 ++ x2) acc.toArray (List.replicate k its.toArray) = (acc ++ (List.replicate k its).flatten).toArray
  | 0, acc => by simp
  | k + 1, acc => by
    have e : acc.toArray ++ its.toArray = (acc ++ its).toArray := by simp
    have e2 : (acc ++ its) ++ (List.replicate k its).flatten = acc ++ (List.replicate (k + 1) its).flatten := by
      rw [List.replicate_succ, List.flatten_cons, List.append_assoc]
    rw [← e2, ← foldl_rep its k (acc ++ its), ← e, List.replicate_succ, List.foldl_cons]

section
variable {X : Cx} {pins : List (Addr × Obj)} {σ : St} {H : Hp} {s : Shared} {l b : Addr} {xs ys zs : List V}

/-! ### the two steps: a tracked list is rewritten, a new list is laid -/
theorem Inv.lset {its its' : List Value} {n : Nat} {f : Array Value → Array Value} {t' : Nat} (I : Inv X pins σ H s) (hH : H l = some (.lst xs))
    (e : s.heap.get? l = some { cls := .type "list", data := .seq its.toArray n }) (hf : f its.toArray = its'.toArray) (hv : Vals ys its') (hz : ys.length ≤ sizeLine) :
    Inv X pins σ (upd H l (.lst ys)) { s with heap := s.heap.update l (Obj.mapSeq f), toks := t' } := by
  have q := PySem.IsL.update e f
  rw [hf] at q
  refine I.write (x := l) (e := l) (by rw [hH]; exact trivial) (.inl rfl) (fun b' u hb hu => (Heap.get?_update_other s.heap (Obj.mapSeq f) (Ne.symm hb)).trans hu) ⟨_, q⟩ ?_
  exact ⟨hz, its', _, hv, q⟩
theorem Inv.lnew {its : List Value} {t' : Nat} (I : Inv X pins σ H s) (hv : Vals ys its) (hz : ys.length ≤ sizeLine) :
    Inv X pins σ (upd H s.heap.objs.size (.lst ys)) { s with heap := s.heap.push { cls := .type "list", data := .seq its.toArray }, toks := t' } :=
  I.laid (fun _ _ q => Heap.get?_push_of_some _ q) (Nat.le_refl _) ⟨hz, its, 0, hv, Heap.get?_push_size _ rfl⟩
theorem Inv.fresh (I : Inv X pins σ H s) : H s.heap.objs.size = none := I.hok.fresh (Nat.le_refl _)
theorem Inv.lstM (I : Inv X pins σ H s) (hH : H l = some (.lst xs)) : xs.length ≤ sizeLine ∧ ∃ (its : List Value) (n : Nat), Vals xs its ∧ xs.length = its.length ∧ s.heap.get? l = some { cls := .type "list", data := .seq its.toArray n } := by
  obtain ⟨z, its, n, r, e⟩ := I.hok l _ hH
  exact ⟨z, its, n, r, r.length, e⟩

theorem notLongL {n : Nat} (h : n ≤ sizeLine) : Builtin.List.listTooLong n = false := by
  unfold Builtin.List.listTooLong
  exact decide_eq_false (by omega)
end

section
variable {X : Cx}

/-! ### methods -/
def rAppend : V → List V → Hp → VK → Prop := fun x vs H Q => ∃ l xs y, x = .ref l ∧ vs = [y] ∧ H l = some (.lst xs) ∧ xs.length < sizeLine ∧ Q .non (upd H l (.lst (xs ++ [y])))
theorem mt_append : MtM X "list.append" rAppend := by
  intro pins s σ H x vs v us Q I rx rv h
  obtain ⟨l, xs, y, rfl, rfl, hH, hz, q⟩ := h
  cases rx
  obtain ⟨u, rfl, ru⟩ := rv.one
  obtain ⟨z, its, n, r, hl, e⟩ := I.lstM hH
  refine call_meets F.slot_list_append ⟨_, e, rfl⟩ F.entry_list_append (F.args_list_append_2 _ _) (PySem.list_append l its.toArray n u (by rw [List.size_toArray]; omega)) ⟨e, ?_⟩
  refine ⟨.non, _, I.lset (its' := its ++ [u]) hH e (by simp) (r.append (.cons ru .nil)) ?_, rfl, q⟩
  rw [List.length_append, List.length_singleton]
  omega

def rExtend : V → List V → Hp → VK → Prop := fun x vs H Q => ∃ l b xs zs, x = .ref l ∧ vs = [.ref b] ∧ H l = some (.lst xs) ∧ H b = some (.lst zs) ∧ xs.length + zs.length ≤ sizeLine ∧ Q .non (upd H l (.lst (xs ++ zs)))
def rPop : V → List V → Hp → VK → Prop := fun x vs H Q => ∃ l xs y, x = .ref l ∧ vs = [] ∧ H l = some (.lst xs) ∧ xs[xs.length - 1]? = some y ∧ Q y (upd H l (.lst xs.dropLast))
def rPopAt : V → List V → Hp → VK → Prop := fun x vs H Q => ∃ l xs i k y, x = .ref l ∧ vs = [.int i] ∧ H l = some (.lst xs) ∧ -(2 ^ 63) ≤ i ∧ i < 2 ^ 63 ∧ seqIndex? i xs.length = some k ∧ xs[k]? = some y ∧ Q y (upd H l (.lst (xs.eraseIdx k)))
def rReverse : V → List V → Hp → VK → Prop := fun x vs H Q => ∃ l xs, x = .ref l ∧ vs = [] ∧ H l = some (.lst xs) ∧ Q .non (upd H l (.lst xs.reverse))
def rClear : V → List V → Hp → VK → Prop := fun x vs H Q => ∃ l xs, x = .ref l ∧ vs = [] ∧ H l = some (.lst xs) ∧ Q .non (upd H l (.lst []))
/-! ### list + list, list += list, list * int -/
def rCat : R2 := fun x y H Q => ∃ l b xs zs, x = .ref l ∧ y = .ref b ∧ H l = some (.lst xs) ∧ H b = some (.lst zs) ∧ xs.length + zs.length ≤ sizeLine ∧ ∀ p, H p = none → Q (.ref p) (upd H p (.lst (xs ++ zs)))
/-- a list times an int (a negative one is nothing) -/
def rRep : R2 := fun x y H Q => ∃ l k xs, x = .ref l ∧ y = .int k ∧ H l = some (.lst xs) ∧ -(2 ^ 63) ≤ k ∧ k < 2 ^ 63 ∧ xs.length * k.toNat ≤ sizeLine ∧
  ∀ p, H p = none → Q (.ref p) (upd H p (.lst (List.replicate k.toNat xs).flatten))
theorem len_rep {α : Type} (xs : List α) (k : Nat) : (List.replicate k xs).flatten.length = k * xs.length := by
  induction k with
  | zero => simp
  | succ k ih => rw [List.replicate_succ, List.flatten_cons, List.length_append, ih, Nat.succ_mul, Nat.add_comm]
theorem op_rep : OpR X (binaryOp .Mult) rRep := by
  intro pins s σ H x y v u Q I rx ry h
  obtain ⟨l, k, xs, rfl, rfl, hH, h1, h2, hz, q⟩ := h
  cases rx
  obtain ⟨t, rfl⟩ := ry
  obtain ⟨z, its, n, r, hl, e⟩ := I.lstM hH
  have hlen : its.toArray.size * k.toNat ≤ sizeLine := by rw [List.size_toArray, ← hl]; exact hz
  have hcap : ¬ its.toArray.size * k.toNat > (2 ^ 63 - 1) / 8 := by
    have : (sizeLine : Nat) ≤ (2 ^ 63 - 1) / 8 := by decide
    omega
  have hfit : ¬ (!Builtin.List.listFitsIndex k) = true := by
    rw [fitsIndex_both h1 h2]
    exact Bool.false_ne_true
  have hlong : ¬ Builtin.List.listTooLong (its.toArray.size * k.toNat) = true := by
    rw [notLongL hlen]
    exact Bool.false_ne_true
  have hnew : List.foldl (fun x1 x2 => x1 ++ x2) #[] (List.replicate (if its.toArray.isEmpty = true then 0 else k.toNat) its.toArray) = (List.replicate k.toNat its).flatten.toArray := by
    have f0 : ∀ m : Nat, List.foldl (fun x1 x2 => x1 ++ x2) #[] (List.replicate m its.toArray) = (List.replicate m its).flatten.toArray := fun m => by
      have := foldl_rep its m []
      rw [List.nil_append] at this
      exact this
    rw [f0]
    cases its with
    | nil => simp
    | cons a r' => rw [if_neg (by simp)]
  refine wpAny_binaryOp_repeat_ref (T := "list") (U := "int") (by decide) ⟨_, e, rfl⟩ (fun s' => typeIs_int s' k t) noFill_list_mul F.fills_int_mul F.slot_int_rmul repeat_list F.slot_int_index.lookup
    (call_meets F.slot_int_rmul (typeIs_int s k t) F.entry_int_rmul (F.args_int_rmul_2 _ _) (int___rmul___int_list k t l its.toArray n)
      ⟨e, rfl, ⟨_, e, rfl⟩, call_meets F.slot_list_mul ⟨_, e, rfl⟩ F.entry_list_mul (F.args_list_mul_2 _ _) (AutoListH.list___mul___list_int_3 l its.toArray n k t hfit hcap hlong) ⟨e, ?_⟩⟩)
  rw [hnew]
  exact ⟨.ref _, _, I.lnew (t' := s.toks) (r.rep k.toNat) (by rw [len_rep, Nat.mul_comm]; exact hz), rfl, q _ I.fresh⟩

/-! ### del xs[i] -/
end

/-! ### xs[a:b] = ys -/
section
variable {prog : Program} {w : World} {A : Around} {E : Value → Shared → Prop} {s : Shared}
end

section
variable {X : Cx}
end
end L2

namespace L2
open PySem PySem.Spec PyProof.Rows

/-! ### lists of pairs as tables -/
section
variable {κ : Type} [DecidableEq κ]
def valV (kvs : List (κ × V)) (k : κ) : Option V := (kvs.find? fun kv => decide (kv.1 = k)).map (·.2)
/-- in its place, or at the end -/
def putK (kvs : List (κ × V)) (k : κ) (v : V) : List (κ × V) :=
  if (kvs.any fun kv => decide (kv.1 = k)) = true then kvs.map (fun kv => if kv.1 = k then (kv.1, v) else kv) else kvs ++ [(k, v)]
def dropK (kvs : List (κ × V)) (k : κ) : List (κ × V) := kvs.filter fun kv => decide (kv.1 ≠ k)

end


/-! ### a tracked dict, its keys ints and texts or tuples of these -/
/-- raw entries of a dict with tuple keys -/
abbrev KT (H : Hp) : List (List Key × V) → List (List Key × Addr × Value) → Prop := Paired fun p q => p.1 = q.1 ∧ H q.2.1 = some (.tup (p.1.map kV)) ∧ RelV p.2 q.2.2
section
variable {P : Program} {w : World} {H : Hp} {h : Heap} {a : Addr}
theorem rd_of {u : HO} (ok : HOk P w H h) (e : Rd H a u) : ObjOk P w H h a u := e.ok ok
theorem dk_rd {kvs : List (Key × V)} (ok : HOk P w H h) (e : Rd H a (.dK kvs)) : kvs.length ≤ sizeLine ∧ (a == sysModules) = false ∧ ∃ vs, KV kvs vs ∧ h.DictOf (mixKind P w) a vs :=
  show ObjOk P w H h a (.dK kvs) from rd_of ok e
end

/-- what the dict at a holds at the key y -/
def DGet (H : Hp) (a : Addr) (y : V) (r : Option V) : Prop :=
  (∃ kvs k, Rd H a (.dK kvs) ∧ y = kV k ∧ r = valV kvs k) ∨ ∃ kvs k b, Rd H a (.dT kvs) ∧ y = .ref b ∧ H b = some (.tup (k.map kV)) ∧ r = valV kvs k
/-- the heap behind a[y] = v -/
def DPut (H : Hp) (a : Addr) (y v : V) (H' : Hp) : Prop :=
  (∃ kvs k, H a = some (.dK kvs) ∧ y = kV k ∧ kvs.length < sizeLine ∧ H' = upd H a (.dK (putK kvs k v))) ∨
  ∃ kvs k b, H a = some (.dT kvs) ∧ y = .ref b ∧ H b = some (.tup (k.map kV)) ∧ kvs.length < sizeLine ∧ H' = upd H a (.dT (putK kvs k v))
section
variable {X : Cx} {pins : List (Addr × Obj)} {σ : St} {H : Hp} {s : Shared} {a : Addr} {y v : V} {u r : Value} {o : Option V} {A : Around} {E : Value → Shared → Prop}

end

section
variable {X : Cx} {pins : List (Addr × Obj)} {σ : St} {H : Hp} {s : Shared} {a : Addr} {kvs : List (Key × V)} {k : Key} {u : Value} {A : Around} {E : Value → Shared → Prop}
end


/-! ### readings and rules -/
/-- the element of a subscription, not a slice -/
def NoSl (i : Expr) : Prop := ∀ ov iv, subscripted i false ov iv = operate [ov, iv] (getItem ov iv)
/-- d[y] -/
def tDGet (td ty : TE) : TE := fun σ H Q => td σ H fun x H1 => ty σ H1 fun y H2 => ∃ a v, x = .ref a ∧ DGet H2 a y (some v) ∧ Q v H2
/-- y in d, y not in d -/
def tDIn (ty td : TE) : TE := fun σ H Q => ty σ H fun y H1 => td σ H1 fun x H2 => ∃ a o, x = .ref a ∧ DGet H2 a y o ∧ Q (.bl o.isSome) H2
def tDNotIn (ty td : TE) : TE := fun σ H Q => ty σ H fun y H1 => td σ H1 fun x H2 => ∃ a o, x = .ref a ∧ DGet H2 a y o ∧ Q (.bl (!o.isSome)) H2
/-- d[y] = v -/
def sDPut (td ty tv : TE) : TS := fun D σ H => tv σ H fun v H1 => td σ H1 fun x H2 => ty σ H2 fun y H3 => ∃ a H4, x = .ref a ∧ DPut H3 a y v H4 ∧ D.nx σ H4
/-- d[y] op= v -/
def sDAug (td ty tv : TE) (rd : V → V → Hp → VK → Prop) : TS := fun D σ H => td σ H fun x H1 => ty σ H1 fun y H2 => ∃ a v, x = .ref a ∧ DGet H2 a y (some v) ∧
  tv σ H2 fun y2 H3 => rd v y2 H3 fun z H4 => ∃ H5, DPut H4 a y z H5 ∧ D.nx σ H5
/-- del d[y] -/
def sDDel (td ty : TE) : TS := fun D σ H => td σ H fun x H1 => ty σ H1 fun y H2 => ∃ a kvs k, x = .ref a ∧ H2 a = some (.dK kvs) ∧ y = kV k ∧ (valV kvs k).isSome = true ∧ D.nx σ (upd H2 a (.dK (dropK kvs k)))

section
variable {X : Cx} {o i e value : Expr} {pos pos' tpos : Pos} {td ty tv : TE}
end


/-! ### displays -/
/-- {}, to be a dict of the kind that is wanted -/
def tDNewK : TE := fun _ H Q => ∀ p, H p = none → Q (.ref p) (upd H p (.dK []))
def tDNewT : TE := fun _ H Q => ∀ p, H p = none → Q (.ref p) (upd H p (.dT []))
section
variable {X : Cx} {pos : Pos}
end

/-- the pairs of a display, from the left -/
def tPairs : List (TE × TE) → St → Hp → (List (V × V) → Hp → Prop) → Prop
  | [], _, H, Q => Q [] H
  | (tk, tv) :: r, σ, H, Q => tk σ H fun x H1 => tv σ H1 fun y H2 => tPairs r σ H2 fun ps H3 => Q ((x, y) :: ps) H3
abbrev VV : List (V × V) → List (Value × Value) → Prop := Paired fun p q => RelV p.1 q.1 ∧ RelV p.2 q.2
def PPs (X : Cx) (pos : Pos) (keys : List (Option Expr)) (values : List Expr) (trs : List (TE × TE)) : Prop :=
  ∀ (pins : List (Addr × Obj)) (s : Shared) (σ : St) (H : Hp) (Q : List (V × V) → Hp → Prop), Inv X pins σ H s → tPairs trs σ H Q →
    wpAny (model X.prog X.w) X.A (evalPairs (pairTrees keys values X.env pos)) (fun vs s' => ∃ ps H', Inv X pins σ H' s' ∧ VV ps vs ∧ Q ps H') X.xe s
def mergeK (kvs more : List (Key × V)) : List (Key × V) := more.foldl (fun acc kv => putK acc kv.1 kv.2) kvs
/-- {k: v, ..} with keys ints and texts; the new dict stands empty while the pairs are made -/
def tDisp (trs : List (TE × TE)) : TE := fun σ H Q => ∀ p, H p = none → tPairs trs σ (upd H p (.dK [])) fun ps H2 => H2 p = some (.dK []) ∧ ∃ kvs : List (Key × V), ps = kvs.map (fun kv => (kV kv.1, kv.2)) ∧ kvs.length ≤ 15 ∧ Q (.ref p) (upd H2 p (.dK (mergeK [] kvs)))
/-! ### methods -/
/-- a method call o.m(e) of a built-in, with one argument: what must be seen of the text -/
structure M1 (X : Cx) (o : Expr) (m : Str) (apos : Pos) (e : Expr) (cpos : Pos) : Prop where
  base : attributeBase o m X.env (eval o X.env) = eval o X.env
  few : ((backTo cpos (starEach [e] X.env)).all (fun x => !x.1) && (backToKw cpos (keywordEach [] X.env)).all (fun x => x.1.isSome)
    && decide (([e] : List Expr).length + ([] : List Keyword).length + (if ([] : List Keyword).isEmpty then 0 else 1) < 30)) = true
  line : (apos.endLine == cpos.line) = true
  trees : backTo cpos (starEach [e] X.env) = [(false, eval e X.env)]
structure M2 (X : Cx) (o : Expr) (m : Str) (apos : Pos) (e f : Expr) (cpos : Pos) : Prop where
  base : attributeBase o m X.env (eval o X.env) = eval o X.env
  few : ((backTo cpos (starEach [e, f] X.env)).all (fun x => !x.1) && (backToKw cpos (keywordEach [] X.env)).all (fun x => x.1.isSome)
    && decide (([e, f] : List Expr).length + ([] : List Keyword).length + (if ([] : List Keyword).isEmpty then 0 else 1) < 30)) = true
  line : (apos.endLine == cpos.line) = true
  trees : backTo cpos (starEach [e, f] X.env) = [(false, eval e X.env), (false, eval f X.env)]

/-- a is a dict, whatever its keys -/
def IsD (H : Hp) (a : Addr) : Prop := (∃ kvs, Rd H a (.dK kvs)) ∨ ∃ kvs, Rd H a (.dT kvs)
section
variable {X : Cx} {pins : List (Addr × Obj)} {σ : St} {H : Hp} {s : Shared} {a : Addr} {y d : V} {u r : Value} {o : Option V} {A : Around} {E : Value → Shared → Prop}
end

def tDGet1 (td ty : TE) : TE := fun σ H Q => td σ H fun x H1 => ∃ a, x = .ref a ∧ IsD H1 a ∧ ty σ H1 fun y H2 => ∃ o, DGet H2 a y o ∧ Q (o.getD .non) H2
def tDGet2 (td ty tx : TE) : TE := fun σ H Q => td σ H fun x H1 => ∃ a, x = .ref a ∧ IsD H1 a ∧ ty σ H1 fun y H2 => tx σ H2 fun z H3 => ∃ o, DGet H3 a y o ∧ Q (o.getD z) H3
/-- d.pop(k): there; d.pop(k, x): there or not -/
def tDPop1 (td ty : TE) : TE := fun σ H Q => td σ H fun x H1 => ∃ a, x = .ref a ∧ IsD H1 a ∧ ty σ H1 fun y H2 => ∃ kvs k v, H2 a = some (.dK kvs) ∧ y = kV k ∧ valV kvs k = some v ∧ Q v (upd H2 a (.dK (dropK kvs k)))
def tDPop2 (td ty tx : TE) : TE := fun σ H Q => td σ H fun x H1 => ∃ a, x = .ref a ∧ IsD H1 a ∧ ty σ H1 fun y H2 => tx σ H2 fun z H3 => ∃ kvs k, H3 a = some (.dK kvs) ∧ y = kV k ∧
  (∀ v, valV kvs k = some v → Q v (upd H3 a (.dK (dropK kvs k)))) ∧ (valV kvs k = none → Q z H3)
section
variable {X : Cx} {o e f : Expr} {apos cpos : Pos} {td ty tx : TE}
end

/-! ### dict(d): a copy -/
section
variable {X : Cx} {pins : List (Addr × Obj)} {σ : St} {H : Hp} {s : Shared} {a : Addr} {kvs : List (Key × V)} {A : Around} {E : Value → Shared → Prop}
end


section
variable {X : Cx} {pins : List (Addr × Obj)} {σ : St} {H : Hp} {s : Shared} {a : Addr} {y : V} {u : Value} {A : Around} {E : Value → Shared → Prop}
end
end L2

namespace Att
open PySem PySem.W PySem.Calls PyProof.Rows

/-! ### the script -/
theorem ints_of_wellAll {P : Params} {h : Heap} : ∀ (ns : List Int) (vs : List Value), WellAll P h vs (ns.map WData.int) → IntsAre vs ns := by
  intro ns
  induction ns with
  | nil =>
    intro vs w
    rw [List.map_nil] at w
    cases w
    exact .nil
  | cons n ns ih =>
    intro vs w
    rw [List.map_cons] at w
    cases w with
    | cons a b =>
      cases a
      exact .cons _ _ (ih _ b)

theorem script_of {l : OpenLaw} {n : Nat} (hn : l.most = some n) {P : Params} {h : Heap} {args : List WData} {vals : List Value}
    (hpre : l.row.toRowW.claim.pre args = true) (hwl : WellAll P h vals args) :
    ∃ a vs ns, vals = [Value.ref a] ∧ args = [WData.list (ns.map WData.int)] ∧ h.get? a = some { cls := .type "list", data := .seq vs.toArray } ∧ IntsAre vs ns ∧ ns.length ≤ n := by
  have hsh : WShape.hasAll [] args [.list .int] = true := (pre_splitW hpre).1
  have hc : l.pre.holds [] { args := args } = true := (pre_splitW hpre).2
  obtain ⟨d, r, rfl, h1, h2⟩ := hasAllW_cons hsh
  obtain rfl := hasAllW_nil h2
  obtain ⟨xs, rfl, h3⟩ := hasW_list h1
  obtain ⟨ns, rfl⟩ := items_int h3
  have hlen : ns.length ≤ n := by
    unfold OpenLaw.pre at hc
    have h4 : (WTm.not (.lt (.lit (.int (n : Int))) (.len (.arg 0)))).holds [] { args := [.list (ns.map .int)] } = true := by
      have h4 := (holds_andW hc).1
      rw [hn] at h4
      exact h4
    have h5 := condW_of h4 (w_not (w_lt w_lit (w_len_list (w_arg rfl))))
    rw [List.length_map] at h5
    refine Nat.le_of_not_lt fun q => ?_
    have q' : (n : Int) < ((ns.length : Nat) : Int) := by omega
    first
      | (rw [decide_eq_true q'] at h5; exact absurd h5 (by decide))
      | (simp at h5; omega)
  cases hwl with
  | cons w1 w2 =>
    cases w2
    cases w1 with
    | list ho hall => exact ⟨_, _, ns, rfl, rfl, ho, ints_of_wellAll ns _ hall, hlen⟩

theorem post_true (l : OpenLaw) (args : List WData) : l.row.toRowW.claim.post args (.bool true) args = true :=
  postW_of (r := l.row.toRowW) (X := (true == true))
    (show WShape.has [] (.bool true) .bool = true by first | rfl | decide | simp [WShape.has, WShape.arms, WShape.armsAll])
    (show (WTm.eq .res (.lit (.bool true))).value [] { args := args, res := some (.bool true), after := args } = some (.bool (true == true)) from w_eq_bool (w_res rfl) w_lit) rfl

/-! ### the attachment: holds_open's last premise (the goal 'hc' behind k_head) from a wpAny of the law's body -/
/-- the same from a codeAny of the CALL (for a layer whose function contracts speak of calls) -/
theorem attach_call {l : OpenLaw} {n : Nat} {q : Program} {loose : List Str} {XP : (Str → Option Value) → Heap → Prop} {YP : World → Heap → Prop} {d : DefRec}
    (hn : l.most = some n) (hdf : d.params.defaults = [])
    (call : ∀ (w : World) (s₀ s₁ : Shared) (mg mb : Str → Option Value) (fa : Addr) (o : Obj) (pm cd doc : Value) (a : Addr) (vs : List Value) (ns : List Int),
      Ground q loose [] XP w s₀ mg mb s₁.heap → YP w s₁.heap →
      s₁.heap.get? fa = some o → o.data = .func (docDef d.name d.params d.body d.scope pm cd doc) → s₁.heap.CodeRec cd d.name → mg d.name = some (.ref fa) →
      s₁.heap.get? a = some { cls := .type "list", data := .seq vs.toArray } → IntsAre vs ns → ns.length ≤ n → s₁.gens = #[] →
      codeAny (model l.prog w) callerA (.call (.ref fa) ⟨[.ref a], []⟩) (fun r s' => r = .ok (.ret (.bool true)) ∧ OldK s₁.heap s'.heap ∧ s'.os = s₁.os ∧ AllBare s'.gens) s₁) :
    WalkO q loose XP YP l.row.toRowW d [] (fun f vs => PySem.call f vs) := by
  intro w s₀ s₁ mg mb G Y fa o pm cd doc dV kV ho hd hcd hD hmg hg args vals as hpre hlay hrd hwl hlo
  obtain rfl : dV = .none := Dflts.none hD hdf
  obtain rfl : kV = .none := Dflts.noKw hD
  obtain ⟨a, vs, ns, rfl, rfl, hobj, hints, hlen⟩ := script_of hn hpre hwl
  refine enter_call (codeAny_mono (call w s₀ s₁ mg mb fa o pm cd doc a vs ns G Y ho (fd_plain hd) hcd hmg hobj hints hlen hg) fun r s' hq => ?_)
  obtain ⟨rfl, h2, h3, h4⟩ := hq
  exact ⟨.inl ⟨.bool true, .bool true, [], rfl, fun _ => rfl, .bool true, post_true l _, fun _ => ⟨List.Pairwise.nil, fun _ hm => (nomatch hm)⟩⟩, h2, h3, h4⟩

/-! ### rules over ANY heap (no ledger) from facts about the written part K: the library's own take a ledger (News) for what they write -/
section
variable {prog : Program} {w : World} {A : Around} {E : Value → Shared → Prop} {s : Shared} {K : Frag}

/-! the whole heap as the ledger: makes every rule that writes through a ledger a rule over any heap -/
def noObjs (h : Heap) : Heap := { h with objs := #[] }
def ledger (h : Heap) (L d : Addr) : List (Addr × Obj) := (List.range h.objs.size).filterMap fun a => if a = L ∨ a = d then none else (h.get? a).map fun o => (a, o)
end
end Att

namespace L2
open PySem PySem.Spec PyProof.Rows

theorem vals_ints : ∀ {vs : List Value} {ns : List Int}, IntsAre vs ns → Vals (ns.map V.int) vs
  | _, _, .nil => .nil
  | _, _, .cons n t h => .cons ⟨t, rfl⟩ (vals_ints h)

/-- nothing is tracked but the script, known to the object (or it is an object of the module) -/
def Only (H : Hp) : Prop := ∀ b, H b = none ∨ ∃ o xs, H b = some (.frz o (.lst xs))

/-- THE HEAD: the law's promise, at the heap behind the top. F, the promise of the law's def, may use that base is part of the heap (so K.In base, base.Ns mainGlobals mg stand in Mod) -/
theorem law_call {P : Program} {w : World} {K : PySem.W.Frag} {mg mb : Str → Option Value} {CX : CXT} {k : Nat} {fa a : Addr} {fd : FuncData} {x : Str} {sp : Sp} {s₁ : Shared} {vs : List Value} {ns : List Int}
    (KX : K.In s₁.heap) (hns : s₁.heap.Ns mainGlobals mg) (hb : s₁.heap.Ns builtinsNs mb) (hbb : ∀ x : Str, x ≠ "__name__" → mb x = bootBuiltins x) (hlim : s₁.heap.NoLimit) (hg : s₁.gens = #[])
    (ha : s₁.heap.get? a = some { cls := .type "list", data := .seq vs.toArray }) (hi : IntsAre vs ns) (hl : ns.length ≤ sizeLine) (hr : Room k callerA)
    (F : ∀ base : Heap, K.In base → base.Ns mainGlobals mg → FnOk P w K mg base CX k fa fd [x] sp) (hbind : ∀ (s : Shared) (u : Value), BindsTo s fd ⟨[u], []⟩ [(x, u)])
    (hsp : ∀ H : Hp, Only H → SqL K H a (ns.map V.int) → sp [.ref a] H (fun v _ => v = .bl true) fun _ _ _ => False)
    (hCX : ∀ H e s', CX [] H s₁ (fun _ _ _ => False) e s' → False) :
    codeAny (model P w) callerA (.call (.ref fa) ⟨[.ref a], []⟩) (fun r s' => r = .ok (.ret (.bool true)) ∧ OldK s₁.heap s'.heap ∧ s'.os = s₁.os ∧ AllBare s'.gens) s₁ := by
  have rv := vals_ints hi
  have lenV := hi.length
  -- from an abstract heap in which nothing but the script may be tracked
  have core : ∀ H : Hp, Only H → SqL K H a (ns.map V.int) → HOk P w H s₁.heap → (∀ b, H b ≠ none → b = a) → (H a ≠ none → K.lookup a = none) →
      codeAny (model P w) callerA (.call (.ref fa) ⟨[.ref a], []⟩) (fun r s' => r = .ok (.ret (.bool true)) ∧ OldK s₁.heap s'.heap ∧ s'.os = s₁.os ∧ AllBare s'.gens) s₁ := by
    intro H hO hS hok hA hK
    have base_of : ∀ {b : Addr} {o : Obj}, s₁.heap.get? b = some o → H b = none → (hidT s₁.heap H).get? b = some o := fun e n => hidT_get e n
    have noA : ∀ {b : Addr} {o : Obj} {es : Array DictEntry} {ep : Nat}, s₁.heap.get? b = some o → o.data = .dict es ep → H b = none := fun {b o es ep} e d => by
      cases q : H b with
      | none => rfl
      | some u =>
        have e' : b = a := hA b (by rw [q]; simp)
        subst e'
        rw [ha] at e; cases e
        have d' : Data.seq vs.toArray _ = Data.dict es ep := d
        cases d'
    have nsK : ∀ {b : Addr} {m : Str → Option Value}, s₁.heap.Ns b m → (hidT s₁.heap H).Ns b m := fun {b m} ⟨o, es, ep, e, d, r⟩ => ⟨o, es, ep, base_of e (noA e d), d, r⟩
    have hKb : K.In (hidT s₁.heap H) := fun b o e => base_of (KX b o e) (by
      cases q : H b with
      | none => rfl
      | some u =>
        have e' : b = a := hA b (by rw [q]; simp)
        subst e'
        rw [hK (by rw [q]; simp)] at e; cases e)
    have hM : Mod K mg (hidT s₁.heap H) := ⟨hKb, nsK hns, ⟨mb, nsK hb, hbb⟩, let ⟨mc, h1, h2⟩ := hlim; ⟨mc, nsK h1, h2⟩⟩
    have e0 : Env0 P w K mg (hidT s₁.heap H) callerA [] s₁ H := ⟨rfl, hM, fun b o e => of_hidT e, Nat.le_of_eq (hidT_size _ _), trivial, fun b hb => absurd (show b ∈ ([] : List Addr) from hb) (by simp), hok, .of_eq hg⟩
    refine codeAny_mono ((F _ hKb (nsK hns)).run callerA [] s₁ H ⟨[.ref a], []⟩ [.ref a] [.ref a] _ _ hr e0 (hbind s₁ (.ref a)) (.cons rfl .nil) (hsp H hO hS)) fun r s' h => ?_
    cases r with
    | error e => exact (hCX H e s' h).elim
    | ok fl =>
      cases fl with
      | next => exact False.elim h
      | brk => exact False.elim h
      | cont => exact False.elim h
      | ret u =>
        obtain ⟨v, H', os, bare, un, hok', r', q⟩ := h
        have q' : v = .bl true := q
        subst q'
        obtain rfl : u = Value.bool true := r'
        refine ⟨rfl, OldK.of_keep fun b o e => ?_, os, bare⟩
        cases q : H b with
        | none => exact un.keep b o e q (by intro z; exact absurd (show b ∈ ([] : List Addr) from z) (by simp)) (by simp)
        | some u =>
          rcases hO b with z | ⟨ob, xs, z⟩
          · rw [q] at z; cases z
          · have z2 := un.frzs b ob _ z
            obtain ⟨e1, _⟩ := hok b _ z
            obtain ⟨e2, _⟩ := hok' b _ z2
            rw [e] at e1; cases e1
            exact e2
  cases hk : K.lookup a with
  | some o =>
    -- the script is one of the module's own objects
    have e := KX a o hk
    rw [ha] at e
    cases e
    refine core (fun _ => none) (fun _ => .inl rfl) (.inr ⟨_, vs.toArray, _, hk, rfl, rfl, rfl, by rw [List.size_toArray, lenV]; exact hl, by simpa using rv⟩) (fun b u z => by have z' : (none : Option HO) = some u := z; cases z') (fun b z => absurd rfl z) fun z => absurd rfl z
  | none =>
    refine core (fun b => if b = a then some (.frz { cls := .type "list", data := .seq vs.toArray } (.lst (ns.map V.int))) else none) (fun b => ?_) (.inl (.inr ⟨{ cls := .type "list", data := .seq vs.toArray }, if_pos rfl⟩)) (fun b u z => ?_) (fun b z => ?_) fun _ => hk
    · by_cases hb : b = a
      · exact .inr ⟨_, _, if_pos hb⟩
      · exact .inl (if_neg hb)
    · by_cases hb : b = a
      · have z' := (if_pos hb).symm.trans z
        cases z'
        subst hb
        exact ⟨ha, by rw [List.length_map]; exact hl, vs, _, rv, ha⟩
      · have z' := (if_neg hb).symm.trans z
        cases z'
    · by_cases hb : b = a
      · exact hb
      · exact absurd (if_neg hb) z
end L2

namespace L2
open PySem PySem.Spec PyProof.Rows

abbrev KOf {K : PySem.W.Frag} {h : Heap} (_ : K.In h) : PySem.W.Frag := K

/-- the goal that k_head leaves (case hc), from the law's promise. F gives the function object fd (K's own) once, then the promise over every base -/
theorem walk_of {l : PySem.W.OpenLaw} {n k : Nat} {q : Program} {loose : List Str} {XP : (Str → Option Value) → Heap → Prop} {YP : World → Heap → Prop} {d : DefRec} {K : Params → PySem.W.Frag} {CX : World → CXT} {sp : World → Sp} {x : Str}
    (hn : l.most = some n) (hn2 : n ≤ sizeLine) (hdf : d.params.defaults = []) (hr : Room k callerA)
    (hY : ∀ (w : World) (h : Heap), YP w h → (K w.params).In h)
    (F : ∀ (w : World) (mg : Str → Option Value) (fa : Addr) (h : Heap), (K w.params).In h → h.Ns mainGlobals mg → mg d.name = some (.ref fa) →
      ∃ fd : FuncData, (∀ (s : Shared) (u : Value), BindsTo s fd ⟨[u], []⟩ [(x, u)]) ∧
        ∀ base : Heap, (K w.params).In base → base.Ns mainGlobals mg → FnOk l.prog w (K w.params) mg base (CX w) k fa fd [x] (sp w))
    (hsp : ∀ (w : World) (H : Hp) (a : Addr) (ns : List Int), ns.length ≤ n → Only H → SqL (K w.params) H a (ns.map V.int) → sp w [.ref a] H (fun v _ => v = .bl true) fun _ _ _ => False)
    (hCX : ∀ (w : World) (H : Hp) (s : Shared) (e : Value) (s' : Shared), CX w [] H s (fun _ _ _ => False) e s' → False) :
    PySem.W.WalkO q loose XP YP l.row.toRowW d [] (fun f vs => PySem.call f vs) := by
  refine Att.attach_call hn hdf fun w s₀ s₁ mg mb fa o pm cd doc a vs ns G Y ho hd hcd hmg hobj hints hlen hg => ?_
  have KX := hY w _ Y
  obtain ⟨fd, hb, hF⟩ := F w mg fa _ KX G.T.g hmg
  exact law_call KX G.T.g G.T.b G.T.builtins G.T.nolimit hg hobj hints (Nat.le_trans hlen hn2) hr hF hb (fun H hO hS => hsp w H a ns hlen hO hS) fun H e s' => hCX w H s₁ e s'
/-- the same where the promise hangs on the written part alone: (sp := My.sp_law), no hole under a binder -/
theorem walk_ofK {l : PySem.W.OpenLaw} {n k : Nat} {q : Program} {loose : List Str} {XP : (Str → Option Value) → Heap → Prop} {YP : World → Heap → Prop} {d : DefRec} {K : Params → PySem.W.Frag} {CX : CXT} {sp : PySem.W.Frag → Sp} {x : Str}
    (hn : l.most = some n) (hn2 : n ≤ sizeLine) (hdf : d.params.defaults = []) (hr : Room k callerA)
    (hY : ∀ (w : World) (h : Heap), YP w h → (K w.params).In h)
    (F : ∀ (w : World) (mg : Str → Option Value) (fa : Addr) (h : Heap), (K w.params).In h → h.Ns mainGlobals mg → mg d.name = some (.ref fa) →
      ∃ fd : FuncData, (∀ (s : Shared) (u : Value), BindsTo s fd ⟨[u], []⟩ [(x, u)]) ∧
        ∀ base : Heap, (K w.params).In base → base.Ns mainGlobals mg → FnOk l.prog w (K w.params) mg base CX k fa fd [x] (sp (K w.params)))
    (hsp : ∀ (K : PySem.W.Frag) (H : Hp) (a : Addr) (ns : List Int), ns.length ≤ n → Only H → SqL K H a (ns.map V.int) → sp K [.ref a] H (fun v _ => v = .bl true) fun _ _ _ => False)
    (hCX : ∀ (H : Hp) (s : Shared) (e : Value) (s' : Shared), CX [] H s (fun _ _ _ => False) e s' → False) :
    PySem.W.WalkO q loose XP YP l.row.toRowW d [] (fun f vs => PySem.call f vs) :=
  walk_of (K := K) (CX := fun _ => CX) (sp := fun w => sp (K w.params)) hn hn2 hdf hr hY F (fun w H a ns h1 h2 h3 => hsp (K w.params) H a ns h1 h2 h3) fun _ H s e s' => hCX H s e s'
end L2

/- THE LAST THEOREM (shape; LID, My.* are yours):
   My.Adr: a structure of the addresses that your layer names (classes, functions); My.Txt K t: a structure (Prop) of the equations over K;
   My.txt_mk : {K} {implicit addresses ..} (e1 : nsIn K mainGlobals "law" = some (some (.ref f))) (e2 : K.lookup f = some ⟨oc, od, .func (fnOf "law" "law" params body scope dV kV doc pm an cdv ct), sl⟩) (e3 : codeIn K cdv "law" = true) .. : ∃ t, My.Txt K t

set_option maxRecDepth 100000 in
set_option maxHeartbeats 0 in
theorem PySem.Challenge.cw_LID_holds : PySem.Challenge.rw_LID.Holds := by
  w_on; o_law; k_head; (case hw => w_witness2)
  k_fill
  refine L2.walk_of (l := PySem.Challenge.rw_LID) (n := 63) (k := 40) (x := "script") (CX := fun w => ..) (sp := fun _ => My.sp_law) rfl (by decide) rfl ⟨rfl, by decide, by decide⟩ (fun w h Y => PySem.W.kIn_of Y) ?F ?S ?C
  case F =>
    intro w mg fa h KX G hmg
    have T : ∃ t, My.Txt (L2.KOf KX) t := by
      dsimp only [L2.KOf]                          -- K must stand as «<heap const> w.params» for k_is
      refine' My.txt_mk ?e1 ?e2 ?e3 ..
      (case e1 => PySem.W.k_is)                    -- in the order: a name -> its address -> its object -> its parts
      (case e2 => PySem.W.k_is)
      ..
    obtain ⟨t, T⟩ := T
    have e0 := hmg.symm.trans (PySem.W.mg_of KX G T.law)
    cases e0                                       -- fa is the law's own address
    exact ⟨_, fun s u => .of_eq rfl, fun base kb nb => My.law_fn T kb nb⟩     -- if «.of_eq rfl» comes too early: refine' ⟨_, ?b, fun base kb nb => My.law_fn T kb nb⟩; exact fun s u => .of_eq rfl
  case S => exact fun w H a ns hl hO hS => ..
  case C => exact ..
(the tactic k_is has no namespace: write k_is) -/

/-! SHORT WORDS over the layer: a def of the text, its body, what a loop and a test want. -/
namespace L2
open PySem PySem.Spec PyProof.Rows

/-! ### the text by places -/
/-- the j-th statement of a class's body -/
def inClass (s : Stmt) (j : Nat) : Stmt := match s with
  | .ClassDef _ _ _ body _ _ _ _ _ _ _ => body.getD j (.Pass ⟨0, 0, 0, 0⟩)
  | _ => .Pass ⟨0, 0, 0, 0⟩
def defArgs (s : Stmt) : Arguments := match s with
  | .FunctionDef _ a _ _ _ _ _ _ _ _ => a
  | _ => { posonlyargs := [], args := [], vararg := none, kwonlyargs := [], kw_defaults := [], kwarg := none, defaults := [] }
def defBody (s : Stmt) : List Stmt := match s with
  | .FunctionDef _ _ b _ _ _ _ _ _ _ => b
  | _ => []
def defScope (s : Stmt) : Scope := match s with
  | .FunctionDef _ _ _ _ _ _ sc _ _ _ => sc
  | _ => { kind := .function, names := [], isGenerator := false, isCoroutine := false }

/-! ### no exception leaves a def -/
abbrev CX0 : CXT := fun _ _ _ _ _ _ => False
abbrev E0 : XK := fun _ _ _ => False
/-! ### a def (or method) of the text as it stands behind the top -/
structure Fun (K : PySem.W.Frag) (x qual : Str) (st : Stmt) (f : Addr) (fd : FuncData) : Prop where
  ex : ∃ (oc : Value) (od : Option Addr) (kV doc pm : Value) (an : Option Addr) (cdv ct : Value) (osl : Array (Option Value)),
    fd = PySem.W.fnOf x qual (defArgs st) (defBody st) (defScope st) .none kV doc pm an cdv ct ∧ K.lookup f = some ⟨oc, od, .func fd, osl⟩ ∧ PySem.W.codeIn K cdv qual = true
  kp : PySem.W.keepIn K (.ref f) = true
section
variable {P : Program} {w : World} {K : PySem.W.Frag} {mg : Str → Option Value} {base : Heap}
/-- how its arguments bind (no defaults): h is «fun _ _ _ _ _ _ us hl => match us, hl with | [_, _], _ => rfl», one _ a parameter -/
theorem Fun.binds {x qual : Str} {st : Stmt} {f : Addr} {fd : FuncData} {ps : List Str} (F : Fun K x qual st f fd)
    (h : ∀ (kV doc pm : Value) (an : Option Addr) (cdv ct : Value) (us : List Value), us.length = ps.length → bindArgs (PySem.W.fnOf x qual (defArgs st) (defBody st) (defScope st) .none kV doc pm an cdv ct) ⟨us, []⟩ = pure (ps.zip us)) : Binds K fd ps [] := by
  obtain ⟨oc, od, kV, doc, pm, an, cdv, ct, osl, rfl, lk, hcd⟩ := F.ex
  exact .all (h kV doc pm an cdv ct)
theorem fun_mk {x qual : Str} {st : Stmt} {f : Addr} {oc : Value} {od an : Option Addr} {osl : Array (Option Value)} {kV doc pm cdv ct : Value} (l : K.lookup f = some ⟨oc, od, .func (PySem.W.fnOf x qual (defArgs st) (defBody st) (defScope st) .none kV doc pm an cdv ct), osl⟩)
    (c : PySem.W.codeIn K cdv qual = true) (k : PySem.W.keepIn K (.ref f) = true) : Fun K x qual st f (PySem.W.fnOf x qual (defArgs st) (defBody st) (defScope st) .none kV doc pm an cdv ct) := ⟨⟨oc, od, kV, doc, pm, an, cdv, ct, osl, rfl, l, c⟩, k⟩
end
theorem small1000 {n : Nat} (h : n ≤ 1000) : n < sizeLine := Nat.lt_of_le_of_lt h (by decide)

/-! ### expressions in short: the name that stands in the i-th slot -/
section
variable {X : Cx}
end

/-! ### tests -/
theorem iteF {A B : Prop} (h : B) : if false = true then A else B := by
  rw [if_neg Bool.false_ne_true]
  exact h
theorem iteT {A B : Prop} (h : A) : if true = true then A else B := by
  rw [if_pos rfl]
  exact h
/-! ### heaps -/
/-- all that was tracked is as it was -/
def Same (H H' : Hp) : Prop := ∀ b o, H b = some o → H' b = some o
theorem Same.refl (H : Hp) : Same H H := fun _ _ h => h
theorem Same.trans {H H1 H2 : Hp} (a : Same H H1) (b : Same H1 H2) : Same H H2 := fun c o h => b c o (a c o h)
theorem Same.free {H H' : Hp} (e : Same H H') {l : Addr} (h : H' l = Option.none) : H l = Option.none := by
  cases q : H l with
  | none => rfl
  | some o =>
    rw [e l o q] at h
    cases h
theorem Same.seq {K : PySem.W.Frag} {H H' : Hp} {a : Addr} {xs : List V} (e : Same H H') (h : SqL K H a xs) : SqL K H' a xs := by
  rcases h with (h | ⟨o, h⟩) | h
  · exact .inl (.inl (e _ _ h))
  · exact .inl (.inr ⟨o, e _ _ h⟩)
  · exact .inr h

/-! ### a dict's pairs: keys that differ -/
section
variable {κ : Type} [DecidableEq κ]
end
end L2

set_option maxHeartbeats 4000000
namespace Sg
open PySem PySem.Spec PyProof.Rows L2 PySem.Builtin PySem.Builtin.Getset_descriptor
/-- an object of the class at D, whatever else -/
def IsOf (h : Heap) (x D : Addr) : Prop := ∃ ox, h.get? x = some ox ∧ ox.cls = .ref D
theorem IsOf.ty {M : Model} {h : Heap} {x D : Addr} (I : IsOf h x D) : PySem.W.Looks M h (typeOf (.ref x)) (.ref D) := by
  obtain ⟨ox, h1, h2⟩ := I
  rw [← h2]
  exact (PySem.W.Looks.ld h1).andThen .now
theorem exc_by {prog : Program} {w : World} {A : Around} {E : Value → Shared → Prop} {K : PySem.W.Frag} {s : Shared} {x D : Addr} {name : Str} {tk : Tok} {fill expr : Bool} {Q : Value → Shared → Prop} {r : Builtin.ObjectAttr.Found} (X : K.In s.heap) (I : IsOf s.heap x D)
    (hga : PySem.W.findIn K (.ref D) "__getattribute__" = some (some (.builtin "BaseException.__getattribute__"))) (hgt : PySem.W.findIn K (.ref D) "__getattr__" = some none) (hbe : PySem.W.mroIn K D (.type "BaseException") = some true)
    (hf : PySem.W.Looks (model prog w) s.heap (Builtin.ObjectAttr.find (.ref x) (.ref D) name) r)
    (h : match r with
      | .bind g a => wpAny (model prog w) A.in1 (call g [a, .ref x, .ref D]) (fun v s' => wpAny (model prog w) A (handedOut v) Q E s') (fun _ _ => False) s
      | .value v => wpAny (model prog w) A (handedOut v) Q E s
      | .missing => False) :
    wpAny (model prog w) A (getAttrBy (.ref x) (.str name tk) fill expr) Q E s := by
  obtain ⟨hh, gg, d, t, os⟩ := s
  have L0 := I.ty (M := model prog w)
  have L1 := PySem.W.looks_findIn (M := model prog w) X hga
  have L2' := PySem.W.looks_findIn (M := model prog w) X hgt
  have L4 := PySem.W.looks_mroIn (M := model prog w) X hbe
  have f3 := PySem.F.excAttr_ValueError.ga.bind (.ref x)
  unfold getAttrBy
  refine wpAny_holding (wpAny_bind (L0.at (wpAny_bind (L1.at ?_))))
  have hx2 : (Value.builtin "BaseException.__getattribute__" == Value.builtin "object.__getattribute__") = false := by
    decide +kernel
  simp only [hx2, Bool.and_false, Bool.false_eq_true, if_false]
  unfold getAttrByItsOwn hookBefore
  refine wpAny_bind (L2'.at ?_)
  refine wpAny_bind (wpAny_attempt (wpAny_holding ?_))
  unfold callGetattribute boundAndCalled
  have hx0 : (expr && onTheHeap (Value.builtin "BaseException.__getattribute__")) = false := by
    cases expr <;> rfl
  rw [hx0, f3]
  simp only [Bool.false_eq_true, if_false]
  refine wpAny_bind (wpAny_pure ?_)
  have hbi : PySem.W.Looks (model prog w) hh (isInstance (.ref x) (.type "BaseException")) true := L0.andThen L4
  refine wpAny_call (codeAny_call_builtin PySem.F.excAttr_ValueError.ga.plain PySem.F.entry_bexc_ga (@PySem.W.check_slot (model prog w) _ _ _ "BaseException.__getattribute__" "BaseException" "__getattribute__" (.ref x) [.str name tk] [] _ (by decide +kernel) (by decide +kernel) hbi (PySem.F.args_bexc_ga _ _) ?_))
  unfold Builtin.«object.__getattribute__»
  refine wpAny_bind (wpAny_pure ?_)
  show wpAny (model prog w) A.in1 (Builtin.ObjectAttr.attrName (.str name tk) >>= _) _ _ _
  unfold Builtin.ObjectAttr.attrName
  refine wpAny_bind (wpAny_pure (wpAny_bind (L0.at (wpAny_bind (hf.at ?_)))))
  cases r with
  | bind g a =>
    show wpAny (model prog w) A.in1 (Builtin.ObjectAttr.bindTo g a (.ref x) (.ref D)) _ _ _
    unfold Builtin.ObjectAttr.bindTo
    show wpAny (model prog w) A.in1 (holding [a] (call g [a, .ref x, .ref D]) >>= ret) _ _ _
    exact wpAny_bind (wpAny_holding (wpAny_mono h (fun v s' z => wpAny_pure z) fun _ _ z => z.elim))
  | value v =>
    show wpAny (model prog w) A.in1 (ret v) _ _ _
    exact wpAny_pure h
  | missing => exact h.elim
/-- the getter of object.__class__, of any object of a class of one's own -/
theorem cls_get {prog : Program} {w : World} {A : Around} {K : PySem.W.Frag} {s : Shared} {x D : Addr} {tp : Value} {R : Result → Shared → Prop} (X : K.In s.heap) (I : IsOf s.heap x D) (hm : PySem.W.mroIn K D (.type "object") = some true)
    (hR : R (.ok (.ret (.ref D))) s) : codeAny (model prog w) A (.call (.builtin "getset_descriptor.__get__") ⟨[.builtin "object.__class__", .ref x, tp], []⟩) R s := by
  obtain ⟨hh, g, dr, t, os⟩ := s
  have L0 := I.ty (M := model prog w)
  have L1 := PySem.W.looks_mroIn (M := model prog w) X hm
  have pl := PySem.W.KF.slot_gs.plain
  have ent := PySem.W.KF.entry_gs
  refine codeAny_call_builtin pl ent (PySem.W.KF.slot_gs.check _ _ _ _ _ _ _ _ PySem.W.KF.type_class (PySem.W.KF.args_gs _ _ _) ?_)
  unfold Builtin.«getset_descriptor.__get__» descrGet
  rw [PySem.W.dga_obj]
  refine wpAny_bind (wpAny_pure ?_)
  unfold descrGetter descrCheckInstance descrNameAndClass isInstance
  simp only [PySem.W.KF.owner_class]
  repeat lk
  refine ⟨Code.quiet_builtin _ (by decide +kernel), codeAny_builtin PySem.W.KF.entry_class ?_⟩
  unfold Builtin.«object.__class__» shownTypeOf
  repeat lk
  exact hR
/-- what isinstance asks of a class of exceptions -/
structure TyX (K : PySem.W.Frag) (C : Addr) : Prop where
  hc : (PySem.W.clsIn K C).isSome = true
  ga : PySem.W.findIn K (.ref C) "__getattribute__" = some (some (.builtin "BaseException.__getattribute__"))
  gt : PySem.W.findIn K (.ref C) "__getattr__" = some none
  be : PySem.W.mroIn K C (.type "BaseException") = some true
  ha : PySem.W.findIn K (.ref C) "__class__" = some (some (.builtin "object.__class__"))
  hn : PySem.W.specialIn K (.builtin "object.__class__") "__get__" = some (some (.builtin "getset_descriptor.__get__"))
  htk : PySem.W.takesIn K (.builtin "object.__class__") = some true
  hm : PySem.W.mroIn K C (.type "object") = some true
theorem find_cls {M : Model} {K : PySem.W.Frag} {h : Heap} {x C : Addr} (X : K.In h) (T : TyX K C) : PySem.W.Looks M h (Builtin.ObjectAttr.find (.ref x) (.ref C) "__class__") (.bind (.builtin "getset_descriptor.__get__") (.builtin "object.__class__")) := by
  refine (PySem.W.looks_findIn X T.ha).andThen ?_
  refine (PySem.W.looks_specialIn X T.hn : PySem.W.Looks M h (Builtin.ObjectAttr.getOf (some (.builtin "object.__class__"))) _).andThen ?_
  refine ((PySem.W.looks_takesIn X T.htk).andThen .now : PySem.W.Looks M h (Builtin.ObjectAttr.dataDescriptor? (some (.builtin "object.__class__")) (some (.builtin "getset_descriptor.__get__"))) (some (.builtin "getset_descriptor.__get__", .builtin "object.__class__"))).andThen ?_
  exact PySem.W.Looks.tag .now
theorem kitx_exc {K : PySem.W.Frag} {x D : Addr} (T : TyX K D) : PySem.W.KitX K (.ref x) (.ref D) (fun h => IsOf h x D) where
  ty := fun _ _ _ I => I.ty
  it := fun M h X _ => by
    obtain ⟨cdD, hcD⟩ := Option.isSome_iff_exists.mp T.hc
    unfold PySem.W.clsIn at hcD
    split at hcD
    · rename_i u1 u2 u3 u4 hlk
      intro A' Q' E' s' k q
      unfold isType loadHead
      exact wpAny_bind (wpAny_loadPart (k _ _ (X _ _ hlk)) (wpAny_pure q))
    · cases hcD
  ne := fun h tp dd its n sl X htp => by
    obtain ⟨cdD, hcD⟩ := Option.isSome_iff_exists.mp T.hc
    refine Bool.eq_false_iff.mpr fun q => ?_
    have e : D = tp := Value.ref.inj (beq_iff_eq.mp q)
    subst e
    unfold PySem.W.clsIn at hcD
    split at hcD
    · rename_i u1 u2 u3 u4 hlk
      have z := (X _ _ hlk).symm.trans htp
      cases z
    · cases hcD
  ca := fun {prog w A E Q s} X I k => by
    unfold getAttr? getAttrBy?
    refine wpAny_bind (wpAny_mkText (wpAny_bind (wpAny_attempt ?_)))
    refine exc_by (s := { s with toks := s.toks + 1 }) X I T.ga T.gt T.be (find_cls X T) ?_
    refine wpAny_call (cls_get (s := { s with toks := s.toks + 1 }) X I T.hm ?_)
    exact PySem.W.handed_on rfl (wpAny_pure k)
end Sg

/-! The calculus of plain data over the layer: values without addresses, a frozen part of the heap, owned things. -/
namespace Sg
open PySem PySem.Spec PyProof.Rows L2

abbrev St := L2.St
/-- an object of the class at C, its dict at dx -/
def IsOfD (h : Heap) (x C dx : Addr) : Prop := ∃ ox, h.get? x = some ox ∧ ox.cls = .ref C ∧ ox.dict = some dx ∧ ∃ vs, ox.data = .fields vs
theorem IsOfD.of {h : Heap} {x C dx : Addr} (I : IsOfD h x C dx) : IsOf h x C := let ⟨ox, h1, h2, _⟩ := I; ⟨ox, h1, h2⟩
inductive Dt where
  | non
  | bl (b : Bool)
  | int (i : Int)
  | str (x : Str)
  | tup (ds : List Dt)
  | lst (ds : List Dt)
  | scr (ns : List Int)
  | dic (kvs : List (Key × Dt))
  | obj (C : Addr) (fs : List (Str × Dt))
  | ty (n : String)
  | cls (C : Addr)
  | xo (C : Addr)
  | dicF (kvs : List (Key × Dt))
  | xof (C : Addr) (fs : List (Str × Dt))

mutual
inductive Rep (K : PySem.W.Frag) (H : Hp) : V → Dt → Prop
  | non : Rep K H .non .non
  | bl (b : Bool) : Rep K H (.bl b) (.bl b)
  | int (i : Int) : Rep K H (.int i) (.int i)
  | str (x : Str) : Rep K H (.str x) (.str x)
  | tup {a : Addr} {vs : List V} {ds : List Dt} : SqT K H a vs → Reps K H vs ds → Rep K H (.ref a) (.tup ds)
  | lst {a : Addr} {vs : List V} {ds : List Dt} : H a = some (.lst vs) → Reps K H vs ds → Rep K H (.ref a) (.lst ds)
  | scr {a : Addr} {ns : List Int} : SqL K H a (ns.map V.int) → Rep K H (.ref a) (.scr ns)
  | dic {a : Addr} {kvs : List (Key × V)} {kds : List (Key × Dt)} : H a = some (.dK kvs) → RepK K H kvs kds → Rep K H (.ref a) (.dic kds)
  | obj {a C dx : Addr} {fs : List (Str × V)} {ds : List (Str × Dt)} : H a = some (.ins C dx fs) → RepF K H fs ds → Rep K H (.ref a) (.obj C ds)
  | ty (n : String) : Rep K H (.ty n) (.ty n)
  | cls (C : Addr) : Rep K H (.ref C) (.cls C)
  | xo {a C : Addr} {ph : Heap → Prop} : H a = some (.ext ph) → (∀ h, ph h → IsOf h a C) → Rep K H (.ref a) (.xo C)
  | dicF {a : Addr} {ob : Obj} {kvs : List (Key × V)} {kds : List (Key × Dt)} : H a = some (.frz ob (.dK kvs)) → RepK K H kvs kds → Rep K H (.ref a) (.dicF kds)
  | xof {a C dx : Addr} {ph : Heap → Prop} {fs : List (Str × V)} {ds : List (Str × Dt)} : H a = some (.ext ph) → (∀ h, ph h → IsOfD h a C dx) → H dx = some (.xd fs) → RepF K H fs ds → Rep K H (.ref a) (.xof C ds)
inductive Reps (K : PySem.W.Frag) (H : Hp) : List V → List Dt → Prop
  | nil : Reps K H [] []
  | cons {v : V} {d : Dt} {vs : List V} {ds : List Dt} : Rep K H v d → Reps K H vs ds → Reps K H (v :: vs) (d :: ds)
inductive RepK (K : PySem.W.Frag) (H : Hp) : List (Key × V) → List (Key × Dt) → Prop
  | nil : RepK K H [] []
  | cons {k : Key} {v : V} {d : Dt} {vs : List (Key × V)} {ds : List (Key × Dt)} : Rep K H v d → RepK K H vs ds → RepK K H ((k, v) :: vs) ((k, d) :: ds)
inductive RepF (K : PySem.W.Frag) (H : Hp) : List (Str × V) → List (Str × Dt) → Prop
  | nil : RepF K H [] []
  | cons {k : Str} {v : V} {d : Dt} {vs : List (Str × V)} {ds : List (Str × Dt)} : Rep K H v d → RepF K H vs ds → RepF K H ((k, v) :: vs) ((k, d) :: ds)
end

theorem Rd_same {H H' : Hp} {a : Addr} {u : HO} (e : Same H H') (h : Rd H a u) : Rd H' a u := by
  rcases h with h | ⟨o, h⟩
  · exact .inl (e _ _ h)
  · exact .inr ⟨o, e _ _ h⟩
theorem SqT_same {K : PySem.W.Frag} {H H' : Hp} {a : Addr} {xs : List V} (e : Same H H') (h : SqT K H a xs) : SqT K H' a xs := by
  rcases h with h | h
  · exact .inl (Rd_same e h)
  · exact .inr h

mutual
theorem Rep.mono {K : PySem.W.Frag} {H H' : Hp} (e : Same H H') : ∀ {v : V} {d : Dt}, Rep K H v d → Rep K H' v d
  | _, _, .non => .non
  | _, _, .bl b => .bl b
  | _, _, .int i => .int i
  | _, _, .str x => .str x
  | _, _, .tup h r => .tup (SqT_same e h) (Reps.mono e r)
  | _, _, .lst h r => .lst (e _ _ h) (Reps.mono e r)
  | _, _, .scr h => .scr (e.seq h)
  | _, _, .dic h r => .dic (e _ _ h) (RepK.mono e r)
  | _, _, .obj h r => .obj (e _ _ h) (RepF.mono e r)
  | _, _, .ty n => .ty n
  | _, _, .cls C => .cls C
  | _, _, .xo h r => .xo (e _ _ h) r
  | _, _, .dicF h r => .dicF (e _ _ h) (RepK.mono e r)
  | _, _, .xof h q g r => .xof (e _ _ h) q (e _ _ g) (RepF.mono e r)
theorem Reps.mono {K : PySem.W.Frag} {H H' : Hp} (e : Same H H') : ∀ {v : List V} {d : List Dt}, Reps K H v d → Reps K H' v d
  | _, _, .nil => .nil
  | _, _, .cons h r => .cons (Rep.mono e h) (Reps.mono e r)
theorem RepK.mono {K : PySem.W.Frag} {H H' : Hp} (e : Same H H') : ∀ {v : List (Key × V)} {d : List (Key × Dt)}, RepK K H v d → RepK K H' v d
  | _, _, .nil => .nil
  | _, _, .cons h r => .cons (Rep.mono e h) (RepK.mono e r)
theorem RepF.mono {K : PySem.W.Frag} {H H' : Hp} (e : Same H H') : ∀ {v : List (Str × V)} {d : List (Str × Dt)}, RepF K H v d → RepF K H' v d
  | _, _, .nil => .nil
  | _, _, .cons h r => .cons (Rep.mono e h) (RepF.mono e r)
end
theorem Reps.length {K : PySem.W.Frag} {H : Hp} : ∀ {v : List V} {d : List Dt}, Reps K H v d → v.length = d.length
  | _, _, .nil => rfl
  | _, _, .cons _ r => congrArg (· + 1) (Reps.length r)
theorem Reps.get {K : PySem.W.Frag} {H : Hp} : ∀ {v : List V} {d : List Dt} {i : Nat} {x : Dt}, Reps K H v d → d[i]? = some x → ∃ y, v[i]? = some y ∧ Rep K H y x
  | _, _, _, _, .nil, e => by simp at e
  | _, _, 0, _, .cons h _, e => by simp at e; subst e; exact ⟨_, rfl, h⟩
  | _, _, i + 1, x, .cons _ r, e => by
    obtain ⟨y, h1, h2⟩ := Reps.get (i := i) (x := x) r (by simpa using e)
    exact ⟨y, by simpa using h1, h2⟩
theorem Reps.get' {K : PySem.W.Frag} {H : Hp} {v : List V} {d : List Dt} {i : Nat} {y : V} (r : Reps K H v d) (e : v[i]? = some y) : ∃ x, d[i]? = some x ∧ Rep K H y x := by
  have hi : i < v.length := (List.getElem?_eq_some_iff.mp e).1
  have hi' : i < d.length := by rw [← r.length]; exact hi
  obtain ⟨z, h1, h2⟩ := r.get (List.getElem?_eq_getElem hi')
  rw [e] at h1; cases h1
  exact ⟨_, List.getElem?_eq_getElem hi', h2⟩
theorem Reps.append {K : PySem.W.Frag} {H : Hp} : ∀ {v : List V} {d : List Dt} {v' : List V} {d' : List Dt}, Reps K H v d → Reps K H v' d' → Reps K H (v ++ v') (d ++ d')
  | _, _, _, _, .nil, s => s
  | _, _, _, _, .cons h r, s => .cons h (Reps.append r s)
theorem Reps.take {K : PySem.W.Frag} {H : Hp} : ∀ {v : List V} {d : List Dt} (n : Nat), Reps K H v d → Reps K H (v.take n) (d.take n)
  | _, _, 0, _ => .nil
  | _, _, _ + 1, .nil => .nil
  | _, _, n + 1, .cons h r => .cons h (Reps.take n r)
theorem Reps.drop {K : PySem.W.Frag} {H : Hp} : ∀ {v : List V} {d : List Dt} (n : Nat), Reps K H v d → Reps K H (v.drop n) (d.drop n)
  | _, _, 0, r => r
  | _, _, _ + 1, .nil => .nil
  | _, _, n + 1, .cons _ r => Reps.drop n r
theorem Reps.set {K : PySem.W.Frag} {H : Hp} {y : V} {x : Dt} (q : Rep K H y x) : ∀ {v : List V} {d : List Dt} (n : Nat), Reps K H v d → Reps K H (v.set n y) (d.set n x)
  | _, _, _, .nil => .nil
  | _, _, 0, .cons _ r => .cons q r
  | _, _, n + 1, .cons h r => .cons h (Reps.set q n r)
theorem RepF.lookup {K : PySem.W.Frag} {H : Hp} {f : Str} : ∀ {v : List (Str × V)} {d : List (Str × Dt)} {x : Dt}, RepF K H v d → d.lookup f = some x → ∃ y, v.lookup f = some y ∧ Rep K H y x
  | _, _, _, .nil, e => by simp at e
  | (k, v) :: r, (_, d) :: s, x, .cons h t, e => by
    rw [List.lookup_cons] at e ⊢
    cases q : (f == k) with
    | true => rw [q] at e; cases e; exact ⟨v, rfl, h⟩
    | false => rw [q] at e; exact RepF.lookup t e
theorem RepF.none_of {K : PySem.W.Frag} {H : Hp} {f : Str} : ∀ {v : List (Str × V)} {d : List (Str × Dt)}, RepF K H v d → d.lookup f = none → v.lookup f = none
  | _, _, .nil, _ => rfl
  | (k, v) :: r, (_, d) :: s, .cons h t, e => by
    rw [List.lookup_cons] at e ⊢
    cases q : (f == k) with
    | true => rw [q] at e; cases e
    | false => rw [q] at e; exact RepF.none_of t e
theorem RepF.length {K : PySem.W.Frag} {H : Hp} : ∀ {v : List (Str × V)} {d : List (Str × Dt)}, RepF K H v d → v.length = d.length
  | _, _, .nil => rfl
  | _, _, .cons _ r => congrArg (· + 1) (RepF.length r)
/-- the frozen part Hf and the heap H grow -/
structure Grow (Hf H Hf' H' : Hp) : Prop where
  big : Same H H'
  frz : Same Hf Hf'
  sub : Same Hf' H'
  new : ∀ a o, Hf' a = some o → (∃ o, Hf a = some o) ∨ H a = Option.none
theorem Grow.refl {Hf H : Hp} (s : Same Hf H) : Grow Hf H Hf H := ⟨Same.refl _, Same.refl _, s, fun a o h => .inl ⟨o, h⟩⟩
theorem Grow.trans {Hf H Hf1 H1 Hf2 H2 : Hp} (a : Grow Hf H Hf1 H1) (b : Grow Hf1 H1 Hf2 H2) : Grow Hf H Hf2 H2 :=
  ⟨a.big.trans b.big, a.frz.trans b.frz, b.sub, fun x o h => by
    rcases b.new x o h with ⟨o', h'⟩ | h'
    · exact a.new x o' h'
    · exact .inr (a.big.free h')⟩
theorem same_upd {H : Hp} {p : Addr} {o : HO} (n : H p = Option.none) : Same H (upd H p o) := fun b u e => by
  rw [upd_ne (ne_of_none e n)]; exact e
theorem same_upd2 {Hf H : Hp} {p : Addr} {o : HO} (s : Same Hf H) : Same (upd Hf p o) (upd H p o) := fun b u e => by
  by_cases hb : b = p
  · subst hb; rw [upd_same] at e ⊢; exact e
  · rw [upd_ne hb] at e ⊢; exact s _ _ e
theorem same_updO {Hf H : Hp} {p : Addr} {o : HO} (s : Same Hf H) (n : Hf p = Option.none) : Same Hf (upd H p o) := fun b u e => by
  rw [upd_ne (ne_of_none e n)]; exact s _ _ e
theorem Grow.alloc {Hf H : Hp} {p : Addr} {o : HO} (s : Same Hf H) (n : H p = Option.none) : Grow Hf H (upd Hf p o) (upd H p o) :=
  ⟨same_upd n, same_upd (s.free n), same_upd2 s, fun a u h => by
    by_cases hb : a = p
    · subst hb; exact .inr n
    · rw [upd_ne hb] at h; exact .inl ⟨u, h⟩⟩
/-- a new thing that stays owned -/
theorem Grow.allocO {Hf H : Hp} {p : Addr} {o : HO} (s : Same Hf H) (n : H p = Option.none) : Grow Hf H Hf (upd H p o) :=
  ⟨same_upd n, Same.refl _, same_updO s (s.free n), fun a u h => .inl ⟨u, h⟩⟩

/-- an owned thing -/
inductive Own where
  | lst (ds : List Dt)
  | dic (kds : List (Key × Dt))
  | obj (C : Addr) (fs : List (Str × Dt))
  | slf (x : Addr) (C : Addr) (fs : List (Str × Dt))
inductive Slot where
  | unk
  | val (d : Dt)
  | own (o : Own)
def OwnAt (K : PySem.W.Frag) (Hf H : Hp) (a : Addr) : Own → Prop
  | .lst ds => ∃ vs, H a = some (.lst vs) ∧ Reps K Hf vs ds
  | .dic kds => ∃ kvs, H a = some (.dK kvs) ∧ RepK K Hf kvs kds
  | .obj C ds => ∃ dx fs, H a = some (.ins C dx fs) ∧ RepF K Hf fs ds
  | .slf x C ds => a = x ∧ ∃ dx fs, H a = some (.ins C dx fs) ∧ RepF K Hf fs ds
theorem OwnAt.some {K : PySem.W.Frag} {Hf H : Hp} {a : Addr} : ∀ {o : Own}, OwnAt K Hf H a o → ∃ u, H a = some u
  | .lst _, ⟨_, h, _⟩ => ⟨_, h⟩
  | .dic _, ⟨_, h, _⟩ => ⟨_, h⟩
  | .obj _ _, ⟨_, _, h, _⟩ => ⟨_, h⟩
  | .slf _ _ _, ⟨_, _, _, h, _⟩ => ⟨_, h⟩
theorem OwnAt.grow {K : PySem.W.Frag} {Hf H Hf' H' : Hp} {a : Addr} (e : H' a = H a) (f : Same Hf Hf') : ∀ {o : Own}, OwnAt K Hf H a o → OwnAt K Hf' H' a o
  | .lst _, ⟨vs, h, r⟩ => ⟨vs, by rw [e]; exact h, r.mono f⟩
  | .dic _, ⟨vs, h, r⟩ => ⟨vs, by rw [e]; exact h, r.mono f⟩
  | .obj _ _, ⟨dx, fs, h, r⟩ => ⟨dx, fs, by rw [e]; exact h, r.mono f⟩
  | .slf _ _ _, ⟨q, dx, fs, h, r⟩ => ⟨q, dx, fs, by rw [e]; exact h, r.mono f⟩

/-- a def's entry: its frozen part, its heap -/
structure Gr where
  Hf : Hp
  H : Hp
structure Stt (K : PySem.W.Frag) (G : Gr) (st : L2.St) (Hf H : Hp) (dl : List Slot) : Prop where
  gr : Grow G.Hf G.H Hf H
  len : st.length = dl.length
  val : ∀ (i : Nat) d, dl[i]? = some (.val d) → ∃ v, st[i]? = some (some v) ∧ Rep K Hf v d
  own : ∀ (i : Nat) o, dl[i]? = some (.own o) → ∃ a, st[i]? = some (some (.ref a)) ∧ Hf a = Option.none ∧ G.H a = Option.none ∧ OwnAt K Hf H a o
  dis : ∀ (i j : Nat) o o' a, dl[i]? = some (.own o) → dl[j]? = some (.own o') → st[i]? = some (some (.ref a)) → st[j]? = some (some (.ref a)) → i = j
section
variable {K : PySem.W.Frag} {G : Gr} {st : L2.St} {Hf H Hf' H' : Hp} {dl dl' : List Slot}
theorem Stt.sub (S : Stt K G st Hf H dl) : Same Hf H := S.gr.sub
theorem Stt.grow (S : Stt K G st Hf H dl) (g : Grow Hf H Hf' H') : Stt K G st Hf' H' dl := by
  refine ⟨S.gr.trans g, S.len, fun i d h => let ⟨v, h1, h2⟩ := S.val i d h; ⟨v, h1, h2.mono g.frz⟩, fun i o h => ?_, S.dis⟩
  obtain ⟨a, h1, h2, h3, h4⟩ := S.own i o h
  obtain ⟨u, hu⟩ := h4.some
  refine ⟨a, h1, ?_, h3, h4.grow (by rw [hu]; exact g.big _ _ hu) g.frz⟩
  cases q : Hf' a with
  | none => rfl
  | some u' =>
    rcases g.new a u' q with ⟨o', z⟩ | z
    · rw [h2] at z; cases z
    · rw [hu] at z; cases z
theorem Stt.set (S : Stt K G st Hf H dl) {i : Nat} {v : V} {d : Dt} (r : Rep K Hf v d) : Stt K G (st.set i (some v)) Hf H (dl.set i (.val d)) := by
  have ln := S.len
  refine ⟨S.gr, by simp [S.len], fun j x h => ?_, fun j o h => ?_, fun j k o o' a h1 h2 h3 h4 => ?_⟩
  · by_cases e : i = j
    · subst e
      by_cases hl : i < dl.length
      · rw [List.getElem?_set_self hl] at h; cases h
        exact ⟨v, List.getElem?_set_self (by omega), r⟩
      · rw [List.getElem?_eq_none (by simp; omega)] at h; cases h
    · rw [List.getElem?_set_ne e] at h ⊢; exact S.val j x h
  · by_cases e : i = j
    · subst e
      by_cases hl : i < dl.length
      · rw [List.getElem?_set_self hl] at h; cases h
      · rw [List.getElem?_eq_none (by simp; omega)] at h; cases h
    · rw [List.getElem?_set_ne e] at h ⊢; exact S.own j o h
  · have nj : i ≠ j := fun e => by
      subst e
      by_cases hl : i < dl.length
      · rw [List.getElem?_set_self hl] at h1; cases h1
      · rw [List.getElem?_eq_none (by simp; omega)] at h1; cases h1
    have nk : i ≠ k := fun e => by
      subst e
      by_cases hl : i < dl.length
      · rw [List.getElem?_set_self hl] at h2; cases h2
      · rw [List.getElem?_eq_none (by simp; omega)] at h2; cases h2
    rw [List.getElem?_set_ne nj] at h1 h3
    rw [List.getElem?_set_ne nk] at h2 h4
    exact S.dis j k o o' a h1 h2 h3 h4
/-- the owned thing in the i-th slot is changed -/
theorem Stt.updO (S : Stt K G st Hf H dl) {i : Nat} {p : Addr} {o : HO} {w w' : Own} (hi : dl[i]? = some (.own w)) (hp : st[i]? = some (some (.ref p))) (r : OwnAt K Hf (upd H p o) p w') : Stt K G st Hf (upd H p o) (dl.set i (.own w')) := by
  have ln := S.len
  obtain ⟨p', q1, q2, q3, q4⟩ := S.own i w hi
  rw [hp] at q1; cases q1
  have hl : i < dl.length := (List.getElem?_eq_some_iff.mp hi).1
  have g : Grow G.Hf G.H Hf (upd H p o) := ⟨fun b u e => by rw [upd_ne (ne_of_none e q3)]; exact S.gr.big _ _ e, S.gr.frz, same_updO S.sub q2, S.gr.new⟩
  refine ⟨g, by simp [S.len], fun j x h => ?_, fun j o' h => ?_, fun j k o1 o2 a h1 h2 h3 h4 => ?_⟩
  · by_cases e : i = j
    · subst e; rw [List.getElem?_set_self hl] at h; cases h
    · rw [List.getElem?_set_ne e] at h; exact S.val j x h
  · by_cases e : i = j
    · subst e; rw [List.getElem?_set_self hl] at h; cases h
      exact ⟨p, hp, q2, q3, r⟩
    · rw [List.getElem?_set_ne e] at h
      obtain ⟨a, z1, z2, z3, z4⟩ := S.own j o' h
      have : a ≠ p := fun q => by subst q; exact e (S.dis i j _ _ _ hi h hp z1)
      exact ⟨a, z1, z2, z3, z4.grow (upd_ne this) (Same.refl _)⟩
  · have tr : ∀ (j : Nat) o', (dl.set i (.own w'))[j]? = some (.own o') → ∃ o'', dl[j]? = some (.own o'') := fun j o' h => by
      by_cases e : i = j
      · subst e; exact ⟨_, hi⟩
      · rw [List.getElem?_set_ne e] at h; exact ⟨_, h⟩
    obtain ⟨_, t1⟩ := tr j o1 h1
    obtain ⟨_, t2⟩ := tr k o2 h2
    exact S.dis j k _ _ a t1 t2 h3 h4
/-- less is known -/
def Le (dl dl' : List Slot) : Prop := dl.length = dl'.length ∧ ∀ (i : Nat) s, dl[i]? = some s → s ≠ .unk → dl'[i]? = some s
theorem Le.refl (dl : List Slot) : Le dl dl := ⟨rfl, fun _ _ h _ => h⟩
theorem Stt.weak (S : Stt K G st Hf H dl') (l : Le dl dl') : Stt K G st Hf H dl :=
  ⟨S.gr, by rw [S.len, l.1], fun i d h => S.val i d (l.2 i _ h (by intro z; cases z)), fun i o h => S.own i o (l.2 i _ h (by intro z; cases z)),
   fun i j o o' a h1 h2 => S.dis i j o o' a (l.2 i _ h1 (by intro z; cases z)) (l.2 j _ h2 (by intro z; cases z))⟩
def leb : List Slot → List Slot → Prop
  | [], [] => True
  | .unk :: r, _ :: s => leb r s
  | x :: r, y :: s => x = y ∧ leb r s
  | _, _ => False
theorem Le.of : ∀ {dl dl' : List Slot}, leb dl dl' → Le dl dl'
  | [], [], _ => Le.refl _
  | .unk :: r, y :: s, h => by
    have q := Le.of (dl := r) (dl' := s) h
    refine ⟨congrArg (· + 1) q.1, fun i x e n => ?_⟩
    cases i with
    | zero => simp at e; exact absurd e.symm n
    | succ i => exact q.2 i x (by simpa using e) n
  | .val d :: r, y :: s, h => by
    obtain ⟨h1, h2⟩ := (show Slot.val d = y ∧ leb r s from h)
    subst h1
    have q := Le.of h2
    refine ⟨congrArg (· + 1) q.1, fun i x e n => ?_⟩
    cases i with
    | zero => exact e
    | succ i => exact q.2 i x (by simpa using e) n
  | .own d :: r, y :: s, h => by
    obtain ⟨h1, h2⟩ := (show Slot.own d = y ∧ leb r s from h)
    subst h1
    have q := Le.of h2
    refine ⟨congrArg (· + 1) q.1, fun i x e n => ?_⟩
    cases i with
    | zero => exact e
    | succ i => exact q.2 i x (by simpa using e) n
end

/-! ### the judgements -/
def tD (K : PySem.W.Frag) (G : Gr) (dl : List Slot) (d : Dt) : TE := fun st H Q => ∃ Hf, Stt K G st Hf H dl ∧ ∀ v Hf' H', Grow Hf H Hf' H' → Rep K Hf' v d → Q v H'
def tDs (K : PySem.W.Frag) (G : Gr) (dl : List Slot) (ds : List Dt) : TA := fun st H Q => ∃ Hf, Stt K G st Hf H dl ∧ ∀ vs Hf' H', Grow Hf H Hf' H' → Reps K Hf' vs ds → Q vs H'
def tDB (K : PySem.W.Frag) (G : Gr) (dl : List Slot) (b : Bool) : TT := fun st H Q => ∃ Hf, Stt K G st Hf H dl ∧ ∀ Hf' H', Grow Hf H Hf' H' → Q b H'
abbrev EE (X : Cx) (G : Gr) (dl : List Slot) (e : Expr) (d : Dt) : Prop := PE X e (tD X.K G dl d)
abbrev EA (X : Cx) (G : Gr) (dl : List Slot) (es : List Expr) (ds : List Dt) : Prop := PA X es (tDs X.K G dl ds)
abbrev EB (X : Cx) (G : Gr) (dl : List Slot) (e : Expr) (b : Bool) : Prop := PT X e (tDB X.K G dl b)
/-- an exception's own fields -/
def ExcAt (K : PySem.W.Frag) (Hf : Hp) (od : Option Addr) (fs : List (Str × Dt)) : Prop := match od with
  | none => fs = []
  | some dx => ∃ fv, Hf dx = some (.xd fv) ∧ RepF K Hf fv fs
inductive Out where
  | nx (dl : List Slot)
  | rt (d : Dt)
  | ro (w : Own)
  | bk (dl : List Slot)
  | ct (dl : List Slot)
  | ex (c : Value) (fs : List (Str × Dt))
def OutK (K : PySem.W.Frag) (G : Gr) (E : XK) (D : Ends) (Hf : Hp) : Out → Prop
  | .nx dl => ∀ st Hf' H, Same Hf Hf' → Stt K G st Hf' H dl → D.nx st H
  | .bk dl => ∀ st Hf' H, Same Hf Hf' → Stt K G st Hf' H dl → D.bk st H
  | .ct dl => ∀ st Hf' H, Same Hf Hf' → Stt K G st Hf' H dl → D.ct st H
  | .rt d => ∀ v Hf' H, Grow G.Hf G.H Hf' H → Rep K Hf' v d → D.rt v H
  | .ro o => ∀ p Hf' H, Grow G.Hf G.H Hf' H → G.H p = none → Hf' p = none → OwnAt K Hf' H p o → D.rt (.ref p) H
  | .ex c fs => ∀ od Hf' H, Grow G.Hf G.H Hf' H → ExcAt K Hf' od fs → E c od H
theorem OutK.mono {K : PySem.W.Frag} {G : Gr} {E : XK} {D : Ends} {Hf Hf1 : Hp} (s : Same Hf Hf1) : ∀ {o : Out}, OutK K G E D Hf o → OutK K G E D Hf1 o
  | .nx _, k => fun st Hf' H s' S => k st Hf' H (s.trans s') S
  | .bk _, k => fun st Hf' H s' S => k st Hf' H (s.trans s') S
  | .ct _, k => fun st Hf' H s' S => k st Hf' H (s.trans s') S
  | .rt _, k => k
  | .ro _, k => k
  | .ex _ _, k => k
def tO (K : PySem.W.Frag) (G : Gr) (E : XK) (dl : List Slot) (o : Out) : TS := fun D st H => ∃ Hf, Stt K G st Hf H dl ∧ OutK K G E D Hf o
abbrev ES (X : Cx) (G : Gr) (E : XK) (dl : List Slot) (s : Stmt) (o : Out) : Prop := PS X s (tO X.K G E dl o)
abbrev ESs (X : Cx) (G : Gr) (E : XK) (dl : List Slot) (s : List Stmt) (o : Out) : Prop := PSs X s (tO X.K G E dl o)

theorem peI {X : Cx} {e : Expr} {t t' : TE} (h : PE X e t) (i : ∀ st H Q, t' st H Q → t st H Q) : PE X e t' := fun pins s st H Q I q => h pins s st H Q I (i st H Q q)
theorem ptI {X : Cx} {e : Expr} {t t' : TT} (h : PT X e t) (i : ∀ st H Q, t' st H Q → t st H Q) : PT X e t' := fun pins s st H Q I q => h pins s st H Q I (i st H Q q)
theorem paI {X : Cx} {e : List Expr} {t t' : TA} (h : PA X e t) (i : ∀ st H Q, t' st H Q → t st H Q) : PA X e t' := fun pos pins s st H Q I q => h pos pins s st H Q I (i st H Q q)
theorem psI {X : Cx} {e : Stmt} {t t' : TS} (h : PS X e t) (i : ∀ D st H, t' D st H → t D st H) : PS X e t' := fun pins s st H D I q => h pins s st H D I (i D st H q)
theorem pssI {X : Cx} {e : List Stmt} {t t' : TS} (h : PSs X e t) (i : ∀ D st H, t' D st H → t D st H) : PSs X e t' := fun pins s st H D I q => h pins s st H D I (i D st H q)

section
variable {X : Cx} {G : Gr} {E : XK} {dl dl1 dl2 : List Slot} {a b c e : Expr} {es : List Expr} {i j : Int} {d d1 d2 : Dt} {ds : List Dt} {pos : Pos} {o o' : Out} {x y : Str} {u v : Bool}

/-! ### names, constants -/
theorem ee_var (n : Nat) {x : Str} {pos : Pos} (hd : dl[n]? = some (.val d) := by rfl) (hN : X.N[n]? = some x := by rfl) (hv : Vis X.env.scope x := by first | exact Or.inl rfl | exact Or.inr (Or.inl rfl) | exact Or.inr (Or.inr rfl)) (hb : (x == ("__debug__" : Str)) = false := by decide)
    (hcd : (x == ("__classdict__" : Str)) = false := by decide) : EE X G dl (.Name x pos) d :=
  peI (pe_var hN hv hb hcd) fun st H Q ⟨Hf, S, k⟩ => let ⟨v, h1, h2⟩ := S.val n d hd; ⟨v, h1, k v Hf H (.refl S.sub) h2⟩
theorem ee_int {z : Int} {j pos} : EE X G dl (.Constant (.int z) j pos) (.int z) := peI pe_int fun st H Q ⟨Hf, S, k⟩ => k _ Hf H (.refl S.sub) (.int z)
theorem ee_bl {z : Bool} {j pos} : EE X G dl (.Constant (.bool z) j pos) (.bl z) := peI pe_bl fun st H Q ⟨Hf, S, k⟩ => k _ Hf H (.refl S.sub) (.bl z)
theorem ee_str {z : Str} {j pos} : EE X G dl (.Constant (.str z) j pos) (.str z) := peI pe_str fun st H Q ⟨Hf, S, k⟩ => k _ Hf H (.refl S.sub) (.str z)
/-! ### two places -/
/-- a two-place operation on data -/
def R2D (K : PySem.W.Frag) (r : R2) (d1 d2 d : Dt) : Prop := ∀ v w Hf H Q, Same Hf H → Rep K Hf v d1 → Rep K Hf w d2 → (∀ u Hf' H', Grow Hf H Hf' H' → Rep K Hf' u d → Q u H') → r v w H Q
theorem tOp_D {r : R2} (h : R2D X.K r d1 d2 d) : ∀ st H Q, tD X.K G dl d st H Q → tOp r (tD X.K G dl d1) (tD X.K G dl d2) st H Q := fun st H Q ⟨Hf, S, k⟩ =>
  ⟨Hf, S, fun v Hf1 H1 g1 r1 => ⟨Hf1, S.grow g1, fun w Hf2 H2 g2 r2 => h v w Hf2 H2 Q g2.sub (r1.mono g2.frz) r2 fun u Hf3 H3 g3 r3 => k u Hf3 H3 ((g1.trans g2).trans g3) r3⟩⟩
theorem ee_op {op : Operator} {r : R2} (ho : OpR X (binaryOp op) r) (h : R2D X.K r d1 d2 d) (ha : EE X G dl a d1) (hb : EE X G dl b d2) : EE X G dl (.BinOp a op b pos) d := peI (pe_op ho ha hb) (tOp_D h)
theorem ee_cmp {op : CmpOp} {r : R2} (ho : OpR X (compareOp op) r) (h : R2D X.K r d1 d2 d) (hm : behindInMarks op b = false) (ha : EE X G dl a d1) (hb : EE X G dl b d2) : EE X G dl (.Compare a [op] [b] pos) d := peI (pe_cmpR ho ha hb hm) (tOp_D h)
theorem eb_cmp {op : CmpOp} {r : R2} (ho : OpR X (compareOp op) r) (h : R2D X.K r d1 d2 (.bl u)) (hm : behindInMarks op b = false) (ha : EE X G dl a d1) (hb : EE X G dl b d2) : EB X G dl (.Compare a [op] [b] pos) u :=
  ptI (pt_cmpR ho ha hb hm) fun st H Q ⟨Hf, S, k⟩ => tOp_D h st H _ ⟨Hf, S, fun v Hf' H' g r => by cases r; exact ⟨u, rfl, k Hf' H' g⟩⟩
theorem r2_I0 {K : PySem.W.Frag} {g : Int → Int → V} {g' : Int → Int → Dt} (h : ∀ K H i j, Rep K H (g i j) (g' i j)) : R2D K (rI0 g) (.int i) (.int j) (g' i j) := fun v w Hf H Q s r1 r2 k => by
  cases r1; cases r2; exact ⟨i, j, rfl, rfl, k _ Hf H (.refl s) (h _ _ _ _)⟩
theorem r2_I {K : PySem.W.Frag} {C : Int → Int → Prop} {g : Int → Int → V} {g' : Int → Int → Dt} (h : ∀ K H i j, Rep K H (g i j) (g' i j)) (hc : C i j) : R2D K (rI C g) (.int i) (.int j) (g' i j) := fun v w Hf H Q s r1 r2 k => by
  cases r1; cases r2; exact ⟨i, j, rfl, rfl, hc, k _ Hf H (.refl s) (h _ _ _ _)⟩
theorem ee_add (ha : EE X G dl a (.int i)) (hb : EE X G dl b (.int j)) : EE X G dl (.BinOp a .Add b pos) (.int (i + j)) := ee_op op_add (r2_I0 (g' := fun i j => .int (i + j)) fun _ _ _ _ => .int _) ha hb
theorem ee_sub (ha : EE X G dl a (.int i)) (hb : EE X G dl b (.int j)) : EE X G dl (.BinOp a .Sub b pos) (.int (i - j)) := ee_op op_sub (r2_I0 (g' := fun i j => .int (i - j)) fun _ _ _ _ => .int _) ha hb
/-- a product: bits -/
theorem op_mulB : OpR X (binaryOp .Mult) (rI IntMulOk fun i j => .int (i * j)) := opI fun _ _ _ _ _ _ _ hc q => mul_int q hc
theorem ee_mul (ha : EE X G dl a (.int i)) (hb : EE X G dl b (.int j)) (hc : IntMulOk i j) : EE X G dl (.BinOp a .Mult b pos) (.int (i * j)) := ee_op op_mulB (r2_I (g' := fun i j => .int (i * j)) (fun _ _ _ _ => .int _) hc) ha hb
theorem op_fdivB : OpR X (binaryOp .FloorDiv) (rI (fun _ j => 0 < j ∧ j.natAbs.log2 < 9000) fun i j => .int (i / j)) := opI fun i j _ _ _ _ _ hc q => by
  refine floordiv_int (Int.ne_of_gt hc.1) ?_ (.inl (PyProof.noPylong_of_log2 hc.2))
  rw [Int.fdiv_eq_ediv_of_nonneg _ (Int.le_of_lt hc.1)]
  exact q
theorem ee_fdiv (ha : EE X G dl a (.int i)) (hb : EE X G dl b (.int j)) (hc : 0 < j ∧ j.natAbs.log2 < 9000) : EE X G dl (.BinOp a .FloorDiv b pos) (.int (i / j)) := ee_op op_fdivB (r2_I (g' := fun i j => .int (i / j)) (fun _ _ _ _ => .int _) hc) ha hb
theorem ee_mod (ha : EE X G dl a (.int i)) (hb : EE X G dl b (.int j)) (hc : 0 < j) : EE X G dl (.BinOp a .Mod b pos) (.int (i % j)) := ee_op op_mod (r2_I (g' := fun i j => .int (i % j)) (fun _ _ _ _ => .int _) hc) ha hb
theorem ee_pow (ha : EE X G dl a (.int i)) (hb : EE X G dl b (.int j)) (hc : CPow i j) : EE X G dl (.BinOp a .Pow b pos) (.int (i ^ j.toNat)) := ee_op op_pow (r2_I (g' := fun i j => .int (i ^ j.toNat)) (fun _ _ _ _ => .int _) hc) ha hb
theorem r2_cat {K : PySem.W.Frag} (h : x.length + y.length ≤ sizeLine) : R2D K (fun a b H Q => ∃ i j, a = .str i ∧ b = .str j ∧ i.length + j.length ≤ sizeLine ∧ Q (.str (i ++ j)) H) (.str x) (.str y) (.str (x ++ y)) := fun v w Hf H Q s r1 r2 k => by
  cases r1; cases r2; exact ⟨x, y, rfl, rfl, h, k _ Hf H (.refl s) (.str _)⟩
theorem ee_cat (ha : EE X G dl a (.str x)) (hb : EE X G dl b (.str y)) (h : x.length + y.length ≤ sizeLine) : EE X G dl (.BinOp a .Add b pos) (.str (x ++ y)) := ee_op op_add_str (r2_cat h) ha hb
theorem ee_neg (ha : EE X G dl a (.int i)) : EE X G dl (.UnaryOp .USub a pos) (.int (-i)) :=
  peI (pe_un un_neg ha) fun st H Q ⟨Hf, S, k⟩ => ⟨Hf, S, fun v Hf1 H1 g1 r1 => by cases r1; exact ⟨i, rfl, k _ Hf1 H1 g1 (.int _)⟩⟩

/-! ### comparisons -/
/-- a test is a truth that comes out -/
theorem eb_of (h : EE X G dl e (.bl u)) (he : ∀ whole, isTrue e X.env whole = (do let v ← whole; standAt e.pos; holding [v] (truthy v)) := by intro _; rfl) : EB X G dl e u :=
  ptI (pt_val h he) fun st H Q ⟨Hf, S, k⟩ => ⟨Hf, S, fun v Hf1 H1 g1 r1 => by cases r1; exact ⟨u, rfl, k Hf1 H1 g1⟩⟩
end
end Sg

namespace Sg
open PySem PySem.Spec PyProof.Rows L2
section
variable {X : Cx} {G : Gr} {E : XK} {dl dl1 dl2 : List Slot} {a b c e : Expr} {es : List Expr} {i j : Int} {d d1 d2 : Dt} {ds : List Dt} {pos : Pos} {o o' : Out} {x y : Str} {u v : Bool} {rest : List Expr} {sts sts' : List Stmt} {s : Stmt}

/-! ### and, or, not -/
theorem pe_nev : PE X e fun _ _ _ => False := fun _ _ _ _ _ _ h => h.elim
theorem pw_nev : PW X e fun _ _ _ => False := fun _ _ _ _ _ _ _ h => h.elim
abbrev EW (X : Cx) (G : Gr) (dl : List Slot) (e : Expr) (b : Bool) : Prop := PW X e (tDB X.K G dl b)
theorem pwI {e : Expr} {t t' : TT} (h : PW X e t) (i : ∀ st H Q, t' st H Q → t st H Q) : PW X e t' := fun wh pins s st H Q I q => h wh pins s st H Q I (i st H Q q)
theorem ew_or1 (ha : EB X G dl a u) : EW X G dl (.BoolOp .Or [a] pos) u := pw_or1 ha
theorem ew_or (ha : EB X G dl a u) (hb : u = false → EW X G dl (.BoolOp .Or (b :: rest) pos) v) : EW X G dl (.BoolOp .Or (a :: b :: rest) pos) (u || v) := by
  cases u with
  | false => exact pwI (pw_or ha (hb rfl)) fun st H Q ⟨Hf, S, k⟩ => ⟨Hf, S, fun Hf1 H1 g1 => iteF ⟨Hf1, S.grow g1, fun Hf2 H2 g2 => k Hf2 H2 (g1.trans g2)⟩⟩
  | true => exact pwI (pw_or ha pw_nev) fun st H Q ⟨Hf, S, k⟩ => ⟨Hf, S, fun Hf1 H1 g1 => iteT (k Hf1 H1 g1)⟩
theorem eb_w (h : EW X G dl e u) : EB X G dl e u := h.pt
theorem eb_not (ha : EB X G dl a u) : EB X G dl (.UnaryOp .Not a pos) (!u) := ptI (pt_not ha) fun st H Q ⟨Hf, S, k⟩ => ⟨Hf, S, fun Hf1 H1 g1 => k Hf1 H1 g1⟩
theorem ee_and1 (ha : EE X G dl a (.bl u)) : EE X G dl (.BoolOp .And [a] pos) (.bl u) := pe_one ha
theorem ee_and (ha : EE X G dl a (.bl u)) (hb : u = true → EE X G dl (.BoolOp .And (b :: rest) pos) (.bl v)) : EE X G dl (.BoolOp .And (a :: b :: rest) pos) (.bl (u && v)) := by
  cases u with
  | true => exact peI (pe_and ha (hb rfl)) fun st H Q ⟨Hf, S, k⟩ => ⟨Hf, S, fun w Hf1 H1 g1 r1 => by cases r1; exact ⟨true, rfl, iteT ⟨Hf1, S.grow g1, fun w Hf2 H2 g2 r2 => k w Hf2 H2 (g1.trans g2) r2⟩⟩⟩
  | false => exact peI (pe_and ha pe_nev) fun st H Q ⟨Hf, S, k⟩ => ⟨Hf, S, fun w Hf1 H1 g1 r1 => by cases r1; exact ⟨false, rfl, iteF (k _ Hf1 H1 g1 (.bl _))⟩⟩
theorem ee_not (ha : EE X G dl a (.bl u)) : EE X G dl (.UnaryOp .Not a pos) (.bl (!u)) := peI (pe_not ha) fun st H Q ⟨Hf, S, k⟩ => ⟨Hf, S, fun w Hf1 H1 g1 r1 => by cases r1; exact ⟨u, rfl, k _ Hf1 H1 g1 (.bl _)⟩⟩
theorem ee_to (h : EE X G dl e d) (q : d = d1) : EE X G dl e d1 := by subst q; exact h
theorem ee_ifE (hc : EB X G dl c u) (ha : u = true → EE X G dl a d) (hb : u = false → EE X G dl b d) : EE X G dl (.IfExp c a b pos) d := by
  cases u with
  | true => exact peI (pe_ifExp hc (ha rfl) pe_nev) fun st H Q ⟨Hf, S, k⟩ => ⟨Hf, S, fun Hf1 H1 g1 => iteT ⟨Hf1, S.grow g1, fun w Hf2 H2 g2 r2 => k w Hf2 H2 (g1.trans g2) r2⟩⟩
  | false => exact peI (pe_ifExp hc pe_nev (hb rfl)) fun st H Q ⟨Hf, S, k⟩ => ⟨Hf, S, fun Hf1 H1 g1 => iteF ⟨Hf1, S.grow g1, fun w Hf2 H2 g2 r2 => k w Hf2 H2 (g1.trans g2) r2⟩⟩

/-! ### argument lists, displays -/
theorem ea_nil : EA X G dl [] [] := paI pa_nil fun st H Q ⟨Hf, S, k⟩ => k [] Hf H (.refl S.sub) .nil
theorem ea_cons (ha : EE X G dl e d) (hr : EA X G dl es ds) (hs : starEach (e :: es) X.env = (false, eval e X.env) :: starEach es X.env := by rfl) : EA X G dl (e :: es) (d :: ds) :=
  paI (pa_cons ha hr hs) fun st H Q ⟨Hf, S, k⟩ => ⟨Hf, S, fun v Hf1 H1 g1 r1 => ⟨Hf1, S.grow g1, fun vs Hf2 H2 g2 r2 => k _ Hf2 H2 (g1.trans g2) (.cons (r1.mono g2.frz) r2)⟩⟩
theorem ee_tup {x1} (h : EA X G dl es ds) (hl : ds.length ≤ sizeLine := by decide) : EE X G dl (.Tuple es x1 pos) (.tup ds) :=
  peI (pe_tup h) fun st H Q ⟨Hf, S, k⟩ => ⟨Hf, S, fun vs Hf1 H1 g1 r1 => ⟨by rw [r1.length]; exact hl, fun p hp => k _ (upd Hf1 p (.tup vs)) _ (g1.trans (.alloc g1.sub hp)) (.tup (.of upd_same) (r1.mono (same_upd (g1.sub.free hp))))⟩⟩
theorem ee_lst (h : EA X G dl es ds) (hl : ds.length ≤ sizeLine := by decide) : EE X G dl (.List es pos) (.lst ds) :=
  peI (pe_lst h) fun st H Q ⟨Hf, S, k⟩ => ⟨Hf, S, fun vs Hf1 H1 g1 r1 => ⟨by rw [r1.length]; exact hl, fun p hp => k _ (upd Hf1 p (.lst vs)) _ (g1.trans (.alloc g1.sub hp)) (.lst upd_same (r1.mono (same_upd (g1.sub.free hp))))⟩⟩

/-! ### places -/
theorem Reps.atI {K : PySem.W.Frag} {H : Hp} {vs : List V} {ds : List Dt} {i : Int} {d : Dt} (r : Reps K H vs ds) (h : L2.atI ds i = some d) : ∃ v, L2.atI vs i = some v ∧ Rep K H v d := by
  unfold L2.atI at h ⊢
  rw [r.length]
  cases q : ixN ds.length i with
  | none => rw [q] at h; cases h
  | some n =>
    rw [q] at h
    exact r.get h
theorem ee_ixT (ha : EE X G dl a (.tup ds)) (hb : EE X G dl b (.int i)) (h : atI ds i = some d) (hs : PlainIx b := by intro _ _; rfl) : EE X G dl (.Subscript a b pos) d :=
  peI (pe_ix ix_tup ha hb hs) (tOp_D fun v w Hf H Q s r1 r2 k => by
    cases r1 with
    | tup q r =>
      cases r2
      obtain ⟨v, h1, h2⟩ := r.atI h
      exact ⟨_, _, i, v, rfl, rfl, SqT_same s q, h1, k v Hf H (.refl s) h2⟩)
theorem ee_ixL (ha : EE X G dl a (.lst ds)) (hb : EE X G dl b (.int i)) (h : atI ds i = some d) (hs : PlainIx b := by intro _ _; rfl) : EE X G dl (.Subscript a b pos) d :=
  peI (pe_ix ix_list ha hb hs) (tOp_D fun v w Hf H Q s r1 r2 k => by
    cases r1 with
    | lst q r =>
      cases r2
      obtain ⟨v, h1, h2⟩ := r.atI h
      exact ⟨_, _, i, v, rfl, rfl, .of (s _ _ q), h1, k v Hf H (.refl s) h2⟩)
theorem ee_ixC {ns : List Int} {z : Int} (ha : EE X G dl a (.scr ns)) (hb : EE X G dl b (.int i)) (h : atI ns i = some z) (hs : PlainIx b := by intro _ _; rfl) : EE X G dl (.Subscript a b pos) (.int z) :=
  peI (pe_ix ix_list ha hb hs) (tOp_D fun v w Hf H Q s r1 r2 k => by
    cases r1 with
    | scr q =>
      cases r2
      have h' : L2.atI (ns.map V.int) i = some (.int z) := by
        unfold L2.atI at h ⊢
        rw [List.length_map]
        cases q2 : ixN ns.length i with
        | none => rw [q2] at h; cases h
        | some n =>
          rw [q2] at h
          show (ns.map V.int)[n]? = _
          rw [List.getElem?_map, show ns[n]? = some z from h]; rfl
      exact ⟨_, _, i, _, rfl, rfl, s.seq q, h', k _ Hf H (.refl s) (.int z)⟩)
/-! ### statements -/
theorem es_nil : ESs X G E dl [] (.nx dl) := pssI pss_nil fun D st H ⟨Hf, S, k⟩ => k st Hf H (Same.refl _) S
theorem es_cons (h1 : ES X G E dl s (.nx dl1)) (h2 : ESs X G E dl1 sts o) : ESs X G E dl (s :: sts) o :=
  pssI (pss_cons h1 h2) fun D st H ⟨Hf, S, k⟩ => ⟨Hf, S, fun st' Hf' H' s' S' => ⟨Hf', S', k.mono s'⟩⟩
theorem es_one (h1 : ES X G E dl s o) : ESs X G E dl [s] o := pss_one h1
theorem OutK.stop {K : PySem.W.Frag} {D D' : Ends} {Hf : Hp} (h : ∀ dl, o ≠ .nx dl) (hr : D'.rt = D.rt) (hb : D'.bk = D.bk) (hc : D'.ct = D.ct) (k : OutK K G E D Hf o) : OutK K G E D' Hf o := by
  cases o with
  | nx dl => exact absurd rfl (h dl)
  | rt d => show ∀ v Hf H, _ → _ → D'.rt v H; rw [hr]; exact k
  | ro d => show ∀ v Hf H, _ → _ → _ → _ → D'.rt _ H; rw [hr]; exact k
  | bk d => show ∀ v Hf H, _ → _ → D'.bk v H; rw [hb]; exact k
  | ct d => show ∀ v Hf H, _ → _ → D'.ct v H; rw [hc]; exact k
  | ex c fs => exact k
/-- a statement that does not go on -/
theorem es_stop (h1 : ES X G E dl s o) (h : ∀ dl, o ≠ .nx dl := by intro _ z; cases z) : ESs X G E dl (s :: sts) o :=
  pssI (pss_cons h1 (pss_never (sts := sts))) fun D st H ⟨Hf, S, k⟩ => ⟨Hf, S, OutK.stop (D := D) h rfl rfl rfl k⟩
theorem es_if (hc : EB X G dl c u) (h1 : u = true → ESs X G E dl sts o) (h2 : u = false → ESs X G E dl sts' o) : ES X G E dl (.If c sts sts' pos) o := by
  cases u with
  | true => exact psI (ps_if hc (h1 rfl) (pss_never (sts := sts'))) fun D st H ⟨Hf, S, k⟩ => ⟨Hf, S, fun Hf1 H1 g1 => iteT ⟨Hf1, S.grow g1, k.mono g1.frz⟩⟩
  | false => exact psI (ps_if hc (pss_never (sts := sts)) (h2 rfl)) fun D st H ⟨Hf, S, k⟩ => ⟨Hf, S, fun Hf1 H1 g1 => iteF ⟨Hf1, S.grow g1, k.mono g1.frz⟩⟩
theorem es_ret (h : EE X G dl e d) : ES X G E dl (.Return (some e) pos) (.rt d) := psI (ps_ret h) fun D st H ⟨Hf, S, k⟩ => ⟨Hf, S, fun v Hf1 H1 g1 r1 => k v Hf1 H1 (S.gr.trans g1) r1⟩
theorem es_expr (h : EE X G dl e d) (hs : swapsWith e none pos.line X.env = pure false := by rfl) : ES X G E dl (.Expr e pos) (.nx dl) :=
  psI (ps_expr h hs) fun D st H ⟨Hf, S, k⟩ => ⟨Hf, S, fun v Hf1 H1 g1 r1 => k st Hf1 H1 g1.frz (S.grow g1)⟩
theorem es_set (n : Nat) {x : Str} {pos' : Pos} (hN : X.N.Nodup) (he : EE X G dl e d) (hi : X.N[n]? = some x := by rfl) (hx : Loc X.env.scope x := by first | exact Or.inl rfl | exact Or.inr rfl)
    (hs : swapsWith e (some (.Name x pos')) pos.line X.env = pure false := by rfl) (hf : X.fn x = true ∨ X.env.scope.names.lookup x = some .local := by first | exact .inl rfl | exact .inr rfl | assumption) :
    ES X G E dl (.Assign [.Name x pos'] e pos) (.nx (dl.set n (.val d))) :=
  psI (ps_set hN hi hx he hs hf) fun D st H ⟨Hf, S, k⟩ => ⟨Hf, S, fun v Hf1 H1 g1 r1 => k _ Hf1 H1 g1.frz ((S.grow g1).set r1)⟩

/-! ### for over a range: the turns' states S, m turns that go on; then the end, or a turn that leaves -/
/-- what ends a loop of n turns behind m of them -/
inductive Ends1 (X : Cx) (G : Gr) (E : XK) (body : List Stmt) (S : Nat → List Slot) (pre : Nat → List Slot) (n m : Nat) : Out → Prop
  | all (h : m = n) : Ends1 X G E body S pre n m (.nx (S n))
  | rt {d : Dt} (h : m < n) (hb : ESs X G E (pre m) body (.rt d)) : Ends1 X G E body S pre n m (.rt d)
  | ro {d : Own} (h : m < n) (hb : ESs X G E (pre m) body (.ro d)) : Ends1 X G E body S pre n m (.ro d)
  | bk {dl' : List Slot} (h : m < n) (hb : ESs X G E (pre m) body (.bk dl')) : Ends1 X G E body S pre n m (.nx dl')
  | ex {c : Value} {fs : List (Str × Dt)} (h : m < n) (hb : ESs X G E (pre m) body (.ex c fs)) : Ends1 X G E body S pre n m (.ex c fs)
/-- a turn that goes on -/
inductive Goes (X : Cx) (G : Gr) (E : XK) (body : List Stmt) (pre post : List Slot) : Prop
  | nx {dl' : List Slot} (hb : ESs X G E pre body (.nx dl')) (l : Le post dl')
  | ct {dl' : List Slot} (hb : ESs X G E pre body (.ct dl')) (l : Le post dl')
/-- the body's reading in a loop -/
def tTurn (X : Cx) (G : Gr) (E : XK) (body : List Stmt) : TS := fun D st H => ∃ pre o, ESs X G E pre body o ∧ tO X.K G E pre o D st H
theorem pss_turn {body : List Stmt} : PSs X body (tTurn X G E body) := fun pins s st H D J ⟨pre, o, h, q⟩ => h pins s st H D J q
theorem turn_goes {body : List Stmt} {pre post : List Slot} {D : Ends} {st : L2.St} {Hf H : Hp} (g : Goes X G E body pre post) (S : Stt X.K G st Hf H pre) (hn : ∀ st Hf' H, Same Hf Hf' → Stt X.K G st Hf' H post → D.nx st H) (hc : ∀ st Hf' H, Same Hf Hf' → Stt X.K G st Hf' H post → D.ct st H) :
    tTurn X G E body D st H := by
  cases g with
  | nx hb l => exact ⟨_, _, hb, Hf, S, fun st' Hf' H' s' S' => hn st' Hf' H' s' (S'.weak l)⟩
  | ct hb l => exact ⟨_, _, hb, Hf, S, fun st' Hf' H' s' S' => hc st' Hf' H' s' (S'.weak l)⟩
theorem turn_ends {body : List Stmt} {S pre : Nat → List Slot} {n m : Nat} {D D' : Ends} {st : L2.St} {Hf H : Hp} (e : Ends1 X G E body S pre n m o) (hm : m < n) (S' : Stt X.K G st Hf H (pre m)) (k : OutK X.K G E D Hf o) (hr : D'.rt = D.rt) (hb' : D'.bk = D.nx) :
    tTurn X G E body D' st H := by
  cases e with
  | all h => omega
  | rt h hb => exact ⟨_, _, hb, Hf, S', by show ∀ v Hf H, _ → _ → D'.rt v H; rw [hr]; exact k⟩
  | ro h hb => exact ⟨_, _, hb, Hf, S', by show ∀ v Hf H, _ → _ → _ → _ → D'.rt _ H; rw [hr]; exact k⟩
  | bk h hb => exact ⟨_, _, hb, Hf, S', by show ∀ v Hf H, _ → _ → D'.bk v H; rw [hb']; exact k⟩
  | ex h hb => exact ⟨_, _, hb, Hf, S', k⟩
theorem es_range (nN : Nat) {x : Str} {px : Pos} {body : List Stmt} {lo : Int} {n m : Nat} (S : Nat → List Slot) (hN : X.N.Nodup) (hcalm : X.calm = true) (hp : PassesOwn (model X.prog X.w) X.A X.env X.xe)
    {wi : TI} {iter : Expr} (hI : PI X (.Name x px) iter wi) (hw : ∀ st Hf H R, Stt X.K G st Hf H dl → (∀ Hf' H', Grow Hf H Hf' H' → R (Itr lo n) H') → wi st H R)
    (h0 : Le (S 0) dl) (hmn : m ≤ n) (hb : ∀ k, k < m → Goes X G E body ((S k).set nN (.val (.int (lo + k)))) (S (k + 1))) (he : Ends1 X G E body S (fun k => (S k).set nN (.val (.int (lo + k)))) n m o)
    (hi : X.N[nN]? = some x := by rfl) (hx : Loc X.env.scope x := by first | exact Or.inl rfl | exact Or.inr rfl) (hf : X.fn x = true ∨ X.env.scope.names.lookup x = some .local := by first | exact .inl rfl | exact .inr rfl | assumption)
    (hs : ∀ x, foldedSetIterable iter X.env x = pure x := by intro _; rfl) : ES X G E dl (.For (.Name x px) iter body [] pos) o := by
  refine psI (ps_for hp hcalm hI (pg_name hN hi hx hf) (pss_turn (G := G) (E := E)) hs) fun D st H ⟨Hf, S0, k⟩ => hw st Hf H _ S0 fun Hf' H' g => ?_
  refine for_range (lo := lo) (n := n) (fun j st H => j ≤ m ∧ ∃ Hf1, Same Hf Hf1 ∧ Stt X.K G st Hf1 H (S j)) ⟨Nat.zero_le _, Hf', g.frz, (S0.grow g).weak h0⟩ (fun j st H hj ⟨hjm, Hf1, s1, Sj⟩ => ?_) (fun st H ⟨hnm, Hf1, s1, Sn⟩ => ?_)
  · have Sp : Stt X.K G (st.set nN (some (.int (lo + j)))) Hf1 H ((S j).set nN (.val (.int (lo + j)))) := Sj.set (.int _)
    by_cases hlt : j < m
    · exact turn_goes (hb j hlt) Sp (fun st Hf2 H s2 S' => ⟨hlt, Hf2, s1.trans s2, S'⟩) (fun st Hf2 H s2 S' => ⟨hlt, Hf2, s1.trans s2, S'⟩)
    · have e : j = m := by omega
      subst e
      exact turn_ends he hj Sp (k.mono s1) rfl rfl
  · have e : m = n := by omega
    subst e
    cases he with
    | all _ => exact k st Hf1 H s1 Sn
    | rt h _ => omega
    | ro h _ => omega
    | bk h _ => omega
    | ex h _ => omega
/-- for x in range(a) -/
theorem es_range1 (nN : Nat) {x : Str} {p px pc : Pos} {body : List Stmt} {n : Int} {m : Nat} (S : Nat → List Slot) (hN : X.N.Nodup) (hcalm : X.calm = true) (hp : PassesOwn (model X.prog X.w) X.A X.env X.xe) (hm0 : X.mg "range" = none)
    (ha : EA X G dl [a] [.int n]) (hn : -(2 ^ 62) ≤ n ∧ n < 2 ^ 62) (h0 : Le (S 0) dl) (hmn : m ≤ n.toNat) (hb : ∀ k : Nat, k < m → Goes X G E body ((S k).set nN (.val (.int k))) (S (k + 1)))
    (he : Ends1 X G E body S (fun k => (S k).set nN (.val (.int k))) n.toNat m o)
    (hg : Gl X "range" := by rfl) (hi : X.N[nN]? = some x := by rfl) (hx : Loc X.env.scope x := by first | exact Or.inl rfl | exact Or.inr rfl) (hf : X.fn x = true ∨ X.env.scope.names.lookup x = some .local := by first | exact .inl rfl | exact .inr rfl | assumption)
    (hs1 : starEach [a] X.env = [(false, eval a X.env)] := by rfl)
    (hs : ∀ z, foldedSetIterable (.Call (.Name "range" p) [a] [] pc) X.env z = pure z := by intro _; rfl) : ES X G E dl (.For (.Name x px) (.Call (.Name "range" p) [a] [] pc) body [] pos) o := by
  have ez : ∀ k : Nat, (0 : Int) + k = k := fun k => Int.zero_add _
  have eS : (fun k : Nat => (S k).set nN (.val (.int ((0 : Int) + k)))) = fun k : Nat => (S k).set nN (.val (.int k)) := by funext k; rw [ez]
  refine es_range nN (lo := 0) (n := n.toNat) (m := m) S hN hcalm hp (pi_range1 hg hm0 ha hs1) (fun st Hf H R S0 h => ⟨Hf, S0, fun vs Hf1 H1 g1 r1 => ?_⟩) h0 hmn (fun k hk => by rw [ez]; exact hb k hk) (by rw [eS]; exact he) hi hx hf hs
  cases r1 with
  | cons r t => cases t; cases r; exact ⟨n, rfl, hn.1, hn.2, h Hf1 H1 g1⟩

/-! ### for over a list or tuple -/
theorem es_list (nN : Nat) {x : Str} {px : Pos} {iter : Expr} {body : List Stmt} {xs : List Dt} {m : Nat} (S : Nat → List Slot) (hN : X.N.Nodup) (hcalm : X.calm = true) (hp : PassesOwn (model X.prog X.w) X.A X.env X.xe)
    (hl : EE X G dl iter (.lst xs)) (h0 : Le (S 0) dl) (hmn : m ≤ xs.length) (hb : ∀ (k : Nat) (z : Dt), k < m → xs[k]? = some z → Goes X G E body ((S k).set nN (.val z)) (S (k + 1)))
    (he : Ends1 X G E body S (fun k => (S k).set nN (.val (xs.getD k .non))) xs.length m o)
    (hi : X.N[nN]? = some x := by rfl) (hx : Loc X.env.scope x := by first | exact Or.inl rfl | exact Or.inr rfl) (hf : X.fn x = true ∨ X.env.scope.names.lookup x = some .local := by first | exact .inl rfl | exact .inr rfl | assumption)
    (hs : ∀ z, foldedSetIterable iter X.env z = pure z := by intro _; rfl) : ES X G E dl (.For (.Name x px) iter body [] pos) o := by
  refine psI (ps_for hp hcalm (pi_list hl) (pg_name hN hi hx hf) (pss_turn (G := G) (E := E)) hs) fun D st H ⟨Hf, S0, k⟩ => ⟨Hf, S0, fun v Hf' H' g r => ?_⟩
  cases r with
  | @lst a vs _ q r =>
    have hlen := r.length
    refine ⟨a, rfl, ⟨vs, .of (g.sub _ _ q)⟩, for_list (xs := vs) (fun j st H => j ≤ m ∧ ∃ Hf1, Same Hf' Hf1 ∧ Stt X.K G st Hf1 H (S j)) ⟨Nat.zero_le _, Hf', Same.refl _, (S0.grow g).weak h0⟩ ?_ ?_ ?_⟩
    · rintro j st H _ ⟨_, Hf1, s1, Sj⟩
      exact .of (Sj.sub _ _ (s1 _ _ q))
    · rintro j v st H hv ⟨hjm, Hf1, s1, Sj⟩
      obtain ⟨z, hz, rz⟩ := r.get' hv
      have hj : j < xs.length := (List.getElem?_eq_some_iff.mp hz).1
      have Sp : Stt X.K G (st.set nN (some v)) Hf1 H ((S j).set nN (.val z)) := Sj.set (rz.mono s1)
      by_cases hlt : j < m
      · exact turn_goes (hb j z hlt hz) Sp (fun st Hf2 H s2 S' => ⟨hlt, Hf2, s1.trans s2, S'⟩) (fun st Hf2 H s2 S' => ⟨hlt, Hf2, s1.trans s2, S'⟩)
      · have e : j = m := by omega
        subst e
        have ez : xs.getD j .non = z := by rw [List.getD_eq_getElem?_getD, hz]; rfl
        exact turn_ends he hj (by show Stt _ _ _ _ _ ((S j).set nN (.val (xs.getD j .non))); rw [ez]; exact Sp) (k.mono (g.frz.trans s1)) rfl rfl
    · rintro st H ⟨hnm, Hf1, s1, Sn⟩
      have e : m = xs.length := by omega
      subst e
      rw [hlen] at Sn
      cases he with
      | all _ => exact k st Hf1 H (g.frz.trans s1) Sn
      | rt h _ => omega
      | ro h _ => omega
      | bk h _ => omega
      | ex h _ => omega

/-! ### defs -/
inductive Res where
  | ret (d : Dt)
  | own (w : Own)
  | exc (c : Value) (fs : List (Str × Dt))
def ResK (K : PySem.W.Frag) (Hf H : Hp) (Q : VK) (E : XK) : Res → Prop
  | .ret d => ∀ v Hf' H', Grow Hf H Hf' H' → Rep K Hf' v d → Q v H'
  | .own w => ∀ p Hf' H', Grow Hf H Hf' H' → H p = none → Hf' p = none → OwnAt K Hf' H' p w → Q (.ref p) H'
  | .exc c fs => ∀ od Hf' H', Grow Hf H Hf' H' → ExcAt K Hf' od fs → E c od H'
/-- a def's promise by a relation of the arguments' data and what comes -/
def spR (K : PySem.W.Frag) (n : Nat) (R : List Dt → Res → Prop) : Sp := fun vs H Q E => ∃ Hf ds r, Same Hf H ∧ Reps K Hf vs ds ∧ ds.length = n ∧ R ds r ∧ ResK K Hf H Q E r
/-- no exception: nothing lies behind -/
def NoX (CX : CXT) : Prop := ∀ outer H s e s', CX outer H s E0 e s' → False
theorem nox0 : NoX CX0 := fun _ _ _ _ _ h => h
theorem NoX.passes {CX : CXT} (n : NoX CX) : Passes CX X E0 := fun _ _ _ _ _ _ _ h => (n _ _ _ _ _ h).elim
def slots (N : List Str) (ds : List Dt) : List Slot := ds.map Slot.val ++ List.replicate (N.length - ds.length) .unk
theorem stt_start {K : PySem.W.Frag} {N : List Str} {Hf H : Hp} {vs : List V} {ds : List Dt} (s : Same Hf H) (r : Reps K Hf vs ds) : Stt K ⟨Hf, H⟩ (start N vs) Hf H (slots N ds) := by
  have hl := r.length
  have nown : ∀ (i : Nat) o, (slots N ds)[i]? ≠ some (.own o) := fun i o h => by
    unfold slots at h
    by_cases hi : i < ds.length
    · rw [List.getElem?_append_left (by simpa using hi), List.getElem?_map] at h
      cases e : ds[i]? with
      | none => rw [e] at h; cases h
      | some a => rw [e] at h; cases h
    · rw [List.getElem?_append_right (by simpa using hi), List.getElem?_replicate] at h
      split at h <;> cases h
  refine ⟨.refl s, ?_, fun i d h => ?_, fun i o h => absurd h (nown i o), fun i j o o' a h => absurd h (nown i o)⟩
  · unfold L2.start slots
    simp [hl]
  · unfold slots at h
    by_cases hi : i < ds.length
    · rw [List.getElem?_append_left (by simpa using hi), List.getElem?_map] at h
      cases e : ds[i]? with
      | none => rw [e] at h; cases h
      | some a =>
        rw [e] at h; cases h
        obtain ⟨v, h1, h2⟩ := r.get e
        refine ⟨v, ?_, h2⟩
        unfold L2.start
        rw [List.getElem?_append_left (by simp; omega), List.getElem?_map, h1]; rfl
    · rw [List.getElem?_append_right (by simpa using hi), List.getElem?_replicate] at h
      split at h <;> cases h
/-- a body's end as a def's -/
inductive Comes : Out → Res → Prop
  | rt (d : Dt) : Comes (.rt d) (.ret d)
  | ro (d : Own) : Comes (.ro d) (.own d)
  | nx (dl : List Slot) : Comes (.nx dl) (.ret .non)
  | ex (c : Value) (fs : List (Str × Dt)) : Comes (.ex c fs) (.exc c fs)
theorem Comes.ends {K : PySem.W.Frag} {Hf H : Hp} {Q : VK} {o : Out} {r : Res} (h : Comes o r) (k : ResK K Hf H Q E r) : OutK K ⟨Hf, H⟩ E { nx := fun _ H' => Q .non H', rt := Q } Hf o := by
  cases h with
  | rt d => exact k
  | ro d => exact k
  | nx dl => exact fun st Hf' H' s' S => k _ Hf' H' S.gr .non
  | ex c fs => exact k
/-- THE RULE for a def -/
theorem fnR {P : Program} {w : World} {K : PySem.W.Frag} {mg : Str → Option Value} {base : Heap} {CX : CXT} {x qual : Str} {st : Stmt} {f : Addr} {fd : FuncData} {N ps : List Str} {k n : Nat} {R : List Dt → Res → Prop} (F : Fun K x qual st f fd) (S : FnScope N ps (defScope st)) (hn : ps.length = n)
    (hbody : ∀ (cdv : Value) (A : Around) (outer : List Env) (s : Shared) (H : Hp) (E : XK) (G : Gr) (ds : List Dt) (r : Res), Room k (A.deeper (envOfC qual (defScope st) s.heap.objs.size f cdv)) → ds.length = n → R ds r →
      ∃ o, Comes o r ∧ ESs (cxOf CX P w K mg base N qual (defScope st) f cdv A outer s H E) G E (slots N ds) (defBody st) o) : FnOk P w K mg base CX (k + 1) f fd ps (spR K n R) := by
  obtain ⟨oc, od, kV, doc, pm, an, cdv, ct, osl, rfl, lk, hcd⟩ := F.ex
  refine fn_of lk hcd S (fun vs H Q E ⟨Hf, ds, r, s, rp, hl, _⟩ => by rw [rp.length, hl, hn]) fun A outer s H vs Q E hr ⟨Hf, ds, r, sm, rp, hl, hR, hk⟩ => ?_
  obtain ⟨o, hc, hb⟩ := hbody cdv A outer s H E ⟨Hf, H⟩ ds r hr hl hR
  exact ⟨_, hb, Hf, stt_start sm rp, hc.ends hk⟩

/-! ### calls -/
section
variable {CX : CXT} {k n : Nat} {f C : Addr} {fd : FuncData} {ps : List Str} {R : List Dt → Res → Prop} {m : Str} {p apos : Pos} {ob : Expr} {dvs : List Dt} {vds : List V} {dsv : List Value} {fs : List (Str × Dt)}
theorem ee_call (F : FnOk X.prog X.w X.K X.mg X.base CX k f fd ps (spR X.K n R)) (nx : NoX CX) (hr : Room k X.A) (hm : X.mg x = some (.ref f)) (hk : PySem.W.keepIn X.K (.ref f) = true) (hb : Binds X.K fd ps dsv) (hd : Vals vds dsv) (hdd : ∀ H, Reps X.K H vds dvs)
    (ha : EA X G dl (e :: es) ds) (hl : (ds ++ dvs).length = n) (h : R (ds ++ dvs) (.ret d)) (hg : Gl X x := by rfl) (hdb : (x == ("__debug__" : Str)) = false := by decide)
    (he : starEach (e :: es) X.env = (false, eval e X.env) :: starEach es X.env := by rfl) (hpl : (backTo pos (starEach es X.env)).any (·.1) = false := by rfl) : EE X G dl (.Call (.Name x p) (e :: es) [] pos) d :=
  peI (pe_call (E := E0) F hr hg hm hk hb hd nx.passes ha hdb he hpl) fun st H Q ⟨Hf, S, k⟩ => ⟨Hf, S, fun vs Hf1 H1 g1 r1 => ⟨Hf1, ds ++ dvs, .ret d, g1.sub, r1.append (hdd _), hl, h, fun v Hf2 H2 g2 r2 => k v Hf2 H2 (g1.trans g2) r2⟩⟩
theorem ee_meth {pl : Sem Bool} (he : EE X G dl ob (.obj C fs)) (c : Cls X.K C) (hm : Meth X.K C m f) (F : FnOk X.prog X.w X.K X.mg X.base CX k f fd ps (spR X.K n R)) (nx : NoX CX) (hr : Room k X.A) (hb : Binds X.K fd ps dsv) (hd : Vals vds dsv) (hdd : ∀ H, Reps X.K H vds dvs)
    (ha : EA X G dl (e :: es) ds) (hl : (.obj C fs :: (ds ++ dvs)).length = n) (h : R (.obj C fs :: (ds ++ dvs)) (.ret d)) (hno : fs.lookup m = none)
    (hst : starEach (e :: es) X.env = (false, eval e X.env) :: starEach es X.env := by rfl) (hpl : (backTo pos (starEach es X.env)).any (·.1) = false := by rfl)
    (ht : eval (.Call (.Attribute ob m apos) (e :: es) [] pos) X.env = (do
      let ov ← eval ob X.env
      standAt apos.atName
      let (f, first) ← holding [ov] (getMethod ov m pl)
      callWith pos f first (backTo pos (starEach (e :: es) X.env)) (backToKw pos (keywordEach [] X.env))) := by rfl) : EE X G dl (.Call (.Attribute ob m apos) (e :: es) [] pos) d :=
  peI (pe_meth (pl := pl) (E := E0) he c hm F hr hb hd nx.passes ha hst hpl ht) fun st H Q ⟨Hf, S, k⟩ => ⟨Hf, S, fun v Hf1 H1 g1 r1 => by
    cases r1 with
    | @obj a _ dx fv _ q r =>
      exact ⟨a, dx, fv, rfl, g1.sub _ _ q, r.none_of hno, Hf1, S.grow g1, fun vs Hf2 H2 g2 r2 => ⟨Hf2, _, .ret d, g2.sub, .cons (.obj (g2.frz _ _ q) (r.mono g2.frz)) (r2.append (hdd _)), hl, h, fun v Hf3 H3 g3 r3 => k v Hf3 H3 ((g1.trans g2).trans g3) r3⟩⟩⟩
theorem ee_meth0 {pl : Sem Bool} (he : EE X G dl ob (.obj C fs)) (c : Cls X.K C) (hm : Meth X.K C m f) (F : FnOk X.prog X.w X.K X.mg X.base CX k f fd ps (spR X.K n R)) (nx : NoX CX) (hr : Room k X.A) (hb : Binds X.K fd ps dsv) (hd : Vals vds dsv) (hdd : ∀ H, Reps X.K H vds dvs)
    (hl : (Dt.obj C fs :: dvs).length = n) (h : R (.obj C fs :: dvs) (.ret d)) (hno : fs.lookup m = none)
    (ht : eval (.Call (.Attribute ob m apos) [] [] pos) X.env = (do
      let ov ← eval ob X.env
      standAt apos.atName
      let (f, first) ← holding [ov] (getMethod ov m pl)
      callWith pos f first (backTo pos (starEach [] X.env)) (backToKw pos (keywordEach [] X.env))) := by rfl) : EE X G dl (.Call (.Attribute ob m apos) [] [] pos) d :=
  peI (pe_meth0 (pl := pl) (E := E0) he c hm F hr hb hd nx.passes ht) fun st H Q ⟨Hf, S, k⟩ => ⟨Hf, S, fun v Hf1 H1 g1 r1 => by
    cases r1 with
    | @obj a _ dx fv _ q r =>
      exact ⟨a, dx, fv, rfl, g1.sub _ _ q, r.none_of hno, Hf1, _, .ret d, g1.sub, .cons (.obj q r) (hdd _), hl, h, fun v Hf3 H3 g3 r3 => k v Hf3 H3 (g1.trans g3) r3⟩⟩
end
end
end Sg

namespace Sg
open PySem PySem.Spec PyProof.Rows L2
section
variable {X : Cx} {G : Gr} {E : XK} {dl dl1 dl2 : List Slot} {a b c e : Expr} {es : List Expr} {i j : Int} {d d1 d2 : Dt} {ds : List Dt} {pos p p' : Pos} {o o' : Out} {x y f : Str} {u v : Bool} {rest : List Expr} {sts sts' : List Stmt} {s : Stmt} {C : Addr} {fs : List (Str × Dt)}

/-! ### names of the built-ins and of the module -/
theorem ee_ty {T : String} (hm : X.mg x = none) (hv : bootBuiltins x = some (.type T)) (hg : Gl X x := by rfl) (hn : x ≠ "__name__" := by decide) (hd : (x == ("__debug__" : Str)) = false := by decide) : EE X G dl (.Name x pos) (.ty T) :=
  peI (pe_bltn (v := .ty T) hg hm hv rfl hn hd) fun st H Q ⟨Hf, S, k⟩ => k _ Hf H (.refl S.sub) (.ty T)
theorem ee_cls (hm : X.mg x = some (.ref C)) (hg : Gl X x := by rfl) (hd : (x == ("__debug__" : Str)) = false := by decide) : EE X G dl (.Name x pos) (.cls C) :=
  peI (pe_glob (v := .ref C) hg hm rfl hd) fun st H Q ⟨Hf, S, k⟩ => k _ Hf H (.refl S.sub) (.cls C)
/-- a constant of the module -/
theorem ee_glob {w : V} {z : Value} (hm : X.mg x = some z) (r : RelV w z) (hr : ∀ H, Rep X.K H w d) (hg : Gl X x := by rfl) (hd : (x == ("__debug__" : Str)) = false := by decide) : EE X G dl (.Name x pos) d :=
  peI (pe_glob hg hm r hd) fun st H Q ⟨Hf, S, k⟩ => k _ Hf H (.refl S.sub) (hr _)

theorem boot_list : bootBuiltins "list" = some (.type "list") := by decide +kernel
theorem boot_ValueError : bootBuiltins "ValueError" = some (.type "ValueError") := by decide +kernel
/-! ### C() without an __init__ of its own -/
structure Mk0 (K : PySem.W.Frag) (C : Addr) : Prop where
  makes : PySem.W.makesIn K C = true
  init : PySem.W.findIn K (.ref C) "__init__" = some (some (.builtin "object.__init__"))
  kp : PySem.W.keepIn K (.ref C) = true
theorem run_make0 {pins : List (Addr × Obj)} {st : L2.St} {H : Hp} {s : Shared} {Q : VK} (M : Mk0 X.K C) (I : L2.Inv X pins st H s) (h : ∀ x dx, H x = none → H dx = none → dx ≠ x → Q (.ref x) (upd (upd H dx (.own x)) x (.ins C dx []))) :
    wpAny (model X.prog X.w) X.A (call (.ref C) []) (EP X pins st Q) X.xe s := by
  have hq := h (s.heap.objs.size + 1) s.heap.objs.size (I.hok.fresh (Nat.le_succ _)) (I.hok.fresh (Nat.le_refl _)) (Nat.ne_of_lt (Nat.lt_succ_self _))
  have I2 := L2.Inv.made (C := C) I
  refine wpAny_call (make_map0 (s := s) I.kIn M.makes M.init (fun self => PySem.W.Looks.of_pure (PySem.W.oi_bind self)) ?_)
  obtain ⟨hh, g, d, t, os⟩ := s
  have Y := PySem.W.makes_of (M := model X.prog X.w) I.kIn M.makes
  have t1 : PySem.W.Looks (model X.prog X.w) ((hh.push PySem.W.emptyDict).push (PySem.W.instObj C hh.objs.size)) (typeOf (.ref (hh.objs.size + 1))) (.ref C) := by
    have e2 := Heap.get?_push_size (hh.push PySem.W.emptyDict) (o := PySem.W.instObj C hh.objs.size) rfl
    rw [Heap.size_push] at e2
    exact (PySem.W.Looks.ld e2).andThen .now
  have t2 : PySem.W.Looks (model X.prog X.w) ((hh.push PySem.W.emptyDict).push (PySem.W.instObj C hh.objs.size)) (isInstance (.ref (hh.objs.size + 1)) (.type "object")) true := t1.andThen (Y.top.keeps fun b o e => Heap.get?_push_of_some _ (Heap.get?_push_of_some _ e))
  refine codeAny_call_builtin PySem.W.oi_plain PySem.W.entry_oi (@PySem.W.check_slot (model X.prog X.w) _ _ _ "object.__init__" "object" "__init__" (.ref (hh.objs.size + 1)) [] [] _ PySem.W.oi_kind PySem.W.oi_split t2 (PySem.W.oi_args (.ref (hh.objs.size + 1))) ?_)
  rw [PySem.W.oi_run]
  exact wpAny_pure (And.intro rfl ⟨V.ref (hh.objs.size + 1), _, I2, rfl, hq⟩)
theorem ee_make0 (M : Mk0 X.K C) (hm : X.mg x = some (.ref C)) (hg : Gl X x := by rfl) (hdb : (x == ("__debug__" : Str)) = false := by decide) : EE X G dl (.Call (.Name x p) [] [] pos) (.obj C []) := by
  intro pins s st H Q I ⟨Hf, S, k⟩
  refine wpAny_Call_Name_kw (ld_glob I hg hm ?_ hdb)
  refine PySem.W.callWith_K0 I.kIn M.kp (run_make0 M I fun x dx hx hdx ne => ?_)
  have hx' : (upd H dx (.own x)) x = none := by rw [upd_ne (Ne.symm ne)]; exact hx
  have g1 : Grow Hf H Hf (upd H dx (.own x)) := .allocO S.sub hdx
  have g2 := Grow.alloc (o := .ins C dx []) g1.sub hx'
  exact k _ _ _ (g1.trans g2) (.obj upd_same .nil)

/-! ### a field -/
theorem ee_fld (he : EE X G dl e (.obj C fs)) (c : Cls X.K C) (n : NoAttr X.K C f) (h : fs.lookup f = some d) (hb : attributeBase e f X.env (eval e X.env) = eval e X.env := by rfl) : EE X G dl (.Attribute e f pos) d :=
  peI (pe_fld he hb) fun st H Q ⟨Hf, S, k⟩ => ⟨Hf, S, fun v Hf1 H1 g1 r1 => by
    cases r1 with
    | @obj a _ dx fv _ q r =>
      obtain ⟨y, h1, h2⟩ := r.lookup h
      exact ⟨a, C, dx, fv, y, rfl, g1.sub _ _ q, c, n, h1, k y Hf1 H1 g1 h2⟩⟩

/-! ### len -/
theorem ee_lenL (hm : X.mg "len" = none) (ha : EE X G dl a (.lst ds)) (hg : Gl X "len" := by rfl) (he : starEach [a] X.env = [(false, eval a X.env)] := by rfl) : EE X G dl (.Call (.Name "len" p) [a] [] pos) (.int ds.length) :=
  peI (pe_callB call_len_seq hg hm PySem.boot_len (ea_cons ha ea_nil he) (he := he)) fun st H Q ⟨Hf, S, k⟩ => ⟨Hf, S, fun vs Hf1 H1 g1 r1 => by
    cases r1 with
    | cons r t => cases t; cases r with
      | @lst q vs _ z w => exact ⟨q, vs, rfl, .inl (.of (g1.sub _ _ z)), by rw [w.length]; exact k _ Hf1 H1 g1 (.int _)⟩⟩
theorem ee_lenC {ns : List Int} (hm : X.mg "len" = none) (ha : EE X G dl a (.scr ns)) (hg : Gl X "len" := by rfl) (he : starEach [a] X.env = [(false, eval a X.env)] := by rfl) : EE X G dl (.Call (.Name "len" p) [a] [] pos) (.int ns.length) :=
  peI (pe_callB call_len_seq hg hm PySem.boot_len (ea_cons ha ea_nil he) (he := he)) fun st H Q ⟨Hf, S, k⟩ => ⟨Hf, S, fun vs Hf1 H1 g1 r1 => by
    cases r1 with
    | cons r t => cases t; cases r with
      | @scr q _ z => exact ⟨q, _, rfl, .inl (g1.sub.seq z), by rw [List.length_map]; exact k _ Hf1 H1 g1 (.int _)⟩⟩
/-! ### isinstance -/
def tyD : Dt → Value
  | .non => .type "NoneType"
  | .bl _ => .type "bool"
  | .int _ => .type "int"
  | .str _ => .type "str"
  | .tup _ => .type "tuple"
  | .lst _ => .type "list"
  | .scr _ => .type "list"
  | .dic _ => .type "dict"
  | .obj C _ => .ref C
  | .ty _ => .type "type"
  | .cls _ => .type "type"
  | .xo C => .ref C
  | .dicF _ => .type "dict"
  | .xof C _ => .ref C
/-- what isinstance asks of a class of one's own -/
structure TyC (K : PySem.W.Frag) (C : Addr) : Prop where
  cl : Cls K C
  ha : PySem.W.findIn K (.ref C) "__class__" = some (some (.builtin "object.__class__"))
  hn : PySem.W.specialIn K (.builtin "object.__class__") "__get__" = some (some (.builtin "getset_descriptor.__get__"))
  htk : PySem.W.takesIn K (.builtin "object.__class__") = some true
  hm : PySem.W.mroIn K C (.type "object") = some true
def TyOk (K : PySem.W.Frag) : Dt → Prop
  | .obj C _ => TyC K C
  | .xo C => TyX K C
  | .xof C _ => TyX K C
  | .ty _ => False
  | .cls _ => False
  | _ => True
def clsV : Dt → Option Value
  | .ty n => some (.type n)
  | .cls C => some (.ref C)
  | _ => none
theorem isinst_D {pins : List (Addr × Obj)} {st : L2.St} {Hf H : Hp} {s : Shared} {Q : Value → Shared → Prop} {w : V} {z c : Value} {r : Bool} (I : L2.Inv X pins st H s) (sm : Same Hf H) (rp : Rep X.K Hf w d) (rx : RelV w z) (t : TyOk X.K d) (e : PySem.W.kitOne X.K (tyD d) c = some r)
    (h : ∀ tk, Q (.bool r) { s with toks := tk }) : wpAny (model X.prog X.w) X.A (call (.builtin "isinstance") [z, c]) Q X.xe s := by
  cases rp with
  | non => cases (show z = Value.none from rx); exact PySem.W.kia_one PySem.W.kitx_none I.kIn True.intro e (fun z => nomatch z) h
  | bl y => cases (show z = Value.bool y from rx); exact PySem.W.kia_one PySem.W.kitx_bool I.kIn True.intro e (fun z => nomatch z) h
  | int i => obtain ⟨t, q⟩ := (show ∃ t, z = Value.int i t from rx); cases q; exact PySem.W.kia_one PySem.W.kitx_int I.kIn True.intro e (fun z => nomatch z) h
  | str y => obtain ⟨t, q⟩ := (show ∃ t, z = Value.str y t from rx); cases q; exact PySem.W.kia_one PySem.W.kitx_str I.kIn True.intro e (fun z => nomatch z) h
  | @tup a vs ds q rr =>
    cases (show z = Value.ref a from rx)
    obtain ⟨its, _, ⟨o, h1, h2, _⟩, _⟩ := I.tuple (SqT_same sm q)
    exact PySem.W.kia_one PySem.W.kitx_tuple I.kIn ⟨o, h1, h2⟩ e (fun z => nomatch z) h
  | @lst a vs ds q rr =>
    cases (show z = Value.ref a from rx)
    obtain ⟨its, _, ⟨o, n, h1, h2, _⟩, _⟩ := I.list (.of (sm _ _ q))
    exact PySem.W.kia_one PySem.W.kitx_list I.kIn ⟨o, h1, h2⟩ e (fun z => nomatch z) h
  | @scr a ns q =>
    cases (show z = Value.ref a from rx)
    obtain ⟨its, _, ⟨o, n, h1, h2, _⟩, _⟩ := I.list (sm.seq q)
    exact PySem.W.kia_one PySem.W.kitx_list I.kIn ⟨o, h1, h2⟩ e (fun z => nomatch z) h
  | @dic a kvs kds q rr =>
    cases (show z = Value.ref a from rx)
    exact isinst_ok (x := .ref a) I rfl (.dK (sm _ _ q)) e h
  | @obj a C dx fv fs q rr =>
    cases (show z = Value.ref a from rx)
    have t : TyC X.K C := t
    exact isinst_ok (x := .ref a) I rfl (.ins (sm _ _ q) t.cl t.ha t.hn t.htk t.hm) e h
  | ty n => exact t.elim
  | cls C => exact t.elim
  | @xo a C ph q hp =>
    cases (show z = Value.ref a from rx)
    have t : TyX X.K C := t
    have ok : ObjOk X.prog X.w H s.heap a (.ext ph) := I.hok a _ (sm _ _ q)
    exact PySem.W.kia_one (kitx_exc t) I.kIn (hp _ ok.1) e (fun z => nomatch z) h
  | @dicF a ob kvs kds q rr =>
    cases (show z = Value.ref a from rx)
    obtain ⟨_, _, vs, _, D⟩ := dk_rd (kvs := kvs) I.hok (.inr ⟨ob, sm _ _ q⟩)
    exact PySem.W.kia_one PySem.W.kitx_dict I.kIn D.typeIs e (fun z => nomatch z) h
  | @xof a C dx ph fv fs q hp g rr =>
    cases (show z = Value.ref a from rx)
    have t : TyX X.K C := t
    have ok : ObjOk X.prog X.w H s.heap a (.ext ph) := I.hok a _ (sm _ _ q)
    exact PySem.W.kia_one (kitx_exc t) I.kIn (hp _ ok.1).of e (fun z => nomatch z) h
theorem boot_isinstance : bootBuiltins "isinstance" = some (.builtin "isinstance") := by decide +kernel
def rIsi (K : PySem.W.Frag) (d d2 : Dt) (r : Bool) : List V → Hp → VK → Prop := fun xs H Q => ∃ Hf w c, xs = [w, c] ∧ Same Hf H ∧ Rep K Hf w d ∧ Rep K Hf c d2 ∧ Q (.bl r) H
theorem call_isi {r : Bool} {z : Value} (hc : clsV d2 = some z) (t : TyOk X.K d) (h : PySem.W.kitOne X.K (tyD d) z = some r) : CallR X (.builtin "isinstance") (rIsi X.K d d2 r) := by
  intro pins s st H xs us Q I rv ⟨Hf, w, c, e, sm, r1, r2, q⟩
  subst e
  cases rv with
  | cons q1 t1 =>
    cases t1 with
    | cons q2 t2 =>
      cases t2
      rename_i ud uc
      have ez : uc = z := by
        cases r2 with
        | ty n => cases hc; exact q2
        | cls C => cases hc; exact q2
        | _ => cases hc
      subst ez
      exact isinst_D I sm r1 q1 t h fun tk => ⟨.bl r, H, I.tok _, rfl, q⟩
theorem ee_isi {r : Bool} {z : Value} (hm : X.mg "isinstance" = none) (ha : EE X G dl a d) (hb : EE X G dl b d2) (hc : clsV d2 = some z) (t : TyOk X.K d) (h : PySem.W.kitOne X.K (tyD d) z = some r) (hg : Gl X "isinstance" := by rfl)
    (he : starEach [a, b] X.env = (false, eval a X.env) :: starEach [b] X.env := by rfl) (he2 : starEach [b] X.env = [(false, eval b X.env)] := by rfl) (hpl : (backTo pos (starEach [b] X.env)).any (·.1) = false := by rfl) :
    EE X G dl (.Call (.Name "isinstance" p) [a, b] [] pos) (.bl r) :=
  peI (pe_callB (call_isi hc t h) hg hm boot_isinstance (ea_cons ha (ea_cons hb ea_nil he2) he) (by decide) (by decide) he hpl) fun st H Q ⟨Hf, S, k⟩ => ⟨Hf, S, fun vs Hf1 H1 g1 r1 => by
    cases r1 with
    | cons r1 t1 => cases t1 with
      | cons r2 t2 => cases t2; exact ⟨Hf1, _, _, rfl, g1.sub, r1, r2, k _ Hf1 H1 g1 (.bl _)⟩⟩

/-! ### equal data -/
mutual
def pd : Dt → PyData
  | .non => .none
  | .bl b => .bool b
  | .int i => .int i
  | .str x => .str x
  | .tup ds => .tuple (pds ds)
  | .lst ds => .list (pds ds)
  | .scr _ => .none
  | .dic _ => .none
  | .obj _ _ => .none
  | .ty _ => .none
  | .cls _ => .none
  | .xo _ => .none
  | .dicF _ => .none
  | .xof _ _ => .none
def pds : List Dt → List PyData
  | [] => []
  | d :: r => pd d :: pds r
end
mutual
def plain : Dt → Bool
  | .tup ds => plains ds
  | .lst ds => plains ds
  | .scr _ => false
  | .dic _ => false
  | .obj _ _ => false
  | .ty _ => false
  | .cls _ => false
  | .xo _ => false
  | .dicF _ => false
  | .xof _ _ => false
  | .non => true
  | .bl _ => true
  | .int _ => true
  | .str _ => true
def plains : List Dt → Bool
  | [] => true
  | d :: r => plain d && plains r
end
section
variable {pins : List (Addr × Obj)} {st : L2.St} {Hf H : Hp} {s : Shared}
mutual
theorem reads_of (I : L2.Inv X pins st H s) (sm : Same Hf H) : ∀ {w : V} {d : Dt} {z : Value}, Rep X.K Hf w d → plain d = true → RelV w z → ∃ as, Reads s.heap z (pd d) as
  | _, _, z, .non, _, r => by cases (show z = Value.none from r); exact ⟨_, .none⟩
  | _, _, z, .bl b, _, r => by cases (show z = Value.bool b from r); exact ⟨_, .bool b⟩
  | _, _, z, .int i, _, r => by obtain ⟨t, q⟩ := (show ∃ t, z = Value.int i t from r); cases q; exact ⟨_, .int i t⟩
  | _, _, z, .str x, _, r => by obtain ⟨t, q⟩ := (show ∃ t, z = Value.str x t from r); cases q; exact ⟨_, .str x t⟩
  | _, _, z, @Rep.tup _ _ a vs ds q rr, h, r => by
    cases (show z = Value.ref a from r)
    obtain ⟨its, rv, ⟨o, h1, h2, n, h3⟩, _⟩ := I.tuple (SqT_same sm q)
    obtain ⟨as, ra⟩ := readss_of I sm rr (by rw [plain] at h; exact h) rv
    refine ⟨as, ?_⟩
    rw [pd]
    exact .tuple h1 h2 h3 (by simpa using ra)
  | _, _, z, @Rep.lst _ _ a vs ds q rr, h, r => by
    cases (show z = Value.ref a from r)
    obtain ⟨its, rv, ⟨o, n, h1, h2, _, h3⟩, _⟩ := I.list (.of (sm _ _ q))
    obtain ⟨as, ra⟩ := readss_of I sm rr (by rw [plain] at h; exact h) rv
    refine ⟨a :: as, ?_⟩
    rw [pd]
    exact .list h1 h2 h3 (by simpa using ra)
  | _, _, _, .dic _ _, h, _ => by rw [plain] at h; cases h
  | _, _, _, .scr _, h, _ => by rw [plain] at h; cases h
  | _, _, _, .obj _ _, h, _ => by rw [plain] at h; cases h
  | _, _, _, .ty _, h, _ => by rw [plain] at h; cases h
  | _, _, _, .cls _, h, _ => by rw [plain] at h; cases h
  | _, _, _, .xo _ _, h, _ => by rw [plain] at h; cases h
  | _, _, _, .dicF _ _, h, _ => by rw [plain] at h; cases h
  | _, _, _, .xof _ _ _ _, h, _ => by rw [plain] at h; cases h
theorem readss_of (I : L2.Inv X pins st H s) (sm : Same Hf H) : ∀ {vs : List V} {ds : List Dt} {zs : List Value}, Reps X.K Hf vs ds → plains ds = true → Vals vs zs → ∃ as, ReadsAll s.heap zs (pds ds) as
  | _, _, _, .nil, _, .nil => ⟨[], by rw [pds]; exact .nil⟩
  | _, _, _, .cons r t, h, .cons q w => by
    rw [plains, Bool.and_eq_true] at h
    obtain ⟨as, h1⟩ := reads_of I sm r h.1 q
    obtain ⟨bs, h2⟩ := readss_of I sm t h.2 w
    exact ⟨as ++ bs, by rw [pds]; exact .cons h1 h2⟩
end
end
def okD (d : Dt) : Prop := plain d = true ∧ SeqAt.shaped (pd d) = true
def rEqD (K : PySem.W.Frag) (d1 d2 : Dt) (g : Bool → Bool) : R2 := fun x y H Q => ∃ Hf, Same Hf H ∧ Rep K Hf x d1 ∧ Rep K Hf y d2 ∧ okD d1 ∧ okD d2 ∧ Q (.bl (g (PyData.eqv (pd d1) (pd d2)))) H
theorem op_eqD (hu : X.A.units + 64 < cLine) : OpR X (compareOp .Eq) (rEqD X.K d1 d2 id) := by
  intro pins s st H x y v w Q I rx ry ⟨Hf, sm, r1, r2, o1, o2, q⟩
  obtain ⟨as, h1⟩ := reads_of I sm r1 o1.1 rx
  obtain ⟨bs, h2⟩ := reads_of I sm r2 o2.1 ry
  exact eq_dataH h1 h2 o1.2 o2.2 hu ⟨.bl _, H, I, rfl, q⟩
theorem op_neD (hu : X.A.units + 64 < cLine) : OpR X (compareOp .NotEq) (rEqD X.K d1 d2 (!·)) := by
  intro pins s st H x y v w Q I rx ry ⟨Hf, sm, r1, r2, o1, o2, q⟩
  obtain ⟨as, h1⟩ := reads_of I sm r1 o1.1 rx
  obtain ⟨bs, h2⟩ := reads_of I sm r2 o2.1 ry
  exact ne_dataH h1 h2 o1.2 o2.2 hu ⟨.bl _, H, I, rfl, q⟩
theorem r2_eqD {K : PySem.W.Frag} {g : Bool → Bool} (o1 : okD d1) (o2 : okD d2) : R2D K (rEqD K d1 d2 g) d1 d2 (.bl (g (PyData.eqv (pd d1) (pd d2)))) := fun v w Hf H Q s r1 r2 k => ⟨Hf, s, r1, r2, o1, o2, k _ Hf H (.refl s) (.bl _)⟩
mutual
theorem eqv_refl : ∀ d : Dt, plain d = true → PyData.eqv (pd d) (pd d) = true
  | .non, _ => by simp [pd, PyData.eqv]
  | .bl b, _ => by simp [pd, PyData.eqv]
  | .int i, _ => by simp [pd, PyData.eqv]
  | .str x, _ => by simp [pd, PyData.eqv]
  | .tup ds, h => by rw [plain] at h; rw [pd, PyData.eqv]; exact eqvs_refl ds h
  | .lst ds, h => by rw [plain] at h; rw [pd, PyData.eqv]; exact eqvs_refl ds h
  | .dic _, h => by rw [plain] at h; cases h
  | .scr _, h => by rw [plain] at h; cases h
  | .obj _ _, h => by rw [plain] at h; cases h
  | .ty _, h => by rw [plain] at h; cases h
  | .cls _, h => by rw [plain] at h; cases h
  | .xo _, h => by rw [plain] at h; cases h
  | .dicF _, h => by rw [plain] at h; cases h
  | .xof _ _, h => by rw [plain] at h; cases h
theorem eqvs_refl : ∀ ds : List Dt, plains ds = true → PyData.eqvAll (pds ds) (pds ds) = true
  | [], _ => by simp [pds, PyData.eqvAll]
  | d :: r, h => by
    rw [plains, Bool.and_eq_true] at h
    rw [pds, PyData.eqvAll, eqv_refl d h.1, eqvs_refl r h.2]; rfl
end
theorem ee_eq (hr : X.A.units + 64 < cLine) (ha : EE X G dl a d1) (hb : EE X G dl b d2) (o1 : okD d1) (o2 : okD d2) (hu : PyData.eqv (pd d1) (pd d2) = u) : EE X G dl (.Compare a [.Eq] [b] pos) (.bl u) := by
  subst hu; exact ee_cmp (op_eqD hr) (r2_eqD (g := id) o1 o2) (nomark _) ha hb
theorem eb_ne (hr : X.A.units + 64 < cLine) (ha : EE X G dl a d1) (hb : EE X G dl b d2) (o1 : okD d1) (o2 : okD d2) (hu : (!PyData.eqv (pd d1) (pd d2)) = u) : EB X G dl (.Compare a [.NotEq] [b] pos) u := by
  subst hu; exact eb_cmp (op_neD hr) (r2_eqD (g := (!·)) o1 o2) (nomark _) ha hb
/-! .. of ints, of texts -/
theorem eb_lt (ha : EE X G dl a (.int i)) (hb : EE X G dl b (.int j)) : EB X G dl (.Compare a [.Lt] [b] pos) (decide (i < j)) := eb_cmp op_lt (r2_I0 (g' := fun i j => .bl (decide (i < j))) fun _ _ _ _ => .bl _) (nomark _) ha hb
theorem eb_ge (ha : EE X G dl a (.int i)) (hb : EE X G dl b (.int j)) : EB X G dl (.Compare a [.GtE] [b] pos) (decide (j ≤ i)) := eb_cmp op_ge (r2_I0 (g' := fun i j => .bl (decide (j ≤ i))) fun _ _ _ _ => .bl _) (nomark _) ha hb
theorem r2_eqS {K : PySem.W.Frag} {w1 w2 : V} {g : Bool → Bool} (h1 : ∀ H w, Rep K H w d1 → w = w1) (h2 : ∀ H w, Rep K H w d2 → w = w2) (hs : scal w1 w2 = true) : R2D K (fun x y H Q => scal x y = true ∧ Q (.bl (g (decide (x = y)))) H) d1 d2 (.bl (g (decide (w1 = w2)))) := fun v w Hf H Q s r1 r2 k => by
  cases h1 _ _ r1; cases h2 _ _ r2; exact ⟨hs, k _ Hf H (.refl s) (.bl _)⟩
theorem dec_int (i j : Int) : decide (V.int i = V.int j) = decide (i = j) := by simp
theorem dec_str (i j : Str) : decide (V.str i = V.str j) = decide (i = j) := by simp
theorem ee_eqI (ha : EE X G dl a (.int i)) (hb : EE X G dl b (.int j)) : EE X G dl (.Compare a [.Eq] [b] pos) (.bl (decide (i = j))) := by
  rw [← dec_int]; exact ee_cmp op_eq (r2_eqS (g := id) (fun _ _ r => by cases r; rfl) (fun _ _ r => by cases r; rfl) rfl) (nomark _) ha hb
theorem eb_eqI (ha : EE X G dl a (.int i)) (hb : EE X G dl b (.int j)) : EB X G dl (.Compare a [.Eq] [b] pos) (decide (i = j)) := by
  rw [← dec_int]; exact eb_cmp op_eq (r2_eqS (g := id) (fun _ _ r => by cases r; rfl) (fun _ _ r => by cases r; rfl) rfl) (nomark _) ha hb
theorem eb_eqS (ha : EE X G dl a (.str x)) (hb : EE X G dl b (.str y)) : EB X G dl (.Compare a [.Eq] [b] pos) (decide (x = y)) := by
  rw [← dec_str]; exact eb_cmp op_eq (r2_eqS (g := id) (fun _ _ r => by cases r; rfl) (fun _ _ r => by cases r; rfl) rfl) (nomark _) ha hb
end
end Sg

namespace Sg
open PySem PySem.Spec PyProof.Rows L2
/-- a def of the module -/
structure GF (P : Program) (w : World) (K : PySem.W.Frag) (mg : Str → Option Value) (base : Heap) (CX : CXT) (k : Nat) (x : Str) (n : Nat) (R : List Dt → Res → Prop) : Prop where
  ex : ∃ f fd ps, FnOk P w K mg base CX k f fd ps (spR K n R) ∧ mg x = some (.ref f) ∧ PySem.W.keepIn K (.ref f) = true ∧ Binds K fd ps []
/-- a method of the class at C -/
structure MF (P : Program) (w : World) (K : PySem.W.Frag) (mg : Str → Option Value) (base : Heap) (CX : CXT) (k : Nat) (C : Addr) (m : Str) (n : Nat) (R : List Dt → Res → Prop) : Prop where
  cl : Cls K C
  ex : ∃ f fd ps, FnOk P w K mg base CX k f fd ps (spR K n R) ∧ Meth K C m f ∧ Binds K fd ps []
section
variable {X : Cx} {G : Gr} {E : XK} {dl : List Slot} {e : Expr} {es : List Expr} {d : Dt} {ds : List Dt} {pos p apos : Pos} {x m : Str} {C : Addr} {fs : List (Str × Dt)} {CX : CXT} {k k' n : Nat} {R : List Dt → Res → Prop} {ob : Expr}
theorem ee_gf (F : GF X.prog X.w X.K X.mg X.base CX k x n R) (nx : NoX CX) (hr : Room k' X.A) (ha : EA X G dl (e :: es) ds) (h : R ds (.ret d)) (hkk : k ≤ k' := by decide) (hl : ds.length = n := by rfl) (hg : Gl X x := by rfl) (hdb : (x == ("__debug__" : Str)) = false := by decide)
    (he : starEach (e :: es) X.env = (false, eval e X.env) :: starEach es X.env := by rfl) (hpl : (backTo pos (starEach es X.env)).any (·.1) = false := by rfl) : EE X G dl (.Call (.Name x p) (e :: es) [] pos) d := by
  obtain ⟨f, fd, ps, F, hm, hk, hb⟩ := F.ex
  refine ee_call (dvs := []) (vds := []) F nx (hr.mono hkk) hm hk hb .nil (fun _ => .nil) ha (by rw [List.append_nil]; exact hl) (by rw [List.append_nil]; exact h) hg hdb he hpl
theorem ee_mf {pl : Sem Bool} (he : EE X G dl ob (.obj C fs)) (F : MF X.prog X.w X.K X.mg X.base CX k C m n R) (nx : NoX CX) (hr : Room k' X.A) (ha : EA X G dl (e :: es) ds) (h : R (.obj C fs :: ds) (.ret d)) (hkk : k ≤ k' := by decide) (hl : (Dt.obj C fs :: ds).length = n := by rfl) (hno : fs.lookup m = none := by rfl)
    (hst : starEach (e :: es) X.env = (false, eval e X.env) :: starEach es X.env := by rfl) (hpl : (backTo pos (starEach es X.env)).any (·.1) = false := by rfl)
    (ht : eval (.Call (.Attribute ob m apos) (e :: es) [] pos) X.env = (do
      let ov ← eval ob X.env
      standAt apos.atName
      let (f, first) ← holding [ov] (getMethod ov m pl)
      callWith pos f first (backTo pos (starEach (e :: es) X.env)) (backToKw pos (keywordEach [] X.env))) := by rfl) : EE X G dl (.Call (.Attribute ob m apos) (e :: es) [] pos) d := by
  obtain ⟨f, fd, ps, Fo, hm, hb⟩ := F.ex
  refine ee_meth (dvs := []) (vds := []) (pl := pl) he F.cl hm Fo nx (hr.mono hkk) hb .nil (fun _ => .nil) ha (by rw [List.append_nil]; exact hl) (by rw [List.append_nil]; exact h) hno hst hpl ht
theorem ee_mf0 {pl : Sem Bool} (he : EE X G dl ob (.obj C fs)) (F : MF X.prog X.w X.K X.mg X.base CX k C m n R) (nx : NoX CX) (hr : Room k' X.A) (h : R [.obj C fs] (.ret d)) (hkk : k ≤ k' := by decide) (hl : [Dt.obj C fs].length = n := by rfl) (hno : fs.lookup m = none := by rfl)
    (ht : eval (.Call (.Attribute ob m apos) [] [] pos) X.env = (do
      let ov ← eval ob X.env
      standAt apos.atName
      let (f, first) ← holding [ov] (getMethod ov m pl)
      callWith pos f first (backTo pos (starEach [] X.env)) (backToKw pos (keywordEach [] X.env))) := by rfl) : EE X G dl (.Call (.Attribute ob m apos) [] [] pos) d := by
  obtain ⟨f, fd, ps, Fo, hm, hb⟩ := F.ex
  refine ee_meth0 (dvs := []) (vds := []) (pl := pl) he F.cl hm Fo nx (hr.mono hkk) hb .nil (fun _ => .nil) hl h hno ht
end
end Sg

/-! what the records of a flying exception never change: the dict of an object -/
namespace Sg
open PySem PySem.Spec PyProof.Rows L2
/-- each object keeps its dict -/
def KD (h h' : Heap) : Prop := ∀ (b : Addr) o, h.objs[b]? = some o → ∃ o', h'.objs[b]? = some o' ∧ o'.dict = o.dict
theorem KD.refl (h : Heap) : KD h h := fun _ o e => ⟨o, e, rfl⟩
theorem KD.trans {h1 h2 h3 : Heap} (a : KD h1 h2) (b : KD h2 h3) : KD h1 h3 := fun x o e =>
  let ⟨o1, e1, d1⟩ := a x o e; let ⟨o2, e2, d2⟩ := b x o1 e1; ⟨o2, e2, d2.trans d1⟩
def Calm {α : Type} : Sem α → Prop
  | .pure _ => True
  | .raise _ => True
  | .unsupported _ => True
  | .finish _ => True
  | .rule _ k => Calm (k ())
  | .at _ k => Calm (k ())
  | .load _ _ k => ∀ o, Calm (k o)
  | .update _ _ f k => (∀ o, (f o).dict = o.dict) ∧ Calm (k ())
  | .alloc _ k => ∀ n, Calm (k n)
  | .loadIfAlive _ k => ∀ o, Calm (k o)
  | .point _ k => Calm (k ())
  | .fresh k => ∀ n, Calm (k n)
  | .stack k => ∀ l, Calm (k l)
  | .ask k => ∀ l, Calm (k l)
  | .handled _ k => ∀ l, Calm (k l)
  | _ => False
theorem kd_update (h : Heap) (a : Addr) {g : Obj → Obj} (hg : ∀ o, (g o).dict = o.dict) : KD h (h.update a g) := fun b o e => by
  obtain ⟨objs, l⟩ := h
  show ∃ o', (objs.modify a g)[b]? = some o' ∧ _
  rw [Array.getElem?_modify, show objs[b]? = some o from e]
  by_cases q : a = b
  · rw [if_pos q]; exact ⟨_, rfl, hg o⟩
  · rw [if_neg q]; exact ⟨_, rfl, rfl⟩
theorem kd_push (h : Heap) (o : Obj) : KD h (h.push o) := fun b u e => ⟨u, by
  obtain ⟨objs, l⟩ := h
  show (objs.push o)[b]? = some u
  rw [Array.getElem?_push, if_neg (Nat.ne_of_lt (Array.getElem?_eq_some_iff.mp e).1)]; exact e, rfl⟩
theorem calm_wp {α : Type} {M : Model} {Γ : PySem.Ctx} {Q : α → Pos → Shared → Prop} {E : Value → Pos → Shared → Prop} {h0 : Heap} (t : Sem α) (c : Calm t) (p : Pos) (s : Shared) (k : KD h0 s.heap) (h : Sem.wp M Γ t Q E p s) : Sem.wp M Γ t (fun a p s => Q a p s ∧ KD h0 s.heap) E p s := by
  induction t generalizing p s with
  | pure a => simp only [Sem.wp_pure] at h ⊢; exact ⟨h, k⟩
  | raise e => simp only [Sem.wp_raise] at h ⊢; exact h
  | unsupported w => simp only [Sem.wp_unsupported] at h
  | finish w => simp only [Sem.wp_finish] at h
  | rule t f ih => rw [Sem.wp] at h ⊢; exact ih () c p s k h
  | «at» t f ih => rw [Sem.wp] at h ⊢; exact ih () c _ s k h
  | load a q f ih => rw [Sem.wp] at h ⊢; obtain ⟨o, e, h⟩ := h; exact ⟨o, e, ih o (c o) p s k h⟩
  | update a q g f ih => rw [Sem.wp] at h ⊢; exact ⟨h.1, ih () c.2 p _ (k.trans (kd_update _ a c.1)) h.2⟩
  | alloc o f ih => rw [Sem.wp] at h ⊢; exact ih _ (c _) p _ (k.trans (kd_push _ o)) h
  | loadIfAlive a f ih => rw [Sem.wp] at h ⊢; exact ih _ (c _) p s k h
  | point a f ih => rw [Sem.wp] at h ⊢; exact ih () c p s k h
  | fresh f ih => rw [Sem.wp] at h ⊢; exact ih _ (c _) p _ k h
  | stack f ih => rw [Sem.wp] at h ⊢; exact ih _ (c _) p s k h
  | ask f ih => rw [Sem.wp] at h ⊢; exact ih _ (c _) p s k h
  | handled a f ih => rw [Sem.wp] at h ⊢; exact ih _ (c _) p s k h
  | _ => exact c.elim
theorem calm_any {α : Type} {M : Model} {A : Around} {t : Sem α} {Q : α → Shared → Prop} {E : Value → Shared → Prop} {s : Shared} (c : Calm t) (h : wpAny M A t Q E s) : wpAny M A t (fun a s' => Q a s' ∧ KD s.heap s'.heap) E s :=
  fun Γ p hΓ => calm_wp t c p s (KD.refl _) (h Γ p hΓ)
theorem calm_bind' {α β : Type} {f : α → Sem β} (m : Sem α) (c : Calm m) (h : ∀ a, Calm (f a)) : Calm (Sem.bind m f) := by
  induction m with
  | pure a => exact h a
  | raise e => exact trivial
  | unsupported w => exact trivial
  | finish w => exact trivial
  | rule t f ih => exact ih () c
  | «at» t f ih => exact ih () c
  | load a q f ih => exact fun o => ih o (c o)
  | update a q g f ih => exact ⟨c.1, ih () c.2⟩
  | alloc o f ih => exact fun o => ih o (c o)
  | loadIfAlive a f ih => exact fun o => ih o (c o)
  | point a f ih => exact ih () c
  | fresh f ih => exact fun o => ih o (c o)
  | stack f ih => exact fun o => ih o (c o)
  | ask f ih => exact fun o => ih o (c o)
  | handled a f ih => exact fun o => ih o (c o)
  | _ => exact c.elim
theorem calm_bind {α β : Type} {m : Sem α} {f : α → Sem β} (c : Calm m) (h : ∀ a, Calm (f a)) : Calm (m >>= f) := calm_bind' m c h
theorem calm_load (a : Addr) : Calm (load a) := fun _ => trivial
theorem calm_alloc (o : Obj) : Calm (alloc o) := fun _ => trivial
theorem calm_update (a : Addr) {f : Obj → Obj} (h : ∀ o, (f o).dict = o.dict) : Calm (update a f) := ⟨h, trivial⟩
theorem calm_stack : Calm stack := fun _ => trivial
theorem calm_fieldsOf (v : Value) : Calm (fieldsOf v) := by
  unfold fieldsOf
  split
  · refine calm_bind (calm_load _) fun o => ?_
    split <;> trivial
  · trivial
theorem calm_field (v : Value) (i : Nat) : Calm (field v i) := by
  unfold field
  refine calm_bind (calm_fieldsOf v) fun vs => ?_
  split <;> trivial
theorem dict_mapFields (f : Array Value → Array Value) (o : Obj) : (Obj.mapFields f o).dict = o.dict := by
  unfold Obj.mapFields
  split <;> rfl
theorem calm_setField (v : Value) (i : Nat) (x : Value) : Calm (setField v i x) := by
  unfold setField
  split
  · unfold updateField
    refine calm_bind (calm_load _) fun o => ?_
    split
    · split
      · exact calm_update _ (dict_mapFields _)
      · trivial
    · trivial
  · trivial
theorem calm_setFlight (e : Value) (f : Option Addr) : Calm (setFlight e f) := by
  unfold setFlight
  refine calm_bind (calm_field _ _) fun tb => ?_
  split
  · exact calm_setField _ _ _
  · trivial
theorem calm_behind (env : Env) (outer : List Env) : Calm (behindIsImport env outer) := by
  unfold behindIsImport
  repeat' (first | exact calm_field _ _ | exact calm_load _ | exact calm_stack | exact calm_alloc _ | exact calm_setField _ _ _ | exact calm_setFlight _ _ | exact trivial | refine calm_bind ?_ ?_ | intro _ | split | dsimp only)
theorem calm_newFields (ty : String) (vs : List Value) : Calm (newFields ty vs) := by
  unfold newFields newObj
  repeat' (first | exact calm_field _ _ | exact calm_load _ | exact calm_stack | exact calm_alloc _ | exact calm_setField _ _ _ | exact calm_setFlight _ _ | exact trivial | refine calm_bind ?_ ?_ | intro _ | split | dsimp only)
theorem calm_entryPlace (f : Addr) (b : Bool) : Calm (entryPlaceOf f b) := by
  unfold entryPlaceOf
  refine calm_bind calm_stack fun l => ?_
  split <;> trivial
theorem calm_kept (env : Env) (i : Bool) (l : List Env) : Calm (keptBack env i l) := by
  cases l with
  | nil =>
    unfold keptBack underTheClaimsCaller
    repeat' (first | exact calm_field _ _ | exact calm_load _ | exact calm_stack | exact calm_alloc _ | exact calm_setField _ _ _ | exact calm_setFlight _ _ | exact trivial | refine calm_bind ?_ ?_ | intro _ | split | dsimp only)
  | cons a l => trivial
theorem calm_ready : ∀ l : List Env, Calm (readyFrames l)
  | [] => trivial
  | env :: outer => by
    unfold readyFrames
    repeat' (first | exact calm_ready outer | exact calm_behind _ _ | exact calm_kept _ _ _ | exact calm_update _ (fun _ => rfl) | exact calm_load _ | exact trivial | refine calm_bind ?_ ?_ | intro _ | split)
theorem calm_frameOf (env : Env) : Calm (PySem.frameOf env) := by
  unfold PySem.frameOf
  refine calm_bind (calm_bind calm_stack fun _ => trivial) fun l => calm_bind ?_ fun r => ?_
  · generalize l.dropWhile _ = m
    cases m with
    | nil => trivial
    | cons a m => exact calm_bind (calm_ready _) fun _ => trivial
  · split <;> trivial
theorem calm_note (e : Value) (env : Env) : Calm (noteFrame e env) := by
  unfold noteFrame
  unfold EntryCells.newEntry
  repeat' (first | exact calm_frameOf _ | exact calm_entryPlace _ _ | exact calm_newFields _ _ | exact calm_setField _ _ _ | exact calm_field _ _ | exact trivial | refine calm_bind ?_ ?_ | intro _ | split | dsimp only)
theorem calm_leaving (env : Env) (e : Value) : Calm (leaving env e) := by
  unfold leaving
  exact calm_bind (calm_note _ _) fun _ => calm_setFlight _ _
end Sg

namespace Sg
open PySem PySem.Spec PyProof.Rows L2

/-- the dict of the object at e -/
def DictIs (h : Heap) (e : Addr) (od : Option Addr) : Prop := ∃ o, h.get? e = some o ∧ o.dict = od
theorem get_objs {h : Heap} {e : Addr} {o : Obj} (q : h.get? e = some o) : h.objs[e]? = some o := by
  unfold Heap.get? at q
  split at q
  · cases q
  · exact q
theorem DictIs.keep {h h' : Heap} {e : Addr} {od : Option Addr} (d : DictIs h e od) (k : KD h h') (t : ∃ o, h'.get? e = some o) : DictIs h' e od := by
  obtain ⟨o, q, rfl⟩ := d
  obtain ⟨o1, q1⟩ := t
  obtain ⟨o2, q2, e2⟩ := k e o (get_objs q)
  rw [get_objs q1] at q2; cases q2
  exact ⟨o1, q1, e2⟩
/-- how an exception lies behind a call: B is what stays of the heap whatever the frames and the record of the exception become -/
def CX1 (P : Program) (w : World) : CXT := fun outer H s E e s' => ∃ (ea : Addr) (C : Value) (od : Option Addr) (H' : Hp) (B : Heap) (t : Addr),
  e = .ref ea ∧ s'.os = s.os ∧ AllBare s'.gens ∧ Un (frs outer) [] H H' s.heap s'.heap ∧ HOk P w H' s'.heap ∧ Heap.FlyingW B outer ea C (.ref t) s'.heap ∧
  (∀ b o, s.heap.get? b = some o → H b = none → b ∉ frs outer → B.get? b = some o) ∧ (∀ b o, s.heap.get? b = some o → b ∉ frs outer → ∃ o', B.get? b = some o') ∧
  (∀ a o, H' a = some o → ∃ ob, B.get? a = some ob) ∧ s.heap.get? ea = none ∧ H' ea = none ∧ DictIs s'.heap ea od ∧ E C od H'
theorem objok_some {P : Program} {w : World} {H : Hp} {h : Heap} {a : Addr} : ∀ {o : HO}, ObjOk P w H h a o → ∃ u, h.get? a = some u
  | .lst _, ⟨_, _, _, _, e⟩ => ⟨_, e⟩
  | .tup _, ⟨_, _, _, _, e, _⟩ => ⟨_, e⟩
  | .dK _, ⟨_, _, _, _, _, _, _, e, _⟩ => ⟨_, e⟩
  | .dT _, ⟨_, _, _, _, _, _, _, e, _⟩ => ⟨_, e⟩
  | .set _ _, x => by obtain ⟨_, _, _, _, e, _⟩ := x; exact ⟨_, e⟩
  | .ins _ _ _, ⟨_, _, _, e, _⟩ => ⟨_, e⟩
  | .own _, ⟨_, e⟩ => ⟨_, e⟩
  | .xd _, ⟨_, x, _⟩ => by obtain ⟨_, _, _, e, _⟩ := x; exact ⟨_, e⟩
  | .met _ _, e => ⟨_, e⟩
  | .rng _ _, ⟨_, _, _, e⟩ => ⟨_, e⟩
  | .frz _ _, ⟨e, _⟩ => ⟨_, e⟩
  | .tbl _, e => ⟨_, e⟩
  | .ext _, ⟨_, e, _⟩ => e
section
variable {P : Program} {w : World} {K : PySem.W.Frag} {mg : Str → Option Value} {base : Heap} {N : List Str} {qual : Str} {scope : Scope} {f : Addr} {cd : Value} {A : Around} {outer : List Env} {s0 : Shared} {H0 : Hp} {E : XK} {CX : CXT}
theorem frs_stack : frs (envOfC qual scope s0.heap.objs.size f cd :: outer) = s0.heap.objs.size :: frs outer := rfl
/-- the exception behind the call of the body's own def -/
theorem cx_mk {pins : List (Addr × Obj)} {st : L2.St} {H1 H' : Hp} {s1 s' : Shared} {g h' B : Heap} {ea t : Addr} {C : Value} {od : Option Addr}
    (I : L2.Inv (cxOf CX P w K mg base N qual scope f cd A outer s0 H0 E) pins st H1 s1) (os : s'.os = s1.os) (bare : AllBare s'.gens) (un : Un (frs (envOfC qual scope s0.heap.objs.size f cd :: outer)) [] H1 H' s1.heap g) (hok : HOk P w H' g)
    (fl : Heap.FlyingW B outer ea C (.ref t) h') (bg : ∀ b o, B.get? b = some o → g.get? b = some o)
    (hB1 : ∀ b o, s1.heap.get? b = some o → H1 b = none → b ∉ frs (envOfC qual scope s0.heap.objs.size f cd :: outer) → B.get? b = some o)
    (hB2 : ∀ b o, s1.heap.get? b = some o → b ∉ frs (envOfC qual scope s0.heap.objs.size f cd :: outer) → b ≠ ea → ∃ o', B.get? b = some o') (trk : ∀ a o, H' a = some o → ∃ ob, B.get? a = some ob)
    (ups : ∀ b o, b ∈ frs outer → g.get? b = some o → (∀ vs, o.data ≠ .fields vs) → ∃ sl, h'.get? b = some { o with slots := sl }) (hn : s0.heap.get? ea = none) (hn' : H' ea = none) (di : DictIs h' ea od) (hE : E C od H') :
    CX1 P w outer H0 s0 E (.ref ea) { s' with heap := h' } := by
  have J := L2.Inv.call' (s' := { s' with heap := g }) (ch := []) I os un hok bare (fun b z => absurd z (by simp))
  have bn : ∀ b o, s0.heap.get? b = some o → b ∉ frs outer → b ∉ frs (envOfC qual scope s0.heap.objs.size f cd :: outer) := fun b o e0 hf z => by
    rw [frs_stack] at z
    rcases List.mem_cons.mp z with z | z
    · exact absurd z (Nat.ne_of_lt (Heap.lt_size e0))
    · exact hf z
  have un0 : Un (frs outer) [] H0 H1 s0.heap s1.heap := I.base
  have un1 : Un (frs outer) [] H0 H' s0.heap g := J.base
  have slot : ∀ b o, s0.heap.get? b = some o → H0 b = none → b ∈ frs outer → ∃ sl, h'.get? b = some { o with slots := sl } := fun b o e0 hn0 hf => by
    obtain ⟨sl, e1⟩ := un1.slot b o e0 hn0 hf (by simp)
    obtain ⟨_, o2, e2, hd⟩ := I.ok.funs.mem hf
    have e2 : s0.heap.get? b = some o2 := e2
    rw [e0] at e2; cases e2
    obtain ⟨sl2, e3⟩ := ups b _ hf e1 hd
    exact ⟨sl2, e3⟩
  have frf : ∀ b ∈ frs outer, H0 b = none := I.ok.frf
  refine ⟨ea, C, od, H', B, t, rfl, os.trans I.os, bare, ⟨fun b o e0 hn0 hf _ => ?_, fun b o e0 hn0 hf _ => slot b o e0 hn0 hf, un1.free, fun b o e0 _ => ?_, un1.tups, un1.frzs, un1.tbls⟩, fun a o e => ?_, fl, fun b o e0 hn0 hf => ?_, fun b o e0 hf => ?_, trk, hn, hn', di, hE⟩
  · exact fl.1 _ _ (hB1 b o (un0.keep b o e0 hn0 hf (by simp)) (un0.free b o e0 hn0 (by simp)) (bn b o e0 hf))
  · by_cases hf : b ∈ frs outer
    · obtain ⟨sl, e1⟩ := slot b o e0 (frf b hf) hf
      exact ⟨_, e1⟩
    · obtain ⟨o1, e1⟩ := un0.there b o e0 (by simp)
      obtain ⟨o2, e2⟩ := hB2 b o1 e1 (bn b o e0 hf) (fun z => by rw [z, hn] at e0; cases e0)
      exact ⟨o2, fl.1 _ _ e2⟩
  · refine (hok a o e).stay (fun b u hb eu => ?_) (fun b z => z) (fun b xs z => z)
    have hb' : ∃ ob, B.get? b = some ob := by
      rcases hb with rfl | hb
      · exact trk _ _ e
      · exact trk _ _ hb
    obtain ⟨ob, eb⟩ := hb'
    have := bg _ _ eb
    rw [eu] at this; cases this
    exact fl.1 _ _ eb
  · exact hB1 b o (un0.keep b o e0 hn0 hf (by simp)) (un0.free b o e0 hn0 (by simp)) (bn b o e0 hf)
  · obtain ⟨o1, e1⟩ := un0.there b o e0 (by simp)
    exact hB2 b o1 e1 (bn b o e0 hf) (fun z => by rw [z, hn] at e0; cases e0)
/-- what was not there is new -/
theorem fresh0 {H1 : Hp} {s1 : Shared} {ea : Addr} (un0 : Un (frs outer) [] H0 H1 s0.heap s1.heap) (hn : s1.heap.get? ea = none) : s0.heap.get? ea = none := by
  cases q : s0.heap.get? ea with
  | none => rfl
  | some o =>
    obtain ⟨o1, e1⟩ := un0.there ea o q (by simp)
    rw [hn] at e1; cases e1
/-- a callee's exception goes on -/
theorem passes1 : Passes (CX1 P w) (cxOf (CX1 P w) P w K mg base N qual scope f cd A outer s0 H0 E) E := by
  intro pins st H1 s1 e s' I x
  obtain ⟨ea, C, od, H', B, t, rfl, os, bare, un, hok, fl, hB1, hB2, trk, hn, hn', di, hE⟩ := x
  refine wpAny_mono (calm_any (calm_leaving _ _) (wpAny_leaves_onW (A := A.deeper (envOfC qual scope s0.heap.objs.size f cd)) (Q := fun _ s2 => ∃ h', s2 = { s' with heap := h' } ∧ Heap.FlyingW B outer ea C (.ref t) h' ∧ s'.heap.UpToSlots h') (I.ok.frames) rfl fl fun h' fl' ups => ⟨h', rfl, fl', ups⟩)) (fun _ s2 ⟨⟨h', e2, fl', ups⟩, kd⟩ => ?_) (fun _ _ z => z)
  subst e2
  exact cx_mk I os bare un hok fl' fl.1 hB1 (fun b o e hf _ => hB2 b o e hf) trk (fun b o _ e hd => ups b o e hd) (fresh0 I.base hn) hn' (di.keep kd (let ⟨o, q, _⟩ := fl'.there; ⟨o, q⟩)) hE
/-- an exception made in the body -/
theorem raises1 {pins : List (Addr × Obj)} {st : L2.St} {H : Hp} {s : Shared} {h' : Heap} {ea : Addr} {C : Value} {args : List Value} (I : L2.Inv (cxOf (CX1 P w) P w K mg base N qual scope f cd A outer s0 H0 E) pins st H s)
    (x : Heap.MadeExcOf s.heap h' ea C args) (hE : E C none H) : (cxOf (CX1 P w) P w K mg base N qual scope f cd A outer s0 H0 E).xe (.ref ea) { s with heap := h' } := by
  have fr : s.heap.FunFrames base (envOfC qual scope s0.heap.objs.size f cd :: outer) := I.stack
  have frees : ∀ b ∈ frs (envOfC qual scope s0.heap.objs.size f cd :: outer), H b = none := I.stkFree
  have di : DictIs h' ea none := let ⟨t, q, _⟩ := x.there; ⟨_, q, rfl⟩
  refine wpAny_mono (calm_any (calm_leaving _ _) (wpAny_leaves_madeW (A := A.deeper (envOfC qual scope s0.heap.objs.size f cd)) (s := { s with heap := h' }) (base := PySem.W.hideAll s.heap (frs (envOfC qual scope s0.heap.objs.size f cd :: outer))) (h := s.heap)
    (Q := fun _ s2 => ∃ h'' t, s2 = { s with heap := h'' } ∧ Heap.FlyingW (PySem.W.hideAll s.heap (frs (envOfC qual scope s0.heap.objs.size f cd :: outer))) outer ea C (.ref t) h'' ∧ h'.UpToSlots h'') (I.ok.frames) rfl (fun b o q => PySem.W.of_hideAll _ q)
    (PySem.W.funFrames_hide fr fun env he b hb => List.mem_filterMap.mpr ⟨env, he, hb⟩) x fun h'' t fl tup nt ups => ⟨h'', t, rfl, fl, ups⟩)) (fun _ s2 ⟨⟨h'', t, e2, fl, ups⟩, kd⟩ => ?_) (fun _ _ z => z)
  subst e2
  refine cx_mk (s' := s) (g := s.heap) (H' := H) I rfl I.bare Un.refl I.hok fl (fun b o q => PySem.W.of_hideAll _ q) (fun b o e _ hf => PySem.W.hideAll_get _ e hf) (fun b o e hf _ => ⟨o, PySem.W.hideAll_get _ e hf⟩) (fun a o e => ?_) (fun b o _ e hd => ups b o (x.keeps _ _ e) hd) (fresh0 I.base x.new) ?_ (di.keep kd (let ⟨o, q, _⟩ := fl.there; ⟨o, q⟩)) hE
  · obtain ⟨u, hu⟩ := objok_some (I.hok a o e)
    exact ⟨u, PySem.W.hideAll_get _ hu fun hb => by rw [frees a hb] at e; cases e⟩
  · cases q : H ea with
    | none => rfl
    | some o =>
      obtain ⟨u, hu⟩ := objok_some (I.hok ea o q)
      rw [x.new] at hu; cases hu
end

/-! ### the classes of exceptions -/
theorem exc_obj {K : PySem.W.Frag} {h : Heap} {C : Addr} {bmB : List Value} {newId : String} (X : K.In h) (hq : PySem.W.excIn K C bmB newId = true) :
    ∃ z1 z2 z3 z4 z5 z6 z7 z8 z9 y1 y2 y3 y4 y5 y6 y7 mN, h.get? C = some (excClassObj z3 z4 C z2 z5 z1 z6 z7 z8 z9 y1 y2 y3 y4 y5 y6 y7 newId) ∧ h.Ns z2 mN ∧ mN "__init__" = none ∧ OwnTail h bmB z1 := by
  unfold PySem.W.excIn at hq
  split at hq
  · rename_i odd ccd slots hlook
    split at hq
    · rename_i C2 tl a0 a1 a2 a3 nn a5 hmro hsl
      rw [Bool.and_eq_true, Bool.and_eq_true, Bool.and_eq_true, Bool.and_eq_true, Bool.and_eq_true] at hq
      obtain ⟨⟨⟨⟨⟨q1, q2⟩, q3⟩, q4⟩, q5⟩, q6⟩ := hq
      have q1 := beq_iff_eq.mp q1
      have q2 := beq_iff_eq.mp q2
      have q3 : ccd.hasDel = false := by simpa using q3
      have q6 := beq_iff_eq.mp q6
      subst q1 q2
      have es : slots = #[a0, a1, a2, a3, some (.builtin nn), a5] := by
        have : slots.toList = [a0, a1, a2, a3, some (.builtin nn), a5] := hsl
        rw [← Array.toArray_toList (xs := slots), this]
      obtain ⟨c1, c2, c3, c4, c5, c6, c7, c8, c9, c10, c11⟩ := ccd
      cases q3
      have hmro : c3 = .ref C2 :: tl := hmro
      subst hmro
      subst es
      exact ⟨tl, c4, c1, c5, c2, c6, c7, c8, c9, c10, odd, a0, a1, a2, a3, a5, _, X _ _ hlook, .of_isNs (PySem.W.isNs_of_in X q5), PySem.W.nsMap_none_of_in X q5 q6, PySem.W.tail_of_in X q4⟩
    · cases hq
  · cases hq
def bmV : List Value := [.type "ValueError", .type "Exception", .type "BaseException", .type "object"]
/-- an exception class of one's own over ValueError, without an __init__ -/
structure ExC (K : PySem.W.Frag) (C : Addr) : Prop where
  ex : PySem.W.excIn K C bmV "ValueError.__new__" = true
section
variable {X : Cx} {G : Gr} {E : XK} {dl : List Slot} {e : Expr} {es : List Expr} {d : Dt} {ds : List Dt} {np cpos pos : Pos} {x : Str} {C : Addr}
/-- what a raise in the body wants of the context -/
def RaiseD (X : Cx) (E : XK) : Prop := ∀ (pins : List (Addr × Obj)) (st : L2.St) (H : Hp) (s : Shared) (h' : Heap) (ea : Addr) (C : Value) (args : List Value), L2.Inv X pins st H s → Heap.MadeExcOf s.heap h' ea C args → E C none H → X.xe (.ref ea) { s with heap := h' }
theorem raiseD1 {P : Program} {w : World} {K : PySem.W.Frag} {mg : Str → Option Value} {base : Heap} {N : List Str} {qual : Str} {scope : Scope} {f : Addr} {cd : Value} {A : Around} {outer : List Env} {s0 : Shared} {H0 : Hp} :
    RaiseD (cxOf (CX1 P w) P w K mg base N qual scope f cd A outer s0 H0 E) E := fun pins st H s h' ea C args I x hE => raises1 I x hE
theorem es_raise (hx : RaiseD X E) (hC : ExC X.K C) (hm : X.mg x = some (.ref C)) (hcalm : X.calm = true) (ha : EA X G dl (e :: es) ds) (hl : ds.length ≤ sizeLine) (hg : Gl X x := by rfl) (hdb : (x == ("__debug__" : Str)) = false := by decide)
    (he : starEach (e :: es) X.env = (false, eval e X.env) :: starEach es X.env := by rfl) (hpl : (backTo cpos (starEach (e :: es) X.env)).any (·.1) = false := by rfl) : ES X G E dl (.Raise (some (.Call (.Name x np) (e :: es) [] cpos)) none pos) (.ex (.ref C) []) := by
  intro pins s st H D I ⟨Hf, S, k⟩
  obtain ⟨z1, z2, z3, z4, z5, z6, z7, z8, z9, y1, y2, y3, y4, y5, y6, y7, mN, hO, hN, hni, hT⟩ := exc_obj I.ok.mod.kin hC.ex
  refine wpAny_Raise_call_subU (C := C) (nm := z3) (q := z4) (N := z2) (bs := z5) (bm := z1) (hdct := z6) (sn := z7) (sub := z8) (ab := z9) (col := y1) (dd := y2) (k0 := y3) (k1 := y4) (k2 := y5) (k3 := y6) (k5 := y7) PySem.F.excBase_ValueError (bmB := bmV) (by decide) PySem.F.excBase_ValueError (hT.hasType (by decide)) (I.ok.hd hcalm) hpl hni (ld_glob I hg hm ⟨rfl, ?_⟩ hdb)
  have h1 := ha cpos pins s st H (fun vs H1 => ∃ Hf1, Grow Hf H Hf1 H1 ∧ Reps X.K Hf1 vs ds) I ⟨Hf, S, fun vs Hf1 H1 g1 r1 => ⟨Hf1, g1, r1⟩⟩
  rw [he] at h1 ⊢
  refine Calls.evalArgs_plain (thn h1 fun us s1 ⟨vs, H1, I1, rv, Hf1, g1, r1⟩ => ⟨rfl, ?_, I1.bk _ _ hO, hN.keeps I1.bk, hT.keeps I1.bk, fun h' ea mx => ?_⟩)
  · show us.length ≤ sizeLine
    rw [← rv.length, r1.length]; exact hl
  · exact hx pins st H1 s1 h' ea (.ref C) us I1 mx (k none Hf1 H1 (S.gr.trans g1) rfl)
end
end Sg

/-! list comprehensions of one clause: the block's context over the def's -/
namespace Sg
open PySem PySem.Spec PyProof.Rows L2

def nvr : Value → Shared → Prop := fun _ _ => False
theorem lc_loop {P : Program} {w : World} {A : Around} {R : Result → Shared → Prop} {s : Shared} {elt tg iter : Expr} {sc : Scope} {pos : Pos} {it acc : Value} {env : Env} (J : Nat → Shared → Prop)
    (turn : ∀ n s, J n s → wpAny (model P w) A (pyNext it) (fun r s1 => match r with
      | none => R (.ok .next) s1
      | some v => wpAny (model P w) A (letOwnedTupleGo tg it v) (fun _ s2 => wpAny (model P w) A (assign tg env v) (fun _ s3 => wpAny (model P w) A (eval elt env) (fun x s4 =>
          wpAny (model P w) A (call (.builtin "list.append") [acc, x]) (fun _ s5 => ∃ m, m < n ∧ J m s5) nvr s4) nvr s3) nvr s2) nvr s1) nvr s)
    (n : Nat) (h : J n s) : codeAny (model P w) A (.compLoop (.ListComp elt [⟨tg, iter, [], 0⟩] sc pos) 0 it acc env) R s := by
  have off : ∀ {B : Value → Shared → Prop} (x : Value) (s' : Shared), nvr x s' → B x s' := fun _ _ z => z.elim
  refine codeAny_loop rfl J (fun n s hJ => ?_) n h
  show wpAny _ A ((compTurn (.ListComp elt [⟨tg, iter, [], 0⟩] sc pos) 0 it acc env).onRaise (fun x => (do noteFrame x env; theTreesLotGoes x))) _ _ s
  refine wpAny_noted ?_
  rw [compTurn_list1]
  refine wpAny_bind (wpAny_standAt (wpAny_bind (wpAny_mono (turn n s hJ) (fun r s1 h1 => ?_) off)))
  cases r with
  | none => exact wpAny_pure h1
  | some v =>
    refine wpAny_bind (wpAny_mono h1 (fun _ s2 h2 => wpAny_bind (wpAny_mono h2 (fun _ s3 h3 => wpAny_bind (wpAny_bind ?_)) off)) off)
    exact wpAny_mono h3 (fun x s4 h4 => wpAny_bind (wpAny_mono h4 (fun _ s5 h5 => wpAny_pure (wpAny_pure ⟨rfl, h5⟩)) off)) off

/-! ### the cells that the block takes -/
def clGo (cells : List (Str × Addr)) : List (Str × NameKind) → List (Str × Addr) → List (Str × Addr)
  | [], cs => cs
  | (n, k) :: r, cs => if k == .free then clGo cells r ((n, (cells.lookup n).getD 0) :: cs) else clGo cells r cs
def clOf (sc : Scope) (env : Env) : List (Str × Addr) := clGo env.cells sc.names []
theorem clGo_eq {env : Env} : ∀ (l : List (Str × NameKind)) (cs : List (Str × Addr)), (∀ y ∈ l, y.2 = .free → ∃ c, env.cells.lookup y.1 = some c) →
    (forIn l cs fun (x : Str × NameKind) r => (if x.2 == .free then (do let c ← cellOf env x.1; pure (ForInStep.yield ((x.1, c) :: r))) else pure (ForInStep.yield r) : Sem _)) = pure (clGo env.cells l cs)
  | [], cs, _ => rfl
  | (n, k) :: l, cs, h => by
    have hr : ∀ y ∈ l, y.2 = .free → ∃ c, env.cells.lookup y.1 = some c := fun y hy => h y (List.mem_cons_of_mem _ hy)
    rw [List.forIn_cons, clGo]
    by_cases hk : (k == NameKind.free) = true
    · obtain ⟨c, hc⟩ := h (n, k) List.mem_cons_self (by simpa using hk)
      have hc : env.cells.lookup n = some c := hc
      simp only [hk, if_true, cellOf, hc, pure_bind, Option.getD_some]
      exact clGo_eq l _ hr
    · simp only [hk, if_false, pure_bind]
      exact clGo_eq l _ hr
theorem clos_eq {sc : Scope} {env : Env} (h : ∀ y ∈ sc.names, y.2 = .free → ∃ c, env.cells.lookup y.1 = some c) : closureFor sc env = pure (clOf sc env) := by
  unfold closureFor clOf
  have := clGo_eq (env := env) sc.names [] h
  simp only [bind_pure]
  refine Eq.trans ?_ this
  congr 1
theorem clGo_in {cells : List (Str × Addr)} {y : Str} {c : Addr} : ∀ (l : List (Str × NameKind)) (cs : List (Str × Addr)), (clGo cells l cs).lookup y = some c → ((y, NameKind.free) ∈ l ∧ (cells.lookup y).getD 0 = c) ∨ cs.lookup y = some c
  | [], cs, h => .inr h
  | (n, k) :: l, cs, h => by
    rw [clGo] at h
    by_cases hk : (k == NameKind.free) = true
    · rw [if_pos hk] at h
      have hk' : k = .free := by simpa using hk
      subst hk'
      rcases clGo_in l _ h with ⟨h1, h2⟩ | h1
      · exact .inl ⟨List.mem_cons_of_mem _ h1, h2⟩
      · rw [List.lookup_cons] at h1
        cases q : (y == n) with
        | true =>
          rw [q] at h1
          have e : y = n := by simpa using q
          subst e
          exact .inl ⟨List.mem_cons_self, Option.some.inj h1⟩
        | false => rw [q] at h1; exact .inr h1
    · rw [if_neg hk] at h
      rcases clGo_in l _ h with ⟨h1, h2⟩ | h1
      · exact .inl ⟨List.mem_cons_of_mem _ h1, h2⟩
      · exact .inr h1
theorem clGo_has {cells : List (Str × Addr)} {y : Str} : ∀ (l : List (Str × NameKind)) (cs : List (Str × Addr)), ((y, NameKind.free) ∈ l ∨ ∃ c, cs.lookup y = some c) → ∃ c, (clGo cells l cs).lookup y = some c
  | [], cs, h => by
    rcases h with h | h
    · cases h
    · exact h
  | (n, k) :: l, cs, h => by
    rw [clGo]
    by_cases hk : (k == NameKind.free) = true
    · rw [if_pos hk]
      refine clGo_has l _ ?_
      rcases h with h | ⟨c, h⟩
      · rcases List.mem_cons.mp h with h | h
        · cases h; exact .inr ⟨_, by rw [List.lookup_cons, show (y == y) = true by simp]⟩
        · exact .inl h
      · refine .inr ?_
        rw [List.lookup_cons]
        cases q : (y == n) with
        | true => exact ⟨_, rfl⟩
        | false => exact ⟨c, h⟩
    · rw [if_neg hk]
      refine clGo_has l _ ?_
      rcases h with h | h
      · rcases List.mem_cons.mp h with h | h
        · cases h; exact absurd rfl hk
        · exact .inl h
      · exact .inr h
theorem relab_kind {env : Env} {y : Str} {k : NameKind} : ∀ {names : List (Str × NameKind)}, (names.map fun (n, k) => if (k == NameKind.free && env.scope.kind == .function && env.kindOf n == some .cell) then (n, NameKind.cell) else (n, k)).lookup y = some k → ∃ k', (y, k') ∈ names ∧ (k = k' ∨ k' = .free)
  | [], h => by simp at h
  | (n, kk) :: r, h => by
    rw [List.map_cons, List.lookup_cons] at h
    by_cases hc : (kk == NameKind.free && env.scope.kind == .function && env.kindOf n == some .cell) = true
    · simp only [hc, if_true] at h
      cases q : (y == n) with
      | true =>
        have e : y = n := by simpa using q
        subst e
        have : kk = .free := by
          have := hc; simp at this; exact this.1.1
        exact ⟨kk, List.mem_cons_self, .inr this⟩
      | false =>
        rw [q] at h
        obtain ⟨k', h1, h2⟩ := relab_kind h
        exact ⟨k', List.mem_cons_of_mem _ h1, h2⟩
    · simp only [hc, Bool.false_eq_true, if_false] at h
      cases q : (y == n) with
      | true =>
        have e : y = n := by simpa using q
        subst e
        rw [q] at h
        exact ⟨kk, List.mem_cons_self, .inl (Option.some.inj h).symm⟩
      | false =>
        rw [q] at h
        obtain ⟨k', h1, h2⟩ := relab_kind h
        exact ⟨k', List.mem_cons_of_mem _ h1, h2⟩

theorem relab_free {env : Env} {y : Str} : ∀ {names : List (Str × NameKind)}, names.lookup y = some .free → (names.map fun (n, k) => if (k == NameKind.free && env.scope.kind == .function && env.kindOf n == some .cell) then (n, NameKind.cell) else (n, k)).lookup y = some .cell ∨
    (names.map fun (n, k) => if (k == NameKind.free && env.scope.kind == .function && env.kindOf n == some .cell) then (n, NameKind.cell) else (n, k)).lookup y = some .free
  | [], h => by simp at h
  | (n, kk) :: r, h => by
    rw [List.map_cons, List.lookup_cons]
    rw [List.lookup_cons] at h
    cases q : (y == n) with
    | true =>
      rw [q] at h
      have : kk = .free := Option.some.inj h
      subst this
      by_cases hc : (NameKind.free == NameKind.free && env.scope.kind == .function && env.kindOf n == some .cell) = true
      · left; simp only [hc, if_true]; simp [q]
      · right; simp only [hc, Bool.false_eq_true, if_false]; simp [q]
    | false =>
      rw [q] at h
      have ih := relab_free (env := env) h
      by_cases hc : (kk == NameKind.free && env.scope.kind == .function && env.kindOf n == some .cell) = true
      · simp only [hc, if_true, q]; exact ih
      · simp only [hc, Bool.false_eq_true, if_false, q]; exact ih

/-! ### the block's context -/
/-- what a block's scope must be over the def's -/
structure BlkScope (X : Cx) (N : List Str) (ix : List Nat) (x : Str) (sc : Scope) : Prop where
  nd : N.Nodup
  nm : N = x :: ix.map (fun j => X.N.getD j "")
  kind : sc.kind = .function
  nocell : ∀ y ∈ sc.names, y.2 ≠ .cell
  names : ∀ y ∈ sc.names, y.2 = .local → sc.names.lookup y.1 = some .local
  hx : sc.names.lookup x = some .local
  fr : ∀ y ∈ sc.names, y.2 = .free → X.env.kindOf y.1 = some .cell ∨ X.env.kindOf y.1 = some .free
  ixs : ∀ j ∈ ix, ∃ y, X.N[j]? = some y ∧ sc.names.lookup y = some .free
def blkOf (X : Cx) (N : List Str) (sc : Scope) (C : Addr) (fp : List Addr) (s : Shared) (H : Hp) : Cx :=
  { X with N := N, s₀ := s, H₀ := H, env := compEnvC sc (clOf sc X.env) C X.env, outer := X.stack, stack := X.stack, ex := fp, fn := fun _ => false, pn := [], xe := nvr }
def frees (ix : List Nat) (st : L2.St) : L2.St := ix.map fun j => (st[j]?).join
section
variable {X : Cx} {N : List Str} {ix : List Nat} {x : Str} {sc : Scope} {pins : List (Addr × Obj)} {st : L2.St} {H H' : Hp} {s s' : Shared} {C D : Addr} {fp : List Addr} {h1 : Heap}
theorem clo_of (B : BlkScope X N ix x sc) (ok : X.Ok) : closureFor sc X.env = pure (clOf sc X.env) := clos_eq fun y hy hk => ok.has y.1 (B.fr y hy hk)
theorem cl_sub (B : BlkScope X N ix x sc) (ok : X.Ok) {y : Str} {c : Addr} (h : (clOf sc X.env).lookup y = some c) : X.env.cells.lookup y = some c ∧ (y, NameKind.free) ∈ sc.names := by
  rcases clGo_in _ _ h with ⟨h1, h2⟩ | h1
  · obtain ⟨c', h3⟩ := ok.has y (B.fr _ h1 rfl)
    rw [h3] at h2
    cases h2
    exact ⟨h3, h1⟩
  · cases h1
theorem blk_ok (B : BlkScope X N ix x sc) (I : L2.Inv X pins st H s) (hC : s.heap.objs.size ≤ C) (hf : ∀ b ∈ fp, FpOk X pins H b) (hlt : ∀ b ∈ fp, b < s.heap.objs.size) : (blkOf X N sc C fp s H).Ok where
  mod := I.ok.mod
  kind := B.kind
  glob := I.ok.glob
  blt := I.ok.blt
  above := hC
  inj := fun y z c h1 h2 => I.ok.inj y z c (cl_sub B I.ok h1).1 (cl_sub B I.ok h2).1
  has := fun y hy => by
    have hy : (relabel sc X.env).names.lookup y = some .cell ∨ (relabel sc X.env).names.lookup y = some .free := hy
    have : (y, NameKind.free) ∈ sc.names := by
      rcases hy with hy | hy
      · obtain ⟨k', h1, h2⟩ := relab_kind hy
        rcases h2 with h2 | h2
        · subst h2; exact absurd rfl (B.nocell _ h1)
        · subst h2; exact h1
      · obtain ⟨k', h1, h2⟩ := relab_kind hy
        rcases h2 with h2 | h2 <;> subst h2 <;> exact h1
    exact clGo_has _ _ (.inl this)
  cab := fun y c h => by cases h
  hd := I.ok.hd
  frames := I.ok.frames
  stk := .inl rfl
  exf := fun b hb => ⟨Nat.ne_of_lt (Nat.lt_of_lt_of_le (hlt b hb) hC), fun y c h => (hf b hb).2.2.2.2.1 y c (cl_sub B I.ok h).1⟩
  bs := I.bs
  bsz := Nat.le_trans I.ok.bsz I.sz
  noex := fun b o e hb => by
    rcases (hf b hb).2.2.2.1 with z | z
    · exact I.ok.noex b o e z
    · exact absurd (Nat.lt_of_lt_of_le (Heap.lt_size e) (Nat.le_trans I.ok.bsz z)) (Nat.lt_irrefl _)
  exfs := fun b hb z => by
    rcases List.mem_cons.mp (I.stkSub b z) with z | z
    · exact (hf b hb).2.1 z
    · exact (hf b hb).2.2.1 z
  funs := I.stack
  frf := I.stkFree
/-- the block begins -/
theorem blk_start (B : BlkScope X N ix x sc) (I : L2.Inv X pins st H s) (hf : ∀ b ∈ fp, FpOk X pins H b) (hlt : ∀ b ∈ fp, b < s.heap.objs.size) (hC : C = s.heap.objs.size + 1) (k : ∀ b o, s.heap.get? b = some o → h1.get? b = some o)
    (hn : h1.Ns C fun _ => none) (hD : h1.get? s.heap.objs.size = some { cls := .type "list", data := .seq ([] : List Value).toArray 0 }) {t' : Nat} :
    L2.Inv (blkOf X N sc C fp s H) [] (none :: frees ix st) (upd H s.heap.objs.size (.lst [])) { s with heap := h1, toks := t' } := by
  have hC' : s.heap.objs.size ≤ C := by rw [hC]; exact Nat.le_succ _
  have fr : ∀ a, s.heap.objs.size ≤ a → H a = none := fun a ha => I.hok.fresh ha
  have ok := blk_ok B I hC' hf hlt
  have cne : ∀ y c, (clOf sc X.env).lookup y = some c → H c = none ∧ c < s.heap.objs.size ∧ ∃ v, s.heap.IsCell c v := fun y c h => by
    have h := (cl_sub B I.ok h).1
    obtain ⟨v, q⟩ := I.cell y c h
    exact ⟨I.freeC y c h, q.lt, v, q⟩
  refine ⟨ok, rfl, I.bare, Un.laid k (Nat.le_refl _) (fr _ (Nat.le_refl _)), ⟨_, hn, fun i y v e1 e2 e3 => ?_⟩, fun y c h => ?_, ?_, fun y c h => ?_, fun p hp => absurd (show p ∈ ([] : List (Addr × Obj)) from hp) (by simp), ?_, ?_⟩
  · have e1 : N[i]? = some y := e1
    cases i with
    | zero => cases e2
    | succ i =>
      rw [B.nm, List.getElem?_cons_succ, List.getElem?_map] at e1
      rw [List.getElem?_cons_succ] at e2
      unfold frees at e2
      rw [List.getElem?_map] at e2
      cases q : ix[i]? with
      | none => rw [q] at e1; cases e1
      | some j =>
        rw [q] at e1 e2
        obtain ⟨y', hy1, hyl⟩ := B.ixs j (List.mem_of_getElem? q)
        have hy2 := PySem.mem_of_lookup hyl
        have ey : y = y' := by
          have e1 : X.N.getD j "" = y := Option.some.inj e1
          rw [List.getD_eq_getElem?_getD, hy1] at e1
          exact e1.symm
        subst ey
        have e2 : (st[j]?).join = some v := Option.some.inj e2
        have e2' : st[j]? = some (some v) := by
          cases q2 : st[j]? with
          | none => rw [q2] at e2; cases e2
          | some z => rw [q2] at e2; rw [show z = some v from e2]
        have kd := B.fr _ hy2 rfl
        have vis : Vis X.env.scope y := by
          rcases kd with z | z
          · exact .inr (.inl z)
          · exact .inr (.inr z)
        obtain ⟨m, _, hl⟩ := I.loc
        obtain ⟨u, r, l⟩ := hl j y v hy1 e2' vis
        refine ⟨u, r, .inr ?_⟩
        rcases l with ⟨z, _⟩ | ⟨_, c, hc, ic⟩
        · rcases kd with z' | z' <;> rw [z] at z' <;> cases z'
        · obtain ⟨c', hc'⟩ := clGo_has (cells := X.env.cells) sc.names [] (.inl hy2)
          have := (cl_sub B I.ok hc').1
          rw [hc] at this; cases this
          obtain ⟨oc, hoc, hd⟩ := ic
          refine ⟨?_, c, hc', oc, k _ _ hoc, hd⟩
          rcases e3 with e3 | e3 | e3
          · have e3 : (relabel sc X.env).names.lookup y = some .local := e3
            rcases relab_free (env := X.env) hyl with z | z
            · exact absurd (e3.symm.trans z) (by decide)
            · exact absurd (e3.symm.trans z) (by decide)
          · exact .inl e3
          · exact .inr e3
  · obtain ⟨_, _, v, oc, hoc, hd⟩ := cne y c h
    exact ⟨v, oc, k _ _ hoc, hd⟩
  · show upd H s.heap.objs.size (.lst []) C = none
    rw [upd_ne (by rw [hC]; exact Nat.succ_ne_self _)]
    exact fr _ hC'
  · show upd H s.heap.objs.size (.lst []) c = none
    obtain ⟨q1, q2, _⟩ := cne y c h
    rw [upd_ne (Nat.ne_of_lt q2)]
    exact q1
  · exact I.hok.laid k (Nat.le_refl _) ⟨Nat.zero_le _, [], 0, .nil, hD⟩
  · show (none :: frees ix st).length = N.length
    rw [B.nm]
    unfold frees
    simp
/-- the block's turns: W by the turn, a measure, what is gathered and the heap -/
def tBlk (te : TE) (fs : L2.St) (J : It) (D : Addr) (Q : List V → Hp → Prop) (H : Hp) : Prop :=
  ∃ W : Nat → Nat → List V → Hp → Prop, (∃ m, W 0 m [] (upd H D (.lst []))) ∧ ∀ i m ys H1, W i m ys H1 →
    (J.stop i H1 ∧ Q ys H1) ∨ (J.go i H1 ∧ ys.length < sizeLine ∧ ∀ v H2, J.yld i H1 v H2 → te (some v :: fs) H2 fun y H3 => H3 D = some (.lst ys) ∧ ∃ m', m' < m ∧ W (i + 1) m' (ys ++ [y]) (upd H3 D (.lst (ys ++ [y]))))
theorem lc_core {elt iter : Expr} {px pos : Pos} {te : TE} {J : It} {it : Addr} {tn : Nat → Heap → Prop} {Q : Addr → List V → Hp → Prop} {RR : Value → Addr → Result → Shared → Prop} {E : Value → Shared → Prop} (hc : X.calm = true) (B : BlkScope X N ix x sc)
    (helt : ∀ C fp s H, PE (blkOf X N sc C fp s H) elt te) (I : L2.Inv X pins st H s) (T : Turn X.prog X.w X.K (.Name x px) J fp it tn) (h0 : tn 0 s.heap) (hf : ∀ b ∈ fp, FpOk X pins H b)
    (hq : ∀ D, H D = none → tBlk te (frees ix st) J D (Q D) H)
    (hRR : ∀ D C ys H' s', L2.Inv X pins st H' s' → (∃ m, s'.heap.Ns C m) → FpOk X pins H' C → Q D ys H' → RR (.ref D) C (.ok .next) s') :
    wpAny (model X.prog X.w) X.A (newList []) (fun acc s3 => wpAny (model X.prog X.w) X.A (newFunctionEnv sc X.env.globals (clOf sc X.env) [] X.env.qual none .none (some X.env)) (fun cenv s4 =>
      codeAny (model X.prog X.w) X.A (.compStart (.ListComp elt [⟨.Name x px, iter, [], 0⟩] sc pos) 0 (.ref it) acc { cenv with scope := relabel sc X.env }) (RR acc cenv.locals) s4) E s3) E s := by
  have hlt : ∀ b ∈ fp, b < s.heap.objs.size := fun b hb => by
    obtain ⟨o, e, _⟩ := T.obj _ _ h0 b hb
    exact Heap.lt_size e
  refine wpAny_newObj_type (wpAny_newFunctionEnv B.nocell (fun y hy => absurd hy (by simp)) (fun h1 hns hsb => ?_) B.kind)
  dsimp only at hns hsb ⊢
  generalize hG : s.heap.push { cls := .type "list", dict := none, data := .seq ([] : List Value).toArray } = g at hns hsb ⊢
  have hC : g.objs.size = s.heap.objs.size + 1 := by rw [← hG, Heap.size_push]
  have hDC : s.heap.objs.size ≠ g.objs.size := by rw [hC]; exact Nat.ne_of_lt (Nat.lt_succ_self _)
  have old : ∀ b o, s.heap.get? b = some o → h1.get? b = some o := fun b o e =>
    hsb.extBut b o (by rw [hC]; exact Nat.ne_of_lt (Nat.lt_succ_of_lt (Heap.lt_size e))) (Heap.get?_push_of_some _ (hG ▸ Heap.get?_push_of_some _ e))
  have hacc : h1.get? s.heap.objs.size = some { cls := .type "list", data := .seq ([] : List Value).toArray 0 } := hsb.extBut _ _ hDC (Heap.get?_push_of_some _ (hG ▸ Heap.get?_push_size _ rfl))
  have hD : H s.heap.objs.size = none := I.hok.fresh (Nat.le_refl _)
  obtain ⟨W, ⟨m0, w0⟩, turn⟩ := hq _ hD
  have I0 := blk_start (t' := s.toks + ([] : List (Str × Value)).length) B I hf hlt hC old (by simpa using hns) hacc
  have st0 : tn 0 h1 := T.keep _ _ _ h0 fun b _ o e => old b o e
  have hCle : s.heap.objs.size ≤ g.objs.size := by rw [hC]; exact Nat.le_succ _
  have stat : ∀ {H' : Hp}, (∀ b ∈ fp, H' b = none) → ∀ b ∈ fp, FpOk (blkOf X N sc g.objs.size fp s H) [] H' b := fun {H'} hn b hb =>
    ⟨hn b hb, ((blk_ok B I hCle hf hlt).exf b hb).1, (blk_ok B I hCle hf hlt).exfs b hb, .inl hb, ((blk_ok B I hCle hf hlt).exf b hb).2, fun p hp => absurd (show p ∈ ([] : List (Addr × Obj)) from hp) (by simp)⟩
  have hN : (blkOf X N sc g.objs.size fp s H).N[0]? = some x := by
    show N[0]? = some x
    rw [B.nm]; rfl
  have hxl : (blkOf X N sc g.objs.size fp s H).env.scope.names.lookup x = some .local := lookup_relabel_local B.hx
  have loop : ∀ s3 : Shared, s3 = { s with heap := h1, toks := s.toks + ([] : List (Str × Value)).length } →
      codeAny (model X.prog X.w) X.A (.compLoop (.ListComp elt [⟨.Name x px, iter, [], 0⟩] sc pos) 0 (.ref it) (.ref s.heap.objs.size) (compEnvC sc (clOf sc X.env) g.objs.size X.env)) (RR (.ref s.heap.objs.size) g.objs.size) s3 := by
    rintro s3 rfl
    refine lc_loop (fun n s' => ∃ i ys σ H', L2.Inv (blkOf X N sc g.objs.size fp s H) [] (σ :: frees ix st) H' s' ∧ tn i s'.heap ∧ (∀ b ∈ fp, H' b = none) ∧ W i n ys H') ?_ m0
      ⟨0, [], none, _, I0, st0, fun b hb => ?_, w0⟩
    · rintro n s5 ⟨i, ys, σ, H5, I5, st5, fr5, w5⟩
      rcases turn i n ys H5 w5 with ⟨stop, qn⟩ | ⟨go, hz, step⟩
      · refine thn (T.done (blkOf X N sc g.objs.size fp s H) rfl rfl rfl hc i [] s5 _ H5 nvr I5 (stat fr5) st5 stop) fun r s6 ⟨hr, I6⟩ => ?_
        subst hr
        refine hRR _ _ ys H5 s6 ?_ ?_ (I.fpOk hCle I6.free) qn
        · exact I.call' I6.os I6.base I6.hok I6.bare fun b hb => ⟨(hf b hb).2.2.2.1, (hf b hb).2.1, (hf b hb).2.2.2.2.1, (hf b hb).2.2.2.2.2⟩
        · obtain ⟨m, hm, _⟩ := I6.loc
          exact ⟨m, hm⟩
      · refine thn (T.item (blkOf X N sc g.objs.size fp s H) rfl rfl rfl hc i [] s5 _ H5 nvr I5 (stat fr5) st5 go) fun r s6 ⟨u, hr, h6⟩ => ?_
        subst hr
        refine thn h6 fun _ s7 ⟨v, H7, I7, r7, y7, st7, fr7⟩ => ?_
        have I7' := I7.pinned (stat fr7) (T.obj _ _ st7)
        refine thn (pg_name (X := blkOf X N sc g.objs.size fp s H) (pos := px) B.nd hN (.inl hxl) (.inr hxl) _ s7 _ H7 v u (fun σ' H' => σ' = some v :: frees ix st ∧ H' = H7) I7' r7 ⟨rfl, rfl⟩) fun _ s8 h8 => ?_
        obtain ⟨σ8, H8, I8, rfl, rfl⟩ := h8
        refine thn (helt g.objs.size fp s H _ s8 _ H8 _ I8 (step v H8 y7)) fun z s9 ⟨y, H9, I9, r9, hD9, m', hm, w9⟩ => ?_
        refine thn (mt_append _ s9 _ H9 (.ref s.heap.objs.size) [y] (.ref s.heap.objs.size) [z] (fun _ H' => H' = upd H9 s.heap.objs.size (.lst (ys ++ [y]))) I9 rfl (.cons r9 .nil) ⟨_, ys, y, rfl, rfl, hD9, hz, rfl⟩) fun _ s10 h10 => ?_
        obtain ⟨_, H10, I10, _, rfl⟩ := h10
        refine ⟨m', hm, i + 1, ys ++ [y], some v, _, I10.unpinned (pins := []), T.keep _ _ _ st7 fun b hb o e => (I10.pin (b, o) (List.mem_append_right _ (List.mem_append_right _ (mem_pinsAt hb e)))).1, fun b hb => ?_, w9⟩
        obtain ⟨o, e, d⟩ := T.obj _ _ st7 b hb
        exact (I10.pin (b, o) (List.mem_append_right _ (List.mem_append_right _ (mem_pinsAt hb e)))).2.1
    · rw [upd_ne (Nat.ne_of_lt (hlt b hb))]
      exact (hf b hb).1
  exact codeAny_compStart_list (loop _ rfl) (T.self _ 0 _ _ _ st0 (loop _ rfl))
end
end Sg

/-! new things that are still owned: lists that are changed later; list comprehensions over data -/
namespace Sg
open PySem PySem.Spec PyProof.Rows L2
def tDO (K : PySem.W.Frag) (G : Gr) (dl : List Slot) (o : Own) : TE := fun st H Q => ∃ Hf, Stt K G st Hf H dl ∧ ∀ p Hf' H', Grow Hf H Hf' H' → H p = none → Hf' p = none → OwnAt K Hf' H' p o → Q (.ref p) H'
abbrev EO (X : Cx) (G : Gr) (dl : List Slot) (e : Expr) (o : Own) : Prop := PE X e (tDO X.K G dl o)
def dtO : Own → Dt
  | .lst ds => .lst ds
  | .dic k => .dic k
  | .obj C fs => .obj C fs
  | .slf _ C fs => .obj C fs
section
variable {K : PySem.W.Frag} {G : Gr} {st : L2.St} {Hf H Hf' H' : Hp} {dl : List Slot} {p : Addr} {w : Own} {u : HO}
theorem frz_grow (g : Grow Hf H Hf' H') (n : H p = none) (n' : Hf' p = none) (e : H' p = some u) : Grow Hf H (upd Hf' p u) H' :=
  ⟨g.big, g.frz.trans (same_upd n'), fun b o h => by
    by_cases hb : b = p
    · subst hb; rw [upd_same] at h; cases h; exact e
    · rw [upd_ne hb] at h; exact g.sub _ _ h, fun a o h => by
    by_cases hb : a = p
    · subst hb; exact .inr n
    · rw [upd_ne hb] at h; exact g.new a o h⟩
theorem own_rep (r : OwnAt K Hf H p w) (n : Hf p = none) : ∃ u, H p = some u ∧ Rep K (upd Hf p u) (.ref p) (dtO w) := by
  cases w with
  | lst ds => obtain ⟨vs, h, r⟩ := r; exact ⟨_, h, .lst upd_same (r.mono (same_upd n))⟩
  | dic ds => obtain ⟨vs, h, r⟩ := r; exact ⟨_, h, .dic upd_same (r.mono (same_upd n))⟩
  | obj C ds => obtain ⟨dx, fs, h, r⟩ := r; exact ⟨_, h, .obj upd_same (r.mono (same_upd n))⟩
  | slf x C ds => obtain ⟨_, dx, fs, h, r⟩ := r; exact ⟨_, h, .obj upd_same (r.mono (same_upd n))⟩
theorem Stt.setN (S : Stt K G st Hf H dl) (g : Grow Hf H Hf' H') {i : Nat} (n : H p = none) (n' : Hf' p = none) (r : OwnAt K Hf' H' p w) : Stt K G (st.set i (some (.ref p))) Hf' H' (dl.set i (.own w)) := by
  have ln := S.len
  have S' := S.grow g
  have pn : ∀ (j : Nat) (o' : Own) (a : Addr), dl[j]? = some (Slot.own o') → st[j]? = some (some (V.ref a)) → a ≠ p := fun j o' a h1 h2 => by
    obtain ⟨b, q1, _, _, q4⟩ := S.own j o' h1
    rw [h2] at q1; cases q1
    obtain ⟨u, hu⟩ := q4.some
    exact ne_of_none hu n
  refine ⟨S'.gr, by simp [S.len], fun j x h => ?_, fun j o' h => ?_, fun j k o1 o2 a h1 h2 h3 h4 => ?_⟩
  · by_cases e : i = j
    · subst e
      by_cases hl : i < dl.length
      · rw [List.getElem?_set_self hl] at h; cases h
      · rw [List.getElem?_eq_none (by simp; omega)] at h; cases h
    · rw [List.getElem?_set_ne e] at h ⊢; exact S'.val j x h
  · by_cases e : i = j
    · subst e
      by_cases hl : i < dl.length
      · rw [List.getElem?_set_self hl] at h; cases h
        exact ⟨p, List.getElem?_set_self (by omega), n', S.gr.big.free n, r⟩
      · rw [List.getElem?_eq_none (by simp; omega)] at h; cases h
    · rw [List.getElem?_set_ne e] at h ⊢
      exact S'.own j o' h
  · by_cases ej : i = j
    · by_cases ek : i = k
      · omega
      · subst ej
        rw [List.getElem?_set_ne ek] at h2 h4
        by_cases hl : i < st.length
        · rw [List.getElem?_set_self hl] at h3; cases h3
          exact absurd rfl (pn k o2 _ h2 h4)
        · rw [List.getElem?_eq_none (by simp; omega)] at h3; cases h3
    · rw [List.getElem?_set_ne ej] at h1 h3
      by_cases ek : i = k
      · subst ek
        by_cases hl : i < st.length
        · rw [List.getElem?_set_self hl] at h4; cases h4
          exact absurd rfl (pn j o1 _ h1 h3)
        · rw [List.getElem?_eq_none (by simp; omega)] at h4; cases h4
      · rw [List.getElem?_set_ne ek] at h2 h4
        exact S.dis j k o1 o2 a h1 h2 h3 h4
theorem Stt.frz (S : Stt K G st Hf H dl) {i : Nat} (hd : dl[i]? = some (.own w)) : ∃ Hf', Same Hf Hf' ∧ Stt K G st Hf' H (dl.set i (.val (dtO w))) := by
  have ln := S.len
  obtain ⟨p, h1, h2, h3, h4⟩ := S.own i w hd
  obtain ⟨u, hu, rp⟩ := own_rep h4 h2
  have hl : i < dl.length := (List.getElem?_eq_some_iff.mp hd).1
  have sm : Same Hf (upd Hf p u) := same_upd h2
  refine ⟨upd Hf p u, sm, ⟨S.gr.big, S.gr.frz.trans sm, fun b o h => ?_, fun a o h => ?_⟩, by simp [S.len], fun j x h => ?_, fun j o' h => ?_, fun j k o1 o2 a q1 q2 q3 q4 => ?_⟩
  · by_cases hb : b = p
    · subst hb; rw [upd_same] at h; cases h; exact hu
    · rw [upd_ne hb] at h; exact S.gr.sub _ _ h
  · by_cases hb : a = p
    · subst hb; exact .inr h3
    · rw [upd_ne hb] at h; exact S.gr.new a o h
  · by_cases e : i = j
    · subst e
      rw [List.getElem?_set_self hl] at h; cases h
      exact ⟨_, h1, rp⟩
    · rw [List.getElem?_set_ne e] at h
      obtain ⟨v, z1, z2⟩ := S.val j x h
      exact ⟨v, z1, z2.mono sm⟩
  · by_cases e : i = j
    · subst e; rw [List.getElem?_set_self hl] at h; cases h
    · rw [List.getElem?_set_ne e] at h
      obtain ⟨a, z1, z2, z3, z4⟩ := S.own j o' h
      have ne : a ≠ p := fun q => by subst q; exact e (S.dis i j _ _ _ hd h h1 z1)
      exact ⟨a, z1, by rw [upd_ne ne]; exact z2, z3, z4.grow rfl sm⟩
  · have tr : ∀ (j : Nat) o', (dl.set i (.val (dtO w)))[j]? = some (.own o') → dl[j]? = some (.own o') := fun j o' h => by
      by_cases e : i = j
      · subst e; rw [List.getElem?_set_self hl] at h; cases h
      · rw [List.getElem?_set_ne e] at h; exact h
    exact S.dis j k _ _ a (tr _ _ q1) (tr _ _ q2) q3 q4
end
section
variable {X : Cx} {G : Gr} {E : XK} {dl dl1 dl2 : List Slot} {a b c e : Expr} {es : List Expr} {i j : Int} {d d1 d2 : Dt} {ds : List Dt} {pos p p' : Pos} {o o' : Out} {x y f : Str} {u v : Bool} {sts sts' : List Stmt} {s : Stmt} {C : Addr} {w : Own} {fs : List (Str × Dt)}
theorem ee_o (h : EO X G dl e w) : EE X G dl e (dtO w) := peI h fun st H Q ⟨Hf, S, k⟩ => ⟨Hf, S, fun p Hf' H' g n n' r => by
  obtain ⟨u, hu, rp⟩ := own_rep r n'
  exact k _ _ H' (frz_grow g n n' hu) rp⟩
theorem ee_ol (h : EO X G dl e (.lst ds)) : EE X G dl e (.lst ds) := ee_o h
theorem ee_oo (h : EO X G dl e (.obj C fs)) : EE X G dl e (.obj C fs) := ee_o h
/-! ### statements of owned things -/
theorem es_setO (n : Nat) {x : Str} {pos' : Pos} (hN : X.N.Nodup) (he : EO X G dl e w) (hi : X.N[n]? = some x := by rfl) (hx : Loc X.env.scope x := by first | exact Or.inl rfl | exact Or.inr rfl)
    (hs : swapsWith e (some (.Name x pos')) pos.line X.env = pure false := by rfl) (hf : X.fn x = true ∨ X.env.scope.names.lookup x = some .local := by first | exact .inl rfl | exact .inr rfl | assumption) :
    ES X G E dl (.Assign [.Name x pos'] e pos) (.nx (dl.set n (.own w))) :=
  psI (ps_set hN hi hx he hs hf) fun D st H ⟨Hf, S, k⟩ => ⟨Hf, S, fun p Hf1 H1 g1 n1 n2 r1 => k _ Hf1 H1 g1.frz (S.setN g1 n1 n2 r1)⟩
theorem es_retO (h : EO X G dl e w) : ES X G E dl (.Return (some e) pos) (.ro w) := psI (ps_ret h) fun D st H ⟨Hf, S, k⟩ => ⟨Hf, S, fun p Hf1 H1 g1 n1 n2 r1 => k p Hf1 H1 (S.gr.trans g1) (S.gr.big.free n1) n2 r1⟩
theorem es_frz (i : Nat) (h : ESs X G E (dl.set i (.val (dtO w))) sts o) (hd : dl[i]? = some (.own w) := by rfl) : ESs X G E dl sts o := pssI h fun D st H ⟨Hf, S, k⟩ => by
  obtain ⟨Hf', sm, S'⟩ := S.frz hd
  exact ⟨Hf', S', k.mono sm⟩
/-- the name of an owned list, an item of it -/
def tOv (K : PySem.W.Frag) (G : Gr) (dl : List Slot) (n : Nat) (w : Own) : TE := fun st H Q => ∃ Hf a, Stt K G st Hf H dl ∧ st[n]? = some (some (.ref a)) ∧ Hf a = none ∧ OwnAt K Hf H a w ∧ Q (.ref a) H
theorem pe_ov (n : Nat) (hd : dl[n]? = some (.own w)) (hN : X.N[n]? = some x) (hv : Vis X.env.scope x) (hb : (x == ("__debug__" : Str)) = false) (hcd : (x == ("__classdict__" : Str)) = false) : PE X (.Name x p) (tOv X.K G dl n w) :=
  peI (pe_var hN hv hb hcd) fun st H Q ⟨Hf, a, S, h1, _, _, q⟩ => ⟨_, h1, q⟩
theorem ee_ixO (n : Nat) (hb : EE X G dl b (.int i)) (h : atI ds i = some d) (hd : dl[n]? = some (.own (.lst ds)) := by rfl) (hN : X.N[n]? = some x := by rfl) (hv : Vis X.env.scope x := by first | exact Or.inl rfl | exact Or.inr (Or.inl rfl) | exact Or.inr (Or.inr rfl)) (hdb : (x == ("__debug__" : Str)) = false := by decide)
    (hcd : (x == ("__classdict__" : Str)) = false := by decide) (hs : PlainIx b := by intro _ _; rfl) : EE X G dl (.Subscript (.Name x p) b pos) d :=
  peI (pe_ix ix_list (pe_ov (p := p) n hd hN hv hdb hcd) hb hs) fun st H Q ⟨Hf, S, k⟩ => by
    obtain ⟨q, h1, h2, h3, h4⟩ := S.own n _ hd
    refine ⟨Hf, q, S, h1, h2, h4, Hf, S, fun z Hf1 H1 g1 r1 => ?_⟩
    cases r1
    obtain ⟨vs, hq, rp⟩ := h4
    obtain ⟨v, hv1, hv2⟩ := rp.atI h
    exact ⟨q, vs, i, v, rfl, rfl, .of (g1.big _ _ hq), hv1, k v Hf1 H1 g1 (hv2.mono g1.frz)⟩
theorem ee_lenO (n : Nat) (hm : X.mg "len" = none) (hd : dl[n]? = some (.own (.lst ds)) := by rfl) (hN : X.N[n]? = some x := by rfl) (hv : Vis X.env.scope x := by first | exact Or.inl rfl | exact Or.inr (Or.inl rfl) | exact Or.inr (Or.inr rfl)) (hdb : (x == ("__debug__" : Str)) = false := by decide)
    (hcd : (x == ("__classdict__" : Str)) = false := by decide) (hg : Gl X "len" := by rfl) (he : starEach [.Name x p'] X.env = [(false, eval (.Name x p') X.env)] := by rfl) : EE X G dl (.Call (.Name "len" p) [.Name x p'] [] pos) (.int ds.length) :=
  peI (pe_callB call_len_seq hg hm PySem.boot_len (pa_cons (pe_ov (p := p') n hd hN hv hdb hcd) pa_nil he) (he := he)) fun st H Q ⟨Hf, S, k⟩ => by
    obtain ⟨q, h1, h2, h3, h4⟩ := S.own n _ hd
    obtain ⟨vs, hq, rp⟩ := id h4
    exact ⟨Hf, q, S, h1, h2, h4, q, vs, rfl, .inl (.of hq), by rw [rp.length]; exact k _ Hf H (.refl S.sub) (.int _)⟩
/-- xs[i] = e -/
theorem es_ixSet (n : Nat) {m : Nat} {ps pn : Pos} (he : EE X G dl e d) (hb : EE X G dl b (.int i)) (h : ixN ds.length i = some m) (hd : dl[n]? = some (.own (.lst ds)) := by rfl) (hN : X.N[n]? = some x := by rfl)
    (hv : Vis X.env.scope x := by first | exact Or.inl rfl | exact Or.inr (Or.inl rfl) | exact Or.inr (Or.inr rfl)) (hdb : (x == ("__debug__" : Str)) = false := by decide) (hcd : (x == ("__classdict__" : Str)) = false := by decide)
    (ha : ∀ v, assign (.Subscript (.Name x pn) b ps) X.env v = (do
      let ov ← holding [v] (eval (.Name x pn) X.env)
      let iv ← holding [v, ov] (eval b X.env)
      standAt ps
      holding [v, ov, iv] (setItem ov iv v)
      release [v, ov, iv] []) := by intro _; rfl)
    (hs : swapsWithSole [.Subscript (.Name x pn) b ps] e pos.line X.env = pure false := by rfl) (hw : swappedStores [.Subscript (.Name x pn) b ps] e X.env = pure none := by rfl)
    (h1 : (assignEach [.Subscript (.Name x pn) b ps] X.env).map (·.2) = [assign (.Subscript (.Name x pn) b ps) X.env] := by rfl) :
    ES X G E dl (.Assign [.Subscript (.Name x pn) b ps] e pos) (.nx (dl.set n (.own (.lst (ds.set m d))))) :=
  psI (ps_asg he (pg_sub (pe_ov (p := pn) n hd hN hv hdb hcd) hb set_list ha) hs hw h1) fun D st H ⟨Hf, S, k⟩ => ⟨Hf, S, fun v Hf1 H1 g1 r1 => by
    have S1 := S.grow g1
    obtain ⟨q, z1, z2, z3, z4⟩ := S1.own n _ hd
    refine ⟨Hf1, q, S1, z1, z2, z4, Hf1, S1, fun iv Hf2 H2 g2 r2 => ?_⟩
    cases r2
    have S2 := S1.grow g2
    obtain ⟨q', y1, y2, y3, vs, hq, rp⟩ := S2.own n _ hd
    rw [z1] at y1; cases y1
    refine ⟨q, vs, i, m, rfl, rfl, hq, by rw [rp.length]; exact h, ?_⟩
    exact k st Hf2 _ (g1.frz.trans g2.frz) (S2.updO hd z1 ⟨_, upd_same, rp.set (r1.mono g2.frz) m⟩)⟩
end
end Sg

/-! lists made and changed; comprehensions over data -/
namespace Sg
open PySem PySem.Spec PyProof.Rows L2
section
variable {X : Cx} {G : Gr} {E : XK} {dl dl1 dl2 : List Slot} {a b c e : Expr} {es : List Expr} {i j : Int} {d d1 d2 : Dt} {ds ds' : List Dt} {pos p p' apos cpos : Pos} {o o' : Out} {x y f : Str} {u v : Bool} {sts sts' : List Stmt} {s : Stmt} {C : Addr} {w : Own}
/-- a two-place operation whose outcome is a new list -/
theorem eo_op {op : Operator} {r : R2} (ho : OpR X (binaryOp op) r) (ha : EE X G dl a d1) (hb : EE X G dl b d2)
    (h : ∀ v z Hf H Q, Same Hf H → Rep X.K Hf v d1 → Rep X.K Hf z d2 → (∀ p vs, H p = none → Reps X.K Hf vs ds → Q (.ref p) (upd H p (.lst vs))) → r v z H Q) : EO X G dl (.BinOp a op b pos) (.lst ds) :=
  peI (pe_op ho ha hb) fun st H Q ⟨Hf, S, k⟩ => ⟨Hf, S, fun v Hf1 H1 g1 r1 => ⟨Hf1, S.grow g1, fun z Hf2 H2 g2 r2 => h v z Hf2 H2 Q g2.sub (r1.mono g2.frz) r2 fun p vs hp rv =>
    k p Hf2 _ ((g1.trans g2).trans (.allocO g2.sub hp)) ((g1.trans g2).big.free hp) (g2.sub.free hp) ⟨vs, upd_same, rv⟩⟩⟩
theorem reps_rep {K : PySem.W.Frag} {H : Hp} {vs : List V} {ds : List Dt} (r : Reps K H vs ds) : ∀ n : Nat, Reps K H (List.replicate n vs).flatten (List.replicate n ds).flatten
  | 0 => .nil
  | n + 1 => by
    rw [List.replicate_succ, List.replicate_succ, List.flatten_cons, List.flatten_cons]
    exact r.append (reps_rep r n)
theorem eo_rep (ha : EE X G dl a (.lst ds)) (hb : EE X G dl b (.int i)) (h1 : -(2 ^ 63) ≤ i) (h2 : i < 2 ^ 63) (hl : ds.length * i.toNat ≤ sizeLine) : EO X G dl (.BinOp a .Mult b pos) (.lst (List.replicate i.toNat ds).flatten) :=
  eo_op op_rep ha hb fun v z Hf H Q s r1 r2 k => by
    cases r1 with
    | lst q1 r1 => cases r2; exact ⟨_, i, _, rfl, rfl, s _ _ q1, h1, h2, by rw [r1.length]; exact hl, fun p hp => k p _ hp (reps_rep r1 _)⟩
/-- list(e) -/
theorem eo_list (hm : X.mg "list" = none) (ha : EE X G dl a (.lst ds)) (hg : Gl X "list" := by rfl) (he : starEach [a] X.env = [(false, eval a X.env)] := by rfl) : EO X G dl (.Call (.Name "list" p) [a] [] pos) (.lst ds) :=
  peI (pe_callTy call_list_of hg hm boot_list (ea_cons ha ea_nil he) (he := he)) fun st H Q ⟨Hf, S, k⟩ => ⟨Hf, S, fun vs Hf1 H1 g1 r1 => by
    cases r1 with
    | cons r t => cases t; cases r with
      | @lst q vs _ z r => exact ⟨q, vs, rfl, .inl (.of (g1.sub _ _ z)), fun l hl => k l Hf1 _ (g1.trans (.allocO g1.sub hl)) (g1.big.free hl) (g1.sub.free hl) ⟨vs, upd_same, r⟩⟩⟩
/-! ### max, min of two ints -/
theorem boot_maxG : bootBuiltins "max" = some (.builtin "max") := by decide +kernel
theorem boot_minG : bootBuiltins "min" = some (.builtin "min") := by decide +kernel
theorem ee_max (hm : X.mg "max" = none) (hc : X.calm = true) (ha : EA X G dl [a, b] [.int i, .int j]) (hg : Gl X "max" := by rfl) (he : starEach [a, b] X.env = (false, eval a X.env) :: starEach [b] X.env := by rfl) (hpl : (backTo pos (starEach [b] X.env)).any (·.1) = false := by rfl) :
    EE X G dl (.Call (.Name "max" p) [a, b] [] pos) (.int (if j > i then j else i)) :=
  peI (pe_callB (call_max2 hc) hg hm boot_maxG ha (by decide) (by decide) he hpl) fun st H Q ⟨Hf, S, k⟩ => ⟨Hf, S, fun vs Hf1 H1 g1 r1 => by
    cases r1 with
    | cons r1 t1 => cases t1 with
      | cons r2 t2 => cases t2; cases r1; cases r2; exact ⟨i, j, rfl, k _ Hf1 H1 g1 (.int _)⟩⟩
theorem ee_min (hm : X.mg "min" = none) (hc : X.calm = true) (ha : EA X G dl [a, b] [.int i, .int j]) (hg : Gl X "min" := by rfl) (he : starEach [a, b] X.env = (false, eval a X.env) :: starEach [b] X.env := by rfl) (hpl : (backTo pos (starEach [b] X.env)).any (·.1) = false := by rfl) :
    EE X G dl (.Call (.Name "min" p) [a, b] [] pos) (.int (if j < i then j else i)) :=
  peI (pe_callB (call_min2 hc) hg hm boot_minG ha (by decide) (by decide) he hpl) fun st H Q ⟨Hf, S, k⟩ => ⟨Hf, S, fun vs Hf1 H1 g1 r1 => by
    cases r1 with
    | cons r1 t1 => cases t1 with
      | cons r2 t2 => cases t2; cases r1; cases r2; exact ⟨i, j, rfl, k _ Hf1 H1 g1 (.int _)⟩⟩
/-! ### is -/
/-! ### methods of lists -/
theorem reps_strs {K : PySem.W.Frag} {H : Hp} : ∀ {vs : List V} {xs : List Str}, Reps K H vs (xs.map Dt.str) → vs = xs.map V.str
  | _, [], .nil => rfl
  | _, x :: xs, .cons r t => by cases r; rw [reps_strs t]; rfl
end
/-! ### comprehensions -/
def valSl : Option Slot → Slot
  | some (.val d) => .val d
  | _ => .unk
theorem valSl_own {o : Option Slot} {w : Own} (h : valSl o = .own w) : False := by
  unfold valSl at h
  split at h <;> cases h
theorem valSl_val {o : Option Slot} {d : Dt} (h : valSl o = .val d) : o = some (.val d) := by
  unfold valSl at h
  split at h
  · cases h; rfl
  · cases h
def blkSl (dl : List Slot) (ix : List Nat) : List Slot := ix.map fun j => valSl dl[j]?
section
variable {K : PySem.W.Frag} {G G' : Gr} {st : L2.St} {Hf H Hf1 H1 : Hp} {dl : List Slot} {ix : List Nat}
theorem blk_stt (S : Stt K G st Hf H dl) (s1 : Same Hf Hf1) (sb : Same Hf1 H1) {v : V} {d : Dt} (r : Rep K Hf1 v d) : Stt K ⟨Hf1, H1⟩ (some v :: frees ix st) Hf1 H1 (.val d :: blkSl dl ix) := by
  have no : ∀ (i : Nat) o, (Slot.val d :: blkSl dl ix)[i]? ≠ some (.own o) := fun i o h => by
    cases i with
    | zero => cases h
    | succ i =>
      rw [List.getElem?_cons_succ] at h
      unfold blkSl at h
      rw [List.getElem?_map] at h
      cases q : ix[i]? with
      | none => rw [q] at h; cases h
      | some j =>
        rw [q] at h
        exact valSl_own (Option.some.inj h)
  refine ⟨.refl sb, by simp [frees, blkSl], fun i x h => ?_, fun i o h => absurd h (no i o), fun i j o o' a h => absurd h (no i o)⟩
  cases i with
  | zero => cases h; exact ⟨v, rfl, r⟩
  | succ i =>
    rw [List.getElem?_cons_succ] at h ⊢
    unfold blkSl at h
    unfold frees
    rw [List.getElem?_map] at h ⊢
    cases q : ix[i]? with
    | none => rw [q] at h; cases h
    | some j =>
      rw [q] at h
      have hd := valSl_val (Option.some.inj h)
      obtain ⟨v', z1, z2⟩ := S.val j x hd
      exact ⟨v', by rw [Option.map_some, z1]; rfl, z2.mono s1⟩
end
section
variable {X : Cx} {G : Gr} {E : XK} {dl : List Slot} {a b c elt iter : Expr} {i j : Int} {d : Dt} {ys : List Dt} {zs : Nat → Dt} {pos p px py pc spos : Pos} {o : Out} {x y : Str} {N : List Str} {ix : List Nat} {sc : Scope} {n : Nat}
/-- what the elements are worth -/
def EltOk (X : Cx) (N : List Str) (sc : Scope) (dl : List Slot) (ix : List Nat) (elt : Expr) (n : Nat) (zs : Nat → Dt) (ys : List Dt) : Prop :=
  ∀ k, k < n → ∀ C fp s H G', EE (blkOf X N sc C fp s H) G' (.val (zs k) :: blkSl dl ix) elt (ys.getD k .non)
def tElt (K : PySem.W.Frag) (dl : List Slot) (ix : List Nat) (n : Nat) (zs : Nat → Dt) (ys : List Dt) : TE := fun st H Q => ∃ k G', k < n ∧ tD K G' (.val (zs k) :: blkSl dl ix) (ys.getD k .non) st H Q
theorem pe_elt (h : EltOk X N sc dl ix elt n zs ys) : ∀ C fp s H, PE (blkOf X N sc C fp s H) elt (tElt X.K dl ix n zs ys) := fun C fp s H pins s' st H' Q I ⟨k, G', hk, q⟩ => h k hk C fp s H G' pins s' st H' Q I q
theorem blk_data {st : L2.St} {Hf H : Hp} {J : It} {Q : VK} (S : Stt X.K G st Hf H dl) (hys : ys.length = n) (hn : n ≤ sizeLine)
    (go : ∀ Hf1 H1, Grow Hf H Hf1 H1 → ∀ i, (i < n → J.go i H1 ∧ ∀ v H2, J.yld i H1 v H2 → H2 = H1 ∧ Rep X.K Hf1 v (zs i)) ∧ (i = n → J.stop i H1))
    (k : ∀ p Hf' H', Grow Hf H Hf' H' → H p = none → Hf' p = none → OwnAt X.K Hf' H' p (.lst ys) → Q (.ref p) H') :
    ∀ D, H D = none → tBlk (tElt X.K dl ix n zs ys) (frees ix st) J D (fun _ H' => Q (.ref D) H') H := by
  intro D hD
  refine ⟨fun i m vs H1 => m = n - i ∧ i ≤ n ∧ ∃ Hf1, Grow Hf H Hf1 H1 ∧ Hf1 D = none ∧ H1 D = some (.lst vs) ∧ Reps X.K Hf1 vs (ys.take i), ⟨n, rfl, Nat.zero_le _, Hf, .allocO S.sub hD, S.sub.free hD, upd_same, .nil⟩, ?_⟩
  rintro i m vs H1 ⟨rfl, hi, Hf1, g1, hD1, hD2, rp⟩
  have hlen := rp.length
  rw [List.length_take] at hlen
  by_cases hlt : i < n
  · obtain ⟨hgo, hy⟩ := (go Hf1 H1 g1 i).1 hlt
    refine .inr ⟨hgo, by omega, fun v H2 y => ?_⟩
    obtain ⟨e, rv⟩ := hy v H2 y
    subst e
    refine ⟨i, ⟨Hf1, H2⟩, hlt, Hf1, blk_stt S g1.frz g1.sub rv, fun z Hf2 H3 g2 r2 => ?_⟩
    have hD3 : H3 D = some (.lst vs) := g2.big _ _ hD2
    have hD4 : Hf2 D = none := by
      cases q : Hf2 D with
      | none => rfl
      | some u =>
        rcases g2.new D u q with ⟨o, z⟩ | z
        · rw [hD1] at z; cases z
        · rw [hD2] at z; cases z
    have g := g1.trans g2
    refine ⟨hD3, n - (i + 1), by omega, rfl, hlt, Hf2, ⟨fun a o h => ?_, g.frz, fun a o h => ?_, g.new⟩, hD4, upd_same, ?_⟩
    · rw [upd_ne (ne_of_none h hD)]; exact g.big _ _ h
    · rw [upd_ne (ne_of_none h hD4)]; exact g2.sub _ _ h
    · have : ys.take (i + 1) = ys.take i ++ [ys.getD i .non] := by
        rw [List.take_add_one, List.getD_eq_getElem?_getD, List.getElem?_eq_getElem (by omega)]; rfl
      rw [this]
      exact (rp.mono g2.frz).append (.cons r2 .nil)
  · have e : i = n := by omega
    subst e
    refine .inl ⟨(go Hf1 H1 g1 i).2 rfl, k D Hf1 H1 g1 hD hD1 ⟨vs, hD2, ?_⟩⟩
    rw [List.take_of_length_le (by omega)] at rp
    exact rp
def tLc (wi : TI) (ix : List Nat) (te : TE) : TE := fun st H Q => wi st H fun J H1 => ∀ D, H1 D = none → tBlk te (frees ix st) J D (fun _ H' => Q (.ref D) H') H1
theorem pe_lc {wi : TI} {te : TE} (hc : X.calm = true) (B : BlkScope X N ix x sc) (hi : PI X (.Name x px) iter wi) (helt : ∀ C fp s H, PE (blkOf X N sc C fp s H) elt te) (hs : ∀ z, foldedSetIterable iter X.env z = pure z) :
    PE X (.ListComp elt [⟨.Name x px, iter, [], 0⟩] sc pos) (tLc wi ix te) := by
  intro pins s st H Q I h
  rw [eval_ListComp]
  refine wpAny_comprehension_free (use := none) rfl hs (clo_of B I.ok) B.kind B.names (thn (hi pins s st H _ I h) fun v s1 h1 => thn h1 fun itv s2 h2 => ?_)
  obtain ⟨it, fp, tn, J, H2, e, I2, T, st2, f2, hq⟩ := h2
  subst e
  refine lc_core (RR := fun acc C => compPost (model X.prog X.w) X.A X.xe none (EP X pins st Q) acc C) hc B helt I2 T st2 f2 hq ?_
  intro D C ws H' s' I' ⟨m, hn⟩ hfp q
  exact ⟨m, hn, fun h' hs' => ⟨.ref D, H', I'.turned (t' := s'.toks) (it := C) (fun b o hb e => (hs'.2 b hb).trans e) hfp.1 hfp.2.1 hfp.2.2.2.1 hfp.2.2.2.2.1 hfp.2.2.2.2.2, rfl, q⟩⟩
/-- y = [..] -/
theorem ps_lc {wi : TI} {te : TE} {nN : Nat} (hc : X.calm = true) (B : BlkScope X N ix x sc) (hi : PI X (.Name x px) iter wi) (helt : ∀ C fp s H, PE (blkOf X N sc C fp s H) elt te) (hs : ∀ z, foldedSetIterable iter X.env z = pure z)
    (hsw : swapsWith (.ListComp elt [⟨.Name x px, iter, [], 0⟩] sc pos) (some (.Name y py)) spos.line X.env = pure true) (hN : X.N.Nodup) (hy : X.N[nN]? = some y) (hl : Loc X.env.scope y) (hf : X.fn y = true ∨ X.env.scope.names.lookup y = some .local) :
    PS X (.Assign [.Name y py] (.ListComp elt [⟨.Name x px, iter, [], 0⟩] sc pos) spos) (fun D st H => tLc wi ix te st H fun v H' => D.nx (st.set nN (some v)) H') := by
  intro pins s st H D0 I h
  rw [exec_Assign_Name_used _ _ _ _ hsw]
  refine wpAny_bind (wpAny_standAt (wpAny_bind ?_))
  show wpAny _ X.A (do let _ ← comprehension (.ListComp elt [⟨.Name x px, iter, [], 0⟩] sc pos) sc X.env _ (newList []) false (eval iter X.env) (some (assign (.Name y py) X.env))) _ _ s
  refine wpAny_bind (wpAny_mono (wpAny_comprehension_free (use := some (assign (.Name y py) X.env)) (Q := fun _ s' => SP X pins D0 .next s') rfl hs (clo_of B I.ok) B.kind B.names (thn (hi pins s st H _ I h) fun v s1 h1 => thn h1 fun itv s2 h2 => ?_)) (fun _ s' hq => wpAny_pure (wpAny_pure hq)) fun _ _ z => z)
  obtain ⟨it, fp, tn, J, H2, e, I2, T, st2, f2, hq⟩ := h2
  subst e
  refine lc_core (RR := fun acc C => compPost (model X.prog X.w) X.A X.xe (some (assign (.Name y py) X.env)) (fun _ s' => SP X pins D0 .next s') acc C) hc B helt I2 T st2 f2 hq ?_
  intro D C ws H' s' I' ⟨m, hn⟩ hfp q
  refine wpAny_assign_Name (store_ok2 I' hN hy hl (v := .ref D) rfl (fun s'' I'' ⟨ad, hsb, ha⟩ => ?_) hf)
  have ne : C ≠ ad := by
    rcases ha with z | z
    · rw [z]; exact hfp.2.1
    · exact Ne.symm (hfp.2.2.2.2.1 _ _ z)
  exact ⟨m, hn.sameBut hsb ne, fun h' hs' => ⟨_, H', I''.turned (t' := s''.toks) (it := C) (fun b o hb e => (hs'.2 b hb).trans e) hfp.1 hfp.2.1 hfp.2.2.2.1 hfp.2.2.2.2.1 hfp.2.2.2.2.2, q⟩⟩
/-! .. over a source: a reading of iterators over data -/
def SrcD (X : Cx) (G : Gr) (dl : List Slot) (n : Nat) (zs : Nat → Dt) (wi : TI) : Prop := ∀ st H (R : It → Hp → Prop), (∃ Hf, Stt X.K G st Hf H dl ∧ ∀ J Hf0 H0, Grow Hf H Hf0 H0 →
  (∀ Hf1 H1, Grow Hf0 H0 Hf1 H1 → ∀ i, (i < n → J.go i H1 ∧ ∀ v H2, J.yld i H1 v H2 → H2 = H1 ∧ Rep X.K Hf1 v (zs i)) ∧ (i = n → J.stop i H1)) → R J H0) → wi st H R
theorem src_range1 (hn : -(2 ^ 62) ≤ j ∧ j < 2 ^ 62) : SrcD X G dl j.toNat (fun k => .int k) (iRng1 (tDs X.K G dl [.int j])) := fun st H R ⟨Hf, S, k⟩ => ⟨Hf, S, fun vs Hf1 H1 g1 r1 => by
  cases r1 with
  | cons r t =>
    cases t; cases r
    refine ⟨j, rfl, hn.1, hn.2, k _ Hf1 H1 g1 fun Hf2 H2 g2 i => ⟨fun hi => ⟨hi, fun v H3 hy => ?_⟩, fun hi => by rw [hi]; exact Nat.le_refl _⟩⟩
    obtain ⟨e1, e2⟩ := hy
    subst e2
    rw [Int.zero_add]
    exact ⟨e1, .int _⟩⟩
theorem src_range2 (hn : -(2 ^ 62) ≤ i ∧ i < 2 ^ 62 ∧ -(2 ^ 62) ≤ j ∧ j < 2 ^ 62) : SrcD X G dl (j - i).toNat (fun k => .int (i + k)) (iRng2 (tDs X.K G dl [.int i, .int j])) := fun st H R ⟨Hf, S, k⟩ => ⟨Hf, S, fun vs Hf1 H1 g1 r1 => by
  cases r1 with
  | cons r t =>
    cases r
    cases t with
    | cons r t =>
      cases t; cases r
      refine ⟨i, j, rfl, hn, k _ Hf1 H1 g1 fun Hf2 H2 g2 m => ⟨fun hi => ⟨hi, fun v H3 hy => ?_⟩, fun hi => by rw [hi]; exact Nat.le_refl _⟩⟩
      obtain ⟨e1, e2⟩ := hy
      subst e2
      exact ⟨e1, .int _⟩⟩
theorem src_list {xs : List Dt} : SrcD X G dl xs.length (fun k => xs.getD k .non) (iList X.K (tD X.K G dl (.lst xs))) := fun st H R ⟨Hf, S, k⟩ => ⟨Hf, S, fun v Hf1 H1 g1 r1 => by
  cases r1 with
  | @lst q vs _ hq rp =>
    have hl := rp.length
    refine ⟨q, rfl, ⟨vs, .of (g1.sub _ _ hq)⟩, k _ Hf1 H1 g1 fun Hf2 H2 g2 i => ⟨fun hi => ?_, fun hi => ⟨vs, .of (g2.big _ _ (g1.sub _ _ hq)), by omega⟩⟩⟩
    have hz : xs[i]? = some (xs.getD i .non) := by rw [List.getD_eq_getElem?_getD, List.getElem?_eq_getElem hi]; rfl
    obtain ⟨z, z1, z2⟩ := rp.get hz
    have hs : SqL X.K H2 q vs := .of (g2.big _ _ (g1.sub _ _ hq))
    refine ⟨⟨vs, z, hs, z1⟩, fun v H3 hy => ?_⟩
    obtain ⟨e1, e2⟩ := hy
    have e2 := e2 vs hs
    rw [z1] at e2; cases e2
    exact ⟨e1, z2.mono g2.frz⟩⟩
theorem tLc_data {wi : TI} (hs : SrcD X G dl n zs wi) (hys : ys.length = n) (hn : n ≤ sizeLine) : ∀ st H Q, tDO X.K G dl (.lst ys) st H Q → tLc wi ix (tElt X.K dl ix n zs ys) st H Q := fun st H Q ⟨Hf, S, k⟩ =>
  hs st H _ ⟨Hf, S, fun J Hf0 H0 g0 src => blk_data (S.grow g0) hys hn src fun p Hf' H' g n1 n2 r => k p Hf' H' (g0.trans g) (g0.big.free n1) n2 r⟩
theorem eo_lc {wi : TI} (hc : X.calm = true) (B : BlkScope X N ix x sc) (hi : PI X (.Name x px) iter wi) (hsrc : SrcD X G dl n zs wi) (helt : EltOk X N sc dl ix elt n zs ys) (hys : ys.length = n) (hn : n ≤ sizeLine) (hs : ∀ z, foldedSetIterable iter X.env z = pure z := by intro _; rfl) :
    EO X G dl (.ListComp elt [⟨.Name x px, iter, [], 0⟩] sc pos) (.lst ys) := peI (pe_lc hc B hi (pe_elt helt) hs) (tLc_data hsrc hys hn)
theorem es_lc (nN : Nat) {wi : TI} (hc : X.calm = true) (hN : X.N.Nodup) (B : BlkScope X N ix x sc) (hi : PI X (.Name x px) iter wi) (hsrc : SrcD X G dl n zs wi) (helt : EltOk X N sc dl ix elt n zs ys) (hys : ys.length = n) (hn : n ≤ sizeLine) (hs : ∀ z, foldedSetIterable iter X.env z = pure z := by intro _; rfl)
    (hsw : swapsWith (.ListComp elt [⟨.Name x px, iter, [], 0⟩] sc pos) (some (.Name y py)) spos.line X.env = pure true := by rfl) (hy : X.N[nN]? = some y := by rfl) (hl : Loc X.env.scope y := by first | exact Or.inl rfl | exact Or.inr rfl) (hf : X.fn y = true ∨ X.env.scope.names.lookup y = some .local := by first | exact .inl rfl | exact .inr rfl | assumption) :
    ES X G E dl (.Assign [.Name y py] (.ListComp elt [⟨.Name x px, iter, [], 0⟩] sc pos) spos) (.nx (dl.set nN (.own (.lst ys)))) :=
  psI (ps_lc hc B hi (pe_elt helt) hs hsw hN hy hl hf) fun D st H ⟨Hf, S, k⟩ => tLc_data hsrc hys hn st H _ ⟨Hf, S, fun p Hf' H' g n1 n2 r => k _ Hf' H' g.frz (S.setN g n1 n2 r)⟩
end
end Sg

/-! objects made by __init__; defaults; calls that hand over a new thing; while -/
namespace Sg
open PySem PySem.Spec PyProof.Rows L2
theorem one_of {α : Type} {us : List α} {d : α} (h : (us ++ [d]).length = 2) : ∃ a, us = [a] := by
  match us, h with
  | [a], _ => exact ⟨a, rfl⟩
  | [], h => simp at h
  | _ :: _ :: r, h => simp at h
theorem two_of0 {α : Type} {us : List α} (h : (us ++ []).length = 2) : ∃ a b, us = [a, b] := by
  rw [List.append_nil] at h
  match us, h with
  | [a, b], _ => exact ⟨a, b, rfl⟩
/-- a def of the text, with or without defaults -/
structure FunG (K : PySem.W.Frag) (x qual : Str) (st : Stmt) (f : Addr) (fd : FuncData) : Prop where
  ex : ∃ (oc : Value) (od : Option Addr) (dV kV doc pm : Value) (an : Option Addr) (cdv ct : Value) (osl : Array (Option Value)),
    fd = PySem.W.fnOf x qual (defArgs st) (defBody st) (defScope st) dV kV doc pm an cdv ct ∧ K.lookup f = some ⟨oc, od, .func fd, osl⟩ ∧ PySem.W.codeIn K cdv qual = true
theorem funG_mk {K : PySem.W.Frag} {x qual : Str} {st : Stmt} {f : Addr} {oc : Value} {od an : Option Addr} {osl : Array (Option Value)} {dV kV doc pm cdv ct : Value}
    (l : K.lookup f = some ⟨oc, od, .func (PySem.W.fnOf x qual (defArgs st) (defBody st) (defScope st) dV kV doc pm an cdv ct), osl⟩) (c : PySem.W.codeIn K cdv qual = true) :
    FunG K x qual st f (PySem.W.fnOf x qual (defArgs st) (defBody st) (defScope st) dV kV doc pm an cdv ct) := ⟨⟨oc, od, dV, kV, doc, pm, an, cdv, ct, osl, rfl, l, c⟩⟩
section
variable {P : Program} {w : World} {K : PySem.W.Frag} {mg : Str → Option Value} {base : Heap} {CX : CXT} {x qual : Str} {st : Stmt} {f : Addr} {fd : FuncData} {N ps : List Str} {k n : Nat}
theorem fnG {R : List Dt → Res → Prop} (F : FunG K x qual st f fd) (S : FnScope N ps (defScope st)) (hn : ps.length = n)
    (hbody : ∀ (cdv : Value) (A : Around) (outer : List Env) (s : Shared) (H : Hp) (E : XK) (G : Gr) (ds : List Dt) (r : Res), Room k (A.deeper (envOfC qual (defScope st) s.heap.objs.size f cdv)) → ds.length = n → R ds r →
      ∃ o, Comes o r ∧ ESs (cxOf CX P w K mg base N qual (defScope st) f cdv A outer s H E) G E (slots N ds) (defBody st) o) : FnOk P w K mg base CX (k + 1) f fd ps (spR K n R) := by
  obtain ⟨oc, od, dV, kV, doc, pm, an, cdv, ct, osl, rfl, lk, hcd⟩ := F.ex
  refine fn_of lk hcd S (fun vs H Q E ⟨Hf, ds, r, s, rp, hl, _⟩ => by rw [rp.length, hl, hn]) fun A outer s H vs Q E hr ⟨Hf, ds, r, sm, rp, hl, hR, hk⟩ => ?_
  obtain ⟨o, hc, hb⟩ := hbody cdv A outer s H E ⟨Hf, H⟩ ds r hr hl hR
  exact ⟨_, hb, Hf, stt_start sm rp, hc.ends hk⟩
/-! ### __init__ -/
def ResI (K : PySem.W.Frag) (C : Addr) (Hf H : Hp) (x : Addr) (Q : VK) (E : XK) : Res → Prop
  | .own w => ∃ fs, w = .obj C fs ∧ ∀ Hf' H', Grow Hf H Hf' H' → Hf' x = none → OwnAt K Hf' H' x (.obj C fs) → Q .non H'
  | .exc c fs => ∀ od Hf' H', Grow Hf H Hf' H' → ExcAt K Hf' od fs → E c od H'
  | .ret _ => False
def spI (K : PySem.W.Frag) (C : Addr) (n : Nat) (R : List Dt → Res → Prop) : Sp := fun vs H Q E => ∃ Hf H1 x dx args ds r, vs = .ref x :: args ∧ H = upd H1 x (.ins C dx []) ∧ H1 x = none ∧ Same Hf H1 ∧ Reps K Hf args ds ∧ ds.length + 1 = n ∧ R ds r ∧ ResI K C Hf H1 x Q E r
inductive ComesI (C x : Addr) : Out → Res → Prop
  | nx {dl : List Slot} {fs : List (Str × Dt)} (h : dl[0]? = some (.own (.slf x C fs))) : ComesI C x (.nx dl) (.own (.obj C fs))
  | ex (c : Value) (fs : List (Str × Dt)) : ComesI C x (.ex c fs) (.exc c fs)
def slotsI (N : List Str) (x C : Addr) (ds : List Dt) : List Slot := .own (.slf x C []) :: (ds.map Slot.val ++ List.replicate (N.length - (ds.length + 1)) .unk)
theorem stt_startI {Hf H : Hp} {vs : List V} {ds : List Dt} {x dx C : Addr} (s : Same Hf H) (n : H x = none) (r : Reps K Hf vs ds) : Stt K ⟨Hf, H⟩ (start N (.ref x :: vs)) Hf (upd H x (.ins C dx [])) (slotsI N x C ds) := by
  have hl := r.length
  have es : start N (V.ref x :: vs) = some (.ref x) :: (vs.map some ++ List.replicate (N.length - (vs.length + 1)) none) := by
    unfold L2.start
    simp
  have nown : ∀ (i : Nat) o, (slotsI N x C ds)[i + 1]? ≠ some (.own o) := fun i o h => by
    unfold slotsI at h
    rw [List.getElem?_cons_succ] at h
    by_cases hi : i < ds.length
    · rw [List.getElem?_append_left (by simpa using hi), List.getElem?_map] at h
      cases e : ds[i]? with
      | none => rw [e] at h; cases h
      | some a => rw [e] at h; cases h
    · rw [List.getElem?_append_right (by simpa using hi), List.getElem?_replicate] at h
      split at h <;> cases h
  rw [es]
  refine ⟨.allocO s n, ?_, fun i d h => ?_, fun i o h => ?_, fun i j o o' a h h' _ _ => ?_⟩
  · unfold slotsI
    simp [hl]
  · cases i with
    | zero => cases h
    | succ i =>
      unfold slotsI at h
      rw [List.getElem?_cons_succ] at h ⊢
      by_cases hi : i < ds.length
      · rw [List.getElem?_append_left (by simpa using hi), List.getElem?_map] at h
        cases e : ds[i]? with
        | none => rw [e] at h; cases h
        | some a =>
          rw [e] at h; cases h
          obtain ⟨v, h1, h2⟩ := r.get e
          refine ⟨v, ?_, h2⟩
          rw [List.getElem?_append_left (by simp; omega), List.getElem?_map, h1]; rfl
      · rw [List.getElem?_append_right (by simpa using hi), List.getElem?_replicate] at h
        split at h <;> cases h
  · cases i with
    | zero =>
      cases h
      exact ⟨x, rfl, s.free n, n, rfl, dx, [], upd_same, .nil⟩
    | succ i => exact absurd h (nown i o)
  · cases i with
    | zero => cases j with
      | zero => rfl
      | succ j => exact absurd h' (nown j _)
    | succ i => exact absurd h (nown i _)
theorem fnI {C : Addr} {R : List Dt → Res → Prop} (F : FunG K x qual st f fd) (S : FnScope N ps (defScope st)) (hn : ps.length = n)
    (hbody : ∀ (cdv : Value) (A : Around) (outer : List Env) (s : Shared) (H : Hp) (E : XK) (G : Gr) (z : Addr) (ds : List Dt) (r : Res), Room k (A.deeper (envOfC qual (defScope st) s.heap.objs.size f cdv)) → ds.length + 1 = n → R ds r →
      ∃ o, ComesI C z o r ∧ ESs (cxOf CX P w K mg base N qual (defScope st) f cdv A outer s H E) G E (slotsI N z C ds) (defBody st) o) : FnOk P w K mg base CX (k + 1) f fd ps (spI K C n R) := by
  obtain ⟨oc, od, dV, kV, doc, pm, an, cdv, ct, osl, rfl, lk, hcd⟩ := F.ex
  refine fn_of lk hcd S (fun vs H Q E ⟨Hf, H1, z, dx, args, ds, r, e, _, _, _, rp, hl, _⟩ => by rw [e, List.length_cons, rp.length, hl, hn]) fun A outer s H vs Q E hr ⟨Hf, H1, z, dx, args, ds, r, e1, e2, hz, sm, rp, hl, hR, hk⟩ => ?_
  subst e1 e2
  obtain ⟨o, hc, hb⟩ := hbody cdv A outer s _ E ⟨Hf, H1⟩ z ds r hr hl hR
  refine ⟨_, hb, Hf, stt_startI sm hz rp, ?_⟩
  cases hc with
  | nx h =>
    obtain ⟨fs, e, kk⟩ := hk
    cases e
    intro st' Hf' H' s' S'
    obtain ⟨a, _, q2, _, q4⟩ := S'.own 0 _ h
    obtain ⟨rfl, dx', fs', q5, q6⟩ := q4
    exact kk Hf' H' S'.gr q2 ⟨dx', fs', q5, q6⟩
  | ex c fs => exact hk
end
def putD (f : Str) (v : Dt) : List (Str × Dt) → List (Str × Dt)
  | [] => [(f, v)]
  | (g, x) :: r => if g = f then (g, v) :: r else (g, x) :: putD f v r
theorem RepF.put {K : PySem.W.Frag} {H : Hp} {f : Str} {v : V} {d : Dt} (q : Rep K H v d) : ∀ {vs : List (Str × V)} {ds : List (Str × Dt)}, RepF K H vs ds → RepF K H (putF f v vs) (putD f d ds)
  | _, _, .nil => .cons q .nil
  | (k, x) :: vs, (_, y) :: ds, .cons h r => by
    unfold putF putD
    by_cases e : k = f
    · rw [if_pos e, if_pos e]; exact .cons q r
    · rw [if_neg e, if_neg e]; exact .cons h (RepF.put q r)
section
variable {X : Cx} {G : Gr} {E : XK} {dl dl1 : List Slot} {e c : Expr} {es : List Expr} {d : Dt} {ds : List Dt} {pos p apos : Pos} {x m : Str} {C z : Addr} {fs : List (Str × Dt)} {CX : CXT} {k k' n : Nat} {R : List Dt → Res → Prop} {ob : Expr} {wo : Own} {dvs : List Dt} {body : List Stmt}
/-- self.f = e -/
theorem es_fld {fn : Str} {pn : Pos} (he : EE X G dl e d) (cl : Cls X.K C) (na : NoAttr X.K C fn) (hd : dl[0]? = some (.own (.slf z C fs)) := by rfl) (hl : Nat.ble fs.length 999 = true := by rfl) (hN : X.N[0]? = some x := by rfl) (hv : Vis X.env.scope x := by first | exact Or.inl rfl | exact Or.inr (Or.inl rfl) | exact Or.inr (Or.inr rfl))
    (hdb : (x == ("__debug__" : Str)) = false := by decide) (hcd : (x == ("__classdict__" : Str)) = false := by decide) (hs : swapsWith e (some (.Attribute (.Name x pn) fn apos)) pos.line X.env = pure false := by rfl) :
    ES X G E dl (.Assign [.Attribute (.Name x pn) fn apos] e pos) (.nx (dl.set 0 (.own (.slf z C (putD fn d fs))))) :=
  psI (ps_fld (pe_ov (p := pn) 0 hd hN hv hdb hcd) he hs) fun D st H ⟨Hf, S, k⟩ => ⟨Hf, S, fun v Hf1 H1 g1 r1 => by
    have S1 := S.grow g1
    obtain ⟨a, q1, q2, q3, q4⟩ := S1.own 0 _ hd
    obtain ⟨e1, dx, fv, q5, q6⟩ := id q4
    refine ⟨Hf1, a, S1, q1, q2, q4, a, C, dx, fv, rfl, q5, cl, na, by rw [q6.length]; exact Nat.lt_succ_of_le (Nat.le_of_ble_eq_true hl), ?_⟩
    exact k st Hf1 _ g1.frz (S1.updO hd q1 ⟨e1, dx, _, upd_same, q6.put r1⟩)⟩
/-- a class with an __init__ of its own -/
structure MkF (P : Program) (w : World) (K : PySem.W.Frag) (mg : Str → Option Value) (base : Heap) (CX : CXT) (k : Nat) (x : Str) (C : Addr) (n : Nat) (R : List Dt → Res → Prop) : Prop where
  ex : ∃ f fd ps, FnOk P w K mg base CX k f fd ps (spI K C n R) ∧ L2.Mk K C f ∧ mg x = some (.ref C) ∧ Binds K fd ps []
theorem eo_make (F : MkF X.prog X.w X.K X.mg X.base CX k x C n R) (nx : NoX CX) (hr : Room k' X.A) (ha : EA X G dl (e :: es) ds) (h : R ds (.own (.obj C fs))) (hkk : k + 1 ≤ k' := by decide) (hl : ds.length + 1 = n := by rfl) (hg : Gl X x := by rfl) (hdb : (x == ("__debug__" : Str)) = false := by decide)
    (he : starEach (e :: es) X.env = (false, eval e X.env) :: starEach es X.env := by rfl) (hpl : (backTo pos (starEach es X.env)).any (·.1) = false := by rfl) : EO X G dl (.Call (.Name x p) (e :: es) [] pos) (.obj C fs) := by
  obtain ⟨f, fd, ps, Fo, M, hm, hb⟩ := F.ex
  refine peI (pe_make (E := E0) M Fo (hr.mono hkk) hg hm hb .nil nx.passes ha hdb he hpl) fun st H Q ⟨Hf, S, kk⟩ => ⟨Hf, S, fun vs Hf1 H1 g1 r1 y dx hy hdx ne => ?_⟩
  have hy' : (upd H1 dx (.own y)) y = none := by rw [upd_ne (Ne.symm ne)]; exact hy
  have g2 : Grow Hf1 H1 Hf1 (upd H1 dx (.own y)) := .allocO g1.sub hdx
  refine ⟨Hf1, upd H1 dx (.own y), y, dx, vs ++ [], ds, .own (.obj C fs), rfl, rfl, hy', g2.sub, by rw [List.append_nil]; exact r1, hl, h, fs, rfl, fun Hf' H' g n1 r => ⟨rfl, ?_⟩⟩
  exact kk y Hf' H' ((g1.trans g2).trans g) (g1.big.free hy) n1 r
/-! ### calls that hand over a new thing -/
theorem eo_gf (F : GF X.prog X.w X.K X.mg X.base CX k x n R) (nx : NoX CX) (hr : Room k' X.A) (ha : EA X G dl (e :: es) ds) (h : R ds (.own wo)) (hkk : k ≤ k' := by decide) (hl : ds.length = n := by rfl) (hg : Gl X x := by rfl) (hdb : (x == ("__debug__" : Str)) = false := by decide)
    (he : starEach (e :: es) X.env = (false, eval e X.env) :: starEach es X.env := by rfl) (hpl : (backTo pos (starEach es X.env)).any (·.1) = false := by rfl) : EO X G dl (.Call (.Name x p) (e :: es) [] pos) wo := by
  obtain ⟨f, fd, ps, F, hm, hk, hb⟩ := F.ex
  exact peI (pe_call (E := E0) F (hr.mono hkk) hg hm hk hb .nil nx.passes ha hdb he hpl) fun st H Q ⟨Hf, S, k⟩ => ⟨Hf, S, fun vs Hf1 H1 g1 r1 => ⟨Hf1, ds, .own wo, g1.sub, by rw [List.append_nil]; exact r1, hl, h, fun p Hf2 H2 g2 n1 n2 r2 => k p Hf2 H2 (g1.trans g2) (g1.big.free n1) n2 r2⟩⟩
/-- a method, its last arguments by default -/
structure MFd (P : Program) (w : World) (K : PySem.W.Frag) (mg : Str → Option Value) (base : Heap) (CX : CXT) (k : Nat) (C : Addr) (m : Str) (n : Nat) (dvs : List Dt) (R : List Dt → Res → Prop) : Prop where
  cl : Cls K C
  ex : ∃ f fd ps dsv vds, FnOk P w K mg base CX k f fd ps (spR K n R) ∧ Meth K C m f ∧ Binds K fd ps dsv ∧ Vals vds dsv ∧ ∀ H, Reps K H vds dvs
theorem mf_d {P : Program} {w : World} {K : PySem.W.Frag} {mg : Str → Option Value} {base : Heap} (F : MF P w K mg base CX k C m n R) : MFd P w K mg base CX k C m n [] R := by
  obtain ⟨f, fd, ps, Fo, hm, hb⟩ := F.ex
  exact ⟨F.cl, f, fd, ps, [], [], Fo, hm, hb, .nil, fun _ => .nil⟩
theorem eo_mf {pl : Sem Bool} (he : EE X G dl ob (.obj C fs)) (F : MFd X.prog X.w X.K X.mg X.base CX k C m n dvs R) (nx : NoX CX) (hr : Room k' X.A) (ha : EA X G dl (e :: es) ds) (h : R (.obj C fs :: (ds ++ dvs)) (.own wo)) (hkk : k ≤ k' := by decide) (hl : (Dt.obj C fs :: (ds ++ dvs)).length = n := by rfl) (hno : fs.lookup m = none := by rfl)
    (hst : starEach (e :: es) X.env = (false, eval e X.env) :: starEach es X.env := by rfl) (hpl : (backTo pos (starEach es X.env)).any (·.1) = false := by rfl)
    (ht : eval (.Call (.Attribute ob m apos) (e :: es) [] pos) X.env = (do
      let ov ← eval ob X.env
      standAt apos.atName
      let (f, first) ← holding [ov] (getMethod ov m pl)
      callWith pos f first (backTo pos (starEach (e :: es) X.env)) (backToKw pos (keywordEach [] X.env))) := by rfl) : EO X G dl (.Call (.Attribute ob m apos) (e :: es) [] pos) wo := by
  obtain ⟨f, fd, ps, dsv, vds, Fo, hm, hb, hd, hdd⟩ := F.ex
  exact peI (pe_meth (pl := pl) (E := E0) he F.cl hm Fo (hr.mono hkk) hb hd nx.passes ha hst hpl ht) fun st H Q ⟨Hf, S, k⟩ => ⟨Hf, S, fun v Hf1 H1 g1 r1 => by
    cases r1 with
    | @obj a _ dx fv _ q r =>
      exact ⟨a, dx, fv, rfl, g1.sub _ _ q, r.none_of hno, Hf1, S.grow g1, fun vs Hf2 H2 g2 r2 => ⟨Hf2, _, .own wo, g2.sub, .cons (.obj (g2.frz _ _ q) (r.mono g2.frz)) (r2.append (hdd _)), hl, h, fun p Hf3 H3 g3 n1 n2 r3 => k p Hf3 H3 ((g1.trans g2).trans g3) ((g1.trans g2).big.free n1) n2 r3⟩⟩⟩
theorem ee_mfd {pl : Sem Bool} (he : EE X G dl ob (.obj C fs)) (F : MFd X.prog X.w X.K X.mg X.base CX k C m n dvs R) (nx : NoX CX) (hr : Room k' X.A) (ha : EA X G dl (e :: es) ds) (h : R (.obj C fs :: (ds ++ dvs)) (.ret d)) (hkk : k ≤ k' := by decide) (hl : (Dt.obj C fs :: (ds ++ dvs)).length = n := by rfl) (hno : fs.lookup m = none := by rfl)
    (hst : starEach (e :: es) X.env = (false, eval e X.env) :: starEach es X.env := by rfl) (hpl : (backTo pos (starEach es X.env)).any (·.1) = false := by rfl)
    (ht : eval (.Call (.Attribute ob m apos) (e :: es) [] pos) X.env = (do
      let ov ← eval ob X.env
      standAt apos.atName
      let (f, first) ← holding [ov] (getMethod ov m pl)
      callWith pos f first (backTo pos (starEach (e :: es) X.env)) (backToKw pos (keywordEach [] X.env))) := by rfl) : EE X G dl (.Call (.Attribute ob m apos) (e :: es) [] pos) d := by
  obtain ⟨f, fd, ps, dsv, vds, Fo, hm, hb, hd, hdd⟩ := F.ex
  exact ee_meth (pl := pl) he F.cl hm Fo nx (hr.mono hkk) hb hd hdd ha hl h hno hst hpl ht
/-! ### while -/
def tCond (X : Cx) (G : Gr) (c : Expr) : TT := fun st H Q => ∃ dl b, EB X G dl c b ∧ tDB X.K G dl b st H Q
end
/-! ### a block's scope, by a look at the text -/
def chkBlk (sc dsc : Scope) (XN N : List Str) (ix : List Nat) (x : Str) : Bool :=
  decide N.Nodup && (decide (N = x :: ix.map (fun j => XN.getD j "")) && (decide (sc.kind = .function) && (sc.names.all (fun y => decide (y.2 ≠ .cell)) && (sc.names.all (fun y => decide (y.2 = .local → sc.names.lookup y.1 = some .local)) && (decide (sc.names.lookup x = some .local) &&
    (sc.names.all (fun y => decide (y.2 = .free → dsc.names.lookup y.1 = some .cell ∨ dsc.names.lookup y.1 = some .free)) && ix.all (fun j => decide (sc.names.lookup (XN.getD j "") = some .free) && decide (j < XN.length))))))))
theorem blk_of {X : Cx} {sc dsc : Scope} {XN N : List Str} {ix : List Nat} {x : Str} (h : chkBlk sc dsc XN N ix x = true) (e1 : X.env.scope = dsc := by rfl) (e2 : X.N = XN := by rfl) : BlkScope X N ix x sc := by
  subst e1 e2
  unfold chkBlk at h
  simp only [Bool.and_eq_true, List.all_eq_true, decide_eq_true_eq] at h
  obtain ⟨h1, h2, h3, h4, h5, h6, h7, h8⟩ := h
  refine ⟨h1, h2, h3, h4, h5, h6, h7, fun j hj => ?_⟩
  obtain ⟨q1, q2⟩ := h8 j hj
  refine ⟨X.N.getD j "", ?_, q1⟩
  rw [List.getD_eq_getElem?_getD, List.getElem?_eq_getElem q2]; rfl
def eLc : Expr → Scope
  | .ListComp _ _ sc _ => sc
  | .Call _ (.ListComp _ _ sc _ :: _) _ _ => sc
  | _ => { kind := .function, names := [], isGenerator := false, isCoroutine := false }
def sLc : Stmt → Scope
  | .Assign _ e _ => eLc e
  | .Return (some e) _ => eLc e
  | _ => { kind := .function, names := [], isGenerator := false, isCoroutine := false }
/-! ### in, not in: a text among texts -/
theorem inV_strs (k : Str) : ∀ xs : List Str, inV (.str k) (xs.map V.str) = decide (k ∈ xs)
  | [] => by simp [inV]
  | x :: xs => by
    have ih := inV_strs k xs
    unfold inV at ih ⊢
    rw [List.map_cons, List.any_cons, ih]
    by_cases e : x = k
    · subst e; simp [eqV]
    · have : ¬ (k = x) := fun z => e z.symm
      simp [eqV, e, this]
theorem flat_strs (xs : List Str) : (xs.map V.str).all flatV = true := by
  induction xs with
  | nil => rfl
  | cons x xs ih => rw [List.map_cons, List.all_cons, ih]; rfl
section
variable {X : Cx} {G : Gr} {dl : List Slot} {a b : Expr} {pos : Pos} {k : Str} {xs : List Str}
theorem r2_in {neg : Bool} : R2D X.K (rIn X.K neg) (.str k) (.tup (xs.map .str)) (.bl (if neg then !decide (k ∈ xs) else decide (k ∈ xs))) := fun v w Hf H Q s r1 r2 kk => by
  cases r1
  cases r2 with
  | @tup q vs _ hq rp =>
    have ev := reps_strs rp
    subst ev
    refine ⟨q, _, rfl, .inr (SqT_same s hq), rfl, flat_strs xs, ?_⟩
    rw [inV_strs]
    exact kk _ Hf H (.refl s) (.bl _)
theorem eb_inT (ha : EE X G dl a (.str k)) (hb : EE X G dl b (.tup (xs.map .str))) (hm : behindInMarks .In b = false := by rfl) : EB X G dl (.Compare a [.In] [b] pos) (decide (k ∈ xs)) := eb_cmp op_in_seq (r2_in (neg := false)) hm ha hb
theorem eb_ninT (ha : EE X G dl a (.str k)) (hb : EE X G dl b (.tup (xs.map .str))) (hm : behindInMarks .NotIn b = false := by rfl) : EB X G dl (.Compare a [.NotIn] [b] pos) (!decide (k ∈ xs)) := eb_cmp op_notIn_seq (r2_in (neg := true)) hm ha hb
end
end Sg

/-! comprehensions of one clause with any target and tests -/
namespace Sg
open PySem PySem.Spec PyProof.Rows L2
/-- what a block's scope must be over the def's; tn: the target's names -/
structure BlkX (X : Cx) (N tn : List Str) (ix : List Nat) (sc : Scope) : Prop where
  nd : N.Nodup
  nm : N = tn ++ ix.map (fun j => X.N.getD j "")
  kind : sc.kind = .function
  nocell : ∀ y ∈ sc.names, y.2 ≠ .cell
  names : ∀ y ∈ sc.names, y.2 = .local → sc.names.lookup y.1 = some .local
  hx : ∀ x ∈ tn, sc.names.lookup x = some .local
  fr : ∀ y ∈ sc.names, y.2 = .free → X.env.kindOf y.1 = some .cell ∨ X.env.kindOf y.1 = some .free
  ixs : ∀ j ∈ ix, ∃ y, X.N[j]? = some y ∧ sc.names.lookup y = some .free
section
variable {X : Cx} {N tn : List Str} {ix : List Nat} {sc : Scope} {pins : List (Addr × Obj)} {st : L2.St} {H H' : Hp} {s s' : Shared} {C D : Addr} {fp : List Addr} {h1 : Heap}
/-- tests of a clause -/
def PTs (X : Cx) (ifs : List Expr) (tt : TT) : Prop := ∀ (pins : List (Addr × Obj)) (s : Shared) (st : L2.St) (H : Hp) (Q : Bool → Hp → Prop), L2.Inv X pins st H s → tt st H Q →
  wpAny (model X.prog X.w) X.A (forIn ifs true fun c r => if r = true then do let ok ← isTrue c X.env (eval c X.env); pure (ForInStep.yield ok) else pure (ForInStep.yield r)) (fun b s' => ∃ H', L2.Inv X pins st H' s' ∧ Q b H') X.xe s
def tNoTest : TT := fun _ H Q => Q true H
/-- the block's turns -/
def tBlkX (nt : Nat) (g : TG) (tt : TT) (te : TE) (fs : L2.St) (J : It) (D : Addr) (Q : List V → Hp → Prop) (H : Hp) : Prop :=
  ∃ W : Nat → Nat → List V → Hp → Prop, (∃ m, W 0 m [] (upd H D (.lst []))) ∧ ∀ i m ys H1, W i m ys H1 →
    (J.stop i H1 ∧ Q ys H1) ∨ (J.go i H1 ∧ ys.length < sizeLine ∧ ∀ σ : L2.St, σ.length = nt → ∀ v H2, J.yld i H1 v H2 → g v (σ ++ fs) H2 fun σ2 H3 => ∃ σ' : L2.St, σ2 = σ' ++ fs ∧ σ'.length = nt ∧
      tt σ2 H3 fun b H4 => if b = true then te σ2 H4 fun y H5 => H5 D = some (.lst ys) ∧ ∃ m', m' < m ∧ W (i + 1) m' (ys ++ [y]) (upd H5 D (.lst (ys ++ [y]))) else ∃ m', m' < m ∧ W (i + 1) m' ys H4)
end

/-! ### over data -/
section
variable {K : PySem.W.Frag} {G G' : Gr} {st : L2.St} {Hf H Hf1 H1 : Hp} {dl : List Slot} {ix : List Nat}
/-- the target's names stand in the first slots -/
structure TgV (K : PySem.W.Frag) (Hf : Hp) (σ : L2.St) (sl : List Slot) : Prop where
  len : σ.length = sl.length
  val : ∀ (i : Nat) d, sl[i]? = some (.val d) → ∃ v, σ[i]? = some (some v) ∧ Rep K Hf v d
  no : ∀ (i : Nat) o, sl[i]? ≠ some (.own o)
/-- what a target makes of a datum -/
def TgD (K : PySem.W.Frag) (nt : Nat) (g : TG) (z : Dt) (sl : List Slot) : Prop := ∀ (σ fs : L2.St) (Hf H : Hp) (v : V) (Q : L2.St → Hp → Prop), σ.length = nt → Same Hf H → Rep K Hf v z →
  (∀ σ' : L2.St, σ'.length = nt → TgV K Hf σ' sl → Q (σ' ++ fs) H) → g v (σ ++ fs) H Q
abbrev gPair (K : PySem.W.Frag) : TG := gTup K 2 (gCons (gName 0) (gCons (gName 1) gNil))
end
section
variable {X : Cx} {G : Gr} {E : XK} {dl : List Slot} {a b c elt iter tg : Expr} {ifs : List Expr} {i j : Int} {d : Dt} {pos p px py pc spos : Pos} {o : Out} {x y : Str} {N tn : List Str} {ix : List Nat} {sc : Scope} {n : Nat}
/-- a source: it yields these data, as long as what is frozen stays -/
def SrcX (X : Cx) (G : Gr) (dl : List Slot) (zs : List Dt) (wi : TI) : Prop := ∀ st H (R : It → Hp → Prop), (∃ Hf, Stt X.K G st Hf H dl ∧ ∀ J Hf0 H0, Grow Hf H Hf0 H0 →
  (∀ Hf1 H1, Same Hf0 Hf1 → Same Hf1 H1 → ∀ i, (∀ z, zs[i]? = some z → J.go i H1 ∧ ∀ v H2, J.yld i H1 v H2 → ∃ Hf2, Grow Hf1 H1 Hf2 H2 ∧ Rep X.K Hf2 v z) ∧ (i = zs.length → J.stop i H1)) → R J H0) → wi st H R
variable {α : Type} {as : List α} {z f : α → Dt} {sl : α → List Slot} {keep : α → Bool} {g : TG} {wi : TI}
def tTst (K : PySem.W.Frag) (dl : List Slot) (ix : List Nat) (as : List α) (sl : α → List Slot) (keep : α → Bool) : TT := fun st H Q => ∃ a G', a ∈ as ∧ tDB K G' (sl a ++ blkSl dl ix) (keep a) st H Q
def tElx (K : PySem.W.Frag) (dl : List Slot) (ix : List Nat) (as : List α) (sl : α → List Slot) (keep : α → Bool) (f : α → Dt) : TE := fun st H Q => ∃ a G', a ∈ as ∧ keep a = true ∧ tD K G' (sl a ++ blkSl dl ix) (f a) st H Q
/-- the tests -/
inductive TstOk (X : Cx) (N : List Str) (sc : Scope) (dl : List Slot) (ix : List Nat) (as : List α) (sl : α → List Slot) (keep : α → Bool) : List Expr → Prop
  | nil : (∀ a ∈ as, keep a = true) → TstOk X N sc dl ix as sl keep []
  | one {c : Expr} : (∀ a ∈ as, ∀ C fp s H G', EB (blkOf X N sc C fp s H) G' (sl a ++ blkSl dl ix) c (keep a)) → TstOk X N sc dl ix as sl keep [c]
def EltX (X : Cx) (N : List Str) (sc : Scope) (dl : List Slot) (ix : List Nat) (as : List α) (sl : α → List Slot) (keep : α → Bool) (f : α → Dt) (elt : Expr) : Prop := ∀ a ∈ as, keep a = true → ∀ C fp s H G', EE (blkOf X N sc C fp s H) G' (sl a ++ blkSl dl ix) elt (f a)
def tLcx (wi : TI) (nt : Nat) (ix : List Nat) (g : TG) (tt : TT) (te : TE) : TE := fun st H Q => wi st H fun J H1 => ∀ D, H1 D = none → tBlkX nt g tt te (frees ix st) J D (fun _ H' => Q (.ref D) H') H1
/-! for over a source -/
/-- what a target makes of a datum in the def's own frame -/
def TgS (K : PySem.W.Frag) (g : TG) (z : Dt) (up : List Slot → List Slot) : Prop := ∀ (G : Gr) (st : L2.St) (Hf H : Hp) (v : V) (dl : List Slot) (Q : L2.St → Hp → Prop), Stt K G st Hf H dl → Rep K Hf v z → (∀ st', Stt K G st' Hf H (up dl) → Q st' H) → g v st H Q
end
/-! ### a block's scope, by a look at the text -/
def chkBx (sc dsc : Scope) (XN N tn : List Str) (ix : List Nat) : Bool :=
  decide N.Nodup && (decide (N = tn ++ ix.map (fun j => XN.getD j "")) && (decide (sc.kind = .function) && (sc.names.all (fun y => decide (y.2 ≠ .cell)) && (sc.names.all (fun y => decide (y.2 = .local → sc.names.lookup y.1 = some .local)) && (tn.all (fun x => decide (sc.names.lookup x = some .local)) &&
    (sc.names.all (fun y => decide (y.2 = .free → dsc.names.lookup y.1 = some .cell ∨ dsc.names.lookup y.1 = some .free)) && ix.all (fun j => decide (sc.names.lookup (XN.getD j "") = some .free) && decide (j < XN.length))))))))
end Sg

/-! two names at once; an owned thing looked at -/
namespace Sg
open PySem PySem.Spec PyProof.Rows L2
section
variable {X : Cx} {G : Gr} {E : XK} {dl : List Slot} {a b e : Expr} {d d1 d2 : Dt} {pos : Pos} {x y : Str} {w : Own} {u : Bool} {i : Int}
/-- a datum that lies in no heap -/
def scalD : Dt → Bool
  | .non | .bl _ | .int _ | .str _ | .ty _ | .cls _ => true
  | _ => false
end
section
variable {X : Cx} {G : Gr} {E : XK} {dl : List Slot} {e : Expr} {d1 d2 : Dt} {pos : Pos}
end
end Sg

/-! enumerate over a list -/
namespace Sg
open PySem PySem.Spec PyProof.Rows L2
section
variable {X : Cx} {pins : List (Addr × Obj)} {σ : List (Option V)} {H H' : Hp} {s : Shared} {h' : Heap}
end
/-- pairs of a number and an item -/
def Ite (K : PySem.W.Frag) (a : Addr) : It :=
  ⟨fun i H => ∃ xs x, SqL K H a xs ∧ xs[i]? = some x, fun i H v H' => ∃ p x, v = .ref p ∧ H p = none ∧ H' = upd H p (.tup [.int i, x]) ∧ ∀ xs, SqL K H a xs → xs[i]? = some x, fun i H => ∃ xs, SqL K H a xs ∧ xs.length ≤ i⟩
section
variable {X : Cx} {G : Gr} {dl : List Slot} {a : Expr} {xs : List Dt} {p pos : Pos}
def iEnum (K : PySem.W.Frag) (ta : TA) : TI := fun σ H R => ta σ H fun vs H1 => ∃ a, vs = [.ref a] ∧ (∃ xs, SqL K H1 a xs) ∧ R (Ite K a) H1
/-- the numbers and items -/
def enumD (xs : List Dt) : List Dt := (List.range xs.length).map fun (k : Nat) => .tup [.int k, xs.getD k .non]
end
end Sg

/-! a caught exception: the state behind its landing -/
namespace Sg
open PySem PySem.Spec PyProof.Rows L2
section
variable {X : Cx} {pins : List (Addr × Obj)} {st : L2.St} {H H' : Hp} {s s' : Shared} {h2 B : Heap} {ea t : Addr} {C : Value}
theorem land_inv (I : L2.Inv X pins st H s) (os : s'.os = s.os) (bare : AllBare s'.gens) (un : Un (frs X.stack) [] H H' s.heap s'.heap) (hok : HOk X.prog X.w H' s'.heap) (bg : ∀ b o, B.get? b = some o → s'.heap.get? b = some o)
    (hB1 : ∀ b o, s.heap.get? b = some o → H b = none → b ∉ frs X.stack → B.get? b = some o) (hB2 : ∀ b o, s.heap.get? b = some o → b ∉ frs X.stack → ∃ o', B.get? b = some o') (trk : ∀ a o, H' a = some o → ∃ ob, B.get? a = some ob)
    (bh : ∀ b o, B.get? b = some o → h2.get? b = some o) (ups : ∀ b o, s'.heap.get? b = some o → (∀ vs, o.data ≠ .fields vs) → ∃ sl, h2.get? b = some { o with slots := sl }) : L2.Inv X pins st H' { s' with heap := h2 } := by
  have slot : ∀ b o, s.heap.get? b = some o → H b = none → b ∈ frs X.stack → ∃ sl, h2.get? b = some { o with slots := sl } := fun b o e0 hn0 hf => by
    obtain ⟨sl, e1⟩ := un.slot b o e0 hn0 hf (by simp)
    obtain ⟨_, o2, e2, hd⟩ := I.stack.mem hf
    have e2 : s.heap.get? b = some o2 := e2
    rw [e0] at e2; cases e2
    obtain ⟨sl2, e3⟩ := ups b _ e1 hd
    exact ⟨sl2, e3⟩
  refine I.call' (s' := { s' with heap := h2 }) (ch := []) os ⟨fun b o e0 hn0 hf _ => bh _ _ (hB1 b o e0 hn0 hf), fun b o e0 hn0 hf _ => slot b o e0 hn0 hf, un.free, fun b o e0 _ => ?_, un.tups, un.frzs, un.tbls⟩ (fun a o e => ?_) bare (fun b z => absurd z (by simp))
  · by_cases hf : b ∈ frs X.stack
    · obtain ⟨sl, e1⟩ := slot b o e0 (I.stkFree b hf) hf
      exact ⟨_, e1⟩
    · obtain ⟨o2, e2⟩ := hB2 b o e0 hf
      exact ⟨o2, bh _ _ e2⟩
  · refine (hok a o e).stay (fun b u hb eu => ?_) (fun b z => z) (fun b xs z => z)
    have hb' : ∃ ob, B.get? b = some ob := by
      rcases hb with rfl | hb
      · exact trk _ _ e
      · exact trk _ _ hb
    obtain ⟨ob, eb⟩ := hb'
    have := bg _ _ eb
    rw [eu] at this; cases this
    exact bh _ _ eb
end
end Sg

/-! try: a call that raises; except D as n: a suite that goes on -/
namespace Sg
open PySem PySem.Spec PyProof.Rows L2
/-- the test of an except: the exception's class C lies under D -/
theorem exc_hit {M : Model} {A : Around} {E : Value → Shared → Prop} {K : PySem.W.Frag} {s : Shared} {ea C D : Addr} {Q : Bool → Shared → Prop} {bmB : List Value} {nw : String} (X : K.In s.heap) (hI : IsOf s.heap ea C) (hD : PySem.W.excIn K D bmB nw = true)
    (hbe : PySem.W.mroIn K D (.type "BaseException") = some true) (hsub : PySem.W.mroIn K C (.ref D) = some true) (hq : Q true s) : wpAny M A (excMatches (.ref ea) (.ref D)) Q E s := by
  obtain ⟨z1, z2, z3, z4, z5, z6, z7, z8, z9, y1, y2, y3, y4, y5, y6, y7, mN, hO, _, _, _⟩ := exc_obj X hD
  obtain ⟨h, g, d, t, os⟩ := s
  have L0 := hI.ty (M := M)
  have L1 := PySem.W.looks_mroIn (M := M) X hbe
  have L2' := PySem.W.looks_mroIn (M := M) X hsub
  have f := tc_notTuple
  unfold excMatches
  repeat (first | with_reducible refine wpAny_loadPart_at hO ?_ | with_reducible refine PySem.W.Looks.at L0 ?_ | with_reducible refine PySem.W.Looks.at L1 ?_ | with_reducible refine PySem.W.Looks.at L2' ?_ | wp_step)
  exact hq
section
variable {X : Cx} {pins pins' : List (Addr × Obj)} {st : L2.St} {H H' : Hp} {s s' : Shared} {h2 B : Heap} {ea t : Addr} {C D : Addr} {xe : Value → Shared → Prop} {G : Gr} {Hf : Hp}
theorem inv_pins (I : L2.Inv { X with pn := X.pn ++ pins, xe := xe } pins' st H s) : L2.Inv X pins st H s :=
  ⟨⟨I.ok.mod, I.ok.kind, I.ok.glob, I.ok.blt, I.ok.above, I.ok.inj, I.ok.has, I.ok.cab, I.ok.hd, I.ok.frames, I.ok.stk, I.ok.exf, I.ok.bs, I.ok.bsz, I.ok.noex, I.ok.exfs, I.ok.funs, I.ok.frf⟩, I.os, I.bare, I.base, I.loc, I.cell, I.free, I.freeC, fun p hp => I.pin p (List.mem_append_left _ hp), I.hok, I.len⟩
theorem inv_try (I : L2.Inv X pins st H s) : L2.Inv { X with pn := X.pn ++ pins, xe := xe } [] st H s :=
  ⟨⟨I.ok.mod, I.ok.kind, I.ok.glob, I.ok.blt, I.ok.above, I.ok.inj, I.ok.has, I.ok.cab, I.ok.hd, I.ok.frames, I.ok.stk, I.ok.exf, I.ok.bs, I.ok.bsz, I.ok.noex, I.ok.exfs, I.ok.funs, I.ok.frf⟩, I.os, I.bare, I.base, I.loc, I.cell, I.free, I.freeC, fun p hp => I.pin p (by simpa using hp), I.hok, I.len⟩
theorem inv_mark {hd : Option Value} (I : L2.Inv X pins st H s) : L2.Inv { X with A := X.A.mark hd, calm := false, xe := xe } pins st H s :=
  ⟨⟨I.ok.mod, I.ok.kind, I.ok.glob, I.ok.blt, I.ok.above, I.ok.inj, I.ok.has, I.ok.cab, fun z => Bool.noConfusion z, I.ok.frames, I.ok.stk, I.ok.exf, I.ok.bs, I.ok.bsz, I.ok.noex, I.ok.exfs, I.ok.funs, I.ok.frf⟩, I.os, I.bare, I.base, I.loc, I.cell, I.free, I.freeC, I.pin, I.hok, I.len⟩
theorem inv_unmark {A : Around} (ok : X.Ok) (I : L2.Inv { X with A := A, calm := false, xe := xe } pins st H s) : L2.Inv X pins st H s :=
  ⟨ok, I.os, I.bare, I.base, I.loc, I.cell, I.free, I.freeC, I.pin, I.hok, I.len⟩
/-- landed, the exception tracked -/
theorem land_inv2 (I : L2.Inv X pins st H s) (os : s'.os = s.os) (bare : AllBare s'.gens) (un : Un (frs X.stack) [] H H' s.heap s'.heap) (hok : HOk X.prog X.w H' s'.heap) (bg : ∀ b o, B.get? b = some o → s'.heap.get? b = some o)
    (hB1 : ∀ b o, s.heap.get? b = some o → H b = none → b ∉ frs X.stack → B.get? b = some o) (hB2 : ∀ b o, s.heap.get? b = some o → b ∉ frs X.stack → ∃ o', B.get? b = some o') (trk : ∀ a o, H' a = some o → ∃ ob, B.get? a = some ob)
    (bh : ∀ b o, B.get? b = some o → h2.get? b = some o) (ups : ∀ b o, s'.heap.get? b = some o → (∀ vs, o.data ≠ .fields vs) → ∃ sl, h2.get? b = some { o with slots := sl })
    (hn : s.heap.get? ea = none) (hn' : H' ea = none) (hI : IsOf h2 ea C) : L2.Inv X pins st (upd H' ea (.ext fun h => IsOf h ea C)) { s' with heap := h2 } := by
  have slot : ∀ b o, s.heap.get? b = some o → H b = none → b ∈ frs X.stack → ∃ sl, h2.get? b = some { o with slots := sl } := fun b o e0 hn0 hf => by
    obtain ⟨sl, e1⟩ := un.slot b o e0 hn0 hf (by simp)
    obtain ⟨_, o2, e2, hd⟩ := I.stack.mem hf
    have e2 : s.heap.get? b = some o2 := e2
    rw [e0] at e2; cases e2
    obtain ⟨sl2, e3⟩ := ups b _ e1 hd
    exact ⟨sl2, e3⟩
  have sm : Same H' (upd H' ea (.ext fun h => IsOf h ea C)) := same_upd hn'
  refine I.call' (s' := { s' with heap := h2 }) (ch := []) os ⟨fun b o e0 hn0 hf _ => bh _ _ (hB1 b o e0 hn0 hf), fun b o e0 hn0 hf _ => slot b o e0 hn0 hf, fun b o e0 hn0 hx => ?_, fun b o e0 _ => ?_, fun b xs e => sm _ _ (un.tups b xs e), fun b o u e => sm _ _ (un.frzs b o u e), fun b ps e => let ⟨m, q⟩ := un.tbls b ps e; ⟨m, sm _ _ q⟩⟩ (fun a o e => ?_) bare (fun b z => absurd z (by simp))
  · have ne : b ≠ ea := fun z => by rw [z, hn] at e0; cases e0
    rw [upd_ne ne]
    exact un.free b o e0 hn0 hx
  · by_cases hf : b ∈ frs X.stack
    · obtain ⟨sl, e1⟩ := slot b o e0 (I.stkFree b hf) hf
      exact ⟨_, e1⟩
    · obtain ⟨o2, e2⟩ := hB2 b o e0 hf
      exact ⟨o2, bh _ _ e2⟩
  · by_cases ha : a = ea
    · subst ha
      rw [upd_same] at e; cases e
      refine ⟨hI, let ⟨ox, h1, _⟩ := hI; ⟨ox, h1⟩, fun h1 h2 ⟨ox, q1, q2⟩ k => ⟨ox, k _ q1, q2⟩⟩
    · rw [upd_ne ha] at e
      refine (hok a o e).stay (fun b u hb eu => ?_) (fun b z => sm _ _ z) (fun b xs z => sm _ _ z)
      have hb' : ∃ ob, B.get? b = some ob := by
        rcases hb with rfl | hb
        · exact trk _ _ e
        · exact trk _ _ hb
      obtain ⟨ob, eb⟩ := hb'
      have := bg _ _ eb
      rw [eu] at this; cases this
      exact bh _ _ eb
/-- the name of the exception goes -/
theorem goes_ok {M : Model} {A : Around} {E : Value → Shared → Prop} {i : Nat} {x : Str} {pos : Pos} {Q : Unit → Shared → Prop} (I : L2.Inv X pins st H s) (hN : X.N.Nodup) (hi : X.N[i]? = some x) (hk : X.env.kindOf x = some .local)
    (h : ∀ s', L2.Inv X pins (st.set i none) H s' → Q () s') : wpAny M A (do bindName X.env x .none; unbindBehindTheSuite X.env x pos) Q E s := by
  obtain ⟨m, hn, hl⟩ := id I.loc
  have hcls : (X.env.scope.kind == .class || (X.env.scope.kind == .module && X.env.locals != X.env.globals)) = false := by rw [I.ok.kind]; rfl
  have hiσ : i < st.length := by rw [I.len]; exact (List.getElem?_eq_some_iff.mp hi).1
  have cne := I.cne
  refine wpAny_nameGoes_keeps hk hn hcls fun h' v hn' hs => ?_
  obtain ⟨oL, _, _, hoL, _⟩ := id hn
  refine h _ ⟨I.ok, I.os, I.bare, ⟨fun b o e n hb hx => ?_, fun b o e n hb hx => ?_, I.base.free, fun b o e hx => ?_, I.base.tups, I.base.frzs, I.base.tbls⟩, ⟨_, hn', fun j y v' e1 e2 e3 => ?_⟩, fun y c e => ?_, I.free, I.freeC, fun p hp => ?_, fun b ob e => ?_, by simpa using I.len⟩
  · exact (hs.2 b (Nat.ne_of_lt (Nat.lt_of_lt_of_le (Heap.lt_size e) I.ok.above))).trans (I.base.keep b o e n hb hx)
  · obtain ⟨sl, e1⟩ := I.base.slot b o e n hb hx
    exact ⟨sl, (hs.2 b (Nat.ne_of_lt (Nat.lt_of_lt_of_le (Heap.lt_size e) I.ok.above))).trans e1⟩
  · obtain ⟨o', e1⟩ := I.base.there b o e hx
    exact ⟨o', (hs.2 b (Nat.ne_of_lt (Nat.lt_of_lt_of_le (Heap.lt_size e) I.ok.above))).trans e1⟩
  · by_cases hj : j = i
    · subst hj
      rw [List.getElem?_set_self hiσ] at e2
      cases e2
    · rw [List.getElem?_set_ne (Ne.symm hj)] at e2
      obtain ⟨u', r', q⟩ := hl j y v' e1 e2 e3
      refine ⟨u', r', ?_⟩
      rcases q with ⟨k, e⟩ | ⟨k, c, e, z⟩
      · refine .inl ⟨k, ?_⟩
        have : y ≠ x := fun e => hj (nodup_ix hN e1 (e ▸ hi))
        simp [this, e]
      · exact .inr ⟨k, c, e, z.sameBut hs (cne y c e)⟩
  · obtain ⟨w', z⟩ := I.cell y c e
    exact ⟨w', z.sameBut hs (cne y c e)⟩
  · obtain ⟨e, n, ne, nf, d⟩ := I.pin p hp
    exact ⟨(hs.2 p.1 ne).trans e, n, ne, nf, d⟩
  · refine (I.hok b ob e).stay (fun c w' hc q => (hs.2 c ?_).trans q) (fun _ q => q) fun _ _ q => q
    rintro rfl
    rcases hc with rfl | hc
    · have := I.free; rw [this] at e; cases e
    · have := I.free; rw [this] at hc; cases hc
theorem stt_drop {K : PySem.W.Frag} {dl : List Slot} {i : Nat} (S : Stt K G st Hf H dl) : Stt K G (st.set i none) Hf H (dl.set i .unk) := by
  refine ⟨S.gr, by simp [S.len], fun j d h => ?_, fun j o h => ?_, fun j k o o' a h1 h2 h3 h4 => ?_⟩
  · by_cases e : i = j
    · subst e
      by_cases hl : i < dl.length
      · rw [List.getElem?_set_self hl] at h; cases h
      · rw [List.getElem?_eq_none (by simp; omega)] at h; cases h
    · rw [List.getElem?_set_ne e] at h ⊢; exact S.val j d h
  · by_cases e : i = j
    · subst e
      by_cases hl : i < dl.length
      · rw [List.getElem?_set_self hl] at h; cases h
      · rw [List.getElem?_eq_none (by simp; omega)] at h; cases h
    · rw [List.getElem?_set_ne e] at h ⊢; exact S.own j o h
  · have ne : ∀ (j : Nat) o, (dl.set i .unk)[j]? = some (.own o) → i ≠ j := fun j o h e => by
      subst e
      by_cases hl : i < dl.length
      · rw [List.getElem?_set_self hl] at h; cases h
      · rw [List.getElem?_eq_none (by simp; omega)] at h; cases h
    have n1 := ne j o h1
    have n2 := ne k o' h2
    rw [List.getElem?_set_ne n1] at h1 h3
    rw [List.getElem?_set_ne n2] at h2 h4
    exact S.dis j k o o' a h1 h2 h3 h4
/-- nothing is known of the slots -/
def blank (n : Nat) : List Slot := List.replicate n .unk
theorem stt_blank {K : PySem.W.Frag} {n : Nat} (g : Grow G.Hf G.H Hf H) (hl : st.length = n) : Stt K G st Hf H (blank n) := by
  have nn : ∀ (i : Nat) x, (blank n)[i]? = some x → x = .unk := fun i x h => by
    unfold blank at h
    rw [List.getElem?_replicate] at h
    split at h
    · cases h; rfl
    · cases h
  exact ⟨g, by simp [blank, hl], fun i d h => Slot.noConfusion (nn i _ h), fun i d h => Slot.noConfusion (nn i _ h), fun i j o o' a h => Slot.noConfusion (nn i _ h)⟩
def noOwn : List Slot → Bool
  | [] => true
  | .own _ :: _ => false
  | _ :: r => noOwn r
theorem noOwn_of : ∀ {dl : List Slot}, noOwn dl = true → ∀ (j : Nat) o, dl[j]? ≠ some (.own o)
  | [], _, j, o, h => by simp at h
  | .val d :: r, q, 0, o, h => by simp at h
  | .unk :: r, q, 0, o, h => by simp at h
  | .val d :: r, q, j + 1, o, h => noOwn_of (dl := r) q j o (by simpa using h)
  | .unk :: r, q, j + 1, o, h => noOwn_of (dl := r) q j o (by simpa using h)
/-- what is wanted of an exception in the body -/
def EX1 (C : Addr) (Hf H : Hp) : XK := fun c _ H1 => c = .ref C ∧ ∃ Hf1, Grow Hf H Hf1 H1
/-- the callee's exception is caught -/
theorem caught {e : Value} {i : Nat} {dn n : Str} {np hpos : Pos} {b0 : Stmt} {suite : List Stmt} {Dn : Ends} {G' : Gr} {dl1 : List Slot} (I : L2.Inv X pins st H s) (hst : X.stack = X.env :: X.outer) (hfr : X.env.frame = some X.env.locals)
    (x : CX1 X.prog X.w X.stack H s (EX1 C G'.Hf G'.H) e s') (hN : X.N.Nodup) (hi : X.N[i]? = some n) (hk : X.env.kindOf n = some .local) (hD : ExC X.K D) (hm : X.mg dn = some (.ref D)) (hg : Gl X dn) (hdb : (dn == ("__debug__" : Str)) = false)
    (hbe : PySem.W.mroIn X.K D (.type "BaseException") = some true) (hsub : PySem.W.mroIn X.K C (.ref D) = some true)
    (hs : ∀ (ea : Addr) xe, ESs { X with A := X.A.mark (some (.ref ea)), calm := false, xe := xe } G E0 ((blank X.N.length).set i (.val (.xo C))) (b0 :: suite) (.nx dl1))
    (gr : Grow G.Hf G.H G'.Hf G'.H) (k : ∀ st Hf' H, Same G'.Hf Hf' → Stt X.K G st Hf' H (dl1.set i .unk) → Dn.nx st H) :
    wpAny (model X.prog X.w) X.A (noteFrame e X.env) (fun _ s2 => wpAny (model X.prog X.w) X.A (setFlight e none) (fun _ s3 =>
      wpAny (model X.prog X.w) X.A (handleBy e X.env [.ExceptHandler (some (.Name dn np)) (some n) (b0 :: suite) hpos]) (SP X pins Dn) X.xe s3) X.xe s2) X.xe s' := by
  obtain ⟨ea, C', od, H', B, t, rfl, os, bare, un, hok, fl, hB1, hB2, trk, hn, hn', hdi, rfl, Hf1, g1⟩ := x
  have fl0 := fl
  rw [hst] at fl
  refine wpAny_looks_onW (A := X.A) (by rw [I.ok.frames, hst]) hfr fl fun h1 held up1 => ?_
  refine wpAny_landsW (s := { s' with heap := h1 }) held fun h2 fl2 up2 => ?_
  rw [← hst] at fl2
  have up12 : ∀ b o, s'.heap.get? b = some o → (∀ vs, o.data ≠ .fields vs) → ∃ sl, h2.get? b = some { o with slots := sl } := fun b o e hd => by
    obtain ⟨sl, e1⟩ := up1 b o e hd
    obtain ⟨sl2, e2⟩ := up2 b _ e1 hd
    exact ⟨sl2, e2⟩
  have I2 := land_inv I os bare un hok fl0.1 hB1 hB2 trk fl2.1 up12
  refine wpAny_handleBy_cons (codeAny_handlers_test (ld_glob (X := { X with A := X.A.mark (some (.ref ea)), calm := false }) (inv_mark I2) hg hm ?_ hdb)) (by intro q; cases q)
  refine exc_hit (K := X.K) (C := C) I2.kIn fl2.there hD.ex hbe hsub ?_
  refine codeAny_handlers_suite_as (lands_againW (s := { s' with heap := h2 }) fl2 fun h3 fl3 up3 => ?_)
  have I3 := land_inv2 (C := C) I os bare un hok fl0.1 hB1 hB2 trk fl3.1 (fun b o e hd => by
    obtain ⟨sl, e1⟩ := up12 b o e hd
    obtain ⟨sl2, e2⟩ := up3 b _ e1 hd
    exact ⟨sl2, e2⟩) hn hn' fl3.there
  refine store_ok (X := { X with A := X.A.mark (some (.ref ea)), calm := false }) (v := .ref ea) (inv_mark I3) hN hi (.inl hk) rfl (fun s4 I4 => ?_) (.inr hk)
  have g2 : Grow G'.Hf G'.H (upd Hf1 ea (.ext fun h => IsOf h ea C)) (upd H' ea (.ext fun h => IsOf h ea C)) := g1.trans (.alloc g1.sub hn')
  have S4 : Stt X.K G (st.set i (some (.ref ea))) (upd Hf1 ea (.ext fun h => IsOf h ea C)) (upd H' ea (.ext fun h => IsOf h ea C)) ((blank X.N.length).set i (.val (.xo C))) :=
    (stt_blank (gr.trans g2) I.len).set (.xo upd_same fun h z => z)
  refine wpAny_mono (hs ea _ pins s4 _ _ { nx := fun st H => ∃ Hf', Same G'.Hf Hf' ∧ Stt X.K G st Hf' H dl1, rt := fun _ _ => False } (inv_mark (inv_unmark I.ok I4)) ⟨_, S4, fun st Hf' H sm S => ⟨Hf', g2.frz.trans sm, S⟩⟩) (fun f s5 q => ?_) (fun _ _ z => z)
  cases f with
  | next =>
    obtain ⟨σ, H5, I5, Hf5, sm5, S5⟩ := q
    refine goes_ok (inv_unmark I.ok I5) hN hi hk fun s6 I6 => ⟨_, H5, I6, k _ Hf5 H5 sm5 (stt_drop S5)⟩
  | brk => obtain ⟨_, _, _, z⟩ := q; exact z.elim
  | cont => obtain ⟨_, _, _, z⟩ := q; exact z.elim
  | ret u => obtain ⟨_, _, _, _, _, z⟩ := q; exact z.elim
/-- try: what raises; except D as n: a suite that goes on -/
theorem es_try (i : Nat) {E : XK} {dl dlb dl1 : List Slot} {body : List Stmt} {fs : List (Str × Dt)} {dn n : Str} {np hpos pos : Pos} {b0 : Stmt} {suite : List Stmt} (hst : X.stack = X.env :: X.outer) (hfr : X.env.frame = some X.env.locals)
    (hN : X.N.Nodup) (hD : ExC X.K D) (hm : X.mg dn = some (.ref D)) (hbe : PySem.W.mroIn X.K D (.type "BaseException") = some true) (hsub : PySem.W.mroIn X.K C (.ref D) = some true) (hno : noOwn dlb = true) (hle : Le dlb dl)
    (hb : ∀ pn xe E1 G1, Passes (CX1 X.prog X.w) { X with pn := pn, xe := xe } E1 → ESs { X with pn := pn, xe := xe } G1 E1 dlb body (.ex (.ref C) fs))
    (hs : ∀ (ea : Addr) xe G1, ESs { X with A := X.A.mark (some (.ref ea)), calm := false, xe := xe } G1 E0 ((blank X.N.length).set i (.val (.xo C))) (b0 :: suite) (.nx dl1))
    (hi : X.N[i]? = some n := by rfl) (hk : X.env.kindOf n = some .local := by rfl) (hg : Gl X dn := by rfl) (hdb : (dn == ("__debug__" : Str)) = false := by decide) :
    ES X G E dl (.Try body [.ExceptHandler (some (.Name dn np)) (some n) (b0 :: suite) hpos] [] [] pos) (.nx (dl1.set i .unk)) := by
  intro pins s st H Dn I ⟨Hf, S, k⟩
  have hno := noOwn_of hno
  refine wpAny_Try_except ?_
  have Sb : Stt X.K ⟨Hf, H⟩ st Hf H dlb := by
    have S' := S.weak hle
    exact ⟨.refl S.sub, S'.len, S'.val, fun j o h => absurd h (hno j o), fun j _ o _ _ h => absurd h (hno j o)⟩
  have h1 := hb (X.pn ++ pins) (fun e s1 => wpAny (model X.prog X.w) X.A (noteFrame e X.env) (fun _ s2 => wpAny (model X.prog X.w) X.A (setFlight e none) (fun _ s3 =>
      wpAny (model X.prog X.w) X.A (handleBy e X.env [.ExceptHandler (some (.Name dn np)) (some n) (b0 :: suite) hpos]) (SP X pins Dn) X.xe s3) X.xe s2) X.xe s1) (EX1 C Hf H) ⟨Hf, H⟩
    (fun pins' σ H1 s1 e s2 J x => caught (G := G) (G' := ⟨Hf, H⟩) (inv_pins J) hst hfr x hN hi hk hD hm hg hdb hbe hsub (fun ea xe => hs ea xe G) S.gr k)
    [] s st H { nx := fun _ _ => False, rt := fun _ _ => False } (inv_try I) ⟨Hf, Sb, fun od Hf' H' g _ => ⟨rfl, Hf', g⟩⟩
  refine wpAny_mono h1 (fun f s5 q => ?_) (fun _ _ z => z)
  cases f with
  | next => obtain ⟨_, _, _, z⟩ := q; exact z.elim
  | brk => obtain ⟨_, _, _, z⟩ := q; exact z.elim
  | cont => obtain ⟨_, _, _, z⟩ := q; exact z.elim
  | ret u => obtain ⟨_, _, _, _, _, z⟩ := q; exact z.elim
end
/-! ### a call that raises -/
section
variable {X : Cx} {G : Gr} {E : XK} {dl : List Slot} {e : Expr} {es : List Expr} {ds : List Dt} {pos p apos pos' : Pos} {x m : Str} {C : Addr} {fs fe : List (Str × Dt)} {k k' n : Nat} {R : List Dt → Res → Prop} {ob : Expr} {c : Value}
theorem es_exGf (F : GF X.prog X.w X.K X.mg X.base (CX1 X.prog X.w) k x n R) (hx : Passes (CX1 X.prog X.w) X E) (hr : Room k' X.A) (ha : EA X G dl (e :: es) ds) (h : R ds (.exc c fe)) (hkk : k ≤ k' := by decide) (hl : ds.length = n := by rfl) (hg : Gl X x := by rfl) (hdb : (x == ("__debug__" : Str)) = false := by decide)
    (he : starEach (e :: es) X.env = (false, eval e X.env) :: starEach es X.env := by rfl) (hpl : (backTo pos (starEach es X.env)).any (·.1) = false := by rfl) (hs : swapsWith (.Call (.Name x p) (e :: es) [] pos) none pos'.line X.env = pure false := by rfl) :
    ES X G E dl (.Expr (.Call (.Name x p) (e :: es) [] pos) pos') (.ex c fe) := by
  obtain ⟨f, fd, ps, Fo, hm, hk, hb⟩ := F.ex
  exact psI (ps_expr (pe_call (dvs := []) (E := E) Fo (hr.mono hkk) hg hm hk hb .nil hx ha hdb he hpl) hs) fun D st H ⟨Hf, S, kk⟩ => ⟨Hf, S, fun vs Hf1 H1 g1 r1 => ⟨Hf1, ds, .exc c fe, g1.sub, by rw [List.append_nil]; exact r1, hl, h, fun od Hf2 H2 g2 xx => kk od Hf2 H2 (S.gr.trans (g1.trans g2)) xx⟩⟩
end
end Sg

/-! texts: slices, and a text with a part by its repr -/
namespace Sg
open PySem PySem.Spec PyProof.Rows L2
section
variable {X : Cx} {G : Gr} {dl : List Slot} {a e b : Expr} {x y : Str} {i j : Int} {pos p1 p2 : Pos} {lo hi : Option Expr} {l u : Option Int}
theorem sl_str : SlR X (fun x lo hi H Q => ∃ z : Str, x = .str z ∧ z.length ≤ sizeLine ∧ Q (.str (Txt.slice z lo hi)) H) := by
  intro pins s σ H x v vl vu lo hi sl Q I rx hs pl pu h
  obtain ⟨z, rfl, hz, q⟩ := h
  obtain ⟨t, rfl⟩ := (show ∃ t, v = Value.str z t from rx)
  obtain ⟨o, h1, h2, h3⟩ := hs
  refine ⟨"str", _, F.slot_str_getitem.lookup, typeIs_str _ _ _, ?_⟩
  cases pl with
  | none =>
    cases pu with
    | none => exact wpAny_getItem_str_slice (l := none) (u := none) (st := none) ⟨o, h1, h2, h3⟩ rfl (post_val_or_str ⟨Nat.le_trans (Txt.slice_le z _ _) hz, fun t' k => ⟨.str (Txt.slice z _ _), H, I.tok _, ⟨t', rfl⟩, q⟩⟩)
    | int j uj => exact wpAny_getItem_str_slice (l := none) (u := some (j, uj)) (st := none) ⟨o, h1, h2, h3⟩ rfl (post_val_or_str ⟨Nat.le_trans (Txt.slice_le z _ _) hz, fun t' k => ⟨.str (Txt.slice z _ _), H, I.tok _, ⟨t', rfl⟩, q⟩⟩)
  | int i ui =>
    cases pu with
    | none => exact wpAny_getItem_str_slice (l := some (i, ui)) (u := none) (st := none) ⟨o, h1, h2, h3⟩ rfl (post_val_or_str ⟨Nat.le_trans (Txt.slice_le z _ _) hz, fun t' k => ⟨.str (Txt.slice z _ _), H, I.tok _, ⟨t', rfl⟩, q⟩⟩)
    | int j uj => exact wpAny_getItem_str_slice (l := some (i, ui)) (u := some (j, uj)) (st := none) ⟨o, h1, h2, h3⟩ rfl (post_val_or_str ⟨Nat.le_trans (Txt.slice_le z _ _) hz, fun t' k => ⟨.str (Txt.slice z _ _), H, I.tok _, ⟨t', rfl⟩, q⟩⟩)
/-- a slice's part, by data -/
def tDPt (K : PySem.W.Frag) (G : Gr) (dl : List Slot) (o : Option Int) : TO := fun st H Q => ∃ Hf, Stt K G st Hf H dl ∧ ∀ Hf' H', Grow Hf H Hf' H' → Q o H'
abbrev EPt (X : Cx) (G : Gr) (dl : List Slot) (e : Option Expr) (o : Option Int) : Prop := PO X e (tDPt X.K G dl o)
theorem poI {e : Option Expr} {t t' : TO} (h : PO X e t) (i : ∀ st H Q, t' st H Q → t st H Q) : PO X e t' := fun pins s st H Q I q => h pins s st H Q I (i st H Q q)
theorem ept_no : EPt X G dl none none := poI po_none fun st H Q ⟨Hf, S, k⟩ => k Hf H (.refl S.sub)
theorem ept_int (h : EE X G dl e (.int i)) : EPt X G dl (some e) (some i) := poI (po_some h) fun st H Q ⟨Hf, S, k⟩ => ⟨Hf, S, fun v Hf1 H1 g1 r1 => by cases r1; exact ⟨i, rfl, k Hf1 H1 g1⟩⟩
theorem ee_slS (he : EE X G dl e (.str x)) (hl : EPt X G dl lo l) (hu : EPt X G dl hi u) (hx : x.length ≤ sizeLine) : EE X G dl (.Subscript e (.Slice lo hi none p2) pos) (.str (Txt.slice x l u)) :=
  peI (pe_slice sl_str he hl hu) fun st H Q ⟨Hf, S, k⟩ => ⟨Hf, S, fun v Hf1 H1 g1 r1 => ⟨Hf1, S.grow g1, fun Hf2 H2 g2 => ⟨Hf2, (S.grow g1).grow g2, fun Hf3 H3 g3 => by
    cases r1
    exact ⟨x, rfl, hx, k _ Hf3 H3 ((g1.trans g2).trans g3) (.str _)⟩⟩⟩⟩
/-- f'a{e!r}' -/
theorem ee_fmtR {jk : Nat} (he : EE X G dl e (.str x)) (h1 : (reprText x).length ≤ sizeLine) (h2 : (Str.empty ++ y).length ≤ sizeLine) (h3 : (Str.empty ++ y ++ reprText x).length ≤ sizeLine) :
    EE X G dl (.JoinedStr [.Constant (.str y) jk p1, .FormattedValue e 114 none p2] pos) (.str (Str.empty ++ y ++ reprText x)) := by
  intro pins s st H Q I ⟨Hf, S, k⟩
  refine wpAny_JoinedStr ?_
  refine thn (pe_str (X := X) (j := jk) (pos := p1) pins s st H (fun v H1 => v = .str y ∧ H1 = H) I ⟨rfl, rfl⟩) fun v s1 ⟨v1, H1, I1, r1, e1, e2⟩ => ?_
  subst e1 e2
  obtain ⟨t1, rfl⟩ := (show ∃ t, v = Value.str y t from r1)
  refine ⟨y, t1, rfl, h2, ?_⟩
  refine wpAny_FormattedValue_repr (thn (he pins s1 st H1 (fun v H2 => v = .str x ∧ ∃ Hf2, Grow Hf H1 Hf2 H2) I1 ⟨Hf, S, fun v Hf2 H2 g2 r2 => by cases r2; exact ⟨rfl, Hf2, g2⟩⟩) fun v s2 ⟨v2, H2, I2, r2, e2, Hf2, g2⟩ => ?_)
  subst e2
  obtain ⟨t2, rfl⟩ := (show ∃ t, v = Value.str x t from r2)
  refine wpAny_pyReprObj_str ?_ h1
  refine formatField_str (fun t' tk => ⟨_, t', rfl, h3, h3, .str (Str.empty ++ y ++ reprText x), H2, (I2.tok _).tok _, ⟨_, rfl⟩, k _ Hf2 H2 g2 (.str _)⟩) h1
end
end Sg

/-! texts: walked, compared -/
namespace Sg
open PySem PySem.Spec PyProof.Rows L2
def Itx (x : Str) : It := ⟨fun i H => ∃ c, x.cps[i]? = some c, fun i H v H' => H' = H ∧ ∃ c, x.cps[i]? = some c ∧ v = .str ⟨#[c]⟩, fun i H => x.cps[i]? = none⟩
def asciiS (x : Str) : Bool := x.cps.all (· < 128)
/-- the signs of a text -/
def signs (x : Str) : List Dt := x.cps.toList.map fun c => .str ⟨#[c]⟩
section
variable {X : Cx} {G : Gr} {dl : List Slot} {a b c e : Expr} {x y z : Str} {p pos : Pos} {i j k : Int} {u v : Bool}
def iStr (ta : TE) : TI := fun σ H R => ta σ H fun v H1 => ∃ x, v = .str x ∧ asciiS x = true ∧ R (Itx x) H1
/-! ### a <= b <= c -/
def leS (x y : Str) : Bool := !decide (y.cps.toList < x.cps.toList)
variable {d1 d2 d3 : Dt}
end
end Sg

/-! lists of texts: in, slices, join; all, sum -/
namespace Sg
open PySem PySem.Spec PyProof.Rows L2
section
variable {X : Cx} {G : Gr} {dl : List Slot} {a b e : Expr} {pos p p2 apos cpos : Pos} {k x : Str} {xs : List Str} {ds : List Dt} {bs : List Bool} {ns : List Int} {lo hi : Option Expr} {l u : Option Int}
/-! ### slices of lists -/
def cutD {α : Type} (xs : List α) (lo hi : Option Int) : List α := (xs.drop (HT.sIx xs.length 0 lo)).take (HT.sIx xs.length xs.length hi - HT.sIx xs.length 0 lo)
/-! ### all, sum -/
/-! ### x.join(texts) -/
end
end Sg

/-! dicts: read; one that __init__ fills -/
namespace Sg
open PySem PySem.Spec PyProof.Rows L2
def valD (kds : List (Key × Dt)) (k : Key) : Option Dt := (kds.find? fun kv => decide (kv.1 = k)).map (·.2)
section
variable {X : Cx} {G : Gr} {E : XK} {dl : List Slot} {a b e i o : Expr} {d : Dt} {pos p : Pos} {k x : Str} {kds : List (Key × Dt)}
def putKD (kds : List (Key × Dt)) (k : Key) (v : Dt) : List (Key × Dt) :=
  if (valD kds k).isSome = true then kds.map (fun kv => if kv.1 = k then (kv.1, v) else kv) else kds ++ [(k, v)]
/-! ### a dict of self's, made and filled at the end of __init__ -/
def rowsD (rows : List (Str × List Dt)) : List (Key × Dt) := rows.map fun r => (.inr r.1, .tup (.str r.1 :: r.2))
def rowD (r : Str × List Dt) : Dt := .tup (.str r.1 :: r.2)
end
end Sg

/-! list(d), list(d.values()) -/
namespace Sg
open PySem PySem.Spec PyProof.Rows L2
section
variable {X : Cx} {G : Gr} {dl : List Slot} {a o : Expr} {kds : List (Key × Dt)} {pos p apos cpos : Pos}
def kD : Key → Dt
  | .inl i => .int i
  | .inr x => .str x
end
end Sg

/-! three names as a target; int(bool) -/
namespace Sg
open PySem PySem.Spec PyProof.Rows L2
section
variable {K : PySem.W.Frag}
abbrev gTri (K : PySem.W.Frag) : TG := gTup K 3 (gCons (gName 0) (gCons (gName 1) (gCons (gName 2) gNil)))
end
section
variable {X : Cx} {N tn : List Str} {ix : List Nat} {sc : Scope} {x y z : Str} {px py pz p : Pos}
end
section
variable {X : Cx} {G : Gr} {E : XK} {dl : List Slot} {e a b : Expr} {d1 d2 d3 : Dt} {pos p : Pos} {u : Bool}
end
end Sg

/-! try with a call as its body, the slots kept -/
namespace Sg
open PySem PySem.Spec PyProof.Rows L2
section
variable {X : Cx} {pins pins' : List (Addr × Obj)} {st : L2.St} {H H' : Hp} {s s' : Shared} {h2 B : Heap} {ea t : Addr} {C D : Addr} {xe : Value → Shared → Prop} {G : Gr} {Hf : Hp}
/-- try: a body that does not raise -/
theorem es_tryOk {E : XK} {dl dl1 : List Slot} {body : List Stmt} {h0 : ExceptHandler} {hs : List ExceptHandler} {pos : Pos} (hb : ∀ pn xe, ESs { X with pn := pn, xe := xe } G E0 dl body (.nx dl1)) : ES X G E dl (.Try body (h0 :: hs) [] [] pos) (.nx dl1) := by
  intro pins s st H Dn I ⟨Hf, S, k⟩
  refine wpAny_Try_except ?_
  refine wpAny_mono (hb (X.pn ++ pins) _ [] s st H { nx := Dn.nx, rt := fun _ _ => False } (inv_try I) ⟨Hf, S, k⟩) (fun f s5 q => ?_) (fun _ _ z => z)
  cases f with
  | next =>
    obtain ⟨σ, H5, I5, q⟩ := q
    exact wpAny_execs_nil ⟨σ, H5, inv_pins I5, q⟩
  | brk => obtain ⟨_, _, _, z⟩ := q; exact z.elim
  | cont => obtain ⟨_, _, _, z⟩ := q; exact z.elim
  | ret u => obtain ⟨_, _, _, _, _, z⟩ := q; exact z.elim
end
end Sg

/-! enumerate over a text -/
namespace Sg
open PySem PySem.Spec PyProof.Rows L2
/-- pairs of a number and a sign -/
def Itxe (x : Str) : It :=
  ⟨fun i H => ∃ c, x.cps[i]? = some c, fun i H v H' => ∃ p c, v = .ref p ∧ H p = none ∧ H' = upd H p (.tup [.int i, .str ⟨#[c]⟩]) ∧ x.cps[i]? = some c, fun i H => i = x.cps.size⟩
section
variable {X : Cx} {G : Gr} {dl : List Slot} {a : Expr} {x : Str} {p pos : Pos}
def iEnumS (ta : TA) : TI := fun σ H R => ta σ H fun vs H1 => ∃ x, vs = [.str x] ∧ asciiS x = true ∧ R (Itxe x) H1
end
end Sg

/-! a text so many times -/
namespace Sg
open PySem PySem.Spec PyProof.Rows L2
section
variable {X : Cx} {G : Gr} {dl : List Slot} {a b : Expr} {x : Str} {i : Int} {pos : Pos}
end
end Sg

/-! except without a name -/
namespace Sg
open PySem PySem.Spec PyProof.Rows L2
section
variable {X : Cx} {pins pins' : List (Addr × Obj)} {st : L2.St} {H H' : Hp} {s s' : Shared} {h2 B : Heap} {ea t : Addr} {C D : Addr} {xe : Value → Shared → Prop} {G : Gr} {Hf : Hp}
end
end Sg

/-! dicts that are walked: known to the object while so -/
namespace Sg
open PySem PySem.Spec PyProof.Rows L2
def Itd (d : Addr) (ob : Obj) (kvs : List (Key × V)) : It :=
  ⟨fun i H => H d = some (.frz ob (.dK kvs)) ∧ i < kvs.length, fun i H v H' => H' = H ∧ ∃ kv, kvs[i]? = some kv ∧ v = kV kv.1, fun i H => H d = some (.frz ob (.dK kvs)) ∧ i = kvs.length⟩
section
variable {X : Cx} {G : Gr} {E : XK} {dl : List Slot} {a b e i o : Expr} {d : Dt} {pos p : Pos} {k x : Str} {kds : List (Key × Dt)} {sts : List Stmt} {ou : Out}
def iDictF (ta : TE) : TI := fun σ H R => ta σ H fun v H1 => ∃ d ob kvs, v = .ref d ∧ H1 d = some (.frz ob (.dK kvs)) ∧ R (Itd d ob kvs) H1
end
end Sg

/-! an exception class of one's own, over another of one's own, with an __init__: the call makes it and runs the __init__ -/
namespace Sg
open PySem PySem.Spec PyProof.Rows L2
section
variable {prog : Program} {w : World} {A : Around} {E : Value → Shared → Prop} {h : Heap} {g : Array GenState} {d : Drawn} {t : Nat} {os : OsState}
variable {nm q : Str} {C N : Addr} {bs bm bmB bmN : List Value} {hdct : Bool} {sn : List Str} {sub : List Value} {ab : Bool} {col : Option Bool} {dd : Option Addr} {k0 k1 k2 k3 k5 : Option Value} {B Bn newId nid initId inN : String}
end
end Sg

/-! exceptions of one's own with an __init__ and a field -/
namespace Sg
open PySem PySem.Spec PyProof.Rows L2
/-- an exception that is made and not yet raised -/
def exO (C t : Addr) (od : Option Addr) : Obj := { cls := .ref C, dict := od, data := .fields #[.ref t, .none, .none, .none, .bool false, .none] }
def ExB (h : Heap) (e C : Addr) (od : Option Addr) : Prop := ∃ t : Addr, h.get? e = some (exO C t od)
section
variable {prog : Program} {w : World} {A : Around} {E : Value → Shared → Prop} {h : Heap} {g : Array GenState} {d : Drawn} {t : Nat} {os : OsState}
variable {nm q : Str} {C N : Addr} {bs bm bmB bmN : List Value} {hdct : Bool} {sn : List Str} {sub : List Value} {ab : Bool} {col : Option Bool} {dd : Option Addr} {k0 k1 k2 k3 k5 : Option Value} {B Bn newId nid initId inN : String}
/-- the store of a field into an exception of one's own -/
structure StX (K : PySem.W.Frag) (C : Addr) (f : Str) : Prop where
  sa : PySem.W.findIn K (.ref C) "__setattr__" = some (some (.builtin "object.__setattr__"))
  na : PySem.W.findIn K (.ref C) f = some none
  ob : PySem.W.mroIn K C (.type "object") = some true
  mr : ∃ G, (PySem.W.clsIn K C).map (·.mro) = some [.ref C, .ref G, .type "ValueError", .type "Exception", .type "BaseException", .type "object"]
  hd : (PySem.W.clsIn K C).map (·.hasDict) = some true
end
section
variable {prog : Program} {w : World} {A : Around} {E : Value → Shared → Prop} {K : PySem.W.Frag} {C e t0 : Addr} {f : Str} {v : Value} {s : Shared}
open Builtin Builtin.ObjectAttr
end
/-! ### classes of exceptions with an __init__ of their own -/
def excInI (K : PySem.W.Frag) (C : Addr) (bmB : List Value) (nw : String) (fI : Addr) : Bool := match K.lookup C with
  | some ⟨.type "type", _, .cls cd, sl⟩ => (match cd.mro, sl.toList with
    | .ref D :: tl, [_, _, _, _, some (.builtin n), _] => D == C && (n == nw && (!cd.hasDel && (PySem.W.tailIn K bmB tl && (PySem.W.nsOkIn K cd.ns && (PySem.W.nsIn K cd.ns "__init__" == some (some (.ref fI)))))))
    | _, _ => false)
  | _ => false
structure XcI (K : PySem.W.Frag) (C fI : Addr) : Prop where
  ex : excInI K C bmV "ValueError.__new__" fI = true
  fn : PySem.W.typeIn K (.ref fI) = some (.type "function")
  kp : PySem.W.keepIn K (.ref C) = true
/-- the class whose __init__ is called by name -/
structure XcB (K : PySem.W.Frag) (G : Addr) : Prop where
  sp : PySem.W.specialIn K (.ref G) "__getattribute__" = some (some (.builtin "type.__getattribute__"))
  rd : PySem.W.readsIn K G (.type "type") = true
  fc : PySem.W.findCls K (.ref G) (.type "type") "__init__" = some (.val (.builtin "ValueError.__init__"))
abbrev xT (z C : Addr) (od : Option Addr) : HO := .ext fun h => ExB h z C od
section
variable {X : Cx} {C fI G z : Addr} {a b e : Expr} {es : List Expr} {p p1 p3 pos apos cpos : Pos} {gN x f : Str} {ta tv : TE} {t : TA} {pl : Sem Bool}
def tBI (C : Addr) (t : TA) : TE := fun σ H Q => t σ H fun vs H1 => ∃ z x, vs = [.ref z, .str x] ∧ H1 z = some (xT z C none) ∧ Q .non H1
end
section
variable {prog : Program} {w : World} {A : Around} {E : Value → Shared → Prop} {K : PySem.W.Frag} {C e t0 : Addr} {f : Str} {v : Value} {s : Shared}
end
section
variable {X : Cx} {pins : List (Addr × Obj)} {σ : List (Option V)} {H : Hp} {s : Shared} {h' : Heap} {C z dx : Addr} {o : HO}
end
section
variable {X : Cx} {C fI G z : Addr} {a b e value o : Expr} {es : List Expr} {p p1 p3 pos apos cpos pos' : Pos} {gN x f : Str} {ta tv : TE} {t : TA} {pl : Sem Bool}
def sXF (C : Addr) (f : Str) (ta tv : TE) : TS := fun D σ H => tv σ H fun v H1 => ta σ H1 fun y H2 => ∃ z, y = .ref z ∧ H2 z = some (xT z C none) ∧ ∀ dx, H2 dx = none → dx ≠ z → D.nx σ (upd (upd H2 dx (.xd [(f, v)])) z (xT z C (some dx)))
end
end Sg

/-! exceptions with a field: made, raised, read -/
namespace Sg
open PySem PySem.Spec PyProof.Rows L2
section
variable {X : Cx} {G : Gr} {dl : List Slot} {e : Expr} {y : Str} {i : Int} {pos p1 p2 : Pos}
end
/-! ### the __init__ -/
def spX (K : PySem.W.Frag) (C : Addr) (f : Str) (ok : Dt → Prop) : Sp := fun vs H Q E => ∃ Hf H1 z v d, vs = [.ref z, v] ∧ H = upd H1 z (xT z C none) ∧ H1 z = none ∧ Same Hf H1 ∧ Rep K Hf v d ∧ ok d ∧
  ∀ Hf2 H2 dx, Grow Hf H Hf2 H2 → H2 dx = none → dx ≠ z → Q .non (upd (upd H2 dx (.xd [(f, v)])) z (xT z C (some dx)))
def sXI (K : PySem.W.Frag) (C : Addr) (f : Str) (d : Dt) : TS := fun D σ H => ∃ Hf z v, σ = [some (.ref z), some v] ∧ H z = some (xT z C none) ∧ Same Hf H ∧ Rep K Hf v d ∧
  ∀ Hf2 H2 dx, Grow Hf H Hf2 H2 → H2 dx = none → dx ≠ z → D.nx σ (upd (upd H2 dx (.xd [(f, v)])) z (xT z C (some dx)))
section
variable {X : Cx} {C fI Gc : Addr} {a tx : Expr} {p1 p2 p3 p4 pos pos' apos apos' cpos : Pos} {gN an sn f y : Str} {d : Dt} {pl : Sem Bool}
end
/-- a class of exceptions with one field -/
structure XF (P : Program) (w : World) (K : PySem.W.Frag) (mg : Str → Option Value) (base : Heap) (CX : CXT) (k : Nat) (x : Str) (C : Addr) (f : Str) (ok : Dt → Prop) : Prop where
  ex : ∃ fI fd ps, FnOk P w K mg base CX k fI fd ps (spX K C f ok) ∧ XcI K C fI ∧ mg x = some (.ref C) ∧ Binds K fd ps []
section
variable {X : Cx} {G : Gr} {E : XK} {dl : List Slot} {C : Addr} {e : Expr} {p pos np cpos : Pos} {x f : Str} {d : Dt} {ok : Dt → Prop} {CX : CXT} {k k' : Nat} {t : TA}
def tMX (K : PySem.W.Frag) (C : Addr) (f : Str) (ok : Dt → Prop) (E : XK) (t : TA) : TE := fun σ H Q => t σ H fun vs H1 => ∃ v, vs = [v] ∧ ∀ z, H1 z = none → spX K C f ok [.ref z, v] (upd H1 z (xT z C none)) (fun u H2 => u = .non ∧ Q (.ref z) H2) E
end
end Sg

/-! exceptions with a field: raised, caught, their field read -/
namespace Sg
open PySem PySem.Spec PyProof.Rows L2
/-! ### raise -/
def rmA (H : Hp) (z : Addr) : Hp := fun a => if a = z then none else H a
/-- what a raise of a made exception wants of the context -/
def RaiseX (X : Cx) (G : Gr) (E : XK) : Prop := ∀ (pins : List (Addr × Obj)) (st : L2.St) (H : Hp) (s : Shared) (ea C dx : Addr), L2.Inv X pins st (upd H ea (xT ea C (some dx))) s → H ea = none → G.H ea = none → E (.ref C) (some dx) H → X.xe (.ref ea) s
section
variable {P : Program} {w : World} {K : PySem.W.Frag} {mg : Str → Option Value} {base : Heap} {N : List Str} {qual : Str} {scope : Scope} {f : Addr} {cd : Value} {A : Around} {outer : List Env} {s0 : Shared} {H0 : Hp} {E : XK} {G : Gr}
end
section
variable {X : Cx} {G : Gr} {E : XK} {dl : List Slot} {C : Addr} {e : Expr} {p pos np cpos : Pos} {x f : Str} {d : Dt} {ok : Dt → Prop} {CX : CXT} {k k' : Nat} {t : TA}
end
/-! ### the field read -/
section
variable {X : Cx} {G : Gr} {E : XK} {dl : List Slot} {C : Addr} {e : Expr} {pos : Pos} {f : Str} {d : Dt} {fs : List (Str × Dt)}
end
/-! ### caught -/
def EX2 (K : PySem.W.Frag) (C : Addr) (fs : List (Str × Dt)) (Hf H : Hp) : XK := fun c od H1 => c = .ref C ∧ ∃ Hf1, Grow Hf H Hf1 H1 ∧ ExcAt K Hf1 od fs
section
variable {X : Cx} {pins pins' : List (Addr × Obj)} {st : L2.St} {H H' : Hp} {s s' : Shared} {h2 B : Heap} {ea t : Addr} {C D : Addr} {xe : Value → Shared → Prop} {G : Gr} {Hf : Hp}
end
end Sg

/-! try over a body that raises, the slots kept; defs that raise an exception with a field -/
namespace Sg
open PySem PySem.Spec PyProof.Rows L2
section
variable {P : Program} {w : World} {K : PySem.W.Frag} {mg : Str → Option Value} {base : Heap} {CX : CXT} {x qual : Str} {st : Stmt} {f : Addr} {fd : FuncData} {N ps : List Str} {k n : Nat} {R : List Dt → Res → Prop}
end
/-! ### a raising expression in a def -/
section
variable {X : Cx} {G : Gr} {E : XK} {dl : List Slot} {a b e : Expr} {es : List Expr} {ds dvs : List Dt} {pos p apos pos' : Pos} {x m y : Str} {C : Addr} {fs fe : List (Str × Dt)} {k k' n : Nat} {R : List Dt → Res → Prop} {ob : Expr} {c : Value}
/-- what a raising expression asks -/
def tEx (K : PySem.W.Frag) (G : Gr) (E : XK) (dl : List Slot) (c : Value) (fe : List (Str × Dt)) : TE := fun st H _ => ∃ Hf, Stt K G st Hf H dl ∧ ∀ od Hf' H', Grow G.Hf G.H Hf' H' → ExcAt K Hf' od fe → E c od H'
abbrev EXE (X : Cx) (G : Gr) (E : XK) (dl : List Slot) (e : Expr) (c : Value) (fe : List (Str × Dt)) : Prop := PE X e (tEx X.K G E dl c fe)
theorem exe_mfd {pl : Sem Bool} (he : EE X G dl ob (.obj C fs)) (F : MFd X.prog X.w X.K X.mg X.base (CX1 X.prog X.w) k C m n dvs R) (hx : Passes (CX1 X.prog X.w) X E) (hr : Room k' X.A) (ha : EA X G dl (e :: es) ds) (h : R (.obj C fs :: (ds ++ dvs)) (.exc c fe)) (hkk : k ≤ k' := by decide) (hl : (Dt.obj C fs :: (ds ++ dvs)).length = n := by rfl) (hno : fs.lookup m = none := by rfl)
    (hst : starEach (e :: es) X.env = (false, eval e X.env) :: starEach es X.env := by rfl) (hpl : (backTo pos (starEach es X.env)).any (·.1) = false := by rfl)
    (ht : eval (.Call (.Attribute ob m apos) (e :: es) [] pos) X.env = (do
      let ov ← eval ob X.env
      standAt apos.atName
      let (f, first) ← holding [ov] (getMethod ov m pl)
      callWith pos f first (backTo pos (starEach (e :: es) X.env)) (backToKw pos (keywordEach [] X.env))) := by rfl) : EXE X G E dl (.Call (.Attribute ob m apos) (e :: es) [] pos) c fe := by
  obtain ⟨f, fd, ps, dsv, vds, Fo, hm, hb, hd, hdd⟩ := F.ex
  exact peI (pe_meth (dvs := vds) (pl := pl) (E := E) he F.cl hm Fo (hr.mono hkk) hb hd hx ha hst hpl ht) fun st H Q ⟨Hf, S, kk⟩ => ⟨Hf, S, fun v Hf1 H1 g1 r1 => by
    cases r1 with
    | @obj a _ dx fv _ q r =>
      exact ⟨a, dx, fv, rfl, g1.sub _ _ q, r.none_of hno, Hf1, S.grow g1, fun vs Hf2 H2 g2 r2 => ⟨Hf2, _, .exc c fe, g2.sub, .cons (.obj (g2.frz _ _ q) (r.mono g2.frz)) (r2.append (hdd _)), hl, h, fun od Hf3 H3 g3 xx => kk od Hf3 H3 (S.gr.trans ((g1.trans g2).trans g3)) xx⟩⟩⟩
theorem exe_mf {pl : Sem Bool} (he : EE X G dl ob (.obj C fs)) (F : MF X.prog X.w X.K X.mg X.base (CX1 X.prog X.w) k C m n R) (hx : Passes (CX1 X.prog X.w) X E) (hr : Room k' X.A) (ha : EA X G dl (e :: es) ds) (h : R (.obj C fs :: ds) (.exc c fe)) (hkk : k ≤ k' := by decide) (hl : (Dt.obj C fs :: ds).length = n := by rfl) (hno : fs.lookup m = none := by rfl)
    (hst : starEach (e :: es) X.env = (false, eval e X.env) :: starEach es X.env := by rfl) (hpl : (backTo pos (starEach es X.env)).any (·.1) = false := by rfl)
    (ht : eval (.Call (.Attribute ob m apos) (e :: es) [] pos) X.env = (do
      let ov ← eval ob X.env
      standAt apos.atName
      let (f, first) ← holding [ov] (getMethod ov m pl)
      callWith pos f first (backTo pos (starEach (e :: es) X.env)) (backToKw pos (keywordEach [] X.env))) := by rfl) : EXE X G E dl (.Call (.Attribute ob m apos) (e :: es) [] pos) c fe :=
  exe_mfd (pl := pl) he (mf_d F) hx hr ha (by rw [List.append_nil]; exact h) hkk (by rw [List.append_nil]; exact hl) hno hst hpl ht
theorem exe_gf (F : GF X.prog X.w X.K X.mg X.base (CX1 X.prog X.w) k x n R) (hx : Passes (CX1 X.prog X.w) X E) (hr : Room k' X.A) (ha : EA X G dl (e :: es) ds) (h : R ds (.exc c fe)) (hkk : k ≤ k' := by decide) (hl : ds.length = n := by rfl) (hg : Gl X x := by rfl) (hdb : (x == ("__debug__" : Str)) = false := by decide)
    (he : starEach (e :: es) X.env = (false, eval e X.env) :: starEach es X.env := by rfl) (hpl : (backTo pos (starEach es X.env)).any (·.1) = false := by rfl) : EXE X G E dl (.Call (.Name x p) (e :: es) [] pos) c fe := by
  obtain ⟨f, fd, ps, Fo, hm, hk, hb⟩ := F.ex
  exact peI (pe_call (dvs := []) (E := E) Fo (hr.mono hkk) hg hm hk hb .nil hx ha hdb he hpl) fun st H Q ⟨Hf, S, kk⟩ => ⟨Hf, S, fun vs Hf1 H1 g1 r1 => ⟨Hf1, ds, .exc c fe, g1.sub, by rw [List.append_nil]; exact r1, hl, h, fun od Hf2 H2 g2 xx => kk od Hf2 H2 (S.gr.trans (g1.trans g2)) xx⟩⟩
theorem es_exAsg (i : Nat) {py : Pos} (hN : X.N.Nodup) (h : EXE X G E dl e c fe) (hi : X.N[i]? = some y := by rfl) (hy : Loc X.env.scope y := by first | exact Or.inl rfl | exact Or.inr rfl)
    (hs : swapsWith e (some (.Name y py)) pos.line X.env = pure false := by rfl) (hf : X.fn y = true ∨ X.env.scope.names.lookup y = some .local := by first | exact .inl rfl | exact .inr rfl) :
    ES X G E dl (.Assign [.Name y py] e pos) (.ex c fe) := psI (ps_set hN hi hy h hs hf) fun D st H h => h
end
/-! ### try -/
/-- where the exception goes: the state is the one at the try's beginning -/
def ExK (X : Cx) (pn : List (Addr × Obj)) (xl : Value → Shared → Prop) (st : L2.St) (Hf H : Hp) (C : Addr) (fs : List (Str × Dt)) : Prop := ∀ H1 s1 e s', L2.Inv { X with pn := pn, xe := xl } [] st H1 s1 → CX1 X.prog X.w X.stack H1 s1 (EX2 X.K C fs Hf H) e s' → xl e s'
def REx (X : Cx) (dl : List Slot) (e : Expr) (C : Addr) (fs : List (Str × Dt)) : Prop := ∀ pn xl s st Hf0 H0 Hf H, ExK X pn xl st Hf0 H0 C fs → L2.Inv { X with pn := pn, xe := xl } [] st H s → Stt X.K ⟨Hf0, H0⟩ st Hf H dl → wpAny (model X.prog X.w) X.A (eval e X.env) (fun _ _ => False) xl s
def RSt (X : Cx) (dl : List Slot) (st : Stmt) (C : Addr) (fs : List (Str × Dt)) : Prop := ∀ pn xl s σ Hf0 H0 Hf H, ExK X pn xl σ Hf0 H0 C fs → L2.Inv { X with pn := pn, xe := xl } [] σ H s → Stt X.K ⟨Hf0, H0⟩ σ Hf H dl → wpAny (model X.prog X.w) X.A (exec st X.env) (fun _ _ => False) xl s
section
variable {X : Cx} {dl : List Slot} {a b e c : Expr} {es : List Expr} {ds dvs : List Dt} {pos p apos py : Pos} {x m y : Str} {C Co : Addr} {fs fe : List (Str × Dt)} {k k' n : Nat} {R : List Dt → Res → Prop} {ob : Expr}
end
end Sg

/-! exceptions without a field, made as values; x.extend(list) -/
namespace Sg
open PySem PySem.Spec PyProof.Rows L2
section
variable {X : Cx} {pins : List (Addr × Obj)} {σ : L2.St} {H : Hp} {s : Shared} {h' : Heap} {z : Addr} {ph : Heap → Prop}
end
section
variable {X : Cx} {G : Gr} {E : XK} {dl : List Slot} {C : Addr} {e : Expr} {p pos apos cpos : Pos} {x : Str} {d : Dt} {ds ds2 : List Dt}
end
/-- of these classes each is itself alone -/
def allKit (K : PySem.W.Frag) (cs : List Addr) : Bool := (List.range cs.length).all fun i => (List.range cs.length).all fun j => PySem.W.kitOne K (.ref (cs.getD i 0)) (.ref (cs.getD j 0)) == some (decide (i = j))
def gKit (K : PySem.W.Frag) (cs : List Addr) (g : Addr) : Bool := (List.range cs.length).all fun i => (PySem.W.kitOne K (.ref (cs.getD i 0)) (.ref g) == some true) && (PySem.W.kitOne K (.ref (cs.getD i 0)) (.type "ValueError") == some true)
end Sg

/-! range(a, b, -1); dicts by whole numbers -/
namespace Sg
open PySem PySem.Spec PyProof.Rows L2
def Itdn (lo : Int) (n : Nat) : It := ⟨fun i _ => i < n, fun i H x H' => H' = H ∧ x = .int (lo - i), fun i _ => n ≤ i⟩
section
variable {X : Cx} {G : Gr} {E : XK} {dl : List Slot} {a b c e o : Expr} {ta : TA} {i j : Int} {pos p p2 pos2 : Pos} {tg : Expr} {d : Dt} {kds : List (Key × Dt)} {x : Str}
def iRngD (ta : TA) : TI := fun σ H R => ta σ H fun vs H1 => ∃ i j : Int, vs = [.int i, .int j, .int (-1)] ∧ (-(2 ^ 30) ≤ i ∧ i < 2 ^ 30 ∧ -(2 ^ 30) ≤ j ∧ j < 2 ^ 30) ∧ R (Itdn i (i - j).toNat) H1
/-! ### dicts by whole numbers -/
end
end Sg

/-! an owned list or dict is lent to an expression that tells a tuple of plain values -/
namespace Sg
open PySem PySem.Spec PyProof.Rows L2
def rmH (H : Hp) (q : Addr) : Hp := fun a => if a = q then none else H a
def NoTup (u : HO) : Prop := (∀ xs, u ≠ .tup xs) ∧ ∀ o xs, u ≠ .frz o (.tup xs)
section
variable {K : PySem.W.Frag} {G : Gr} {st : L2.St} {Hf H Hf' H' : Hp} {dl : List Slot} {p : Addr} {w : Own} {u : HO}
end
section
variable {X : Cx} {G : Gr} {E : XK} {dl : List Slot} {e : Expr} {w : Own} {ds : List Dt}
end
end Sg

/-! an owned list lent to what tells no list; a loop of one test over an owned list; clear; upper -/
namespace Sg
open PySem PySem.Spec PyProof.Rows L2
mutual
/-- a datum without a list -/
def noL : Dt → Bool
  | .lst _ => false
  | .scr _ => false
  | .tup ds => noLs ds
  | .dic kds => noLk kds
  | .obj _ fs => noLf fs
  | .dicF _ => false
  | .xo _ => false
  | .xof _ _ => false
  | _ => true
def noLs : List Dt → Bool
  | [] => true
  | d :: r => noL d && noLs r
def noLk : List (Key × Dt) → Bool
  | [] => true
  | (_, d) :: r => noL d && noLk r
def noLf : List (Str × Dt) → Bool
  | [] => true
  | (_, d) :: r => noL d && noLf r
end
section
variable {X : Cx} {G : Gr} {E : XK} {dl : List Slot} {e c a : Expr} {ds xs : List Dt} {C : Addr} {fs : List (Str × Dt)} {x y : Str} {pos p' px pn apos cpos : Pos} {sts : List Stmt}
end
end Sg

/-! a class whose __init__ raises, in a try; an exception without a field caught; a whole number in a tuple -/
namespace Sg
open PySem PySem.Spec PyProof.Rows L2
section
variable {X : Cx} {dl : List Slot} {a b e c : Expr} {es : List Expr} {ds : List Dt} {pos p : Pos} {x : Str} {C Co : Addr} {fe : List (Str × Dt)} {k k' n : Nat} {R : List Dt → Res → Prop}
end
section
variable {X : Cx} {G : Gr} {dl : List Slot} {a b : Expr} {z : Int} {zs : List Int} {pos : Pos}
end
end Sg

/-! slices of tuples, l.insert(0, x) -/
namespace Sg
open PySem PySem.Spec PyProof.Rows L2
section
variable {X : Cx} {G : Gr} {dl : List Slot} {e : Expr} {lo hi : Option Expr} {l u : Option Int} {ds : List Dt} {p2 pos : Pos}
end
def rInsert0 : V → List V → Hp → VK → Prop := fun x vs H Q => ∃ l xs y, x = .ref l ∧ vs = [.int 0, y] ∧ H l = some (.lst xs) ∧ xs.length < sizeLine ∧ Q .non (upd H l (.lst (y :: xs)))
section
variable {X : Cx} {G : Gr} {E : XK} {dl : List Slot} {a e : Expr} {d : Dt} {ds : List Dt} {x : Str} {apos cpos pos : Pos}
end
end Sg

/-! defs called in a handler: an exception is being handled around them -/
namespace Sg
open PySem PySem.Spec PyProof.Rows L2
structure RoomH (k : Nat) (A : Around) : Prop where
  dp : A.depth + 3 * k + 5 < recursionLimit
  un : A.units + 16 * k + 200 < cLine
theorem room_h {k : Nat} {A : Around} (r : Room k A) : RoomH k A := ⟨r.dp, r.un⟩
theorem RoomH.mark {k : Nat} {A : Around} {v : Option Value} (r : RoomH k A) : RoomH k (A.mark v) := ⟨r.dp, r.un⟩
theorem RoomH.mono {j k : Nat} {A : Around} (r : RoomH k A) (h : j ≤ k) : RoomH j A := ⟨by have := r.dp; omega, by have := r.un; omega⟩
theorem RoomH.deeper {k : Nat} {A : Around} (r : RoomH (k + 1) A) (env : Env) : RoomH k (A.deeper env) :=
  ⟨by have := r.dp; show A.depth + 1 + 3 * k + 5 < _; omega, by have := r.un; show A.units + 3 + 16 * k + 200 < _; omega⟩
theorem RoomH.depth {k : Nat} {A : Around} (r : RoomH k A) : A.depth < recursionLimit := by have := r.dp; omega
def cxH (CX : CXT) (P : Program) (w : World) (K : PySem.W.Frag) (mg : Str → Option Value) (base : Heap) (N : List Str) (qual : Str) (scope : Scope) (f : Addr) (cd : Value) (A : Around) (outer : List Env) (s : Shared) (H : Hp) (E : XK) : Cx := { cxOf CX P w K mg base N qual scope f cd A outer s H E with calm := false }
structure FnOkH (P : Program) (w : World) (K : PySem.W.Frag) (mg : Str → Option Value) (base : Heap) (CX : CXT) (k : Nat) (f : Addr) (fd : FuncData) (ps : List Str) (sp : Sp) : Prop where
  len : ∀ vs H Q E, sp vs H Q E → vs.length = ps.length
  run : ∀ (A : Around) (outer : List Env) (s : Shared) (H : Hp) (args : Args) (us : List Value) (vs : List V) (Q : VK) (E : XK), RoomH k A → Env0 P w K mg base A outer s H → BindsTo s fd args (ps.zip us) → Vals vs us → sp vs H Q E →
    codeAny (model P w) A (.call (.ref f) args) (CR CX outer P w H s Q E) s
theorem env_un {P : Program} {w : World} {K : PySem.W.Frag} {mg : Str → Option Value} {base : Heap} {A : Around} {outer : List Env} {s : Shared} {H : Hp} (e : Env0 P w K mg base A outer s H) : Env0 P w K mg base { A with handled := none } outer s H :=
  ⟨e.frames, e.mod, e.bs, e.bsz, e.funs, e.frf, e.hok, e.bare⟩
theorem mark_back (A : Around) (env : Env) : (({ A with handled := none } : Around).deeper env).mark A.handled = A.deeper env := by
  cases A
  simp [Around.mark, Around.deeper]
theorem fn_ofH {CX : CXT} {P : Program} {w : World} {K : PySem.W.Frag} {mg : Str → Option Value} {base : Heap} {k : Nat} {f : Addr} {name qual : Str} {params : Arguments} {body : List Stmt} {scope : Scope} {dV kV doc pm cdv ct oc : Value} {an od : Option Addr}
    {osl : Array (Option Value)} {N ps : List Str} {sp : Sp} (lk : K.lookup f = some ⟨oc, od, .func (PySem.W.fnOf name qual params body scope dV kV doc pm an cdv ct), osl⟩) (hcd : PySem.W.codeIn K cdv qual = true) (S : FnScope N ps scope)
    (len : ∀ vs H Q E, sp vs H Q E → vs.length = ps.length)
    (hbody : ∀ (A : Around) (outer : List Env) (s : Shared) (H : Hp) (vs : List V) (Q : VK) (E : XK), RoomH k (A.deeper (envOfC qual scope s.heap.objs.size f cdv)) → sp vs H Q E →
      ∃ t, PSs (cxH CX P w K mg base N qual scope f cdv A outer s H E) body t ∧ t { nx := fun _ H' => Q .non H', rt := Q } (start N vs) H) :
    FnOkH P w K mg base CX (k + 1) f (PySem.W.fnOf name qual params body scope dV kV doc pm an cdv ct) ps sp := by
  refine ⟨len, fun A outer s H args us vs Q E hr e0 hb r hsp => ?_⟩
  have hl := len _ _ _ _ hsp
  have KX : K.In s.heap := e0.mod.kin.keeps fun b o e => (e0.bs b o e).1
  have lim : s.heap.NoLimit := e0.mod.nolimit.keeps fun b o e => (e0.bs b o e).1
  have hkind : ∀ y ∈ ps.zip us, scope.names.lookup y.1 = some .local ∨ (scope.names.lookup y.1 = some .cell ∧ ((cellsFrom (s.heap.objs.size + 1) scope.names []).lookup y.1).isSome = true) := fun ⟨n, v⟩ hy => by
    rcases S.par n (List.of_mem_zip hy).1 with q | q
    · exact .inl q
    · exact .inr ⟨q, PySem.W.cellsFrom_some _ _ _ (.inl q)⟩
  refine codeAny_call_function hr.depth (KX _ _ lk) rfl S.co S.gen rfl (PySem.W.codeRec_of KX hcd) (hb _ _ _ _ ?_)
  refine wpAny_newFunctionEnv_cells S.kind hkind fun env he s1 x => ?_
  subst he
  refine ⟨lim.keeps x.toInCall.keep, codeAny_func ?_⟩
  obtain ⟨t, ht, hq⟩ := hbody A outer s H vs Q E (hr.deeper _) hsp
  have I0 : Inv (cxOf CX P w K mg base N qual scope f cdv { A with handled := none } outer s H E) [] (start N vs) H s1 := inv_start S rfl (env_un e0) hl r x
  have I : Inv (cxH CX P w K mg base N qual scope f cdv A outer s H E) [] (start N vs) H s1 := by
    have := inv_mark (xe := (cxH CX P w K mg base N qual scope f cdv A outer s H E).xe) (hd := A.handled) I0
    have e : ({ cxOf CX P w K mg base N qual scope f cdv { A with handled := none } outer s H E with A := (cxOf CX P w K mg base N qual scope f cdv { A with handled := none } outer s H E).A.mark A.handled, calm := false, xe := (cxH CX P w K mg base N qual scope f cdv A outer s H E).xe } : Cx) = cxH CX P w K mg base N qual scope f cdv A outer s H E := by
      unfold cxH cxOf
      simp only [mark_back]
    rw [e] at this
    exact this
  refine wpAny_mono (ht [] s1 (start N vs) H _ I hq) (fun fl s' hs => ?_) fun e s' hs => hs
  have fin : ∀ {σ' : L2.St} {H' : Hp} {v : V} {u : Value}, Inv (cxH CX P w K mg base N qual scope f cdv A outer s H E) [] σ' H' s' → RelV v u → Q v H' → CE outer P w H s Q u s' :=
    fun {σ' H' v u} J rv q => ⟨v, H', J.os, J.bare, J.base, J.hok, rv, q⟩
  cases fl with
  | ret u =>
    obtain ⟨v, σ', H', J, rv, q⟩ := hs
    exact fin J rv q
  | next =>
    obtain ⟨σ', H', J, q⟩ := hs
    exact fin (v := V.non) (u := Value.none) J rfl q
  | brk =>
    obtain ⟨_, _, _, q⟩ := hs
    exact False.elim q
  | cont =>
    obtain ⟨_, _, _, q⟩ := hs
    exact False.elim q
theorem fnH {P : Program} {w : World} {K : PySem.W.Frag} {mg : Str → Option Value} {base : Heap} {CX : CXT} {x qual : Str} {st : Stmt} {f : Addr} {fd : FuncData} {N ps : List Str} {k n : Nat} {R : List Dt → Res → Prop} (F : Fun K x qual st f fd) (S : FnScope N ps (defScope st)) (hn : ps.length = n)
    (hbody : ∀ (cdv : Value) (A : Around) (outer : List Env) (s : Shared) (H : Hp) (E : XK) (G : Gr) (ds : List Dt) (r : Res), RoomH k (A.deeper (envOfC qual (defScope st) s.heap.objs.size f cdv)) → ds.length = n → R ds r →
      ∃ o, Comes o r ∧ ESs (cxH CX P w K mg base N qual (defScope st) f cdv A outer s H E) G E (slots N ds) (defBody st) o) : FnOkH P w K mg base CX (k + 1) f fd ps (spR K n R) := by
  obtain ⟨oc, od, kV, doc, pm, an, cdv, ct, osl, rfl, lk, hcd⟩ := F.ex
  refine fn_ofH lk hcd S (fun vs H Q E ⟨Hf, ds, r, s, rp, hl, _⟩ => by rw [rp.length, hl, hn]) fun A outer s H vs Q E hr ⟨Hf, ds, r, sm, rp, hl, hR, hk⟩ => ?_
  obtain ⟨o, hc, hb⟩ := hbody cdv A outer s H E ⟨Hf, H⟩ ds r hr hl hR
  exact ⟨_, hb, Hf, stt_start sm rp, hc.ends hk⟩
structure GFH (P : Program) (w : World) (K : PySem.W.Frag) (mg : Str → Option Value) (base : Heap) (CX : CXT) (k : Nat) (x : Str) (n : Nat) (R : List Dt → Res → Prop) : Prop where
  ex : ∃ f fd ps, FnOkH P w K mg base CX k f fd ps (spR K n R) ∧ mg x = some (.ref f) ∧ PySem.W.keepIn K (.ref f) = true ∧ Binds K fd ps []
section
variable {X : Cx} {G : Gr} {E : XK} {dl : List Slot} {e : Expr} {es : List Expr} {ds : List Dt} {d : Dt} {pos p : Pos} {x : Str} {k k' n : Nat} {R : List Dt → Res → Prop} {CX : CXT} {f : Addr} {fd : FuncData} {ps : List Str} {sp : Sp} {t : TA}
theorem run_fnH {pins : List (Addr × Obj)} {σ : L2.St} {H : Hp} {s : Shared} {Q : VK} {us : List Value} {vs : List V} (F : FnOkH X.prog X.w X.K X.mg X.base CX k f fd ps sp) (hr : RoomH k X.A) (hb : Binds X.K fd ps []) (hx : Passes CX X E)
    (I : Inv X pins σ H s) (r : Vals vs us) (h : sp vs H Q E) : wpAny (model X.prog X.w) X.A (call (.ref f) us) (EP X pins σ Q) X.xe s := by
  have hl : (us ++ []).length = ps.length := by rw [List.append_nil, ← r.length]; exact F.len _ _ _ _ h
  have hb' := hb s us I.kIn hl
  rw [List.append_nil] at hb'
  refine wpAny_call (codeAny_mono (F.run X.A X.stack s H ⟨us, []⟩ us vs Q E hr I.env0 hb' r h) fun r s' hq => ?_)
  cases r with
  | error e => exact hx pins σ H s e s' I hq
  | ok fl =>
    cases fl with
    | ret u => exact I.after hq
    | next => exact False.elim hq
    | brk => exact False.elim hq
    | cont => exact False.elim hq
theorem pe_callH (F : FnOkH X.prog X.w X.K X.mg X.base CX k f fd ps sp) (hr : RoomH k X.A) (hg : Gl X x) (hm : X.mg x = some (.ref f)) (hk : PySem.W.keepIn X.K (.ref f) = true) (hb : Binds X.K fd ps []) (hx : Passes CX X E)
    (ha : PA X (e :: es) t) (hdb : (x == ("__debug__" : Str)) = false := by decide) (he : starEach (e :: es) X.env = (false, eval e X.env) :: starEach es X.env := by rfl) (hpl : (backTo pos (starEach es X.env)).any (·.1) = false := by rfl) :
    PE X (.Call (.Name x p) (e :: es) [] pos) (tCall sp [] E t) := by
  intro pins s σ H Q I h
  refine wpAny_Call_Name_kw (ld_glob I hg hm ?_ hdb)
  refine PySem.W.callWith_K (h₀ := X.base) I.ok.mod.kin hk (thn (ha pos pins s σ H _ I h) fun us s1 ⟨vs, H1, I1, r, q⟩ => ⟨I1.kIn, ?_⟩) he hpl
  have q' : sp (vs ++ []) H1 Q E := q
  rw [List.append_nil] at q'
  exact run_fnH F hr hb hx I1 r q'
theorem ee_gfH (F : GFH X.prog X.w X.K X.mg X.base CX k x n R) (nx : NoX CX) (hr : RoomH k' X.A) (ha : EA X G dl (e :: es) ds) (h : R ds (.ret d)) (hkk : k ≤ k' := by decide) (hl : ds.length = n := by rfl) (hg : Gl X x := by rfl) (hdb : (x == ("__debug__" : Str)) = false := by decide)
    (he : starEach (e :: es) X.env = (false, eval e X.env) :: starEach es X.env := by rfl) (hpl : (backTo pos (starEach es X.env)).any (·.1) = false := by rfl) : EE X G dl (.Call (.Name x p) (e :: es) [] pos) d := by
  obtain ⟨f, fd, ps, F, hm, hk, hb⟩ := F.ex
  exact peI (pe_callH (E := E0) F (hr.mono hkk) hg hm hk hb nx.passes ha hdb he hpl) fun st H Q ⟨Hf, S, k⟩ => ⟨Hf, S, fun vs Hf1 H1 g1 r1 => ⟨Hf1, ds, .ret d, g1.sub, by rw [List.append_nil]; exact r1, hl, h, fun v Hf2 H2 g2 r2 => k v Hf2 H2 (g1.trans g2) r2⟩⟩
end
/-! ### isinstance(e, (C1, C2, ..)) of a caught exception -/
theorem reps_cls {K : PySem.W.Frag} {H : Hp} : ∀ {Cs : List Addr} {vs : List V}, Reps K H vs (Cs.map Dt.cls) → vs = Cs.map V.ref
  | [], _, .nil => rfl
  | c :: Cs, _, .cons r t => by
    cases r
    rw [reps_cls t]; rfl
theorem vals_refs : ∀ {Cs : List Addr} {us : List Value}, Vals (Cs.map V.ref) us → us = Cs.map Value.ref
  | [], _, .nil => rfl
  | c :: Cs, _, .cons r t => by
    rw [vals_refs t]
    exact congrArg (· :: _) r
section
variable {X : Cx} {G : Gr} {dl : List Slot} {a b : Expr} {C : Addr} {Cs : List Addr} {r : Bool} {pos p : Pos}
theorem call_isiT (t : TyX X.K C) (h : PySem.W.kitAny X.K (.ref C) (Cs.map Value.ref) = some r) : CallR X (.builtin "isinstance") (rIsi X.K (.xo C) (.tup (Cs.map .cls)) r) := by
  intro pins s st H xs us Q I rv ⟨Hf, w, c, e, sm, r1, r2, q⟩
  subst e
  cases rv with
  | cons q1 t1 =>
    cases t1 with
    | cons q2 t2 =>
      cases t2
      rename_i ud uc
      cases r1 with
      | @xo x _ ph z hp =>
        cases (show ud = Value.ref x from q1)
        cases r2 with
        | @tup y vs _ hq rp =>
          cases (show uc = Value.ref y from q2)
          obtain ⟨its, rv, ⟨o, h1, h2, n, h3⟩, _⟩ := I.tuple (SqT_same sm hq)
          rw [reps_cls rp] at rv
          have ei := vals_refs rv
          subst ei
          obtain ⟨oc, od, dat, sl⟩ := o
          cases h2
          cases h3
          have ok : ObjOk X.prog X.w H s.heap x (.ext ph) := I.hok x _ (sm _ _ z)
          exact PySem.W.kia_tup (kitx_exc t) I.kIn (hp _ ok.1) h1 h (fun z => nomatch z) fun tk => ⟨.bl r, H, I.tok _, rfl, q⟩
theorem ee_isiT (hm : X.mg "isinstance" = none) (ha : EE X G dl a (.xo C)) (hb : EE X G dl b (.tup (Cs.map .cls))) (t : TyX X.K C) (h : PySem.W.kitAny X.K (.ref C) (Cs.map Value.ref) = some r) (hg : Gl X "isinstance" := by rfl)
    (he : starEach [a, b] X.env = (false, eval a X.env) :: starEach [b] X.env := by rfl) (he2 : starEach [b] X.env = [(false, eval b X.env)] := by rfl) (hpl : (backTo pos (starEach [b] X.env)).any (·.1) = false := by rfl) :
    EE X G dl (.Call (.Name "isinstance" p) [a, b] [] pos) (.bl r) :=
  peI (pe_callB (call_isiT t h) hg hm boot_isinstance (ea_cons ha (ea_cons hb ea_nil he2) he) (by decide) (by decide) he hpl) fun st H Q ⟨Hf, S, k⟩ => ⟨Hf, S, fun vs Hf1 H1 g1 r1 => by
    cases r1 with
    | cons r1 t1 => cases t1 with
      | cons r2 t2 => cases t2; exact ⟨Hf1, _, _, rfl, g1.sub, r1, r2, k _ Hf1 H1 g1 (.bl _)⟩⟩
end
end Sg

/-! l.insert(k, x) -/
namespace Sg
open PySem PySem.Spec PyProof.Rows L2
theorem vals_take : ∀ {xs : List V} {us : List Value} (n : Nat), Vals xs us → Vals (xs.take n) (us.take n)
  | _, _, 0, _ => .nil
  | _, _, n + 1, .nil => .nil
  | _, _, n + 1, .cons r t => .cons r (vals_take n t)
theorem vals_drop : ∀ {xs : List V} {us : List Value} (n : Nat), Vals xs us → Vals (xs.drop n) (us.drop n)
  | _, _, 0, r => r
  | _, _, n + 1, .nil => .nil
  | _, _, n + 1, .cons r t => vals_drop n t
theorem arr_ins (its : List Value) (k : Nat) (hk : k ≤ its.length) (u : Value) : (its.toArray.extract 0 k).push u ++ its.toArray.extract k = (its.take k ++ u :: its.drop k).toArray := by
  apply Array.ext'
  simp [List.extract_eq_drop_take]
  exact List.take_of_length_le (by rw [List.length_drop]; exact Nat.le_refl _)
def rInsert (k : Nat) : V → List V → Hp → VK → Prop := fun x vs H Q => ∃ l xs y, x = .ref l ∧ vs = [.int (k : Int), y] ∧ H l = some (.lst xs) ∧ k ≤ xs.length ∧ xs.length < sizeLine ∧ Q .non (upd H l (.lst (xs.take k ++ y :: xs.drop k)))
theorem mt_insert {X : Cx} {k : Nat} (hf : Builtin.List.listFitsIndex (k : Int) = true) : MtM X "list.insert" (rInsert k) := by
  intro pins s σ H x vs v us Q I rx rv h
  obtain ⟨l, xs, y, rfl, rfl, hH, hk, hz, q⟩ := h
  cases rx
  cases rv with
  | cons r0 rv =>
    obtain ⟨t, rfl⟩ := r0
    obtain ⟨u, rfl, ru⟩ := vals1 rv
    obtain ⟨z, its, n, r, hl, e⟩ := I.lstM hH
    have hlen := r.length
    have hnn : its.toArray.size ≤ sizeLine := by rw [List.size_toArray]; omega
    have hc : ∀ i : Int, Builtin.List.listFitsIndex i = true → ¬(!Builtin.List.listFitsIndex i) = true := fun i h => by rw [h]; exact Bool.false_ne_true
    have hci := hc _ hf
    have ek : (if (k : Int) < 0 then ((k : Int) + (its.toArray.size : Int)).toNat else min (k : Int).toNat its.toArray.size) = k := by
      rw [if_neg (by omega), List.size_toArray, Int.toNat_natCast]; omega
    generalize (k : Int) = i at hci ek
    refine call_meets F.slot_list_insert ⟨_, e, rfl⟩ F.entry_list_insert (F.args_list_insert_3 _ _ _) (PySem.AutoSeq1.list_insert_list_int_val_1 l its.toArray n i t u hci hnn) ⟨e, ?_⟩
    refine ⟨.non, _, I.lset (its' := its.take k ++ u :: its.drop k) hH e ?_ ((vals_take k r).append (.cons ru (vals_drop k r))) ?_, rfl, q⟩
    · show (its.toArray.extract 0 (if i < 0 then (i + (its.toArray.size : Int)).toNat else min i.toNat its.toArray.size)).push u ++ its.toArray.extract (if i < 0 then (i + (its.toArray.size : Int)).toNat else min i.toNat its.toArray.size) = _
      rw [ek]
      exact arr_ins its k (by omega) u
    · rw [List.length_append, List.length_cons, List.length_take, List.length_drop]
      omega
section
variable {X : Cx} {G : Gr} {E : XK} {dl : List Slot} {a e : Expr} {d : Dt} {ds : List Dt} {x : Str} {apos cpos pos : Pos} {k : Nat}
/-- x.insert(k, e), an owned list -/
theorem es_insert (n : Nat) {pn : Pos} (hf : Builtin.List.listFitsIndex (k : Int) = true) (ha : EE X G dl a (.int (k : Int))) (he : EE X G dl e d) (hk : k ≤ ds.length) (hl : ds.length < sizeLine) (hd : dl[n]? = some (.own (.lst ds)) := by rfl) (hN : X.N[n]? = some x := by rfl) (hv : Vis X.env.scope x := by first | exact Or.inl rfl | exact Or.inr (Or.inl rfl) | exact Or.inr (Or.inr rfl))
    (hdb : (x == ("__debug__" : Str)) = false := by decide) (hcd : (x == ("__classdict__" : Str)) = false := by decide)
    (hbase : attributeBase (.Name x pn) "insert" X.env (eval (.Name x pn) X.env) = eval (.Name x pn) X.env := by rfl)
    (hfew : ((backTo cpos (starEach [a, e] X.env)).all (fun x => !x.1) && (backToKw cpos (keywordEach [] X.env)).all (fun x => x.1.isSome) && decide ([a, e].length + ([] : List Keyword).length + (if ([] : List Keyword).isEmpty then 0 else 1) < 30)) = true := by rfl)
    (hline : (apos.endLine == cpos.line) = true := by rfl) (hst : starEach [a, e] X.env = (false, eval a X.env) :: starEach [e] X.env := by rfl) (hst2 : starEach [e] X.env = (false, eval e X.env) :: starEach [] X.env := by rfl) (hpl : (backTo cpos (starEach [e] X.env)).any (·.1) = false := by rfl) (hs : swapsWith (.Call (.Attribute (.Name x pn) "insert" apos) [a, e] [] cpos) none pos.line X.env = pure false := by rfl) :
    ES X G E dl (.Expr (.Call (.Attribute (.Name x pn) "insert" apos) [a, e] [] cpos) pos) (.nx (dl.set n (.own (.lst (ds.take k ++ d :: ds.drop k))))) :=
  psI (ps_expr (pe_bm PySem.F.plainAttrs_list PySem.F.slot_list_insert PySem.F.type_list_insert (mt_insert hf) (pe_ov (p := pn) n hd hN hv hdb hcd) (ea_cons ha (ea_cons he ea_nil hst2) hst) hbase hfew hline hst hpl) hs) fun D st H ⟨Hf, S, kk⟩ => by
    obtain ⟨q, z1, z2, z3, vs, hq, rp⟩ := S.own n _ hd
    refine ⟨Hf, q, S, z1, z2, ⟨vs, hq, rp⟩, .inl ⟨rfl, vs, .of hq⟩, Hf, S, fun us Hf1 H1 g1 r1 => ?_⟩
    cases r1 with
    | cons r0 t0 =>
      cases r0
      cases t0 with
      | cons r1 t1 =>
        cases t1
        refine ⟨q, vs, _, rfl, rfl, g1.big _ _ hq, by rw [rp.length]; exact hk, by rw [rp.length]; exact hl, ?_⟩
        have rp1 := rp.mono g1.frz
        exact kk st Hf1 _ g1.frz ((S.grow g1).updO hd z1 ⟨_, upd_same, (rp1.take k).append (.cons r1 (rp1.drop k))⟩)
/-! ### ob.m(e) whose argument raises -/
variable {dvs : List Dt} {C : Addr} {fs fe : List (Str × Dt)} {k' nn : Nat} {R : List Dt → Res → Prop} {ob : Expr} {c : Value} {m : Str}
theorem exe_arg {CX : CXT} {pl : Sem Bool} (he : EE X G dl ob (.obj C fs)) (F : MF X.prog X.w X.K X.mg X.base CX k C m nn R) (nx : NoX CX) (hr : Room k' X.A) (ha : EXE X G E dl e c fe) (hkk : k ≤ k' := by decide) (hno : fs.lookup m = none := by rfl)
    (hst : starEach [e] X.env = (false, eval e X.env) :: starEach [] X.env := by rfl) (hpl : (backTo pos (starEach [] X.env)).any (·.1) = false := by rfl)
    (ht : eval (.Call (.Attribute ob m apos) [e] [] pos) X.env = (do
      let ov ← eval ob X.env
      standAt apos.atName
      let (f, first) ← holding [ov] (getMethod ov m pl)
      callWith pos f first (backTo pos (starEach [e] X.env)) (backToKw pos (keywordEach [] X.env))) := by rfl) : EXE X G E dl (.Call (.Attribute ob m apos) [e] [] pos) c fe := by
  obtain ⟨f, fd, ps, dsv, vds, Fo, hm, hb, hd, hdd⟩ := (mf_d F).ex
  exact peI (pe_meth (dvs := vds) (pl := pl) (E := E0) he F.cl hm Fo (hr.mono hkk) hb hd nx.passes (pa_cons ha pa_nil hst) hst hpl ht) fun st H Q ⟨Hf, S, kk⟩ => ⟨Hf, S, fun v Hf1 H1 g1 r1 => by
    cases r1 with
    | @obj a _ dx fv _ q r =>
      exact ⟨a, dx, fv, rfl, g1.sub _ _ q, r.none_of hno, Hf1, S.grow g1, fun od Hf' H' g xx => kk od Hf' H' g xx⟩⟩
end
end Sg

namespace Pf
open PySem PySem.Spec PyProof.Rows L2 Sg
def top (i : Nat) : Stmt := PySem.Challenge.pw_strokegrow_k34_deeds_refused.main.body.getD i (.Pass ⟨0, 0, 0, 0⟩)
abbrev s_added : Stmt := top 17
abbrev s_cross : Stmt := top 18
abbrev s_turn_of_deed : Stmt := top 19
abbrev s_Pen_way_of : Stmt := inClass (top 20) 3
abbrev s_Pen_turned : Stmt := inClass (top 20) 4
abbrev s_Pen_step : Stmt := inClass (top 20) 5
abbrev s_Pen_after : Stmt := inClass (top 20) 6
abbrev s_Quarter_ways : Stmt := inClass (top 21) 0
abbrev s_Quarter_turned_left : Stmt := inClass (top 21) 1
abbrev s_Quarter_along : Stmt := inClass (top 21) 2
abbrev s_Sixth_ways : Stmt := inClass (top 22) 0
abbrev s_Sixth_turned_left : Stmt := inClass (top 22) 1
abbrev s_Sixth_along : Stmt := inClass (top 22) 2
abbrev s_pen_of : Stmt := top 23
abbrev s_Track_init : Stmt := inClass (top 25) 0
abbrev s_Track_many : Stmt := inClass (top 25) 1
abbrev s_Track_turn : Stmt := inClass (top 25) 2
abbrev s_Track_strokes : Stmt := inClass (top 25) 3
abbrev s_Track_shift : Stmt := inClass (top 25) 4
abbrev s_Track_by_ways : Stmt := inClass (top 25) 5
abbrev s_Track_reach : Stmt := inClass (top 25) 6
abbrev s_Track_touch : Stmt := inClass (top 25) 7
abbrev s_Track_area : Stmt := inClass (top 25) 8
abbrev s_Track_joined : Stmt := inClass (top 25) 10
abbrev s_Track_told : Stmt := inClass (top 25) 11
abbrev s_still : Stmt := top 26
abbrev s_track_of_deed : Stmt := top 27
abbrev s_track_of : Stmt := top 28
abbrev s_cell_at : Stmt := top 30
abbrev s_cells : Stmt := top 31
abbrev s_pick : Stmt := top 32
abbrev s_deeds : Stmt := top 33
abbrev s_another : Stmt := top 34
abbrev s_refused : Stmt := top 35
abbrev s_other : Stmt := top 36
abbrev s_law : Stmt := top 37
abbrev n_added : List Str := ["one", "other"]
theorem sc_added : FnScope n_added ["one", "other"] (defScope s_added) := ⟨rfl, rfl, rfl, by decide +kernel, rfl, by decide +kernel, by decide +kernel⟩
abbrev n_cross : List Str := ["one", "other"]
theorem sc_cross : FnScope n_cross ["one", "other"] (defScope s_cross) := ⟨rfl, rfl, rfl, by decide +kernel, rfl, by decide +kernel, by decide +kernel⟩
abbrev n_turn_of_deed : List Str := ["deed"]
theorem sc_turn_of_deed : FnScope n_turn_of_deed ["deed"] (defScope s_turn_of_deed) := ⟨rfl, rfl, rfl, by decide +kernel, rfl, by decide +kernel, by decide +kernel⟩
abbrev n_Pen_way_of : List Str := ["self", "number"]
theorem sc_Pen_way_of : FnScope n_Pen_way_of ["self", "number"] (defScope s_Pen_way_of) := ⟨rfl, rfl, rfl, by decide +kernel, rfl, by decide +kernel, by decide +kernel⟩
abbrev n_Pen_turned : List Str := ["self", "spot", "by", "turns"]
theorem sc_Pen_turned : FnScope n_Pen_turned ["self", "spot", "by"] (defScope s_Pen_turned) := ⟨rfl, rfl, rfl, by decide +kernel, rfl, by decide +kernel, by decide +kernel⟩
abbrev n_Pen_step : List Str := ["self", "way"]
theorem sc_Pen_step : FnScope n_Pen_step ["self", "way"] (defScope s_Pen_step) := ⟨rfl, rfl, rfl, by decide +kernel, rfl, by decide +kernel, by decide +kernel⟩
abbrev n_Pen_after : List Str := ["self", "deed", "spot", "way"]
theorem sc_Pen_after : FnScope n_Pen_after ["self", "deed", "spot", "way"] (defScope s_Pen_after) := ⟨rfl, rfl, rfl, by decide +kernel, rfl, by decide +kernel, by decide +kernel⟩
abbrev n_Quarter_ways : List Str := ["self"]
theorem sc_Quarter_ways : FnScope n_Quarter_ways ["self"] (defScope s_Quarter_ways) := ⟨rfl, rfl, rfl, by decide +kernel, rfl, by decide +kernel, by decide +kernel⟩
abbrev n_Quarter_turned_left : List Str := ["self", "spot"]
theorem sc_Quarter_turned_left : FnScope n_Quarter_turned_left ["self", "spot"] (defScope s_Quarter_turned_left) := ⟨rfl, rfl, rfl, by decide +kernel, rfl, by decide +kernel, by decide +kernel⟩
abbrev n_Quarter_along : List Str := ["self", "way", "spot", "x", "y"]
theorem sc_Quarter_along : FnScope n_Quarter_along ["self", "way", "spot"] (defScope s_Quarter_along) := ⟨rfl, rfl, rfl, by decide +kernel, rfl, by decide +kernel, by decide +kernel⟩
abbrev n_Sixth_ways : List Str := ["self"]
theorem sc_Sixth_ways : FnScope n_Sixth_ways ["self"] (defScope s_Sixth_ways) := ⟨rfl, rfl, rfl, by decide +kernel, rfl, by decide +kernel, by decide +kernel⟩
abbrev n_Sixth_turned_left : List Str := ["self", "spot"]
theorem sc_Sixth_turned_left : FnScope n_Sixth_turned_left ["self", "spot"] (defScope s_Sixth_turned_left) := ⟨rfl, rfl, rfl, by decide +kernel, rfl, by decide +kernel, by decide +kernel⟩
abbrev n_Sixth_along : List Str := ["self", "way", "spot", "x", "y"]
theorem sc_Sixth_along : FnScope n_Sixth_along ["self", "way", "spot"] (defScope s_Sixth_along) := ⟨rfl, rfl, rfl, by decide +kernel, rfl, by decide +kernel, by decide +kernel⟩
abbrev n_pen_of : List Str := ["ways"]
theorem sc_pen_of : FnScope n_pen_of ["ways"] (defScope s_pen_of) := ⟨rfl, rfl, rfl, by decide +kernel, rfl, by decide +kernel, by decide +kernel⟩
abbrev n_Track_init : List Str := ["self", "pen", "deed_count", "last_way", "last_spot", "stroke_count", "reaches", "touches", "crosses"]
theorem sc_Track_init : FnScope n_Track_init ["self", "pen", "deed_count", "last_way", "last_spot", "stroke_count", "reaches", "touches", "crosses"] (defScope s_Track_init) := ⟨rfl, rfl, rfl, by decide +kernel, rfl, by decide +kernel, by decide +kernel⟩
abbrev n_Track_many : List Str := ["self"]
theorem sc_Track_many : FnScope n_Track_many ["self"] (defScope s_Track_many) := ⟨rfl, rfl, rfl, by decide +kernel, rfl, by decide +kernel, by decide +kernel⟩
abbrev n_Track_turn : List Str := ["self"]
theorem sc_Track_turn : FnScope n_Track_turn ["self"] (defScope s_Track_turn) := ⟨rfl, rfl, rfl, by decide +kernel, rfl, by decide +kernel, by decide +kernel⟩
abbrev n_Track_strokes : List Str := ["self"]
theorem sc_Track_strokes : FnScope n_Track_strokes ["self"] (defScope s_Track_strokes) := ⟨rfl, rfl, rfl, by decide +kernel, rfl, by decide +kernel, by decide +kernel⟩
abbrev n_Track_shift : List Str := ["self", "first"]
theorem sc_Track_shift : FnScope n_Track_shift ["self", "first"] (defScope s_Track_shift) := ⟨rfl, rfl, rfl, by decide +kernel, rfl, by decide +kernel, by decide +kernel⟩
abbrev n_Track_by_ways : List Str := ["self", "numbers", "first"]
theorem sc_Track_by_ways : FnScope n_Track_by_ways ["self", "numbers", "first"] (defScope s_Track_by_ways) := ⟨rfl, rfl, rfl, by decide +kernel, rfl, by decide +kernel, by decide +kernel⟩
abbrev n_Track_reach : List Str := ["self", "first"]
theorem sc_Track_reach : FnScope n_Track_reach ["self", "first"] (defScope s_Track_reach) := ⟨rfl, rfl, rfl, by decide +kernel, rfl, by decide +kernel, by decide +kernel⟩
abbrev n_Track_touch : List Str := ["self", "first"]
theorem sc_Track_touch : FnScope n_Track_touch ["self", "first"] (defScope s_Track_touch) := ⟨rfl, rfl, rfl, by decide +kernel, rfl, by decide +kernel, by decide +kernel⟩
abbrev n_Track_area : List Str := ["self"]
theorem sc_Track_area : FnScope n_Track_area ["self"] (defScope s_Track_area) := ⟨rfl, rfl, rfl, by decide +kernel, rfl, by decide +kernel, by decide +kernel⟩
abbrev n_Track_joined : List Str := ["self", "other", "pen", "shift", "reaches", "touches", "way"]
theorem sc_Track_joined : FnScope n_Track_joined ["self", "other"] (defScope s_Track_joined) := ⟨rfl, rfl, rfl, by decide +kernel, rfl, by decide +kernel, by decide +kernel⟩
abbrev n_Track_told : List Str := ["self"]
abbrev n_still : List Str := ["pen"]
theorem sc_still : FnScope n_still ["pen"] (defScope s_still) := ⟨rfl, rfl, rfl, by decide +kernel, rfl, by decide +kernel, by decide +kernel⟩
abbrev n_track_of_deed : List Str := ["pen", "deed", "behind", "spot", "reaches", "touches"]
theorem sc_track_of_deed : FnScope n_track_of_deed ["pen", "deed"] (defScope s_track_of_deed) := ⟨rfl, rfl, rfl, by decide +kernel, rfl, by decide +kernel, by decide +kernel⟩
abbrev n_track_of : List Str := ["pen", "deeds", "track", "deed"]
theorem sc_track_of : FnScope n_track_of ["pen", "deeds"] (defScope s_track_of) := ⟨rfl, rfl, rfl, by decide +kernel, rfl, by decide +kernel, by decide +kernel⟩
abbrev n_cell_at : List Str := ["_law_script", "_law_k", "_law_cell", "_law_low"]
theorem sc_cell_at : FnScope n_cell_at ["_law_script", "_law_k"] (defScope s_cell_at) := ⟨rfl, rfl, rfl, by decide +kernel, rfl, by decide +kernel, by decide +kernel⟩
abbrev n_cells : List Str := ["_law_script", "_law_first", "_law_last"]
theorem sc_cells : FnScope n_cells ["_law_script", "_law_first", "_law_last"] (defScope s_cells) := ⟨rfl, rfl, rfl, by decide +kernel, rfl, by decide +kernel, by decide +kernel⟩
abbrev n_pick : List Str := ["_law_cell", "_law_prime", "_law_many"]
theorem sc_pick : FnScope n_pick ["_law_cell", "_law_prime", "_law_many"] (defScope s_pick) := ⟨rfl, rfl, rfl, by decide +kernel, rfl, by decide +kernel, by decide +kernel⟩
abbrev n_deeds : List Str := ["_law_cells_here", "_law_some"]
theorem sc_deeds : FnScope n_deeds ["_law_cells_here"] (defScope s_deeds) := ⟨rfl, rfl, rfl, by decide +kernel, rfl, by decide +kernel, by decide +kernel⟩
abbrev n_another : List Str := ["_law_e"]
theorem sc_another : FnScope n_another ["_law_e"] (defScope s_another) := ⟨rfl, rfl, rfl, by decide +kernel, rfl, by decide +kernel, by decide +kernel⟩
abbrev n_refused : List Str := ["_law_pen", "_law_deeds_here", "_law_told", "_law_e"]
theorem sc_refused : FnScope n_refused ["_law_pen", "_law_deeds_here"] (defScope s_refused) := ⟨rfl, rfl, rfl, by decide +kernel, rfl, by decide +kernel, by decide +kernel⟩
abbrev n_other : List Str := ["_law_cell", "_law_deed", "_law_some"]
theorem sc_other : FnScope n_other ["_law_cell"] (defScope s_other) := ⟨rfl, rfl, rfl, by decide +kernel, rfl, by decide +kernel, by decide +kernel⟩
abbrev n_law : List Str := ["_law_script", "_law_pen", "_law_deeds_here", "_law_spoilt", "_law_k", "_law_at", "_law_handed"]
theorem sc_law : FnScope n_law ["_law_script"] (defScope s_law) := ⟨rfl, rfl, rfl, by decide +kernel, rfl, by decide +kernel, by decide +kernel⟩
structure Adr where
  f_added : Addr
  d_added : FuncData
  f_cross : Addr
  d_cross : FuncData
  f_turn_of_deed : Addr
  d_turn_of_deed : FuncData
  f_Pen_way_of : Addr
  d_Pen_way_of : FuncData
  f_Pen_turned : Addr
  d_Pen_turned : FuncData
  f_Pen_step : Addr
  d_Pen_step : FuncData
  f_Pen_after : Addr
  d_Pen_after : FuncData
  f_Quarter_ways : Addr
  d_Quarter_ways : FuncData
  f_Quarter_turned_left : Addr
  d_Quarter_turned_left : FuncData
  f_Quarter_along : Addr
  d_Quarter_along : FuncData
  f_Sixth_ways : Addr
  d_Sixth_ways : FuncData
  f_Sixth_turned_left : Addr
  d_Sixth_turned_left : FuncData
  f_Sixth_along : Addr
  d_Sixth_along : FuncData
  f_pen_of : Addr
  d_pen_of : FuncData
  f_Track_init : Addr
  d_Track_init : FuncData
  f_Track_many : Addr
  d_Track_many : FuncData
  f_Track_turn : Addr
  d_Track_turn : FuncData
  f_Track_strokes : Addr
  d_Track_strokes : FuncData
  f_Track_shift : Addr
  d_Track_shift : FuncData
  f_Track_by_ways : Addr
  d_Track_by_ways : FuncData
  f_Track_reach : Addr
  d_Track_reach : FuncData
  f_Track_touch : Addr
  d_Track_touch : FuncData
  f_Track_area : Addr
  d_Track_area : FuncData
  f_Track_joined : Addr
  d_Track_joined : FuncData
  f_Track_told : Addr
  d_Track_told : FuncData
  f_still : Addr
  d_still : FuncData
  f_track_of_deed : Addr
  d_track_of_deed : FuncData
  f_track_of : Addr
  d_track_of : FuncData
  f_cell_at : Addr
  d_cell_at : FuncData
  f_cells : Addr
  d_cells : FuncData
  f_pick : Addr
  d_pick : FuncData
  f_deeds : Addr
  d_deeds : FuncData
  f_another : Addr
  d_another : FuncData
  f_refused : Addr
  d_refused : FuncData
  f_other : Addr
  d_other : FuncData
  f_law : Addr
  d_law : FuncData
  t_Track_shift : Tok
  t_Track_reach : Tok
  t_Track_touch : Tok
  C_Quarter : Addr
  C_Sixth : Addr
  C_Track : Addr
  C_NoPen : Addr
  C_GrowError : Addr
  C_NoDeed : Addr
  C_NoLetter : Addr
  C_NoLine : Addr
  C_NoPlace : Addr
  C_NoRound : Addr
  C_NoRules : Addr
  C_NoText : Addr
  C_NoWord : Addr
  C_NothingDone : Addr
  C_TooLong : Addr
  D_DEEDS : Addr
  D_GOING_DEEDS : Addr
structure Txt (K : PySem.W.Frag) (mg : Str → Option Value) (t : Adr) : Prop where
  cl_Quarter : Cls K t.C_Quarter
  m_Quarter : mg "Quarter" = some (.ref t.C_Quarter)
  kc_Quarter : PySem.W.keepIn K (.ref t.C_Quarter) = true
  cl_Sixth : Cls K t.C_Sixth
  m_Sixth : mg "Sixth" = some (.ref t.C_Sixth)
  kc_Sixth : PySem.W.keepIn K (.ref t.C_Sixth) = true
  cl_Track : Cls K t.C_Track
  m_Track : mg "Track" = some (.ref t.C_Track)
  kc_Track : PySem.W.keepIn K (.ref t.C_Track) = true
  m_NoPen : mg "NoPen" = some (.ref t.C_NoPen)
  m_GrowError : mg "GrowError" = some (.ref t.C_GrowError)
  m_NoDeed : mg "NoDeed" = some (.ref t.C_NoDeed)
  m_NoLetter : mg "NoLetter" = some (.ref t.C_NoLetter)
  m_NoLine : mg "NoLine" = some (.ref t.C_NoLine)
  m_NoPlace : mg "NoPlace" = some (.ref t.C_NoPlace)
  m_NoRound : mg "NoRound" = some (.ref t.C_NoRound)
  m_NoRules : mg "NoRules" = some (.ref t.C_NoRules)
  m_NoText : mg "NoText" = some (.ref t.C_NoText)
  m_NoWord : mg "NoWord" = some (.ref t.C_NoWord)
  m_NothingDone : mg "NothingDone" = some (.ref t.C_NothingDone)
  m_TooLong : mg "TooLong" = some (.ref t.C_TooLong)
  xc_NoPen : ExC K t.C_NoPen
  xt_NoPen : TyX K t.C_NoPen
  xc_GrowError : ExC K t.C_GrowError
  xt_GrowError : TyX K t.C_GrowError
  xc_NoDeed : ExC K t.C_NoDeed
  xt_NoDeed : TyX K t.C_NoDeed
  mk_Quarter : Mk0 K t.C_Quarter
  mk_Sixth : Mk0 K t.C_Sixth
  ty_Track : TyC K t.C_Track
  mk_Track : L2.Mk K t.C_Track t.f_Track_init
  na_Track_drawer : NoAttr K t.C_Track "drawer"
  na_Track_deed_count : NoAttr K t.C_Track "deed_count"
  na_Track_last_way : NoAttr K t.C_Track "last_way"
  na_Track_last_spot : NoAttr K t.C_Track "last_spot"
  na_Track_stroke_count : NoAttr K t.C_Track "stroke_count"
  na_Track_reaches : NoAttr K t.C_Track "reaches"
  na_Track_touches : NoAttr K t.C_Track "touches"
  na_Track_crosses : NoAttr K t.C_Track "crosses"
  g_DEEDS : mg "DEEDS" = some (.ref t.D_DEEDS)
  r_DEEDS : ∀ H, Rep K H (.ref t.D_DEEDS) (.tup [.str "stroke", .str "step", .str "left", .str "right", .str "rest"])
  g_GOING_DEEDS : mg "GOING_DEEDS" = some (.ref t.D_GOING_DEEDS)
  r_GOING_DEEDS : ∀ H, Rep K H (.ref t.D_GOING_DEEDS) (.tup [.str "stroke", .str "step"])
  F_added : Fun K "added" "added" s_added t.f_added t.d_added
  k_added : PySem.W.keepIn K (.ref t.f_added) = true
  b_added : Binds K t.d_added ["one", "other"] []
  m_added : mg "added" = some (.ref t.f_added)
  F_cross : Fun K "cross" "cross" s_cross t.f_cross t.d_cross
  k_cross : PySem.W.keepIn K (.ref t.f_cross) = true
  b_cross : Binds K t.d_cross ["one", "other"] []
  m_cross : mg "cross" = some (.ref t.f_cross)
  F_turn_of_deed : Fun K "turn_of_deed" "turn_of_deed" s_turn_of_deed t.f_turn_of_deed t.d_turn_of_deed
  k_turn_of_deed : PySem.W.keepIn K (.ref t.f_turn_of_deed) = true
  b_turn_of_deed : Binds K t.d_turn_of_deed ["deed"] []
  m_turn_of_deed : mg "turn_of_deed" = some (.ref t.f_turn_of_deed)
  F_Pen_way_of : Fun K "way_of" "Pen.way_of" s_Pen_way_of t.f_Pen_way_of t.d_Pen_way_of
  k_Pen_way_of : PySem.W.keepIn K (.ref t.f_Pen_way_of) = true
  b_Pen_way_of : Binds K t.d_Pen_way_of ["self", "number"] []
  me_Pen_way_of_Quarter : Meth K t.C_Quarter "way_of" t.f_Pen_way_of
  me_Pen_way_of_Sixth : Meth K t.C_Sixth "way_of" t.f_Pen_way_of
  F_Pen_turned : Fun K "turned" "Pen.turned" s_Pen_turned t.f_Pen_turned t.d_Pen_turned
  k_Pen_turned : PySem.W.keepIn K (.ref t.f_Pen_turned) = true
  b_Pen_turned : Binds K t.d_Pen_turned ["self", "spot", "by"] []
  me_Pen_turned_Quarter : Meth K t.C_Quarter "turned" t.f_Pen_turned
  me_Pen_turned_Sixth : Meth K t.C_Sixth "turned" t.f_Pen_turned
  F_Pen_step : Fun K "step" "Pen.step" s_Pen_step t.f_Pen_step t.d_Pen_step
  k_Pen_step : PySem.W.keepIn K (.ref t.f_Pen_step) = true
  b_Pen_step : Binds K t.d_Pen_step ["self", "way"] []
  me_Pen_step_Quarter : Meth K t.C_Quarter "step" t.f_Pen_step
  me_Pen_step_Sixth : Meth K t.C_Sixth "step" t.f_Pen_step
  F_Pen_after : Fun K "after" "Pen.after" s_Pen_after t.f_Pen_after t.d_Pen_after
  k_Pen_after : PySem.W.keepIn K (.ref t.f_Pen_after) = true
  b_Pen_after : Binds K t.d_Pen_after ["self", "deed", "spot", "way"] []
  me_Pen_after_Quarter : Meth K t.C_Quarter "after" t.f_Pen_after
  me_Pen_after_Sixth : Meth K t.C_Sixth "after" t.f_Pen_after
  F_Quarter_ways : Fun K "ways" "Quarter.ways" s_Quarter_ways t.f_Quarter_ways t.d_Quarter_ways
  k_Quarter_ways : PySem.W.keepIn K (.ref t.f_Quarter_ways) = true
  b_Quarter_ways : Binds K t.d_Quarter_ways ["self"] []
  me_Quarter_ways_Quarter : Meth K t.C_Quarter "ways" t.f_Quarter_ways
  F_Quarter_turned_left : Fun K "turned_left" "Quarter.turned_left" s_Quarter_turned_left t.f_Quarter_turned_left t.d_Quarter_turned_left
  k_Quarter_turned_left : PySem.W.keepIn K (.ref t.f_Quarter_turned_left) = true
  b_Quarter_turned_left : Binds K t.d_Quarter_turned_left ["self", "spot"] []
  me_Quarter_turned_left_Quarter : Meth K t.C_Quarter "turned_left" t.f_Quarter_turned_left
  F_Quarter_along : Fun K "along" "Quarter.along" s_Quarter_along t.f_Quarter_along t.d_Quarter_along
  k_Quarter_along : PySem.W.keepIn K (.ref t.f_Quarter_along) = true
  b_Quarter_along : Binds K t.d_Quarter_along ["self", "way", "spot"] []
  me_Quarter_along_Quarter : Meth K t.C_Quarter "along" t.f_Quarter_along
  F_Sixth_ways : Fun K "ways" "Sixth.ways" s_Sixth_ways t.f_Sixth_ways t.d_Sixth_ways
  k_Sixth_ways : PySem.W.keepIn K (.ref t.f_Sixth_ways) = true
  b_Sixth_ways : Binds K t.d_Sixth_ways ["self"] []
  me_Sixth_ways_Sixth : Meth K t.C_Sixth "ways" t.f_Sixth_ways
  F_Sixth_turned_left : Fun K "turned_left" "Sixth.turned_left" s_Sixth_turned_left t.f_Sixth_turned_left t.d_Sixth_turned_left
  k_Sixth_turned_left : PySem.W.keepIn K (.ref t.f_Sixth_turned_left) = true
  b_Sixth_turned_left : Binds K t.d_Sixth_turned_left ["self", "spot"] []
  me_Sixth_turned_left_Sixth : Meth K t.C_Sixth "turned_left" t.f_Sixth_turned_left
  F_Sixth_along : Fun K "along" "Sixth.along" s_Sixth_along t.f_Sixth_along t.d_Sixth_along
  k_Sixth_along : PySem.W.keepIn K (.ref t.f_Sixth_along) = true
  b_Sixth_along : Binds K t.d_Sixth_along ["self", "way", "spot"] []
  me_Sixth_along_Sixth : Meth K t.C_Sixth "along" t.f_Sixth_along
  F_pen_of : Fun K "pen_of" "pen_of" s_pen_of t.f_pen_of t.d_pen_of
  k_pen_of : PySem.W.keepIn K (.ref t.f_pen_of) = true
  b_pen_of : Binds K t.d_pen_of ["ways"] []
  m_pen_of : mg "pen_of" = some (.ref t.f_pen_of)
  F_Track_init : FunG K "__init__" "Track.__init__" s_Track_init t.f_Track_init t.d_Track_init
  k_Track_init : PySem.W.keepIn K (.ref t.f_Track_init) = true
  b_Track_init : Binds K t.d_Track_init ["self", "pen", "deed_count", "last_way", "last_spot", "stroke_count", "reaches", "touches", "crosses"] []
  F_Track_many : Fun K "many" "Track.many" s_Track_many t.f_Track_many t.d_Track_many
  k_Track_many : PySem.W.keepIn K (.ref t.f_Track_many) = true
  b_Track_many : Binds K t.d_Track_many ["self"] []
  me_Track_many_Track : Meth K t.C_Track "many" t.f_Track_many
  F_Track_turn : Fun K "turn" "Track.turn" s_Track_turn t.f_Track_turn t.d_Track_turn
  k_Track_turn : PySem.W.keepIn K (.ref t.f_Track_turn) = true
  b_Track_turn : Binds K t.d_Track_turn ["self"] []
  me_Track_turn_Track : Meth K t.C_Track "turn" t.f_Track_turn
  F_Track_strokes : Fun K "strokes" "Track.strokes" s_Track_strokes t.f_Track_strokes t.d_Track_strokes
  k_Track_strokes : PySem.W.keepIn K (.ref t.f_Track_strokes) = true
  b_Track_strokes : Binds K t.d_Track_strokes ["self"] []
  me_Track_strokes_Track : Meth K t.C_Track "strokes" t.f_Track_strokes
  bd_Track_shift : Binds K t.d_Track_shift ["self", "first"] [.int 0 t.t_Track_shift]
  F_Track_shift : FunG K "shift" "Track.shift" s_Track_shift t.f_Track_shift t.d_Track_shift
  k_Track_shift : PySem.W.keepIn K (.ref t.f_Track_shift) = true
  b_Track_shift : Binds K t.d_Track_shift ["self", "first"] []
  me_Track_shift_Track : Meth K t.C_Track "shift" t.f_Track_shift
  F_Track_by_ways : Fun K "by_ways" "Track.by_ways" s_Track_by_ways t.f_Track_by_ways t.d_Track_by_ways
  k_Track_by_ways : PySem.W.keepIn K (.ref t.f_Track_by_ways) = true
  b_Track_by_ways : Binds K t.d_Track_by_ways ["self", "numbers", "first"] []
  me_Track_by_ways_Track : Meth K t.C_Track "by_ways" t.f_Track_by_ways
  bd_Track_reach : Binds K t.d_Track_reach ["self", "first"] [.int 0 t.t_Track_reach]
  F_Track_reach : FunG K "reach" "Track.reach" s_Track_reach t.f_Track_reach t.d_Track_reach
  k_Track_reach : PySem.W.keepIn K (.ref t.f_Track_reach) = true
  b_Track_reach : Binds K t.d_Track_reach ["self", "first"] []
  me_Track_reach_Track : Meth K t.C_Track "reach" t.f_Track_reach
  bd_Track_touch : Binds K t.d_Track_touch ["self", "first"] [.int 0 t.t_Track_touch]
  F_Track_touch : FunG K "touch" "Track.touch" s_Track_touch t.f_Track_touch t.d_Track_touch
  k_Track_touch : PySem.W.keepIn K (.ref t.f_Track_touch) = true
  b_Track_touch : Binds K t.d_Track_touch ["self", "first"] []
  me_Track_touch_Track : Meth K t.C_Track "touch" t.f_Track_touch
  F_Track_area : Fun K "area" "Track.area" s_Track_area t.f_Track_area t.d_Track_area
  k_Track_area : PySem.W.keepIn K (.ref t.f_Track_area) = true
  b_Track_area : Binds K t.d_Track_area ["self"] []
  me_Track_area_Track : Meth K t.C_Track "area" t.f_Track_area
  F_Track_joined : Fun K "joined" "Track.joined" s_Track_joined t.f_Track_joined t.d_Track_joined
  k_Track_joined : PySem.W.keepIn K (.ref t.f_Track_joined) = true
  b_Track_joined : Binds K t.d_Track_joined ["self", "other"] []
  me_Track_joined_Track : Meth K t.C_Track "joined" t.f_Track_joined
  F_Track_told : Fun K "told" "Track.told" s_Track_told t.f_Track_told t.d_Track_told
  k_Track_told : PySem.W.keepIn K (.ref t.f_Track_told) = true
  b_Track_told : Binds K t.d_Track_told ["self"] []
  me_Track_told_Track : Meth K t.C_Track "told" t.f_Track_told
  F_still : Fun K "still" "still" s_still t.f_still t.d_still
  k_still : PySem.W.keepIn K (.ref t.f_still) = true
  b_still : Binds K t.d_still ["pen"] []
  m_still : mg "still" = some (.ref t.f_still)
  F_track_of_deed : Fun K "track_of_deed" "track_of_deed" s_track_of_deed t.f_track_of_deed t.d_track_of_deed
  k_track_of_deed : PySem.W.keepIn K (.ref t.f_track_of_deed) = true
  b_track_of_deed : Binds K t.d_track_of_deed ["pen", "deed"] []
  m_track_of_deed : mg "track_of_deed" = some (.ref t.f_track_of_deed)
  F_track_of : Fun K "track_of" "track_of" s_track_of t.f_track_of t.d_track_of
  k_track_of : PySem.W.keepIn K (.ref t.f_track_of) = true
  b_track_of : Binds K t.d_track_of ["pen", "deeds"] []
  m_track_of : mg "track_of" = some (.ref t.f_track_of)
  F_cell_at : Fun K "_law_cell_at" "_law_cell_at" s_cell_at t.f_cell_at t.d_cell_at
  k_cell_at : PySem.W.keepIn K (.ref t.f_cell_at) = true
  b_cell_at : Binds K t.d_cell_at ["_law_script", "_law_k"] []
  m_cell_at : mg "_law_cell_at" = some (.ref t.f_cell_at)
  F_cells : Fun K "_law_cells" "_law_cells" s_cells t.f_cells t.d_cells
  k_cells : PySem.W.keepIn K (.ref t.f_cells) = true
  b_cells : Binds K t.d_cells ["_law_script", "_law_first", "_law_last"] []
  m_cells : mg "_law_cells" = some (.ref t.f_cells)
  F_pick : Fun K "_law_pick" "_law_pick" s_pick t.f_pick t.d_pick
  k_pick : PySem.W.keepIn K (.ref t.f_pick) = true
  b_pick : Binds K t.d_pick ["_law_cell", "_law_prime", "_law_many"] []
  m_pick : mg "_law_pick" = some (.ref t.f_pick)
  F_deeds : Fun K "_law_deeds" "_law_deeds" s_deeds t.f_deeds t.d_deeds
  k_deeds : PySem.W.keepIn K (.ref t.f_deeds) = true
  b_deeds : Binds K t.d_deeds ["_law_cells_here"] []
  m_deeds : mg "_law_deeds" = some (.ref t.f_deeds)
  F_another : Fun K "_law_another" "_law_another" s_another t.f_another t.d_another
  k_another : PySem.W.keepIn K (.ref t.f_another) = true
  b_another : Binds K t.d_another ["_law_e"] []
  m_another : mg "_law_another" = some (.ref t.f_another)
  F_refused : Fun K "_law_refused" "_law_refused" s_refused t.f_refused t.d_refused
  k_refused : PySem.W.keepIn K (.ref t.f_refused) = true
  b_refused : Binds K t.d_refused ["_law_pen", "_law_deeds_here"] []
  m_refused : mg "_law_refused" = some (.ref t.f_refused)
  F_other : Fun K "_law_other" "_law_other" s_other t.f_other t.d_other
  k_other : PySem.W.keepIn K (.ref t.f_other) = true
  b_other : Binds K t.d_other ["_law_cell"] []
  m_other : mg "_law_other" = some (.ref t.f_other)
  F_law : Fun K "law" "law" s_law t.f_law t.d_law
  k_law : PySem.W.keepIn K (.ref t.f_law) = true
  b_law : Binds K t.d_law ["_law_script"] []
  m_law : mg "law" = some (.ref t.f_law)
  z_range : mg "range" = none
  z_len : mg "len" = none
  z_isinstance : mg "isinstance" = none
  z_int : mg "int" = none
  z_bool : mg "bool" = none
  z_list : mg "list" = none
  z_max : mg "max" = none
  z_min : mg "min" = none
  z_tuple : mg "tuple" = none
  z_ValueError : mg "ValueError" = none
  bl_law : ∀ (s : Shared) (u : Value), BindsTo s t.d_law ⟨[u], []⟩ [("_law_script", u)]
  su : PySem.W.mroIn K t.C_NoDeed (.ref t.C_NoDeed) = some true
  i1 : PySem.W.kitOne K (.ref t.C_NoDeed) (.ref t.C_GrowError) = some true
  i2 : PySem.W.kitOne K (.ref t.C_NoDeed) (.type "ValueError") = some true
  y1 : PySem.W.kitAny K (.ref t.C_NoDeed) [.ref t.C_NoLetter, .ref t.C_NoLine, .ref t.C_NoPen, .ref t.C_NoPlace, .ref t.C_NoRound] = some false
  y2 : PySem.W.kitAny K (.ref t.C_NoDeed) [.ref t.C_NoRules, .ref t.C_NoText, .ref t.C_NoWord, .ref t.C_NothingDone, .ref t.C_TooLong] = some false
theorem txt_mk {K : PySem.W.Frag} {h : Heap} {mg : Str → Option Value} (X : K.In h) (G : h.Ns mainGlobals mg) {C_Quarter : Addr} {C_Sixth : Addr} {C_Track : Addr} {C_NoPen : Addr} {C_GrowError : Addr} {C_NoDeed : Addr} {C_NoLetter : Addr} {C_NoLine : Addr} {C_NoPlace : Addr} {C_NoRound : Addr} {C_NoRules : Addr} {C_NoText : Addr} {C_NoWord : Addr} {C_NothingDone : Addr} {C_TooLong : Addr} {D_DEEDS : Addr} {oT_DEEDS : Option Addr} {nT_DEEDS : Nat} {sT_DEEDS : Array (Option Value)} {k0_DEEDS k1_DEEDS k2_DEEDS k3_DEEDS k4_DEEDS : Tok} {D_GOING_DEEDS : Addr} {oT_GOING_DEEDS : Option Addr} {nT_GOING_DEEDS : Nat} {sT_GOING_DEEDS : Array (Option Value)} {k0_GOING_DEEDS k1_GOING_DEEDS : Tok} {f_added : Addr} {od_added an_added : Option Addr} {sl_added : Array (Option Value)} {oc_added kV_added dc_added pm_added cd_added ct_added : Value} {f_cross : Addr} {od_cross an_cross : Option Addr} {sl_cross : Array (Option Value)} {oc_cross kV_cross dc_cross pm_cross cd_cross ct_cross : Value} {f_turn_of_deed : Addr} {od_turn_of_deed an_turn_of_deed : Option Addr} {sl_turn_of_deed : Array (Option Value)} {oc_turn_of_deed kV_turn_of_deed dc_turn_of_deed pm_turn_of_deed cd_turn_of_deed ct_turn_of_deed : Value} {f_Pen_way_of : Addr} {od_Pen_way_of an_Pen_way_of : Option Addr} {sl_Pen_way_of : Array (Option Value)} {oc_Pen_way_of kV_Pen_way_of dc_Pen_way_of pm_Pen_way_of cd_Pen_way_of ct_Pen_way_of : Value} {f_Pen_turned : Addr} {od_Pen_turned an_Pen_turned : Option Addr} {sl_Pen_turned : Array (Option Value)} {oc_Pen_turned kV_Pen_turned dc_Pen_turned pm_Pen_turned cd_Pen_turned ct_Pen_turned : Value} {f_Pen_step : Addr} {od_Pen_step an_Pen_step : Option Addr} {sl_Pen_step : Array (Option Value)} {oc_Pen_step kV_Pen_step dc_Pen_step pm_Pen_step cd_Pen_step ct_Pen_step : Value} {f_Pen_after : Addr} {od_Pen_after an_Pen_after : Option Addr} {sl_Pen_after : Array (Option Value)} {oc_Pen_after kV_Pen_after dc_Pen_after pm_Pen_after cd_Pen_after ct_Pen_after : Value} {f_Quarter_ways : Addr} {od_Quarter_ways an_Quarter_ways : Option Addr} {sl_Quarter_ways : Array (Option Value)} {oc_Quarter_ways kV_Quarter_ways dc_Quarter_ways pm_Quarter_ways cd_Quarter_ways ct_Quarter_ways : Value} {f_Quarter_turned_left : Addr} {od_Quarter_turned_left an_Quarter_turned_left : Option Addr} {sl_Quarter_turned_left : Array (Option Value)} {oc_Quarter_turned_left kV_Quarter_turned_left dc_Quarter_turned_left pm_Quarter_turned_left cd_Quarter_turned_left ct_Quarter_turned_left : Value} {f_Quarter_along : Addr} {od_Quarter_along an_Quarter_along : Option Addr} {sl_Quarter_along : Array (Option Value)} {oc_Quarter_along kV_Quarter_along dc_Quarter_along pm_Quarter_along cd_Quarter_along ct_Quarter_along : Value} {f_Sixth_ways : Addr} {od_Sixth_ways an_Sixth_ways : Option Addr} {sl_Sixth_ways : Array (Option Value)} {oc_Sixth_ways kV_Sixth_ways dc_Sixth_ways pm_Sixth_ways cd_Sixth_ways ct_Sixth_ways : Value} {f_Sixth_turned_left : Addr} {od_Sixth_turned_left an_Sixth_turned_left : Option Addr} {sl_Sixth_turned_left : Array (Option Value)} {oc_Sixth_turned_left kV_Sixth_turned_left dc_Sixth_turned_left pm_Sixth_turned_left cd_Sixth_turned_left ct_Sixth_turned_left : Value} {f_Sixth_along : Addr} {od_Sixth_along an_Sixth_along : Option Addr} {sl_Sixth_along : Array (Option Value)} {oc_Sixth_along kV_Sixth_along dc_Sixth_along pm_Sixth_along cd_Sixth_along ct_Sixth_along : Value} {f_pen_of : Addr} {od_pen_of an_pen_of : Option Addr} {sl_pen_of : Array (Option Value)} {oc_pen_of kV_pen_of dc_pen_of pm_pen_of cd_pen_of ct_pen_of : Value} {f_Track_init : Addr} {od_Track_init an_Track_init : Option Addr} {sl_Track_init : Array (Option Value)} {oc_Track_init kV_Track_init dc_Track_init pm_Track_init cd_Track_init ct_Track_init : Value} {f_Track_many : Addr} {od_Track_many an_Track_many : Option Addr} {sl_Track_many : Array (Option Value)} {oc_Track_many kV_Track_many dc_Track_many pm_Track_many cd_Track_many ct_Track_many : Value} {f_Track_turn : Addr} {od_Track_turn an_Track_turn : Option Addr} {sl_Track_turn : Array (Option Value)} {oc_Track_turn kV_Track_turn dc_Track_turn pm_Track_turn cd_Track_turn ct_Track_turn : Value} {f_Track_strokes : Addr} {od_Track_strokes an_Track_strokes : Option Addr} {sl_Track_strokes : Array (Option Value)} {oc_Track_strokes kV_Track_strokes dc_Track_strokes pm_Track_strokes cd_Track_strokes ct_Track_strokes : Value} {f_Track_shift : Addr} {od_Track_shift an_Track_shift : Option Addr} {sl_Track_shift : Array (Option Value)} {oc_Track_shift kV_Track_shift dc_Track_shift pm_Track_shift cd_Track_shift ct_Track_shift : Value} {T_Track_shift : Addr} {oT_Track_shift : Option Addr} {cT_Track_shift : Value} {nT_Track_shift : Nat} {sT_Track_shift : Array (Option Value)} {t_Track_shift : Tok} {f_Track_by_ways : Addr} {od_Track_by_ways an_Track_by_ways : Option Addr} {sl_Track_by_ways : Array (Option Value)} {oc_Track_by_ways kV_Track_by_ways dc_Track_by_ways pm_Track_by_ways cd_Track_by_ways ct_Track_by_ways : Value} {f_Track_reach : Addr} {od_Track_reach an_Track_reach : Option Addr} {sl_Track_reach : Array (Option Value)} {oc_Track_reach kV_Track_reach dc_Track_reach pm_Track_reach cd_Track_reach ct_Track_reach : Value} {T_Track_reach : Addr} {oT_Track_reach : Option Addr} {cT_Track_reach : Value} {nT_Track_reach : Nat} {sT_Track_reach : Array (Option Value)} {t_Track_reach : Tok} {f_Track_touch : Addr} {od_Track_touch an_Track_touch : Option Addr} {sl_Track_touch : Array (Option Value)} {oc_Track_touch kV_Track_touch dc_Track_touch pm_Track_touch cd_Track_touch ct_Track_touch : Value} {T_Track_touch : Addr} {oT_Track_touch : Option Addr} {cT_Track_touch : Value} {nT_Track_touch : Nat} {sT_Track_touch : Array (Option Value)} {t_Track_touch : Tok} {f_Track_area : Addr} {od_Track_area an_Track_area : Option Addr} {sl_Track_area : Array (Option Value)} {oc_Track_area kV_Track_area dc_Track_area pm_Track_area cd_Track_area ct_Track_area : Value} {f_Track_joined : Addr} {od_Track_joined an_Track_joined : Option Addr} {sl_Track_joined : Array (Option Value)} {oc_Track_joined kV_Track_joined dc_Track_joined pm_Track_joined cd_Track_joined ct_Track_joined : Value} {f_Track_told : Addr} {od_Track_told an_Track_told : Option Addr} {sl_Track_told : Array (Option Value)} {oc_Track_told kV_Track_told dc_Track_told pm_Track_told cd_Track_told ct_Track_told : Value} {f_still : Addr} {od_still an_still : Option Addr} {sl_still : Array (Option Value)} {oc_still kV_still dc_still pm_still cd_still ct_still : Value} {f_track_of_deed : Addr} {od_track_of_deed an_track_of_deed : Option Addr} {sl_track_of_deed : Array (Option Value)} {oc_track_of_deed kV_track_of_deed dc_track_of_deed pm_track_of_deed cd_track_of_deed ct_track_of_deed : Value} {f_track_of : Addr} {od_track_of an_track_of : Option Addr} {sl_track_of : Array (Option Value)} {oc_track_of kV_track_of dc_track_of pm_track_of cd_track_of ct_track_of : Value} {f_cell_at : Addr} {od_cell_at an_cell_at : Option Addr} {sl_cell_at : Array (Option Value)} {oc_cell_at kV_cell_at dc_cell_at pm_cell_at cd_cell_at ct_cell_at : Value} {f_cells : Addr} {od_cells an_cells : Option Addr} {sl_cells : Array (Option Value)} {oc_cells kV_cells dc_cells pm_cells cd_cells ct_cells : Value} {f_pick : Addr} {od_pick an_pick : Option Addr} {sl_pick : Array (Option Value)} {oc_pick kV_pick dc_pick pm_pick cd_pick ct_pick : Value} {f_deeds : Addr} {od_deeds an_deeds : Option Addr} {sl_deeds : Array (Option Value)} {oc_deeds kV_deeds dc_deeds pm_deeds cd_deeds ct_deeds : Value} {f_another : Addr} {od_another an_another : Option Addr} {sl_another : Array (Option Value)} {oc_another kV_another dc_another pm_another cd_another ct_another : Value} {f_refused : Addr} {od_refused an_refused : Option Addr} {sl_refused : Array (Option Value)} {oc_refused kV_refused dc_refused pm_refused cd_refused ct_refused : Value} {f_other : Addr} {od_other an_other : Option Addr} {sl_other : Array (Option Value)} {oc_other kV_other dc_other pm_other cd_other ct_other : Value} {f_law : Addr} {od_law an_law : Option Addr} {sl_law : Array (Option Value)} {oc_law kV_law dc_law pm_law cd_law ct_law : Value}
    (aQuarter : PySem.W.nsIn K mainGlobals "Quarter" = some (some (.ref C_Quarter)))
    (pgQuarter : PySem.W.plainGet K C_Quarter Str.empty = true)
    (hdQuarter : PySem.W.hasDictIn K C_Quarter = true)
    (poQuarter : PySem.W.plainOver K C_Quarter = true)
    (saQuarter : PySem.W.findIn K (.ref C_Quarter) "__setattr__" = some (some (.builtin "object.__setattr__")))
    (kcQuarter : PySem.W.keepIn K (.ref C_Quarter) = true)
    (aSixth : PySem.W.nsIn K mainGlobals "Sixth" = some (some (.ref C_Sixth)))
    (pgSixth : PySem.W.plainGet K C_Sixth Str.empty = true)
    (hdSixth : PySem.W.hasDictIn K C_Sixth = true)
    (poSixth : PySem.W.plainOver K C_Sixth = true)
    (saSixth : PySem.W.findIn K (.ref C_Sixth) "__setattr__" = some (some (.builtin "object.__setattr__")))
    (kcSixth : PySem.W.keepIn K (.ref C_Sixth) = true)
    (aTrack : PySem.W.nsIn K mainGlobals "Track" = some (some (.ref C_Track)))
    (pgTrack : PySem.W.plainGet K C_Track Str.empty = true)
    (hdTrack : PySem.W.hasDictIn K C_Track = true)
    (poTrack : PySem.W.plainOver K C_Track = true)
    (saTrack : PySem.W.findIn K (.ref C_Track) "__setattr__" = some (some (.builtin "object.__setattr__")))
    (kcTrack : PySem.W.keepIn K (.ref C_Track) = true)
    (aNoPen : PySem.W.nsIn K mainGlobals "NoPen" = some (some (.ref C_NoPen)))
    (aGrowError : PySem.W.nsIn K mainGlobals "GrowError" = some (some (.ref C_GrowError)))
    (aNoDeed : PySem.W.nsIn K mainGlobals "NoDeed" = some (some (.ref C_NoDeed)))
    (aNoLetter : PySem.W.nsIn K mainGlobals "NoLetter" = some (some (.ref C_NoLetter)))
    (aNoLine : PySem.W.nsIn K mainGlobals "NoLine" = some (some (.ref C_NoLine)))
    (aNoPlace : PySem.W.nsIn K mainGlobals "NoPlace" = some (some (.ref C_NoPlace)))
    (aNoRound : PySem.W.nsIn K mainGlobals "NoRound" = some (some (.ref C_NoRound)))
    (aNoRules : PySem.W.nsIn K mainGlobals "NoRules" = some (some (.ref C_NoRules)))
    (aNoText : PySem.W.nsIn K mainGlobals "NoText" = some (some (.ref C_NoText)))
    (aNoWord : PySem.W.nsIn K mainGlobals "NoWord" = some (some (.ref C_NoWord)))
    (aNothingDone : PySem.W.nsIn K mainGlobals "NothingDone" = some (some (.ref C_NothingDone)))
    (aTooLong : PySem.W.nsIn K mainGlobals "TooLong" = some (some (.ref C_TooLong)))
    (xiNoPen : PySem.W.excIn K C_NoPen Sg.bmV "ValueError.__new__" = true)
    (x1NoPen : (PySem.W.clsIn K C_NoPen).isSome = true)
    (x2NoPen : PySem.W.findIn K (.ref C_NoPen) "__getattribute__" = some (some (.builtin "BaseException.__getattribute__")))
    (x3NoPen : PySem.W.findIn K (.ref C_NoPen) "__getattr__" = some none)
    (x4NoPen : PySem.W.mroIn K C_NoPen (.type "BaseException") = some true)
    (x5NoPen : PySem.W.findIn K (.ref C_NoPen) "__class__" = some (some (.builtin "object.__class__")))
    (x8NoPen : PySem.W.mroIn K C_NoPen (.type "object") = some true)
    (x6NoPen : PySem.W.specialIn K (.builtin "object.__class__") "__get__" = some (some (.builtin "getset_descriptor.__get__")))
    (x7NoPen : PySem.W.takesIn K (.builtin "object.__class__") = some true)
    (xiGrowError : PySem.W.excIn K C_GrowError Sg.bmV "ValueError.__new__" = true)
    (x1GrowError : (PySem.W.clsIn K C_GrowError).isSome = true)
    (x2GrowError : PySem.W.findIn K (.ref C_GrowError) "__getattribute__" = some (some (.builtin "BaseException.__getattribute__")))
    (x3GrowError : PySem.W.findIn K (.ref C_GrowError) "__getattr__" = some none)
    (x4GrowError : PySem.W.mroIn K C_GrowError (.type "BaseException") = some true)
    (x5GrowError : PySem.W.findIn K (.ref C_GrowError) "__class__" = some (some (.builtin "object.__class__")))
    (x8GrowError : PySem.W.mroIn K C_GrowError (.type "object") = some true)
    (x6GrowError : PySem.W.specialIn K (.builtin "object.__class__") "__get__" = some (some (.builtin "getset_descriptor.__get__")))
    (x7GrowError : PySem.W.takesIn K (.builtin "object.__class__") = some true)
    (xiNoDeed : PySem.W.excIn K C_NoDeed Sg.bmV "ValueError.__new__" = true)
    (x1NoDeed : (PySem.W.clsIn K C_NoDeed).isSome = true)
    (x2NoDeed : PySem.W.findIn K (.ref C_NoDeed) "__getattribute__" = some (some (.builtin "BaseException.__getattribute__")))
    (x3NoDeed : PySem.W.findIn K (.ref C_NoDeed) "__getattr__" = some none)
    (x4NoDeed : PySem.W.mroIn K C_NoDeed (.type "BaseException") = some true)
    (x5NoDeed : PySem.W.findIn K (.ref C_NoDeed) "__class__" = some (some (.builtin "object.__class__")))
    (x8NoDeed : PySem.W.mroIn K C_NoDeed (.type "object") = some true)
    (x6NoDeed : PySem.W.specialIn K (.builtin "object.__class__") "__get__" = some (some (.builtin "getset_descriptor.__get__")))
    (x7NoDeed : PySem.W.takesIn K (.builtin "object.__class__") = some true)
    (mkQuarter : PySem.W.makesIn K C_Quarter = true)
    (inQuarter : PySem.W.findIn K (.ref C_Quarter) "__init__" = some (some (.builtin "object.__init__")))
    (mkSixth : PySem.W.makesIn K C_Sixth = true)
    (inSixth : PySem.W.findIn K (.ref C_Sixth) "__init__" = some (some (.builtin "object.__init__")))
    (tyaTrack : PySem.W.findIn K (.ref C_Track) "__class__" = some (some (.builtin "object.__class__")))
    (tybTrack : PySem.W.specialIn K (.builtin "object.__class__") "__get__" = some (some (.builtin "getset_descriptor.__get__")))
    (tycTrack : PySem.W.takesIn K (.builtin "object.__class__") = some true)
    (tydTrack : PySem.W.mroIn K C_Track (.type "object") = some true)
    (mkTrack : PySem.W.makesIn K C_Track = true)
    (inTrack : PySem.W.findIn K (.ref C_Track) "__init__" = some (some (.ref f_Track_init)))
    (fiTrack : PySem.W.isFn K (.ref f_Track_init) = true)
    (na_Track_drawer : PySem.W.findIn K (.ref C_Track) "drawer" = some none)
    (na_Track_deed_count : PySem.W.findIn K (.ref C_Track) "deed_count" = some none)
    (na_Track_last_way : PySem.W.findIn K (.ref C_Track) "last_way" = some none)
    (na_Track_last_spot : PySem.W.findIn K (.ref C_Track) "last_spot" = some none)
    (na_Track_stroke_count : PySem.W.findIn K (.ref C_Track) "stroke_count" = some none)
    (na_Track_reaches : PySem.W.findIn K (.ref C_Track) "reaches" = some none)
    (na_Track_touches : PySem.W.findIn K (.ref C_Track) "touches" = some none)
    (na_Track_crosses : PySem.W.findIn K (.ref C_Track) "crosses" = some none)
    (ag_DEEDS : PySem.W.nsIn K mainGlobals "DEEDS" = some (some (.ref D_DEEDS)))
    (lg_DEEDS : K.lookup D_DEEDS = some ⟨.type "tuple", oT_DEEDS, .seq #[.str "stroke" k0_DEEDS, .str "step" k1_DEEDS, .str "left" k2_DEEDS, .str "right" k3_DEEDS, .str "rest" k4_DEEDS] nT_DEEDS, sT_DEEDS⟩)
    (ag_GOING_DEEDS : PySem.W.nsIn K mainGlobals "GOING_DEEDS" = some (some (.ref D_GOING_DEEDS)))
    (lg_GOING_DEEDS : K.lookup D_GOING_DEEDS = some ⟨.type "tuple", oT_GOING_DEEDS, .seq #[.str "stroke" k0_GOING_DEEDS, .str "step" k1_GOING_DEEDS] nT_GOING_DEEDS, sT_GOING_DEEDS⟩)
    (a_added : PySem.W.nsIn K mainGlobals "added" = some (some (.ref f_added)))
    (l_added : K.lookup f_added = some ⟨oc_added, od_added, .func (PySem.W.fnOf "added" "added" (defArgs s_added) (defBody s_added) (defScope s_added) .none kV_added dc_added pm_added an_added cd_added ct_added), sl_added⟩)
    (c_added : PySem.W.codeIn K cd_added "added" = true)
    (k_added : PySem.W.keepIn K (.ref f_added) = true)
    (a_cross : PySem.W.nsIn K mainGlobals "cross" = some (some (.ref f_cross)))
    (l_cross : K.lookup f_cross = some ⟨oc_cross, od_cross, .func (PySem.W.fnOf "cross" "cross" (defArgs s_cross) (defBody s_cross) (defScope s_cross) .none kV_cross dc_cross pm_cross an_cross cd_cross ct_cross), sl_cross⟩)
    (c_cross : PySem.W.codeIn K cd_cross "cross" = true)
    (k_cross : PySem.W.keepIn K (.ref f_cross) = true)
    (a_turn_of_deed : PySem.W.nsIn K mainGlobals "turn_of_deed" = some (some (.ref f_turn_of_deed)))
    (l_turn_of_deed : K.lookup f_turn_of_deed = some ⟨oc_turn_of_deed, od_turn_of_deed, .func (PySem.W.fnOf "turn_of_deed" "turn_of_deed" (defArgs s_turn_of_deed) (defBody s_turn_of_deed) (defScope s_turn_of_deed) .none kV_turn_of_deed dc_turn_of_deed pm_turn_of_deed an_turn_of_deed cd_turn_of_deed ct_turn_of_deed), sl_turn_of_deed⟩)
    (c_turn_of_deed : PySem.W.codeIn K cd_turn_of_deed "turn_of_deed" = true)
    (k_turn_of_deed : PySem.W.keepIn K (.ref f_turn_of_deed) = true)
    (a_Pen_way_of_Quarter : PySem.W.findIn K (.ref C_Quarter) "way_of" = some (some (.ref f_Pen_way_of)))
    (i_Pen_way_of_Quarter : PySem.W.isFn K (.ref f_Pen_way_of) = true)
    (a_Pen_way_of_Sixth : PySem.W.findIn K (.ref C_Sixth) "way_of" = some (some (.ref f_Pen_way_of)))
    (i_Pen_way_of_Sixth : PySem.W.isFn K (.ref f_Pen_way_of) = true)
    (l_Pen_way_of : K.lookup f_Pen_way_of = some ⟨oc_Pen_way_of, od_Pen_way_of, .func (PySem.W.fnOf "way_of" "Pen.way_of" (defArgs s_Pen_way_of) (defBody s_Pen_way_of) (defScope s_Pen_way_of) .none kV_Pen_way_of dc_Pen_way_of pm_Pen_way_of an_Pen_way_of cd_Pen_way_of ct_Pen_way_of), sl_Pen_way_of⟩)
    (c_Pen_way_of : PySem.W.codeIn K cd_Pen_way_of "Pen.way_of" = true)
    (k_Pen_way_of : PySem.W.keepIn K (.ref f_Pen_way_of) = true)
    (a_Pen_turned_Quarter : PySem.W.findIn K (.ref C_Quarter) "turned" = some (some (.ref f_Pen_turned)))
    (i_Pen_turned_Quarter : PySem.W.isFn K (.ref f_Pen_turned) = true)
    (a_Pen_turned_Sixth : PySem.W.findIn K (.ref C_Sixth) "turned" = some (some (.ref f_Pen_turned)))
    (i_Pen_turned_Sixth : PySem.W.isFn K (.ref f_Pen_turned) = true)
    (l_Pen_turned : K.lookup f_Pen_turned = some ⟨oc_Pen_turned, od_Pen_turned, .func (PySem.W.fnOf "turned" "Pen.turned" (defArgs s_Pen_turned) (defBody s_Pen_turned) (defScope s_Pen_turned) .none kV_Pen_turned dc_Pen_turned pm_Pen_turned an_Pen_turned cd_Pen_turned ct_Pen_turned), sl_Pen_turned⟩)
    (c_Pen_turned : PySem.W.codeIn K cd_Pen_turned "Pen.turned" = true)
    (k_Pen_turned : PySem.W.keepIn K (.ref f_Pen_turned) = true)
    (a_Pen_step_Quarter : PySem.W.findIn K (.ref C_Quarter) "step" = some (some (.ref f_Pen_step)))
    (i_Pen_step_Quarter : PySem.W.isFn K (.ref f_Pen_step) = true)
    (a_Pen_step_Sixth : PySem.W.findIn K (.ref C_Sixth) "step" = some (some (.ref f_Pen_step)))
    (i_Pen_step_Sixth : PySem.W.isFn K (.ref f_Pen_step) = true)
    (l_Pen_step : K.lookup f_Pen_step = some ⟨oc_Pen_step, od_Pen_step, .func (PySem.W.fnOf "step" "Pen.step" (defArgs s_Pen_step) (defBody s_Pen_step) (defScope s_Pen_step) .none kV_Pen_step dc_Pen_step pm_Pen_step an_Pen_step cd_Pen_step ct_Pen_step), sl_Pen_step⟩)
    (c_Pen_step : PySem.W.codeIn K cd_Pen_step "Pen.step" = true)
    (k_Pen_step : PySem.W.keepIn K (.ref f_Pen_step) = true)
    (a_Pen_after_Quarter : PySem.W.findIn K (.ref C_Quarter) "after" = some (some (.ref f_Pen_after)))
    (i_Pen_after_Quarter : PySem.W.isFn K (.ref f_Pen_after) = true)
    (a_Pen_after_Sixth : PySem.W.findIn K (.ref C_Sixth) "after" = some (some (.ref f_Pen_after)))
    (i_Pen_after_Sixth : PySem.W.isFn K (.ref f_Pen_after) = true)
    (l_Pen_after : K.lookup f_Pen_after = some ⟨oc_Pen_after, od_Pen_after, .func (PySem.W.fnOf "after" "Pen.after" (defArgs s_Pen_after) (defBody s_Pen_after) (defScope s_Pen_after) .none kV_Pen_after dc_Pen_after pm_Pen_after an_Pen_after cd_Pen_after ct_Pen_after), sl_Pen_after⟩)
    (c_Pen_after : PySem.W.codeIn K cd_Pen_after "Pen.after" = true)
    (k_Pen_after : PySem.W.keepIn K (.ref f_Pen_after) = true)
    (a_Quarter_ways_Quarter : PySem.W.findIn K (.ref C_Quarter) "ways" = some (some (.ref f_Quarter_ways)))
    (i_Quarter_ways_Quarter : PySem.W.isFn K (.ref f_Quarter_ways) = true)
    (l_Quarter_ways : K.lookup f_Quarter_ways = some ⟨oc_Quarter_ways, od_Quarter_ways, .func (PySem.W.fnOf "ways" "Quarter.ways" (defArgs s_Quarter_ways) (defBody s_Quarter_ways) (defScope s_Quarter_ways) .none kV_Quarter_ways dc_Quarter_ways pm_Quarter_ways an_Quarter_ways cd_Quarter_ways ct_Quarter_ways), sl_Quarter_ways⟩)
    (c_Quarter_ways : PySem.W.codeIn K cd_Quarter_ways "Quarter.ways" = true)
    (k_Quarter_ways : PySem.W.keepIn K (.ref f_Quarter_ways) = true)
    (a_Quarter_turned_left_Quarter : PySem.W.findIn K (.ref C_Quarter) "turned_left" = some (some (.ref f_Quarter_turned_left)))
    (i_Quarter_turned_left_Quarter : PySem.W.isFn K (.ref f_Quarter_turned_left) = true)
    (l_Quarter_turned_left : K.lookup f_Quarter_turned_left = some ⟨oc_Quarter_turned_left, od_Quarter_turned_left, .func (PySem.W.fnOf "turned_left" "Quarter.turned_left" (defArgs s_Quarter_turned_left) (defBody s_Quarter_turned_left) (defScope s_Quarter_turned_left) .none kV_Quarter_turned_left dc_Quarter_turned_left pm_Quarter_turned_left an_Quarter_turned_left cd_Quarter_turned_left ct_Quarter_turned_left), sl_Quarter_turned_left⟩)
    (c_Quarter_turned_left : PySem.W.codeIn K cd_Quarter_turned_left "Quarter.turned_left" = true)
    (k_Quarter_turned_left : PySem.W.keepIn K (.ref f_Quarter_turned_left) = true)
    (a_Quarter_along_Quarter : PySem.W.findIn K (.ref C_Quarter) "along" = some (some (.ref f_Quarter_along)))
    (i_Quarter_along_Quarter : PySem.W.isFn K (.ref f_Quarter_along) = true)
    (l_Quarter_along : K.lookup f_Quarter_along = some ⟨oc_Quarter_along, od_Quarter_along, .func (PySem.W.fnOf "along" "Quarter.along" (defArgs s_Quarter_along) (defBody s_Quarter_along) (defScope s_Quarter_along) .none kV_Quarter_along dc_Quarter_along pm_Quarter_along an_Quarter_along cd_Quarter_along ct_Quarter_along), sl_Quarter_along⟩)
    (c_Quarter_along : PySem.W.codeIn K cd_Quarter_along "Quarter.along" = true)
    (k_Quarter_along : PySem.W.keepIn K (.ref f_Quarter_along) = true)
    (a_Sixth_ways_Sixth : PySem.W.findIn K (.ref C_Sixth) "ways" = some (some (.ref f_Sixth_ways)))
    (i_Sixth_ways_Sixth : PySem.W.isFn K (.ref f_Sixth_ways) = true)
    (l_Sixth_ways : K.lookup f_Sixth_ways = some ⟨oc_Sixth_ways, od_Sixth_ways, .func (PySem.W.fnOf "ways" "Sixth.ways" (defArgs s_Sixth_ways) (defBody s_Sixth_ways) (defScope s_Sixth_ways) .none kV_Sixth_ways dc_Sixth_ways pm_Sixth_ways an_Sixth_ways cd_Sixth_ways ct_Sixth_ways), sl_Sixth_ways⟩)
    (c_Sixth_ways : PySem.W.codeIn K cd_Sixth_ways "Sixth.ways" = true)
    (k_Sixth_ways : PySem.W.keepIn K (.ref f_Sixth_ways) = true)
    (a_Sixth_turned_left_Sixth : PySem.W.findIn K (.ref C_Sixth) "turned_left" = some (some (.ref f_Sixth_turned_left)))
    (i_Sixth_turned_left_Sixth : PySem.W.isFn K (.ref f_Sixth_turned_left) = true)
    (l_Sixth_turned_left : K.lookup f_Sixth_turned_left = some ⟨oc_Sixth_turned_left, od_Sixth_turned_left, .func (PySem.W.fnOf "turned_left" "Sixth.turned_left" (defArgs s_Sixth_turned_left) (defBody s_Sixth_turned_left) (defScope s_Sixth_turned_left) .none kV_Sixth_turned_left dc_Sixth_turned_left pm_Sixth_turned_left an_Sixth_turned_left cd_Sixth_turned_left ct_Sixth_turned_left), sl_Sixth_turned_left⟩)
    (c_Sixth_turned_left : PySem.W.codeIn K cd_Sixth_turned_left "Sixth.turned_left" = true)
    (k_Sixth_turned_left : PySem.W.keepIn K (.ref f_Sixth_turned_left) = true)
    (a_Sixth_along_Sixth : PySem.W.findIn K (.ref C_Sixth) "along" = some (some (.ref f_Sixth_along)))
    (i_Sixth_along_Sixth : PySem.W.isFn K (.ref f_Sixth_along) = true)
    (l_Sixth_along : K.lookup f_Sixth_along = some ⟨oc_Sixth_along, od_Sixth_along, .func (PySem.W.fnOf "along" "Sixth.along" (defArgs s_Sixth_along) (defBody s_Sixth_along) (defScope s_Sixth_along) .none kV_Sixth_along dc_Sixth_along pm_Sixth_along an_Sixth_along cd_Sixth_along ct_Sixth_along), sl_Sixth_along⟩)
    (c_Sixth_along : PySem.W.codeIn K cd_Sixth_along "Sixth.along" = true)
    (k_Sixth_along : PySem.W.keepIn K (.ref f_Sixth_along) = true)
    (a_pen_of : PySem.W.nsIn K mainGlobals "pen_of" = some (some (.ref f_pen_of)))
    (l_pen_of : K.lookup f_pen_of = some ⟨oc_pen_of, od_pen_of, .func (PySem.W.fnOf "pen_of" "pen_of" (defArgs s_pen_of) (defBody s_pen_of) (defScope s_pen_of) .none kV_pen_of dc_pen_of pm_pen_of an_pen_of cd_pen_of ct_pen_of), sl_pen_of⟩)
    (c_pen_of : PySem.W.codeIn K cd_pen_of "pen_of" = true)
    (k_pen_of : PySem.W.keepIn K (.ref f_pen_of) = true)
    (l_Track_init : K.lookup f_Track_init = some ⟨oc_Track_init, od_Track_init, .func (PySem.W.fnOf "__init__" "Track.__init__" (defArgs s_Track_init) (defBody s_Track_init) (defScope s_Track_init) .none kV_Track_init dc_Track_init pm_Track_init an_Track_init cd_Track_init ct_Track_init), sl_Track_init⟩)
    (c_Track_init : PySem.W.codeIn K cd_Track_init "Track.__init__" = true)
    (k_Track_init : PySem.W.keepIn K (.ref f_Track_init) = true)
    (a_Track_many_Track : PySem.W.findIn K (.ref C_Track) "many" = some (some (.ref f_Track_many)))
    (i_Track_many_Track : PySem.W.isFn K (.ref f_Track_many) = true)
    (l_Track_many : K.lookup f_Track_many = some ⟨oc_Track_many, od_Track_many, .func (PySem.W.fnOf "many" "Track.many" (defArgs s_Track_many) (defBody s_Track_many) (defScope s_Track_many) .none kV_Track_many dc_Track_many pm_Track_many an_Track_many cd_Track_many ct_Track_many), sl_Track_many⟩)
    (c_Track_many : PySem.W.codeIn K cd_Track_many "Track.many" = true)
    (k_Track_many : PySem.W.keepIn K (.ref f_Track_many) = true)
    (a_Track_turn_Track : PySem.W.findIn K (.ref C_Track) "turn" = some (some (.ref f_Track_turn)))
    (i_Track_turn_Track : PySem.W.isFn K (.ref f_Track_turn) = true)
    (l_Track_turn : K.lookup f_Track_turn = some ⟨oc_Track_turn, od_Track_turn, .func (PySem.W.fnOf "turn" "Track.turn" (defArgs s_Track_turn) (defBody s_Track_turn) (defScope s_Track_turn) .none kV_Track_turn dc_Track_turn pm_Track_turn an_Track_turn cd_Track_turn ct_Track_turn), sl_Track_turn⟩)
    (c_Track_turn : PySem.W.codeIn K cd_Track_turn "Track.turn" = true)
    (k_Track_turn : PySem.W.keepIn K (.ref f_Track_turn) = true)
    (a_Track_strokes_Track : PySem.W.findIn K (.ref C_Track) "strokes" = some (some (.ref f_Track_strokes)))
    (i_Track_strokes_Track : PySem.W.isFn K (.ref f_Track_strokes) = true)
    (l_Track_strokes : K.lookup f_Track_strokes = some ⟨oc_Track_strokes, od_Track_strokes, .func (PySem.W.fnOf "strokes" "Track.strokes" (defArgs s_Track_strokes) (defBody s_Track_strokes) (defScope s_Track_strokes) .none kV_Track_strokes dc_Track_strokes pm_Track_strokes an_Track_strokes cd_Track_strokes ct_Track_strokes), sl_Track_strokes⟩)
    (c_Track_strokes : PySem.W.codeIn K cd_Track_strokes "Track.strokes" = true)
    (k_Track_strokes : PySem.W.keepIn K (.ref f_Track_strokes) = true)
    (a_Track_shift_Track : PySem.W.findIn K (.ref C_Track) "shift" = some (some (.ref f_Track_shift)))
    (i_Track_shift_Track : PySem.W.isFn K (.ref f_Track_shift) = true)
    (l_Track_shift : K.lookup f_Track_shift = some ⟨oc_Track_shift, od_Track_shift, .func (PySem.W.fnOf "shift" "Track.shift" (defArgs s_Track_shift) (defBody s_Track_shift) (defScope s_Track_shift) (.ref T_Track_shift) kV_Track_shift dc_Track_shift pm_Track_shift an_Track_shift cd_Track_shift ct_Track_shift), sl_Track_shift⟩)
    (lT_Track_shift : K.lookup T_Track_shift = some ⟨cT_Track_shift, oT_Track_shift, .seq #[.int 0 t_Track_shift] nT_Track_shift, sT_Track_shift⟩)
    (c_Track_shift : PySem.W.codeIn K cd_Track_shift "Track.shift" = true)
    (k_Track_shift : PySem.W.keepIn K (.ref f_Track_shift) = true)
    (a_Track_by_ways_Track : PySem.W.findIn K (.ref C_Track) "by_ways" = some (some (.ref f_Track_by_ways)))
    (i_Track_by_ways_Track : PySem.W.isFn K (.ref f_Track_by_ways) = true)
    (l_Track_by_ways : K.lookup f_Track_by_ways = some ⟨oc_Track_by_ways, od_Track_by_ways, .func (PySem.W.fnOf "by_ways" "Track.by_ways" (defArgs s_Track_by_ways) (defBody s_Track_by_ways) (defScope s_Track_by_ways) .none kV_Track_by_ways dc_Track_by_ways pm_Track_by_ways an_Track_by_ways cd_Track_by_ways ct_Track_by_ways), sl_Track_by_ways⟩)
    (c_Track_by_ways : PySem.W.codeIn K cd_Track_by_ways "Track.by_ways" = true)
    (k_Track_by_ways : PySem.W.keepIn K (.ref f_Track_by_ways) = true)
    (a_Track_reach_Track : PySem.W.findIn K (.ref C_Track) "reach" = some (some (.ref f_Track_reach)))
    (i_Track_reach_Track : PySem.W.isFn K (.ref f_Track_reach) = true)
    (l_Track_reach : K.lookup f_Track_reach = some ⟨oc_Track_reach, od_Track_reach, .func (PySem.W.fnOf "reach" "Track.reach" (defArgs s_Track_reach) (defBody s_Track_reach) (defScope s_Track_reach) (.ref T_Track_reach) kV_Track_reach dc_Track_reach pm_Track_reach an_Track_reach cd_Track_reach ct_Track_reach), sl_Track_reach⟩)
    (lT_Track_reach : K.lookup T_Track_reach = some ⟨cT_Track_reach, oT_Track_reach, .seq #[.int 0 t_Track_reach] nT_Track_reach, sT_Track_reach⟩)
    (c_Track_reach : PySem.W.codeIn K cd_Track_reach "Track.reach" = true)
    (k_Track_reach : PySem.W.keepIn K (.ref f_Track_reach) = true)
    (a_Track_touch_Track : PySem.W.findIn K (.ref C_Track) "touch" = some (some (.ref f_Track_touch)))
    (i_Track_touch_Track : PySem.W.isFn K (.ref f_Track_touch) = true)
    (l_Track_touch : K.lookup f_Track_touch = some ⟨oc_Track_touch, od_Track_touch, .func (PySem.W.fnOf "touch" "Track.touch" (defArgs s_Track_touch) (defBody s_Track_touch) (defScope s_Track_touch) (.ref T_Track_touch) kV_Track_touch dc_Track_touch pm_Track_touch an_Track_touch cd_Track_touch ct_Track_touch), sl_Track_touch⟩)
    (lT_Track_touch : K.lookup T_Track_touch = some ⟨cT_Track_touch, oT_Track_touch, .seq #[.int 0 t_Track_touch] nT_Track_touch, sT_Track_touch⟩)
    (c_Track_touch : PySem.W.codeIn K cd_Track_touch "Track.touch" = true)
    (k_Track_touch : PySem.W.keepIn K (.ref f_Track_touch) = true)
    (a_Track_area_Track : PySem.W.findIn K (.ref C_Track) "area" = some (some (.ref f_Track_area)))
    (i_Track_area_Track : PySem.W.isFn K (.ref f_Track_area) = true)
    (l_Track_area : K.lookup f_Track_area = some ⟨oc_Track_area, od_Track_area, .func (PySem.W.fnOf "area" "Track.area" (defArgs s_Track_area) (defBody s_Track_area) (defScope s_Track_area) .none kV_Track_area dc_Track_area pm_Track_area an_Track_area cd_Track_area ct_Track_area), sl_Track_area⟩)
    (c_Track_area : PySem.W.codeIn K cd_Track_area "Track.area" = true)
    (k_Track_area : PySem.W.keepIn K (.ref f_Track_area) = true)
    (a_Track_joined_Track : PySem.W.findIn K (.ref C_Track) "joined" = some (some (.ref f_Track_joined)))
    (i_Track_joined_Track : PySem.W.isFn K (.ref f_Track_joined) = true)
    (l_Track_joined : K.lookup f_Track_joined = some ⟨oc_Track_joined, od_Track_joined, .func (PySem.W.fnOf "joined" "Track.joined" (defArgs s_Track_joined) (defBody s_Track_joined) (defScope s_Track_joined) .none kV_Track_joined dc_Track_joined pm_Track_joined an_Track_joined cd_Track_joined ct_Track_joined), sl_Track_joined⟩)
    (c_Track_joined : PySem.W.codeIn K cd_Track_joined "Track.joined" = true)
    (k_Track_joined : PySem.W.keepIn K (.ref f_Track_joined) = true)
    (a_Track_told_Track : PySem.W.findIn K (.ref C_Track) "told" = some (some (.ref f_Track_told)))
    (i_Track_told_Track : PySem.W.isFn K (.ref f_Track_told) = true)
    (l_Track_told : K.lookup f_Track_told = some ⟨oc_Track_told, od_Track_told, .func (PySem.W.fnOf "told" "Track.told" (defArgs s_Track_told) (defBody s_Track_told) (defScope s_Track_told) .none kV_Track_told dc_Track_told pm_Track_told an_Track_told cd_Track_told ct_Track_told), sl_Track_told⟩)
    (c_Track_told : PySem.W.codeIn K cd_Track_told "Track.told" = true)
    (k_Track_told : PySem.W.keepIn K (.ref f_Track_told) = true)
    (a_still : PySem.W.nsIn K mainGlobals "still" = some (some (.ref f_still)))
    (l_still : K.lookup f_still = some ⟨oc_still, od_still, .func (PySem.W.fnOf "still" "still" (defArgs s_still) (defBody s_still) (defScope s_still) .none kV_still dc_still pm_still an_still cd_still ct_still), sl_still⟩)
    (c_still : PySem.W.codeIn K cd_still "still" = true)
    (k_still : PySem.W.keepIn K (.ref f_still) = true)
    (a_track_of_deed : PySem.W.nsIn K mainGlobals "track_of_deed" = some (some (.ref f_track_of_deed)))
    (l_track_of_deed : K.lookup f_track_of_deed = some ⟨oc_track_of_deed, od_track_of_deed, .func (PySem.W.fnOf "track_of_deed" "track_of_deed" (defArgs s_track_of_deed) (defBody s_track_of_deed) (defScope s_track_of_deed) .none kV_track_of_deed dc_track_of_deed pm_track_of_deed an_track_of_deed cd_track_of_deed ct_track_of_deed), sl_track_of_deed⟩)
    (c_track_of_deed : PySem.W.codeIn K cd_track_of_deed "track_of_deed" = true)
    (k_track_of_deed : PySem.W.keepIn K (.ref f_track_of_deed) = true)
    (a_track_of : PySem.W.nsIn K mainGlobals "track_of" = some (some (.ref f_track_of)))
    (l_track_of : K.lookup f_track_of = some ⟨oc_track_of, od_track_of, .func (PySem.W.fnOf "track_of" "track_of" (defArgs s_track_of) (defBody s_track_of) (defScope s_track_of) .none kV_track_of dc_track_of pm_track_of an_track_of cd_track_of ct_track_of), sl_track_of⟩)
    (c_track_of : PySem.W.codeIn K cd_track_of "track_of" = true)
    (k_track_of : PySem.W.keepIn K (.ref f_track_of) = true)
    (a_cell_at : PySem.W.nsIn K mainGlobals "_law_cell_at" = some (some (.ref f_cell_at)))
    (l_cell_at : K.lookup f_cell_at = some ⟨oc_cell_at, od_cell_at, .func (PySem.W.fnOf "_law_cell_at" "_law_cell_at" (defArgs s_cell_at) (defBody s_cell_at) (defScope s_cell_at) .none kV_cell_at dc_cell_at pm_cell_at an_cell_at cd_cell_at ct_cell_at), sl_cell_at⟩)
    (c_cell_at : PySem.W.codeIn K cd_cell_at "_law_cell_at" = true)
    (k_cell_at : PySem.W.keepIn K (.ref f_cell_at) = true)
    (a_cells : PySem.W.nsIn K mainGlobals "_law_cells" = some (some (.ref f_cells)))
    (l_cells : K.lookup f_cells = some ⟨oc_cells, od_cells, .func (PySem.W.fnOf "_law_cells" "_law_cells" (defArgs s_cells) (defBody s_cells) (defScope s_cells) .none kV_cells dc_cells pm_cells an_cells cd_cells ct_cells), sl_cells⟩)
    (c_cells : PySem.W.codeIn K cd_cells "_law_cells" = true)
    (k_cells : PySem.W.keepIn K (.ref f_cells) = true)
    (a_pick : PySem.W.nsIn K mainGlobals "_law_pick" = some (some (.ref f_pick)))
    (l_pick : K.lookup f_pick = some ⟨oc_pick, od_pick, .func (PySem.W.fnOf "_law_pick" "_law_pick" (defArgs s_pick) (defBody s_pick) (defScope s_pick) .none kV_pick dc_pick pm_pick an_pick cd_pick ct_pick), sl_pick⟩)
    (c_pick : PySem.W.codeIn K cd_pick "_law_pick" = true)
    (k_pick : PySem.W.keepIn K (.ref f_pick) = true)
    (a_deeds : PySem.W.nsIn K mainGlobals "_law_deeds" = some (some (.ref f_deeds)))
    (l_deeds : K.lookup f_deeds = some ⟨oc_deeds, od_deeds, .func (PySem.W.fnOf "_law_deeds" "_law_deeds" (defArgs s_deeds) (defBody s_deeds) (defScope s_deeds) .none kV_deeds dc_deeds pm_deeds an_deeds cd_deeds ct_deeds), sl_deeds⟩)
    (c_deeds : PySem.W.codeIn K cd_deeds "_law_deeds" = true)
    (k_deeds : PySem.W.keepIn K (.ref f_deeds) = true)
    (a_another : PySem.W.nsIn K mainGlobals "_law_another" = some (some (.ref f_another)))
    (l_another : K.lookup f_another = some ⟨oc_another, od_another, .func (PySem.W.fnOf "_law_another" "_law_another" (defArgs s_another) (defBody s_another) (defScope s_another) .none kV_another dc_another pm_another an_another cd_another ct_another), sl_another⟩)
    (c_another : PySem.W.codeIn K cd_another "_law_another" = true)
    (k_another : PySem.W.keepIn K (.ref f_another) = true)
    (a_refused : PySem.W.nsIn K mainGlobals "_law_refused" = some (some (.ref f_refused)))
    (l_refused : K.lookup f_refused = some ⟨oc_refused, od_refused, .func (PySem.W.fnOf "_law_refused" "_law_refused" (defArgs s_refused) (defBody s_refused) (defScope s_refused) .none kV_refused dc_refused pm_refused an_refused cd_refused ct_refused), sl_refused⟩)
    (c_refused : PySem.W.codeIn K cd_refused "_law_refused" = true)
    (k_refused : PySem.W.keepIn K (.ref f_refused) = true)
    (a_other : PySem.W.nsIn K mainGlobals "_law_other" = some (some (.ref f_other)))
    (l_other : K.lookup f_other = some ⟨oc_other, od_other, .func (PySem.W.fnOf "_law_other" "_law_other" (defArgs s_other) (defBody s_other) (defScope s_other) .none kV_other dc_other pm_other an_other cd_other ct_other), sl_other⟩)
    (c_other : PySem.W.codeIn K cd_other "_law_other" = true)
    (k_other : PySem.W.keepIn K (.ref f_other) = true)
    (a_law : PySem.W.nsIn K mainGlobals "law" = some (some (.ref f_law)))
    (l_law : K.lookup f_law = some ⟨oc_law, od_law, .func (PySem.W.fnOf "law" "law" (defArgs s_law) (defBody s_law) (defScope s_law) .none kV_law dc_law pm_law an_law cd_law ct_law), sl_law⟩)
    (c_law : PySem.W.codeIn K cd_law "law" = true)
    (k_law : PySem.W.keepIn K (.ref f_law) = true)
    (z_range : PySem.W.nsIn K mainGlobals "range" = some none)
    (z_len : PySem.W.nsIn K mainGlobals "len" = some none)
    (z_isinstance : PySem.W.nsIn K mainGlobals "isinstance" = some none)
    (z_int : PySem.W.nsIn K mainGlobals "int" = some none)
    (z_bool : PySem.W.nsIn K mainGlobals "bool" = some none)
    (z_list : PySem.W.nsIn K mainGlobals "list" = some none)
    (z_max : PySem.W.nsIn K mainGlobals "max" = some none)
    (z_min : PySem.W.nsIn K mainGlobals "min" = some none)
    (z_tuple : PySem.W.nsIn K mainGlobals "tuple" = some none)
    (z_ValueError : PySem.W.nsIn K mainGlobals "ValueError" = some none)
    (x_su : PySem.W.mroIn K C_NoDeed (.ref C_NoDeed) = some true)
    (x_i1 : PySem.W.kitOne K (.ref C_NoDeed) (.ref C_GrowError) = some true)
    (x_i2 : PySem.W.kitOne K (.ref C_NoDeed) (.type "ValueError") = some true)
    (x_y1 : PySem.W.kitAny K (.ref C_NoDeed) [.ref C_NoLetter, .ref C_NoLine, .ref C_NoPen, .ref C_NoPlace, .ref C_NoRound] = some false)
    (x_y2 : PySem.W.kitAny K (.ref C_NoDeed) [.ref C_NoRules, .ref C_NoText, .ref C_NoWord, .ref C_NothingDone, .ref C_TooLong] = some false)
    : ∃ t, Txt K mg t ∧ t.f_law = f_law := by
  refine ⟨⟨f_added, PySem.W.fnOf "added" "added" (defArgs s_added) (defBody s_added) (defScope s_added) .none kV_added dc_added pm_added an_added cd_added ct_added, f_cross, PySem.W.fnOf "cross" "cross" (defArgs s_cross) (defBody s_cross) (defScope s_cross) .none kV_cross dc_cross pm_cross an_cross cd_cross ct_cross, f_turn_of_deed, PySem.W.fnOf "turn_of_deed" "turn_of_deed" (defArgs s_turn_of_deed) (defBody s_turn_of_deed) (defScope s_turn_of_deed) .none kV_turn_of_deed dc_turn_of_deed pm_turn_of_deed an_turn_of_deed cd_turn_of_deed ct_turn_of_deed, f_Pen_way_of, PySem.W.fnOf "way_of" "Pen.way_of" (defArgs s_Pen_way_of) (defBody s_Pen_way_of) (defScope s_Pen_way_of) .none kV_Pen_way_of dc_Pen_way_of pm_Pen_way_of an_Pen_way_of cd_Pen_way_of ct_Pen_way_of, f_Pen_turned, PySem.W.fnOf "turned" "Pen.turned" (defArgs s_Pen_turned) (defBody s_Pen_turned) (defScope s_Pen_turned) .none kV_Pen_turned dc_Pen_turned pm_Pen_turned an_Pen_turned cd_Pen_turned ct_Pen_turned, f_Pen_step, PySem.W.fnOf "step" "Pen.step" (defArgs s_Pen_step) (defBody s_Pen_step) (defScope s_Pen_step) .none kV_Pen_step dc_Pen_step pm_Pen_step an_Pen_step cd_Pen_step ct_Pen_step, f_Pen_after, PySem.W.fnOf "after" "Pen.after" (defArgs s_Pen_after) (defBody s_Pen_after) (defScope s_Pen_after) .none kV_Pen_after dc_Pen_after pm_Pen_after an_Pen_after cd_Pen_after ct_Pen_after, f_Quarter_ways, PySem.W.fnOf "ways" "Quarter.ways" (defArgs s_Quarter_ways) (defBody s_Quarter_ways) (defScope s_Quarter_ways) .none kV_Quarter_ways dc_Quarter_ways pm_Quarter_ways an_Quarter_ways cd_Quarter_ways ct_Quarter_ways, f_Quarter_turned_left, PySem.W.fnOf "turned_left" "Quarter.turned_left" (defArgs s_Quarter_turned_left) (defBody s_Quarter_turned_left) (defScope s_Quarter_turned_left) .none kV_Quarter_turned_left dc_Quarter_turned_left pm_Quarter_turned_left an_Quarter_turned_left cd_Quarter_turned_left ct_Quarter_turned_left, f_Quarter_along, PySem.W.fnOf "along" "Quarter.along" (defArgs s_Quarter_along) (defBody s_Quarter_along) (defScope s_Quarter_along) .none kV_Quarter_along dc_Quarter_along pm_Quarter_along an_Quarter_along cd_Quarter_along ct_Quarter_along, f_Sixth_ways, PySem.W.fnOf "ways" "Sixth.ways" (defArgs s_Sixth_ways) (defBody s_Sixth_ways) (defScope s_Sixth_ways) .none kV_Sixth_ways dc_Sixth_ways pm_Sixth_ways an_Sixth_ways cd_Sixth_ways ct_Sixth_ways, f_Sixth_turned_left, PySem.W.fnOf "turned_left" "Sixth.turned_left" (defArgs s_Sixth_turned_left) (defBody s_Sixth_turned_left) (defScope s_Sixth_turned_left) .none kV_Sixth_turned_left dc_Sixth_turned_left pm_Sixth_turned_left an_Sixth_turned_left cd_Sixth_turned_left ct_Sixth_turned_left, f_Sixth_along, PySem.W.fnOf "along" "Sixth.along" (defArgs s_Sixth_along) (defBody s_Sixth_along) (defScope s_Sixth_along) .none kV_Sixth_along dc_Sixth_along pm_Sixth_along an_Sixth_along cd_Sixth_along ct_Sixth_along, f_pen_of, PySem.W.fnOf "pen_of" "pen_of" (defArgs s_pen_of) (defBody s_pen_of) (defScope s_pen_of) .none kV_pen_of dc_pen_of pm_pen_of an_pen_of cd_pen_of ct_pen_of, f_Track_init, PySem.W.fnOf "__init__" "Track.__init__" (defArgs s_Track_init) (defBody s_Track_init) (defScope s_Track_init) .none kV_Track_init dc_Track_init pm_Track_init an_Track_init cd_Track_init ct_Track_init, f_Track_many, PySem.W.fnOf "many" "Track.many" (defArgs s_Track_many) (defBody s_Track_many) (defScope s_Track_many) .none kV_Track_many dc_Track_many pm_Track_many an_Track_many cd_Track_many ct_Track_many, f_Track_turn, PySem.W.fnOf "turn" "Track.turn" (defArgs s_Track_turn) (defBody s_Track_turn) (defScope s_Track_turn) .none kV_Track_turn dc_Track_turn pm_Track_turn an_Track_turn cd_Track_turn ct_Track_turn, f_Track_strokes, PySem.W.fnOf "strokes" "Track.strokes" (defArgs s_Track_strokes) (defBody s_Track_strokes) (defScope s_Track_strokes) .none kV_Track_strokes dc_Track_strokes pm_Track_strokes an_Track_strokes cd_Track_strokes ct_Track_strokes, f_Track_shift, PySem.W.fnOf "shift" "Track.shift" (defArgs s_Track_shift) (defBody s_Track_shift) (defScope s_Track_shift) (.ref T_Track_shift) kV_Track_shift dc_Track_shift pm_Track_shift an_Track_shift cd_Track_shift ct_Track_shift, f_Track_by_ways, PySem.W.fnOf "by_ways" "Track.by_ways" (defArgs s_Track_by_ways) (defBody s_Track_by_ways) (defScope s_Track_by_ways) .none kV_Track_by_ways dc_Track_by_ways pm_Track_by_ways an_Track_by_ways cd_Track_by_ways ct_Track_by_ways, f_Track_reach, PySem.W.fnOf "reach" "Track.reach" (defArgs s_Track_reach) (defBody s_Track_reach) (defScope s_Track_reach) (.ref T_Track_reach) kV_Track_reach dc_Track_reach pm_Track_reach an_Track_reach cd_Track_reach ct_Track_reach, f_Track_touch, PySem.W.fnOf "touch" "Track.touch" (defArgs s_Track_touch) (defBody s_Track_touch) (defScope s_Track_touch) (.ref T_Track_touch) kV_Track_touch dc_Track_touch pm_Track_touch an_Track_touch cd_Track_touch ct_Track_touch, f_Track_area, PySem.W.fnOf "area" "Track.area" (defArgs s_Track_area) (defBody s_Track_area) (defScope s_Track_area) .none kV_Track_area dc_Track_area pm_Track_area an_Track_area cd_Track_area ct_Track_area, f_Track_joined, PySem.W.fnOf "joined" "Track.joined" (defArgs s_Track_joined) (defBody s_Track_joined) (defScope s_Track_joined) .none kV_Track_joined dc_Track_joined pm_Track_joined an_Track_joined cd_Track_joined ct_Track_joined, f_Track_told, PySem.W.fnOf "told" "Track.told" (defArgs s_Track_told) (defBody s_Track_told) (defScope s_Track_told) .none kV_Track_told dc_Track_told pm_Track_told an_Track_told cd_Track_told ct_Track_told, f_still, PySem.W.fnOf "still" "still" (defArgs s_still) (defBody s_still) (defScope s_still) .none kV_still dc_still pm_still an_still cd_still ct_still, f_track_of_deed, PySem.W.fnOf "track_of_deed" "track_of_deed" (defArgs s_track_of_deed) (defBody s_track_of_deed) (defScope s_track_of_deed) .none kV_track_of_deed dc_track_of_deed pm_track_of_deed an_track_of_deed cd_track_of_deed ct_track_of_deed, f_track_of, PySem.W.fnOf "track_of" "track_of" (defArgs s_track_of) (defBody s_track_of) (defScope s_track_of) .none kV_track_of dc_track_of pm_track_of an_track_of cd_track_of ct_track_of, f_cell_at, PySem.W.fnOf "_law_cell_at" "_law_cell_at" (defArgs s_cell_at) (defBody s_cell_at) (defScope s_cell_at) .none kV_cell_at dc_cell_at pm_cell_at an_cell_at cd_cell_at ct_cell_at, f_cells, PySem.W.fnOf "_law_cells" "_law_cells" (defArgs s_cells) (defBody s_cells) (defScope s_cells) .none kV_cells dc_cells pm_cells an_cells cd_cells ct_cells, f_pick, PySem.W.fnOf "_law_pick" "_law_pick" (defArgs s_pick) (defBody s_pick) (defScope s_pick) .none kV_pick dc_pick pm_pick an_pick cd_pick ct_pick, f_deeds, PySem.W.fnOf "_law_deeds" "_law_deeds" (defArgs s_deeds) (defBody s_deeds) (defScope s_deeds) .none kV_deeds dc_deeds pm_deeds an_deeds cd_deeds ct_deeds, f_another, PySem.W.fnOf "_law_another" "_law_another" (defArgs s_another) (defBody s_another) (defScope s_another) .none kV_another dc_another pm_another an_another cd_another ct_another, f_refused, PySem.W.fnOf "_law_refused" "_law_refused" (defArgs s_refused) (defBody s_refused) (defScope s_refused) .none kV_refused dc_refused pm_refused an_refused cd_refused ct_refused, f_other, PySem.W.fnOf "_law_other" "_law_other" (defArgs s_other) (defBody s_other) (defScope s_other) .none kV_other dc_other pm_other an_other cd_other ct_other, f_law, PySem.W.fnOf "law" "law" (defArgs s_law) (defBody s_law) (defScope s_law) .none kV_law dc_law pm_law an_law cd_law ct_law, t_Track_shift, t_Track_reach, t_Track_touch, C_Quarter, C_Sixth, C_Track, C_NoPen, C_GrowError, C_NoDeed, C_NoLetter, C_NoLine, C_NoPlace, C_NoRound, C_NoRules, C_NoText, C_NoWord, C_NothingDone, C_TooLong, D_DEEDS, D_GOING_DEEDS⟩, ?_, rfl⟩
  constructor
  · exact ⟨pgQuarter, hdQuarter, poQuarter, saQuarter⟩
  · exact PySem.W.mg_of X G aQuarter
  · exact kcQuarter
  · exact ⟨pgSixth, hdSixth, poSixth, saSixth⟩
  · exact PySem.W.mg_of X G aSixth
  · exact kcSixth
  · exact ⟨pgTrack, hdTrack, poTrack, saTrack⟩
  · exact PySem.W.mg_of X G aTrack
  · exact kcTrack
  · exact PySem.W.mg_of X G aNoPen
  · exact PySem.W.mg_of X G aGrowError
  · exact PySem.W.mg_of X G aNoDeed
  · exact PySem.W.mg_of X G aNoLetter
  · exact PySem.W.mg_of X G aNoLine
  · exact PySem.W.mg_of X G aNoPlace
  · exact PySem.W.mg_of X G aNoRound
  · exact PySem.W.mg_of X G aNoRules
  · exact PySem.W.mg_of X G aNoText
  · exact PySem.W.mg_of X G aNoWord
  · exact PySem.W.mg_of X G aNothingDone
  · exact PySem.W.mg_of X G aTooLong
  · exact ⟨xiNoPen⟩
  · exact ⟨x1NoPen, x2NoPen, x3NoPen, x4NoPen, x5NoPen, x6NoPen, x7NoPen, x8NoPen⟩
  · exact ⟨xiGrowError⟩
  · exact ⟨x1GrowError, x2GrowError, x3GrowError, x4GrowError, x5GrowError, x6GrowError, x7GrowError, x8GrowError⟩
  · exact ⟨xiNoDeed⟩
  · exact ⟨x1NoDeed, x2NoDeed, x3NoDeed, x4NoDeed, x5NoDeed, x6NoDeed, x7NoDeed, x8NoDeed⟩
  · exact ⟨mkQuarter, inQuarter, kcQuarter⟩
  · exact ⟨mkSixth, inSixth, kcSixth⟩
  · exact ⟨⟨pgTrack, hdTrack, poTrack, saTrack⟩, tyaTrack, tybTrack, tycTrack, tydTrack⟩
  · exact ⟨mkTrack, inTrack, fiTrack, kcTrack⟩
  · exact na_Track_drawer
  · exact na_Track_deed_count
  · exact na_Track_last_way
  · exact na_Track_last_spot
  · exact na_Track_stroke_count
  · exact na_Track_reaches
  · exact na_Track_touches
  · exact na_Track_crosses
  · exact PySem.W.mg_of X G ag_DEEDS
  · exact fun H => .tup (vs := [.str "stroke", .str "step", .str "left", .str "right", .str "rest"]) (.inr ⟨_, _, _, lg_DEEDS, rfl, rfl, Nat.le_of_ble_eq_true rfl, .cons ⟨_, rfl⟩ (.cons ⟨_, rfl⟩ (.cons ⟨_, rfl⟩ (.cons ⟨_, rfl⟩ (.cons ⟨_, rfl⟩ (.nil)))))⟩) (.cons (.str _) (.cons (.str _) (.cons (.str _) (.cons (.str _) (.cons (.str _) (.nil))))))
  · exact PySem.W.mg_of X G ag_GOING_DEEDS
  · exact fun H => .tup (vs := [.str "stroke", .str "step"]) (.inr ⟨_, _, _, lg_GOING_DEEDS, rfl, rfl, Nat.le_of_ble_eq_true rfl, .cons ⟨_, rfl⟩ (.cons ⟨_, rfl⟩ (.nil))⟩) (.cons (.str _) (.cons (.str _) (.nil)))
  · exact fun_mk (st := s_added) l_added c_added k_added
  · exact k_added
  · exact (fun_mk (st := s_added) l_added c_added k_added).binds fun _ _ _ _ _ _ us hl => match us, hl with | [_, _], _ => rfl
  · exact PySem.W.mg_of X G a_added
  · exact fun_mk (st := s_cross) l_cross c_cross k_cross
  · exact k_cross
  · exact (fun_mk (st := s_cross) l_cross c_cross k_cross).binds fun _ _ _ _ _ _ us hl => match us, hl with | [_, _], _ => rfl
  · exact PySem.W.mg_of X G a_cross
  · exact fun_mk (st := s_turn_of_deed) l_turn_of_deed c_turn_of_deed k_turn_of_deed
  · exact k_turn_of_deed
  · exact (fun_mk (st := s_turn_of_deed) l_turn_of_deed c_turn_of_deed k_turn_of_deed).binds fun _ _ _ _ _ _ us hl => match us, hl with | [_], _ => rfl
  · exact PySem.W.mg_of X G a_turn_of_deed
  · exact fun_mk (st := s_Pen_way_of) l_Pen_way_of c_Pen_way_of k_Pen_way_of
  · exact k_Pen_way_of
  · exact (fun_mk (st := s_Pen_way_of) l_Pen_way_of c_Pen_way_of k_Pen_way_of).binds fun _ _ _ _ _ _ us hl => match us, hl with | [_, _], _ => rfl
  · exact ⟨a_Pen_way_of_Quarter, i_Pen_way_of_Quarter, k_Pen_way_of⟩
  · exact ⟨a_Pen_way_of_Sixth, i_Pen_way_of_Sixth, k_Pen_way_of⟩
  · exact fun_mk (st := s_Pen_turned) l_Pen_turned c_Pen_turned k_Pen_turned
  · exact k_Pen_turned
  · exact (fun_mk (st := s_Pen_turned) l_Pen_turned c_Pen_turned k_Pen_turned).binds fun _ _ _ _ _ _ us hl => match us, hl with | [_, _, _], _ => rfl
  · exact ⟨a_Pen_turned_Quarter, i_Pen_turned_Quarter, k_Pen_turned⟩
  · exact ⟨a_Pen_turned_Sixth, i_Pen_turned_Sixth, k_Pen_turned⟩
  · exact fun_mk (st := s_Pen_step) l_Pen_step c_Pen_step k_Pen_step
  · exact k_Pen_step
  · exact (fun_mk (st := s_Pen_step) l_Pen_step c_Pen_step k_Pen_step).binds fun _ _ _ _ _ _ us hl => match us, hl with | [_, _], _ => rfl
  · exact ⟨a_Pen_step_Quarter, i_Pen_step_Quarter, k_Pen_step⟩
  · exact ⟨a_Pen_step_Sixth, i_Pen_step_Sixth, k_Pen_step⟩
  · exact fun_mk (st := s_Pen_after) l_Pen_after c_Pen_after k_Pen_after
  · exact k_Pen_after
  · exact (fun_mk (st := s_Pen_after) l_Pen_after c_Pen_after k_Pen_after).binds fun _ _ _ _ _ _ us hl => match us, hl with | [_, _, _, _], _ => rfl
  · exact ⟨a_Pen_after_Quarter, i_Pen_after_Quarter, k_Pen_after⟩
  · exact ⟨a_Pen_after_Sixth, i_Pen_after_Sixth, k_Pen_after⟩
  · exact fun_mk (st := s_Quarter_ways) l_Quarter_ways c_Quarter_ways k_Quarter_ways
  · exact k_Quarter_ways
  · exact (fun_mk (st := s_Quarter_ways) l_Quarter_ways c_Quarter_ways k_Quarter_ways).binds fun _ _ _ _ _ _ us hl => match us, hl with | [_], _ => rfl
  · exact ⟨a_Quarter_ways_Quarter, i_Quarter_ways_Quarter, k_Quarter_ways⟩
  · exact fun_mk (st := s_Quarter_turned_left) l_Quarter_turned_left c_Quarter_turned_left k_Quarter_turned_left
  · exact k_Quarter_turned_left
  · exact (fun_mk (st := s_Quarter_turned_left) l_Quarter_turned_left c_Quarter_turned_left k_Quarter_turned_left).binds fun _ _ _ _ _ _ us hl => match us, hl with | [_, _], _ => rfl
  · exact ⟨a_Quarter_turned_left_Quarter, i_Quarter_turned_left_Quarter, k_Quarter_turned_left⟩
  · exact fun_mk (st := s_Quarter_along) l_Quarter_along c_Quarter_along k_Quarter_along
  · exact k_Quarter_along
  · exact (fun_mk (st := s_Quarter_along) l_Quarter_along c_Quarter_along k_Quarter_along).binds fun _ _ _ _ _ _ us hl => match us, hl with | [_, _, _], _ => rfl
  · exact ⟨a_Quarter_along_Quarter, i_Quarter_along_Quarter, k_Quarter_along⟩
  · exact fun_mk (st := s_Sixth_ways) l_Sixth_ways c_Sixth_ways k_Sixth_ways
  · exact k_Sixth_ways
  · exact (fun_mk (st := s_Sixth_ways) l_Sixth_ways c_Sixth_ways k_Sixth_ways).binds fun _ _ _ _ _ _ us hl => match us, hl with | [_], _ => rfl
  · exact ⟨a_Sixth_ways_Sixth, i_Sixth_ways_Sixth, k_Sixth_ways⟩
  · exact fun_mk (st := s_Sixth_turned_left) l_Sixth_turned_left c_Sixth_turned_left k_Sixth_turned_left
  · exact k_Sixth_turned_left
  · exact (fun_mk (st := s_Sixth_turned_left) l_Sixth_turned_left c_Sixth_turned_left k_Sixth_turned_left).binds fun _ _ _ _ _ _ us hl => match us, hl with | [_, _], _ => rfl
  · exact ⟨a_Sixth_turned_left_Sixth, i_Sixth_turned_left_Sixth, k_Sixth_turned_left⟩
  · exact fun_mk (st := s_Sixth_along) l_Sixth_along c_Sixth_along k_Sixth_along
  · exact k_Sixth_along
  · exact (fun_mk (st := s_Sixth_along) l_Sixth_along c_Sixth_along k_Sixth_along).binds fun _ _ _ _ _ _ us hl => match us, hl with | [_, _, _], _ => rfl
  · exact ⟨a_Sixth_along_Sixth, i_Sixth_along_Sixth, k_Sixth_along⟩
  · exact fun_mk (st := s_pen_of) l_pen_of c_pen_of k_pen_of
  · exact k_pen_of
  · exact (fun_mk (st := s_pen_of) l_pen_of c_pen_of k_pen_of).binds fun _ _ _ _ _ _ us hl => match us, hl with | [_], _ => rfl
  · exact PySem.W.mg_of X G a_pen_of
  · exact funG_mk (st := s_Track_init) l_Track_init c_Track_init
  · exact k_Track_init
  · exact (fun_mk (st := s_Track_init) l_Track_init c_Track_init k_Track_init).binds fun _ _ _ _ _ _ us hl => match us, hl with | [_, _, _, _, _, _, _, _, _], _ => rfl
  · exact fun_mk (st := s_Track_many) l_Track_many c_Track_many k_Track_many
  · exact k_Track_many
  · exact (fun_mk (st := s_Track_many) l_Track_many c_Track_many k_Track_many).binds fun _ _ _ _ _ _ us hl => match us, hl with | [_], _ => rfl
  · exact ⟨a_Track_many_Track, i_Track_many_Track, k_Track_many⟩
  · exact fun_mk (st := s_Track_turn) l_Track_turn c_Track_turn k_Track_turn
  · exact k_Track_turn
  · exact (fun_mk (st := s_Track_turn) l_Track_turn c_Track_turn k_Track_turn).binds fun _ _ _ _ _ _ us hl => match us, hl with | [_], _ => rfl
  · exact ⟨a_Track_turn_Track, i_Track_turn_Track, k_Track_turn⟩
  · exact fun_mk (st := s_Track_strokes) l_Track_strokes c_Track_strokes k_Track_strokes
  · exact k_Track_strokes
  · exact (fun_mk (st := s_Track_strokes) l_Track_strokes c_Track_strokes k_Track_strokes).binds fun _ _ _ _ _ _ us hl => match us, hl with | [_], _ => rfl
  · exact ⟨a_Track_strokes_Track, i_Track_strokes_Track, k_Track_strokes⟩
  · exact fun s us X hl => by obtain ⟨z, rfl⟩ := one_of hl; exact BindsTo.of_defaults rfl (X _ _ lT_Track_shift) rfl rfl rfl
  · exact funG_mk (st := s_Track_shift) l_Track_shift c_Track_shift
  · exact k_Track_shift
  · exact fun s us X hl => by obtain ⟨z, y, rfl⟩ := two_of0 hl; exact BindsTo.of_defaults rfl (X _ _ lT_Track_shift) rfl rfl rfl
  · exact ⟨a_Track_shift_Track, i_Track_shift_Track, k_Track_shift⟩
  · exact fun_mk (st := s_Track_by_ways) l_Track_by_ways c_Track_by_ways k_Track_by_ways
  · exact k_Track_by_ways
  · exact (fun_mk (st := s_Track_by_ways) l_Track_by_ways c_Track_by_ways k_Track_by_ways).binds fun _ _ _ _ _ _ us hl => match us, hl with | [_, _, _], _ => rfl
  · exact ⟨a_Track_by_ways_Track, i_Track_by_ways_Track, k_Track_by_ways⟩
  · exact fun s us X hl => by obtain ⟨z, rfl⟩ := one_of hl; exact BindsTo.of_defaults rfl (X _ _ lT_Track_reach) rfl rfl rfl
  · exact funG_mk (st := s_Track_reach) l_Track_reach c_Track_reach
  · exact k_Track_reach
  · exact fun s us X hl => by obtain ⟨z, y, rfl⟩ := two_of0 hl; exact BindsTo.of_defaults rfl (X _ _ lT_Track_reach) rfl rfl rfl
  · exact ⟨a_Track_reach_Track, i_Track_reach_Track, k_Track_reach⟩
  · exact fun s us X hl => by obtain ⟨z, rfl⟩ := one_of hl; exact BindsTo.of_defaults rfl (X _ _ lT_Track_touch) rfl rfl rfl
  · exact funG_mk (st := s_Track_touch) l_Track_touch c_Track_touch
  · exact k_Track_touch
  · exact fun s us X hl => by obtain ⟨z, y, rfl⟩ := two_of0 hl; exact BindsTo.of_defaults rfl (X _ _ lT_Track_touch) rfl rfl rfl
  · exact ⟨a_Track_touch_Track, i_Track_touch_Track, k_Track_touch⟩
  · exact fun_mk (st := s_Track_area) l_Track_area c_Track_area k_Track_area
  · exact k_Track_area
  · exact (fun_mk (st := s_Track_area) l_Track_area c_Track_area k_Track_area).binds fun _ _ _ _ _ _ us hl => match us, hl with | [_], _ => rfl
  · exact ⟨a_Track_area_Track, i_Track_area_Track, k_Track_area⟩
  · exact fun_mk (st := s_Track_joined) l_Track_joined c_Track_joined k_Track_joined
  · exact k_Track_joined
  · exact (fun_mk (st := s_Track_joined) l_Track_joined c_Track_joined k_Track_joined).binds fun _ _ _ _ _ _ us hl => match us, hl with | [_, _], _ => rfl
  · exact ⟨a_Track_joined_Track, i_Track_joined_Track, k_Track_joined⟩
  · exact fun_mk (st := s_Track_told) l_Track_told c_Track_told k_Track_told
  · exact k_Track_told
  · exact (fun_mk (st := s_Track_told) l_Track_told c_Track_told k_Track_told).binds fun _ _ _ _ _ _ us hl => match us, hl with | [_], _ => rfl
  · exact ⟨a_Track_told_Track, i_Track_told_Track, k_Track_told⟩
  · exact fun_mk (st := s_still) l_still c_still k_still
  · exact k_still
  · exact (fun_mk (st := s_still) l_still c_still k_still).binds fun _ _ _ _ _ _ us hl => match us, hl with | [_], _ => rfl
  · exact PySem.W.mg_of X G a_still
  · exact fun_mk (st := s_track_of_deed) l_track_of_deed c_track_of_deed k_track_of_deed
  · exact k_track_of_deed
  · exact (fun_mk (st := s_track_of_deed) l_track_of_deed c_track_of_deed k_track_of_deed).binds fun _ _ _ _ _ _ us hl => match us, hl with | [_, _], _ => rfl
  · exact PySem.W.mg_of X G a_track_of_deed
  · exact fun_mk (st := s_track_of) l_track_of c_track_of k_track_of
  · exact k_track_of
  · exact (fun_mk (st := s_track_of) l_track_of c_track_of k_track_of).binds fun _ _ _ _ _ _ us hl => match us, hl with | [_, _], _ => rfl
  · exact PySem.W.mg_of X G a_track_of
  · exact fun_mk (st := s_cell_at) l_cell_at c_cell_at k_cell_at
  · exact k_cell_at
  · exact (fun_mk (st := s_cell_at) l_cell_at c_cell_at k_cell_at).binds fun _ _ _ _ _ _ us hl => match us, hl with | [_, _], _ => rfl
  · exact PySem.W.mg_of X G a_cell_at
  · exact fun_mk (st := s_cells) l_cells c_cells k_cells
  · exact k_cells
  · exact (fun_mk (st := s_cells) l_cells c_cells k_cells).binds fun _ _ _ _ _ _ us hl => match us, hl with | [_, _, _], _ => rfl
  · exact PySem.W.mg_of X G a_cells
  · exact fun_mk (st := s_pick) l_pick c_pick k_pick
  · exact k_pick
  · exact (fun_mk (st := s_pick) l_pick c_pick k_pick).binds fun _ _ _ _ _ _ us hl => match us, hl with | [_, _, _], _ => rfl
  · exact PySem.W.mg_of X G a_pick
  · exact fun_mk (st := s_deeds) l_deeds c_deeds k_deeds
  · exact k_deeds
  · exact (fun_mk (st := s_deeds) l_deeds c_deeds k_deeds).binds fun _ _ _ _ _ _ us hl => match us, hl with | [_], _ => rfl
  · exact PySem.W.mg_of X G a_deeds
  · exact fun_mk (st := s_another) l_another c_another k_another
  · exact k_another
  · exact (fun_mk (st := s_another) l_another c_another k_another).binds fun _ _ _ _ _ _ us hl => match us, hl with | [_], _ => rfl
  · exact PySem.W.mg_of X G a_another
  · exact fun_mk (st := s_refused) l_refused c_refused k_refused
  · exact k_refused
  · exact (fun_mk (st := s_refused) l_refused c_refused k_refused).binds fun _ _ _ _ _ _ us hl => match us, hl with | [_, _], _ => rfl
  · exact PySem.W.mg_of X G a_refused
  · exact fun_mk (st := s_other) l_other c_other k_other
  · exact k_other
  · exact (fun_mk (st := s_other) l_other c_other k_other).binds fun _ _ _ _ _ _ us hl => match us, hl with | [_], _ => rfl
  · exact PySem.W.mg_of X G a_other
  · exact fun_mk (st := s_law) l_law c_law k_law
  · exact k_law
  · exact (fun_mk (st := s_law) l_law c_law k_law).binds fun _ _ _ _ _ _ us hl => match us, hl with | [_], _ => rfl
  · exact PySem.W.mg_of X G a_law
  · exact PySem.W.mg_none_of X G z_range
  · exact PySem.W.mg_none_of X G z_len
  · exact PySem.W.mg_none_of X G z_isinstance
  · exact PySem.W.mg_none_of X G z_int
  · exact PySem.W.mg_none_of X G z_bool
  · exact PySem.W.mg_none_of X G z_list
  · exact PySem.W.mg_none_of X G z_max
  · exact PySem.W.mg_none_of X G z_min
  · exact PySem.W.mg_none_of X G z_tuple
  · exact PySem.W.mg_none_of X G z_ValueError
  · exact fun s u => .of_eq rfl
  · exact x_su
  · exact x_i1
  · exact x_i2
  · exact x_y1
  · exact x_y2

abbrev CX : CXT := CX0
/-! ### the mathematics -/
def MM : Int := 2305843009213693951
def cellAt (ns : List Int) (k : Nat) : Int := ns.getD k 0 % 10 ^ 60 / MM * MM + (ns.getD k 0 + 7919 * ((k : Int) + 1)) * 6364136223846793005 % MM
def BB : Int := 10 ^ 60 * 10 ^ 60 * 10 ^ 60
def number (c : Int) : Int := if c % 3 = 0 then c / 3 % 41 - 20 else if c % 3 = 1 then c * 48271 % (2 * 10 ^ 60 + 1) - 10 ^ 60 else c * c * 69621 % (2 * BB + 1) - BB
theorem mulok {m n : Nat} {a b : Int} (ha : a.natAbs < 2 ^ m) (hb : b.natAbs < 2 ^ n) (h : m + n ≤ 134217728) : IntMulOk a b := IntMulOk.of_le (PySem.intBits_le_iff.mpr ha) (PySem.intBits_le_iff.mpr hb) h
def wy (six : Bool) : Int := if six then 6 else 4
def tl (six : Bool) (p : Int × Int) : Int × Int := if six then (-p.2, p.1 + p.2) else (-p.2, p.1)
def tn (six : Bool) : Nat → Int × Int → Int × Int
  | 0, p => p
  | n + 1, p => tl six (tn six n p)
def sp (p : Int × Int) : Dt := .tup [.int p.1, .int p.2]
theorem wy_pos (six : Bool) : 0 < wy six := by cases six <;> decide
def Adr.pc (t : Adr) (six : Bool) : Addr := if six then t.C_Sixth else t.C_Quarter
/-! ### what each def is worth -/
abbrev Rl := List Dt → Res → Prop
def R_ways (t : Adr) (six : Bool) : Rl := fun ds r => ds = [.obj (t.pc six) []] ∧ r = .ret (.int (wy six))
def R_left (t : Adr) (six : Bool) : Rl := fun ds r => ∃ p, ds = [.obj (t.pc six) [], sp p] ∧ r = .ret (sp (tl six p))
def R_way_of (t : Adr) (six : Bool) : Rl := fun ds r => ∃ z, ds = [.obj (t.pc six) [], .int z] ∧ r = .ret (.int (z % wy six))
def R_turned (t : Adr) (six : Bool) : Rl := fun ds r => ∃ p b, ds = [.obj (t.pc six) [], sp p, .int b] ∧ r = .ret (sp (tn six (b % wy six).toNat p))
def R_pen_of (t : Adr) : Rl := fun ds r => ∃ six, ds = [.int (wy six)] ∧ r = .ret (.obj (t.pc six) [])
def R_cell_at : Rl := fun ds r => ∃ (ns : List Int) (k : Nat), ds = [.scr ns, .int k] ∧ k ≤ 100 ∧ r = .ret (.int (cellAt ns k))
def R_number : Rl := fun ds r => ∃ c, ds = [.int c] ∧ (0 ≤ c ∧ c < 10 ^ 60 + 2 ^ 61) ∧ r = .ret (.int (number c))
def R_whole : Rl := fun ds r => ∃ z, ds = [.int z] ∧ r = .ret (.bl true)
def R_lturned : Rl := fun ds r => ∃ six p b, ds = [.int (wy six), sp p, .int b] ∧ r = .ret (sp (tn six (b % wy six).toNat p))
def R_is_spot : Rl := fun ds r => ∃ p, ds = [sp p, sp p] ∧ r = .ret (.bl true)
def R_holds (t : Adr) : Rl := fun ds r => ∃ six p b, ds = [.obj (t.pc six) [], .int (wy six), sp p, .int b] ∧ r = .ret (.bl true)
def R_law : Rl := fun ds r => ∃ ns : List Int, ns.length ≤ 63 ∧ ds = [.scr ns] ∧ r = .ret (.bl true)
def spLaw (K : PySem.W.Frag) : Sp := spR K 1 R_law
theorem law_sp {K : PySem.W.Frag} {H : Hp} {a : Addr} {ns : List Int} (hl : ns.length ≤ 63) (hS : SqL K H a (ns.map V.int)) : spLaw K [.ref a] H (fun v _ => v = .bl true) fun _ _ _ => False :=
  ⟨H, [.scr ns], .ret (.bl true), Same.refl H, .cons (.scr hS) .nil, rfl, ⟨ns, hl, rfl, rfl⟩, fun v Hf' H' g r => by cases r; rfl⟩

section
variable {P : Program} {w : World} {K : PySem.W.Frag} {mg : Str → Option Value} {base : Heap} {t : Adr}
theorem ok_ways (T : Txt K mg t) (six : Bool) : MF P w K mg base CX 1 (t.pc six) "ways" 1 (R_ways t six) := by
  cases six with
  | false =>
    refine ⟨T.cl_Quarter, _, _, _, fnR T.F_Quarter_ways sc_Quarter_ways rfl fun cdv A outer s H E G ds r hr hl hR => ?_, T.me_Quarter_ways_Quarter, T.b_Quarter_ways⟩
    obtain ⟨rfl, rfl⟩ := hR
    exact ⟨_, .rt _, es_one (es_ret ee_int)⟩
  | true =>
    refine ⟨T.cl_Sixth, _, _, _, fnR T.F_Sixth_ways sc_Sixth_ways rfl fun cdv A outer s H E G ds r hr hl hR => ?_, T.me_Sixth_ways_Sixth, T.b_Sixth_ways⟩
    obtain ⟨rfl, rfl⟩ := hR
    exact ⟨_, .rt _, es_one (es_ret ee_int)⟩
theorem ok_left (T : Txt K mg t) (six : Bool) : MF P w K mg base CX 1 (t.pc six) "turned_left" 2 (R_left t six) := by
  cases six with
  | false =>
    refine ⟨T.cl_Quarter, _, _, _, fnR T.F_Quarter_turned_left sc_Quarter_turned_left rfl fun cdv A outer s H E G ds r hr hl hR => ?_, T.me_Quarter_turned_left_Quarter, T.b_Quarter_turned_left⟩
    obtain ⟨p, rfl, rfl⟩ := hR
    exact ⟨_, .rt _, (es_one (es_ret (ee_tup (ea_cons (ee_neg (ee_ixT (ee_var 1 rfl) ee_int rfl)) (ea_cons (ee_ixT (ee_var 1 rfl) ee_int rfl) ea_nil)) (Nat.le_of_ble_eq_true rfl))))⟩
  | true =>
    refine ⟨T.cl_Sixth, _, _, _, fnR T.F_Sixth_turned_left sc_Sixth_turned_left rfl fun cdv A outer s H E G ds r hr hl hR => ?_, T.me_Sixth_turned_left_Sixth, T.b_Sixth_turned_left⟩
    obtain ⟨p, rfl, rfl⟩ := hR
    exact ⟨_, .rt _, (es_one (es_ret (ee_tup (ea_cons (ee_neg (ee_ixT (ee_var 1 rfl) ee_int rfl)) (ea_cons (ee_add (ee_ixT (ee_var 1 rfl) ee_int rfl) (ee_ixT (ee_var 1 rfl) ee_int rfl)) ea_nil)) (Nat.le_of_ble_eq_true rfl))))⟩
theorem me_of {six : Bool} {m : Str} {f : Addr} (hQ : Meth K t.C_Quarter m f) (hS : Meth K t.C_Sixth m f) : Meth K (t.pc six) m f := by cases six <;> assumption
theorem cl_of (T : Txt K mg t) (six : Bool) : Cls K (t.pc six) := by cases six; exact T.cl_Quarter; exact T.cl_Sixth
theorem ok_way_of (T : Txt K mg t) (six : Bool) : MF P w K mg base CX 2 (t.pc six) "way_of" 2 (R_way_of t six) := by
  refine ⟨cl_of T six, _, _, _, fnR T.F_Pen_way_of sc_Pen_way_of rfl fun cdv A outer s H E G ds r hr hl hR => ?_, me_of T.me_Pen_way_of_Quarter T.me_Pen_way_of_Sixth, T.b_Pen_way_of⟩
  obtain ⟨z, rfl, rfl⟩ := hR
  have h1 := ok_ways (P := P) (w := w) (base := base) T six
  refine ⟨_, .rt _, es_one (es_ret (ee_mod (ee_var 1 rfl) (ee_mf0 (ee_var 0 rfl) h1 nox0 hr ⟨rfl, rfl⟩) (wy_pos six)))⟩
theorem ok_turned (T : Txt K mg t) (six : Bool) : MF P w K mg base CX 3 (t.pc six) "turned" 3 (R_turned t six) := by
  refine ⟨cl_of T six, _, _, _, fnR T.F_Pen_turned sc_Pen_turned rfl fun cdv A outer s H E G ds r hr hl hR => ?_, me_of T.me_Pen_turned_Quarter T.me_Pen_turned_Sixth, T.b_Pen_turned⟩
  obtain ⟨p, b, rfl, rfl⟩ := hR
  have h1 := ok_way_of (P := P) (w := w) (base := base) T six
  have h2 := ok_left (P := P) (w := w) (base := base) T six
  have hb1 := Int.emod_nonneg b (Int.ne_of_gt (wy_pos six))
  have hb2 := Int.emod_lt_of_pos b (wy_pos six)
  have hb3 : wy six ≤ 6 := by cases six <;> decide
  refine ⟨_, .rt _, es_cons (es_range1 3 (fun k => [.val (.obj (t.pc six) []), .val (sp (tn six k p)), .val (.int b), .unk]) sc_Pen_turned.nd rfl PassesOwn.leaving T.z_range
    (ea_cons (ee_mf (ee_var 0 rfl) h1 nox0 hr (ea_cons (ee_var 2 rfl) ea_nil) ⟨b, rfl, rfl⟩) ea_nil) ⟨by omega, by omega⟩ (Le.of ⟨rfl, rfl, rfl, trivial⟩) (Nat.le_refl _) (fun k hk => ?_) (.all rfl)) (es_one (es_ret (ee_var 1 rfl)))⟩
  refine .nx (es_one (es_set 1 sc_Pen_turned.nd (ee_mf (ee_var 0 rfl) h2 nox0 hr (ea_cons (ee_var 1 rfl) ea_nil) ⟨_, rfl, rfl⟩))) (Le.of ⟨rfl, rfl, rfl, trivial⟩)
end

section
variable {P : Program} {w : World} {K : PySem.W.Frag} {mg : Str → Option Value} {base : Heap} {t : Adr}
theorem ok_pen_of (T : Txt K mg t) : GF P w K mg base CX 1 "pen_of" 1 (R_pen_of t) := by
  refine ⟨_, _, _, fnR T.F_pen_of sc_pen_of rfl fun cdv A outer s H E G ds r hr hl hR => ?_, T.m_pen_of, T.k_pen_of, T.b_pen_of⟩
  obtain ⟨six, rfl, rfl⟩ := hR
  cases six with
  | false => exact ⟨_, .rt _, es_stop (es_if (eb_eqI (ee_var 0 rfl) ee_int) (fun h => es_one (es_ret (ee_make0 T.mk_Quarter T.m_Quarter))) (fun h => absurd h (by decide)))⟩
  | true => exact ⟨_, .rt _, es_cons (es_if (eb_eqI (ee_var 0 rfl) ee_int) (fun h => absurd h (by decide)) (fun h => es_nil)) (es_stop (es_if (eb_eqI (ee_var 0 rfl) ee_int) (fun h => es_one (es_ret (ee_make0 T.mk_Sixth T.m_Sixth))) (fun h => absurd h (by decide))))⟩
end

section
variable {P : Program} {w : World} {K : PySem.W.Frag} {mg : Str → Option Value} {base : Heap} {t : Adr}
theorem getD_scr (ns : List Int) (k : Nat) (h : k < ns.length) : atI ns (k : Int) = some (ns.getD k 0) := by
  refine atI_nat ?_
  rw [List.getD_eq_getElem?_getD, List.getElem?_eq_getElem h]; rfl
theorem ok_cell_at (T : Txt K mg t) : GF P w K mg base CX 1 "_law_cell_at" 2 R_cell_at := by
  refine ⟨_, _, _, fnR T.F_cell_at sc_cell_at rfl fun cdv A outer s H E G ds r hr hl hR => ?_, T.m_cell_at, T.k_cell_at, T.b_cell_at⟩
  obtain ⟨ns, k, rfl, hk, rfl⟩ := hR
  refine ⟨_, .rt _, es_cons (es_set 2 sc_cell_at.nd ee_int) (es_cons (dl1 := [.val (.scr ns), .val (.int k), .val (.int (ns.getD k 0)), .unk]) (es_if (eb_lt (ee_var 1 rfl) (ee_lenC T.z_len (ee_var 0 rfl))) (fun h => ?_) (fun h => ?_))
    (es_cons (es_set 3 sc_cell_at.nd (ee_mod (ee_mul (ee_add (ee_var 2 rfl) (ee_mul ee_int (ee_add (ee_var 1 rfl) ee_int) (CMul.ok (Or.inl ⟨by decide, by decide⟩)))) ee_int (CMul.ok (Or.inr ⟨by decide, by decide⟩))) ee_int (by decide)))
  (es_one (es_ret (ee_add (ee_mul (ee_fdiv (ee_mod (ee_var 2 rfl) (ee_pow ee_int ee_int ⟨by decide, by decide, by decide⟩) (by decide)) ee_int ⟨by decide, by decide +kernel⟩) ee_int (CMul.ok (Or.inr ⟨by decide, by decide⟩))) (ee_var 3 rfl))))))⟩
  · have h := of_decide_eq_true h
    exact es_one (es_set 2 sc_cell_at.nd (ee_ixC (ee_var 0 rfl) (ee_var 1 rfl) (getD_scr ns k (by omega))))
  · have h := of_decide_eq_false h
    have e : ns.getD k 0 = 0 := by rw [List.getD_eq_getElem?_getD, List.getElem?_eq_none (by omega)]; rfl
    rw [e]
    exact es_nil
end

def alg (six : Bool) (w : Int) (p : Int × Int) : Int :=
  if six then (if w = 0 then 2 * p.1 + p.2 else if w = 1 then p.1 + 2 * p.2 else if w = 2 then p.2 - p.1 else if w = 3 then -2 * p.1 - p.2 else if w = 4 then -p.1 - 2 * p.2 else p.1 - p.2)
  else (if w = 0 then p.1 else if w = 1 then p.2 else if w = 2 then -p.1 else -p.2)
def R_along (t : Adr) (six : Bool) : Rl := fun ds r => ∃ z p, ds = [.obj (t.pc six) [], .int z, sp p] ∧ (0 ≤ z ∧ z < wy six) ∧ r = .ret (.int (alg six z p))
section
variable {P : Program} {w : World} {K : PySem.W.Frag} {mg : Str → Option Value} {base : Heap} {t : Adr}
theorem alg4 {z : Int} (p : Int × Int) (h0 : 0 ≤ z) (h1 : z < 4) : atI [Dt.int p.1, Dt.int p.2, Dt.int (-p.1), Dt.int (-p.2)] z = some (Dt.int (alg false z p)) := by
  have h : z = 0 ∨ z = 1 ∨ z = 2 ∨ z = 3 := by omega
  rcases h with rfl | rfl | rfl | rfl <;> rfl
theorem alg6 {z : Int} (p : Int × Int) (h0 : 0 ≤ z) (h1 : z < 6) : atI [Dt.int (2 * p.1 + p.2), Dt.int (p.1 + 2 * p.2), Dt.int (p.2 - p.1), Dt.int (-2 * p.1 - p.2), Dt.int (-p.1 - 2 * p.2), Dt.int (p.1 - p.2)] z = some (Dt.int (alg true z p)) := by
  have h : z = 0 ∨ z = 1 ∨ z = 2 ∨ z = 3 ∨ z = 4 ∨ z = 5 := by omega
  rcases h with rfl | rfl | rfl | rfl | rfl | rfl <;> rfl
theorem mod_lt {z m : Int} (h0 : 0 ≤ z) (h1 : z < m) : z % m = z := Int.emod_eq_of_lt h0 h1
theorem ok_along (T : Txt K mg t) (six : Bool) : MF P w K mg base CX 3 (t.pc six) "along" 3 (R_along t six) := by
  have m_way_of := ok_way_of (P := P) (w := w) (base := base) T six
  cases six with
  | false =>
    refine ⟨T.cl_Quarter, _, _, _, fnR T.F_Quarter_along sc_Quarter_along rfl fun cdv A outer s H E G ds r hr hl hR => ?_, T.me_Quarter_along_Quarter, T.b_Quarter_along⟩
    obtain ⟨z, p, rfl, ⟨h0, h1⟩, rfl⟩ := hR
    exact ⟨_, .rt _, (es_cons (es_set 3 sc_Quarter_along.nd (ee_ixT (ee_var 2 rfl) ee_int rfl))
  (es_cons (es_set 4 sc_Quarter_along.nd (ee_ixT (ee_var 2 rfl) ee_int rfl))
  (es_one (es_ret (ee_ixT (ee_tup (ea_cons (ee_var 3 rfl) (ea_cons (ee_var 4 rfl) (ea_cons (ee_neg (ee_var 3 rfl)) (ea_cons (ee_neg (ee_var 4 rfl)) ea_nil)))) (Nat.le_of_ble_eq_true rfl)) (ee_mf (ee_var 0 rfl) m_way_of nox0 hr (ea_cons (ee_var 1 rfl) ea_nil) ⟨z, rfl, rfl⟩) (by rw [mod_lt h0 h1]; exact alg4 p h0 h1))))))⟩
  | true =>
    refine ⟨T.cl_Sixth, _, _, _, fnR T.F_Sixth_along sc_Sixth_along rfl fun cdv A outer s H E G ds r hr hl hR => ?_, T.me_Sixth_along_Sixth, T.b_Sixth_along⟩
    obtain ⟨z, p, rfl, ⟨h0, h1⟩, rfl⟩ := hR
    exact ⟨_, .rt _, (es_cons (es_set 3 sc_Sixth_along.nd (ee_ixT (ee_var 2 rfl) ee_int rfl))
  (es_cons (es_set 4 sc_Sixth_along.nd (ee_ixT (ee_var 2 rfl) ee_int rfl))
  (es_one (es_ret (ee_ixT (ee_tup (ea_cons (ee_add (ee_mul ee_int (ee_var 3 rfl) (CMul.ok (Or.inl ⟨by decide, by decide⟩))) (ee_var 4 rfl)) (ea_cons (ee_add (ee_var 3 rfl) (ee_mul ee_int (ee_var 4 rfl) (CMul.ok (Or.inl ⟨by decide, by decide⟩)))) (ea_cons (ee_sub (ee_var 4 rfl) (ee_var 3 rfl)) (ea_cons (ee_sub (ee_mul (ee_neg ee_int) (ee_var 3 rfl) (CMul.ok (Or.inl ⟨by decide, by decide⟩))) (ee_var 4 rfl)) (ea_cons (ee_sub (ee_neg (ee_var 3 rfl)) (ee_mul ee_int (ee_var 4 rfl) (CMul.ok (Or.inl ⟨by decide, by decide⟩)))) (ea_cons (ee_sub (ee_var 3 rfl) (ee_var 4 rfl)) ea_nil)))))) (Nat.le_of_ble_eq_true rfl)) (ee_mf (ee_var 0 rfl) m_way_of nox0 hr (ea_cons (ee_var 1 rfl) ea_nil) ⟨z, rfl, rfl⟩) (by rw [mod_lt h0 h1]; exact alg6 p h0 h1))))))⟩
end

/-! ### spots, deeds -/
def sm (p : Int × Int) : Prop := p.1.natAbs < 2 ^ 100 ∧ p.2.natAbs < 2 ^ 100
def cr (p q : Int × Int) : Int := p.1 * q.2 - p.2 * q.1
def ad (p q : Int × Int) : Int × Int := (p.1 + q.1, p.2 + q.2)
def R_cross : Rl := fun ds r => ∃ p q, ds = [sp p, sp q] ∧ (sm p ∧ sm q) ∧ r = .ret (.int (cr p q))
def R_added : Rl := fun ds r => ∃ p q, ds = [sp p, sp q] ∧ r = .ret (sp (ad p q))
def deedL : List Str := ["stroke", "step", "left", "right", "rest"]
def goL : List Str := ["stroke", "step"]
def tdeed (d : Str) : Int := if d = "left" then 1 else if d = "right" then -1 else 0
def aft (six : Bool) (d : Str) (p : Int × Int) (w : Int) : (Int × Int) × Int := (if d ∈ goL then ad p (tn six (w % wy six).toNat (1, 0)) else p, (w + tdeed d) % wy six)
def R_tdeed : Rl := fun ds r => ∃ d : Str, ds = [.str d] ∧ r = .ret (.int (tdeed d))
def R_step (t : Adr) (six : Bool) : Rl := fun ds r => ∃ w, ds = [.obj (t.pc six) [], .int w] ∧ r = .ret (sp (tn six (w % wy six).toNat (1, 0)))
def R_after (t : Adr) (six : Bool) : Rl := fun ds r => ∃ d p w, ds = [.obj (t.pc six) [], .str d, sp p, .int w] ∧ d ∈ deedL ∧ r = .ret (.tup [sp (aft six d p w).1, .int (aft six d p w).2])
section
variable {P : Program} {w : World} {K : PySem.W.Frag} {mg : Str → Option Value} {base : Heap} {t : Adr}
theorem ok_cross (T : Txt K mg t) : GF P w K mg base CX 1 "cross" 2 R_cross := by
  refine ⟨_, _, _, fnR T.F_cross sc_cross rfl fun cdv A outer s H E G ds r hr hl hR => ?_, T.m_cross, T.k_cross, T.b_cross⟩
  obtain ⟨p, q, rfl, ⟨hp, hq⟩, rfl⟩ := hR
  exact ⟨_, .rt _, (es_one (es_ret (ee_sub (ee_mul (ee_ixT (ee_var 0 rfl) ee_int rfl) (ee_ixT (ee_var 1 rfl) ee_int rfl) (mulok hp.1 hq.2 (by decide))) (ee_mul (ee_ixT (ee_var 0 rfl) ee_int rfl) (ee_ixT (ee_var 1 rfl) ee_int rfl) (mulok hp.2 hq.1 (by decide))))))⟩
theorem ok_added (T : Txt K mg t) : GF P w K mg base CX 1 "added" 2 R_added := by
  refine ⟨_, _, _, fnR T.F_added sc_added rfl fun cdv A outer s H E G ds r hr hl hR => ?_, T.m_added, T.k_added, T.b_added⟩
  obtain ⟨p, q, rfl, rfl⟩ := hR
  exact ⟨_, .rt _, (es_one (es_ret (ee_tup (ea_cons (ee_add (ee_ixT (ee_var 0 rfl) ee_int rfl) (ee_ixT (ee_var 1 rfl) ee_int rfl)) (ea_cons (ee_add (ee_ixT (ee_var 0 rfl) ee_int rfl) (ee_ixT (ee_var 1 rfl) ee_int rfl)) ea_nil)) (Nat.le_of_ble_eq_true rfl))))⟩
theorem ok_tdeed (T : Txt K mg t) : GF P w K mg base CX 1 "turn_of_deed" 1 R_tdeed := by
  refine ⟨_, _, _, fnR T.F_turn_of_deed sc_turn_of_deed rfl fun cdv A outer s H E G ds r hr hl hR => ?_, T.m_turn_of_deed, T.k_turn_of_deed, T.b_turn_of_deed⟩
  obtain ⟨d, rfl, rfl⟩ := hR
  by_cases c0 : d = "left"
  · rw [show tdeed d = 1 from if_pos c0]
    exact ⟨_, .rt _, es_stop (es_if (eb_eqS (ee_var 0 rfl) ee_str) (fun h => es_one (es_ret ee_int)) (fun h => absurd c0 (of_decide_eq_false h)))⟩
  by_cases c1 : d = "right"
  · rw [show tdeed d = -1 by unfold tdeed; rw [if_neg c0, if_pos c1]]
    exact ⟨_, .rt _, es_cons (es_if (eb_eqS (ee_var 0 rfl) ee_str) (fun h => absurd (of_decide_eq_true h) c0) (fun h => es_nil)) (es_stop (es_if (eb_eqS (ee_var 0 rfl) ee_str) (fun h => es_one (es_ret (ee_neg ee_int))) (fun h => absurd c1 (of_decide_eq_false h))))⟩
  · rw [show tdeed d = 0 by unfold tdeed; rw [if_neg c0, if_neg c1]]
    exact ⟨_, .rt _, es_cons (es_if (eb_eqS (ee_var 0 rfl) ee_str) (fun h => absurd (of_decide_eq_true h) c0) (fun h => es_nil)) (es_cons (es_if (eb_eqS (ee_var 0 rfl) ee_str) (fun h => absurd (of_decide_eq_true h) c1) (fun h => es_nil)) (es_one (es_ret ee_int)))⟩
theorem ok_step (T : Txt K mg t) (six : Bool) : MF P w K mg base CX 4 (t.pc six) "step" 2 (R_step t six) := by
  refine ⟨cl_of T six, _, _, _, fnR T.F_Pen_step sc_Pen_step rfl fun cdv A outer s H E G ds r hr hl hR => ?_, me_of T.me_Pen_step_Quarter T.me_Pen_step_Sixth, T.b_Pen_step⟩
  obtain ⟨z, rfl, rfl⟩ := hR
  have h1 := ok_turned (P := P) (w := w) (base := base) T six
  exact ⟨_, .rt _, es_one (es_ret (ee_mf (ee_var 0 rfl) h1 nox0 hr (ea_cons (ee_tup (ea_cons ee_int (ea_cons ee_int ea_nil)) (Nat.le_of_ble_eq_true rfl)) (ea_cons (ee_var 1 rfl) ea_nil)) ⟨(1, 0), z, rfl, rfl⟩))⟩
theorem ok_after (T : Txt K mg t) (six : Bool) : MF P w K mg base CX 5 (t.pc six) "after" 4 (R_after t six) := by
  refine ⟨cl_of T six, _, _, _, fnR T.F_Pen_after sc_Pen_after rfl fun cdv A outer s H E G ds r hr hl hR => ?_, me_of T.me_Pen_after_Quarter T.me_Pen_after_Sixth, T.b_Pen_after⟩
  obtain ⟨d, p, z, rfl, hd, rfl⟩ := hR
  have h1 := ok_step (P := P) (w := w) (base := base) T six
  have h2 := ok_added (P := P) (w := w) (base := base) T
  have h3 := ok_tdeed (P := P) (w := w) (base := base) T
  have h4 := ok_way_of (P := P) (w := w) (base := base) T six
  by_cases c : d ∈ goL
  · rw [show aft six d p z = (ad p (tn six (z % wy six).toNat (1, 0)), (z + tdeed d) % wy six) by unfold aft; rw [if_pos c]]
    exact ⟨_, .rt _, (es_cons (es_if (eb_ninT (xs := deedL) (ee_var 1 rfl) (ee_glob (w := .ref t.D_DEEDS) T.g_DEEDS rfl T.r_DEEDS)) (fun h => absurd h (by simp [hd])) (fun h => es_nil))
  (es_cons (es_if (eb_inT (xs := goL) (ee_var 1 rfl) (ee_glob (w := .ref t.D_GOING_DEEDS) T.g_GOING_DEEDS rfl T.r_GOING_DEEDS)) (fun h => 
      (es_one (es_set 2 sc_Pen_after.nd (ee_gf h2 nox0 hr (ea_cons (ee_var 2 rfl) (ea_cons (ee_mf (ee_var 0 rfl) h1 nox0 hr (ea_cons (ee_var 3 rfl) ea_nil) ⟨_, rfl, rfl⟩) ea_nil)) ⟨_, _, rfl, rfl⟩)))) (fun h => absurd c (of_decide_eq_false h)))
  (es_one (es_ret (ee_tup (ea_cons (ee_var 2 rfl) (ea_cons (ee_mf (ee_var 0 rfl) h4 nox0 hr (ea_cons (ee_add (ee_var 3 rfl) (ee_gf h3 nox0 hr (ea_cons (ee_var 1 rfl) ea_nil) ⟨_, rfl, rfl⟩)) ea_nil) ⟨_, rfl, rfl⟩) ea_nil)) (Nat.le_of_ble_eq_true rfl))))))⟩
  · rw [show aft six d p z = (p, (z + tdeed d) % wy six) by unfold aft; rw [if_neg c]]
    exact ⟨_, .rt _, (es_cons (es_if (eb_ninT (xs := deedL) (ee_var 1 rfl) (ee_glob (w := .ref t.D_DEEDS) T.g_DEEDS rfl T.r_DEEDS)) (fun h => absurd h (by simp [hd])) (fun h => es_nil))
  (es_cons (es_if (eb_inT (xs := goL) (ee_var 1 rfl) (ee_glob (w := .ref t.D_GOING_DEEDS) T.g_GOING_DEEDS rfl T.r_GOING_DEEDS)) (fun h => absurd (of_decide_eq_true h) c) (fun h => es_nil))
  (es_one (es_ret (ee_tup (ea_cons (ee_var 2 rfl) (ea_cons (ee_mf (ee_var 0 rfl) h4 nox0 hr (ea_cons (ee_add (ee_var 3 rfl) (ee_gf h3 nox0 hr (ea_cons (ee_var 1 rfl) ea_nil) ⟨_, rfl, rfl⟩)) ea_nil) ⟨_, rfl, rfl⟩) ea_nil)) (Nat.le_of_ble_eq_true rfl))))))⟩
end

/-! ### tracks -/
structure Tr where
  many : Int
  turn : Int
  shift : Int × Int
  strokes : Int
  reach : List Int
  touch : List Int
  area : Int
def Adr.trF (t : Adr) (six : Bool) (x : Tr) : List (Str × Dt) := [("drawer", .obj (t.pc six) []), ("deed_count", .int x.many), ("last_way", .int x.turn), ("last_spot", sp x.shift), ("stroke_count", .int x.strokes), ("reaches", .lst (x.reach.map .int)), ("touches", .lst (x.touch.map .int)), ("crosses", .int x.area)]
def Adr.trD (t : Adr) (six : Bool) (x : Tr) : Dt := .obj t.C_Track (t.trF six x)
def wn (six : Bool) : Nat := if six then 6 else 4
theorem wn_wy (six : Bool) : (wn six : Int) = wy six := by cases six <;> rfl
def rot (six : Bool) (ns : List Int) (f : Int) : List Int := (List.range (wn six)).map fun (w : Nat) => ns.getD (((w : Int) - f) % wy six).toNat 0
def newR (six : Bool) (x y : Tr) (w : Nat) : Int := if (rot six y.reach x.turn).getD w 0 + alg six w x.shift ≤ x.reach.getD w 0 then x.reach.getD w 0 else (rot six y.reach x.turn).getD w 0 + alg six w x.shift
def newT (six : Bool) (x y : Tr) (w : Nat) : Int := if (rot six y.reach x.turn).getD w 0 + alg six w x.shift ≤ x.reach.getD w 0 then x.touch.getD w 0 else (rot six y.touch x.turn).getD w 0 + x.many
def jn (six : Bool) (x y : Tr) : Tr where
  many := x.many + y.many
  turn := (x.turn + y.turn) % wy six
  shift := ad x.shift (tn six (x.turn % wy six).toNat y.shift)
  strokes := x.strokes + y.strokes
  reach := (List.range (wn six)).map (newR six x y)
  touch := (List.range (wn six)).map (newT six x y)
  area := x.area + y.area + cr x.shift (tn six (x.turn % wy six).toNat y.shift)
def stl (six : Bool) : Tr := ⟨0, 0, (0, 0), 0, List.replicate (wn six) 0, List.replicate (wn six) 0, 0⟩
def one (six : Bool) (d : Str) : Tr := ⟨1, (aft six d (0, 0) 0).2, (aft six d (0, 0) 0).1, if d = "stroke" then 1 else 0, (List.range (wn six)).map fun (w : Nat) => if alg six w (aft six d (0, 0) 0).1 > 0 then alg six w (aft six d (0, 0) 0).1 else 0,
  (List.range (wn six)).map fun (w : Nat) => if (if alg six w (aft six d (0, 0) 0).1 > 0 then alg six w (aft six d (0, 0) 0).1 else 0) < 1 then (if alg six w (aft six d (0, 0) 0).1 > 0 then alg six w (aft six d (0, 0) 0).1 else 0) else 1, 0⟩
def trk (six : Bool) (ds : List Str) : Tr := ds.foldl (fun x d => jn six x (one six d)) (stl six)
/-- what is true of a track that can be joined -/
structure WF (six : Bool) (x : Tr) : Prop where
  rl : x.reach.length = wn six
  tl : x.touch.length = wn six
  sm : x.shift.1.natAbs < 2 ^ 90 ∧ x.shift.2.natAbs < 2 ^ 90
def R_init (t : Adr) : Rl := fun ds r => ∃ six x, ds = [.obj (t.pc six) [], .int x.many, .int x.turn, sp x.shift, .int x.strokes, .lst (x.reach.map .int), .lst (x.touch.map .int), .int x.area] ∧ r = .own (.obj t.C_Track (t.trF six x))
def R_get (t : Adr) (f : Tr → Dt) : Rl := fun ds r => ∃ six x, ds = [t.trD six x] ∧ r = .ret (f x)
def R_shift (t : Adr) : Rl := fun ds r => ∃ six x f, ds = [t.trD six x, .int f] ∧ r = .ret (sp (tn six (f % wy six).toNat x.shift))
def R_byw (t : Adr) : Rl := fun ds r => ∃ six x ns f, ds = [t.trD six x, .lst (ns.map .int), .int f] ∧ ns.length = wn six ∧ r = .own (.lst ((rot six ns f).map .int))
def R_reach (t : Adr) : Rl := fun ds r => ∃ six x f, ds = [t.trD six x, .int f] ∧ WF six x ∧ r = .own (.lst ((rot six x.reach f).map .int))
def R_touch (t : Adr) : Rl := fun ds r => ∃ six x f, ds = [t.trD six x, .int f] ∧ WF six x ∧ r = .own (.lst ((rot six x.touch f).map .int))
def R_joined (t : Adr) : Rl := fun ds r => ∃ six x y, ds = [t.trD six x, t.trD six y] ∧ (WF six x ∧ WF six y) ∧ r = .own (.obj t.C_Track (t.trF six (jn six x y)))
def R_still (t : Adr) : Rl := fun ds r => ∃ six, ds = [.obj (t.pc six) []] ∧ r = .own (.obj t.C_Track (t.trF six (stl six)))
def R_onedeed (t : Adr) : Rl := fun ds r => ∃ six d, ds = [.obj (t.pc six) [], .str d] ∧ d ∈ deedL ∧ r = .own (.obj t.C_Track (t.trF six (one six d)))
def R_track_of (t : Adr) : Rl := fun ds r => ∃ (six : Bool) (xs : List Str), ds = [.obj (t.pc six) [], .lst (xs.map .str)] ∧ (∀ d ∈ xs, d ∈ deedL) ∧ xs.length ≤ 1000 ∧ r = .ret (t.trD six (trk six xs))
section
variable {P : Program} {w : World} {K : PySem.W.Frag} {mg : Str → Option Value} {base : Heap} {t : Adr}
theorem ok_init (T : Txt K mg t) : MkF P w K mg base CX 1 "Track" t.C_Track 9 (R_init t) := by
  refine ⟨_, _, _, fnI T.F_Track_init sc_Track_init rfl fun cdv A outer s H E G z ds r hr hl hR => ?_, T.mk_Track, T.m_Track, T.b_Track_init⟩
  obtain ⟨six, x, rfl, rfl⟩ := hR
  exact ⟨_, .nx rfl, es_cons (es_fld (ee_var 1 rfl) T.cl_Track T.na_Track_drawer) (es_cons (es_fld (ee_var 2 rfl) T.cl_Track T.na_Track_deed_count) (es_cons (es_fld (ee_var 3 rfl) T.cl_Track T.na_Track_last_way) (es_cons (es_fld (ee_var 4 rfl) T.cl_Track T.na_Track_last_spot)
    (es_cons (es_fld (ee_var 5 rfl) T.cl_Track T.na_Track_stroke_count) (es_cons (es_fld (ee_var 6 rfl) T.cl_Track T.na_Track_reaches) (es_cons (es_fld (ee_var 7 rfl) T.cl_Track T.na_Track_touches) (es_one (es_fld (ee_var 8 rfl) T.cl_Track T.na_Track_crosses))))))))⟩
theorem ok_many (T : Txt K mg t) : MF P w K mg base CX 1 t.C_Track "many" 1 (R_get t fun x => .int x.many) := by
  refine ⟨T.cl_Track, _, _, _, fnR T.F_Track_many sc_Track_many rfl fun cdv A outer s H E G ds r hr hl hR => ?_, T.me_Track_many_Track, T.b_Track_many⟩
  obtain ⟨six, x, rfl, rfl⟩ := hR
  exact ⟨_, .rt _, es_one (es_ret (ee_fld (fs := t.trF six x) (ee_var 0 rfl) T.cl_Track T.na_Track_deed_count rfl))⟩
theorem ok_turn (T : Txt K mg t) : MF P w K mg base CX 1 t.C_Track "turn" 1 (R_get t fun x => .int x.turn) := by
  refine ⟨T.cl_Track, _, _, _, fnR T.F_Track_turn sc_Track_turn rfl fun cdv A outer s H E G ds r hr hl hR => ?_, T.me_Track_turn_Track, T.b_Track_turn⟩
  obtain ⟨six, x, rfl, rfl⟩ := hR
  exact ⟨_, .rt _, es_one (es_ret (ee_fld (fs := t.trF six x) (ee_var 0 rfl) T.cl_Track T.na_Track_last_way rfl))⟩
theorem ok_strokes (T : Txt K mg t) : MF P w K mg base CX 1 t.C_Track "strokes" 1 (R_get t fun x => .int x.strokes) := by
  refine ⟨T.cl_Track, _, _, _, fnR T.F_Track_strokes sc_Track_strokes rfl fun cdv A outer s H E G ds r hr hl hR => ?_, T.me_Track_strokes_Track, T.b_Track_strokes⟩
  obtain ⟨six, x, rfl, rfl⟩ := hR
  exact ⟨_, .rt _, es_one (es_ret (ee_fld (fs := t.trF six x) (ee_var 0 rfl) T.cl_Track T.na_Track_stroke_count rfl))⟩
theorem ok_area (T : Txt K mg t) : MF P w K mg base CX 1 t.C_Track "area" 1 (R_get t fun x => .int x.area) := by
  refine ⟨T.cl_Track, _, _, _, fnR T.F_Track_area sc_Track_area rfl fun cdv A outer s H E G ds r hr hl hR => ?_, T.me_Track_area_Track, T.b_Track_area⟩
  obtain ⟨six, x, rfl, rfl⟩ := hR
  exact ⟨_, .rt _, es_one (es_ret (ee_fld (fs := t.trF six x) (ee_var 0 rfl) T.cl_Track T.na_Track_crosses rfl))⟩
theorem fn_shift (T : Txt K mg t) : FnOk P w K mg base CX 4 t.f_Track_shift t.d_Track_shift ["self", "first"] (spR K 2 (R_shift t)) := by
  refine fnG T.F_Track_shift sc_Track_shift rfl fun cdv A outer s H E G ds r hr hl hR => ?_
  obtain ⟨six, x, f, rfl, rfl⟩ := hR
  have h1 := ok_turned (P := P) (w := w) (base := base) T six
  exact ⟨_, .rt _, es_one (es_ret (ee_mf (ee_fld (fs := t.trF six x) (ee_var 0 rfl) T.cl_Track T.na_Track_drawer rfl) h1 nox0 hr (ea_cons (ee_fld (fs := t.trF six x) (ee_var 0 rfl) T.cl_Track T.na_Track_last_spot rfl) (ea_cons (ee_var 1 rfl) ea_nil)) ⟨_, _, rfl, rfl⟩))⟩
theorem ok_shift (T : Txt K mg t) : MFd P w K mg base CX 4 t.C_Track "shift" 2 [] (R_shift t) := ⟨T.cl_Track, _, _, _, [], [], fn_shift T, T.me_Track_shift_Track, T.b_Track_shift, .nil, fun _ => .nil⟩
/-! the numbers by ways -/
abbrev bS_by_ways : Scope := sLc ((defBody s_Track_by_ways).getD 0 (.Pass ⟨0, 0, 0, 0⟩))
theorem bk_by_ways : chkBlk bS_by_ways (defScope s_Track_by_ways) n_Track_by_ways ["way", "self", "numbers", "first"] [0, 1, 2] "way" = true := by decide +kernel
theorem atI_map {ns : List Int} {k : Int} (h0 : 0 ≤ k) (h1 : k < ns.length) : atI (ns.map Dt.int) k = some (.int (ns.getD k.toNat 0)) := by
  obtain ⟨n, rfl⟩ := Int.eq_ofNat_of_zero_le h0
  refine atI_nat ?_
  have h : n < ns.length := by omega
  rw [List.getElem?_map, List.getElem?_eq_getElem h, Int.toNat_natCast, List.getD_eq_getElem?_getD, List.getElem?_eq_getElem h]; rfl
theorem getD_mapD {f : Nat → Int} {n k : Nat} (h : k < n) : (((List.range n).map f).map Dt.int).getD k .non = .int (f k) := by
  rw [List.getD_eq_getElem?_getD, List.getElem?_map, List.getElem?_map, List.getElem?_range h]; rfl
theorem ok_by_ways (T : Txt K mg t) : MF P w K mg base CX 3 t.C_Track "by_ways" 3 (R_byw t) := by
  refine ⟨T.cl_Track, _, _, _, fnR T.F_Track_by_ways sc_Track_by_ways rfl fun cdv A outer s H E G ds r hr hl hR => ?_, T.me_Track_by_ways_Track, T.b_Track_by_ways⟩
  obtain ⟨six, x, ns, f, rfl, hn, rfl⟩ := hR
  have h1 := ok_way_of (P := P) (w := w) (base := base) T six
  have hw := wn_wy six
  have hw6 : wn six ≤ 6 := by cases six <;> decide
  have hn' : ns.length = wn six := hn
  refine ⟨_, .ro _, es_one (es_retO (eo_lc (N := ["way", "self", "numbers", "first"]) (ix := [0, 1, 2]) rfl (blk_of bk_by_ways) (pi_range1 rfl T.z_range (ea_cons (ee_lenL T.z_len (ee_var 1 rfl)) ea_nil)) (src_range1 ?_) (fun k hk C fp s' H' G' => ?_) ?_ ?_))⟩
  · rw [List.length_map]; omega
  · rw [List.length_map, Int.toNat_natCast, hn'] at hk
    have e : ((rot six ns f).map Dt.int).getD k .non = .int (ns.getD (((k : Int) - f) % wy six).toNat 0) := getD_mapD hk
    rw [e]
    have hm0 := Int.emod_nonneg ((k : Int) - f) (Int.ne_of_gt (wy_pos six))
    have hm1 := Int.emod_lt_of_pos ((k : Int) - f) (wy_pos six)
    exact ee_ixL (ee_var 2 rfl) (ee_mf (ee_fld (fs := t.trF six x) (ee_var 1 rfl) T.cl_Track T.na_Track_drawer rfl) h1 nox0 hr (ea_cons (ee_sub (ee_var 0 rfl) (ee_var 3 rfl)) ea_nil) ⟨_, rfl, rfl⟩) (atI_map hm0 (by omega))
  · rw [List.length_map, List.length_map, Int.toNat_natCast, hn']
    unfold rot
    simp
  · rw [List.length_map, Int.toNat_natCast]
    exact Nat.le_of_lt (small1000 (by omega))
end

section
variable {P : Program} {w : World} {K : PySem.W.Frag} {mg : Str → Option Value} {base : Heap} {t : Adr}
theorem fn_reach (T : Txt K mg t) : FnOk P w K mg base CX 4 t.f_Track_reach t.d_Track_reach ["self", "first"] (spR K 2 (R_reach t)) := by
  refine fnG T.F_Track_reach sc_Track_reach rfl fun cdv A outer s H E G ds r hr hl hR => ?_
  obtain ⟨six, x, f, rfl, hw, rfl⟩ := hR
  have h1 := mf_d (ok_by_ways (P := P) (w := w) (base := base) T)
  exact ⟨_, .ro _, es_one (es_retO (eo_mf (fs := t.trF six x) (ee_var 0 rfl) h1 nox0 hr (ea_cons (ee_fld (fs := t.trF six x) (ee_var 0 rfl) T.cl_Track T.na_Track_reaches rfl) (ea_cons (ee_var 1 rfl) ea_nil)) ⟨six, x, _, _, rfl, hw.rl, rfl⟩))⟩
theorem fn_touch (T : Txt K mg t) : FnOk P w K mg base CX 4 t.f_Track_touch t.d_Track_touch ["self", "first"] (spR K 2 (R_touch t)) := by
  refine fnG T.F_Track_touch sc_Track_touch rfl fun cdv A outer s H E G ds r hr hl hR => ?_
  obtain ⟨six, x, f, rfl, hw, rfl⟩ := hR
  have h1 := mf_d (ok_by_ways (P := P) (w := w) (base := base) T)
  exact ⟨_, .ro _, es_one (es_retO (eo_mf (fs := t.trF six x) (ee_var 0 rfl) h1 nox0 hr (ea_cons (ee_fld (fs := t.trF six x) (ee_var 0 rfl) T.cl_Track T.na_Track_touches rfl) (ea_cons (ee_var 1 rfl) ea_nil)) ⟨six, x, _, _, rfl, hw.tl, rfl⟩))⟩
theorem ok_reach (T : Txt K mg t) : MFd P w K mg base CX 4 t.C_Track "reach" 2 [] (R_reach t) := ⟨T.cl_Track, _, _, _, [], [], fn_reach T, T.me_Track_reach_Track, T.b_Track_reach, .nil, fun _ => .nil⟩
theorem ok_touch (T : Txt K mg t) : MFd P w K mg base CX 4 t.C_Track "touch" 2 [] (R_touch t) := ⟨T.cl_Track, _, _, _, [], [], fn_touch T, T.me_Track_touch_Track, T.b_Track_touch, .nil, fun _ => .nil⟩
theorem ok_still (T : Txt K mg t) : GF P w K mg base CX 3 "still" 1 (R_still t) := by
  refine ⟨_, _, _, fnR T.F_still sc_still rfl fun cdv A outer s H E G ds r hr hl hR => ?_, T.m_still, T.k_still, T.b_still⟩
  obtain ⟨six, rfl, rfl⟩ := hR
  have h1 := ok_ways (P := P) (w := w) (base := base) T six
  have h2 := ok_init (P := P) (w := w) (base := base) T
  have e : ∀ {X : Cx} {G : Gr} {dl : List Slot} {e : Expr}, EO X G dl e (.lst (List.replicate (wy six).toNat [Dt.int 0]).flatten) → EE X G dl e (.lst ((List.replicate (wn six) (0 : Int)).map .int)) := fun h => by
    cases six
    · exact ee_ol h
    · exact ee_ol h
  have hb : -(2 ^ 63) ≤ wy six ∧ wy six < 2 ^ 63 ∧ [Dt.int 0].length * (wy six).toNat ≤ sizeLine := by cases six <;> decide
  exact ⟨_, .ro _, es_one (es_retO (eo_make h2 nox0 hr (ea_cons (ee_var 0 rfl) (ea_cons ee_int (ea_cons ee_int (ea_cons (ee_tup (ea_cons ee_int (ea_cons ee_int ea_nil)) (Nat.le_of_ble_eq_true rfl)) (ea_cons ee_int
    (ea_cons (e (eo_rep (ee_lst (ea_cons ee_int ea_nil) (Nat.le_of_ble_eq_true rfl)) (ee_mf0 (ee_var 0 rfl) h1 nox0 hr ⟨rfl, rfl⟩) hb.1 hb.2.1 hb.2.2)) (ea_cons (e (eo_rep (ee_lst (ea_cons ee_int ea_nil) (Nat.le_of_ble_eq_true rfl)) (ee_mf0 (ee_var 0 rfl) h1 nox0 hr ⟨rfl, rfl⟩) hb.1 hb.2.1 hb.2.2)) (ea_cons ee_int ea_nil)))))))) ⟨six, stl six, rfl, rfl⟩))⟩
/-! one deed -/
abbrev bS_od1 : Scope := sLc ((defBody s_track_of_deed).getD 2 (.Pass ⟨0, 0, 0, 0⟩))
abbrev bS_od2 : Scope := sLc ((defBody s_track_of_deed).getD 3 (.Pass ⟨0, 0, 0, 0⟩))
theorem bk_od1 : chkBlk bS_od1 (defScope s_track_of_deed) n_track_of_deed ["way", "pen", "spot"] [0, 3] "way" = true := by decide +kernel
theorem bk_od2 : chkBlk bS_od2 (defScope s_track_of_deed) n_track_of_deed ["reach"] [] "reach" = true := by decide +kernel
def far1 (six : Bool) (d : Str) (w : Nat) : Int := if alg six w (aft six d (0, 0) 0).1 > 0 then alg six w (aft six d (0, 0) 0).1 else 0
theorem ok_onedeed (T : Txt K mg t) : GF P w K mg base CX 6 "track_of_deed" 2 (R_onedeed t) := by
  refine ⟨_, _, _, fnR T.F_track_of_deed sc_track_of_deed rfl fun cdv A outer s H E G ds r hr hl hR => ?_, T.m_track_of_deed, T.k_track_of_deed, T.b_track_of_deed⟩
  obtain ⟨six, d, rfl, hd, rfl⟩ := hR
  have h1 := ok_ways (P := P) (w := w) (base := base) T six
  have h2 := ok_init (P := P) (w := w) (base := base) T
  have h3 := ok_after (P := P) (w := w) (base := base) T six
  have h4 := ok_along (P := P) (w := w) (base := base) T six
  have hw := wn_wy six
  have hw6 : wn six ≤ 6 := by cases six <;> decide
  have hwt : (wy six).toNat = wn six := by omega
  have nd := sc_track_of_deed.nd
  refine ⟨_, .ro _, es_cons (es_set 2 nd (ee_mf (ee_var 0 rfl) h3 nox0 hr (ea_cons (ee_var 1 rfl) (ea_cons (ee_tup (ea_cons ee_int (ea_cons ee_int ea_nil)) (Nat.le_of_ble_eq_true rfl)) (ea_cons ee_int ea_nil))) ⟨d, (0, 0), 0, rfl, hd, rfl⟩)) (es_cons (es_set 3 nd (ee_ixT (ee_var 2 rfl) ee_int rfl))
    (es_cons (es_lc (ys := ((List.range (wn six)).map (far1 six d)).map .int) 4 (N := ["way", "pen", "spot"]) (ix := [0, 3]) rfl nd (blk_of bk_od1) (pi_range1 rfl T.z_range (ea_cons (ee_mf0 (ee_var 0 rfl) h1 nox0 hr ⟨rfl, rfl⟩) ea_nil)) (src_range1 ?_) (fun k hk C fp s' H' G' => ?_) ?_ ?_)
    (es_frz 4 (es_cons (es_lc (ys := ((List.range (wn six)).map (fun k => if far1 six d k < 1 then far1 six d k else 1)).map .int) 5 (N := ["reach"]) (ix := []) rfl nd (blk_of bk_od2) (pi_list (ee_var 4 rfl)) src_list (fun k hk C fp s' H' G' => ?_) ?_ ?_)
    (es_frz 5 (es_one (es_retO (eo_make h2 nox0 hr (ea_cons (ee_var 0 rfl) (ea_cons ee_int (ea_cons (ee_ixT (ee_var 2 rfl) ee_int rfl) (ea_cons (ee_var 3 rfl) (ea_cons (ee_to (d := .int (if d = "stroke" then 1 else 0)) ?_ rfl) (ea_cons (ee_var 4 rfl) (ea_cons (ee_var 5 rfl) (ea_cons ee_int ea_nil)))))))) ⟨six, one six d, rfl, rfl⟩)))))))) ⟩
  · omega
  · rw [hwt] at hk
    rw [getD_mapD hk]
    exact ee_max T.z_max rfl (ea_cons ee_int (ea_cons (ee_mf (ee_var 1 rfl) h4 nox0 hr (ea_cons (ee_var 0 rfl) (ea_cons (ee_var 2 rfl) ea_nil)) ⟨_, _, rfl, ⟨by omega, by omega⟩, rfl⟩) ea_nil))
  · rw [List.length_map, List.length_map, List.length_range, hwt]
  · rw [hwt]; exact Nat.le_of_lt (small1000 (by omega))
  · rw [List.length_map, List.length_map, List.length_range] at hk
    rw [show (((List.range (wn six)).map (fun k => if far1 six d k < 1 then far1 six d k else 1)).map Dt.int).getD k .non = .int (if far1 six d k < 1 then far1 six d k else 1) from getD_mapD hk]
    have e : ((List.map (far1 six d) (List.range (wn six))).map Dt.int).getD k .non = .int (far1 six d k) := getD_mapD hk
    refine ee_min (i := 1) (j := far1 six d k) T.z_min rfl (ea_cons ee_int (ea_cons ?_ ea_nil))
    rw [← e]
    exact ee_var 0 rfl
  · simp
  · rw [List.length_map, List.length_map, List.length_range]; exact Nat.le_of_lt (small1000 (by omega))
  · exact ee_ifE (eb_eqS (ee_var 1 rfl) ee_str) (fun h => ee_to ee_int (by rw [if_pos (of_decide_eq_true h)])) (fun h => ee_to ee_int (by rw [if_neg (of_decide_eq_false h)]))
end

/-! ### joined -/
theorem mix_set {f g : Nat → Int} {n k : Nat} (h : k < n) : ((List.range n).map fun w => if w < k then f w else g w).set k (f k) = (List.range n).map fun w => if w < k + 1 then f w else g w := by
  refine List.ext_getElem? fun i => ?_
  by_cases hi : i < n
  · by_cases e : k = i
    · subst e
      rw [List.getElem?_set_self (by simp; exact h), List.getElem?_map, List.getElem?_range h]
      simp
    · rw [List.getElem?_set_ne e, List.getElem?_map, List.getElem?_map, List.getElem?_range hi]
      have : (i < k + 1) ↔ (i < k) := by omega
      simp [this]
  · rw [List.getElem?_eq_none (by simp; omega), List.getElem?_eq_none (by simp; omega)]
theorem mix_0 {f g : Nat → Int} {n : Nat} : ((List.range n).map fun w => if w < 0 then f w else g w) = (List.range n).map g := by simp
theorem mix_n {f g : Nat → Int} {n : Nat} : ((List.range n).map fun w => if w < n then f w else g w) = (List.range n).map f := by
  refine List.map_congr_left fun i hi => ?_
  rw [if_pos (List.mem_range.mp hi)]
theorem mapD_set {l : List Int} {k : Nat} {z : Int} : (l.map Dt.int).set k (.int z) = (l.set k z).map Dt.int := by rw [List.map_set]
theorem rot_get (six : Bool) (ns : List Int) (f : Int) : (List.range (wn six)).map (fun w => (rot six ns f).getD w 0) = rot six ns f := by
  refine List.ext_getElem? fun i => ?_
  by_cases hi : i < wn six
  · rw [List.getElem?_map, List.getElem?_range hi]
    have hl : i < (rot six ns f).length := by unfold rot; simpa using hi
    rw [List.getElem?_eq_getElem hl]
    simp [List.getD_eq_getElem?_getD, hl]
  · rw [List.getElem?_eq_none (by simp; omega), List.getElem?_eq_none (by unfold rot; simp; omega)]
theorem ixN_nat {n k : Nat} (h : k < n) : ixN n (k : Int) = some k := by
  unfold ixN
  simp [h]
theorem tn_sm {six : Bool} {b : Int} {p : Int × Int} (h : p.1.natAbs < 2 ^ 90 ∧ p.2.natAbs < 2 ^ 90) : sm (tn six (b % wy six).toNat p) := by
  obtain ⟨x, y⟩ := p
  obtain ⟨h1, h2⟩ := h
  simp only at h1 h2
  unfold sm
  cases six with
  | false =>
    have e : wy false = 4 := rfl
    rw [e]
    have h : b % 4 = 0 ∨ b % 4 = 1 ∨ b % 4 = 2 ∨ b % 4 = 3 := by omega
    rcases h with h | h | h | h <;> rw [h] <;> simp [tn, Pf.tl] <;> omega
  | true =>
    have e : wy true = 6 := rfl
    rw [e]
    have h : b % 6 = 0 ∨ b % 6 = 1 ∨ b % 6 = 2 ∨ b % 6 = 3 ∨ b % 6 = 4 ∨ b % 6 = 5 := by omega
    rcases h with h | h | h | h | h | h <;> rw [h] <;> simp [tn, Pf.tl] <;> omega
section
variable {P : Program} {w : World} {K : PySem.W.Frag} {mg : Str → Option Value} {base : Heap} {t : Adr}
theorem ok_joined (T : Txt K mg t) : MF P w K mg base CX 5 t.C_Track "joined" 2 (R_joined t) := by
  refine ⟨T.cl_Track, _, _, _, fnR T.F_Track_joined sc_Track_joined rfl fun cdv A outer s H E G ds r hr hl hR => ?_, T.me_Track_joined_Track, T.b_Track_joined⟩
  obtain ⟨six, x, y, rfl, ⟨wx, wy'⟩, rfl⟩ := hR
  have m_shift := ok_shift (P := P) (w := w) (base := base) T
  have m_reach := ok_reach (P := P) (w := w) (base := base) T
  have m_touch := ok_touch (P := P) (w := w) (base := base) T
  have m_ways := ok_ways (P := P) (w := w) (base := base) T six
  have m_along := ok_along (P := P) (w := w) (base := base) T six
  have m_way_of := ok_way_of (P := P) (w := w) (base := base) T six
  have m_many := ok_many (P := P) (w := w) (base := base) T
  have m_turn := ok_turn (P := P) (w := w) (base := base) T
  have m_strokes := ok_strokes (P := P) (w := w) (base := base) T
  have m_area := ok_area (P := P) (w := w) (base := base) T
  have h_added := ok_added (P := P) (w := w) (base := base) T
  have h_cross := ok_cross (P := P) (w := w) (base := base) T
  have h_init := ok_init (P := P) (w := w) (base := base) T
  have hw := wn_wy six
  have hwt : (wy six).toNat = wn six := by omega
  have hw6 : wn six ≤ 6 := by cases six <;> decide
  have nd := sc_Track_joined.nd
  let S : Nat → List Slot := fun k => [.val (t.trD six x), .val (t.trD six y), .val (.obj (t.pc six) []), .val (sp (tn six (x.turn % wy six).toNat y.shift)),
    .own (.lst (((List.range (wn six)).map fun w => if w < k then newR six x y w else (rot six y.reach x.turn).getD w 0).map .int)),
    .own (.lst (((List.range (wn six)).map fun w => if w < k then newT six x y w else (rot six y.touch x.turn).getD w 0).map .int)), .unk]
  have e0 : S 0 = [.val (t.trD six x), .val (t.trD six y), .val (.obj (t.pc six) []), .val (sp (tn six (x.turn % wy six).toNat y.shift)), .own (.lst ((rot six y.reach x.turn).map .int)), .own (.lst ((rot six y.touch x.turn).map .int)), .unk] := by
    show [_, _, _, _, Slot.own (.lst (((List.range (wn six)).map fun w => if w < 0 then _ else _).map .int)), Slot.own (.lst (((List.range (wn six)).map fun w => if w < 0 then _ else _).map .int)), _] = _
    rw [mix_0, mix_0, rot_get, rot_get]
  have en : S (wn six) = [.val (t.trD six x), .val (t.trD six y), .val (.obj (t.pc six) []), .val (sp (tn six (x.turn % wy six).toNat y.shift)), .own (.lst ((jn six x y).reach.map .int)), .own (.lst ((jn six x y).touch.map .int)), .unk] := by
    show [_, _, _, _, Slot.own (.lst (((List.range (wn six)).map fun w => if w < wn six then _ else _).map .int)), Slot.own (.lst (((List.range (wn six)).map fun w => if w < wn six then _ else _).map .int)), _] = _
    rw [mix_n, mix_n]; rfl
  refine ⟨_, .ro _, es_cons (es_set 2 nd (ee_fld (fs := t.trF six x) (ee_var 0 rfl) T.cl_Track T.na_Track_drawer rfl))
    (es_cons (es_set 3 nd (ee_mfd (fs := t.trF six y) (ee_var 1 rfl) m_shift nox0 hr (ea_cons (ee_fld (fs := t.trF six x) (ee_var 0 rfl) T.cl_Track T.na_Track_last_way rfl) ea_nil) ⟨six, y, _, rfl, rfl⟩))
    (es_cons (es_setO 4 nd (eo_mf (fs := t.trF six y) (ee_var 1 rfl) m_reach nox0 hr (ea_cons (ee_fld (fs := t.trF six x) (ee_var 0 rfl) T.cl_Track T.na_Track_last_way rfl) ea_nil) ⟨six, y, _, rfl, wy', rfl⟩))
    (es_cons (es_setO 5 nd (eo_mf (fs := t.trF six y) (ee_var 1 rfl) m_touch nox0 hr (ea_cons (ee_fld (fs := t.trF six x) (ee_var 0 rfl) T.cl_Track T.na_Track_last_way rfl) ea_nil) ⟨six, y, _, rfl, wy', rfl⟩))
    (es_cons (es_range1 (m := wn six) 6 S nd rfl PassesOwn.leaving T.z_range (ea_cons (ee_mf0 (ee_var 2 rfl) m_ways nox0 hr ⟨rfl, rfl⟩) ea_nil) ⟨by omega, by omega⟩ (by rw [e0]; exact Le.of ⟨rfl, rfl, rfl, rfl, rfl, rfl, trivial⟩) (by omega) (fun k hk => ?_) (by rw [hwt]; exact .all rfl))
    ?_))))⟩
  · have hk' : k < ((List.range (wn six)).map fun w => if w < k then newR six x y w else (rot six y.reach x.turn).getD w 0).length := by simpa using hk
    have hk'' : k < ((List.range (wn six)).map fun w => if w < k then newT six x y w else (rot six y.touch x.turn).getD w 0).length := by simpa using hk
    have ga : ∀ (f g : Nat → Int) (z : Int), atI ((((List.range (wn six)).map fun w => if w < k then f w else g w)).map Dt.int) (k : Int) = some (.int (g k)) := fun f g z => by
      refine atI_nat ?_
      rw [List.getElem?_map, List.getElem?_map, List.getElem?_range hk]
      simp
    have gs : ∀ (l : List Int) (z : Int), l.length = wn six → atI ((l.map Dt.int).set k (.int z)) (k : Int) = some (.int z) := fun l z hl => by
      refine atI_nat ?_
      rw [List.getElem?_set_self (by simp; omega)]
    have ix : ∀ (l : List Dt), l.length = wn six → ixN l.length (k : Int) = some k := fun l hl => ixN_nat (by omega)
    have xr : atI (x.reach.map Dt.int) (k : Int) = some (.int (x.reach.getD k 0)) := by
      have := atI_map (ns := x.reach) (k := k) (by omega) (by rw [wx.rl]; omega)
      simpa using this
    have xt : atI (x.touch.map Dt.int) (k : Int) = some (.int (x.touch.getD k 0)) := by
      have := atI_map (ns := x.touch) (k := k) (by omega) (by rw [wx.tl]; omega)
      simpa using this
    have lA : (((List.range (wn six)).map fun w => if w < k then newR six x y w else (rot six y.reach x.turn).getD w 0).map Dt.int).length = wn six := by simp
    have lB : (((List.range (wn six)).map fun w => if w < k then newT six x y w else (rot six y.touch x.turn).getD w 0).map Dt.int).length = wn six := by simp
    have lA0 : ((List.range (wn six)).map fun w => if w < k then newR six x y w else (rot six y.reach x.turn).getD w 0).length = wn six := by simp
    have iA := ix _ lA
    have iB := ix _ lB
    have iA' : ∀ z, ixN (List.length (List.set (((List.range (wn six)).map fun w => if w < k then newR six x y w else (rot six y.reach x.turn).getD w 0).map Dt.int) k z)) (k : Int) = some k := fun z => ix _ (by rw [List.length_set]; exact lA)
    have iB' : ∀ z, ixN (List.length (List.set (((List.range (wn six)).map fun w => if w < k then newT six x y w else (rot six y.touch x.turn).getD w 0).map Dt.int) k z)) (k : Int) = some k := fun z => ix _ (by rw [List.length_set]; exact lB)
    by_cases c : (rot six y.reach x.turn).getD k 0 + alg six k x.shift ≤ x.reach.getD k 0
    · have eR : newR six x y k = x.reach.getD k 0 := if_pos c
      have eT : newT six x y k = x.touch.getD k 0 := if_pos c
      refine .nx (es_cons (es_ixSet (m := k) 4 (ee_add (ee_ixO 4 (ee_var 6 rfl) (ga _ _ 0)) (ee_mf (ee_var 2 rfl) m_along nox0 hr (ea_cons (ee_var 6 rfl) (ea_cons (ee_fld (fs := t.trF six x) (ee_var 0 rfl) T.cl_Track T.na_Track_last_spot rfl) ea_nil)) ⟨_, _, rfl, ⟨by omega, by omega⟩, rfl⟩)) (ee_var 6 rfl) iA)
        (es_cons (es_ixSet (m := k) 5 (ee_add (ee_ixO 5 (ee_var 6 rfl) (ga _ _ 0)) (ee_fld (fs := t.trF six x) (ee_var 0 rfl) T.cl_Track T.na_Track_deed_count rfl)) (ee_var 6 rfl) iB)
        (es_one (es_if (eb_ge (ee_ixL (ee_fld (fs := t.trF six x) (ee_var 0 rfl) T.cl_Track T.na_Track_reaches rfl) (ee_var 6 rfl) xr) (ee_ixO 4 (ee_var 6 rfl) (gs _ _ lA0)))
          (fun h => es_cons (es_ixSet (m := k) 4 (ee_ixL (ee_fld (fs := t.trF six x) (ee_var 0 rfl) T.cl_Track T.na_Track_reaches rfl) (ee_var 6 rfl) xr) (ee_var 6 rfl) (iA' _))
            (es_one (es_ixSet (m := k) 5 (ee_ixL (ee_fld (fs := t.trF six x) (ee_var 0 rfl) T.cl_Track T.na_Track_touches rfl) (ee_var 6 rfl) xt) (ee_var 6 rfl) (iB' _))))
          (fun h => absurd c (of_decide_eq_false h)))))) (Le.of ⟨rfl, rfl, rfl, rfl, ?_, ?_, trivial⟩)
      · rw [List.set_set, mapD_set, ← eR, mix_set hk]
      · rw [List.set_set, mapD_set, ← eT, mix_set hk]
    · have eR : newR six x y k = (rot six y.reach x.turn).getD k 0 + alg six k x.shift := if_neg c
      have eT : newT six x y k = (rot six y.touch x.turn).getD k 0 + x.many := if_neg c
      refine .nx (es_cons (es_ixSet (m := k) 4 (ee_add (ee_ixO 4 (ee_var 6 rfl) (ga _ _ 0)) (ee_mf (ee_var 2 rfl) m_along nox0 hr (ea_cons (ee_var 6 rfl) (ea_cons (ee_fld (fs := t.trF six x) (ee_var 0 rfl) T.cl_Track T.na_Track_last_spot rfl) ea_nil)) ⟨_, _, rfl, ⟨by omega, by omega⟩, rfl⟩)) (ee_var 6 rfl) iA)
        (es_cons (es_ixSet (m := k) 5 (ee_add (ee_ixO 5 (ee_var 6 rfl) (ga _ _ 0)) (ee_fld (fs := t.trF six x) (ee_var 0 rfl) T.cl_Track T.na_Track_deed_count rfl)) (ee_var 6 rfl) iB)
        (es_one (es_if (eb_ge (ee_ixL (ee_fld (fs := t.trF six x) (ee_var 0 rfl) T.cl_Track T.na_Track_reaches rfl) (ee_var 6 rfl) xr) (ee_ixO 4 (ee_var 6 rfl) (gs _ _ lA0)))
          (fun h => absurd (of_decide_eq_true h) c)
          (fun h => es_nil))))) (Le.of ⟨rfl, rfl, rfl, rfl, ?_, ?_, trivial⟩)
      · rw [mapD_set, ← eR, mix_set hk]
      · rw [mapD_set, ← eT, mix_set hk]
  · rw [en]
    exact es_frz 4 (es_frz 5 (es_one (es_retO (eo_make h_init nox0 hr (ea_cons (ee_var 2 rfl) (ea_cons (ee_add (ee_fld (fs := t.trF six x) (ee_var 0 rfl) T.cl_Track T.na_Track_deed_count rfl) (ee_mf0 (fs := t.trF six y) (ee_var 1 rfl) m_many nox0 hr ⟨six, y, rfl, rfl⟩))
      (ea_cons (ee_mf (ee_var 2 rfl) m_way_of nox0 hr (ea_cons (ee_add (ee_fld (fs := t.trF six x) (ee_var 0 rfl) T.cl_Track T.na_Track_last_way rfl) (ee_mf0 (fs := t.trF six y) (ee_var 1 rfl) m_turn nox0 hr ⟨six, y, rfl, rfl⟩)) ea_nil) ⟨_, rfl, rfl⟩)
      (ea_cons (ee_gf h_added nox0 hr (ea_cons (ee_fld (fs := t.trF six x) (ee_var 0 rfl) T.cl_Track T.na_Track_last_spot rfl) (ea_cons (ee_var 3 rfl) ea_nil)) ⟨_, _, rfl, rfl⟩)
      (ea_cons (ee_add (ee_fld (fs := t.trF six x) (ee_var 0 rfl) T.cl_Track T.na_Track_stroke_count rfl) (ee_mf0 (fs := t.trF six y) (ee_var 1 rfl) m_strokes nox0 hr ⟨six, y, rfl, rfl⟩))
      (ea_cons (ee_var 4 rfl) (ea_cons (ee_var 5 rfl) (ea_cons (ee_add (ee_add (ee_fld (fs := t.trF six x) (ee_var 0 rfl) T.cl_Track T.na_Track_crosses rfl) (ee_mf0 (fs := t.trF six y) (ee_var 1 rfl) m_area nox0 hr ⟨six, y, rfl, rfl⟩))
        (ee_gf h_cross nox0 hr (ea_cons (ee_fld (fs := t.trF six x) (ee_var 0 rfl) T.cl_Track T.na_Track_last_spot rfl) (ea_cons (ee_var 3 rfl) ea_nil)) ⟨_, _, rfl, ⟨⟨by have := wx.sm; omega, by have := wx.sm; omega⟩, tn_sm wy'.sm⟩, rfl⟩)) ea_nil)))))))) ⟨six, jn six x y, rfl, rfl⟩))))
end

/-! ### the track of a list of deeds -/
theorem trk_snoc (six : Bool) (xs : List Str) (d : Str) : trk six (xs ++ [d]) = jn six (trk six xs) (one six d) := by
  unfold trk
  rw [List.foldl_append]; rfl
theorem tn_zero (six : Bool) : ∀ n : Nat, tn six n (0, 0) = (0, 0)
  | 0 => rfl
  | n + 1 => by rw [tn, tn_zero six n]; cases six <;> rfl
theorem one_spot (six : Bool) (d : Str) : (aft six d (0, 0) 0).1 = if d ∈ goL then (1, 0) else (0, 0) := by
  have e : tn six ((0 : Int) % wy six).toNat (1, 0) = (1, 0) := by cases six <;> rfl
  unfold aft
  show (if d ∈ goL then ad (0, 0) (tn six ((0 : Int) % wy six).toNat (1, 0)) else (0, 0)) = _
  rw [e]; rfl
theorem tn_unit (six : Bool) (b : Int) : (tn six (b % wy six).toNat (1, 0)).1.natAbs ≤ 1 ∧ (tn six (b % wy six).toNat (1, 0)).2.natAbs ≤ 1 := by
  cases six with
  | false =>
    have e : wy false = 4 := rfl
    rw [e]
    have h : b % 4 = 0 ∨ b % 4 = 1 ∨ b % 4 = 2 ∨ b % 4 = 3 := by omega
    rcases h with h | h | h | h <;> rw [h] <;> decide
  | true =>
    have e : wy true = 6 := rfl
    rw [e]
    have h : b % 6 = 0 ∨ b % 6 = 1 ∨ b % 6 = 2 ∨ b % 6 = 3 ∨ b % 6 = 4 ∨ b % 6 = 5 := by omega
    rcases h with h | h | h | h | h | h <;> rw [h] <;> decide
theorem jn_unit (six : Bool) (x : Tr) (d : Str) : (jn six x (one six d)).shift.1.natAbs ≤ x.shift.1.natAbs + 1 ∧ (jn six x (one six d)).shift.2.natAbs ≤ x.shift.2.natAbs + 1 := by
  show (x.shift.1 + (tn six (x.turn % wy six).toNat (aft six d (0, 0) 0).1).1).natAbs ≤ _ ∧ (x.shift.2 + (tn six (x.turn % wy six).toNat (aft six d (0, 0) 0).1).2).natAbs ≤ _
  rw [one_spot]
  by_cases c : d ∈ goL
  · rw [if_pos c]
    have := tn_unit six x.turn
    omega
  · rw [if_neg c, tn_zero]
    simp
theorem wf_one (six : Bool) (d : Str) : WF six (one six d) := ⟨by unfold one; simp, by unfold one; simp, by
  show (aft six d (0, 0) 0).1.1.natAbs < _ ∧ (aft six d (0, 0) 0).1.2.natAbs < _
  rw [one_spot]
  by_cases c : d ∈ goL
  · rw [if_pos c]; decide
  · rw [if_neg c]; decide⟩
theorem wf_stl (six : Bool) : WF six (stl six) := ⟨by unfold stl; simp, by unfold stl; simp, by show (0 : Int).natAbs < _ ∧ (0 : Int).natAbs < _; decide⟩
theorem trk_sm (six : Bool) : ∀ (n : Nat) (xs : List Str), xs.length = n → (trk six xs).shift.1.natAbs ≤ n ∧ (trk six xs).shift.2.natAbs ≤ n ∧ (trk six xs).reach.length = wn six ∧ (trk six xs).touch.length = wn six := by
  intro n
  induction n with
  | zero =>
    intro xs h
    have e : xs = [] := List.eq_nil_of_length_eq_zero h
    subst e
    have w := wf_stl six
    exact ⟨Nat.le_refl _, Nat.le_refl _, w.rl, w.tl⟩
  | succ n ih =>
    intro xs h
    have hne : xs ≠ [] := fun e => by rw [e] at h; cases h
    have e := List.dropLast_concat_getLast hne
    have hl : xs.dropLast.length = n := by rw [List.length_dropLast]; omega
    obtain ⟨h1, h2, h3, h4⟩ := ih _ hl
    rw [← e, trk_snoc]
    obtain ⟨q1, q2⟩ := jn_unit six (trk six xs.dropLast) (xs.getLast hne)
    refine ⟨by omega, by omega, ?_, ?_⟩
    · unfold jn; simp
    · unfold jn; simp
theorem wf_trk (six : Bool) {xs : List Str} (h : xs.length ≤ 100000) : WF six (trk six xs) := by
  obtain ⟨h1, h2, h3, h4⟩ := trk_sm six _ xs rfl
  exact ⟨h3, h4, by omega, by omega⟩
section
variable {P : Program} {w : World} {K : PySem.W.Frag} {mg : Str → Option Value} {base : Heap} {t : Adr}
theorem ok_track_of (T : Txt K mg t) : GF P w K mg base CX 7 "track_of" 2 (R_track_of t) := by
  refine ⟨_, _, _, fnR T.F_track_of sc_track_of rfl fun cdv A outer s H E G ds r hr hl hR => ?_, T.m_track_of, T.k_track_of, T.b_track_of⟩
  obtain ⟨six, xs, rfl, hd, hn, rfl⟩ := hR
  have h_still := ok_still (P := P) (w := w) (base := base) T
  have h_one := ok_onedeed (P := P) (w := w) (base := base) T
  have m_joined := mf_d (ok_joined (P := P) (w := w) (base := base) T)
  have nd := sc_track_of.nd
  let S : Nat → List Slot := fun k => [.val (.obj (t.pc six) []), .val (.lst (xs.map .str)), .val (t.trD six (trk six (xs.take k))), .unk]
  have en : S (xs.map Dt.str).length = [.val (.obj (t.pc six) []), .val (.lst (xs.map .str)), .val (t.trD six (trk six xs)), .unk] := by
    show [_, _, Slot.val (t.trD six (trk six (xs.take (xs.map Dt.str).length))), _] = _
    rw [List.length_map, List.take_length]
  refine ⟨_, .rt _, es_cons (es_set 2 nd (ee_oo (eo_gf h_still nox0 hr (ea_cons (ee_var 0 rfl) ea_nil) ⟨six, rfl, rfl⟩)))
    (es_cons (es_list (m := (xs.map Dt.str).length) 3 S nd rfl PassesOwn.leaving (ee_var 1 rfl) (Le.of ⟨rfl, rfl, rfl, trivial⟩) (Nat.le_refl _) (fun k z hk hz => ?_) (.all rfl)) ?_)⟩
  · rw [List.length_map] at hk
    rw [List.getElem?_map, List.getElem?_eq_getElem hk] at hz
    cases hz
    have hm : xs[k] ∈ xs := List.getElem_mem hk
    have e : trk six (xs.take (k + 1)) = jn six (trk six (xs.take k)) (one six xs[k]) := by
      rw [List.take_add_one, List.getElem?_eq_getElem hk]
      exact trk_snoc _ _ _
    have hl : (xs.take k).length ≤ 100000 := by rw [List.length_take]; omega
    refine .nx (es_one (es_set 2 nd (ee_oo (eo_mf (fs := t.trF six (trk six (xs.take k))) (ee_var 2 rfl) m_joined nox0 hr (ea_cons (ee_oo (eo_gf h_one nox0 hr (ea_cons (ee_var 0 rfl) (ea_cons (ee_var 3 rfl) ea_nil)) ⟨six, xs[k], rfl, hd _ hm, rfl⟩)) ea_nil) ⟨six, _, one six xs[k], rfl, ⟨wf_trk six hl, wf_one six _⟩, rfl⟩)))) (Le.of ⟨rfl, rfl, ?_, trivial⟩)
    show Slot.val (t.trD six (trk six (xs.take (k + 1)))) = _
    rw [e]; rfl
  · rw [en]
    exact es_one (es_ret (ee_var 2 rfl))
end
/-! ### turn, shift, area, numbers -/
theorem trk_many (six : Bool) : ∀ (n : Nat) (xs : List Str), xs.length = n → (trk six xs).many = n ∧ (trk six xs).strokes = (xs.count ("stroke" : Str) : Nat) := by
  intro n
  induction n with
  | zero =>
    intro xs h
    have e : xs = [] := List.eq_nil_of_length_eq_zero h
    subst e
    exact ⟨rfl, rfl⟩
  | succ n ih =>
    intro xs h
    have hne : xs ≠ [] := fun e => by rw [e] at h; cases h
    have e := List.dropLast_concat_getLast hne
    have hl : xs.dropLast.length = n := by rw [List.length_dropLast]; omega
    obtain ⟨h1, h2⟩ := ih _ hl
    have ec : xs.count ("stroke" : Str) = xs.dropLast.count ("stroke" : Str) + if xs.getLast hne = "stroke" then 1 else 0 := by
      conv => lhs; rw [← e]
      rw [List.count_append, List.count_singleton]
      congr 1
      by_cases c : xs.getLast hne = "stroke" <;> simp [c]
    rw [ec]
    conv => lhs; rw [← e]
    rw [show (trk six xs).strokes = (trk six (xs.dropLast ++ [xs.getLast hne])).strokes by rw [e], trk_snoc]
    refine ⟨?_, ?_⟩
    · show (trk six xs.dropLast).many + 1 = _
      rw [h1]; omega
    · show (trk six xs.dropLast).strokes + (if xs.getLast hne = "stroke" then 1 else 0) = _
      rw [h2]
      by_cases c : xs.getLast hne = "stroke"
      · rw [if_pos c, if_pos c]; omega
      · rw [if_neg c, if_neg c]; omega
abbrev TSA := Int × (Int × Int) × Int
def pj (x : Tr) : TSA := (x.turn, x.shift, x.area)
def stp (six : Bool) (s : TSA) (d : Str) : TSA := ((s.1 + tdeed d) % wy six, ad s.2.1 (tn six (s.1 % wy six).toNat (if d ∈ goL then (1, 0) else (0, 0))), s.2.2 + cr s.2.1 (tn six (s.1 % wy six).toNat (if d ∈ goL then (1, 0) else (0, 0))))
/-! ### the law's own helpers -/
def pick (c p m : Int) : Int := c * 48271 % p % m
def dsL : List Str := ["stroke", "left", "step", "right", "rest", "stroke", "left"]
def dOf (c : Int) : Str := dsL.getD (pick c 10007 7).toNat "stroke"
theorem dOf_mem (c : Int) : dOf c ∈ deedL := by
  unfold dOf
  have h0 : 0 ≤ pick c 10007 7 := Int.emod_nonneg _ (by decide)
  have h1 : pick c 10007 7 < 7 := Int.emod_lt_of_pos _ (by decide)
  generalize pick c 10007 7 = k at h0 h1
  have h : k = 0 ∨ k = 1 ∨ k = 2 ∨ k = 3 ∨ k = 4 ∨ k = 5 ∨ k = 6 := by omega
  rcases h with rfl | rfl | rfl | rfl | rfl | rfl | rfl <;> decide
def cellsOf (ns : List Int) (a b : Nat) : List Int := (List.range (min b ns.length - a)).map fun k => cellAt ns (a + k)
def R_pick : Rl := fun ds r => ∃ c p m, ds = [.int c, .int p, .int m] ∧ (0 < p ∧ 0 < m) ∧ r = .ret (.int (pick c p m))
def R_cells : Rl := fun ds r => ∃ (ns : List Int) (a b : Nat), ds = [.scr ns, .int a, .int b] ∧ (ns.length ≤ 63 ∧ a ≤ 63 ∧ b ≤ 63) ∧ r = .own (.lst ((cellsOf ns a b).map .int))
def R_deeds : Rl := fun ds r => ∃ cs : List Int, ds = [.lst (cs.map .int)] ∧ cs.length ≤ 63 ∧ r = .own (.lst ((cs.map dOf).map .str))
abbrev bS_cells : Scope := sLc ((defBody s_cells).getD 0 (.Pass ⟨0, 0, 0, 0⟩))
theorem bk_cells : chkBlk bS_cells (defScope s_cells) n_cells ["_law_k", "_law_script"] [0] "_law_k" = true := by decide +kernel
abbrev bS_deeds : Scope := sLc ((defBody s_deeds).getD 1 (.Pass ⟨0, 0, 0, 0⟩))
theorem bk_deeds : chkBlk bS_deeds (defScope s_deeds) n_deeds ["_law_cell", "_law_some"] [1] "_law_cell" = true := by decide +kernel
section
variable {P : Program} {w : World} {K : PySem.W.Frag} {mg : Str → Option Value} {base : Heap} {t : Adr}
theorem ok_pick (T : Txt K mg t) : GF P w K mg base CX 1 "_law_pick" 3 R_pick := by
  refine ⟨_, _, _, fnR T.F_pick sc_pick rfl fun cdv A outer s H E G ds r hr hl hR => ?_, T.m_pick, T.k_pick, T.b_pick⟩
  obtain ⟨c, p, m, rfl, ⟨hp, hm⟩, rfl⟩ := hR
  exact ⟨_, .rt _, es_one (es_ret (ee_mod (ee_mod (ee_mul (ee_var 0 rfl) ee_int (CMul.ok (Or.inr ⟨by decide, by decide⟩))) (ee_var 1 rfl) hp) (ee_var 2 rfl) hm))⟩
theorem ok_cells (T : Txt K mg t) : GF P w K mg base CX 2 "_law_cells" 3 R_cells := by
  refine ⟨_, _, _, fnR T.F_cells sc_cells rfl fun cdv A outer s H E G ds r hr hl hR => ?_, T.m_cells, T.k_cells, T.b_cells⟩
  obtain ⟨ns, a, b, rfl, ⟨h1, h2, h3⟩, rfl⟩ := hR
  have h_cell := ok_cell_at (P := P) (w := w) (base := base) T
  have em : (if (ns.length : Int) < (b : Int) then (ns.length : Int) else (b : Int)) = ((min b ns.length : Nat) : Int) := by split <;> omega
  refine ⟨_, .ro _, es_one (es_retO (eo_lc (N := ["_law_k", "_law_script"]) (ix := [0]) rfl (blk_of bk_cells) (pi_range2 rfl T.z_range (ea_cons (ee_var 1 rfl) (ea_cons (ee_to (ee_min T.z_min rfl (ea_cons (ee_var 2 rfl) (ea_cons (ee_lenC T.z_len (ee_var 0 rfl)) ea_nil))) (congrArg Dt.int em)) ea_nil))) (src_range2 ⟨by omega, by omega, by omega, by omega⟩) (fun k hk C fp s' H' G' => ?_) ?_ ?_))⟩
  · have hk : k < min b ns.length - a := by omega
    rw [show ((cellsOf ns a b).map Dt.int).getD k .non = .int (cellAt ns (a + k)) from getD_mapD hk]
    exact ee_gf h_cell nox0 hr (ea_cons (ee_var 1 rfl) (ea_cons (ee_var 0 rfl) ea_nil)) ⟨ns, a + k, by rw [Int.natCast_add], by omega, rfl⟩
  · unfold cellsOf
    rw [List.length_map, List.length_map, List.length_range]; omega
  · exact Nat.le_of_lt (small1000 (by omega))
theorem ok_deeds (T : Txt K mg t) : GF P w K mg base CX 2 "_law_deeds" 1 R_deeds := by
  refine ⟨_, _, _, fnR T.F_deeds sc_deeds rfl fun cdv A outer s H E G ds r hr hl hR => ?_, T.m_deeds, T.k_deeds, T.b_deeds⟩
  obtain ⟨cs, rfl, hn, rfl⟩ := hR
  have h_pick := ok_pick (P := P) (w := w) (base := base) T
  refine ⟨_, .ro _, es_cons (es_set 1 sc_deeds.nd (ee_lst (ea_cons ee_str (ea_cons ee_str (ea_cons ee_str (ea_cons ee_str (ea_cons ee_str (ea_cons ee_str (ea_cons ee_str ea_nil))))))) (Nat.le_of_ble_eq_true rfl)))
    (es_one (es_retO (eo_lc (N := ["_law_cell", "_law_some"]) (ix := [1]) rfl (blk_of bk_deeds) (pi_list (ee_var 0 rfl)) src_list (fun k hk C fp s' H' G' => ?_) ?_ ?_)))⟩
  · rw [List.length_map] at hk
    have e1 : ((cs.map dOf).map Dt.str).getD k .non = .str (dOf cs[k]) := by
      rw [List.getD_eq_getElem?_getD, List.getElem?_map, List.getElem?_map, List.getElem?_eq_getElem hk]; rfl
    have e2 : (cs.map Dt.int).getD k .non = .int cs[k] := by
      rw [List.getD_eq_getElem?_getD, List.getElem?_map, List.getElem?_eq_getElem hk]; rfl
    rw [e1, e2]
    have h0 : 0 ≤ pick cs[k] 10007 7 := Int.emod_nonneg _ (by decide)
    have h1 : pick cs[k] 10007 7 < 7 := Int.emod_lt_of_pos _ (by decide)
    refine ee_ixL (ee_var 1 rfl) (ee_gf h_pick nox0 hr (ea_cons (ee_var 0 rfl) (ea_cons ee_int (ea_cons ee_int ea_nil))) ⟨_, _, _, rfl, ⟨by decide, by decide⟩, rfl⟩) ?_
    unfold dOf
    generalize pick cs[k] 10007 7 = z at h0 h1
    have h : z = 0 ∨ z = 1 ∨ z = 2 ∨ z = 3 ∨ z = 4 ∨ z = 5 ∨ z = 6 := by omega
    rcases h with rfl | rfl | rfl | rfl | rfl | rfl | rfl <;> rfl
  · simp
  · rw [List.length_map]; exact Nat.le_of_lt (small1000 (by omega))
end

def R_after1 (t : Adr) (six : Bool) : Rl := fun ds r => ∃ d p w, ds = [.obj (t.pc six) [], .str d, sp p, .int w] ∧ ((d ∈ deedL ∧ r = .ret (.tup [sp (aft six d p w).1, .int (aft six d p w).2])) ∨ (d ∉ deedL ∧ d.length ≤ 100 ∧ (reprText d).length ≤ 1000 ∧ r = .exc (.ref t.C_NoDeed) []))
def five : List Str := ["stroke", "left", "step", "right", "rest"]
def otherL (d : Str) : List Str := ["", "Stroke", "LEFT", " step", "turn", d ++ "s", Txt.slice d (some 1) none, Txt.slice d none (some (-1)), d ++ " " ++ d, "s"]
def dAt (c : Int) : Str := five.getD (c % 5).toNat ""
def other (c : Int) : Str := (otherL (dAt c)).getD (c / 5 % 10).toNat ""
def badOk (x : Str) : Bool := !(decide (x ∈ deedL)) && decide (x.length ≤ 100) && decide ((reprText x).length ≤ 1000)
theorem all_bad : (five.all fun d => decide (d.length ≤ 20) && (otherL d).all badOk) = true := by decide +kernel
theorem getD_mem' {α : Type} {L : List α} {k : Nat} {z : α} (h : k < L.length) : L.getD k z ∈ L := by
  rw [List.getD_eq_getElem?_getD, List.getElem?_eq_getElem h]
  exact List.getElem_mem h
theorem dAt_mem (c : Int) : dAt c ∈ five := getD_mem' (by
  have h0 := Int.emod_nonneg c (show (5 : Int) ≠ 0 by decide)
  have h1 := Int.emod_lt_of_pos c (show (0 : Int) < 5 by decide)
  show (c % 5).toNat < 5
  omega)
theorem dAt_len (c : Int) : (dAt c).length ≤ 20 := by
  have h := List.all_eq_true.mp all_bad _ (dAt_mem c)
  rw [Bool.and_eq_true] at h
  exact of_decide_eq_true h.1
theorem other_bad (c : Int) : other c ∉ deedL ∧ (other c).length ≤ 100 ∧ (reprText (other c)).length ≤ 1000 := by
  have h := List.all_eq_true.mp all_bad _ (dAt_mem c)
  rw [Bool.and_eq_true] at h
  have hm : other c ∈ otherL (dAt c) := getD_mem' (by
    have h0 := Int.emod_nonneg (c / 5) (show (10 : Int) ≠ 0 by decide)
    have h1 := Int.emod_lt_of_pos (c / 5) (show (0 : Int) < 10 by decide)
    show (c / 5 % 10).toNat < 10
    omega)
  have q := List.all_eq_true.mp h.2 _ hm
  unfold badOk at q
  rw [Bool.and_eq_true, Bool.and_eq_true] at q
  obtain ⟨⟨q1, q2⟩, q3⟩ := q
  refine ⟨?_, of_decide_eq_true q2, of_decide_eq_true q3⟩
  intro z
  rw [decide_eq_true z] at q1
  cases q1
theorem at_getD {L : List Str} {i : Int} {n : Nat} (hn : L.length = n) (h0 : 0 ≤ i) (h1 : i < n) : atI (L.map Dt.str) i = some (.str (L.getD i.toNat "")) := by
  have e : i = ((i.toNat : Nat) : Int) := by omega
  rw [e]
  have hk : i.toNat < L.length := by omega
  refine (atI_nat (j := i.toNat) ?_).trans rfl
  rw [List.getElem?_map, List.getElem?_eq_getElem hk, List.getD_eq_getElem?_getD]
  show some (Dt.str L[i.toNat]) = some (Dt.str ((L[(i.toNat : Int).toNat]?).getD ""))
  rw [Int.toNat_natCast, List.getElem?_eq_getElem hk]; rfl
def R_other : Rl := fun ds r => ∃ c, ds = [.int c] ∧ r = .ret (.str (other c))
theorem szl {n : Nat} (h : n ≤ 2000) : n ≤ sizeLine := Nat.le_trans h (by decide)
section
variable {P : Program} {w : World} {K : PySem.W.Frag} {mg : Str → Option Value} {base : Heap} {t : Adr}
theorem ok_after1 (T : Txt K mg t) (six : Bool) : MF P w K mg base (CX1 P w) 5 (t.pc six) "after" 4 (R_after1 t six) := by
  refine ⟨cl_of T six, _, _, _, fnR T.F_Pen_after sc_Pen_after rfl fun cdv A outer s H E G ds r hr hl hR => ?_, me_of T.me_Pen_after_Quarter T.me_Pen_after_Sixth, T.b_Pen_after⟩
  obtain ⟨d, p, z, rfl, hd⟩ := hR
  have h1 := ok_step (P := P) (w := w) (base := base) T six
  have h2 := ok_added (P := P) (w := w) (base := base) T
  have h3 := ok_tdeed (P := P) (w := w) (base := base) T
  have h4 := ok_way_of (P := P) (w := w) (base := base) T six
  rcases hd with ⟨hd, rfl⟩ | ⟨hd, hl1, hl2, rfl⟩
  · by_cases c : d ∈ goL
    · rw [show aft six d p z = (ad p (tn six (z % wy six).toNat (1, 0)), (z + tdeed d) % wy six) by unfold aft; rw [if_pos c]]
      exact ⟨_, .rt _, (es_cons (es_if (eb_ninT (xs := deedL) (ee_var 1 rfl) (ee_glob (w := .ref t.D_DEEDS) T.g_DEEDS rfl T.r_DEEDS)) (fun h => absurd h (by simp [hd])) (fun h => es_nil))
  (es_cons (es_if (eb_inT (xs := goL) (ee_var 1 rfl) (ee_glob (w := .ref t.D_GOING_DEEDS) T.g_GOING_DEEDS rfl T.r_GOING_DEEDS)) (fun h => 
      (es_one (es_set 2 sc_Pen_after.nd (ee_gf h2 nox0 hr (ea_cons (ee_var 2 rfl) (ea_cons (ee_mf (ee_var 0 rfl) h1 nox0 hr (ea_cons (ee_var 3 rfl) ea_nil) ⟨_, rfl, rfl⟩) ea_nil)) ⟨_, _, rfl, rfl⟩)))) (fun h => absurd c (of_decide_eq_false h)))
  (es_one (es_ret (ee_tup (ea_cons (ee_var 2 rfl) (ea_cons (ee_mf (ee_var 0 rfl) h4 nox0 hr (ea_cons (ee_add (ee_var 3 rfl) (ee_gf h3 nox0 hr (ea_cons (ee_var 1 rfl) ea_nil) ⟨_, rfl, rfl⟩)) ea_nil) ⟨_, rfl, rfl⟩) ea_nil)) (Nat.le_of_ble_eq_true rfl))))))⟩
    · rw [show aft six d p z = (p, (z + tdeed d) % wy six) by unfold aft; rw [if_neg c]]
      exact ⟨_, .rt _, (es_cons (es_if (eb_ninT (xs := deedL) (ee_var 1 rfl) (ee_glob (w := .ref t.D_DEEDS) T.g_DEEDS rfl T.r_DEEDS)) (fun h => absurd h (by simp [hd])) (fun h => es_nil))
  (es_cons (es_if (eb_inT (xs := goL) (ee_var 1 rfl) (ee_glob (w := .ref t.D_GOING_DEEDS) T.g_GOING_DEEDS rfl T.r_GOING_DEEDS)) (fun h => absurd (of_decide_eq_true h) c) (fun h => es_nil))
  (es_one (es_ret (ee_tup (ea_cons (ee_var 2 rfl) (ea_cons (ee_mf (ee_var 0 rfl) h4 nox0 hr (ea_cons (ee_add (ee_var 3 rfl) (ee_gf h3 nox0 hr (ea_cons (ee_var 1 rfl) ea_nil) ⟨_, rfl, rfl⟩)) ea_nil) ⟨_, rfl, rfl⟩) ea_nil)) (Nat.le_of_ble_eq_true rfl))))))⟩
  · refine ⟨_, .ex _ _, es_stop (es_if (eb_ninT (xs := deedL) (ee_var 1 rfl) (ee_glob (w := .ref t.D_DEEDS) T.g_DEEDS rfl T.r_DEEDS)) (fun h => es_one (es_raise raiseD1 T.xc_NoDeed T.m_NoDeed rfl (ea_cons (ee_fmtR (ee_var 1 rfl) (szl (by omega)) (szl (by decide)) (szl ?_)) ea_nil) (Nat.le_of_ble_eq_true rfl))) (fun h => absurd h (by simp [hd])))⟩
    rw [strLen_append]
    have : (Str.empty ++ ("no deed: " : Str)).length ≤ 20 := by decide
    omega
theorem ok_other (T : Txt K mg t) : GF P w K mg base CX 1 "_law_other" 1 R_other := by
  refine ⟨_, _, _, fnR T.F_other sc_other rfl fun cdv A outer s H E G ds r hr hl hR => ?_, T.m_other, T.k_other, T.b_other⟩
  obtain ⟨c, rfl, rfl⟩ := hR
  have nd := sc_other.nd
  have hl := dAt_len c
  have h0 := Int.emod_nonneg c (show (5 : Int) ≠ 0 by decide)
  have h1 := Int.emod_lt_of_pos c (show (0 : Int) < 5 by decide)
  have h2 := Int.emod_nonneg (c / 5) (show (10 : Int) ≠ 0 by decide)
  have h3 := Int.emod_lt_of_pos (c / 5) (show (0 : Int) < 10 by decide)
  have e1 : ("s" : Str).length = 1 := rfl
  have e2 : (" " : Str).length = 1 := rfl
  have e3 : (dAt c ++ (" " : Str)).length = (dAt c).length + 1 := strLen_append _ _
  exact ⟨_, .rt _, (es_cons (es_set 1 nd (d := .str (dAt c)) (ee_ixL (ee_lst (ea_cons ee_str (ea_cons ee_str (ea_cons ee_str (ea_cons ee_str (ea_cons ee_str ea_nil))))) (Nat.le_of_ble_eq_true rfl)) (ee_mod (ee_var 0 rfl) ee_int (by decide)) (at_getD (L := five) (n := 5) rfl h0 h1)))
  (es_cons (es_set 2 nd (d := .lst ((otherL (dAt c)).map Dt.str)) (ee_lst (ea_cons ee_str (ea_cons ee_str (ea_cons ee_str (ea_cons ee_str (ea_cons ee_str (ea_cons (ee_cat (ee_var 1 rfl) ee_str (szl (by omega))) (ea_cons (ee_slS (ee_var 1 rfl) (ept_int ee_int) ept_no (szl (by omega))) (ea_cons (ee_slS (ee_var 1 rfl) ept_no (ept_int (ee_neg ee_int)) (szl (by omega))) (ea_cons (ee_cat (ee_cat (ee_var 1 rfl) ee_str (szl (by omega))) (ee_var 1 rfl) (szl (by omega))) (ea_cons ee_str ea_nil)))))))))) (Nat.le_of_ble_eq_true rfl)))
  (es_one (es_ret (ee_ixL (ee_var 2 rfl) (ee_mod (ee_fdiv (ee_var 0 rfl) ee_int ⟨by decide, by decide +kernel⟩) ee_int (by decide)) (at_getD (L := otherL (dAt c)) (n := 10) rfl h2 h3))))))⟩
end

/-! ### a deed that is none, refused -/
structure BadD (d : Str) : Prop where
  no : d ∉ deedL
  le : d.length ≤ 100
  rp : (reprText d).length ≤ 1000
def R_onedeedX (t : Adr) : Rl := fun ds r => ∃ six d, ds = [.obj (t.pc six) [], .str d] ∧ BadD d ∧ r = .exc (.ref t.C_NoDeed) []
def R_track_ofX (t : Adr) : Rl := fun ds r => ∃ (six : Bool) (xs : List Str), ds = [.obj (t.pc six) [], .lst (xs.map .str)] ∧ (∀ d ∈ xs, d ∈ deedL ∨ BadD d) ∧ (∃ d ∈ xs, d ∉ deedL) ∧ xs.length ≤ 1000 ∧ r = .exc (.ref t.C_NoDeed) []
def R_another (t : Adr) : Rl := fun ds r => ds = [.xo t.C_NoDeed] ∧ r = .ret (.bl false)
def R_refused4 (t : Adr) : Rl := fun ds r => ∃ (six : Bool) (xs : List Str), ds = [.obj (t.pc six) [], .lst (xs.map .str)] ∧ xs.length ≤ 1000 ∧ (((∀ d ∈ xs, d ∈ deedL ∨ BadD d) ∧ (∃ d ∈ xs, d ∉ deedL) ∧ r = .ret (.bl true)) ∨ ((∀ d ∈ xs, d ∈ deedL) ∧ r = .ret (.bl false)))
section
variable {P : Program} {w : World} {K : PySem.W.Frag} {mg : Str → Option Value} {base : Heap} {t : Adr}
theorem ok_onedeedX (T : Txt K mg t) : GF P w K mg base (CX1 P w) 6 "track_of_deed" 2 (R_onedeedX t) := by
  refine ⟨_, _, _, fnR T.F_track_of_deed sc_track_of_deed rfl fun cdv A outer s H E G ds r hr hl hR => ?_, T.m_track_of_deed, T.k_track_of_deed, T.b_track_of_deed⟩
  obtain ⟨six, d, rfl, hd, rfl⟩ := hR
  have m_after := ok_after1 (P := P) (w := w) (base := base) T six
  have nd := sc_track_of_deed.nd
  exact ⟨_, .ex _ _, es_stop (es_exAsg 2 nd (exe_mf (ee_var 0 rfl) m_after passes1 hr (ea_cons (ee_var 1 rfl) (ea_cons (ee_tup (ea_cons ee_int (ea_cons ee_int ea_nil)) (Nat.le_of_ble_eq_true rfl)) (ea_cons ee_int ea_nil))) ⟨d, (0, 0), 0, rfl, .inr ⟨hd.no, hd.le, hd.rp, rfl⟩⟩))⟩
theorem ok_track_ofX (T : Txt K mg t) : GF P w K mg base (CX1 P w) 7 "track_of" 2 (R_track_ofX t) := by
  refine ⟨_, _, _, fnR T.F_track_of sc_track_of rfl fun cdv A outer s H E G ds r hr hl hR => ?_, T.m_track_of, T.k_track_of, T.b_track_of⟩
  obtain ⟨six, xs, rfl, hd, hb, hn, rfl⟩ := hR
  have h_still := ok_still (P := P) (w := w) (base := base) T
  have h_one := ok_onedeed (P := P) (w := w) (base := base) T
  have h_oneX := ok_onedeedX (P := P) (w := w) (base := base) T
  have m_joined' := ok_joined (P := P) (w := w) (base := base) T
  have m_joined := mf_d m_joined'
  have nd := sc_track_of.nd
  let m := xs.findIdx fun d => !decide (d ∈ deedL)
  have hlt : m < xs.length := List.findIdx_lt_length_of_exists (by
    obtain ⟨d, h1, h2⟩ := hb
    exact ⟨d, h1, by simp [h2]⟩)
  have good : ∀ k (hk : k < m), xs[k]'(by omega) ∈ deedL := fun k hk => by
    have := List.not_of_lt_findIdx (p := fun d => !decide (d ∈ deedL)) hk
    simpa using this
  have bad : BadD xs[m] := by
    have h1 := List.findIdx_getElem (w := hlt)
    rcases hd _ (List.getElem_mem hlt) with h | h
    · rw [decide_eq_true h] at h1; cases h1
    · exact h
  let S : Nat → List Slot := fun k => [.val (.obj (t.pc six) []), .val (.lst (xs.map .str)), .val (t.trD six (trk six (xs.take k))), .unk]
  refine ⟨_, .ex _ _, es_cons (es_set 2 nd (ee_oo (eo_gf h_still nox0 hr (ea_cons (ee_var 0 rfl) ea_nil) ⟨six, rfl, rfl⟩)))
    (es_stop (es_list (m := m) 3 S nd rfl PassesOwn.leaving (ee_var 1 rfl) (Le.of ⟨rfl, rfl, rfl, trivial⟩) (by rw [List.length_map]; omega) (fun k z hk hz => ?_) (.ex (by rw [List.length_map]; exact hlt) ?_)))⟩
  · have hkl : k < xs.length := by omega
    rw [List.getElem?_map, List.getElem?_eq_getElem hkl] at hz
    cases hz
    have e : trk six (xs.take (k + 1)) = jn six (trk six (xs.take k)) (one six xs[k]) := by
      rw [List.take_add_one, List.getElem?_eq_getElem hkl]
      exact trk_snoc _ _ _
    have hl : (xs.take k).length ≤ 100000 := by rw [List.length_take]; omega
    refine .nx (es_one (es_set 2 nd (ee_oo (eo_mf (fs := t.trF six (trk six (xs.take k))) (ee_var 2 rfl) m_joined nox0 hr (ea_cons (ee_oo (eo_gf h_one nox0 hr (ea_cons (ee_var 0 rfl) (ea_cons (ee_var 3 rfl) ea_nil)) ⟨six, xs[k], rfl, good k hk, rfl⟩)) ea_nil) ⟨six, _, one six xs[k], rfl, ⟨wf_trk six hl, wf_one six _⟩, rfl⟩)))) (Le.of ⟨rfl, rfl, ?_, trivial⟩)
    show Slot.val (t.trD six (trk six (xs.take (k + 1)))) = _
    rw [e]; rfl
  · have ez : (xs.map Dt.str).getD m .non = .str xs[m] := by rw [List.getD_eq_getElem?_getD, List.getElem?_map, List.getElem?_eq_getElem hlt]; rfl
    show ESs _ _ _ ((S m).set 3 (.val ((xs.map Dt.str).getD m .non))) _ _
    rw [ez]
    exact es_one (es_exAsg 2 nd (exe_arg (fs := t.trF six (trk six (xs.take m))) (ee_var 2 rfl) m_joined' nox0 hr (exe_gf h_oneX passes1 hr (ea_cons (ee_var 0 rfl) (ea_cons (ee_var 3 rfl) ea_nil)) ⟨six, xs[m], rfl, bad, rfl⟩)))
theorem ok_another (T : Txt K mg t) : GFH P w K mg base CX 1 "_law_another" 1 (R_another t) := by
  refine ⟨_, _, _, fnH T.F_another sc_another rfl fun cdv A outer s H E G ds r hr hl hR => ?_, T.m_another, T.k_another, T.b_another⟩
  obtain ⟨rfl, rfl⟩ := hR
  exact ⟨_, .rt _, es_cons (es_if (u := false) (eb_of (ee_isiT (Cs := [t.C_NoLetter, t.C_NoLine, t.C_NoPen, t.C_NoPlace, t.C_NoRound]) T.z_isinstance (ee_var 0 rfl) (ee_tup (ea_cons (ee_cls T.m_NoLetter) (ea_cons (ee_cls T.m_NoLine) (ea_cons (ee_cls T.m_NoPen) (ea_cons (ee_cls T.m_NoPlace) (ea_cons (ee_cls T.m_NoRound) ea_nil))))) (Nat.le_of_ble_eq_true rfl)) T.xt_NoDeed T.y1)) (fun h => nomatch h) (fun h => es_nil))
    (es_one (es_ret (ee_isiT (Cs := [t.C_NoRules, t.C_NoText, t.C_NoWord, t.C_NothingDone, t.C_TooLong]) T.z_isinstance (ee_var 0 rfl) (ee_tup (ea_cons (ee_cls T.m_NoRules) (ea_cons (ee_cls T.m_NoText) (ea_cons (ee_cls T.m_NoWord) (ea_cons (ee_cls T.m_NothingDone) (ea_cons (ee_cls T.m_TooLong) ea_nil))))) (Nat.le_of_ble_eq_true rfl)) T.xt_NoDeed T.y2)))⟩
theorem ok_refused4 (T : Txt K mg t) : GF P w K mg base CX 8 "_law_refused" 2 (R_refused4 t) := by
  refine ⟨_, _, _, fnR T.F_refused sc_refused rfl fun cdv A outer s H E G ds r hr hl hR => ?_, T.m_refused, T.k_refused, T.b_refused⟩
  obtain ⟨six, xs, rfl, hn, h⟩ := hR
  have h_track := ok_track_of (P := P) (w := w) (base := base) T
  have h_trackX := ok_track_ofX (P := P) (w := w) (base := base) T
  have h_another := ok_another (P := P) (w := w) (base := base) T
  have nd := sc_refused.nd
  rcases h with ⟨hd, hb, rfl⟩ | ⟨hd, rfl⟩
  · have hu : PyData.eqv (pd (.lst [.bl true, .bl true, .bl false])) (pd (.lst [.bl true, .bl true, .bl false])) = true := eqv_refl _ rfl
    exact ⟨_, .rt _, es_cons (es_set 2 nd (ee_lst ea_nil (Nat.le_of_ble_eq_true rfl)))
      (es_cons (es_try (C := t.C_NoDeed) 3 rfl rfl nd T.xc_NoDeed T.m_NoDeed T.xt_NoDeed.be T.su rfl (Le.refl _)
        (fun pn xe E1 G1 hx => es_one (es_exGf h_trackX hx hr (ea_cons (ee_var 0 rfl) (ea_cons (ee_var 1 rfl) ea_nil)) ⟨six, xs, rfl, hd, hb, hn, rfl⟩))
        (fun ea xe G1 => es_one (es_set 2 nd (ee_lst (ea_cons (ee_isi T.z_isinstance (ee_var 3 rfl) (ee_cls T.m_GrowError) rfl T.xt_NoDeed T.i1) (ea_cons (ee_isi T.z_isinstance (ee_var 3 rfl) (ee_ty T.z_ValueError Sg.boot_ValueError) rfl T.xt_NoDeed T.i2) (ea_cons (ee_gfH h_another nox0 (room_h hr).mark (ea_cons (ee_var 3 rfl) ea_nil) ⟨rfl, rfl⟩) ea_nil))) (Nat.le_of_ble_eq_true rfl)))))
      (es_one (es_ret (ee_eq hr.units (ee_var 2 rfl) (ee_lst (ea_cons ee_bl (ea_cons ee_bl (ea_cons ee_bl ea_nil))) (Nat.le_of_ble_eq_true rfl)) ⟨rfl, rfl⟩ ⟨rfl, rfl⟩ hu))))⟩
  · have hu : PyData.eqv (pd (.lst [])) (pd (.lst [.bl true, .bl true, .bl false])) = false := by simp [pd, pds, PyData.eqv, PyData.eqvAll]
    exact ⟨_, .rt _, es_cons (es_set 2 nd (ee_lst ea_nil (Nat.le_of_ble_eq_true rfl)))
      (es_cons (es_tryOk fun pn xe => es_one (es_expr (ee_gf h_track nox0 hr (ea_cons (ee_var 0 rfl) (ea_cons (ee_var 1 rfl) ea_nil)) ⟨six, xs, rfl, hd, hn, rfl⟩)))
      (es_one (es_ret (ee_eq (d1 := .lst []) hr.units (ee_var 2 rfl) (ee_lst (ea_cons ee_bl (ea_cons ee_bl (ea_cons ee_bl ea_nil))) (Nat.le_of_ble_eq_true rfl)) ⟨rfl, rfl⟩ ⟨rfl, rfl⟩ hu))))⟩
end

theorem pds_strs : ∀ xs : List Str, pds (xs.map Dt.str) = xs.map PyData.str
  | [] => by simp [pds]
  | x :: xs => by rw [List.map_cons, pds, pds_strs xs]; simp [pd]
theorem str_ok {d : Str} (h : d ∈ deedL) : PyData.strOk d = true := by
  have : d = "stroke" ∨ d = "step" ∨ d = "left" ∨ d = "right" ∨ d = "rest" := by simpa [deedL] using h
  rcases this with rfl | rfl | rfl | rfl | rfl <;> decide +kernel
theorem okD_ss (xs : List Str) (hd : ∀ d ∈ xs, PyData.strOk d = true) : okD (.lst (xs.map .str)) := by
  have h1 : plains (xs.map Dt.str) = true := by
    clear hd
    induction xs with
    | nil => simp [plains]
    | cons x xs ih => rw [List.map_cons, plains, ih]; simp [Sg.plain]
  have h2 : ∀ ys : List Str, (∀ d ∈ ys, PyData.strOk d = true) → PyData.canLayAll0 (ys.map PyData.str) = true ∧ PyData.depthAll (ys.map PyData.str) = 0 := by
    intro ys
    induction ys with
    | nil => intro _; simp [PyData.canLayAll0, PyData.depthAll]
    | cons y ys ih =>
      intro h
      have q := ih fun d hd => h d (List.mem_cons_of_mem _ hd)
      have s := h y List.mem_cons_self
      rw [List.map_cons]; simp [PyData.canLayAll0, PyData.depthAll, PyData.canLay0, PyData.depth, q, s]
  refine ⟨by rw [Sg.plain]; exact h1, ?_⟩
  unfold SeqAt.shaped
  rw [pd, pds_strs]
  simp [PyData.canLay0, PyData.depth, h2 xs hd]
theorem all_sok : (five.all fun d => (otherL d).all fun x => PyData.strOk x) = true := by decide +kernel
theorem other_sok (c : Int) : PyData.strOk (other c) = true := by
  have h := List.all_eq_true.mp all_sok _ (dAt_mem c)
  have hm : other c ∈ otherL (dAt c) := getD_mem' (by
    have h0 := Int.emod_nonneg (c / 5) (show (10 : Int) ≠ 0 by decide)
    have h1 := Int.emod_lt_of_pos (c / 5) (show (0 : Int) < 10 by decide)
    show (c / 5 % 10).toNat < 10
    omega)
  exact List.all_eq_true.mp h _ hm
def spAt (ns : List Int) (xs : List Str) (k : Nat) : Nat := (pick (cellAt ns 2 + (k : Int) * (k : Int)) 10037 ((xs.length : Nat) + 1)).toNat
def spX (ns : List Int) (ds : List Str) : Nat → List Str
  | 0 => ds
  | k + 1 => (spX ns ds k).take (spAt ns (spX ns ds k) k) ++ other (cellAt ns 1 / 2 + (k : Int)) :: (spX ns ds k).drop (spAt ns (spX ns ds k) k)
theorem spAt_le (ns : List Int) (xs : List Str) (k : Nat) : spAt ns xs k ≤ xs.length := by
  unfold spAt pick
  have h0 := Int.emod_nonneg ((cellAt ns 2 + (k : Int) * (k : Int)) * 48271 % 10037) (show (((xs.length : Nat) : Int) + 1) ≠ 0 by omega)
  have h1 := Int.emod_lt_of_pos ((cellAt ns 2 + (k : Int) * (k : Int)) * 48271 % 10037) (show 0 < (((xs.length : Nat) : Int) + 1) by omega)
  omega
theorem spX_len (ns : List Int) (ds : List Str) : ∀ k, (spX ns ds k).length = ds.length + k
  | 0 => rfl
  | k + 1 => by
    have ih := spX_len ns ds k
    have h := spAt_le ns (spX ns ds k) k
    show ((spX ns ds k).take (spAt ns (spX ns ds k) k) ++ other (cellAt ns 1 / 2 + (k : Int)) :: (spX ns ds k).drop (spAt ns (spX ns ds k) k)).length = _
    rw [List.length_append, List.length_cons, List.length_take, List.length_drop]
    omega
theorem spX_mem (ns : List Int) (ds : List Str) : ∀ k, ∀ d ∈ spX ns ds k, d ∈ ds ∨ ∃ c, d = other c
  | 0, d, h => .inl h
  | k + 1, d, h => by
    rcases List.mem_append.mp (show d ∈ (spX ns ds k).take (spAt ns (spX ns ds k) k) ++ other (cellAt ns 1 / 2 + (k : Int)) :: (spX ns ds k).drop (spAt ns (spX ns ds k) k) from h) with h | h
    · exact spX_mem ns ds k d (List.mem_of_mem_take h)
    · rcases List.mem_cons.mp h with h | h
      · exact .inr ⟨_, h⟩
      · exact spX_mem ns ds k d (List.mem_of_mem_drop h)
section
variable {P : Program} {w : World} {K : PySem.W.Frag} {mg : Str → Option Value} {base : Heap} {t : Adr}
theorem law_fn (T : Txt K mg t) : FnOk P w K mg base CX 10 t.f_law t.d_law ["_law_script"] (spLaw K) := by
  refine fnR T.F_law sc_law rfl fun cdv A outer s H E G ds r hr hl hR => ?_
  obtain ⟨ns, hlen, rfl, rfl⟩ := hR
  have h_cell := ok_cell_at (P := P) (w := w) (base := base) T
  have h_cells := ok_cells (P := P) (w := w) (base := base) T
  have h_deeds := ok_deeds (P := P) (w := w) (base := base) T
  have h_pick := ok_pick (P := P) (w := w) (base := base) T
  have h_other := ok_other (P := P) (w := w) (base := base) T
  have h_track := ok_track_of (P := P) (w := w) (base := base) T
  have h_pen := ok_pen_of (P := P) (w := w) (base := base) T
  have h_ref := ok_refused4 (P := P) (w := w) (base := base) T
  have m_many := ok_many (P := P) (w := w) (base := base) T
  have nd := sc_law.nd
  obtain ⟨six, e6⟩ : ∃ six, 4 + 2 * (cellAt ns 0 % 2) = wy six := by
    have : cellAt ns 0 % 2 = 0 ∨ cellAt ns 0 % 2 = 1 := by omega
    rcases this with h | h
    · exact ⟨false, by rw [h]; rfl⟩
    · exact ⟨true, by rw [h]; rfl⟩
  let cs := cellsOf ns 3 43
  have hcs : cs.length ≤ 40 := by show (cellsOf ns 3 43).length ≤ 40; unfold cellsOf; rw [List.length_map, List.length_range]; omega
  let xs := cs.map dOf
  have hxl : xs.length ≤ 40 := by show (cs.map dOf).length ≤ 40; rw [List.length_map]; exact hcs
  have hxd : ∀ d ∈ xs, d ∈ deedL := fun d h => by
    obtain ⟨c, _, rfl⟩ := List.mem_map.mp h
    exact dOf_mem c
  have p0 := Int.emod_nonneg (cellAt ns 1) (show (2 : Int) ≠ 0 by decide)
  have p1 := Int.emod_lt_of_pos (cellAt ns 1) (show (0 : Int) < 2 by decide)
  obtain ⟨n, en, hn1, hn2⟩ : ∃ n : Nat, (1 + cellAt ns 1 % 2).toNat = n + 1 ∧ n + 1 ≤ 2 ∧ 0 ≤ n := ⟨(cellAt ns 1 % 2).toNat, by omega, by omega, Nat.zero_le _⟩
  have hob : ∀ c, BadD (other c) := fun c => let ⟨a, b, d⟩ := other_bad c; ⟨a, b, d⟩
  have hall : ∀ k, ∀ d ∈ spX ns xs k, d ∈ deedL ∨ BadD d := fun k d hd => by
    rcases spX_mem ns xs k d hd with h | ⟨c, rfl⟩
    · exact .inl (hxd d h)
    · exact .inr (hob c)
  have hsok : ∀ k, ∀ d ∈ spX ns xs k, PyData.strOk d = true := fun k d hd => by
    rcases spX_mem ns xs k d hd with h | ⟨c, rfl⟩
    · exact str_ok (hxd d h)
    · exact other_sok c
  have hex : ∃ d ∈ spX ns xs (n + 1), d ∉ deedL := ⟨other (cellAt ns 1 / 2 + (n : Int)), List.mem_append.mpr (.inr (List.mem_cons_self ..)), (hob _).no⟩
  let S : Nat → List Slot := fun k => [.val (.scr ns), .val (.obj (t.pc six) []), .val (.lst (xs.map .str)), .own (.lst ((spX ns xs k).map .str)), .unk, .unk, .unk]
  have hok := okD_ss _ (hsok (n + 1))
  have hsl := spX_len ns xs (n + 1)
  refine ⟨_, .rt _, ?_⟩
  refine es_cons (es_set 1 nd (ee_gf h_pen nox0 hr (ea_cons (ee_to (ee_add ee_int (ee_mul ee_int (ee_mod (ee_gf h_cell nox0 hr (ea_cons (ee_var 0 rfl) (ea_cons ee_int ea_nil)) ⟨ns, 0, rfl, by decide, rfl⟩) ee_int (by decide)) (CMul.ok (Or.inl ⟨by decide, by decide⟩)))) (congrArg Dt.int e6)) ea_nil) ⟨six, rfl, rfl⟩)) ?_
  refine es_cons (es_set 2 nd (d := .lst (xs.map .str)) (ee_ol (eo_gf h_deeds nox0 hr (ea_cons (ee_ol (eo_gf h_cells nox0 hr (ea_cons (ee_var 0 rfl) (ea_cons ee_int (ea_cons ee_int ea_nil))) ⟨ns, 3, 43, rfl, ⟨hlen, by decide, by decide⟩, rfl⟩)) ea_nil) ⟨cs, rfl, by omega, rfl⟩))) ?_
  refine es_cons (dl1 := S 0) (es_setO 3 nd (eo_list T.z_list (ee_var 2 rfl))) ?_
  refine es_cons (dl1 := S (n + 1)) (es_range1 (o := .nx (S (n + 1))) (m := n + 1) 4 S nd rfl PassesOwn.leaving T.z_range (ea_cons (ee_add ee_int (ee_mod (ee_gf h_cell nox0 hr (ea_cons (ee_var 0 rfl) (ea_cons ee_int ea_nil)) ⟨ns, 1, rfl, by decide, rfl⟩) ee_int (by decide))) ea_nil) ⟨by omega, by omega⟩ (Le.refl _) (by omega) (fun k hk => ?_) (by rw [en]; exact .all rfl)) ?_
  · have hle := spAt_le ns (spX ns xs k) k
    have hkl := spX_len ns xs k
    have eat : pick (cellAt ns 2 + (k : Int) * (k : Int)) 10037 ((((spX ns xs k).map Dt.str).length : Nat) + 1) = ((spAt ns (spX ns xs k) k : Nat) : Int) := by
      rw [List.length_map]
      have h0 : 0 ≤ pick (cellAt ns 2 + (k : Int) * (k : Int)) 10037 (((spX ns xs k).length : Nat) + 1) := Int.emod_nonneg _ (by omega)
      unfold spAt; omega
    have hf : Builtin.List.listFitsIndex ((spAt ns (spX ns xs k) k : Nat) : Int) = true := by
      unfold Builtin.List.listFitsIndex
      rw [Bool.and_eq_true, decide_eq_true_eq, decide_eq_true_eq]
      omega
    refine .nx (es_cons (dl1 := [.val (.scr ns), .val (.obj (t.pc six) []), .val (.lst (xs.map .str)), .own (.lst ((spX ns xs k).map .str)), .val (.int (k : Nat)), .val (.int (spAt ns (spX ns xs k) k : Nat)), .unk]) (es_set 5 nd (ee_to (ee_gf h_pick nox0 hr (ea_cons (ee_add (ee_gf h_cell nox0 hr (ea_cons (ee_var 0 rfl) (ea_cons ee_int ea_nil)) ⟨ns, 2, rfl, by decide, rfl⟩) (ee_mul (ee_var 4 rfl) (ee_var 4 rfl) (CMul.ok (Or.inl ⟨by omega, by omega⟩)))) (ea_cons ee_int (ea_cons (ee_add (ee_lenO 3 T.z_len) ee_int) ea_nil))) ⟨_, _, _, rfl, ⟨by decide, by omega⟩, rfl⟩) (congrArg Dt.int eat)))
      (es_one (es_insert (ds := (spX ns xs k).map Dt.str) 3 hf (ee_var 5 rfl) (ee_gf h_other nox0 hr (ea_cons (ee_add (ee_fdiv (ee_gf h_cell nox0 hr (ea_cons (ee_var 0 rfl) (ea_cons ee_int ea_nil)) ⟨ns, 1, rfl, by decide, rfl⟩) ee_int ⟨by decide, by decide +kernel⟩) (ee_var 4 rfl)) ea_nil) ⟨_, rfl, rfl⟩) (by rw [List.length_map]; exact hle) (by rw [List.length_map]; exact Nat.lt_of_lt_of_le (show (spX ns xs k).length < 2000 by omega) (by decide))))) (Le.of ⟨rfl, rfl, rfl, ?_, trivial⟩)
    show Slot.own (.lst ((spX ns xs (k + 1)).map .str)) = Slot.own (.lst (((spX ns xs k).map Dt.str).take (spAt ns (spX ns xs k) k) ++ Dt.str (other (cellAt ns 1 / 2 + (k : Int))) :: ((spX ns xs k).map Dt.str).drop (spAt ns (spX ns xs k) k)))
    rw [← List.map_take, ← List.map_drop]
    show Slot.own (.lst (((spX ns xs k).take (spAt ns (spX ns xs k) k) ++ other (cellAt ns 1 / 2 + (k : Int)) :: (spX ns xs k).drop (spAt ns (spX ns xs k) k)).map Dt.str)) = _
    rw [List.map_append, List.map_cons]
  refine es_frz 3 (w := .lst ((spX ns xs (n + 1)).map .str)) ?_
  refine es_cons (es_set 6 nd (ee_ol (eo_list T.z_list (ee_var 3 rfl)))) ?_
  have hm := trk_many six _ xs rfl
  refine es_cons (es_if (u := false) (eb_w (ew_or (u := false) (v := false) (eb_not (u := true) (eb_of (ee_gf h_ref nox0 hr (ea_cons (ee_var 1 rfl) (ea_cons (ee_var 6 rfl) ea_nil)) ⟨six, spX ns xs (n + 1), rfl, by omega, .inl ⟨hall _, hex, rfl⟩⟩))) fun _ => ew_or (u := false) (v := false) (eb_not (u := true) (eb_of (ee_gf h_ref nox0 hr (ea_cons (ee_var 1 rfl) (ea_cons (ee_var 6 rfl) ea_nil)) ⟨six, spX ns xs (n + 1), rfl, by omega, .inl ⟨hall _, hex, rfl⟩⟩))) fun _ => ew_or1 (eb_ne (d1 := .lst ((spX ns xs (n + 1)).map .str)) (d2 := .lst ((spX ns xs (n + 1)).map .str)) (u := false) hr.units (ee_var 6 rfl) (ee_var 3 rfl) hok hok (by rw [eqv_refl _ hok.1]; rfl)))) (fun h => nomatch h) (fun h => es_nil)) ?_
  exact es_one (es_ret (ee_and (u := true) (v := true) (ee_to (ee_eqI (ee_mf0 (fs := t.trF six (trk six xs)) (ee_gf h_track nox0 hr (ea_cons (ee_var 1 rfl) (ea_cons (ee_var 2 rfl) ea_nil)) ⟨six, xs, rfl, hxd, by omega, rfl⟩) m_many nox0 hr ⟨six, _, rfl, rfl⟩) (ee_lenL T.z_len (ee_var 2 rfl))) (congrArg Dt.bl (by rw [hm.1]; exact decide_eq_true (congrArg Int.ofNat (List.length_map (as := xs) Dt.str).symm)))) fun _ => (ee_and1 (ee_not (u := false) (ee_gf h_ref nox0 hr (ea_cons (ee_var 1 rfl) (ea_cons (ee_var 2 rfl) ea_nil)) ⟨six, xs, rfl, by omega, .inr ⟨hxd, rfl⟩⟩)))))
end

end Pf
def PySem.W.Fast.tw10142230465198336511 : Unit := ()
def PySem.W.Fast.tw18121957757241511420 : Unit := ()
def PySem.W.Fast.tw1086308714320043739 : Unit := ()
def PySem.W.Fast.tw18366054326170648827 : Unit := ()
def PySem.W.Fast.tw10220656971678176954 : Unit := ()
def PySem.W.Fast.tw11282901489227581432 : Unit := ()
def PySem.W.Fast.tw283455648666188470 : Unit := ()
def PySem.W.Fast.tw1235697560189953206 : Unit := ()
def PySem.W.Fast.tw12984656706974089173 : Unit := ()
def PySem.W.Fast.tw11990669186727491124 : Unit := ()
def PySem.W.Fast.tw5674714632131768179 : Unit := ()
def PySem.W.Fast.tw4904723174939000079 : Unit := ()
def PySem.W.Fast.tw1014301763911523342 : Unit := ()
def PySem.W.Fast.tw15145713962447151661 : Unit := ()
def PySem.W.Fast.tw11949876378098094668 : Unit := ()
def PySem.W.Fast.tw5591965611223889576 : Unit := ()
def PySem.W.Fast.tw3701268371915462567 : Unit := ()
def PySem.W.Fast.tw1322166659361964774 : Unit := ()
def PySem.W.Fast.tw10379855331152171077 : Unit := ()
def PySem.W.Fast.tw10406654128797596931 : Unit := ()
def PySem.W.Fast.tw11133466349651505155 : Unit := ()
open PySem PySem.W PyProof.Rows
set_option maxRecDepth 100000 in
set_option maxHeartbeats 0 in
theorem PySem.Challenge.cw_strokegrow_k34_deeds_refused_holds : PySem.Challenge.rw_strokegrow_k34_deeds_refused.Holds := by
  w_on; o_law; k_head; (case hw => w_witness2)
  k_fill
  refine L2.walk_ofK (l := PySem.Challenge.rw_strokegrow_k34_deeds_refused) (n := 63) (k := 10) (x := "_law_script") (CX := Pf.CX) (sp := fun K => Pf.spLaw K) rfl (by decide) rfl ⟨rfl, by decide, by decide⟩ (fun w h Y => PySem.W.kIn_of Y) ?F ?S ?C
  case F =>
    intro w mg fa h KX G hmg
    have T : ∃ t, Pf.Txt (L2.KOf KX) mg t ∧ t.f_law = fa := by
      dsimp only [L2.KOf]
      obtain ⟨t, T, e⟩ : ∃ t, Pf.Txt _ mg t ∧ t.f_law = _ := by
        refine' Pf.txt_mk KX G ?aQuarter ?pgQuarter ?hdQuarter ?poQuarter ?saQuarter ?kcQuarter ?aSixth ?pgSixth ?hdSixth ?poSixth ?saSixth ?kcSixth ?aTrack ?pgTrack ?hdTrack ?poTrack ?saTrack ?kcTrack ?aNoPen ?aGrowError ?aNoDeed ?aNoLetter ?aNoLine ?aNoPlace ?aNoRound ?aNoRules ?aNoText ?aNoWord ?aNothingDone ?aTooLong ?xiNoPen ?x1NoPen ?x2NoPen ?x3NoPen ?x4NoPen ?x5NoPen ?x8NoPen ?x6NoPen ?x7NoPen ?xiGrowError ?x1GrowError ?x2GrowError ?x3GrowError ?x4GrowError ?x5GrowError ?x8GrowError ?x6GrowError ?x7GrowError ?xiNoDeed ?x1NoDeed ?x2NoDeed ?x3NoDeed ?x4NoDeed ?x5NoDeed ?x8NoDeed ?x6NoDeed ?x7NoDeed ?mkQuarter ?inQuarter ?mkSixth ?inSixth ?tyaTrack ?tybTrack ?tycTrack ?tydTrack ?mkTrack ?inTrack ?fiTrack ?na_Track_drawer ?na_Track_deed_count ?na_Track_last_way ?na_Track_last_spot ?na_Track_stroke_count ?na_Track_reaches ?na_Track_touches ?na_Track_crosses ?ag_DEEDS ?lg_DEEDS ?ag_GOING_DEEDS ?lg_GOING_DEEDS ?a_added ?l_added ?c_added ?k_added ?a_cross ?l_cross ?c_cross ?k_cross ?a_turn_of_deed ?l_turn_of_deed ?c_turn_of_deed ?k_turn_of_deed ?a_Pen_way_of_Quarter ?i_Pen_way_of_Quarter ?a_Pen_way_of_Sixth ?i_Pen_way_of_Sixth ?l_Pen_way_of ?c_Pen_way_of ?k_Pen_way_of ?a_Pen_turned_Quarter ?i_Pen_turned_Quarter ?a_Pen_turned_Sixth ?i_Pen_turned_Sixth ?l_Pen_turned ?c_Pen_turned ?k_Pen_turned ?a_Pen_step_Quarter ?i_Pen_step_Quarter ?a_Pen_step_Sixth ?i_Pen_step_Sixth ?l_Pen_step ?c_Pen_step ?k_Pen_step ?a_Pen_after_Quarter ?i_Pen_after_Quarter ?a_Pen_after_Sixth ?i_Pen_after_Sixth ?l_Pen_after ?c_Pen_after ?k_Pen_after ?a_Quarter_ways_Quarter ?i_Quarter_ways_Quarter ?l_Quarter_ways ?c_Quarter_ways ?k_Quarter_ways ?a_Quarter_turned_left_Quarter ?i_Quarter_turned_left_Quarter ?l_Quarter_turned_left ?c_Quarter_turned_left ?k_Quarter_turned_left ?a_Quarter_along_Quarter ?i_Quarter_along_Quarter ?l_Quarter_along ?c_Quarter_along ?k_Quarter_along ?a_Sixth_ways_Sixth ?i_Sixth_ways_Sixth ?l_Sixth_ways ?c_Sixth_ways ?k_Sixth_ways ?a_Sixth_turned_left_Sixth ?i_Sixth_turned_left_Sixth ?l_Sixth_turned_left ?c_Sixth_turned_left ?k_Sixth_turned_left ?a_Sixth_along_Sixth ?i_Sixth_along_Sixth ?l_Sixth_along ?c_Sixth_along ?k_Sixth_along ?a_pen_of ?l_pen_of ?c_pen_of ?k_pen_of ?l_Track_init ?c_Track_init ?k_Track_init ?a_Track_many_Track ?i_Track_many_Track ?l_Track_many ?c_Track_many ?k_Track_many ?a_Track_turn_Track ?i_Track_turn_Track ?l_Track_turn ?c_Track_turn ?k_Track_turn ?a_Track_strokes_Track ?i_Track_strokes_Track ?l_Track_strokes ?c_Track_strokes ?k_Track_strokes ?a_Track_shift_Track ?i_Track_shift_Track ?l_Track_shift ?lT_Track_shift ?c_Track_shift ?k_Track_shift ?a_Track_by_ways_Track ?i_Track_by_ways_Track ?l_Track_by_ways ?c_Track_by_ways ?k_Track_by_ways ?a_Track_reach_Track ?i_Track_reach_Track ?l_Track_reach ?lT_Track_reach ?c_Track_reach ?k_Track_reach ?a_Track_touch_Track ?i_Track_touch_Track ?l_Track_touch ?lT_Track_touch ?c_Track_touch ?k_Track_touch ?a_Track_area_Track ?i_Track_area_Track ?l_Track_area ?c_Track_area ?k_Track_area ?a_Track_joined_Track ?i_Track_joined_Track ?l_Track_joined ?c_Track_joined ?k_Track_joined ?a_Track_told_Track ?i_Track_told_Track ?l_Track_told ?c_Track_told ?k_Track_told ?a_still ?l_still ?c_still ?k_still ?a_track_of_deed ?l_track_of_deed ?c_track_of_deed ?k_track_of_deed ?a_track_of ?l_track_of ?c_track_of ?k_track_of ?a_cell_at ?l_cell_at ?c_cell_at ?k_cell_at ?a_cells ?l_cells ?c_cells ?k_cells ?a_pick ?l_pick ?c_pick ?k_pick ?a_deeds ?l_deeds ?c_deeds ?k_deeds ?a_another ?l_another ?c_another ?k_another ?a_refused ?l_refused ?c_refused ?k_refused ?a_other ?l_other ?c_other ?k_other ?a_law ?l_law ?c_law ?k_law ?z_range ?z_len ?z_isinstance ?z_int ?z_bool ?z_list ?z_max ?z_min ?z_tuple ?z_ValueError ?x_su ?x_i1 ?x_i2 ?x_y1 ?x_y2
        (case aQuarter => k_is)
        (case pgQuarter => k_is)
        (case hdQuarter => k_is)
        (case poQuarter => k_is)
        (case saQuarter => k_is)
        (case kcQuarter => k_is)
        (case aSixth => k_is)
        (case pgSixth => k_is)
        (case hdSixth => k_is)
        (case poSixth => k_is)
        (case saSixth => k_is)
        (case kcSixth => k_is)
        (case aTrack => k_is)
        (case pgTrack => k_is)
        (case hdTrack => k_is)
        (case poTrack => k_is)
        (case saTrack => k_is)
        (case kcTrack => k_is)
        (case aNoPen => k_is)
        (case aGrowError => k_is)
        (case aNoDeed => k_is)
        (case aNoLetter => k_is)
        (case aNoLine => k_is)
        (case aNoPlace => k_is)
        (case aNoRound => k_is)
        (case aNoRules => k_is)
        (case aNoText => k_is)
        (case aNoWord => k_is)
        (case aNothingDone => k_is)
        (case aTooLong => k_is)
        (case xiNoPen => first | k_is | kernel_rfl)
        (case x1NoPen => first | k_is | kernel_rfl)
        (case x2NoPen => first | k_is | kernel_rfl)
        (case x3NoPen => first | k_is | kernel_rfl)
        (case x4NoPen => first | k_is | kernel_rfl)
        (case x5NoPen => first | k_is | kernel_rfl)
        (case x8NoPen => first | k_is | kernel_rfl)
        (case x6NoPen => first | k_is | kernel_rfl)
        (case x7NoPen => first | k_is | kernel_rfl)
        (case xiGrowError => first | k_is | kernel_rfl)
        (case x1GrowError => first | k_is | kernel_rfl)
        (case x2GrowError => first | k_is | kernel_rfl)
        (case x3GrowError => first | k_is | kernel_rfl)
        (case x4GrowError => first | k_is | kernel_rfl)
        (case x5GrowError => first | k_is | kernel_rfl)
        (case x8GrowError => first | k_is | kernel_rfl)
        (case x6GrowError => first | k_is | kernel_rfl)
        (case x7GrowError => first | k_is | kernel_rfl)
        (case xiNoDeed => first | k_is | kernel_rfl)
        (case x1NoDeed => first | k_is | kernel_rfl)
        (case x2NoDeed => first | k_is | kernel_rfl)
        (case x3NoDeed => first | k_is | kernel_rfl)
        (case x4NoDeed => first | k_is | kernel_rfl)
        (case x5NoDeed => first | k_is | kernel_rfl)
        (case x8NoDeed => first | k_is | kernel_rfl)
        (case x6NoDeed => first | k_is | kernel_rfl)
        (case x7NoDeed => first | k_is | kernel_rfl)
        (case mkQuarter => k_is)
        (case inQuarter => k_is)
        (case mkSixth => k_is)
        (case inSixth => k_is)
        (case tyaTrack => k_is)
        (case tybTrack => k_is)
        (case tycTrack => k_is)
        (case tydTrack => k_is)
        (case mkTrack => k_is)
        (case inTrack => k_is)
        (case fiTrack => k_is)
        (case na_Track_drawer => k_is)
        (case na_Track_deed_count => k_is)
        (case na_Track_last_way => k_is)
        (case na_Track_last_spot => k_is)
        (case na_Track_stroke_count => k_is)
        (case na_Track_reaches => k_is)
        (case na_Track_touches => k_is)
        (case na_Track_crosses => k_is)
        (case ag_DEEDS => k_is)
        (case lg_DEEDS => k_is)
        (case ag_GOING_DEEDS => k_is)
        (case lg_GOING_DEEDS => k_is)
        (case a_added => k_is)
        (case l_added => k_is)
        (case c_added => k_is)
        (case k_added => k_is)
        (case a_cross => k_is)
        (case l_cross => k_is)
        (case c_cross => k_is)
        (case k_cross => k_is)
        (case a_turn_of_deed => k_is)
        (case l_turn_of_deed => k_is)
        (case c_turn_of_deed => k_is)
        (case k_turn_of_deed => k_is)
        (case a_Pen_way_of_Quarter => k_is)
        (case i_Pen_way_of_Quarter => k_is)
        (case a_Pen_way_of_Sixth => k_is)
        (case i_Pen_way_of_Sixth => k_is)
        (case l_Pen_way_of => k_is)
        (case c_Pen_way_of => k_is)
        (case k_Pen_way_of => k_is)
        (case a_Pen_turned_Quarter => k_is)
        (case i_Pen_turned_Quarter => k_is)
        (case a_Pen_turned_Sixth => k_is)
        (case i_Pen_turned_Sixth => k_is)
        (case l_Pen_turned => k_is)
        (case c_Pen_turned => k_is)
        (case k_Pen_turned => k_is)
        (case a_Pen_step_Quarter => k_is)
        (case i_Pen_step_Quarter => k_is)
        (case a_Pen_step_Sixth => k_is)
        (case i_Pen_step_Sixth => k_is)
        (case l_Pen_step => k_is)
        (case c_Pen_step => k_is)
        (case k_Pen_step => k_is)
        (case a_Pen_after_Quarter => k_is)
        (case i_Pen_after_Quarter => k_is)
        (case a_Pen_after_Sixth => k_is)
        (case i_Pen_after_Sixth => k_is)
        (case l_Pen_after => k_is)
        (case c_Pen_after => k_is)
        (case k_Pen_after => k_is)
        (case a_Quarter_ways_Quarter => k_is)
        (case i_Quarter_ways_Quarter => k_is)
        (case l_Quarter_ways => k_is)
        (case c_Quarter_ways => k_is)
        (case k_Quarter_ways => k_is)
        (case a_Quarter_turned_left_Quarter => k_is)
        (case i_Quarter_turned_left_Quarter => k_is)
        (case l_Quarter_turned_left => k_is)
        (case c_Quarter_turned_left => k_is)
        (case k_Quarter_turned_left => k_is)
        (case a_Quarter_along_Quarter => k_is)
        (case i_Quarter_along_Quarter => k_is)
        (case l_Quarter_along => k_is)
        (case c_Quarter_along => k_is)
        (case k_Quarter_along => k_is)
        (case a_Sixth_ways_Sixth => k_is)
        (case i_Sixth_ways_Sixth => k_is)
        (case l_Sixth_ways => k_is)
        (case c_Sixth_ways => k_is)
        (case k_Sixth_ways => k_is)
        (case a_Sixth_turned_left_Sixth => k_is)
        (case i_Sixth_turned_left_Sixth => k_is)
        (case l_Sixth_turned_left => k_is)
        (case c_Sixth_turned_left => k_is)
        (case k_Sixth_turned_left => k_is)
        (case a_Sixth_along_Sixth => k_is)
        (case i_Sixth_along_Sixth => k_is)
        (case l_Sixth_along => k_is)
        (case c_Sixth_along => k_is)
        (case k_Sixth_along => k_is)
        (case a_pen_of => k_is)
        (case l_pen_of => k_is)
        (case c_pen_of => k_is)
        (case k_pen_of => k_is)
        (case l_Track_init => k_is)
        (case c_Track_init => k_is)
        (case k_Track_init => k_is)
        (case a_Track_many_Track => k_is)
        (case i_Track_many_Track => k_is)
        (case l_Track_many => k_is)
        (case c_Track_many => k_is)
        (case k_Track_many => k_is)
        (case a_Track_turn_Track => k_is)
        (case i_Track_turn_Track => k_is)
        (case l_Track_turn => k_is)
        (case c_Track_turn => k_is)
        (case k_Track_turn => k_is)
        (case a_Track_strokes_Track => k_is)
        (case i_Track_strokes_Track => k_is)
        (case l_Track_strokes => k_is)
        (case c_Track_strokes => k_is)
        (case k_Track_strokes => k_is)
        (case a_Track_shift_Track => k_is)
        (case i_Track_shift_Track => k_is)
        (case l_Track_shift => k_is)
        (case lT_Track_shift => k_is)
        (case c_Track_shift => k_is)
        (case k_Track_shift => k_is)
        (case a_Track_by_ways_Track => k_is)
        (case i_Track_by_ways_Track => k_is)
        (case l_Track_by_ways => k_is)
        (case c_Track_by_ways => k_is)
        (case k_Track_by_ways => k_is)
        (case a_Track_reach_Track => k_is)
        (case i_Track_reach_Track => k_is)
        (case l_Track_reach => k_is)
        (case lT_Track_reach => k_is)
        (case c_Track_reach => k_is)
        (case k_Track_reach => k_is)
        (case a_Track_touch_Track => k_is)
        (case i_Track_touch_Track => k_is)
        (case l_Track_touch => k_is)
        (case lT_Track_touch => k_is)
        (case c_Track_touch => k_is)
        (case k_Track_touch => k_is)
        (case a_Track_area_Track => k_is)
        (case i_Track_area_Track => k_is)
        (case l_Track_area => k_is)
        (case c_Track_area => k_is)
        (case k_Track_area => k_is)
        (case a_Track_joined_Track => k_is)
        (case i_Track_joined_Track => k_is)
        (case l_Track_joined => k_is)
        (case c_Track_joined => k_is)
        (case k_Track_joined => k_is)
        (case a_Track_told_Track => k_is)
        (case i_Track_told_Track => k_is)
        (case l_Track_told => k_is)
        (case c_Track_told => k_is)
        (case k_Track_told => k_is)
        (case a_still => k_is)
        (case l_still => k_is)
        (case c_still => k_is)
        (case k_still => k_is)
        (case a_track_of_deed => k_is)
        (case l_track_of_deed => k_is)
        (case c_track_of_deed => k_is)
        (case k_track_of_deed => k_is)
        (case a_track_of => k_is)
        (case l_track_of => k_is)
        (case c_track_of => k_is)
        (case k_track_of => k_is)
        (case a_cell_at => k_is)
        (case l_cell_at => k_is)
        (case c_cell_at => k_is)
        (case k_cell_at => k_is)
        (case a_cells => k_is)
        (case l_cells => k_is)
        (case c_cells => k_is)
        (case k_cells => k_is)
        (case a_pick => k_is)
        (case l_pick => k_is)
        (case c_pick => k_is)
        (case k_pick => k_is)
        (case a_deeds => k_is)
        (case l_deeds => k_is)
        (case c_deeds => k_is)
        (case k_deeds => k_is)
        (case a_another => k_is)
        (case l_another => k_is)
        (case c_another => k_is)
        (case k_another => k_is)
        (case a_refused => k_is)
        (case l_refused => k_is)
        (case c_refused => k_is)
        (case k_refused => k_is)
        (case a_other => k_is)
        (case l_other => k_is)
        (case c_other => k_is)
        (case k_other => k_is)
        (case a_law => k_is)
        (case l_law => k_is)
        (case c_law => k_is)
        (case k_law => k_is)
        (case z_range => k_is)
        (case z_len => k_is)
        (case z_isinstance => k_is)
        (case z_int => k_is)
        (case z_bool => k_is)
        (case z_list => k_is)
        (case z_max => k_is)
        (case z_min => k_is)
        (case z_tuple => k_is)
        (case z_ValueError => k_is)
        (case x_su => first | k_is | kernel_rfl)
        (case x_i1 => first | k_is | kernel_rfl)
        (case x_i2 => first | k_is | kernel_rfl)
        (case x_y1 => first | k_is | kernel_rfl)
        (case x_y2 => first | k_is | kernel_rfl)
      refine ⟨t, T, ?_⟩
      have e0 := hmg.symm.trans T.m_law
      cases e0
      rfl
    obtain ⟨t, T, e⟩ := T
    subst e
    refine' ⟨t.d_law, ?b, fun base kb nb => Pf.law_fn T⟩
    exact T.bl_law
  case S => exact fun K H a ns hl hO hS => Pf.law_sp hl hS
  case C => exact fun H s e s' h => h
