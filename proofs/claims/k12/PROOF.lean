import PyProof.Rows.All
import Wide.All
import OpenK.AllK
import Wide.FinOn
import Lean
import PyProof.EqAt
import PyProof.EqKinds
import PyProof.TupleCall
import PyProof.WalksEnum
import PyProof.EnumMake
import PyProof.ZipIter
import PyProof.ReprStr
import PyProof.StrBlockG
import PyProof.StrWalks
import PyProof.FString5
import PyProof.ConsumeWalk
import PyProof.SumAny
import PyProof.StrCalls2
import KE.KDictList
import PyProof.Draws
import PyProof.StrBlock2
import PyProof.DictIter
import PyProof.ExcInit
import PyProof.ExcClass3
import PyProof.FString
import PyProof.FitsInt
import PyProof.StrLawsRepr
import PySem.Challenge.RW_strokegrow_k12_refusals_made
set_option Elab.async false
set_option linter.all false
set_option maxRecDepth 100000
/-! THE HAND LAYER, for ints, bools, texts, own classes, LISTS and tuples (index, slices, in, append, pop ..), calls, loops. Paste it whole ahead of your own text; what your proof does not reach may be deleted. -/
namespace L2
open PySem PySem.Spec PyProof.Rows

/-- a key: an int or a str -/
abbrev Key := Sum Int Str
def keyIs : Key → Value → Bool
  | .inl k, v => Value.isInt k v
  | .inr x, v => Value.isStrOf x v
def keyH (w : World) : Key → Int
  | .inl k => hashInt k
  | .inr x => hashStr w x
theorem keyIs_shape : ∀ {k : Key} {v : Value}, keyIs k v = true → (∃ i t, k = Sum.inl i ∧ v = Value.int i t) ∨ (∃ x t, k = Sum.inr x ∧ v = Value.str x t)
  | .inl i, v, h => by
    obtain ⟨t, e⟩ := Value.isInt_shape (k := i) (v := v) h
    exact .inl ⟨i, t, rfl, e⟩
  | .inr x, v, h => by
    obtain ⟨t, e⟩ := Value.isStrOf_shape (x := x) (v := v) h
    exact .inr ⟨x, t, rfl, e⟩
theorem key_ll (a b : Int) : decide ((Sum.inl a : Key) = Sum.inl b) = (a == b) := by
  by_cases e : a = b
  · subst e; simp
  · have h : ¬ (Sum.inl a : Key) = Sum.inl b := fun q => e (Sum.inl.inj q)
    rw [decide_eq_false h]
    exact (beq_eq_false_iff_ne.mpr e).symm
theorem key_rr (a b : Str) : decide ((Sum.inr a : Key) = Sum.inr b) = decide (a = b) := by
  by_cases e : a = b
  · subst e; simp
  · have h : ¬ (Sum.inr a : Key) = Sum.inr b := fun q => e (Sum.inr.inj q)
    rw [decide_eq_false h, decide_eq_false e]
theorem key_lr (a : Int) (b : Str) : decide ((Sum.inl a : Key) = Sum.inr b) = false := decide_eq_false (fun q => nomatch q)
theorem key_rl (a : Str) (b : Int) : decide ((Sum.inr a : Key) = Sum.inl b) = false := decide_eq_false (fun q => nomatch q)

def mixKind (prog : Program) (w : World) : PySem.KeyKind prog w Key where
  is := keyIs
  hash := keyH w
  inj := fun v a b ha hb => by
    rcases keyIs_shape ha with ⟨i, t, rfl, rfl⟩ | ⟨x, t, rfl, rfl⟩
    · rcases keyIs_shape hb with ⟨j, u, rfl, e⟩ | ⟨y, u, rfl, e⟩
      · injection e with e1 _; rw [e1]
      · exact nomatch e
    · rcases keyIs_shape hb with ⟨j, u, rfl, e⟩ | ⟨y, u, rfl, e⟩
      · exact nomatch e
      · injection e with e1 _; rw [e1]
  byValue := fun k v h => by
    rcases keyIs_shape h with ⟨i, t, rfl, rfl⟩ | ⟨x, t, rfl, rfl⟩ <;> rfl
  pyHash := fun hv h => by
    rcases keyIs_shape hv with ⟨i, t, rfl, rfl⟩ | ⟨x, t, rfl, rfl⟩
    · exact wpAny_pyHash_int h
    · exact wpAny_pyHash_str h
  eqBool := fun hu hv h => by
    rcases keyIs_shape hu with ⟨i, t, rfl, rfl⟩ | ⟨x, t, rfl, rfl⟩
    · rcases keyIs_shape hv with ⟨j, u, rfl, rfl⟩ | ⟨y, u, rfl, rfl⟩
      · rw [key_ll] at h; exact wpAny_eqBool_int h
      · rw [key_lr] at h; exact SeqAt.EqAt.int_str i t y u _ _ _ _ h
    · rcases keyIs_shape hv with ⟨j, u, rfl, rfl⟩ | ⟨y, u, rfl, rfl⟩
      · rw [key_rl] at h; exact SeqAt.EqAt.str_int x t j u _ _ _ _ h
      · rw [key_rr] at h; exact wpAny_eqBool_str h
  «strs» := fun k x t v h => by
    rcases keyIs_shape h with ⟨i, u, rfl, e⟩ | ⟨y, u, rfl, e⟩
    · exact nomatch e
    · injection e with e1 _
      subst e1
      cases v <;> rfl

end L2

namespace L2
open PySem PySem.Spec PyProof.Rows

/-- a value, without the heap -/
inductive V where
  | non | bl (b : Bool) | int (i : Int) | str (x : Str) | byt (b : Array UInt8) | flt (b : UInt64) | ref (a : Addr) | ty (n : String)
  deriving DecidableEq

def RelV : V → Value → Prop
  | .non, u => u = Value.none
  | .bl b, u => u = Value.bool b
  | .int i, u => ∃ t, u = Value.int i t
  | .str x, u => ∃ t, u = Value.str x t
  | .byt b, u => ∃ t, u = Value.bytes b t
  | .flt b, u => ∃ t, u = Value.float b t
  | .ref a, u => u = Value.ref a
  | .ty n, u => u = Value.type n

abbrev Vals : List V → List Value → Prop := Paired RelV
theorem Vals.length {xs : List V} {us : List Value} (r : Vals xs us) : xs.length = us.length := Paired.length r
theorem Vals.get : ∀ {xs : List V} {us : List Value} {i : Nat} {x : V}, Vals xs us → xs[i]? = some x → ∃ u, us[i]? = some u ∧ RelV x u
  | _, _, _, _, .nil, e => by simp at e
  | _, _, 0, _, .cons r _, e => by simp at e; subst e; exact ⟨_, rfl, r⟩
  | _, _, i + 1, x, .cons _ t, e => by
    obtain ⟨u, h1, h2⟩ := Vals.get (i := i) (x := x) t (by simpa using e)
    exact ⟨u, by simpa using h1, h2⟩
theorem Vals.append : ∀ {xs ys : List V} {us ws : List Value}, Vals xs us → Vals ys ws → Vals (xs ++ ys) (us ++ ws)
  | _, _, _, _, .nil, s => s
  | _, _, _, _, .cons r t, s => .cons r (Vals.append t s)
def RelO : Option V → Option Value → Prop
  | some v, some u => RelV v u
  | none, none => True
  | _, _ => False
def KV {κ : Type} : List (κ × V) → List (κ × Value) → Prop := Paired fun (p : κ × V) (q : κ × Value) => p.1 = q.1 ∧ RelV p.2 q.2

/-- a key of a dict (00_mix): an int or a text -/
def kV : Key → V
  | .inl i => .int i
  | .inr x => .str x

/-- what stands at a tracked address -/
inductive HO where
  /-- a list -/
  | lst (xs : List V)
  /-- a tuple (never changes) -/
  | tup (xs : List V)
  /-- a dict whose keys are ints and texts; one whose keys are tuples of ints and texts (the empty one is both) -/
  | dK (kvs : List (Key × V)) | dT (kvs : List (List Key × V))
  /-- a set of ints: its members, its size -/
  | set (S : Int → Bool) (n : Nat)
  /-- an instance of the class at C, its dict at dx, its attributes -/
  | ins (C dx : Addr) (fs : List (Str × V))
  /-- the dict of the instance at x -/
  | own (x : Addr)
  /-- the dict of an exception -/
  | xd (fs : List (Str × V))
  /-- a bound method, f of x -/
  | met (f x : Addr)
  /-- a range object lo, lo + 1, .. below hi -/
  | rng (lo hi : Int)
  /-- a thing that is known to the object (the script; a dict while a loop walks it): read, never written while it is so -/
  | frz (o : Obj) (u : HO)
  /-- a code object's table -/
  | tbl (ps : Array Value)
  /-- any other thing, by what is true of its one object (a def of one's own: SetO a S n := HO.ext fun h => ..) -/
  | ext (φ : Heap → Prop)

abbrev Hp := Addr → Option HO
def upd (H : Hp) (a : Addr) (o : HO) : Hp := fun b => if b = a then some o else H b
theorem upd_same {H : Hp} {a : Addr} {o : HO} : upd H a o a = some o := by unfold upd; rw [if_pos rfl]
theorem upd_ne {H : Hp} {a b : Addr} {o : HO} (h : b ≠ a) : upd H a o b = H b := by unfold upd; rw [if_neg h]
theorem ne_of_none {H : Hp} {a b : Addr} {o : HO} (h : H a = some o) (h' : H b = none) : a ≠ b := by
  intro e; subst e; rw [h] at h'; cases h'

section
variable (P : Program) (w : World)
def ObjOk (H : Hp) (h : Heap) (a : Addr) : HO → Prop
  | .lst xs => xs.length ≤ sizeLine ∧ ∃ (its : List Value) (n : Nat), Vals xs its ∧ h.get? a = some { cls := .type "list", data := .seq its.toArray n }
  | .tup xs => xs.length ≤ sizeLine ∧ ∃ its : List Value, Vals xs its ∧ IsTup h a its.toArray
  | .dK kvs => kvs.length ≤ sizeLine ∧ (a == sysModules) = false ∧ ∃ vs, KV kvs vs ∧ h.DictOf (mixKind P w) a vs
  | .dT kvs => kvs.length ≤ sizeLine ∧ (a == sysModules) = false ∧ ∃ xs : List (List Key × Addr × Value),
      Paired (fun (p : List Key × V) (q : List Key × Addr × Value) => p.1 = q.1 ∧ H q.2.1 = some (.tup (p.1.map kV)) ∧ RelV p.2 q.2.2) kvs xs ∧
      ∃ o es ep, h.get? a = some o ∧ o.ExactDict ∧ o.data = .dict es ep ∧ es.toList = xs.map (entryOfKey (tupleKind (mixKind P w))) ∧ (xs.map (·.1)).Nodup
  | .set S n => h.SetOf (intKind P w) a S n
  | .ins C dx fs => H dx = some (.own a) ∧ fs.length ≤ 1000 ∧ dx ≠ a ∧ h.get? a = some (PySem.W.instObj C dx) ∧
      ∃ mA, h.Ns1 dx mA ∧ (∀ f, RelO (fs.lookup f) (mA f)) ∧ PySem.Within mA (fs.map (·.1))
  | .own _ => ∃ o, h.get? a = some o
  | .xd fs => ∃ mA, h.Ns1 a mA ∧ ∀ f, RelO (fs.lookup f) (mA f)
  | .rng lo hi => ∃ t u v, h.get? a = some { cls := .type "range", data := .fields #[.int lo t, .int hi u, .int 1 v] }
  | .frz o u => h.get? a = some o ∧ ObjOk H h a u
  | .tbl ps => h.get? a = some { cls := .none, data := .fields ps }
  | .met f x => h.get? a = some (PySem.W.methodObj (.ref f) (.ref x))
  | .ext φ => φ h ∧ (∃ o, h.get? a = some o) ∧ ∀ h1 h2 : Heap, φ h1 → (∀ o, h1.get? a = some o → h2.get? a = some o) → φ h2
/-- the abstract heap is held -/
def HOk (H : Hp) (h : Heap) : Prop := ∀ a o, H a = some o → ObjOk P w H h a o
end

section
variable {P : Program} {w : World} {H H' : Hp} {h h' : Heap} {a : Addr} {o : HO}
theorem ObjOk.lt (x : ObjOk P w H h a o) : a < h.objs.size := by
  cases o with
  | lst xs => obtain ⟨_, _, _, _, e⟩ := x; exact Heap.lt_size e
  | tup xs => obtain ⟨_, _, _, p⟩ := x; exact p.lt
  | dK kvs => obtain ⟨_, _, _, _, o, _, _, e, _⟩ := x; exact Heap.lt_size e
  | dT kvs => obtain ⟨_, _, _, _, o, _, _, e, _⟩ := x; exact Heap.lt_size e
  | set S n => obtain ⟨o, _, _, _, e, _⟩ := x; exact Heap.lt_size e
  | ins C dx fs => obtain ⟨_, _, _, e, _⟩ := x; exact Heap.lt_size e
  | own y => obtain ⟨_, e⟩ := x; exact Heap.lt_size e
  | xd fs => obtain ⟨_, ⟨_, _, _, e, _⟩, _⟩ := x; exact Heap.lt_size e
  | rng lo hi => obtain ⟨_, _, _, e⟩ := x; exact Heap.lt_size e
  | frz ob u => obtain ⟨e, _⟩ := x; exact Heap.lt_size e
  | tbl ps => exact Heap.lt_size (show h.get? a = some _ from x)
  | met f y => exact Heap.lt_size (show h.get? a = some _ from x)
  | ext φ => obtain ⟨_, ⟨_, e⟩, _⟩ := x; exact Heap.lt_size e
theorem Paired.mapP {α β : Type} {F G : α → β → Prop} : ∀ {l₁ : List α} {l₂ : List β}, Paired F l₁ l₂ → (∀ a b, F a b → G a b) → Paired G l₁ l₂
  | _, _, .nil, _ => .nil
  | _, _, .cons r t, f => .cons (f _ _ r) (Paired.mapP t f)
/-- what an object's description leans on: its own object, its own dict, the tuples -/
theorem ObjOk.stay (x : ObjOk P w H h a o) (k : ∀ b u, (b = a ∨ H b = some (.own a)) → h.get? b = some u → h'.get? b = some u)
    (ho : ∀ b, H b = some (.own a) → H' b = some (.own a)) (ht : ∀ b xs, H b = some (.tup xs) → H' b = some (.tup xs)) : ObjOk P w H' h' a o := by
  induction o with
  | lst xs => obtain ⟨z, its, n, r, e⟩ := x; exact ⟨z, its, n, r, k _ _ (.inl rfl) e⟩
  | tup xs => obtain ⟨z, its, r, ob, e, c⟩ := x; exact ⟨z, its, r, ob, k _ _ (.inl rfl) e, c⟩
  | dK kvs => obtain ⟨z, y, vs, r, ob, es, ep, e, c⟩ := x; exact ⟨z, y, vs, r, ob, es, ep, k _ _ (.inl rfl) e, c⟩
  | dT kvs =>
    obtain ⟨z, y, xs, r, ob, es, ep, e, c⟩ := x
    exact ⟨z, y, xs, Paired.mapP r fun p q z => ⟨z.1, ht _ _ z.2.1, z.2.2⟩, ob, es, ep, k _ _ (.inl rfl) e, c⟩
  | set S n => obtain ⟨ob, es, ep, t, e, c⟩ := x; exact ⟨ob, es, ep, t, k _ _ (.inl rfl) e, c⟩
  | ins C dx fs =>
    obtain ⟨d, z, ne, e, mA, ⟨od, es, ep, e2, c⟩, r⟩ := x
    exact ⟨ho _ d, z, ne, k _ _ (.inl rfl) e, mA, ⟨od, es, ep, k _ _ (.inr d) e2, c⟩, r⟩
  | own y => obtain ⟨ob, e⟩ := x; exact ⟨ob, k _ _ (.inl rfl) e⟩
  | xd fs => obtain ⟨mA, ⟨od, es, ep, e, c⟩, r⟩ := x; exact ⟨mA, ⟨od, es, ep, k _ _ (.inl rfl) e, c⟩, r⟩
  | rng lo hi => obtain ⟨t, u, v, e⟩ := x; exact ⟨t, u, v, k _ _ (.inl rfl) e⟩
  | frz ob u ih => obtain ⟨e, q⟩ := x; exact ⟨k _ _ (.inl rfl) e, ih q⟩
  | tbl ps =>
    have e : h.get? a = some { cls := .none, data := .fields ps } := x
    show h'.get? a = some { cls := .none, data := .fields ps }
    exact k a _ (.inl rfl) e
  | met f y =>
    have e : h.get? a = some (PySem.W.methodObj (.ref f) (.ref y)) := x
    show h'.get? a = some (PySem.W.methodObj (.ref f) (.ref y))
    exact k a _ (.inl rfl) e
  | ext φ => obtain ⟨p, ⟨o, e⟩, st⟩ := x; exact ⟨st _ _ p fun o q => k _ _ (.inl rfl) q, ⟨o, k _ _ (.inl rfl) e⟩, st⟩
theorem HOk.lt (x : HOk P w H h) (e : H a = some o) : a < h.objs.size := (x a o e).lt
theorem HOk.fresh (x : HOk P w H h) (e : h.objs.size ≤ a) : H a = none := by
  cases q : H a with
  | none => rfl
  | some u => exact absurd (Nat.lt_of_lt_of_le (x.lt q) e) (Nat.lt_irrefl _)
/-- every object of the heap is kept -/
theorem HOk.kept (x : HOk P w H h) (k : ∀ b u, h.get? b = some u → h'.get? b = some u) : HOk P w H h' := fun a o e =>
  (x a o e).stay (fun b u _ q => k b u q) (fun _ q => q) fun _ _ q => q
/-- a new object is laid and tracked -/
theorem HOk.laid (x : HOk P w H h) (k : ∀ b u, h.get? b = some u → h'.get? b = some u) (hp : h.objs.size ≤ a) (new : ObjOk P w (upd H a o) h' a o) : HOk P w (upd H a o) h' := fun b u e => by
  have hn := x.fresh hp
  by_cases hb : b = a
  · subst hb; rw [upd_same] at e; cases e; exact new
  · rw [upd_ne hb] at e
    exact (x b u e).stay (fun c v _ q => k c v q) (fun c q => by rw [upd_ne (ne_of_none q hn)]; exact q) fun c xs q => by rw [upd_ne (ne_of_none q hn)]; exact q
end

/-- what may be read as u: it is u, or a known u -/
def Rd (H : Hp) (a : Addr) (u : HO) : Prop := H a = some u ∨ ∃ o, H a = some (.frz o u)
theorem Rd.ok {P : Program} {w : World} {H : Hp} {h : Heap} {a : Addr} {u : HO} (r : Rd H a u) (x : HOk P w H h) : ObjOk P w H h a u := by
  rcases r with r | ⟨o, r⟩
  · exact x a u r
  · obtain ⟨_, q⟩ := x a _ r
    exact q
/-- what may be written -/
def Mut : Option HO → Prop
  | some (.lst _) => True
  | some (.dK _) => True
  | some (.dT _) => True
  | some (.set _ _) => True
  | some (.ins _ _ _) => True
  | some (.ext _) => True
  | _ => False
section
variable {P : Program} {w : World} {H : Hp} {h h' : Heap} {x e : Addr} {o' : HO}
/-- the object at e is changed: x itself, or the dict of the instance x -/
theorem HOk.write (ok : HOk P w H h) (mu : Mut (H x)) (he : e = x ∨ H e = some (.own x)) (k : ∀ b u, b ≠ e → h.get? b = some u → h'.get? b = some u) (heo : ∃ u, h'.get? e = some u)
    (new : ObjOk P w (upd H x o') h' x o') : HOk P w (upd H x o') h' := fun b u q => by
  have nown : ∀ c y, H c = some (.own y) → c ≠ x := fun c y r z => by subst z; rw [r] at mu; exact mu
  have ntup : ∀ c xs, H c = some (.tup xs) → c ≠ x := fun c xs r z => by subst z; rw [r] at mu; exact mu
  by_cases hb : b = x
  · subst hb; rw [upd_same] at q; cases q; exact new
  · rw [upd_ne hb] at q
    by_cases hbe : b = e
    · have q' : H b = some (.own x) := by
        rcases he with z | z
        · exact absurd (hbe.trans z) hb
        · rw [hbe]; exact z
      rw [q] at q'; cases q'
      obtain ⟨v, hv⟩ := heo
      exact ⟨v, by rw [hbe]; exact hv⟩
    · refine (ok b u q).stay (fun c v hc r => k c v ?_ r) (fun c r => by rw [upd_ne (nown c b r)]; exact r) fun c xs r => by rw [upd_ne (ntup c xs r)]; exact r
      rcases hc with rfl | hc
      · exact hbe
      · rintro rfl
        rcases he with z | z
        · exact nown c b hc z
        · rw [hc] at z; cases z; exact hb rfl
end

/-! ### kept unless tracked; of the frames at fs (the callers') the slots may change (an exception that passes writes there); of the records at ex (iterators) nothing is said -/
structure Un (fs ex : List Addr) (H H' : Hp) (h h' : Heap) : Prop where
  keep : ∀ b o, h.get? b = some o → H b = none → b ∉ fs → b ∉ ex → h'.get? b = some o
  slot : ∀ b o, h.get? b = some o → H b = none → b ∈ fs → b ∉ ex → ∃ sl, h'.get? b = some { o with slots := sl }
  free : ∀ b o, h.get? b = some o → H b = none → b ∉ ex → H' b = none
  there : ∀ b o, h.get? b = some o → b ∉ ex → ∃ o', h'.get? b = some o'
  tups : ∀ b xs, H b = some (.tup xs) → H' b = some (.tup xs)
  frzs : ∀ b o u, H b = some (.frz o u) → H' b = some (.frz o u)
  tbls : ∀ b ps, H b = some (.tbl ps) → ∃ more, H' b = some (.tbl (ps ++ more))
section
variable {fs fs' ex ex' : List Addr} {H H1 H2 : Hp} {h h1 h2 h' : Heap} {a x e : Addr} {o : HO}
theorem Un.any (u : Un fs ex H H1 h h1) {b : Addr} {ob : Obj} (q : h.get? b = some ob) (n : H b = none) (hx : b ∉ ex) : ∃ sl, h1.get? b = some { ob with slots := sl } := by
  by_cases hb : b ∈ fs
  · exact u.slot b ob q n hb hx
  · exact ⟨ob.slots, u.keep b ob q n hb hx⟩
theorem Un.kept (k : ∀ b u, h.get? b = some u → h'.get? b = some u) : Un fs ex H H h h' :=
  ⟨fun b ob q _ _ _ => k b ob q, fun b ob q _ _ _ => ⟨ob.slots, k b ob q⟩, fun _ _ _ n _ => n, fun b ob q _ => ⟨ob, k b ob q⟩, fun _ _ q => q, fun _ _ _ q => q, fun _ ps q => ⟨#[], by rw [q]; simp⟩⟩
theorem Un.refl : Un fs ex H H h h := Un.kept fun _ _ q => q
theorem Un.laid (k : ∀ b u, h.get? b = some u → h'.get? b = some u) (hp : h.objs.size ≤ a) (hn : H a = none) : Un fs ex H (upd H a o) h h' where
  keep := fun b u q _ _ _ => k b u q
  slot := fun b u q _ _ _ => ⟨u.slots, k b u q⟩
  free := fun b u q n _ => by rw [upd_ne (Nat.ne_of_lt (Nat.lt_of_lt_of_le (Heap.lt_size q) hp))]; exact n
  there := fun b u q _ => ⟨u, k b u q⟩
  tups := fun b xs q => by rw [upd_ne (ne_of_none q hn)]; exact q
  frzs := fun b u xs q => by rw [upd_ne (ne_of_none q hn)]; exact q
  tbls := fun b ps q => ⟨#[], by rw [upd_ne (ne_of_none q hn), q]; simp⟩
theorem Un.write (mu : Mut (H x)) (he : e = x ∨ H e = some (.own x)) (k : ∀ b u, b ≠ e → h.get? b = some u → h'.get? b = some u) (heo : ∃ u, h'.get? e = some u) : Un fs ex H (upd H x o) h h' := by
  have hx : ∀ b, H b = none → b ≠ x := fun b n z => by subst z; rw [n] at mu; exact mu
  have hb : ∀ b, H b = none → b ≠ e := fun b n z => by
    subst z
    rcases he with r | r
    · exact hx b n r
    · rw [n] at r; cases r
  have hm : ∀ b u, H b = some u → ¬ Mut (some u) → b ≠ x := fun b u q nm z => by subst z; rw [q] at mu; exact nm mu
  refine ⟨fun b u q n _ _ => k b u (hb b n) q, fun b u q n _ _ => ⟨u.slots, k b u (hb b n) q⟩, fun b u q n _ => by rw [upd_ne (hx b n)]; exact n, fun b u q _ => ?_,
    fun b xs q => by rw [upd_ne (hm b _ q fun z => z)]; exact q, fun b u xs q => by rw [upd_ne (hm b _ q fun z => z)]; exact q, fun b ps q => ⟨#[], by rw [upd_ne (hm b _ q fun z => z), q]; simp⟩⟩
  by_cases hbe : b = e
  · subst hbe; exact heo
  · exact ⟨u, k b u hbe q⟩
end

/-! ### the heap without what is tracked -/
def trk (h : Heap) (H : Hp) : List Addr := (List.range h.objs.size).filter fun a => (H a).isSome
def hidT (h : Heap) (H : Hp) : Heap := PySem.W.hideAll h (trk h H)
theorem hidT_size (h : Heap) (H : Hp) : (hidT h H).objs.size = h.objs.size := PySem.W.hideAll_size _ _
theorem hidT_get {h : Heap} {H : Hp} {b : Addr} {o : Obj} (e : h.get? b = some o) (n : H b = none) : (hidT h H).get? b = some o :=
  PySem.W.hideAll_get _ e fun hm => by
    have q : (H b).isSome = true := (List.mem_filter.mp hm).2
    rw [n] at q; simp at q
theorem of_hidT {h : Heap} {H : Hp} {b : Addr} {o : Obj} (e : (hidT h H).get? b = some o) : h.get? b = some o ∧ H b = none := by
  have e' : h.get? b = some o := PySem.W.of_hideAll (trk h H) e
  refine ⟨e', ?_⟩
  cases q : H b with
  | none => rfl
  | some x =>
    have hm : b ∈ trk h H := List.mem_filter.mpr ⟨List.mem_range.mpr (Heap.lt_size e'), by simp [q]⟩
    have z : (hidT h H).get? b = none := PySem.W.hideAll_none (trk h H) hm
    rw [z] at e; cases e

/-! ### OpenK's ledger, filled with every new object but one -/
def allNews (g h : Heap) (L : Addr) : List (Addr × Obj) := (List.range h.objs.size).filterMap fun a => if a = L ∨ (g.get? a).isSome = true then none else (h.get? a).map fun o => (a, o)
def rest (g h : Heap) (L d : Addr) : List (Addr × Obj) := (allNews g h L).filter fun p => decide (p.1 ≠ d)
end L2

namespace L2
open PySem PySem.Spec PyProof.Rows

/-- the module's facts, over the base: the heap at the law's entry without what is tracked there -/
structure Mod (K : PySem.W.Frag) (mg : Str → Option Value) (base : Heap) : Prop where
  kin : K.In base
  glob : base.Ns mainGlobals mg
  blt : ∃ mb, base.Ns builtinsNs mb ∧ ∀ x : Str, x ≠ "__name__" → mb x = bootBuiltins x
  nolimit : base.NoLimit

/-- the context: a def's body (or a comprehension's block) running. base: fixed through the whole law; s₀, H₀: the entry; outer: the frames whose slots others may change (a def's callers); stack: all frames that run;
   ex: iterators that were made ahead of the entry and are walked here (a comprehension's); fn: the names whose cells were made at the entry (a def: all; a comprehension's block: its own); calm: not within an except suite; pn: pins that every state bears; xe: what is wanted of an exception that leaves the code -/
structure Cx where
  prog : Program
  w : World
  K : PySem.W.Frag
  mg : Str → Option Value
  base : Heap
  A : Around
  N : List Str
  s₀ : Shared
  H₀ : Hp
  env : Env
  outer : List Env
  stack : List Env
  ex : List Addr
  fn : Str → Bool
  calm : Bool
  pn : List (Addr × Obj)
  xe : Value → Shared → Prop
/-- the callers' frames -/
def frs (l : List Env) : List Addr := l.filterMap (·.frame)
abbrev Cx.fs (X : Cx) : List Addr := frs X.outer

def Vis (sc : Scope) (x : Str) : Prop := sc.names.lookup x = some .local ∨ sc.names.lookup x = some .cell ∨ sc.names.lookup x = some .free
def Loc (sc : Scope) (x : Str) : Prop := sc.names.lookup x = some .local ∨ sc.names.lookup x = some .cell
def Look (env : Env) (h : Heap) (m : Str → Option Value) (x : Str) (u : Value) : Prop :=
  (env.kindOf x = some .local ∧ m x = some u) ∨ ((env.kindOf x = some .cell ∨ env.kindOf x = some .free) ∧ ∃ c, env.cells.lookup x = some c ∧ h.IsCell c (some u))

structure Cx.Ok (X : Cx) : Prop where
  mod : Mod X.K X.mg X.base
  kind : X.env.scope.kind = .function
  glob : X.env.globals = mainGlobals
  blt : X.env.builtins = builtinsNs
  above : X.s₀.heap.objs.size ≤ X.env.locals
  inj : ∀ x y c, X.env.cells.lookup x = some c → X.env.cells.lookup y = some c → x = y
  has : ∀ x, (X.env.kindOf x = some .cell ∨ X.env.kindOf x = some .free) → ∃ c, X.env.cells.lookup x = some c
  cab : ∀ x c, X.fn x = true → X.env.cells.lookup x = some c → X.s₀.heap.objs.size ≤ c
  hd : X.calm = true → X.A.handled = none
  frames : X.A.frames = some X.stack
  stk : X.stack = X.outer ∨ (X.stack = X.env :: X.outer ∧ X.env.frame = some X.env.locals)
  exf : ∀ b ∈ X.ex, b ≠ X.env.locals ∧ ∀ x c, X.env.cells.lookup x = some c → c ≠ b
  bs : ∀ b o, X.base.get? b = some o → X.s₀.heap.get? b = some o ∧ X.H₀ b = none
  bsz : X.base.objs.size ≤ X.s₀.heap.objs.size
  noex : ∀ b o, X.base.get? b = some o → b ∉ X.ex
  exfs : ∀ b ∈ X.ex, b ∉ X.fs
  funs : X.s₀.heap.FunFrames X.base X.outer
  frf : ∀ b ∈ X.fs, X.H₀ b = none

structure Inv (X : Cx) (pins : List (Addr × Obj)) (σ : List (Option V)) (H : Hp) (s : Shared) : Prop where
  ok : X.Ok
  os : s.os = X.s₀.os
  bare : AllBare s.gens
  base : Un X.fs X.ex X.H₀ H X.s₀.heap s.heap
  loc : ∃ m, s.heap.Ns X.env.locals m ∧ ∀ (i : Nat) (x : Str) (v : V), X.N[i]? = some x → σ[i]? = some (some v) → Vis X.env.scope x → ∃ u, RelV v u ∧ Look X.env s.heap m x u
  cell : ∀ x c, X.env.cells.lookup x = some c → ∃ v, s.heap.IsCell c v
  free : H X.env.locals = none
  freeC : ∀ x c, X.env.cells.lookup x = some c → H c = none
  pin : ∀ p ∈ X.pn ++ pins, s.heap.get? p.1 = some p.2 ∧ H p.1 = none ∧ p.1 ≠ X.env.locals ∧ p.1 ∉ X.fs ∧ ∀ v, p.2.data ≠ .cell v
  hok : HOk X.prog X.w H s.heap
  len : σ.length = X.N.length

section
variable {X : Cx} {pins : List (Addr × Obj)} {σ : List (Option V)} {H H' : Hp} {s : Shared} {h' : Heap}

theorem Cx.Ok.nofr (ok : X.Ok) {b : Addr} {o : Obj} (e : X.base.get? b = some o) : b ∉ X.fs := fun hb => by
  have := (ok.funs.mem hb).1
  rw [e] at this; cases this
theorem Inv.bs (I : Inv X pins σ H s) : ∀ b o, X.base.get? b = some o → s.heap.get? b = some o ∧ H b = none := fun b o e =>
  ⟨I.base.keep b o (I.ok.bs b o e).1 (I.ok.bs b o e).2 (I.ok.nofr e) (I.ok.noex b o e), I.base.free b o (I.ok.bs b o e).1 (I.ok.bs b o e).2 (I.ok.noex b o e)⟩
theorem Inv.bk (I : Inv X pins σ H s) : ∀ b o, X.base.get? b = some o → s.heap.get? b = some o := fun b o e => (I.bs b o e).1
theorem Inv.mod (I : Inv X pins σ H s) : Mod X.K X.mg X.base := I.ok.mod
theorem Inv.kIn (I : Inv X pins σ H s) : X.K.In s.heap := I.ok.mod.kin.keeps I.bk
theorem Inv.lt (I : Inv X pins σ H s) : X.env.locals < s.heap.objs.size := let ⟨_, hn, _⟩ := I.loc; hn.lt
theorem Inv.sz (I : Inv X pins σ H s) : X.s₀.heap.objs.size ≤ s.heap.objs.size := Nat.le_trans I.ok.above (Nat.le_of_lt I.lt)
theorem Inv.nofs (I : Inv X pins σ H s) {a : Addr} (h : s.heap.objs.size ≤ a) : a ∉ X.fs := fun hb => by
  obtain ⟨_, o, ho, _⟩ := I.ok.funs.mem hb
  exact absurd (Nat.lt_of_lt_of_le (Heap.lt_size ho) (Nat.le_trans I.sz h)) (Nat.lt_irrefl _)
theorem Inv.cne (I : Inv X pins σ H s) : ∀ x c, X.env.cells.lookup x = some c → c ≠ X.env.locals := fun x c e z => by
  obtain ⟨v, o, ho, hd⟩ := I.cell x c e
  obtain ⟨m, ⟨o', es, ep, ho', hd', _⟩, _⟩ := I.loc
  rw [z, ho'] at ho; cases ho; rw [hd'] at hd; cases hd
theorem Inv.funs (I : Inv X pins σ H s) : s.heap.FunFrames X.base X.outer := by
  have all : ∀ (l : List Env), (∀ b ∈ frs l, b ∈ X.fs) → X.s₀.heap.FunFrames X.base l → s.heap.FunFrames X.base l := by
    intro l
    induction l with
    | nil => intro _ _; trivial
    | cons env r ih =>
      intro hs hl
      obtain ⟨hk, ⟨L, o, hf, hn, ho, hd⟩, hr⟩ := hl
      have hL : L ∈ X.fs := hs L (by unfold frs; rw [List.filterMap_cons, hf]; exact List.mem_cons_self)
      obtain ⟨sl, e⟩ := I.base.slot L o ho (I.ok.frf L hL) hL fun z => I.ok.exfs L z hL
      exact ⟨hk, ⟨L, _, hf, hn, e, hd⟩, ih (fun b hb => hs b (by unfold frs; rw [List.filterMap_cons, hf]; exact List.mem_cons_of_mem _ hb)) hr⟩
  exact all X.outer (fun _ hb => hb) I.ok.funs

/-- the frames that run, for a call -/
theorem Inv.stack (I : Inv X pins σ H s) : s.heap.FunFrames X.base X.stack := by
  rcases I.ok.stk with e | ⟨e, hf⟩
  · rw [e]; exact I.funs
  · rw [e]
    obtain ⟨m, hn, _⟩ := I.loc
    refine .cons (by rw [I.ok.kind]; decide) hf hn ?_ I.funs
    exact Heap.get?_none_of_le (Nat.le_trans I.ok.bsz I.ok.above)
theorem Inv.stkSub (I : Inv X pins σ H s) : ∀ b ∈ frs X.stack, b ∈ X.env.locals :: X.fs := fun b hb => by
  rcases I.ok.stk with e | ⟨e, hf⟩
  · rw [e] at hb; exact List.mem_cons_of_mem _ hb
  · rw [e] at hb
    unfold frs at hb
    rw [List.filterMap_cons, hf] at hb
    exact hb
theorem Inv.stkFree (I : Inv X pins σ H s) : ∀ b ∈ frs X.stack, H b = none := fun b hb => by
  rcases List.mem_cons.mp (I.stkSub b hb) with e | hb
  · rw [e]; exact I.free
  · obtain ⟨_, o, ho, _⟩ := I.ok.funs.mem hb
    exact I.base.free b o ho (I.ok.frf b hb) fun z => I.ok.exfs b z hb

/-- THE STEP: the untracked objects but the frame and the records at ch are kept (the callers' frames up to slots), the frame's map is kept, the new abstract heap is held -/
theorem Inv.step {g' : Array GenState} {t' : Nat} {d' : Drawn} {ch : List Addr} (I : Inv X pins σ H s)
    (hch : ∀ b ∈ ch, (b ∈ X.ex ∨ X.s₀.heap.objs.size ≤ b) ∧ b ≠ X.env.locals ∧ (∀ x c, X.env.cells.lookup x = some c → c ≠ b) ∧ ∀ p ∈ X.pn ++ pins, p.1 ≠ b)
    (keep : ∀ b o, b ≠ X.env.locals → b ∉ X.fs → b ∉ ch → s.heap.get? b = some o → H b = none → h'.get? b = some o)
    (slot : ∀ b o, b ≠ X.env.locals → b ∈ X.fs → b ∉ ch → s.heap.get? b = some o → H b = none → ∃ sl, h'.get? b = some { o with slots := sl }) (free : ∀ b o, b ∉ ch → s.heap.get? b = some o → H b = none → H' b = none)
    (there : ∀ b o, b ∉ ch → s.heap.get? b = some o → ∃ o', h'.get? b = some o')
    (tups : ∀ b xs, H b = some (.tup xs) → H' b = some (.tup xs)) (frzs : ∀ b o u, H b = some (.frz o u) → H' b = some (.frz o u)) (tbls : ∀ b ps, H b = some (.tbl ps) → ∃ more, H' b = some (.tbl (ps ++ more)))
    (ns : ∀ m, s.heap.Ns X.env.locals m → h'.Ns X.env.locals m) (hok : HOk X.prog X.w H' h') (hg : AllBare g') :
    Inv X pins σ H' { s with heap := h', gens := g', drawn := d', toks := t' } := by
  have neL : ∀ b o, X.s₀.heap.get? b = some o → b ≠ X.env.locals := fun b o e => Nat.ne_of_lt (Nat.lt_of_lt_of_le (Heap.lt_size e) I.ok.above)
  have neC : ∀ b o, X.s₀.heap.get? b = some o → b ∉ X.ex → b ∉ ch := fun b o e hx hb => by
    rcases (hch b hb).1 with z | z
    · exact hx z
    · exact absurd (Nat.lt_of_lt_of_le (Heap.lt_size e) z) (Nat.lt_irrefl _)
  have cellK : ∀ x c, X.env.cells.lookup x = some c → ∀ v, s.heap.IsCell c v → h'.IsCell c v := fun x c e v ⟨o, ho, hd⟩ => by
    have nch : c ∉ ch := fun z => (hch c z).2.2.1 x c e rfl
    by_cases hc : c ∈ X.fs
    · obtain ⟨sl, q⟩ := slot c o (I.cne x c e) hc nch ho (I.freeC x c e)
      exact ⟨_, q, hd⟩
    · exact ⟨o, keep c o (I.cne x c e) hc nch ho (I.freeC x c e), hd⟩
  refine ⟨I.ok, I.os, hg, ⟨fun b o e n hb hx => ?_, fun b o e n hb hx => ?_, fun b o e n hx => ?_, fun b o e hx => ?_, fun b xs e => tups b xs (I.base.tups b xs e), fun b o xs e => frzs b o xs (I.base.frzs b o xs e), fun b ps e => ?_⟩, ?_, fun x c e => ?_, ?_, fun x c e => ?_, fun p hp => ?_, hok, I.len⟩
  · exact keep b o (neL b o e) hb (neC b o e hx) (I.base.keep b o e n hb hx) (I.base.free b o e n hx)
  · obtain ⟨sl, e1⟩ := I.base.slot b o e n hb hx
    obtain ⟨sl', e2⟩ := slot b _ (neL b o e) hb (neC b o e hx) e1 (I.base.free b o e n hx)
    exact ⟨sl', e2⟩
  · obtain ⟨o', e1⟩ := I.base.there b o e hx
    exact free b o' (neC b o e hx) e1 (I.base.free b o e n hx)
  · obtain ⟨o', e1⟩ := I.base.there b o e hx
    exact there b o' (neC b o e hx) e1
  · obtain ⟨m1, e1⟩ := I.base.tbls b ps e
    obtain ⟨m2, e2⟩ := tbls b _ e1
    exact ⟨m1 ++ m2, by rw [e2, Array.append_assoc]⟩
  · obtain ⟨m, hn, hl⟩ := I.loc
    refine ⟨m, ns m hn, fun i x v e1 e2 e3 => ?_⟩
    obtain ⟨u, r, l⟩ := hl i x v e1 e2 e3
    refine ⟨u, r, ?_⟩
    rcases l with l | ⟨k, c, e, z⟩
    · exact .inl l
    · exact .inr ⟨k, c, e, cellK x c e _ z⟩
  · obtain ⟨v, z⟩ := I.cell x c e
    exact ⟨v, cellK x c e v z⟩
  · obtain ⟨m, ⟨o, _, _, ho, _⟩, _⟩ := I.loc
    exact free _ o (fun z => (hch _ z).2.1 rfl) ho I.free
  · obtain ⟨v, o, ho, hd⟩ := I.cell x c e
    exact free c o (fun z => (hch c z).2.2.1 x c e rfl) ho (I.freeC x c e)
  · obtain ⟨e, n, ne, nf, d⟩ := I.pin p hp
    have nch : p.1 ∉ ch := fun z => (hch p.1 z).2.2.2 p hp rfl
    exact ⟨keep p.1 p.2 ne nf nch e n, free p.1 p.2 nch e n, ne, nf, d⟩
/-- .. where the frame's own object is kept too -/
theorem Inv.un {t' : Nat} (I : Inv X pins σ H s) (u : Un X.fs [] H H' s.heap h') (hok : HOk X.prog X.w H' h') : Inv X pins σ H' { s with heap := h', toks := t' } := by
  obtain ⟨m, ⟨o, es, ep, ho, r⟩, _⟩ := id I.loc
  obtain ⟨sl, hL⟩ := u.any ho I.free (by simp)
  exact I.step (g' := s.gens) (d' := s.drawn) (ch := []) (fun _ z => nomatch z) (fun b o _ hb _ e n => u.keep b o e n hb (by simp)) (fun b o _ hb _ e n => u.slot b o e n hb (by simp)) (fun b o _ e n => u.free b o e n (by simp)) (fun b o _ e => u.there b o e (by simp)) u.tups u.frzs u.tbls (fun m' hm => by
    obtain ⟨o', es', ep', ho', r'⟩ := hm
    rw [ho] at ho'; cases ho'
    exact ⟨_, es', ep', hL, r'⟩) hok I.bare
/-- behind a call (or a comprehension's block): the slots of this frame may have changed too, the records at ch may have turned -/
theorem Inv.call {g' : Array GenState} {t' : Nat} {d' : Drawn} {ch : List Addr} (I : Inv X pins σ H s) (u : Un (frs X.stack) ch H H' s.heap h') (hok : HOk X.prog X.w H' h') (hg : AllBare g')
    (hch : ∀ b ∈ ch, (b ∈ X.ex ∨ X.s₀.heap.objs.size ≤ b) ∧ b ≠ X.env.locals ∧ (∀ x c, X.env.cells.lookup x = some c → c ≠ b) ∧ ∀ p ∈ X.pn ++ pins, p.1 ≠ b) :
    Inv X pins σ H' { s with heap := h', gens := g', drawn := d', toks := t' } := by
  obtain ⟨m, ⟨o, es, ep, ho, r⟩, _⟩ := id I.loc
  obtain ⟨sl, hL⟩ := u.any ho I.free fun z => (hch _ z).2.1 rfl
  exact I.step (ch := ch) hch (fun b o hL hb hc e n => u.keep b o e n (fun z => (List.mem_cons.mp (I.stkSub b z)).elim hL hb) hc) (fun b o _ _ hc e n => u.any e n hc) (fun b o hc e n => u.free b o e n hc) (fun b o hc e => u.there b o e hc) u.tups u.frzs u.tbls (fun m' hm => by
    obtain ⟨o', es', ep', ho', r'⟩ := hm
    rw [ho] at ho'; cases ho'
    exact ⟨_, es', ep', hL, r'⟩) hok hg
/-- an untracked record of ours (an iterator) has turned -/
theorem Inv.turned {t' : Nat} {it : Addr} (I : Inv X pins σ H s) (k : ∀ b o, b ≠ it → s.heap.get? b = some o → h'.get? b = some o) (hn : H it = none) (hL : it ≠ X.env.locals)
    (h1 : it ∈ X.ex ∨ X.s₀.heap.objs.size ≤ it) (h2 : ∀ x c, X.env.cells.lookup x = some c → c ≠ it) (h3 : ∀ p ∈ X.pn ++ pins, p.1 ≠ it) : Inv X pins σ H { s with heap := h', toks := t' } := by
  have nit : ∀ b u, H b = some u → b ≠ it := fun b u e z => by rw [z, hn] at e; cases e
  refine I.step (g' := s.gens) (d' := s.drawn) (ch := [it]) (fun b hb => ?_) (fun b o _ _ hc e _ => k b o (fun z => hc (by simp [z])) e) (fun b o _ _ hc e _ => ⟨o.slots, k b o (fun z => hc (by simp [z])) e⟩) (fun _ _ _ _ n => n)
    (fun b o hc e => ⟨o, k b o (fun z => hc (by simp [z])) e⟩) (fun _ _ e => e) (fun _ _ _ e => e) (fun b ps e => ⟨#[], by rw [e]; simp⟩) (fun m hm => ?_) (fun b u e => ?_) I.bare
  · have e : b = it := by simpa using hb
    subst e
    exact ⟨h1, hL, h2, h3⟩
  · obtain ⟨o, es, ep, ho, r⟩ := hm
    exact ⟨o, es, ep, k _ o (Ne.symm hL) ho, r⟩
  · refine (I.hok b u e).stay (fun c v hc q => k c v ?_ q) (fun _ q => q) fun _ _ q => q
    rcases hc with z | z
    · rw [z]; exact nit b u e
    · exact nit c _ z
theorem Inv.tok (I : Inv X pins σ H s) (t : Nat) : Inv X pins σ H { s with toks := t } := I.un (h' := s.heap) (t' := t) Un.refl I.hok
/-- all objects kept -/
theorem Inv.kept {t' : Nat} (I : Inv X pins σ H s) (k : ∀ b u, s.heap.get? b = some u → h'.get? b = some u) : Inv X pins σ H { s with heap := h', toks := t' } := I.un (Un.kept k) (I.hok.kept k)
/-- a new object laid and tracked -/
theorem Inv.laid {a : Addr} {o : HO} {t' : Nat} (I : Inv X pins σ H s) (k : ∀ b u, s.heap.get? b = some u → h'.get? b = some u) (hp : s.heap.objs.size ≤ a) (new : ObjOk X.prog X.w (upd H a o) h' a o) :
    Inv X pins σ (upd H a o) { s with heap := h', toks := t' } := I.un (Un.laid k hp (I.hok.fresh hp)) (I.hok.laid k hp new)
/-- an object written -/
theorem Inv.write {x e : Addr} {o : HO} {t' : Nat} (I : Inv X pins σ H s) (mu : Mut (H x)) (he : e = x ∨ H e = some (.own x)) (k : ∀ b u, b ≠ e → s.heap.get? b = some u → h'.get? b = some u) (heo : ∃ u, h'.get? e = some u)
    (new : ObjOk X.prog X.w (upd H x o) h' x o) : Inv X pins σ (upd H x o) { s with heap := h', toks := t' } := I.un (Un.write mu he k heo) (I.hok.write mu he k heo new)
theorem Inv.pins_of {pins' : List (Addr × Obj)} (I : Inv X pins σ H s) (h : ∀ p ∈ pins', s.heap.get? p.1 = some p.2 ∧ H p.1 = none ∧ p.1 ≠ X.env.locals ∧ p.1 ∉ X.fs ∧ ∀ v, p.2.data ≠ .cell v) : Inv X pins' σ H s :=
  ⟨I.ok, I.os, I.bare, I.base, I.loc, I.cell, I.free, I.freeC, fun p hp => (List.mem_append.mp hp).elim (fun z => I.pin p (List.mem_append_left _ z)) (h p), I.hok, I.len⟩

theorem nodup_ix {N : List Str} (hN : N.Nodup) {i j : Nat} {x : Str} (a : N[i]? = some x) (b : N[j]? = some x) : i = j := by
  obtain ⟨h1, e1⟩ := List.getElem?_eq_some_iff.mp a
  obtain ⟨h2, e2⟩ := List.getElem?_eq_some_iff.mp b
  exact (List.getElem_inj hN).mp (e1.trans e2.symm)

/-- a name is stored; what changed -/
theorem store_ok2 {M : Model} {A : Around} {E : Value → Shared → Prop} {i : Nat} {x : Str} {v : V} {u : Value} {Q : Unit → Shared → Prop} (I : Inv X pins σ H s) (hN : X.N.Nodup) (hi : X.N[i]? = some x) (hx : Loc X.env.scope x) (r : RelV v u)
    (h : ∀ s', Inv X pins (σ.set i (some v)) H s' → (∃ a, Heap.SameBut a s.heap s'.heap ∧ (a = X.env.locals ∨ X.env.cells.lookup x = some a)) → Q () s') (hf : X.fn x = true ∨ X.env.scope.names.lookup x = some .local := by first | exact .inl rfl | exact .inr rfl | assumption) : wpAny M A (storeName X.env x u) Q E s := by
  obtain ⟨m, hn, hl⟩ := id I.loc
  have hcls : (X.env.scope.kind == .class || (X.env.scope.kind == .module && X.env.locals != X.env.globals)) = false := by rw [I.ok.kind]; rfl
  have hiσ : i < σ.length := by rw [I.len]; exact (List.getElem?_eq_some_iff.mp hi).1
  have cne := I.cne
  have tracked : ∀ {a : Addr} {h' : Heap}, (∃ o, s.heap.get? a = some o ∧ H a = none) → Heap.SameBut a s.heap h' → HOk X.prog X.w H h' := fun {a h'} ha hs b ob e => by
    obtain ⟨_, _, hfree⟩ := ha
    refine (I.hok b ob e).stay (fun c w' hc q => (hs.2 c ?_).trans q) (fun _ q => q) fun _ _ q => q
    rintro rfl
    rcases hc with rfl | hc
    · rw [hfree] at e; cases e
    · rw [hfree] at hc; cases hc
  rcases hx with hk | hk
  · refine wpAny_storeName_local hk hn (fun h' hn' hs => ?_) hcls
    obtain ⟨oL, _, _, hoL, _⟩ := id hn
    refine h _ ⟨I.ok, I.os, I.bare, ⟨fun b o e n hb hx => ?_, fun b o e n hb hx => ?_, I.base.free, fun b o e hx => ?_, I.base.tups, I.base.frzs, I.base.tbls⟩, ⟨_, hn', fun j y v' e1 e2 e3 => ?_⟩, fun y c e => ?_, I.free, I.freeC, fun p hp => ?_, tracked ⟨oL, hoL, I.free⟩ hs, by simpa using I.len⟩ ⟨_, hs, .inl rfl⟩
    · exact (hs.2 b (Nat.ne_of_lt (Nat.lt_of_lt_of_le (Heap.lt_size e) I.ok.above))).trans (I.base.keep b o e n hb hx)
    · obtain ⟨sl, e1⟩ := I.base.slot b o e n hb hx
      exact ⟨sl, (hs.2 b (Nat.ne_of_lt (Nat.lt_of_lt_of_le (Heap.lt_size e) I.ok.above))).trans e1⟩
    · obtain ⟨o', e1⟩ := I.base.there b o e hx
      exact ⟨o', (hs.2 b (Nat.ne_of_lt (Nat.lt_of_lt_of_le (Heap.lt_size e) I.ok.above))).trans e1⟩
    · by_cases hj : j = i
      · subst hj
        rw [hi] at e1; cases e1
        rw [List.getElem?_set_self hiσ] at e2
        cases e2
        exact ⟨u, r, .inl ⟨hk, by simp⟩⟩
      · rw [List.getElem?_set_ne (Ne.symm hj)] at e2
        obtain ⟨u', r', q⟩ := hl j y v' e1 e2 e3
        refine ⟨u', r', ?_⟩
        rcases q with ⟨k, e⟩ | ⟨k, c, e, z⟩
        · refine .inl ⟨k, ?_⟩
          have : y ≠ x := fun e => hj (nodup_ix hN e1 (e ▸ hi))
          simp [this, e]
        · exact .inr ⟨k, c, e, z.sameBut hs (cne y c e)⟩
    · obtain ⟨w', z⟩ := I.cell y c e
      exact ⟨w', z.sameBut hs (cne y c e)⟩
    · obtain ⟨e, n, ne, nf, d⟩ := I.pin p hp
      exact ⟨(hs.2 p.1 ne).trans e, n, ne, nf, d⟩
  · have hfn : X.fn x = true := by
      rcases hf with z | z
      · exact z
      · rw [z] at hk; cases hk
    obtain ⟨c, hc⟩ := I.ok.has x (.inl hk)
    obtain ⟨w', z⟩ := I.cell x c hc
    refine wpAny_storeName_cell I.ok.kind hk hc z (fun h' hc' hs => ?_)
    obtain ⟨oc, hoc, hocd⟩ := id z
    refine h { s with heap := h' } ⟨I.ok, I.os, I.bare, ⟨fun b o e n hb hx => ?_, fun b o e n hb hx => ?_, I.base.free, fun b o e hx => ?_, I.base.tups, I.base.frzs, I.base.tbls⟩, ⟨m, hn.sameBut hs (Ne.symm (cne x c hc)), fun j y v' e1 e2 e3 => ?_⟩, fun y c' e => ?_, I.free, I.freeC, fun p hp => ?_, tracked ⟨oc, hoc, I.freeC x c hc⟩ hs, by simpa using I.len⟩ ⟨c, hs, .inr hc⟩
    · exact (hs.2 b (Nat.ne_of_lt (Nat.lt_of_lt_of_le (Heap.lt_size e) (I.ok.cab x c hfn hc)))).trans (I.base.keep b o e n hb hx)
    · obtain ⟨sl, e1⟩ := I.base.slot b o e n hb hx
      exact ⟨sl, (hs.2 b (Nat.ne_of_lt (Nat.lt_of_lt_of_le (Heap.lt_size e) (I.ok.cab x c hfn hc)))).trans e1⟩
    · obtain ⟨o', e1⟩ := I.base.there b o e hx
      exact ⟨o', (hs.2 b (Nat.ne_of_lt (Nat.lt_of_lt_of_le (Heap.lt_size e) (I.ok.cab x c hfn hc)))).trans e1⟩
    · by_cases hj : j = i
      · subst hj
        rw [hi] at e1; cases e1
        rw [List.getElem?_set_self hiσ] at e2
        cases e2
        exact ⟨u, r, .inr ⟨.inl hk, c, hc, hc'⟩⟩
      · rw [List.getElem?_set_ne (Ne.symm hj)] at e2
        obtain ⟨u', r', q⟩ := hl j y v' e1 e2 e3
        refine ⟨u', r', ?_⟩
        rcases q with q | ⟨k, c', e, z'⟩
        · exact .inl q
        · refine .inr ⟨k, c', e, z'.sameBut hs ?_⟩
          rintro rfl
          exact hj (nodup_ix hN e1 (I.ok.inj _ _ _ e hc ▸ hi))
    · by_cases hcc : c' = c
      · subst hcc; exact ⟨_, hc'⟩
      · obtain ⟨w2, z2⟩ := I.cell y c' e
        exact ⟨w2, z2.sameBut hs hcc⟩
    · obtain ⟨e, n, ne, nf, d⟩ := I.pin p hp
      refine ⟨(hs.2 p.1 ?_).trans e, n, ne, nf, d⟩
      intro q
      rw [q, hoc] at e
      have q' : oc = p.2 := Option.some.inj e
      exact d w' (by rw [← q']; exact hocd)
theorem store_ok {M : Model} {A : Around} {E : Value → Shared → Prop} {i : Nat} {x : Str} {v : V} {u : Value} {Q : Unit → Shared → Prop} (I : Inv X pins σ H s) (hN : X.N.Nodup) (hi : X.N[i]? = some x) (hx : Loc X.env.scope x) (r : RelV v u)
    (h : ∀ s', Inv X pins (σ.set i (some v)) H s' → Q () s') (hf : X.fn x = true ∨ X.env.scope.names.lookup x = some .local := by first | exact .inl rfl | exact .inr rfl | assumption) : wpAny M A (storeName X.env x u) Q E s :=
  store_ok2 I hN hi hx r (fun s' I' _ => h s' I') hf
/-- behind a call or a block, the state as it is -/
theorem Inv.call' {s' : Shared} {ch : List Addr} (I : Inv X pins σ H s) (ho : s'.os = s.os) (u : Un (frs X.stack) ch H H' s.heap s'.heap) (hok : HOk X.prog X.w H' s'.heap) (hg : AllBare s'.gens)
    (hch : ∀ b ∈ ch, (b ∈ X.ex ∨ X.s₀.heap.objs.size ≤ b) ∧ b ≠ X.env.locals ∧ (∀ x c, X.env.cells.lookup x = some c → c ≠ b) ∧ ∀ p ∈ X.pn ++ pins, p.1 ≠ b) : Inv X pins σ H' s' := by
  obtain ⟨h', g', d', t', o'⟩ := s'
  have e : o' = s.os := ho
  subst e
  exact I.call (g' := g') (t' := t') (d' := d') u hok hg hch
end

/-! ### the judgements -/
/-- an exception: its class, its own dict's address (where it has one), the abstract heap behind it -/
abbrev XK := Value → Option Addr → Hp → Prop
abbrev St := List (Option V)
abbrev VK := V → Hp → Prop
/-- an expression's reading; a test's; an argument list's -/
abbrev TE := St → Hp → VK → Prop
abbrev TT := St → Hp → (Bool → Hp → Prop) → Prop
abbrev TA := St → Hp → (List V → Hp → Prop) → Prop
/-- what is wanted behind a statement -/
structure Ends where
  nx : St → Hp → Prop
  rt : VK
  bk : St → Hp → Prop := fun _ _ => False
  ct : St → Hp → Prop := fun _ _ => False
abbrev TS := Ends → St → Hp → Prop

def EP (X : Cx) (pins : List (Addr × Obj)) (σ : St) (Q : VK) (u : Value) (s' : Shared) : Prop := ∃ v H', Inv X pins σ H' s' ∧ RelV v u ∧ Q v H'
def TP (X : Cx) (pins : List (Addr × Obj)) (σ : St) (Q : Bool → Hp → Prop) (b : Bool) (s' : Shared) : Prop := ∃ H', Inv X pins σ H' s' ∧ Q b H'
def AP (X : Cx) (pins : List (Addr × Obj)) (σ : St) (Q : List V → Hp → Prop) (us : List Value) (s' : Shared) : Prop := ∃ vs H', Inv X pins σ H' s' ∧ Vals vs us ∧ Q vs H'
def SP (X : Cx) (pins : List (Addr × Obj)) (D : Ends) (f : Flow) (s' : Shared) : Prop :=
  match f with
  | .next => ∃ σ' H', Inv X pins σ' H' s' ∧ D.nx σ' H'
  | .brk => ∃ σ' H', Inv X pins σ' H' s' ∧ D.bk σ' H'
  | .cont => ∃ σ' H', Inv X pins σ' H' s' ∧ D.ct σ' H'
  | .ret u => ∃ v σ' H', Inv X pins σ' H' s' ∧ RelV v u ∧ D.rt v H'

def PE (X : Cx) (e : Expr) (t : TE) : Prop :=
  ∀ (pins : List (Addr × Obj)) (s : Shared) (σ : St) (H : Hp) (Q : VK), Inv X pins σ H s → t σ H Q → wpAny (model X.prog X.w) X.A (eval e X.env) (EP X pins σ Q) X.xe s
def PT (X : Cx) (e : Expr) (t : TT) : Prop :=
  ∀ (pins : List (Addr × Obj)) (s : Shared) (σ : St) (H : Hp) (Q : Bool → Hp → Prop), Inv X pins σ H s → t σ H Q → wpAny (model X.prog X.w) X.A (isTrue e X.env (eval e X.env)) (TP X pins σ Q) X.xe s
/-- a test whatever its 'whole' is (and, or) -/
def PW (X : Cx) (e : Expr) (t : TT) : Prop :=
  ∀ (whole : Sem Value) (pins : List (Addr × Obj)) (s : Shared) (σ : St) (H : Hp) (Q : Bool → Hp → Prop), Inv X pins σ H s → t σ H Q → wpAny (model X.prog X.w) X.A (isTrue e X.env whole) (TP X pins σ Q) X.xe s
theorem PW.pt {X : Cx} {e : Expr} {t : TT} (h : PW X e t) : PT X e t := h _
/-- an argument list (no star), from the left -/
def PA (X : Cx) (es : List Expr) (t : TA) : Prop :=
  ∀ (pos : Pos) (pins : List (Addr × Obj)) (s : Shared) (σ : St) (H : Hp) (Q : List V → Hp → Prop), Inv X pins σ H s → t σ H Q → wpAny (model X.prog X.w) X.A (spliced (backTo pos (starEach es X.env))) (AP X pins σ Q) X.xe s
def PS (X : Cx) (st : Stmt) (t : TS) : Prop :=
  ∀ (pins : List (Addr × Obj)) (s : Shared) (σ : St) (H : Hp) (D : Ends), Inv X pins σ H s → t D σ H → wpAny (model X.prog X.w) X.A (exec st X.env) (SP X pins D) X.xe s
def PSs (X : Cx) (st : List Stmt) (t : TS) : Prop :=
  ∀ (pins : List (Addr × Obj)) (s : Shared) (σ : St) (H : Hp) (D : Ends), Inv X pins σ H s → t D σ H → wpAny (model X.prog X.w) X.A (execs st X.env) (SP X pins D) X.xe s
/-- weaken the end -/
theorem thn {α : Type} {t : Sem α} {Q Q' : α → Shared → Prop} {M : Model} {A : Around} {E : Value → Shared → Prop} {s : Shared} (h : wpAny M A t Q E s) (hQ : ∀ a s, Q a s → Q' a s) : wpAny M A t Q' E s := wpAny_mono h hQ fun _ _ x => x
end L2

namespace L2
open PySem PySem.Spec PyProof.Rows
section
variable {X : Cx}

/-! ### names and constants -/
def tVar (i : Nat) : TE := fun σ H Q => ∃ v, σ[i]? = some (some v) ∧ Q v H
def tC (v : V) : TE := fun _ H Q => Q v H
theorem pe_var {i : Nat} {x : Str} {pos : Pos} (hN : X.N[i]? = some x) (hv : Vis X.env.scope x) (hd : (x == ("__debug__" : Str)) = false := by decide) (hcd : (x == ("__classdict__" : Str)) = false := by decide) : PE X (.Name x pos) (tVar i) := by
  intro pins s σ H Q I h
  obtain ⟨v, e, h⟩ := h
  obtain ⟨m, hn, hl⟩ := I.loc
  obtain ⟨u, r, l⟩ := hl i x v hN e hv
  have fin : EP X pins σ Q u s := ⟨v, H, I, r, h⟩
  rcases l with ⟨hk, hm⟩ | ⟨hk, c, hc, hcell⟩
  · exact wpAny_Name (wpAny_loadName_local I.ok.kind hk hn hm fin) hd
  · rcases hk with hk | hk
    · exact wpAny_Name (wpAny_loadName_cell I.ok.kind hk hc hcell fin) hd
    · exact wpAny_Name (wpAny_loadName_free I.ok.kind hk hc hcell fin hcd) hd
theorem pe_int {i j pos} : PE X (.Constant (.int i) j pos) (tC (.int i)) := fun _ _ _ H _ I h => wpAny_Constant_int ⟨.int i, H, I.tok _, ⟨_, rfl⟩, h⟩
theorem pe_str {x j pos} : PE X (.Constant (.str x) j pos) (tC (.str x)) := fun _ _ _ H _ I h => Calls.Constant_str ⟨.str x, H, I.tok _, ⟨_, rfl⟩, h⟩

/-- a global name of the def -/
def Gl (X : Cx) (x : Str) : Prop := X.env.kindOf x = some .globalImplicit
theorem ld_glob {E : Value → Shared → Prop} {pins : List (Addr × Obj)} {s : Shared} {σ : St} {H : Hp} {x : Str} {u : Value} {pos : Pos} {Q : Value → Shared → Prop} (I : Inv X pins σ H s) (hg : Gl X x) (hm : X.mg x = some u) (h : Q u s)
    (hd : (x == ("__debug__" : Str)) = false := by decide) : wpAny (model X.prog X.w) X.A (eval (.Name x pos) X.env) Q E s :=
  Calls.Name_function_global I.ok.kind hg (Calls.loadGlobal_global (by rw [I.ok.glob]; exact I.mod.glob.keeps I.bk) hm h) hd
theorem ld_blt {E : Value → Shared → Prop} {pins : List (Addr × Obj)} {s : Shared} {σ : St} {H : Hp} {x : Str} {u : Value} {pos : Pos} {Q : Value → Shared → Prop} (I : Inv X pins σ H s) (hg : Gl X x) (hm : X.mg x = none) (hv : bootBuiltins x = some u) (h : Q u s)
    (hn : x ≠ "__name__" := by decide) (hd : (x == ("__debug__" : Str)) = false := by decide) : wpAny (model X.prog X.w) X.A (eval (.Name x pos) X.env) Q E s := by
  obtain ⟨mb, h1, h2⟩ := I.mod.blt
  exact Calls.Name_function_global I.ok.kind hg (Calls.loadGlobal_builtin (by rw [I.ok.glob]; exact I.mod.glob.keeps I.bk) hm (by rw [I.ok.blt]; exact h1.keeps I.bk) ((h2 x hn).trans hv) h) hd
/-- a module's constant, a class, a function, as a value -/
theorem pe_glob {x : Str} {v : V} {u : Value} {pos : Pos} (hg : Gl X x) (hm : X.mg x = some u) (r : RelV v u) (hd : (x == ("__debug__" : Str)) = false := by decide) : PE X (.Name x pos) (tC v) :=
  fun _ _ _ H _ I h => ld_glob I hg hm ⟨v, H, I, r, h⟩ hd
theorem pe_bltn {x : Str} {v : V} {u : Value} {pos : Pos} (hg : Gl X x) (hm : X.mg x = none) (hv : bootBuiltins x = some u) (r : RelV v u) (hn : x ≠ "__name__" := by decide) (hd : (x == ("__debug__" : Str)) = false := by decide) : PE X (.Name x pos) (tC v) :=
  fun _ _ _ H _ I h => ld_blt I hg hm hv ⟨v, H, I, r, h⟩ hn hd

/-! ### arithmetic -/
/-- two ints -/
def t2I (ta tb : TE) (k : Int → Int → Hp → Prop) : St → Hp → Prop := fun σ H => ta σ H fun x H1 => tb σ H1 fun y H2 => ∃ i j, x = .int i ∧ y = .int j ∧ k i j H2
def tAdd (ta tb : TE) : TE := fun σ H Q => t2I ta tb (fun i j H2 => Q (.int (i + j)) H2) σ H
def tSub (ta tb : TE) : TE := fun σ H Q => t2I ta tb (fun i j H2 => Q (.int (i - j)) H2) σ H
/-- the left factor below 2^64 -/
def tMul (ta tb : TE) : TE := fun σ H Q => t2I ta tb (fun i j H2 => (-(2 ^ 64) < i ∧ i < 2 ^ 64) ∧ Q (.int (i * j)) H2) σ H
variable {a b : Expr} {ta tb : TE} {pos : Pos}
/-! ### comparisons -/
def PC (X : Cx) (op : CmpOp) (a b : Expr) (t : TE) : Prop :=
  ∀ (pins : List (Addr × Obj)) (s : Shared) (σ : St) (H : Hp) (Q : VK), Inv X pins σ H s → t σ H Q →
    wpAny (model X.prog X.w) X.A (eval a X.env) (fun v s₁ => wpAny (model X.prog X.w) X.A (eval b X.env) (fun u s₂ => wpAny (model X.prog X.w) X.A (compareOp op v u) (EP X pins σ Q) X.xe s₂) X.xe s₁) X.xe s
def tCmp (p : Int → Int → Bool) (ta tb : TE) : TE := fun σ H Q => t2I ta tb (fun i j H2 => Q (.bl (p i j)) H2) σ H
abbrev tLt : TE → TE → TE := tCmp fun i j => decide (i < j)
abbrev tLe : TE → TE → TE := tCmp fun i j => decide (i ≤ j)
abbrev tGt : TE → TE → TE := tCmp fun i j => decide (j < i)
abbrev tGe : TE → TE → TE := tCmp fun i j => decide (j ≤ i)
abbrev tEqI : TE → TE → TE := tCmp fun i j => decide (i = j)
abbrev tNeI : TE → TE → TE := tCmp fun i j => !decide (i = j)
/-- is None -/
def tIsN (ta : TE) : TE := fun σ H Q => ta σ H fun x H1 => Q (.bl (decide (x = .non))) H1
def tNotN (ta : TE) : TE := fun σ H Q => ta σ H fun x H1 => Q (.bl (!decide (x = .non))) H1
/-- a comparison as a value, as a test -/
def tB (t : TE) : TT := fun σ H Q => t σ H fun x H1 => ∃ c, x = .bl c ∧ Q c H1
/-- an expression whose value is a bool, as a test -/
theorem pt_val {e : Expr} {t : TE} (h : PE X e t) (he : ∀ whole, isTrue e X.env whole = (do let v ← whole; standAt e.pos; holding [v] (truthy v)) := by intro _; rfl) : PT X e (tB t) := by
  intro pins s σ H Q I hw
  refine isTrue_plain (thn (h pins s σ H _ I hw) fun v s1 ⟨x, H1, I1, r1, q1⟩ => ?_) (he _)
  obtain ⟨d, rfl, q⟩ := q1
  cases r1
  exact wpAny_truthy_bool ⟨H1, I1, q⟩

/-! ### and, or, not -/
variable {tA tB' : TT} {rest : List Expr}
def tAnd (t u : TT) : TT := fun σ H Q => t σ H fun c H1 => if c = true then u σ H1 Q else Q false H1
def tOr (t u : TT) : TT := fun σ H Q => t σ H fun c H1 => if c = true then Q true H1 else u σ H1 Q
def tNot (t : TT) : TT := fun σ H Q => t σ H fun c H1 => Q (!c) H1
theorem pw_or1 (ha : PT X a tA) : PW X (.BoolOp .Or [a] pos) tA := by
  intro wh pins s σ H Q I h
  refine isTrue_or (thn (ha pins s σ H Q I h) fun c s1 e => ?_)
  cases c with
  | false => exact isTrue_or_nil e
  | true => exact e
theorem pw_or (ha : PT X a tA) (hb : PW X (.BoolOp .Or (b :: rest) pos) tB') : PW X (.BoolOp .Or (a :: b :: rest) pos) (tOr tA tB') := by
  intro wh pins s σ H Q I h
  refine isTrue_or (thn (ha pins s σ H _ I h) fun c s1 ⟨H1, I1, q1⟩ => ?_)
  cases c with
  | true => exact ⟨H1, I1, q1⟩
  | false => exact hb wh pins s1 σ H1 Q I1 q1
theorem pt_not (ha : PT X a tA) : PT X (.UnaryOp .Not a pos) (tNot tA) := by
  intro pins s σ H Q I h
  exact isTrue_not (ha pins s σ H (fun c H1 => Q (!c) H1) I h)
/-- .. as values (bools) -/
def tAndV (ta tb : TE) : TE := fun σ H Q => ta σ H fun x H1 => ∃ c, x = .bl c ∧ if c = true then tb σ H1 Q else Q (.bl false) H1
def tOrV (ta tb : TE) : TE := fun σ H Q => ta σ H fun x H1 => ∃ c, x = .bl c ∧ if c = true then Q (.bl true) H1 else tb σ H1 Q
def tNotV (ta : TE) : TE := fun σ H Q => ta σ H fun x H1 => ∃ c, x = .bl c ∧ Q (.bl (!c)) H1
theorem pe_one {op} {t : TE} (h : PE X a t) : PE X (.BoolOp op [a] pos) t := fun pins s σ H Q I hw => BoolOp_one (h pins s σ H Q I hw)
theorem pe_and (ha : PE X a ta) (hb : PE X (.BoolOp .And (b :: rest) pos) tb) : PE X (.BoolOp .And (a :: b :: rest) pos) (tAndV ta tb) := by
  intro pins s σ H Q I h
  refine BoolOp_and (thn (ha pins s σ H _ I h) fun v s1 ⟨x, H1, I1, r1, q1⟩ => ?_)
  obtain ⟨c, rfl, q1⟩ := q1
  cases r1
  refine wpAny_truthy_bool ?_
  cases c with
  | true => exact hb pins s1 σ H1 Q I1 q1
  | false => exact ⟨.bl false, H1, I1, rfl, q1⟩
theorem pe_not (ha : PE X a ta) : PE X (.UnaryOp .Not a pos) (tNotV ta) := by
  intro pins s σ H Q I h
  refine UnaryOp_ (thn (ha pins s σ H _ I h) fun v s1 ⟨x, H1, I1, r1, q1⟩ => ?_)
  obtain ⟨c, rfl, q1⟩ := q1
  cases r1
  exact not_of (wpAny_truthy_bool ⟨.bl (!c), H1, I1, rfl, q1⟩)
/-- a if t else b -/
def tIf (t : TT) (ta tb : TE) : TE := fun σ H Q => t σ H fun c H1 => if c = true then ta σ H1 Q else tb σ H1 Q
end
end L2

namespace L2
open PySem PySem.Spec PyProof.Rows

/-! ### a list, a tuple that is read: tracked, frozen, or an object of the module -/
def SqL (K : PySem.W.Frag) (H : Hp) (a : Addr) (xs : List V) : Prop :=
  Rd H a (.lst xs) ∨
    ∃ (o : Obj) (its : Array Value) (n : Nat), K.lookup a = some o ∧ o.cls = .type "list" ∧ o.dict = none ∧ o.data = .seq its n ∧ its.size ≤ sizeLine ∧ Vals xs its.toList
def SqT (K : PySem.W.Frag) (H : Hp) (a : Addr) (xs : List V) : Prop :=
  Rd H a (.tup xs) ∨
    ∃ (o : Obj) (its : Array Value) (n : Nat), K.lookup a = some o ∧ o.cls = .type "tuple" ∧ o.data = .seq its n ∧ its.size ≤ sizeLine ∧ Vals xs its.toList
def absV : Value → Option V
  | .none => some .non
  | .bool b => some (.bl b)
  | .int i _ => some (.int i)
  | .str x _ => some (.str x)
  | .bytes b _ => some (.byt b)
  | .float b _ => some (.flt b)
  | .ref a => some (.ref a)
  | .type n => some (.ty n)
  | _ => none
theorem RelV.abs {x : V} {u : Value} (r : RelV x u) : absV u = some x := by
  cases x with
  | non => cases r; rfl
  | bl _ => cases r; rfl
  | int _ => obtain ⟨t, rfl⟩ := r; rfl
  | str _ => obtain ⟨t, rfl⟩ := r; rfl
  | byt _ => obtain ⟨t, rfl⟩ := r; rfl
  | flt _ => obtain ⟨t, rfl⟩ := r; rfl
  | ref _ => cases r; rfl
  | ty _ => cases r; rfl
theorem RelV.inj {x y : V} {u : Value} (r : RelV x u) (q : RelV y u) : x = y := Option.some.inj (r.abs.symm.trans q.abs)
theorem Vals.inj : ∀ {xs ys : List V} {us : List Value}, Vals xs us → Vals ys us → xs = ys
  | _, _, _, .nil, .nil => rfl
  | _, _, _, .cons r t, .cons r' t' => by rw [r.inj r', Vals.inj t t']
section
variable {X : Cx} {pins : List (Addr × Obj)} {σ : St} {H : Hp} {s : Shared} {a : Addr} {xs ys : List V}
theorem SqL.of {K : PySem.W.Frag} (h : H a = some (.lst xs)) : SqL K H a xs := .inl (.inl h)
theorem Inv.list (I : Inv X pins σ H s) (h : SqL X.K H a xs) : ∃ its : List Value, Vals xs its ∧ PlainL s.heap a its.toArray ∧ xs.length ≤ sizeLine := by
  rcases h with h | ⟨o, its, n, hk, hc, hd, hs, hz, r⟩
  · obtain ⟨z, its, n, r, e⟩ := h.ok I.hok
    exact ⟨its, r, ⟨_, n, e, rfl, rfl, rfl⟩, z⟩
  · refine ⟨its.toList, r, ⟨o, n, I.kIn a o hk, hc, hd, by simpa using hs⟩, ?_⟩
    have e := r.length
    simp only [Array.length_toList] at e
    omega
theorem Inv.tuple (I : Inv X pins σ H s) (h : SqT X.K H a xs) : ∃ its : List Value, Vals xs its ∧ IsTup s.heap a its.toArray ∧ xs.length ≤ sizeLine := by
  rcases h with h | ⟨o, its, n, hk, hc, hs, hz, r⟩
  · obtain ⟨z, its, r, p⟩ := h.ok I.hok
    exact ⟨its, r, p, z⟩
  · refine ⟨its.toList, r, ⟨o, I.kIn a o hk, hc, n, by simpa using hs⟩, ?_⟩
    have e := r.length
    simp only [Array.length_toList] at e
    omega
theorem Inv.list_inj (I : Inv X pins σ H s) (h : SqL X.K H a xs) (h' : SqL X.K H a ys) : xs = ys := by
  obtain ⟨its, r, ⟨o, n, e, _, _, d⟩, _⟩ := I.list h
  obtain ⟨its', r', ⟨o', n', e', _, _, d'⟩, _⟩ := I.list h'
  rw [e] at e'; cases e'
  rw [d] at d'
  injection d' with d1 _
  have : its = its' := by simpa using congrArg Array.toList d1
  subst this
  exact r.inj r'
end

/-! ### another wish about exceptions -/
abbrev Cx.wish (X : Cx) (E : Value → Shared → Prop) : Cx := { X with xe := E }
/-- no exception leaves -/
abbrev Cx.nox (X : Cx) : Cx := X.wish fun _ _ => False
section
variable {X : Cx} {pins : List (Addr × Obj)} {σ : St} {H : Hp} {s : Shared} {E : Value → Shared → Prop}
end

/-! ### blocks and small statements -/
section
variable {X : Cx} {st : Stmt} {rest : List Stmt} {t u : TS} {e : Expr} {te : TE} {pos : Pos}
def tNext : TS := fun D σ H => D.nx σ H
def tSeq (t u : TS) : TS := fun D σ H => t { D with nx := u D } σ H
theorem pss_nil : PSs X [] tNext := fun _ _ σ H _ I h => wpAny_execs_nil ⟨σ, H, I, h⟩
theorem pss_cons (h1 : PS X st t) (h2 : PSs X rest u) : PSs X (st :: rest) (tSeq t u) := by
  intro pins s σ H D I h
  refine wpAny_execs_cons (thn (h1 pins s σ H { D with nx := u D } I h) fun f s1 q => ?_)
  cases f with
  | next =>
    obtain ⟨σ', H', I', q⟩ := q
    exact h2 pins s1 σ' H' D I' q
  | ret v => exact q
  | brk => exact q
  | cont => exact q
theorem pss_one (h1 : PS X st t) : PSs X [st] t := by
  intro pins s σ H D I h
  refine wpAny_execs_cons (thn (h1 pins s σ H D I h) fun f s1 q => ?_)
  cases f with
  | next => exact wpAny_execs_nil q
  | ret v => exact q
  | brk => exact q
  | cont => exact q
def tBreak : TS := fun D σ H => D.bk σ H
def tCont : TS := fun D σ H => D.ct σ H
/-- in a def's body nothing is shown -/
theorem Inv.quiet {pins : List (Addr × Obj)} {σ : St} {H : Hp} {s : Shared} (I : Inv X pins σ H s) : interactive X.env = false := by simp [interactive, I.ok.kind]
/-- an expression whose value is dropped -/
def tDrop (te : TE) : TS := fun D σ H => te σ H fun _ H1 => D.nx σ H1
theorem ps_expr (he : PE X e te) (hs : swapsWith e none pos.line X.env = pure false := by rfl) : PS X (.Expr e pos) (tDrop te) := by
  intro pins s σ H D I h
  exact wpAny_Expr_any (thn (he pins s σ H _ I h) fun v s1 ⟨x, H1, I1, r1, q1⟩ => ⟨σ, H1, I1, q1⟩) I.quiet hs
def tRet (te : TE) : TS := fun D σ H => te σ H D.rt
theorem ps_ret (he : PE X e te) : PS X (.Return (some e) pos) (tRet te) := by
  intro pins s σ H D I h
  exact wpAny_Return_some (thn (he pins s σ H _ I h) fun v s1 ⟨x, H1, I1, r1, q1⟩ => ⟨x, σ, H1, I1, r1, q1⟩)
def tRetN : TS := fun D _ H => D.rt .non H
def tIfS (c : TT) (t u : TS) : TS := fun D σ H => c σ H fun b H1 => if b = true then t D σ H1 else u D σ H1
theorem ps_if {c : Expr} {a b : List Stmt} {tc : TT} (hc : PT X c tc) (ha : PSs X a t) (hb : PSs X b u) : PS X (.If c a b pos) (tIfS tc t u) := by
  intro pins s σ H D I h
  refine wpAny_If (thn (hc pins s σ H _ I h) fun d s1 ⟨H1, I1, q1⟩ => ?_)
  cases d with
  | true => exact ha pins s1 σ H1 D I1 q1
  | false => exact hb pins s1 σ H1 D I1 q1
/-- code that the proof never comes to -/
def tNever : TS := fun _ _ _ => False
theorem pss_never {sts : List Stmt} : PSs X sts tNever := fun _ _ _ _ _ _ h => h.elim
end

/-! ### targets -/
abbrev TG := V → St → Hp → (St → Hp → Prop) → Prop
abbrev TGs := List V → St → Hp → (St → Hp → Prop) → Prop
def PG (X : Cx) (target : Expr) (t : TG) : Prop :=
  ∀ (pins : List (Addr × Obj)) (s : Shared) (σ : St) (H : Hp) (v : V) (u : Value) (Q : St → Hp → Prop), Inv X pins σ H s → RelV v u → t v σ H Q →
    wpAny (model X.prog X.w) X.A (assign target X.env u) (fun _ s' => ∃ σ' H', Inv X pins σ' H' s' ∧ Q σ' H') X.xe s
/-- several targets, one after another -/
def PGs (X : Cx) (ts : List Expr) (t : TGs) : Prop :=
  ∀ (pins : List (Addr × Obj)) (s : Shared) (σ : St) (H : Hp) (vs : List V) (us : List Value) (Q : St → Hp → Prop), Inv X pins σ H s → Vals vs us → t vs σ H Q →
    wpAny (model X.prog X.w) X.A (assignInOrder ((assignEach ts X.env).map (·.2)) us) (fun _ s' => ∃ σ' H', Inv X pins σ' H' s' ∧ Q σ' H') X.xe s
/-- o[i] = v, by values -/
abbrev TSet := V → V → V → Hp → (Hp → Prop) → Prop
def PSet (X : Cx) (t : TSet) : Prop :=
  ∀ (pins : List (Addr × Obj)) (s : Shared) (σ : St) (H : Hp) (o i v : V) (ov iv u : Value) (Q : Hp → Prop), Inv X pins σ H s → RelV o ov → RelV i iv → RelV v u → t o i v H Q →
    wpAny (model X.prog X.w) X.A (setItem ov iv u) (fun _ s' => ∃ H', Inv X pins σ H' s' ∧ Q H') X.xe s
/-- a op= b, by values -/
abbrev TIp := V → V → Hp → VK → Prop
def PIp (X : Cx) (op : Operator) (t : TIp) : Prop :=
  ∀ (pins : List (Addr × Obj)) (s : Shared) (σ : St) (H : Hp) (x y : V) (v u : Value) (Q : VK), Inv X pins σ H s → RelV x v → RelV y u → t x y H Q →
    wpAny (model X.prog X.w) X.A (inplaceOp op v u) (EP X pins σ Q) X.xe s
section
variable {X : Cx} {pos : Pos}
def gName (i : Nat) : TG := fun v σ H Q => Q (σ.set i (some v)) H
theorem pg_name {i : Nat} {x : Str} (hN : X.N.Nodup) (hi : X.N[i]? = some x) (hx : Loc X.env.scope x) (hf : X.fn x = true ∨ X.env.scope.names.lookup x = some .local := by first | exact .inl rfl | exact .inr rfl | assumption) : PG X (.Name x pos) (gName i) := by
  intro pins s σ H v u Q I r h
  exact wpAny_assign_Name (store_ok I hN hi hx r (fun s' I' => ⟨_, H, I', h⟩) hf)
def gNil : TGs := fun vs σ H Q => vs = [] ∧ Q σ H
def gCons (t : TG) (u : TGs) : TGs := fun vs σ H Q => ∃ v r, vs = v :: r ∧ t v σ H fun σ' H' => u r σ' H' Q
/-- (a, b, ..) = a tuple of that length -/
def gTup (K : PySem.W.Frag) (n : Nat) (t : TGs) : TG := fun v σ H Q => ∃ a xs, v = .ref a ∧ SqT K H a xs ∧ xs.length = n ∧ t xs σ H Q
/-- o[i] = .. -/
def gSub (to ti : TE) (t : TSet) : TG := fun v σ H Q => to σ H fun o H1 => ti σ H1 fun i H2 => t o i v H2 fun H3 => Q σ H3
/-- target = value -/
def tAsg (te : TE) (g : TG) : TS := fun D σ H => te σ H fun x H1 => g x σ H1 D.nx
/-- name = value -/
theorem ps_set {i : Nat} {x : Str} {e : Expr} {te : TE} {pos' : Pos} (hN : X.N.Nodup) (hi : X.N[i]? = some x) (hx : Loc X.env.scope x) (he : PE X e te) (hs : swapsWith e (some (.Name x pos')) pos.line X.env = pure false := by rfl) (hf : X.fn x = true ∨ X.env.scope.names.lookup x = some .local := by first | exact .inl rfl | exact .inr rfl | assumption) :
    PS X (.Assign [.Name x pos'] e pos) (tAsg te (gName i)) := by
  intro pins s σ H D I h
  refine wpAny_Assign_Name (thn (he pins s σ H _ I h) fun v s1 ⟨y, H1, I1, r1, q1⟩ => ?_) hs
  exact store_ok I1 hN hi hx r1 (fun s2 I2 => ⟨_, H1, I2, q1⟩) hf
/-- a, b = x, y with plain local names: stored from the right; the pair itself is not tracked (the opening rows as in PyProof/Rows/TupAssign.lean:23) -/
def tPar (i j : Nat) (ta : TA) : TS := fun D σ H => ta σ H fun vs H1 => ∃ v w, vs = [v, w] ∧ D.nx ((σ.set i (some v)).set j (some w)) H1
/-- name op= e -/
def tAug (i : Nat) (te : TE) (ti : TIp) : TS := fun D σ H => ∃ x, σ[i]? = some (some x) ∧ te σ H fun y H1 => ti x y H1 fun z H2 => D.nx (σ.set i (some z)) H2
/-- o[i] op= e -/
def tAugS (to ti te : TE) (tget : V → V → Hp → VK → Prop) (tip : TIp) (tset : TSet) : TS := fun D σ H => to σ H fun o H1 => ti σ H1 fun i H2 => tget o i H2 fun x H3 => te σ H3 fun y H4 => tip x y H4 fun z H5 => tset o i z H5 fun H6 => D.nx σ H6
/-- o[i], by values -/
def PGet (X : Cx) (t : V → V → Hp → VK → Prop) : Prop :=
  ∀ (pins : List (Addr × Obj)) (s : Shared) (σ : St) (H : Hp) (o i : V) (ov iv : Value) (Q : VK), Inv X pins σ H s → RelV o ov → RelV i iv → t o i H Q →
    wpAny (model X.prog X.w) X.A (getItem ov iv) (EP X pins σ Q) X.xe s
/-- ints -/
def ipI (f : Int → Int → Int) : TIp := fun x y H Q => ∃ i j, x = .int i ∧ y = .int j ∧ Q (.int (f i j)) H
end

/-! ### while -/
section
variable {X : Cx} {pos : Pos}
/-- the invariant W with its measure -/
def tWhile (c : TT) (tb : TS) : TS := fun D σ H => ∃ W : Nat → St → Hp → Prop, (∃ m, W m σ H) ∧ ∀ m σ H, W m σ H →
  c σ H fun b H1 => if b = true then ∃ N : St → Hp → Prop, (∀ σ' H', N σ' H' → ∃ m', m' < m ∧ W m' σ' H') ∧ tb { D with nx := N, ct := N, bk := D.nx } σ H1 else D.nx σ H1
end

/-! ### what a loop or a comprehension walks -/
/-- at turn i: it yields x (the heap may grow), or it stops -/
structure It where
  go : Nat → Hp → Prop
  yld : Nat → Hp → V → Hp → Prop
  stop : Nat → Hp → Prop
/-- the iterator's own objects may turn: they are not the frame's, not pinned, younger than the entry (or a comprehension's own) -/
def FpOk (X : Cx) (pins : List (Addr × Obj)) (H : Hp) (b : Addr) : Prop :=
  H b = none ∧ b ≠ X.env.locals ∧ b ∉ X.fs ∧ (b ∈ X.ex ∨ X.s₀.heap.objs.size ≤ b) ∧ (∀ x c, X.env.cells.lookup x = some c → c ≠ b) ∧ ∀ p ∈ X.pn ++ pins, p.1 ≠ b
theorem Inv.fpOk {X : Cx} {pins : List (Addr × Obj)} {σ : St} {H H' : Hp} {s : Shared} {b : Addr} (I : Inv X pins σ H s) (hb : s.heap.objs.size ≤ b) (hn : H' b = none) : FpOk X pins H' b := by
  refine ⟨hn, Nat.ne_of_gt (Nat.lt_of_lt_of_le I.lt hb), I.nofs hb, .inr (Nat.le_trans I.sz hb), fun x c e z => ?_, fun p hp z => ?_⟩
  · obtain ⟨v, q⟩ := I.cell x c e
    exact absurd (Nat.lt_of_lt_of_le q.lt (by rw [z]; exact hb)) (Nat.lt_irrefl _)
  · exact absurd (Nat.lt_of_lt_of_le (Heap.lt_size (I.pin p hp).1) (by rw [z]; exact hb)) (Nat.lt_irrefl _)
structure Turn (P : Program) (w : World) (K : PySem.W.Frag) (tg : Expr) (J : It) (fp : List Addr) (it : Addr) (tn : Nat → Heap → Prop) : Prop where
  mem : it ∈ fp
  obj : ∀ i h, tn i h → ∀ b ∈ fp, ∃ o, h.get? b = some o ∧ ∀ v, o.data ≠ .cell v
  keep : ∀ i h h', tn i h → (∀ b ∈ fp, ∀ o, h.get? b = some o → h'.get? b = some o) → tn i h'
  item : ∀ (X : Cx), X.prog = P → X.w = w → X.K = K → X.calm = true → ∀ (i : Nat) (pins : List (Addr × Obj)) (s : Shared) (σ : St) (H : Hp) (E : Value → Shared → Prop), Inv X pins σ H s → (∀ b ∈ fp, FpOk X pins H b) → tn i s.heap → J.go i H →
    wpAny (model P w) X.A (pyNext (.ref it)) (fun r s1 => ∃ u, r = some u ∧
      wpAny (model P w) X.A (letOwnedTupleGo tg (.ref it) u) (fun _ s2 => ∃ x H', Inv X pins σ H' s2 ∧ RelV x u ∧ J.yld i H x H' ∧ tn (i + 1) s2.heap ∧ ∀ b ∈ fp, H' b = none) E s1) E s
  done : ∀ (X : Cx), X.prog = P → X.w = w → X.K = K → X.calm = true → ∀ (i : Nat) (pins : List (Addr × Obj)) (s : Shared) (σ : St) (H : Hp) (E : Value → Shared → Prop), Inv X pins σ H s → (∀ b ∈ fp, FpOk X pins H b) → tn i s.heap → J.stop i H →
    wpAny (model P w) X.A (pyNext (.ref it)) (fun r s1 => r = none ∧ Inv X pins σ H s1) E s
  self : ∀ (A : Around) (i : Nat) (s : Shared) (Q : Value → Shared → Prop) (E : Value → Shared → Prop), tn i s.heap → Q (.ref it) s → wpAny (model P w) A (pyIter (.ref it)) Q E s
abbrev TI := St → Hp → (It → Hp → Prop) → Prop
/-- an iterator has come -/
def PIE (X : Cx) (pins : List (Addr × Obj)) (σ : St) (tg : Expr) (R : It → Hp → Prop) (itv : Value) (s2 : Shared) : Prop :=
  ∃ (it : Addr) (fp : List Addr) (tn : Nat → Heap → Prop) (J : It) (H' : Hp), itv = .ref it ∧ Inv X pins σ H' s2 ∧ Turn X.prog X.w X.K tg J fp it tn ∧ tn 0 s2.heap ∧ (∀ b ∈ fp, FpOk X pins H' b) ∧ R J H'
def PI (X : Cx) (tg iter : Expr) (wi : TI) : Prop :=
  ∀ (pins : List (Addr × Obj)) (s : Shared) (σ : St) (H : Hp) (R : It → Hp → Prop), Inv X pins σ H s → wi σ H R →
    wpAny (model X.prog X.w) X.A (eval iter X.env) (fun v s1 => wpAny (model X.prog X.w) X.A (pyIter v) (PIE X pins σ tg R) X.xe s1) X.xe s

/-- the step ahead of the store is nothing for an iterator that keeps no tuple -/
theorem go_of {M : Model} {A : Around} {E : Value → Shared → Prop} {s : Shared} {tg : Expr} {it : Addr} {u : Value} {o : Obj} {n : String} {vs : Array Value} {Q : Unit → Shared → Prop} (ho : s.heap.get? it = some o) (hc : o.cls = .type n) (hd : o.data = .fields vs)
    (hn : ["enumerate", "zip", "dict_itemiterator", "dict_reverseitemiterator", "odict_iterator", "itertools.zip_longest", "itertools.pairwise"].contains n = false) (hQ : Q () s) : wpAny M A (letOwnedTupleGo tg (.ref it) u) Q E s := by
  unfold letOwnedTupleGo
  cases tg <;> first
    | exact wpAny_pure hQ
    | (cases u <;> first
        | exact wpAny_pure hQ
        | (refine wpAny_bind (wpAny_load ho ?_)
           rw [hc, hd]
           show wpAny M A (if (["enumerate", "zip", "dict_itemiterator", "dict_reverseitemiterator", "odict_iterator", "itertools.zip_longest", "itertools.pairwise"].contains n && vs[0]? == some (rawInt _)) = true then _ else _) Q E s
           rw [if_neg (by intro h; rw [hn, Bool.false_and] at h; cases h)]
           exact wpAny_pure hQ))

/-- the list at a, as it stands at each turn (a loop may append to it) -/
def Itl (K : PySem.W.Frag) (a : Addr) : It :=
  ⟨fun i H => ∃ xs x, SqL K H a xs ∧ xs[i]? = some x, fun i H x H' => H' = H ∧ ∀ xs, SqL K H a xs → xs[i]? = some x, fun i H => ∃ xs, SqL K H a xs ∧ xs.length ≤ i⟩
def Itt (K : PySem.W.Frag) (a : Addr) : It :=
  ⟨fun i H => ∃ xs x, SqT K H a xs ∧ xs[i]? = some x, fun i H x H' => H' = H ∧ ∀ xs, SqT K H a xs → xs[i]? = some x, fun i H => ∃ xs, SqT K H a xs ∧ xs.length ≤ i⟩
/-- lo, lo + 1, .. (n of them) -/
def Itr (lo : Int) (n : Nat) : It := ⟨fun i _ => i < n, fun i H x H' => H' = H ∧ x = .int (lo + i), fun i _ => n ≤ i⟩
theorem turn_list {P : Program} {w : World} {K : PySem.W.Frag} {tg : Expr} (a it : Addr) : Turn P w K tg (Itl K a) [it] it (fun i h => h.IsListIter it a i) where
  mem := by simp
  obj := fun i h st b hb => by
    have e : b = it := by simpa using hb
    subst e
    obtain ⟨o, e, c, d⟩ := st
    exact ⟨o, e, fun v z => by rw [d] at z; cases z⟩
  keep := fun i h h' st k => st.at fun o e => k it (by simp) o e
  item := by
    intro X hP hw hK hc i pins s σ H E I hf st hg
    subst hP hw hK
    obtain ⟨xs, x, hq, hx⟩ := hg
    obtain ⟨its, rv, p, hz⟩ := I.list hq
    obtain ⟨u, hu, ru⟩ := rv.get hx
    obtain ⟨f0, f1, f2, f3, f4, f5⟩ := hf it (by simp)
    refine wpAny_pyNext_list_item st p.isList (x := u) (by simpa using hu) fun h' st' sb => ?_
    have I1 : Inv X pins σ H { s with heap := h' } := I.turned (t' := s.toks) (fun b o hb e => (sb.2 b hb).trans e) f0 f1 f3 f4 f5
    obtain ⟨o, e, c, d⟩ := id st'
    exact ⟨u, rfl, go_of (s := { s with heap := h' }) e c d (by decide) ⟨x, H, I1, ru, ⟨rfl, fun ys hy => by rw [I.list_inj hy hq]; exact hx⟩, st', fun b hb => (hf b hb).1⟩⟩
  done := by
    intro X hP hw hK hc i pins s σ H E I hf st hg
    subst hP hw hK
    obtain ⟨xs, hq, hx⟩ := hg
    obtain ⟨its, rv, p, hz⟩ := I.list hq
    obtain ⟨f0, f1, f2, f3, f4, f5⟩ := hf it (by simp)
    have hl := rv.length
    exact wpAny_pyNext_list_end (I.ok.hd hc) st p.isList (by simp; omega) fun h' eb => ⟨rfl, I.turned (t' := s.toks) (fun b o hb e => eb b o hb e) f0 f1 f3 f4 f5⟩
  self := fun _ _ _ _ _ st h => wpAny_pyIter_listiter st h
theorem turn_range {P : Program} {w : World} {K : PySem.W.Frag} {tg : Expr} (it : Addr) (lo : Int) (n : Nat) : Turn P w K tg (Itr lo n) [it] it (fun i h => IsRangeIter h it (lo + (i : Nat) * 1) ((n : Int) - (i : Nat)) 1) where
  mem := by simp
  obj := fun i h st b hb => by
    have e : b = it := by simpa using hb
    subst e
    exact ⟨_, st, fun v z => by
      have z' : Data.fields _ = Data.cell v := z
      cases z'⟩
  keep := fun i h h' st k => k it (by simp) _ st
  item := by
    intro X hP hw hK hc i pins s σ H E I hf st hg
    subst hP hw hK
    obtain ⟨f0, f1, f2, f3, f4, f5⟩ := hf it (by simp)
    have W := Walks.range (prog := X.prog) (w := X.w) (I.ok.hd hc) it lo 1 n
    refine W.item i s _ _ hg st fun v h' tk hv st' kk => ?_
    obtain ⟨t, rfl⟩ := hv
    have I1 : Inv X pins σ H { s with heap := h', toks := tk } := I.turned (fun b o hb e => kk b o (by simpa using hb) e) f0 f1 f3 f4 f5
    refine ⟨_, rfl, go_of (s := { s with heap := h', toks := tk }) (n := "range_iterator") st' rfl rfl (by decide) ⟨.int (lo + i), H, I1, ⟨t, ?_⟩, ⟨rfl, rfl⟩, st', fun b hb => (hf b hb).1⟩⟩
    rw [Int.mul_one]
  done := by
    intro X hP hw hK hc i pins s σ H E I hf st hg
    subst hP hw hK
    obtain ⟨f0, f1, f2, f3, f4, f5⟩ := hf it (by simp)
    exact wpAny_pyNext_range_end (I.ok.hd hc) st (by have : n ≤ i := hg; omega) fun h' eb => ⟨rfl, I.turned (t' := s.toks) (fun b o hb e => eb b o hb e) f0 f1 f3 f4 f5⟩
  self := fun _ _ _ _ _ st h => wpAny_pyIter_rangeiter st h
end L2

namespace L2
open PySem PySem.Spec PyProof.Rows
section
variable {X : Cx} {tg : Expr}
def iList (K : PySem.W.Frag) (tl : TE) : TI := fun σ H R => tl σ H fun x H1 => ∃ a, x = .ref a ∧ (∃ xs, SqL K H1 a xs) ∧ R (Itl K a) H1
def iTup (K : PySem.W.Frag) (tl : TE) : TI := fun σ H R => tl σ H fun x H1 => ∃ a, x = .ref a ∧ (∃ xs, SqT K H1 a xs) ∧ R (Itt K a) H1
theorem pi_list {l : Expr} {tl : TE} (hl : PE X l tl) : PI X tg l (iList X.K tl) := by
  intro pins s σ H R I h
  refine thn (hl pins s σ H _ I h) fun v s1 ⟨x, H1, I1, r1, q1⟩ => ?_
  obtain ⟨a, e, ⟨xs, hq⟩, q⟩ := q1
  subst e
  cases r1
  obtain ⟨its, rv, p, hz⟩ := I1.list hq
  refine wpAny_pyIter_list p.isList ?_
  refine ⟨s1.heap.objs.size, [s1.heap.objs.size], _, _, H1, rfl, I1.kept (t' := s1.toks) fun b o e => Heap.get?_push_of_some _ e, turn_list a _, ⟨_, Heap.get?_push_size _ rfl, rfl, rfl⟩, fun b hb => ?_, q⟩
  have e : b = s1.heap.objs.size := by simpa using hb
  subst e
  exact I1.fpOk (Nat.le_refl _) (I1.hok.fresh (Nat.le_refl _))
/-- a range object just made, walked -/
theorem range_it {pins : List (Addr × Obj)} {σ : St} {H : Hp} {s : Shared} {R : It → Hp → Prop} {E : Value → Shared → Prop} {lo hi : Int} {t u v : Tok} {tk : Nat} (I : Inv X pins σ H s) (h1 : -(2 ^ 62) ≤ lo) (h2 : lo < 2 ^ 62) (h3 : -(2 ^ 62) ≤ hi) (h4 : hi < 2 ^ 62)
    (q : R (Itr lo (hi - lo).toNat) H) : wpAny (model X.prog X.w) X.A (pyIter (.ref s.heap.objs.size)) (PIE X pins σ tg R) E { s with heap := s.heap.push { cls := .type "range", data := .fields #[.int lo t, .int hi u, .int 1 v] }, toks := tk } := by
  refine wpAny_pyIter_range (IsRange.new ..) (small_one h1 h2 h3 h4) ?_
  have I1 : Inv X pins σ H { s with heap := s.heap.push { cls := .type "range", data := .fields #[.int lo t, .int hi u, .int 1 v] }, toks := tk } := I.kept fun b o e => Heap.get?_push_of_some _ e
  refine ⟨(s.heap.push { cls := .type "range", data := .fields #[.int lo t, .int hi u, .int 1 v] }).objs.size, [(s.heap.push { cls := .type "range", data := .fields #[.int lo t, .int hi u, .int 1 v] }).objs.size], _, _, H, rfl,
    I1.kept (t' := tk) fun b o e => Heap.get?_push_of_some _ e, turn_range _ lo (hi - lo).toNat, ?_, fun b hb => ?_, q⟩
  · have e1 : lo + ((0 : Nat) : Int) * 1 = lo := by simp
    have e2 : (((hi - lo).toNat : Nat) : Int) - ((0 : Nat) : Int) = Builtin.Range.rangeSize lo hi 1 := by rw [rangeSize_one]; split <;> omega
    show IsRangeIter _ _ (lo + ((0 : Nat) : Int) * 1) ((((hi - lo).toNat : Nat) : Int) - ((0 : Nat) : Int)) 1
    rw [e1, e2]
    exact Heap.get?_push_size _ rfl
  · have e : b = (s.heap.push { cls := .type "range", data := .fields #[.int lo t, .int hi u, .int 1 v] }).objs.size := by simpa using hb
    subst e
    exact I1.fpOk (Nat.le_refl _) (I1.hok.fresh (Nat.le_refl _))
def iRng1 (ta : TA) : TI := fun σ H R => ta σ H fun vs H1 => ∃ j : Int, vs = [.int j] ∧ -(2 ^ 62) ≤ j ∧ j < 2 ^ 62 ∧ R (Itr 0 j.toNat) H1
def iRng2 (ta : TA) : TI := fun σ H R => ta σ H fun vs H1 => ∃ i j : Int, vs = [.int i, .int j] ∧ (-(2 ^ 62) ≤ i ∧ i < 2 ^ 62 ∧ -(2 ^ 62) ≤ j ∧ j < 2 ^ 62) ∧ R (Itr i (j - i).toNat) H1
theorem pi_range1 {a : Expr} {ta : TA} {p pos : Pos} (hg : Gl X "range") (hm : X.mg "range" = none) (ha : PA X [a] ta) (hs : starEach [a] X.env = [(false, eval a X.env)] := by rfl) : PI X tg (.Call (.Name "range" p) [a] [] pos) (iRng1 ta) := by
  intro pins s σ H R I h
  refine Call_ (ld_blt I hg hm boot_range (PyProof.Rows.callWith_type1 (thn (ha pos pins s σ H _ I h) fun us s1 ⟨vs, H1, I1, r1, q1⟩ => ?_) hs rfl))
  obtain ⟨j, e, q1, q2, q⟩ := q1
  subst e
  cases r1 with
  | cons r rr =>
    cases rr
    obtain ⟨t, rfl⟩ := r
    exact call_range_1 (range_it I1 (by omega) (by omega) q1 q2 (by simpa using q))
/-! ### for -/
/-- W: the invariant by the turn and a measure; N: what the body is to reach -/
def tFor (wi : TI) (g : TG) (tb : TS) : TS := fun D σ H => wi σ H fun J H1 => ∃ W : Nat → Nat → St → Hp → Prop, (∃ m, W 0 m σ H1) ∧ ∀ i m σ H, W i m σ H →
  (J.stop i H ∧ D.nx σ H) ∨ (J.go i H ∧ ∃ N : St → Hp → Prop, (∀ σ' H', N σ' H' → ∃ m', m' < m ∧ W (i + 1) m' σ' H') ∧ ∀ x H', J.yld i H x H' → g x σ H' fun σ2 H2 => tb { D with nx := N, ct := N, bk := D.nx } σ2 H2)
/-- the records at fp as they stand -/
def pinsAt (fp : List Addr) (h : Heap) : List (Addr × Obj) := fp.filterMap fun b => (h.get? b).map fun o => (b, o)
theorem mem_pinsAt {fp : List Addr} {h : Heap} {b : Addr} {o : Obj} (hb : b ∈ fp) (e : h.get? b = some o) : (b, o) ∈ pinsAt fp h := List.mem_filterMap.mpr ⟨b, hb, by rw [e]; rfl⟩
theorem of_pinsAt {fp : List Addr} {h : Heap} {p : Addr × Obj} (hp : p ∈ pinsAt fp h) : p.1 ∈ fp ∧ h.get? p.1 = some p.2 := by
  obtain ⟨b, hb, e⟩ := List.mem_filterMap.mp hp
  cases q : h.get? b with
  | none => rw [q] at e; cases e
  | some o =>
    rw [q] at e
    have e' : (b, o) = p := Option.some.inj e
    subst e'
    exact ⟨hb, q⟩
theorem Inv.pinned {pins : List (Addr × Obj)} {σ : St} {H : Hp} {s : Shared} {fp : List Addr} (I : Inv X pins σ H s) (hf : ∀ b ∈ fp, FpOk X pins H b) (ho : ∀ b ∈ fp, ∃ o, s.heap.get? b = some o ∧ ∀ v, o.data ≠ .cell v) : Inv X (pins ++ pinsAt fp s.heap) σ H s :=
  I.pins_of fun p hp => (List.mem_append.mp hp).elim (fun z => I.pin p (List.mem_append_right _ z)) fun z => by
    obtain ⟨hb, e⟩ := of_pinsAt z
    obtain ⟨f0, f1, f2, _⟩ := hf p.1 hb
    obtain ⟨o, e', d⟩ := ho p.1 hb
    rw [e] at e'; cases e'
    exact ⟨e, f0, f1, f2, d⟩
theorem Inv.unpinned {pins pl : List (Addr × Obj)} {σ : St} {H : Hp} {s : Shared} (I : Inv X (pins ++ pl) σ H s) : Inv X pins σ H s := I.pins_of fun p hp => I.pin p (List.mem_append_right _ (List.mem_append_left _ hp))
theorem ps_for {iter : Expr} {body : List Stmt} {wi : TI} {g : TG} {tb : TS} {pos : Pos} (hp : PassesOwn (model X.prog X.w) X.A X.env X.xe) (hc : X.calm = true) (hi : PI X tg iter wi) (hg : PG X tg g) (hb : PSs X body tb)
    (hs : ∀ x, foldedSetIterable iter X.env x = pure x := by intro _; rfl) : PS X (.For tg iter body [] pos) (tFor wi g tb) := by
  intro pins s σ H D I h
  refine wpAny_For (thn (hi pins s σ H _ I h) fun v s1 h1 => thn h1 fun itv s2 h2 => ?_) hs
  obtain ⟨it, fp, tn, J, H2, e, I2, T, st2, f2, W, ⟨m0, w0⟩, turn⟩ := h2
  subst e
  -- what stays true of the iterator's objects through the loop
  have stat : ∀ {H' : Hp}, (∀ b ∈ fp, H' b = none) → ∀ b ∈ fp, FpOk X pins H' b := fun hn b hb => ⟨hn b hb, (f2 b hb).2⟩
  refine codeAny_forLoop_any (fun n s' => ∃ i σ' H', Inv X pins σ' H' s' ∧ tn i s'.heap ∧ (∀ b ∈ fp, H' b = none) ∧ W i n σ' H') ?_ m0 ⟨0, σ, H2, I2, st2, fun b hb => (f2 b hb).1, w0⟩
  rintro n s3 ⟨i, σ3, H3, I3, st3, fr3, w3⟩
  rcases turn i n σ3 H3 w3 with ⟨stop, qn⟩ | ⟨go, N, hN, step⟩
  · refine wpAny_passesOwn hp (thn (T.done X rfl rfl rfl hc i pins s3 σ3 H3 X.xe I3 (stat fr3) st3 stop) fun r s4 ⟨hr, I4⟩ => ?_)
    subst hr
    exact wpAny_execs_nil ⟨σ3, H3, I4, qn⟩
  · refine wpAny_passesOwn hp (thn (T.item X rfl rfl rfl hc i pins s3 σ3 H3 X.xe I3 (stat fr3) st3 go) fun r s4 ⟨u, hr, h4⟩ => ?_)
    subst hr
    refine wpAny_passesOwn hp (thn h4 fun _ s5 ⟨x, H5, I5, r5, y5, st5, fr5⟩ => ?_)
    have I5' := I5.pinned (stat fr5) (T.obj _ _ st5)
    refine wpAny_passesOwn hp (thn (hg _ s5 σ3 H5 x u _ I5' r5 (step x H5 y5)) fun _ s6 ⟨σ6, H6, I6, q6⟩ => ?_)
    refine wpAny_passesOwn hp (thn (hb _ s6 σ6 H6 _ I6 q6) fun f s7 q7 => ?_)
    have again : ∀ {σ7 : St} {H7 : Hp}, Inv X (pins ++ pinsAt fp s5.heap) σ7 H7 s7 → N σ7 H7 → ∃ m, m < n ∧ ∃ i σ' H', Inv X pins σ' H' s7 ∧ tn i s7.heap ∧ (∀ b ∈ fp, H' b = none) ∧ W i m σ' H' := fun {σ7 H7} I7 n7 => by
      obtain ⟨m', hm, w7⟩ := hN σ7 H7 n7
      refine ⟨m', hm, i + 1, σ7, H7, I7.unpinned, T.keep _ _ _ st5 fun b hb o e => (I7.pin (b, o) (List.mem_append_right _ (List.mem_append_right _ (mem_pinsAt hb e)))).1, fun b hb => ?_, w7⟩
      obtain ⟨o, e, d⟩ := T.obj _ _ st5 b hb
      exact (I7.pin (b, o) (List.mem_append_right _ (List.mem_append_right _ (mem_pinsAt hb e)))).2.1
    cases f with
    | next => obtain ⟨σ7, H7, I7, n7⟩ := q7; exact again I7 n7
    | cont => obtain ⟨σ7, H7, I7, n7⟩ := q7; exact again I7 n7
    | brk => obtain ⟨σ7, H7, I7, q7⟩ := q7; exact ⟨σ7, H7, I7.unpinned, q7⟩
    | ret v => obtain ⟨x7, σ7, H7, I7, r7, q7⟩ := q7; exact ⟨x7, σ7, H7, I7.unpinned, r7, q7⟩
end

/-! ### the forms one uses -/
theorem for_range {lo : Int} {n : Nat} {g : TG} {tb : TS} {D : Ends} {σ : St} {H : Hp} (Pv : Nat → St → Hp → Prop) (h0 : Pv 0 σ H)
    (hs : ∀ i σ H, i < n → Pv i σ H → g (.int (lo + i)) σ H fun σ2 H2 => tb { D with nx := Pv (i + 1), ct := Pv (i + 1), bk := D.nx } σ2 H2) (hd : ∀ σ H, Pv n σ H → D.nx σ H) :
    ∃ W : Nat → Nat → St → Hp → Prop, (∃ m, W 0 m σ H) ∧ ∀ i m σ H, W i m σ H →
      ((Itr lo n).stop i H ∧ D.nx σ H) ∨ ((Itr lo n).go i H ∧ ∃ N : St → Hp → Prop, (∀ σ' H', N σ' H' → ∃ m', m' < m ∧ W (i + 1) m' σ' H') ∧ ∀ x H', (Itr lo n).yld i H x H' → g x σ H' fun σ2 H2 => tb { D with nx := N, ct := N, bk := D.nx } σ2 H2) := by
  refine ⟨fun i m σ H => m = n - i ∧ i ≤ n ∧ Pv i σ H, ⟨n, by simp, Nat.zero_le _, h0⟩, ?_⟩
  rintro i m σ H ⟨rfl, hi, p⟩
  by_cases hlt : i < n
  · refine .inr ⟨hlt, Pv (i + 1), fun σ' H' p' => ⟨n - (i + 1), by omega, rfl, hlt, p'⟩, fun x H' y => ?_⟩
    obtain ⟨e, y⟩ := y
    subst e y
    exact hs i σ _ hlt p
  · have e : i = n := by omega
    subst e
    exact .inl ⟨Nat.le_refl _, hd σ H p⟩
end L2

namespace L2
open PySem PySem.Spec PyProof.Rows

abbrev R2 := V → V → Hp → VK → Prop
/-- a two-place operation on values: f is binaryOp op, inplaceOp op or compareOp op -/
def OpR (X : Cx) (f : Value → Value → Sem Value) (r : R2) : Prop :=
  ∀ (pins : List (Addr × Obj)) (s : Shared) (σ : St) (H : Hp) (x y : V) (v u : Value) (Q : VK), Inv X pins σ H s → RelV x v → RelV y u → r x y H Q →
    wpAny (model X.prog X.w) X.A (f v u) (EP X pins σ Q) X.xe s
/-- a one-place operation -/
def UnR (X : Cx) (f : Value → Sem Value) (r : V → Hp → VK → Prop) : Prop :=
  ∀ (pins : List (Addr × Obj)) (s : Shared) (σ : St) (H : Hp) (x : V) (v : Value) (Q : VK), Inv X pins σ H s → RelV x v → r x H Q →
    wpAny (model X.prog X.w) X.A (f v) (EP X pins σ Q) X.xe s
/-- a call of a value that is known (a builtin, a type) with values -/
def CallR (X : Cx) (f : Value) (r : List V → Hp → VK → Prop) : Prop :=
  ∀ (pins : List (Addr × Obj)) (s : Shared) (σ : St) (H : Hp) (xs : List V) (us : List Value) (Q : VK), Inv X pins σ H s → Vals xs us → r xs H Q →
    wpAny (model X.prog X.w) X.A (call f us) (EP X pins σ Q) X.xe s
/-- a value's truth -/
def TruR (X : Cx) (r : V → Hp → (Bool → Hp → Prop) → Prop) : Prop :=
  ∀ (pins : List (Addr × Obj)) (s : Shared) (σ : St) (H : Hp) (x : V) (v : Value) (Q : Bool → Hp → Prop), Inv X pins σ H s → RelV x v → r x H Q →
    wpAny (model X.prog X.w) X.A (truthy v) (TP X pins σ Q) X.xe s

def tOp (r : R2) (ta tb : TE) : TE := fun σ H Q => ta σ H fun x H1 => tb σ H1 fun y H2 => r x y H2 Q
def tUn (r : V → Hp → VK → Prop) (ta : TE) : TE := fun σ H Q => ta σ H fun x H1 => r x H1 Q
/-- ints in, under C, and a value out -/
def rI (C : Int → Int → Prop) (g : Int → Int → V) : R2 := fun x y H Q => ∃ i j, x = .int i ∧ y = .int j ∧ C i j ∧ Q (g i j) H
def rI0 (g : Int → Int → V) : R2 := fun x y H Q => ∃ i j, x = .int i ∧ y = .int j ∧ Q (g i j) H
def rU (g : Int → V) : V → Hp → VK → Prop := fun x H Q => ∃ i, x = .int i ∧ Q (g i) H

section
variable {X : Cx} {a b c : Expr} {ta tb tc : TE} {pos : Pos}

theorem binT (ha : PE X a ta) (hb : PE X b tb) {pins : List (Addr × Obj)} {s : Shared} {σ : St} {H : Hp} {R : V → V → Hp → Prop} (I : Inv X pins σ H s)
    (h : ta σ H fun x H1 => tb σ H1 fun y H2 => R x y H2) {Q : Value → Shared → Prop} {f : Value → Value → Sem Value}
    (hf : ∀ v u s2 x y H2, Inv X pins σ H2 s2 → RelV x v → RelV y u → R x y H2 → wpAny (model X.prog X.w) X.A (f v u) Q X.xe s2) :
    wpAny (model X.prog X.w) X.A (eval a X.env) (fun v s₁ => wpAny (model X.prog X.w) X.A (eval b X.env) (fun u s₂ => wpAny (model X.prog X.w) X.A (f v u) Q X.xe s₂) X.xe s₁) X.xe s := by
  refine thn (ha pins s σ H _ I h) fun v s1 ⟨x, H1, I1, r1, q1⟩ => ?_
  refine thn (hb pins s1 σ H1 _ I1 q1) fun u s2 ⟨y, H2, I2, r2, q2⟩ => ?_
  exact hf v u s2 x y H2 I2 r1 r2 q2

theorem pe_op {op : Operator} {r : R2} (ho : OpR X (binaryOp op) r) (ha : PE X a ta) (hb : PE X b tb) : PE X (.BinOp a op b pos) (tOp r ta tb) := by
  intro pins s σ H Q I h
  exact wpAny_BinOp (binT ha hb I h fun v u s2 x y H2 I2 rx ry q => ho pins s2 σ H2 x y v u Q I2 rx ry q)
/-! ### ints -/
theorem opI {f : Value → Value → Sem Value} {C : Int → Int → Prop} {g : Int → Int → Int}
    (rule : ∀ (i j : Int) (t u : Tok) (s : Shared) (Q : Value → Shared → Prop) (E : Value → Shared → Prop), C i j → Q (.int (g i j) s.toks) { s with toks := s.toks + 1 } → wpAny (model X.prog X.w) X.A (f (.int i t) (.int j u)) Q E s) :
    OpR X f (rI C fun i j => .int (g i j)) := by
  intro pins s σ H x y v u Q I rx ry h
  obtain ⟨i, j, rfl, rfl, hc, q⟩ := h
  obtain ⟨t, rfl⟩ := rx
  obtain ⟨t', rfl⟩ := ry
  exact rule i j t t' s _ _ hc ⟨.int (g i j), H, I.tok _, ⟨_, rfl⟩, q⟩
theorem opI0 {f : Value → Value → Sem Value} {g : Int → Int → Int}
    (rule : ∀ (i j : Int) (t u : Tok) (s : Shared) (Q : Value → Shared → Prop) (E : Value → Shared → Prop), Q (.int (g i j) s.toks) { s with toks := s.toks + 1 } → wpAny (model X.prog X.w) X.A (f (.int i t) (.int j u)) Q E s) :
    OpR X f (rI0 fun i j => .int (g i j)) := by
  intro pins s σ H x y v u Q I rx ry h
  obtain ⟨i, j, rfl, rfl, q⟩ := h
  obtain ⟨t, rfl⟩ := rx
  obtain ⟨t', rfl⟩ := ry
  exact rule i j t t' s _ _ ⟨.int (g i j), H, I.tok _, ⟨_, rfl⟩, q⟩
theorem opB0 {f : Value → Value → Sem Value} {g : Int → Int → Bool}
    (rule : ∀ (i j : Int) (t u : Tok) (s : Shared) (Q : Value → Shared → Prop) (E : Value → Shared → Prop), Q (.bool (g i j)) s → wpAny (model X.prog X.w) X.A (f (.int i t) (.int j u)) Q E s) :
    OpR X f (rI0 fun i j => .bl (g i j)) := by
  intro pins s σ H x y v u Q I rx ry h
  obtain ⟨i, j, rfl, rfl, q⟩ := h
  obtain ⟨t, rfl⟩ := rx
  obtain ⟨t', rfl⟩ := ry
  exact rule i j t t' s _ _ ⟨.bl (g i j), H, I, rfl, q⟩

def CDiv (i j : Int) : Prop := 0 < j ∧ j < 1073741824
def CDivN (i j : Int) : Prop := j ≠ 0 ∧ j.natAbs < 1073741824
def CPow (i j : Int) : Prop := 0 ≤ j ∧ j ≤ 1000000 ∧ i.natAbs < 2 ^ 64
def CMul (i j : Int) : Prop := (-(2 ^ 64) < i ∧ i < 2 ^ 64) ∨ (-(2 ^ 64) < j ∧ j < 2 ^ 64)
theorem op_add : OpR X (binaryOp .Add) (rI0 fun i j => .int (i + j)) := opI0 fun _ _ _ _ _ _ _ q => add_int q
/-- % by a positive divisor of any size -/
theorem op_mod : OpR X (binaryOp .Mod) (rI (fun _ j => 0 < j) fun i j => .int (i % j)) := opI fun i j _ _ _ _ _ hc q => by
  have h1 : (0 : Int) < j := hc
  exact mod_int' (by omega) (by rw [Int.fmod_eq_emod_of_nonneg i (by omega)]; exact q)
theorem op_pow : OpR X (binaryOp .Pow) (rI CPow fun i j => .int (i ^ j.toNat)) := opI fun _ _ _ _ _ _ _ hc q => pow_int_small hc.1 hc.2.1 hc.2.2 q
/-! ### bools among ints: n += (a < b) -/
end

/-! ### comparisons -/
/-- the scalars that == tells apart as data does -/
def scal : V → V → Bool
  | .non, .non => true | .non, .int _ => true | .int _, .non => true | .non, .bl _ => true | .bl _, .non => true | .non, .str _ => true | .str _, .non => true
  | .int _, .int _ => true | .bl _, .bl _ => true | .str _, .str _ => true | .byt _, .byt _ => true
  | .int _, .str _ => true | .str _, .int _ => true | .bl _, .str _ => true | .str _, .bl _ => true
  | _, _ => false
def rEq : R2 := fun x y H Q => scal x y = true ∧ Q (.bl (decide (x = y))) H
def rNe : R2 := fun x y H Q => scal x y = true ∧ Q (.bl (!decide (x = y))) H

theorem dec_int {i j : Int} : decide (V.int i = V.int j) = (i == j) := by
  rw [Bool.eq_iff_iff]
  simp
theorem dec_bl {i j : Bool} : decide (V.bl i = V.bl j) = (i == j) := by
  rw [Bool.eq_iff_iff]
  simp
theorem dec_str {i j : Str} : decide (V.str i = V.str j) = (i == j) := by
  rw [Bool.eq_iff_iff]
  simp
theorem dec_byt {i j : Array UInt8} : decide (V.byt i = V.byt j) = (i.toList == j.toList) := by
  rw [Bool.eq_iff_iff]
  cases i
  cases j
  simp

section
variable {X : Cx} {a b c : Expr} {ta tb tc : TE} {pos : Pos}
theorem fin_bl {pins : List (Addr × Obj)} {σ : St} {H : Hp} {s : Shared} {Q : VK} {k k' : Bool} (I : Inv X pins σ H s) (q : Q (.bl k) H) (e : k = k') : EP X pins σ Q (.bool k') s := by
  subst e
  exact ⟨.bl k, H, I, rfl, q⟩
theorem op_eq : OpR X (compareOp .Eq) rEq := by
  intro pins s σ H x y v u Q I rx ry h
  obtain ⟨hs, q⟩ := h
  cases x with
  | non =>
    cases rx
    cases y with
    | non => cases ry; exact PySem.EqNone.eq_none_none (fin_bl I q (by simp))
    | bl j => cases ry; exact PySem.EqNone.eq_none_bool (fin_bl I q (by simp))
    | int j => obtain ⟨t', rfl⟩ := ry; exact PySem.EqNone.eq_none_int (fin_bl I q (by simp))
    | str j => obtain ⟨t', rfl⟩ := ry; exact PySem.EqNone.eq_none_str (fin_bl I q (by simp))
    | _ => exact absurd (show false = true from hs) Bool.false_ne_true
  | bl i =>
    cases rx
    cases y with
    | non => cases ry; exact PySem.EqNone.eq_bool_none (fin_bl I q (by simp))
    | bl j => cases ry; exact eq_bool (fin_bl I q dec_bl)
    | str j => obtain ⟨t', rfl⟩ := ry; exact PySem.EqMixed.eq_bool_str (fin_bl I q (by simp))
    | _ => exact absurd (show false = true from hs) Bool.false_ne_true
  | int i =>
    obtain ⟨t, rfl⟩ := rx
    cases y with
    | non => cases ry; exact PySem.EqNone.eq_int_none (fin_bl I q (by simp))
    | int j => obtain ⟨t', rfl⟩ := ry; exact eq_int (fin_bl I q dec_int)
    | str j => obtain ⟨t', rfl⟩ := ry; exact PySem.EqMixed.eq_int_str (fin_bl I q (by simp))
    | _ => exact absurd (show false = true from hs) Bool.false_ne_true
  | str i =>
    obtain ⟨t, rfl⟩ := rx
    cases y with
    | non => cases ry; exact PySem.EqNone.eq_str_none (fin_bl I q (by simp))
    | bl j => cases ry; exact PySem.EqMixed.eq_str_bool (fin_bl I q (by simp))
    | int j => obtain ⟨t', rfl⟩ := ry; exact PySem.EqMixed.eq_str_int (fin_bl I q (by simp))
    | str j => obtain ⟨t', rfl⟩ := ry; exact eq_str (fin_bl I q dec_str)
    | _ => exact absurd (show false = true from hs) Bool.false_ne_true
  | byt i =>
    obtain ⟨t, rfl⟩ := rx
    cases y with
    | byt j => obtain ⟨t', rfl⟩ := ry; exact PySem.W.eq_bytes (fin_bl I q dec_byt)
    | _ => exact absurd (show false = true from hs) Bool.false_ne_true
  | _ => cases y <;> exact absurd (show false = true from hs) Bool.false_ne_true
theorem op_lt : OpR X (compareOp .Lt) (rI0 fun i j => .bl (decide (i < j))) := opB0 fun _ _ _ _ _ _ _ q => lt_int q
/-- is, is not of two objects that are tracked lists or instances -/
def isObj : HO → Bool
  | .lst _ => true
  | .ins _ _ _ => true
  | _ => false
theorem nomark (b : Expr) {op : CmpOp} (h : op ≠ .In := by decide) (h2 : op ≠ .NotIn := by decide) : behindInMarks op b = false := by
  have e1 : (op == CmpOp.In) = false := by cases op <;> first | rfl | exact absurd rfl h
  have e2 : (op == CmpOp.NotIn) = false := by cases op <;> first | rfl | exact absurd rfl h2
  cases b <;> simp [behindInMarks, e1, e2]
/-- a comparison as a value; hm: nomark b, or (for in, not in) by with_unfolding_all rfl -/
theorem pe_cmpR {op : CmpOp} {r : R2} (ho : OpR X (compareOp op) r) (ha : PE X a ta) (hb : PE X b tb) (hm : behindInMarks op b = false) : PE X (.Compare a [op] [b] pos) (tOp r ta tb) := by
  intro pins s σ H Q I h
  exact wpAny_Compare1 (binT ha hb I h fun v u s2 x y H2 I2 rx ry q => ho pins s2 σ H2 x y v u Q I2 rx ry q) hm
/-- a reading of a value as a test -/
def tTest (t : TE) : TT := fun σ H Q => t σ H fun x H' => ∃ k, x = .bl k ∧ Q k H'
theorem pt_cmpR {op : CmpOp} {r : R2} (ho : OpR X (compareOp op) r) (ha : PE X a ta) (hb : PE X b tb) (hm : behindInMarks op b = false) : PT X (.Compare a [op] [b] pos) (tTest (tOp r ta tb)) := by
  intro pins s σ H Q I h
  refine wpAny_isTrue_Compare1 (thn (ha pins s σ H _ I h) fun v s1 ⟨x, H1, I1, r1, q1⟩ => thn (hb pins s1 σ H1 _ I1 q1) fun u s2 ⟨y, H2, I2, r2, q2⟩ =>
    thn (ho pins s2 σ H2 x y v u _ I2 r1 r2 q2) fun c s3 ⟨z, H3, I3, r3, k, e, q3⟩ => ?_) hm
  subst e
  cases r3
  exact wpAny_truthy_bool ⟨H3, I3, q3⟩
/-- a op1 b op2 c -/
def tChain (r r' : R2) (ta tb tc : TE) : TE := fun σ H Q => ta σ H fun x H1 => tb σ H1 fun y H2 => r x y H2 fun z H3 => ∃ k, z = .bl k ∧
  (if k = true then tc σ H3 fun w' H4 => r' y w' H4 Q else Q (.bl false) H3)
/-! ### truth -/
/-- a value's truth by the abstract heap -/
def TruV (K : PySem.W.Frag) (x : V) (H : Hp) (k : Bool) : Prop :=
  match x with
  | .non => k = false
  | .bl b => k = b
  | .int i => k = (i != 0)
  | .str y => y.length ≤ sizeLine ∧ k = ((y.length : Int) != 0)
  | .byt y => y.size ≤ sizeLine ∧ k = ((y.size : Int) != 0)
  | .ref p => (∃ xs, SqL K H p xs ∧ k = !xs.isEmpty) ∨ (∃ xs, SqT K H p xs ∧ k = !xs.isEmpty) ∨ ∃ kvs, H p = some (.dK kvs) ∧ k = !kvs.isEmpty
  | _ => False
theorem line63 : (sizeLine : Nat) < 2 ^ 63 := by rw [sizeLine_eq]; decide
/-! ### strs and bytes -/
theorem op_add_str : OpR X (binaryOp .Add) (fun x y H Q => ∃ i j, x = .str i ∧ y = .str j ∧ i.length + j.length ≤ sizeLine ∧ Q (.str (i ++ j)) H) := by
  intro pins s σ H x y v u Q I rx ry h
  obtain ⟨i, j, rfl, rfl, hz, q⟩ := h
  obtain ⟨t, rfl⟩ := rx
  obtain ⟨t', rfl⟩ := ry
  exact add_str (fun t' tk => ⟨.str (i ++ j), H, I.tok _, ⟨_, rfl⟩, q⟩) hz
def PlainIxT (b : Expr) : Prop := ∀ o i, subscripted b false o i = operate [o, i] (getItem o i)
/-! ### scalar builtins, by CallR -/
theorem vals1 {x : V} {us : List Value} (r : Vals [x] us) : ∃ u, us = [u] ∧ RelV x u := by
  cases r with
  | cons r1 r2 => cases r2; exact ⟨_, rfl, r1⟩
/-- len of a str, a bytes, a list, a tuple -/
def LenV (K : PySem.W.Frag) (x : V) (H : Hp) (n : Nat) : Prop :=
  match x with
  | .str y => y.length ≤ sizeLine ∧ n = y.length
  | .byt y => y.size ≤ sizeLine ∧ n = y.size
  | .ref p => (∃ xs, SqL K H p xs ∧ n = xs.length) ∨ ∃ xs, SqT K H p xs ∧ n = xs.length
  | _ => False
end
end L2

namespace L2
open PySem PySem.Spec PyProof.Rows

/-! ### an instance, its attributes a map -/
structure ObjM (h : Heap) (x dx C : Addr) (mA : Str → Option Value) : Prop where
  obj : h.get? x = some (PySem.W.instObj C dx)
  ns : h.Ns1 dx mA
  ne : dx ≠ x

theorem lookIn_ns {h : Heap} {dx : Addr} {mA : Str → Option Value} (n : h.Ns1 dx mA) : ∃ od, h.get? dx = some od ∧ ∀ name, PySem.W.lookIn name od = some (mA name) := by
  obtain ⟨o, es, ep, ho, hd, hk, _, hm⟩ := n
  refine ⟨o, ho, fun name => ?_⟩
  have e := hm name
  unfold nsFind findBy at e
  rw [← Array.find?_toList] at e
  unfold PySem.W.lookIn
  rw [hd]
  dsimp only
  split
  · rename_i y q
    rw [q] at e
    exact congrArg some e
  · rename_i q
    rw [q] at e
    have a : es.toList.any (·.refKey) = false := by
      rw [List.any_eq_false]
      intro y hy
      obtain ⟨z, t, hkey⟩ := hk y (Array.mem_toList_iff.mp hy)
      simp [DictEntry.refKey, hkey]
    have a' : ¬ es.toList.any (·.refKey) = true := by rw [a]; exact Bool.false_ne_true
    rw [if_neg a']
    exact congrArg some e

theorem ObjM.look {h : Heap} {x dx C : Addr} {mA : Str → Option Value} (I : ObjM h x dx C mA) : ∃ od, PySem.W.InstAt h x (PySem.W.instObj C dx) C (some od) ∧ ∀ name, PySem.W.lookIn name od = some (mA name) :=
  let ⟨od, ho, hl⟩ := lookIn_ns I.ns
  ⟨od, ⟨I.obj, rfl, rfl, ho⟩, hl⟩

section
variable {prog : Program} {w : World} {A : Around} {E : Value → Shared → Prop} {s : Shared} {K : PySem.W.Frag} {x dx C f : Addr} {mA : Str → Option Value} {name : Str} {v : Value}

end

/-! ### the attributes as a list of pairs -/
def putF (f : Str) (v : V) : List (Str × V) → List (Str × V)
  | [] => [(f, v)]
  | (g, x) :: r => if g = f then (g, v) :: r else (g, x) :: putF f v r
theorem handed_of {v : V} {u : Value} (r : RelV v u) : PySem.W.handedIn u = true := by
  cases v with
  | non => cases (show u = Value.none from r); rfl
  | bl b => cases (show u = Value.bool b from r); rfl
  | int i => obtain ⟨t, e⟩ := (show ∃ t, u = Value.int i t from r); cases e; rfl
  | str x => obtain ⟨t, e⟩ := (show ∃ t, u = Value.str x t from r); cases e; rfl
  | byt b => obtain ⟨t, e⟩ := (show ∃ t, u = Value.bytes b t from r); cases e; rfl
  | flt b => obtain ⟨t, e⟩ := (show ∃ t, u = Value.float b t from r); cases e; rfl
  | ref a => cases (show u = Value.ref a from r); rfl
  | ty n => cases (show u = Value.type n from r); rfl

section
variable {P : Program} {w : World} {H H' : Hp} {h h' : Heap} {a C dx : Addr} {fs fs' : List (Str × V)}
theorem ins_get (hok : HOk P w H h) (e : H a = some (.ins C dx fs)) : ∃ mA, ObjM h a dx C mA ∧ (∀ f, RelO (fs.lookup f) (mA f)) ∧ PySem.Within mA (fs.map (·.1)) ∧ fs.length ≤ 1000 ∧ H dx = some (.own a) := by
  obtain ⟨d, z, ne, ob, mA, n, r, q⟩ := (show ObjOk P w H h a (.ins C dx fs) from hok a _ e)
  exact ⟨mA, ⟨ob, n, ne⟩, r, q, z, d⟩
end

/-! ### what of the text a class must have -/
structure Cls (K : PySem.W.Frag) (C : Addr) : Prop where
  pg : PySem.W.plainGet K C Str.empty = true
  hd : PySem.W.hasDictIn K C = true
  po : PySem.W.plainOver K C = true
  sa : PySem.W.findIn K (.ref C) "__setattr__" = some (some (.builtin "object.__setattr__"))
theorem Cls.get {K : PySem.W.Frag} {C : Addr} (c : Cls K C) (f : Str) : PySem.W.plainGet K C f = true := c.pg
/-- no class of it has the name -/
def NoAttr (K : PySem.W.Frag) (C : Addr) (f : Str) : Prop := PySem.W.findIn K (.ref C) f = some none
/-- a constant of the class -/
structure Con (K : PySem.W.Frag) (C : Addr) (f : Str) (v : V) (u : Value) : Prop where
  at_ : PySem.W.findIn K (.ref C) f = some (some u)
  rel : RelV v u
  get : PySem.W.specialIn K u "__get__" = some none
  cp : PySem.W.copiedNames.contains f = false
/-- a method: a plain def of the class or of one above it -/
structure Meth (K : PySem.W.Frag) (C : Addr) (m : Str) (f : Addr) : Prop where
  at_ : PySem.W.findIn K (.ref C) m = some (some (.ref f))
  fn : PySem.W.isFn K (.ref f) = true
  kp : PySem.W.keepIn K (.ref f) = true

section
variable {X : Cx} {pins : List (Addr × Obj)} {σ : St} {H : Hp} {s : Shared} {a C dx : Addr} {fs : List (Str × V)} {f : Str} {v : V} {A : Around} {E : Value → Shared → Prop}

/-- e.f where nothing but the object is asked: through attributeBase (super) and the last hold -/
theorem attr_of {prog : Program} {w : World} {env : Env} {e : Expr} {f : Str} {pos : Pos} {s : Shared} {Q : Value → Shared → Prop} (hb : attributeBase e f env (eval e env) = eval e env)
    (h : wpAny (model prog w) A (eval e env) (fun o s₁ => wpAny (model prog w) A (getAttr o f true) Q E s₁) E s) : wpAny (model prog w) A (eval (.Attribute e f pos) env) Q E s :=
  Attribute_any_ h (by rw [arm_eval_Attribute, hb])
end

/-! ### readings and rules -/
/-- e.f, an attribute of the instance -/
def tFld (K : PySem.W.Frag) (ta : TE) (f : Str) : TE := fun σ H Q => ta σ H fun x H1 => ∃ a C dx fs v, x = .ref a ∧ H1 a = some (.ins C dx fs) ∧ Cls K C ∧ NoAttr K C f ∧ fs.lookup f = some v ∧ Q v H1
/-- e.f, a constant of the class -/
def tCon (K : PySem.W.Frag) (ta : TE) (f : Str) : TE := fun σ H Q => ta σ H fun x H1 => ∃ a C dx fs v u, x = .ref a ∧ H1 a = some (.ins C dx fs) ∧ Cls K C ∧ Con K C f v u ∧ fs.lookup f = none ∧ Q v H1
/-- e.f = value -/
def sFld (K : PySem.W.Frag) (ta tv : TE) (f : Str) : TS := fun D σ H => tv σ H fun y H1 => ta σ H1 fun x H2 => ∃ a C dx fs, x = .ref a ∧ H2 a = some (.ins C dx fs) ∧ Cls K C ∧ NoAttr K C f ∧ fs.length < 1000 ∧
  D.nx σ (upd H2 a (.ins C dx (putF f y fs)))
/-- an augmented operator on two values -/
def InOp (X : Cx) (op : Operator) (rd : V → V → Hp → VK → Prop) : Prop :=
  ∀ (pins : List (Addr × Obj)) (s : Shared) (σ : St) (H : Hp) (x y : V) (u v : Value) (Q : VK), Inv X pins σ H s → RelV x u → RelV y v → rd x y H Q → wpAny (model X.prog X.w) X.A (inplaceOp op u v) (EP X pins σ Q) X.xe s
/-- e.f op= value -/
def sFldAug (K : PySem.W.Frag) (ta tv : TE) (rd : V → V → Hp → VK → Prop) (f : Str) : TS := fun D σ H => ta σ H fun x H1 => ∃ a C dx fs v, x = .ref a ∧ H1 a = some (.ins C dx fs) ∧ Cls K C ∧ NoAttr K C f ∧ fs.lookup f = some v ∧
  tv σ H1 fun y H2 => rd v y H2 fun z H3 => ∃ dx' fs', H3 a = some (.ins C dx' fs') ∧ fs'.length < 1000 ∧ D.nx σ (upd H3 a (.ins C dx' (putF f z fs')))

section
variable {X : Cx} {o e value : Expr} {f : Str} {pos pos' tpos : Pos} {ta tv : TE}
def rAdd : V → V → Hp → VK → Prop := fun x y H Q => ∃ i j, x = .int i ∧ y = .int j ∧ Q (.int (i + j)) H
def rSub : V → V → Hp → VK → Prop := fun x y H Q => ∃ i j, x = .int i ∧ y = .int j ∧ Q (.int (i - j)) H
end

/-! ### isinstance -/
section
variable {X : Cx} {pins : List (Addr × Obj)} {σ : St} {H : Hp} {s : Shared} {A : Around} {E : Value → Shared → Prop} {Q : Value → Shared → Prop} {c : Value} {b : Bool}
/-- the type of a value, as the fragment's deciders take it; for an instance its class -/
inductive TyOf (K : PySem.W.Frag) (H : Hp) : V → Value → Prop where
  | non : TyOf K H .non (.type "NoneType")
  | bl (x : Bool) : TyOf K H (.bl x) (.type "bool")
  | int (i : Int) : TyOf K H (.int i) (.type "int")
  | str (x : Str) : TyOf K H (.str x) (.type "str")
  | flt (x : UInt64) : TyOf K H (.flt x) (.type "float")
  | lst {a : Addr} {xs : List V} (e : H a = some (.lst xs)) : TyOf K H (.ref a) (.type "list")
  | frz {a : Addr} {o : Obj} {xs : List V} (e : H a = some (.frz o (.lst xs))) : TyOf K H (.ref a) (.type "list")
  | tup {a : Addr} {xs : List V} (e : H a = some (.tup xs)) : TyOf K H (.ref a) (.type "tuple")
  | dK {a : Addr} {kvs : List (Key × V)} (e : H a = some (.dK kvs)) : TyOf K H (.ref a) (.type "dict")
  | dT {a : Addr} {kvs : List (List Key × V)} (e : H a = some (.dT kvs)) : TyOf K H (.ref a) (.type "dict")
  | ins {a C dx : Addr} {fs : List (Str × V)} (e : H a = some (.ins C dx fs)) (cl : Cls K C) (ha : PySem.W.findIn K (.ref C) "__class__" = some (some (.builtin "object.__class__")))
      (hn : PySem.W.specialIn K (.builtin "object.__class__") "__get__" = some (some (.builtin "getset_descriptor.__get__"))) (htk : PySem.W.takesIn K (.builtin "object.__class__") = some true)
      (hm : PySem.W.mroIn K C (.type "object") = some true) : TyOf K H (.ref a) (.ref C)
/-- isinstance(x, c) for one class c, a built-in or an own one: kitOne's answer -/
theorem isinst_ok {x : V} {u t : Value} (I : Inv X pins σ H s) (rx : RelV x u) (ty : TyOf X.K H x t) (e : PySem.W.kitOne X.K t c = some b) (h : ∀ tk, Q (.bool b) { s with toks := tk }) :
    wpAny (model X.prog X.w) A (call (.builtin "isinstance") [u, c]) Q E s := by
  cases ty with
  | non => cases (show u = Value.none from rx); exact PySem.W.kia_one PySem.W.kitx_none I.kIn True.intro e (fun z => nomatch z) h
  | bl y => cases (show u = Value.bool y from rx); exact PySem.W.kia_one PySem.W.kitx_bool I.kIn True.intro e (fun z => nomatch z) h
  | int i => obtain ⟨t, q⟩ := (show ∃ t, u = Value.int i t from rx); cases q; exact PySem.W.kia_one PySem.W.kitx_int I.kIn True.intro e (fun z => nomatch z) h
  | str y => obtain ⟨t, q⟩ := (show ∃ t, u = Value.str y t from rx); cases q; exact PySem.W.kia_one PySem.W.kitx_str I.kIn True.intro e (fun z => nomatch z) h
  | flt y => obtain ⟨t, q⟩ := (show ∃ t, u = Value.float y t from rx); cases q; exact PySem.W.kia_one PySem.W.kitx_float I.kIn True.intro e (fun z => nomatch z) h
  | @lst a xs ea =>
    cases (show u = Value.ref a from rx)
    obtain ⟨_, _, n, _, h1⟩ := (show ObjOk X.prog X.w H s.heap a (.lst xs) from I.hok a _ ea)
    exact PySem.W.kia_one PySem.W.kitx_list I.kIn ⟨_, h1, rfl⟩ e (fun z => nomatch z) h
  | @frz a ob xs ea =>
    cases (show u = Value.ref a from rx)
    obtain ⟨_, _, _, n, _, h1⟩ := (show ObjOk X.prog X.w H s.heap a (.frz ob (.lst xs)) from I.hok a _ ea)
    exact PySem.W.kia_one PySem.W.kitx_list I.kIn ⟨_, h1, rfl⟩ e (fun z => nomatch z) h
  | @tup a xs ea =>
    cases (show u = Value.ref a from rx)
    obtain ⟨_, _, _, p⟩ := (show ObjOk X.prog X.w H s.heap a (.tup xs) from I.hok a _ ea)
    obtain ⟨o, h1, h2, _⟩ := p
    exact PySem.W.kia_one PySem.W.kitx_tuple I.kIn ⟨o, h1, h2⟩ e (fun z => nomatch z) h
  | @dK a kvs ea =>
    cases (show u = Value.ref a from rx)
    obtain ⟨_, _, vs, _, p⟩ := (show ObjOk X.prog X.w H s.heap a (.dK kvs) from I.hok a _ ea)
    obtain ⟨o, es, ep, h1, h2, _⟩ := p
    exact PySem.W.kia_one PySem.W.kitx_dict I.kIn ⟨o, h1, h2.1⟩ e (fun z => nomatch z) h
  | @dT a kvs ea =>
    cases (show u = Value.ref a from rx)
    obtain ⟨_, _, xs, _, o, es, ep, h1, h2, _⟩ := (show ObjOk X.prog X.w H s.heap a (.dT kvs) from I.hok a _ ea)
    exact PySem.W.kia_one PySem.W.kitx_dict I.kIn ⟨o, h1, h2.1⟩ e (fun z => nomatch z) h
  | @ins a C dx fs ea cl ha hn htk hm =>
    cases (show u = Value.ref a from rx)
    obtain ⟨mA, O, _⟩ := ins_get I.hok ea
    obtain ⟨od, J, _⟩ := O.look
    exact PySem.W.kia_one (PySem.W.kitx_own (cl.get _) cl.hd ha hn htk hm) I.kIn J e (fun z => nomatch z) h
end
end L2

namespace L2
open PySem PySem.Spec PyProof.Rows

/-! ### room -/
structure Room (k : Nat) (A : Around) : Prop where
  hd : A.handled = none
  dp : A.depth + 3 * k + 5 < recursionLimit
  un : A.units + 16 * k + 200 < cLine
theorem Room.mono {j k : Nat} {A : Around} (r : Room k A) (h : j ≤ k) : Room j A := ⟨r.hd, by have := r.dp; omega, by have := r.un; omega⟩
theorem Room.deeper {k : Nat} {A : Around} (r : Room (k + 1) A) (env : Env) : Room k (A.deeper env) :=
  ⟨r.hd, by have := r.dp; show A.depth + 1 + 3 * k + 5 < _; omega, by have := r.un; show A.units + 3 + 16 * k + 200 < _; omega⟩
theorem make_depth {A : Around} {C : Addr} {us : List Value} {kw : List (Str × Value)} : (A.under (.builtin "type.__call__" ⟨.ref C :: us, kw⟩)).depth = A.depth + 1 := by
  first | rfl | simp [Around.under, Code.weight, Code.isCreation, Code.isGuard, Code.isCaller, Code.frames, Code.isFrame, guardIds]
theorem make_units {A : Around} {C : Addr} {us : List Value} {kw : List (Str × Value)} : (A.under (.builtin "type.__call__" ⟨.ref C :: us, kw⟩)).units = A.units + 1 := by
  first | rfl | simp [Around.under, Code.cUnits, Code.frames, Code.isFrame]
theorem Room.make {k : Nat} {A : Around} (r : Room (k + 1) A) (C : Addr) (us : List Value) (kw : List (Str × Value)) : Room k (A.under (.builtin "type.__call__" ⟨.ref C :: us, kw⟩)) :=
  ⟨r.hd, by have := r.dp; rw [make_depth]; omega, by have := r.un; rw [make_units]; omega⟩
theorem Room.depth {k : Nat} {A : Around} (r : Room k A) : A.depth < recursionLimit := by have := r.dp; omega
theorem Room.units {k : Nat} {A : Around} (r : Room k A) : A.units + 64 < cLine := by have := r.un; omega
/-! ### argument lists and displays -/
def tNil : TA := fun _ H Q => Q [] H
def tCons (ta : TE) (tr : TA) : TA := fun σ H Q => ta σ H fun x H1 => tr σ H1 fun xs H2 => Q (x :: xs) H2
section
variable {X : Cx} {e : Expr} {es : List Expr} {te : TE} {t : TA} {pos : Pos}
theorem pa_nil : PA X [] tNil := fun _ _ _ _ H Q I h => Calls.spliced_nil ⟨[], H, I, .nil, h⟩
theorem pa_cons (ha : PE X e te) (hr : PA X es t) (hs : starEach (e :: es) X.env = (false, eval e X.env) :: starEach es X.env := by rfl) : PA X (e :: es) (tCons te t) := by
  intro pos pins s σ H Q I h
  rw [hs]
  show wpAny _ _ (spliced ((false, eval e X.env) :: backTo pos (starEach es X.env))) _ _ s
  refine Calls.spliced_cons (thn (ha pins s σ H _ I h) fun u s1 ⟨x, H1, I1, r1, q1⟩ => ?_)
  exact thn (hr pos pins s1 σ H1 _ I1 q1) fun us s2 ⟨xs, H2, I2, r2, q2⟩ => ⟨x :: xs, H2, I2, .cons r1 r2, q2⟩

/-- a tuple, a list of written items -/
def tTup (t : TA) : TE := fun σ H Q => t σ H fun xs H1 => xs.length ≤ sizeLine ∧ ∀ p, H1 p = none → Q (.ref p) (upd H1 p (.tup xs))
def tLst (t : TA) : TE := fun σ H Q => t σ H fun xs H1 => xs.length ≤ sizeLine ∧ ∀ p, H1 p = none → Q (.ref p) (upd H1 p (.lst xs))
theorem pe_lst (h : PA X es t) : PE X (.List es pos) (tLst t) := by
  intro pins s σ H Q I hq
  refine wpAny_List_spliced (thn (h pos pins s σ H _ I hq) fun us s1 ⟨xs, H1, I1, r, z, q⟩ => ⟨by rw [← r.length]; exact z, ?_⟩)
  have hf : H1 s1.heap.objs.size = none := I1.hok.fresh (Nat.le_refl _)
  refine ⟨.ref s1.heap.objs.size, upd H1 s1.heap.objs.size (.lst xs), I1.laid (t' := s1.toks) (fun b u e => Heap.get?_push_of_some _ e) (Nat.le_refl _) ?_, rfl, q _ hf⟩
  exact ⟨z, us, 0, r, Heap.get?_push_size _ rfl⟩
end

/-! ### what a def promises -/
/-- a def's promise: the bound arguments in the parameters' order, the heap, the wanted end, the wanted exception -/
abbrev Sp := List V → Hp → VK → XK → Prop
/-- how an exception lies behind a call (file 08 gives it): the callers' frames, abstract heap and state ahead of the call, the wish, the exception, the state -/
abbrev CXT := List Env → Hp → Shared → XK → Value → Shared → Prop

/-- the state at a call -/
structure Env0 (P : Program) (w : World) (K : PySem.W.Frag) (mg : Str → Option Value) (base : Heap) (A : Around) (outer : List Env) (s : Shared) (H : Hp) : Prop where
  frames : A.frames = some outer
  mod : Mod K mg base
  bs : ∀ b o, base.get? b = some o → s.heap.get? b = some o ∧ H b = none
  bsz : base.objs.size ≤ s.heap.objs.size
  funs : s.heap.FunFrames base outer
  frf : ∀ b ∈ frs outer, H b = none
  hok : HOk P w H s.heap
  bare : AllBare s.gens
/-- a call's end -/
def CE (outer : List Env) (P : Program) (w : World) (H : Hp) (s : Shared) (Q : VK) (u : Value) (s' : Shared) : Prop :=
  ∃ v H', s'.os = s.os ∧ AllBare s'.gens ∧ Un (frs outer) [] H H' s.heap s'.heap ∧ HOk P w H' s'.heap ∧ RelV v u ∧ Q v H'
def CR (CX : CXT) (outer : List Env) (P : Program) (w : World) (H : Hp) (s : Shared) (Q : VK) (E : XK) (r : Result) (s' : Shared) : Prop :=
  match r with
  | .ok (.ret u) => CE outer P w H s Q u s'
  | .ok _ => False
  | .error e => CX outer H s E e s'
structure FnOk (P : Program) (w : World) (K : PySem.W.Frag) (mg : Str → Option Value) (base : Heap) (CX : CXT) (k : Nat) (f : Addr) (fd : FuncData) (ps : List Str) (sp : Sp) : Prop where
  len : ∀ vs H Q E, sp vs H Q E → vs.length = ps.length
  run : ∀ (A : Around) (outer : List Env) (s : Shared) (H : Hp) (args : Args) (us : List Value) (vs : List V) (Q : VK) (E : XK), Room k A → Env0 P w K mg base A outer s H → BindsTo s fd args (ps.zip us) → Vals vs us → sp vs H Q E →
    codeAny (model P w) A (.call (.ref f) args) (CR CX outer P w H s Q E) s
theorem Env0.make {P : Program} {w : World} {K : PySem.W.Frag} {mg : Str → Option Value} {base : Heap} {A : Around} {outer : List Env} {s : Shared} {H : Hp} (e : Env0 P w K mg base A outer s H) (C : Addr) (us : List Value) (kw : List (Str × Value)) :
    Env0 P w K mg base (A.under (.builtin "type.__call__" ⟨.ref C :: us, kw⟩)) outer s H := ⟨by first | exact e.frames | (simpa [Around.under, Code.envs, Code.isFrame, pushEnvs] using e.frames), e.mod, e.bs, e.bsz, e.funs, e.frf, e.hok, e.bare⟩
section
variable {X : Cx} {pins : List (Addr × Obj)} {σ : St} {H : Hp} {s s' : Shared}
/-- from a body: what a callee wants -/
theorem Inv.env0 (I : Inv X pins σ H s) : Env0 X.prog X.w X.K X.mg X.base X.A X.stack s H :=
  ⟨I.ok.frames, I.ok.mod, I.bs, Nat.le_trans I.ok.bsz I.sz, I.stack, I.stkFree, I.hok, I.bare⟩
/-- behind a call -/
theorem Inv.after {Q : VK} {u : Value} (I : Inv X pins σ H s) (h : CE X.stack X.prog X.w H s Q u s') : EP X pins σ Q u s' := by
  obtain ⟨v, H', os, bare, un, hok, r, q⟩ := h
  obtain ⟨hh, g, d, t, os'⟩ := s'
  obtain rfl : os' = s.os := os
  exact ⟨v, H', I.call (h' := hh) (g' := g) (d' := d) (t' := t) (ch := []) un hok bare (fun b z => absurd z (by simp)), r, q⟩
end

/-! ### calls -/
/-- f(..): the written arguments, then the defaults dvs; E: what is wanted of an exception -/
def tCall (sp : Sp) (dvs : List V) (E : XK) (t : TA) : TE := fun σ H Q => t σ H fun vs H1 => sp (vs ++ dvs) H1 Q E
/-- o.m(..) of an instance of the class at C -/
def tMeth (C : Addr) (m : Str) (sp : Sp) (dvs : List V) (E : XK) (ta : TE) (t : TA) : TE := fun σ H Q => ta σ H fun x H1 => ∃ a dx fs, x = .ref a ∧ H1 a = some (.ins C dx fs) ∧ fs.lookup m = none ∧
  t σ H1 fun vs H2 => sp (x :: (vs ++ dvs)) H2 Q E
/-- C(..): a new instance and its dict, then __init__ -/
def tMake (C : Addr) (sp : Sp) (dvs : List V) (E : XK) (t : TA) : TE := fun σ H Q => t σ H fun vs H1 => ∀ x dx, H1 x = none → H1 dx = none → dx ≠ x →
  sp (.ref x :: (vs ++ dvs)) (upd (upd H1 dx (.own x)) x (.ins C dx [])) (fun v H2 => v = .non ∧ Q (.ref x) H2) E

/-- how the parameters are bound: us the positional arguments, kw the keywords' values by name, ds the defaults that fill up -/
def Binds (K : PySem.W.Frag) (fd : FuncData) (ps : List Str) (ds : List Value) : Prop :=
  ∀ (s : Shared) (us : List Value), K.In s.heap → (us ++ ds).length = ps.length → BindsTo s fd ⟨us, []⟩ (ps.zip (us ++ ds))
/-- every parameter is given -/
theorem Binds.all {K : PySem.W.Frag} {fd : FuncData} {ps : List Str} (h : ∀ us : List Value, us.length = ps.length → bindArgs fd ⟨us, []⟩ = pure (ps.zip us)) : Binds K fd ps [] := fun s us _ hl => by
  rw [List.append_nil] at hl ⊢
  exact .of_eq (h us hl)

/-- an exception of a callee reaches what this body wants of exceptions -/
def Passes (CX : CXT) (X : Cx) (E : XK) : Prop := ∀ (pins : List (Addr × Obj)) (σ : St) (H : Hp) (s : Shared) (e : Value) (s' : Shared), Inv X pins σ H s → CX X.stack H s E e s' → X.xe e s'

section
variable {X : Cx} {CX : CXT} {k : Nat} {f C : Addr} {fd : FuncData} {ps : List Str} {sp : Sp} {dvs : List V} {ds : List Value} {E : XK} {x m : Str} {p pos apos : Pos} {e o : Expr} {es : List Expr} {ta : TE} {t : TA}

/-- the callee runs -/
theorem run_fn {pins : List (Addr × Obj)} {σ : St} {H : Hp} {s : Shared} {Q : VK} {us : List Value} {vs : List V} (F : FnOk X.prog X.w X.K X.mg X.base CX k f fd ps sp) (hr : Room k X.A) (hb : Binds X.K fd ps ds) (hd : Vals dvs ds) (hx : Passes CX X E)
    (I : Inv X pins σ H s) (r : Vals vs us) (h : sp (vs ++ dvs) H Q E) : wpAny (model X.prog X.w) X.A (call (.ref f) us) (EP X pins σ Q) X.xe s := by
  have r2 : Vals (vs ++ dvs) (us ++ ds) := r.append hd
  have hl : (us ++ ds).length = ps.length := by rw [← r2.length]; exact F.len _ _ _ _ h
  refine wpAny_call (codeAny_mono (F.run X.A X.stack s H ⟨us, []⟩ (us ++ ds) (vs ++ dvs) Q E hr I.env0 (hb s us I.kIn hl) r2 h) fun r s' hq => ?_)
  cases r with
  | error e => exact hx pins σ H s e s' I hq
  | ok fl =>
    cases fl with
    | ret u => exact I.after hq
    | next => exact False.elim hq
    | brk => exact False.elim hq
    | cont => exact False.elim hq

theorem pe_call (F : FnOk X.prog X.w X.K X.mg X.base CX k f fd ps sp) (hr : Room k X.A) (hg : Gl X x) (hm : X.mg x = some (.ref f)) (hk : PySem.W.keepIn X.K (.ref f) = true) (hb : Binds X.K fd ps ds) (hd : Vals dvs ds) (hx : Passes CX X E)
    (ha : PA X (e :: es) t) (hdb : (x == ("__debug__" : Str)) = false := by decide) (he : starEach (e :: es) X.env = (false, eval e X.env) :: starEach es X.env := by rfl) (hpl : (backTo pos (starEach es X.env)).any (·.1) = false := by rfl) :
    PE X (.Call (.Name x p) (e :: es) [] pos) (tCall sp dvs E t) := by
  intro pins s σ H Q I h
  refine wpAny_Call_Name_kw (ld_glob I hg hm ?_ hdb)
  refine PySem.W.callWith_K (h₀ := X.base) I.ok.mod.kin hk (thn (ha pos pins s σ H _ I h) fun us s1 ⟨vs, H1, I1, r, q⟩ => ⟨I1.kIn, ?_⟩) he hpl
  exact run_fn F hr hb hd hx I1 r q
/-- what a class must have to be made -/
structure Mk (K : PySem.W.Frag) (C f : Addr) : Prop where
  makes : PySem.W.makesIn K C = true
  init : PySem.W.findIn K (.ref C) "__init__" = some (some (.ref f))
  fn : PySem.W.isFn K (.ref f) = true
  kp : PySem.W.keepIn K (.ref C) = true

end

/-! ### keywords -/
/-- the values of the keywords, from the left -/
def PK (X : Cx) (kws : List Keyword) (t : TA) : Prop :=
  ∀ (pos : Pos) (pins : List (Addr × Obj)) (s : Shared) (σ : St) (H : Hp) (Q : List V → Hp → Prop), Inv X pins σ H s → t σ H Q → wpAny (model X.prog X.w) X.A (evalAll ((backToKw pos (keywordEach kws X.env)).map (·.2))) (AP X pins σ Q) X.xe s
section
variable {X : Cx} {CX : CXT} {k : Nat} {f C : Addr} {fd : FuncData} {ps ks : List Str} {sp : Sp} {E : XK} {x m : Str} {p pos apos kpos : Pos} {e o : Expr} {es : List Expr} {kws : List Keyword} {te ta : TE} {t tk : TA} {nm : Option Str}
/-- how a call with keywords binds: g puts the positional values us and the keywords' values ws (names ks) in the parameters' order, defaults among them -/
structure KBinds (K : PySem.W.Frag) (fd : FuncData) (ps ks : List Str) (g : List Value → List Value → List Value) (gV : List V → List V → List V) : Prop where
  to : ∀ (s : Shared) (us ws : List Value), K.In s.heap → (g us ws).length = ps.length → BindsTo s fd ⟨us, ks.zip ws⟩ (ps.zip (g us ws))
  rel : ∀ {vs : List V} {us : List Value} {zs : List V} {ws : List Value}, Vals vs us → Vals zs ws → Vals (gV vs zs) (g us ws)
def tCallK (sp : Sp) (gV : List V → List V → List V) (E : XK) (t tk : TA) : TE := fun σ H Q => t σ H fun vs H1 => tk σ H1 fun zs H2 => sp (gV vs zs) H2 Q E
variable {g : List Value → List Value → List Value} {gV : List V → List V → List V}
end

/-! ### a def's body keeps its promise -/
/-- names: the parameters first -/
structure FnScope (N P : List Str) (sc : Scope) : Prop where
  kind : sc.kind = .function
  co : sc.isCoroutine = false
  gen : sc.isGenerator = false
  nd : N.Nodup
  pre : N.take P.length = P
  par : ∀ x ∈ P, sc.names.lookup x = some .local ∨ sc.names.lookup x = some .cell
  nofree : ∀ y ∈ sc.names, y.2 ≠ .free

theorem bindL_out {kindOf : Str → Option NameKind} {x : Str} : ∀ {binds : List (Str × Value)} {m : Str → Option Value}, (∀ v, (x, v) ∉ binds) → bindL kindOf binds m x = m x
  | [], _, _ => rfl
  | (n, v) :: r, m, h => by
    unfold bindL
    rw [bindL_out fun w hw => h w (List.mem_cons_of_mem _ hw)]
    split
    · have : x ≠ n := by rintro rfl; exact h v List.mem_cons_self
      simp [this]
    · rfl
theorem bindC_out {kindOf : Str → Option NameKind} {x : Str} : ∀ {binds : List (Str × Value)} {m : Str → Option Value}, (∀ v, (x, v) ∉ binds) → bindC kindOf binds m x = m x
  | [], _, _ => rfl
  | (n, v) :: r, m, h => by
    unfold bindC
    rw [bindC_out fun w hw => h w (List.mem_cons_of_mem _ hw)]
    split
    · rfl
    · have : x ≠ n := by rintro rfl; exact h v List.mem_cons_self
      simp [this]
theorem bindL_get {kindOf : Str → Option NameKind} {x : Str} {v : Value} : ∀ {P : List Str} {vs : List Value} {i : Nat} {m : Str → Option Value}, P.Nodup → P[i]? = some x → vs[i]? = some v → kindOf x = some .local →
    bindL kindOf (P.zip vs) m x = some v
  | [], _, _, _, _, h, _, _ => by simp at h
  | _ :: _, [], _, _, _, _, h, _ => by simp at h
  | p :: P, w :: vs, 0, m, nd, h1, h2, hk => by
    simp at h1 h2; subst h1; subst h2
    show bindL kindOf ((p, w) :: P.zip vs) m p = _
    unfold bindL
    rw [bindL_out fun v hv => (List.nodup_cons.mp nd).1 (List.of_mem_zip hv).1, if_pos hk]
    simp
  | p :: P, w :: vs, i + 1, m, nd, h1, h2, hk => by
    show bindL kindOf ((p, w) :: P.zip vs) m x = _
    unfold bindL
    exact bindL_get (i := i) (List.nodup_cons.mp nd).2 (by simpa using h1) (by simpa using h2) hk
theorem bindC_get {kindOf : Str → Option NameKind} {x : Str} {v : Value} : ∀ {P : List Str} {vs : List Value} {i : Nat} {m : Str → Option Value}, P.Nodup → P[i]? = some x → vs[i]? = some v → kindOf x ≠ some .local →
    bindC kindOf (P.zip vs) m x = some v
  | [], _, _, _, _, h, _, _ => by simp at h
  | _ :: _, [], _, _, _, _, h, _ => by simp at h
  | p :: P, w :: vs, 0, m, nd, h1, h2, hk => by
    simp at h1 h2; subst h1; subst h2
    show bindC kindOf ((p, w) :: P.zip vs) m p = _
    unfold bindC
    rw [bindC_out fun v hv => (List.nodup_cons.mp nd).1 (List.of_mem_zip hv).1, if_neg hk]
    simp
  | p :: P, w :: vs, i + 1, m, nd, h1, h2, hk => by
    show bindC kindOf ((p, w) :: P.zip vs) m x = _
    unfold bindC
    exact bindC_get (i := i) (List.nodup_cons.mp nd).2 (by simpa using h1) (by simpa using h2) hk

/-- the names' values at the entry -/
def start (N : List Str) (vs : List V) : St := vs.map some ++ List.replicate (N.length - vs.length) none

/-- the context of a def's body, at its entry; an exception leaves the frame, then lies as CX says -/
def cxOf (CX : CXT) (P : Program) (w : World) (K : PySem.W.Frag) (mg : Str → Option Value) (base : Heap) (N : List Str) (qual : Str) (scope : Scope) (f : Addr) (cd : Value) (A : Around) (outer : List Env) (s : Shared) (H : Hp) (E : XK) : Cx where
  prog := P
  w := w
  K := K
  mg := mg
  base := base
  A := A.deeper (envOfC qual scope s.heap.objs.size f cd)
  N := N
  s₀ := s
  H₀ := H
  env := envOfC qual scope s.heap.objs.size f cd
  outer := outer
  stack := envOfC qual scope s.heap.objs.size f cd :: outer
  ex := []
  calm := true
  fn := fun _ => true
  pn := []
  xe := fun e s' => wpAny (model P w) (A.deeper (envOfC qual scope s.heap.objs.size f cd)) (leaving (envOfC qual scope s.heap.objs.size f cd) e) (fun _ s'' => CX outer H s E e s'') (fun e' s'' => CX outer H s E e' s'') s'

theorem cell_has {sc : Scope} {n : Nat} {x : Str} (h : sc.names.lookup x = some .cell) : ∃ c, (cellsFrom n sc.names []).lookup x = some c := by
  have q := PySem.W.cellsFrom_some sc.names n [] (.inl h)
  exact Option.isSome_iff_exists.mp q

theorem inv_start {CX : CXT} {P : Program} {w : World} {K : PySem.W.Frag} {mg : Str → Option Value} {base : Heap} {N ps : List Str} {qual : Str} {scope : Scope} {f : Addr} {cd : Value} {A : Around} {outer : List Env} {s s1 : Shared} {H : Hp} {E : XK} {us : List Value} {vs : List V}
    (S : FnScope N ps scope) (hd : A.handled = none) (e0 : Env0 P w K mg base A outer s H) (hl : vs.length = ps.length) (r : Vals vs us)
    (x : InCallC s s.heap.objs.size (bindL (envOfC qual scope s.heap.objs.size f cd).kindOf (ps.zip us) fun _ => none) (cellsFrom (s.heap.objs.size + 1) scope.names []) (bindC (envOfC qual scope s.heap.objs.size f cd).kindOf (ps.zip us) fun _ => none) s1) :
    Inv (cxOf CX P w K mg base N qual scope f cd A outer s H E) [] (start N vs) H s1 := by
  have hpl : ps.length ≤ N.length := by have := congrArg List.length S.pre; rw [List.length_take] at this; omega
  obtain ⟨h1, tk, rfl, hk⟩ := x.done
  have noA : ∀ b : Addr, b ∉ (cxOf CX P w K mg base N qual scope f cd A outer s H E).ex := fun b z => absurd (show b ∈ ([] : List Addr) from z) (by simp)
  refine ⟨⟨e0.mod, S.kind, rfl, rfl, Nat.le_refl _, fun y z c h1 h2 => ?_, fun y hy => ?_, fun y c _ h => ?_, fun _ => hd, Around.frames_deeper e0.frames, .inr ⟨rfl, rfl⟩, fun b z => absurd z (noA b), e0.bs, e0.bsz, fun b _ _ => noA b, fun b z => absurd z (noA b), e0.funs, e0.frf⟩,
    rfl, e0.bare, Un.kept hk, ⟨_, x.toInCall.ns, fun i y v h1 h2 h3 => ?_⟩, fun y c h => ⟨_, x.cell y c h⟩, e0.hok.fresh (Nat.le_refl _), fun y c h => ?_, fun p hp => absurd (show p ∈ ([] : List (Addr × Obj)) from hp) (by simp), e0.hok.kept hk, ?_⟩
  · exact name_of_addr x.apart (PySem.mem_of_lookup h1) (PySem.mem_of_lookup h2)
  · have hy : scope.names.lookup y = some .cell ∨ scope.names.lookup y = some .free := hy
    rcases hy with hy | hy
    · exact cell_has hy
    · exact absurd rfl (S.nofree _ (PySem.mem_of_lookup hy))
  · exact Nat.le_of_lt (x.above y c (PySem.mem_of_lookup h))
  · have hi : i < vs.length := by
      unfold start at h2
      by_cases hi : i < vs.length
      · exact hi
      · rw [List.getElem?_append_right (by simpa using hi)] at h2
        rw [List.getElem?_replicate] at h2
        split at h2 <;> cases h2
    have ha : vs[i]? = some v := by
      unfold start at h2
      rw [List.getElem?_append_left (by simpa using hi), List.getElem?_map] at h2
      cases e : vs[i]? with
      | none => rw [e] at h2; cases h2
      | some a => rw [e] at h2; cases h2; rfl
    obtain ⟨u, hu, rv⟩ := r.get ha
    have hp : ps[i]? = some y := by
      rw [← S.pre, List.getElem?_take_of_lt (by omega)]; exact h1
    have ndP : ps.Nodup := by rw [← S.pre]; exact S.nd.sublist (List.take_sublist _ _)
    refine ⟨u, rv, ?_⟩
    rcases S.par y (List.mem_of_getElem? hp) with k | k
    · exact .inl ⟨k, bindL_get ndP hp hu k⟩
    · obtain ⟨c, e⟩ := cell_has (n := s.heap.objs.size + 1) k
      refine .inr ⟨.inl k, c, e, ?_⟩
      have q := x.cell y c e
      rw [bindC_get ndP hp hu (by show scope.names.lookup y ≠ _; rw [k]; decide)] at q
      exact q
  · exact e0.hok.fresh (Nat.le_of_lt (x.above y c (PySem.mem_of_lookup h)))
  · unfold start
    show _ = N.length
    rw [List.length_append, List.length_map, List.length_replicate]
    omega

/-- THE RULE: a def (or a method) of the text, by its body. The body's reading t is chosen for each entry; it is run at the parameters' values -/
theorem fn_of {CX : CXT} {P : Program} {w : World} {K : PySem.W.Frag} {mg : Str → Option Value} {base : Heap} {k : Nat} {f : Addr} {name qual : Str} {params : Arguments} {body : List Stmt} {scope : Scope} {dV kV doc pm cdv ct oc : Value} {an od : Option Addr}
    {osl : Array (Option Value)} {N ps : List Str} {sp : Sp} (lk : K.lookup f = some ⟨oc, od, .func (PySem.W.fnOf name qual params body scope dV kV doc pm an cdv ct), osl⟩) (hcd : PySem.W.codeIn K cdv qual = true) (S : FnScope N ps scope)
    (len : ∀ vs H Q E, sp vs H Q E → vs.length = ps.length)
    (hbody : ∀ (A : Around) (outer : List Env) (s : Shared) (H : Hp) (vs : List V) (Q : VK) (E : XK), Room k (A.deeper (envOfC qual scope s.heap.objs.size f cdv)) → sp vs H Q E →
      ∃ t, PSs (cxOf CX P w K mg base N qual scope f cdv A outer s H E) body t ∧ t { nx := fun _ H' => Q .non H', rt := Q } (start N vs) H) :
    FnOk P w K mg base CX (k + 1) f (PySem.W.fnOf name qual params body scope dV kV doc pm an cdv ct) ps sp := by
  refine ⟨len, fun A outer s H args us vs Q E hr e0 hb r hsp => ?_⟩
  have hl := len _ _ _ _ hsp
  have KX : K.In s.heap := e0.mod.kin.keeps fun b o e => (e0.bs b o e).1
  have lim : s.heap.NoLimit := e0.mod.nolimit.keeps fun b o e => (e0.bs b o e).1
  have hkind : ∀ y ∈ ps.zip us, scope.names.lookup y.1 = some .local ∨ (scope.names.lookup y.1 = some .cell ∧ ((cellsFrom (s.heap.objs.size + 1) scope.names []).lookup y.1).isSome = true) := fun ⟨n, v⟩ hy => by
    rcases S.par n (List.of_mem_zip hy).1 with q | q
    · exact .inl q
    · exact .inr ⟨q, PySem.W.cellsFrom_some _ _ _ (.inl q)⟩
  refine codeAny_call_function hr.depth (KX _ _ lk) rfl S.co S.gen rfl (PySem.W.codeRec_of KX hcd) (hb _ _ _ _ ?_)
  refine wpAny_newFunctionEnv_cells S.kind hkind fun env he s1 x => ?_
  subst he
  refine ⟨lim.keeps x.toInCall.keep, codeAny_func ?_⟩
  obtain ⟨t, ht, hq⟩ := hbody A outer s H vs Q E (hr.deeper _) hsp
  have I : Inv (cxOf CX P w K mg base N qual scope f cdv A outer s H E) [] (start N vs) H s1 := inv_start S hr.hd e0 hl r x
  refine wpAny_mono (ht [] s1 (start N vs) H _ I hq) (fun fl s' hs => ?_) fun e s' hs => hs
  have fin : ∀ {σ' : St} {H' : Hp} {v : V} {u : Value}, Inv (cxOf CX P w K mg base N qual scope f cdv A outer s H E) [] σ' H' s' → RelV v u → Q v H' → CE outer P w H s Q u s' :=
    fun {σ' H' v u} J rv q => ⟨v, H', J.os, J.bare, J.base, J.hok, rv, q⟩
  cases fl with
  | ret u =>
    obtain ⟨v, σ', H', J, rv, q⟩ := hs
    exact fin J rv q
  | next =>
    obtain ⟨σ', H', J, q⟩ := hs
    exact fin (v := V.non) (u := Value.none) J rfl q
  | brk =>
    obtain ⟨_, _, _, q⟩ := hs
    exact False.elim q
  | cont =>
    obtain ⟨_, _, _, q⟩ := hs
    exact False.elim q
end L2

namespace L2
open PySem PySem.Spec PyProof.Rows
section
variable {X : Cx} {x : Str} {p pos : Pos} {e : Expr} {es : List Expr} {t : TA} {id T : String} {r : List V → Hp → VK → Prop}

def tCB (r : List V → Hp → VK → Prop) (t : TA) : TE := fun σ H Q => t σ H fun vs H1 => r vs H1 Q
/-- f(e, ..), f a built-in function -/
theorem pe_callB (hc : CallR X (.builtin id) r) (hg : Gl X x) (hm : X.mg x = none) (hv : bootBuiltins x = some (.builtin id)) (ha : PA X (e :: es) t) (hn : x ≠ "__name__" := by decide) (hdb : (x == ("__debug__" : Str)) = false := by decide)
    (he : starEach (e :: es) X.env = (false, eval e X.env) :: starEach es X.env := by rfl) (hpl : (backTo pos (starEach es X.env)).any (·.1) = false := by rfl) : PE X (.Call (.Name x p) (e :: es) [] pos) (tCB r t) := by
  intro pins s σ H Q I h
  refine wpAny_Call_Name_kw (ld_blt I hg hm hv ?_ hn hdb)
  exact PyProof.Rows.callWith_builtin1 (thn (ha pos pins s σ H _ I h) fun us s1 ⟨vs, H1, I1, r1, q1⟩ => hc pins s1 σ H1 vs us Q I1 r1 q1) he hpl
end
end L2

namespace HT
open PySem PyProof.Rows

/-- t < u of tuples of ints -/
def lexLt : List Int → List Int → Bool
  | [], [] => false
  | [], _ :: _ => true
  | _ :: _, [] => false
  | x :: xs, y :: ys => if x = y then lexLt xs ys else decide (x < y)
section
open PySem.SeqAt
open PySem.AutoSeq1 (wpAny_loadPart')
open PySem.MeetsSeq PySem.MeetsSeq2 PySem.MeetsSeq3

end

section
variable {prog : Program} {w : World} {A : Around} {E : Value → Shared → Prop} {s : Shared}

/-! ### t[a:b], not the whole -/
/-- a slice's bound as a place among n (d where it is left out) -/
def sIx (n d : Nat) : Option Int → Nat
  | none => d
  | some v => if v < 0 then (v + (n : Int)).toNat else min v.toNat n
end
end HT

namespace L2
open PySem PySem.Spec PyProof.Rows

/-! ### the parts of a slice -/
abbrev TO := St → Hp → (Option Int → Hp → Prop) → Prop
/-- a slice's part (left out, or an int) -/
def PO (X : Cx) (e : Option Expr) (t : TO) : Prop :=
  ∀ (pins : List (Addr × Obj)) (s : Shared) (σ : St) (H : Hp) (Q : Option Int → Hp → Prop), Inv X pins σ H s → t σ H Q →
    wpAny (model X.prog X.w) X.A (evalPart e X.env) (fun u s' => ∃ o H', Inv X pins σ H' s' ∧ IsPart u o ∧ Q o H') X.xe s
def tNoPart : TO := fun _ H Q => Q none H
def tPart (t : TE) : TO := fun σ H Q => t σ H fun x H1 => ∃ i, x = .int i ∧ Q (some i) H1

section
variable {X : Cx} {e : Expr} {te : TE} {lo hi : Option Expr} {tl th : TO} {pos p2 : Pos}

theorem po_none : PO X none tNoPart := by
  intro pins s σ H Q I h
  rw [evalPart_none]
  exact wpAny_pure ⟨none, H, I, .none, h⟩
theorem po_some (h : PE X e te) : PO X (some e) (tPart te) := by
  intro pins s σ H Q I hw
  rw [evalPart_some]
  refine thn (h pins s σ H _ I hw) fun u s1 ⟨x, H1, I1, r1, q1⟩ => ?_
  obtain ⟨i, rfl, q⟩ := q1
  obtain ⟨t, rfl⟩ := r1
  exact ⟨some i, H1, I1, .int i t, q⟩

/-- what a slice of a value is, by values: the slice object stands at sl -/
def SlR (X : Cx) (r : V → Option Int → Option Int → Hp → VK → Prop) : Prop :=
  ∀ (pins : List (Addr × Obj)) (s : Shared) (σ : St) (H : Hp) (x : V) (v vl vu : Value) (lo hi : Option Int) (sl : Addr) (Q : VK), Inv X pins σ H s → RelV x v → s.heap.IsSliceOf sl vl vu .none → IsPart vl lo → IsPart vu hi → r x lo hi H Q →
    ∃ T id, typeLookup (.type T) "__getitem__" = pure (some (.builtin id)) ∧ s.TypeIs v T ∧ wpAny (model X.prog X.w) X.A (getItem v (.ref sl)) (EP X pins σ Q) X.xe s
def tSl (r : V → Option Int → Option Int → Hp → VK → Prop) (te : TE) (tl th : TO) : TE := fun σ H Q => te σ H fun x H1 => tl σ H1 fun l H2 => th σ H2 fun u H3 => r x l u H3 Q
/-- a[lo:hi], any a -/
theorem pe_slice {r : V → Option Int → Option Int → Hp → VK → Prop} (hr : SlR X r) (he : PE X e te) (hl : PO X lo tl) (hu : PO X hi th) : PE X (.Subscript e (.Slice lo hi none p2) pos) (tSl r te tl th) := by
  intro pins s σ H Q I h
  refine Subscript_ (thn (he pins s σ H _ I h) fun v s1 ⟨x, H1, I1, r1, q1⟩ => ?_)
  refine wpAny_Slice (thn (hl pins s1 σ H1 _ I1 q1) fun vl s2 ⟨l, H2, I2, pl, q2⟩ => thn (hu pins s2 σ H2 _ I2 q2) fun vu s3 ⟨u, H3, I3, pu, q3⟩ => ?_)
  rw [evalPart_none]
  refine wpAny_pure ?_
  have I4 : Inv X pins σ H3 { s3 with heap := s3.heap.push { cls := .type "slice", data := .fields #[vl, vu, .none] } } := I3.kept (t' := s3.toks) fun b ob q => Heap.get?_push_of_some _ q
  obtain ⟨T, id, hT, ht, hg⟩ := hr pins { s3 with heap := s3.heap.push { cls := .type "slice", data := .fields #[vl, vu, .none] } } σ H3 x v vl vu l u s3.heap.objs.size Q I4 r1 (Heap.IsSliceOf.new ..) pl pu q3
  show wpAny (model X.prog X.w) X.A (subscriptTail e (.Slice lo hi none p2) v (.ref s3.heap.objs.size)) (EP X pins σ Q) X.xe { s3 with heap := s3.heap.push { cls := .type "slice", data := .fields #[vl, vu, .none] } }
  exact tail_any (ops := [.ref s3.heap.objs.size, v]) ht hT hg (by with_unfolding_all rfl)

/-- the items of xs[lo:hi] -/
def cutV (xs : List V) (lo hi : Option Int) : List V := (xs.drop (HT.sIx xs.length 0 lo)).take (HT.sIx xs.length xs.length hi - HT.sIx xs.length 0 lo)
/-- t[lo:hi], not the whole of it (the whole would be t itself) -/
def rSlT (K : PySem.W.Frag) : V → Option Int → Option Int → Hp → VK → Prop := fun x lo hi H Q => ∃ a xs, x = .ref a ∧ SqT K H a xs ∧
  ¬ (HT.sIx xs.length 0 lo = 0 ∧ HT.sIx xs.length xs.length hi = xs.length) ∧ ∀ p, H p = none → Q (.ref p) (upd H p (.tup (cutV xs lo hi)))
/-! ### t < u, t + u -/
def rLtT (K : PySem.W.Frag) : R2 := fun x y H Q => ∃ a b ns ms, x = .ref a ∧ y = .ref b ∧ SqT K H a (ns.map V.int) ∧ SqT K H b (ms.map V.int) ∧ Q (.bl (HT.lexLt ns ms)) H
/-- t + u, t not empty: u empty gives t itself -/
def rCatT (K : PySem.W.Frag) : R2 := fun x y H Q => ∃ a b xs ys, x = .ref a ∧ y = .ref b ∧ SqT K H a xs ∧ SqT K H b ys ∧ xs ≠ [] ∧ xs.length + ys.length ≤ sizeLine ∧
  (ys = [] → Q (.ref a) H) ∧ (ys ≠ [] → ∀ p, H p = none → Q (.ref p) (upd H p (.tup (xs ++ ys))))
end
end L2

namespace L2
open PySem PySem.Spec PyProof.Rows

/-! ### places -/
/-- the place that an index of any sign means -/
def ixN (n : Nat) (i : Int) : Option Nat := if 0 ≤ i then (if i < n then some i.toNat else none) else if -(n : Int) ≤ i then some (i + n).toNat else none
def atI {α : Type} (xs : List α) (i : Int) : Option α := (ixN xs.length i).bind fun j => xs[j]?
theorem ixN_seq {n : Nat} {i : Int} {j : Nat} (h : ixN n i = some j) : seqIndex? i n = some j ∧ j < n ∧ -(n : Int) ≤ i ∧ i < n := by
  unfold ixN at h
  by_cases h0 : 0 ≤ i
  · rw [if_pos h0] at h
    by_cases h1 : i < n
    · rw [if_pos h1] at h
      have e : i.toNat = j := Option.some.inj h
      exact ⟨by rw [seqIndex_of h0 h1, e], by omega, by omega, h1⟩
    · rw [if_neg h1] at h; cases h
  · rw [if_neg h0] at h
    by_cases h1 : -(n : Int) ≤ i
    · rw [if_pos h1] at h
      have e : (i + n).toNat = j := Option.some.inj h
      exact ⟨by rw [seqIndex_neg (by omega) h1, e], by omega, h1, by omega⟩
    · rw [if_neg h1] at h; cases h
theorem atI_get {α : Type} {xs : List α} {i : Int} {v : α} (h : atI xs i = some v) : ∃ j, seqIndex? i xs.length = some j ∧ xs[j]? = some v ∧ j < xs.length ∧ -(xs.length : Int) ≤ i ∧ i < xs.length := by
  unfold atI at h
  cases e : ixN xs.length i with
  | none => rw [e] at h; cases h
  | some j =>
    rw [e] at h
    obtain ⟨h1, h2, h3, h4⟩ := ixN_seq e
    exact ⟨j, h1, h, h2, h3, h4⟩
theorem atI_nat {α : Type} {xs : List α} {j : Nat} {v : α} (h : xs[j]? = some v) : atI xs (j : Int) = some v := by
  have hj : j < xs.length := (List.getElem?_eq_some_iff.mp h).1
  have e : ixN xs.length (j : Int) = some j := by
    unfold ixN
    rw [if_pos (by omega), if_pos (by omega)]; simp
  unfold atI; rw [e]; exact h
/-! ### what may be subscripted -/
/-- what stands as an index of a plain subscript -/
def PlainIx (b : Expr) : Prop := ∀ o i, subscripted b false o i = operate [o, i] (getItem o i)
/-- a subscript by values -/
def IxR (X : Cx) (r : R2) : Prop :=
  ∀ (value slice : Expr) (pins : List (Addr × Obj)) (s : Shared) (σ : St) (H : Hp) (x y : V) (v u : Value) (Q : VK), Inv X pins σ H s → RelV x v → RelV y u → r x y H Q →
    subscripted slice false v u = operate [v, u] (getItem v u) → wpAny (model X.prog X.w) X.A (subscriptTail value slice v u) (EP X pins σ Q) X.xe s
/-- a call of a builtin's method by values: the receiver, the arguments -/
def MtR (X : Cx) (id : String) (r : V → List V → Hp → VK → Prop) : Prop :=
  ∀ (pins : List (Addr × Obj)) (s : Shared) (σ : St) (H : Hp) (x : V) (xs : List V) (v : Value) (us : List Value) (Q : VK), Inv X pins σ H s → RelV x v → Vals xs us → r x xs H Q →
    wpAny (model X.prog X.w) X.A (call (.builtin id) (v :: us)) (EP X pins σ Q) X.xe s
section
variable {X : Cx} {a b : Expr} {ta tb : TE} {pos : Pos}
/-- a[b] -/
theorem pe_ix {r : R2} (hr : IxR X r) (ha : PE X a ta) (hb : PE X b tb) (hs : PlainIx b) : PE X (.Subscript a b pos) (tOp r ta tb) := by
  intro pins s σ H Q I h
  exact Subscript_ (binT ha hb I h fun v u s2 x y H2 I2 rx ry q => hr a b pins s2 σ H2 x y v u Q I2 rx ry q (hs _ _))

def rIxL (K : PySem.W.Frag) : R2 := fun x y H Q => ∃ p xs i v, x = .ref p ∧ y = .int i ∧ SqL K H p xs ∧ atI xs i = some v ∧ Q v H
def rIxT (K : PySem.W.Frag) : R2 := fun x y H Q => ∃ p xs i v, x = .ref p ∧ y = .int i ∧ SqT K H p xs ∧ atI xs i = some v ∧ Q v H
def rIxS : R2 := fun x y H Q => ∃ z i c, x = .str z ∧ y = .int i ∧ z.length ≤ sizeLine ∧ atI z.cps.toList i = some c ∧ Q (.str ⟨#[c]⟩) H
theorem ix_list : IxR X (rIxL X.K) := by
  intro value slice pins s σ H x y v u Q I rx ry h hs
  obtain ⟨p, xs, i, z, rfl, rfl, hq, he, q⟩ := h
  cases rx
  obtain ⟨t, rfl⟩ := ry
  obtain ⟨its, r, pl, hz⟩ := I.list hq
  obtain ⟨j, h1, h2, h3, h4, h5⟩ := atI_get he
  obtain ⟨w, ew, rw'⟩ := r.get h2
  have hl := r.length
  have hn := line63
  have fin : EP X pins σ Q w s := ⟨z, H, I, rw', q⟩
  by_cases h0 : 0 ≤ i
  · have hj : i.toNat = j := by
      rw [seqIndex_of h0 h5] at h1
      exact Option.some.inj h1
    exact item_listR pl.isList h0 (by omega) (by rw [hj]; simpa using ew) fin hs
  · have hj : (i + (its.toArray.size : Int)).toNat = j := by
      rw [seqIndex_neg (by omega) h4] at h1
      rw [List.size_toArray, ← hl]
      exact Option.some.inj h1
    exact subscriptTail_builtinR (x := w) pl.isList.typeIs slot_list_getitem.lookup
      (wpAny_getItem_list_neg (Q := fun r s' => r = w ∧ EP X pins σ Q r s') pl.isList (by omega) (by rw [List.size_toArray] <;> omega) (by omega) (by rw [hj]; simpa using ew) ⟨rfl, fin⟩) hs
theorem ix_str : IxR X rIxS := by
  intro value slice pins s σ H x y v u Q I rx ry h hs
  obtain ⟨z, i, c, rfl, rfl, hz, he, q⟩ := h
  obtain ⟨t, rfl⟩ := rx
  obtain ⟨t', rfl⟩ := ry
  obtain ⟨j, h1, h2, h3, h4, h5⟩ := atI_get he
  have hl : z.cps.toList.length = z.length := by simp [Str.length]
  rw [hl] at h1 h4 h5
  have hn := line63
  exact tail_any (typeIs_str s z t) slot_str_getitem.lookup (getItem_str (c := c) (by
    have e1 : decide (i < -(2 ^ 63 : Int)) = false := decide_eq_false (by omega)
    have e2 : decide (i ≥ 2 ^ 63) = false := decide_eq_false (by omega)
    rw [e1, e2, Bool.or_false]) (by rw [h1]; simpa using h2) ⟨.str ⟨#[c]⟩, H, I.tok _, ⟨_, rfl⟩, q⟩) hs
/-- list, tuple or str -/
def rIx (K : PySem.W.Frag) : R2 := fun x y H Q => rIxL K x y H Q ∨ rIxT K x y H Q ∨ rIxS x y H Q
/-! ### xs[i] = v, any sign -/
def rSetL : V → V → V → Hp → (Hp → Prop) → Prop := fun o i v H Q => ∃ p xs k j, o = .ref p ∧ i = .int k ∧ H p = some (.lst xs) ∧ ixN xs.length k = some j ∧ Q (upd H p (.lst (xs.set j v)))
/-! ### slices -/
/-- xs[lo:hi] of a list: a new list -/
def rSlL (K : PySem.W.Frag) : V → Option Int → Option Int → Hp → VK → Prop := fun x lo hi H Q => ∃ a xs, x = .ref a ∧ SqL K H a xs ∧ ∀ p, H p = none → Q (.ref p) (upd H p (.lst (cutV xs lo hi)))
/-! ### in, not in: flat items -/
def flatV : V → Bool
  | .non => true
  | .bl _ => true
  | .int _ => true
  | .str _ => true
  | _ => false
/-- == of flat values -/
def eqV : V → V → Bool
  | .non, .non => true
  | .bl a, .bl b => a == b
  | .bl a, .int b => (if a then 1 else 0) == b
  | .int a, .bl b => a == (if b then 1 else 0)
  | .int a, .int b => a == b
  | .str a, .str b => a == b
  | _, _ => false
/-- the items' answers, read off the values (a value's own answer does not lean on its token) -/
def eqU (x : V) (u : Value) : Bool := match u with
  | .none => eqV .non x
  | .bool b => eqV (.bl b) x
  | .int i _ => eqV (.int i) x
  | .str z _ => eqV (.str z) x
  | _ => false
def inV (x : V) (xs : List V) : Bool := xs.any fun y => eqV y x
/-- x in a list or tuple of flat items -/
def rIn (K : PySem.W.Frag) (neg : Bool) : R2 := fun x y H Q => ∃ p xs, y = .ref p ∧ (SqL K H p xs ∨ SqT K H p xs) ∧ flatV x = true ∧ xs.all flatV = true ∧ Q (.bl (if neg then !inV x xs else inV x xs)) H
/-! ### len, list(x), tuple(x) of any list or tuple that is read -/
theorem call_len_seq : CallR X (.builtin "len") (fun xs H Q => ∃ p ys, xs = [.ref p] ∧ (SqL X.K H p ys ∨ SqT X.K H p ys) ∧ Q (.int ys.length) H) := by
  intro pins s σ H xs us Q I r h
  obtain ⟨p, ys, rfl, hq, q⟩ := h
  obtain ⟨u, rfl, rx⟩ := vals1 r
  cases rx
  have hn := line63
  rcases hq with hq | hq
  · obtain ⟨its, r', pl, hz⟩ := I.list hq
    have hlen := r'.length
    exact Calls.call_len_list pl.isList (by simp only [List.size_toArray] <;> omega) ⟨.int ys.length, H, I.tok _, ⟨s.toks + 1, by rw [List.size_toArray, hlen]⟩, q⟩
  · obtain ⟨its, r', pl, hz⟩ := I.tuple hq
    have hlen := r'.length
    exact len_tuple pl (by simp only [List.size_toArray] <;> omega) ⟨.int ys.length, H, I.tok _, ⟨s.toks + 1, by rw [List.size_toArray, hlen]⟩, q⟩
theorem call_len_str : CallR X (.builtin "len") (fun xs H Q => ∃ z, xs = [.str z] ∧ z.length ≤ sizeLine ∧ Q (.int z.length) H) := by
  intro pins s σ H xs us Q I r h
  obtain ⟨z, rfl, hz, q⟩ := h
  obtain ⟨u, rfl, t, rfl⟩ := vals1 r
  have hn := line63
  exact len_str (by omega) ⟨.int z.length, H, I.tok _, ⟨_, rfl⟩, q⟩
/-! ### the call of a builtin's method: o.m(..) -/
/-- the value is of that builtin type -/
def tyV (K : PySem.W.Frag) (T : String) (x : V) (H : Hp) : Prop := match x with
  | .str _ => T = "str"
  | .int _ => T = "int"
  | .ref p => (T = "list" ∧ ∃ xs, SqL K H p xs) ∨ (T = "tuple" ∧ ∃ o, K.lookup p = some o ∧ o.cls = .type "tuple" ∧ o.dict = none) ∨
      (T = "dict" ∧ ((∃ kvs, H p = some (.dK kvs)) ∨ ∃ kvs, H p = some (.dT kvs))) ∨ (T = "set" ∧ ∃ S n, H p = some (.set S n))
  | _ => False
theorem tyV_is {pins : List (Addr × Obj)} {σ : St} {H : Hp} {s : Shared} {T : String} {x : V} {v : Value} (I : Inv X pins σ H s) (r : RelV x v) (ty : tyV X.K T x H) :
    s.TypeIs v T ∧ ∀ a, v = .ref a → ∃ ob, s.heap.get? a = some ob ∧ ob.dict = none := by
  cases x with
  | str z =>
    obtain ⟨t, rfl⟩ := r
    cases (show T = "str" from ty)
    exact ⟨typeIs_str s z t, fun _ e => nomatch e⟩
  | int i =>
    obtain ⟨t, rfl⟩ := r
    cases (show T = "int" from ty)
    exact ⟨typeIs_int s i t, fun _ e => nomatch e⟩
  | ref p =>
    cases r
    rcases ty with ⟨rfl, xs, hq⟩ | ⟨rfl, o, hk, hc, hd⟩ | ⟨rfl, hk⟩ | ⟨rfl, S, n, hk⟩
    · obtain ⟨its, _, pl, _⟩ := I.list hq
      refine ⟨pl.isList.typeIs, fun a e => ?_⟩
      cases e
      obtain ⟨o, n, e, c, hd, _⟩ := pl
      exact ⟨o, e, hd⟩
    · refine ⟨⟨o, I.kIn p o hk, hc⟩, fun a e => ?_⟩
      cases e
      exact ⟨o, I.kIn _ o hk, hd⟩
    · have z : ∃ o, s.heap.get? p = some o ∧ o.ExactDict := by
        rcases hk with ⟨kvs, hk⟩ | ⟨kvs, hk⟩
        · obtain ⟨_, _, _, _, o, _, _, e, ex, _⟩ := I.hok p _ hk
          exact ⟨o, e, ex⟩
        · obtain ⟨_, _, _, _, o, _, _, e, ex, _⟩ := I.hok p _ hk
          exact ⟨o, e, ex⟩
      obtain ⟨o, e, ex⟩ := z
      refine ⟨⟨o, e, ex.1⟩, fun a e2 => ?_⟩
      cases e2
      exact ⟨o, e, ex.2.1⟩
    · obtain ⟨o, _, _, _, e, ex, _⟩ := I.hok p _ hk
      refine ⟨⟨o, e, ex.1⟩, fun a e2 => ?_⟩
      cases e2
      exact ⟨o, e, ex.2.1⟩
  | _ => exact False.elim ty
def tBM0 (K : PySem.W.Frag) (T : String) (r : V → List V → Hp → VK → Prop) (to : TE) : TE := fun σ H Q => to σ H fun x H1 => tyV K T x H1 ∧ r x [] H1 Q
def tBM (K : PySem.W.Frag) (T : String) (r : V → List V → Hp → VK → Prop) (to : TE) (t : TA) : TE := fun σ H Q => to σ H fun x H1 => tyV K T x H1 ∧ t σ H1 fun xs H2 => r x xs H2 Q
variable {o e : Expr} {es : List Expr} {to : TE} {t : TA} {name : Str} {apos cpos : Pos} {T id : String} {r : V → List V → Hp → VK → Prop}
theorem pe_bm (pa : PlainAttrs T) (slot : Slot T name id) (hty : typeOf (.builtin id) = pure (.type "method_descriptor")) (hm : MtR X id r) (ho : PE X o to) (ha : PA X (e :: es) t)
    (hbase : attributeBase o name X.env (eval o X.env) = eval o X.env := by rfl)
    (hfew : ((backTo cpos (starEach (e :: es) X.env)).all (fun x => !x.1) && (backToKw cpos (keywordEach [] X.env)).all (fun x => x.1.isSome)
      && decide ((e :: es).length + ([] : List Keyword).length + (if ([] : List Keyword).isEmpty then 0 else 1) < 30)) = true := by rfl)
    (hline : (apos.endLine == cpos.line) = true := by rfl) (hs : starEach (e :: es) X.env = (false, eval e X.env) :: starEach es X.env := by rfl) (hplain : (backTo cpos (starEach es X.env)).any (·.1) = false := by rfl) :
    PE X (.Call (.Attribute o name apos) (e :: es) [] cpos) (tBM X.K T r to t) := by
  intro pins s σ H Q I h
  refine wpAny_Call_method_late hbase hfew hline rfl (thn (ho pins s σ H _ I h) fun v s1 ⟨x, H1, I1, r1, ty, q1⟩ => ?_)
  obtain ⟨h1, h2⟩ := tyV_is I1 r1 ty
  refine ⟨T, id, pa, slot, hty, h1, h2, ?_⟩
  have hA := ha cpos pins s1 σ H1 _ I1 q1
  rw [hs] at hA ⊢
  refine Calls.callWith_builtin (by show (false || (backTo cpos (starEach es X.env)).any (·.1)) = false; rw [hplain] <;> rfl) (Calls.evalArgs_plain ?_)
  exact thn hA fun us s2 ⟨vs, H2, I2, r2, q2⟩ => hm pins s2 σ H2 x vs v us Q I2 r1 r2 q2
/- xs.append(e), list.index on a module's tuple .. are MtR facts of 06m -/
end
end L2

namespace L2
open PySem PySem.Spec PyProof.Rows

def MtM (X : Cx) (id : String) (r : V → List V → Hp → VK → Prop) : Prop :=
  ∀ (pins : List (Addr × Obj)) (s : Shared) (σ : St) (H : Hp) (x : V) (xs : List V) (v : Value) (us : List Value) (Q : VK), Inv X pins σ H s → RelV x v → Vals xs us → r x xs H Q →
    wpAny (model X.prog X.w) X.A (call (.builtin id) (v :: us)) (EP X pins σ Q) X.xe s

/-! ### lists of values -/
theorem Vals.one : ∀ {x : V} {us : List Value}, Vals [x] us → ∃ u, us = [u] ∧ RelV x u
  | _, _, .cons r .nil => ⟨_, rfl, r⟩
section
variable {X : Cx} {pins : List (Addr × Obj)} {σ : St} {H : Hp} {s : Shared} {l b : Addr} {xs ys zs : List V}

/-! ### the two steps: a tracked list is rewritten, a new list is laid -/
theorem Inv.lset {its its' : List Value} {n : Nat} {f : Array Value → Array Value} {t' : Nat} (I : Inv X pins σ H s) (hH : H l = some (.lst xs))
    (e : s.heap.get? l = some { cls := .type "list", data := .seq its.toArray n }) (hf : f its.toArray = its'.toArray) (hv : Vals ys its') (hz : ys.length ≤ sizeLine) :
    Inv X pins σ (upd H l (.lst ys)) { s with heap := s.heap.update l (Obj.mapSeq f), toks := t' } := by
  have q := PySem.IsL.update e f
  rw [hf] at q
  refine I.write (x := l) (e := l) (by rw [hH]; exact trivial) (.inl rfl) (fun b' u hb hu => (Heap.get?_update_other s.heap (Obj.mapSeq f) (Ne.symm hb)).trans hu) ⟨_, q⟩ ?_
  exact ⟨hz, its', _, hv, q⟩
theorem Inv.lnew {its : List Value} {t' : Nat} (I : Inv X pins σ H s) (hv : Vals ys its) (hz : ys.length ≤ sizeLine) :
    Inv X pins σ (upd H s.heap.objs.size (.lst ys)) { s with heap := s.heap.push { cls := .type "list", data := .seq its.toArray }, toks := t' } :=
  I.laid (fun _ _ q => Heap.get?_push_of_some _ q) (Nat.le_refl _) ⟨hz, its, 0, hv, Heap.get?_push_size _ rfl⟩
theorem Inv.fresh (I : Inv X pins σ H s) : H s.heap.objs.size = none := I.hok.fresh (Nat.le_refl _)
theorem Inv.lstM (I : Inv X pins σ H s) (hH : H l = some (.lst xs)) : xs.length ≤ sizeLine ∧ ∃ (its : List Value) (n : Nat), Vals xs its ∧ xs.length = its.length ∧ s.heap.get? l = some { cls := .type "list", data := .seq its.toArray n } := by
  obtain ⟨z, its, n, r, e⟩ := I.hok l _ hH
  exact ⟨z, its, n, r, r.length, e⟩

theorem notLongL {n : Nat} (h : n ≤ sizeLine) : Builtin.List.listTooLong n = false := by
  unfold Builtin.List.listTooLong
  exact decide_eq_false (by omega)
end

section
variable {X : Cx}

/-! ### methods -/
def rAppend : V → List V → Hp → VK → Prop := fun x vs H Q => ∃ l xs y, x = .ref l ∧ vs = [y] ∧ H l = some (.lst xs) ∧ xs.length < sizeLine ∧ Q .non (upd H l (.lst (xs ++ [y])))
theorem mt_append : MtM X "list.append" rAppend := by
  intro pins s σ H x vs v us Q I rx rv h
  obtain ⟨l, xs, y, rfl, rfl, hH, hz, q⟩ := h
  cases rx
  obtain ⟨u, rfl, ru⟩ := rv.one
  obtain ⟨z, its, n, r, hl, e⟩ := I.lstM hH
  refine call_meets F.slot_list_append ⟨_, e, rfl⟩ F.entry_list_append (F.args_list_append_2 _ _) (PySem.list_append l its.toArray n u (by rw [List.size_toArray]; omega)) ⟨e, ?_⟩
  refine ⟨.non, _, I.lset (its' := its ++ [u]) hH e (by simp) (r.append (.cons ru .nil)) ?_, rfl, q⟩
  rw [List.length_append, List.length_singleton]
  omega

def rExtend : V → List V → Hp → VK → Prop := fun x vs H Q => ∃ l b xs zs, x = .ref l ∧ vs = [.ref b] ∧ H l = some (.lst xs) ∧ H b = some (.lst zs) ∧ xs.length + zs.length ≤ sizeLine ∧ Q .non (upd H l (.lst (xs ++ zs)))
theorem mt_extend : MtM X "list.extend" rExtend := by
  intro pins s σ H x vs v us Q I rx rv h
  obtain ⟨l, b, xs, zs, rfl, rfl, hH, hB, hz, q⟩ := h
  cases rx
  obtain ⟨u, rfl, ru⟩ := rv.one
  cases ru
  obtain ⟨z, its, n, r, hl, e⟩ := I.lstM hH
  obtain ⟨z2, its2, n2, r2, hl2, e2⟩ := I.lstM hB
  have hsz : its.toArray.size + its2.toArray.size ≤ sizeLine := by rw [List.size_toArray, List.size_toArray]; omega
  have hlong : ¬ (!its.toArray.isEmpty && Builtin.List.listTooLong (its.toArray.size + its2.toArray.size)) = true := by
    rw [notLongL hsz, Bool.and_false]
    exact Bool.false_ne_true
  refine call_meets F.slot_list_extend ⟨_, e, rfl⟩ F.entry_list_extend (F.args_list_extend_2 _ _)
    (AutoSeq1.list_extend_list_list_0 l its.toArray n b its2.toArray n2 hlong (by rw [List.size_toArray]; omega) (by omega)) ⟨e, e2, ?_⟩
  refine ⟨.non, _, I.lset (its' := its ++ its2) hH e (by simp) (r.append r2) ?_, rfl, q⟩
  rw [List.length_append]
  omega

def rPop : V → List V → Hp → VK → Prop := fun x vs H Q => ∃ l xs y, x = .ref l ∧ vs = [] ∧ H l = some (.lst xs) ∧ xs[xs.length - 1]? = some y ∧ Q y (upd H l (.lst xs.dropLast))
def rPopAt : V → List V → Hp → VK → Prop := fun x vs H Q => ∃ l xs i k y, x = .ref l ∧ vs = [.int i] ∧ H l = some (.lst xs) ∧ -(2 ^ 63) ≤ i ∧ i < 2 ^ 63 ∧ seqIndex? i xs.length = some k ∧ xs[k]? = some y ∧ Q y (upd H l (.lst (xs.eraseIdx k)))
def rReverse : V → List V → Hp → VK → Prop := fun x vs H Q => ∃ l xs, x = .ref l ∧ vs = [] ∧ H l = some (.lst xs) ∧ Q .non (upd H l (.lst xs.reverse))
def rClear : V → List V → Hp → VK → Prop := fun x vs H Q => ∃ l xs, x = .ref l ∧ vs = [] ∧ H l = some (.lst xs) ∧ Q .non (upd H l (.lst []))
/-! ### list + list, list += list, list * int -/
def rCat : R2 := fun x y H Q => ∃ l b xs zs, x = .ref l ∧ y = .ref b ∧ H l = some (.lst xs) ∧ H b = some (.lst zs) ∧ xs.length + zs.length ≤ sizeLine ∧ ∀ p, H p = none → Q (.ref p) (upd H p (.lst (xs ++ zs)))
theorem op_cat : OpR X (binaryOp .Add) rCat := by
  intro pins s σ H x y v u Q I rx ry h
  obtain ⟨l, b, xs, zs, rfl, rfl, hH, hB, hz, q⟩ := h
  cases rx
  cases ry
  obtain ⟨z, its, n, r, hl, e⟩ := I.lstM hH
  obtain ⟨z2, its2, n2, r2, hl2, e2⟩ := I.lstM hB
  refine PySem.P.add_list e e2 ?_ (by rw [List.size_toArray, List.size_toArray]; omega)
  have ea : its.toArray ++ its2.toArray = (its ++ its2).toArray := by simp
  rw [ea]
  exact ⟨.ref _, _, I.lnew (t' := s.toks) (r.append r2) (by rw [List.length_append]; omega), rfl, q _ I.fresh⟩
/-- a list times an int (a negative one is nothing) -/
def rRep : R2 := fun x y H Q => ∃ l k xs, x = .ref l ∧ y = .int k ∧ H l = some (.lst xs) ∧ -(2 ^ 63) ≤ k ∧ k < 2 ^ 63 ∧ xs.length * k.toNat ≤ sizeLine ∧
  ∀ p, H p = none → Q (.ref p) (upd H p (.lst (List.replicate k.toNat xs).flatten))
theorem len_rep {α : Type} (xs : List α) (k : Nat) : (List.replicate k xs).flatten.length = k * xs.length := by
  induction k with
  | zero => simp
  | succ k ih => rw [List.replicate_succ, List.flatten_cons, List.length_append, ih, Nat.succ_mul, Nat.add_comm]
/-! ### del xs[i] -/
end

/-! ### xs[a:b] = ys -/
section
variable {prog : Program} {w : World} {A : Around} {E : Value → Shared → Prop} {s : Shared}
end

section
variable {X : Cx}
end
end L2

namespace L2
open PySem PySem.Spec PyProof.Rows

/-! ### lists of pairs as tables -/
section
variable {κ : Type} [DecidableEq κ]
def valV (kvs : List (κ × V)) (k : κ) : Option V := (kvs.find? fun kv => decide (kv.1 = k)).map (·.2)
/-- in its place, or at the end -/
def putK (kvs : List (κ × V)) (k : κ) (v : V) : List (κ × V) :=
  if (kvs.any fun kv => decide (kv.1 = k)) = true then kvs.map (fun kv => if kv.1 = k then (kv.1, v) else kv) else kvs ++ [(k, v)]
def dropK (kvs : List (κ × V)) (k : κ) : List (κ × V) := kvs.filter fun kv => decide (kv.1 ≠ k)

end


/-! ### a tracked dict, its keys ints and texts or tuples of these -/
/-- raw entries of a dict with tuple keys -/
abbrev KT (H : Hp) : List (List Key × V) → List (List Key × Addr × Value) → Prop := Paired fun p q => p.1 = q.1 ∧ H q.2.1 = some (.tup (p.1.map kV)) ∧ RelV p.2 q.2.2
section
variable {P : Program} {w : World} {H : Hp} {h : Heap} {a : Addr}
theorem rd_of {u : HO} (ok : HOk P w H h) (e : Rd H a u) : ObjOk P w H h a u := e.ok ok
theorem dk_rd {kvs : List (Key × V)} (ok : HOk P w H h) (e : Rd H a (.dK kvs)) : kvs.length ≤ sizeLine ∧ (a == sysModules) = false ∧ ∃ vs, KV kvs vs ∧ h.DictOf (mixKind P w) a vs :=
  show ObjOk P w H h a (.dK kvs) from rd_of ok e
end

/-- what the dict at a holds at the key y -/
def DGet (H : Hp) (a : Addr) (y : V) (r : Option V) : Prop :=
  (∃ kvs k, Rd H a (.dK kvs) ∧ y = kV k ∧ r = valV kvs k) ∨ ∃ kvs k b, Rd H a (.dT kvs) ∧ y = .ref b ∧ H b = some (.tup (k.map kV)) ∧ r = valV kvs k
/-- the heap behind a[y] = v -/
def DPut (H : Hp) (a : Addr) (y v : V) (H' : Hp) : Prop :=
  (∃ kvs k, H a = some (.dK kvs) ∧ y = kV k ∧ kvs.length < sizeLine ∧ H' = upd H a (.dK (putK kvs k v))) ∨
  ∃ kvs k b, H a = some (.dT kvs) ∧ y = .ref b ∧ H b = some (.tup (k.map kV)) ∧ kvs.length < sizeLine ∧ H' = upd H a (.dT (putK kvs k v))
section
variable {X : Cx} {pins : List (Addr × Obj)} {σ : St} {H : Hp} {s : Shared} {a : Addr} {y v : V} {u r : Value} {o : Option V} {A : Around} {E : Value → Shared → Prop}

end

section
variable {X : Cx} {pins : List (Addr × Obj)} {σ : St} {H : Hp} {s : Shared} {a : Addr} {kvs : List (Key × V)} {k : Key} {u : Value} {A : Around} {E : Value → Shared → Prop}
end


/-! ### readings and rules -/
/-- the element of a subscription, not a slice -/
def NoSl (i : Expr) : Prop := ∀ ov iv, subscripted i false ov iv = operate [ov, iv] (getItem ov iv)
/-- d[y] -/
def tDGet (td ty : TE) : TE := fun σ H Q => td σ H fun x H1 => ty σ H1 fun y H2 => ∃ a v, x = .ref a ∧ DGet H2 a y (some v) ∧ Q v H2
/-- y in d, y not in d -/
def tDIn (ty td : TE) : TE := fun σ H Q => ty σ H fun y H1 => td σ H1 fun x H2 => ∃ a o, x = .ref a ∧ DGet H2 a y o ∧ Q (.bl o.isSome) H2
def tDNotIn (ty td : TE) : TE := fun σ H Q => ty σ H fun y H1 => td σ H1 fun x H2 => ∃ a o, x = .ref a ∧ DGet H2 a y o ∧ Q (.bl (!o.isSome)) H2
/-- d[y] = v -/
def sDPut (td ty tv : TE) : TS := fun D σ H => tv σ H fun v H1 => td σ H1 fun x H2 => ty σ H2 fun y H3 => ∃ a H4, x = .ref a ∧ DPut H3 a y v H4 ∧ D.nx σ H4
/-- d[y] op= v -/
def sDAug (td ty tv : TE) (rd : V → V → Hp → VK → Prop) : TS := fun D σ H => td σ H fun x H1 => ty σ H1 fun y H2 => ∃ a v, x = .ref a ∧ DGet H2 a y (some v) ∧
  tv σ H2 fun y2 H3 => rd v y2 H3 fun z H4 => ∃ H5, DPut H4 a y z H5 ∧ D.nx σ H5
/-- del d[y] -/
def sDDel (td ty : TE) : TS := fun D σ H => td σ H fun x H1 => ty σ H1 fun y H2 => ∃ a kvs k, x = .ref a ∧ H2 a = some (.dK kvs) ∧ y = kV k ∧ (valV kvs k).isSome = true ∧ D.nx σ (upd H2 a (.dK (dropK kvs k)))

section
variable {X : Cx} {o i e value : Expr} {pos pos' tpos : Pos} {td ty tv : TE}
end


/-! ### displays -/
/-- {}, to be a dict of the kind that is wanted -/
def tDNewK : TE := fun _ H Q => ∀ p, H p = none → Q (.ref p) (upd H p (.dK []))
def tDNewT : TE := fun _ H Q => ∀ p, H p = none → Q (.ref p) (upd H p (.dT []))
section
variable {X : Cx} {pos : Pos}
end

/-- the pairs of a display, from the left -/
def tPairs : List (TE × TE) → St → Hp → (List (V × V) → Hp → Prop) → Prop
  | [], _, H, Q => Q [] H
  | (tk, tv) :: r, σ, H, Q => tk σ H fun x H1 => tv σ H1 fun y H2 => tPairs r σ H2 fun ps H3 => Q ((x, y) :: ps) H3
abbrev VV : List (V × V) → List (Value × Value) → Prop := Paired fun p q => RelV p.1 q.1 ∧ RelV p.2 q.2
def PPs (X : Cx) (pos : Pos) (keys : List (Option Expr)) (values : List Expr) (trs : List (TE × TE)) : Prop :=
  ∀ (pins : List (Addr × Obj)) (s : Shared) (σ : St) (H : Hp) (Q : List (V × V) → Hp → Prop), Inv X pins σ H s → tPairs trs σ H Q →
    wpAny (model X.prog X.w) X.A (evalPairs (pairTrees keys values X.env pos)) (fun vs s' => ∃ ps H', Inv X pins σ H' s' ∧ VV ps vs ∧ Q ps H') X.xe s
def mergeK (kvs more : List (Key × V)) : List (Key × V) := more.foldl (fun acc kv => putK acc kv.1 kv.2) kvs
/-- {k: v, ..} with keys ints and texts; the new dict stands empty while the pairs are made -/
def tDisp (trs : List (TE × TE)) : TE := fun σ H Q => ∀ p, H p = none → tPairs trs σ (upd H p (.dK [])) fun ps H2 => H2 p = some (.dK []) ∧ ∃ kvs : List (Key × V), ps = kvs.map (fun kv => (kV kv.1, kv.2)) ∧ kvs.length ≤ 15 ∧ Q (.ref p) (upd H2 p (.dK (mergeK [] kvs)))
/-! ### methods -/
/-- a method call o.m(e) of a built-in, with one argument: what must be seen of the text -/
structure M1 (X : Cx) (o : Expr) (m : Str) (apos : Pos) (e : Expr) (cpos : Pos) : Prop where
  base : attributeBase o m X.env (eval o X.env) = eval o X.env
  few : ((backTo cpos (starEach [e] X.env)).all (fun x => !x.1) && (backToKw cpos (keywordEach [] X.env)).all (fun x => x.1.isSome)
    && decide (([e] : List Expr).length + ([] : List Keyword).length + (if ([] : List Keyword).isEmpty then 0 else 1) < 30)) = true
  line : (apos.endLine == cpos.line) = true
  trees : backTo cpos (starEach [e] X.env) = [(false, eval e X.env)]
structure M2 (X : Cx) (o : Expr) (m : Str) (apos : Pos) (e f : Expr) (cpos : Pos) : Prop where
  base : attributeBase o m X.env (eval o X.env) = eval o X.env
  few : ((backTo cpos (starEach [e, f] X.env)).all (fun x => !x.1) && (backToKw cpos (keywordEach [] X.env)).all (fun x => x.1.isSome)
    && decide (([e, f] : List Expr).length + ([] : List Keyword).length + (if ([] : List Keyword).isEmpty then 0 else 1) < 30)) = true
  line : (apos.endLine == cpos.line) = true
  trees : backTo cpos (starEach [e, f] X.env) = [(false, eval e X.env), (false, eval f X.env)]

/-- a is a dict, whatever its keys -/
def IsD (H : Hp) (a : Addr) : Prop := (∃ kvs, Rd H a (.dK kvs)) ∨ ∃ kvs, Rd H a (.dT kvs)
section
variable {X : Cx} {pins : List (Addr × Obj)} {σ : St} {H : Hp} {s : Shared} {a : Addr} {y d : V} {u r : Value} {o : Option V} {A : Around} {E : Value → Shared → Prop}
end

def tDGet1 (td ty : TE) : TE := fun σ H Q => td σ H fun x H1 => ∃ a, x = .ref a ∧ IsD H1 a ∧ ty σ H1 fun y H2 => ∃ o, DGet H2 a y o ∧ Q (o.getD .non) H2
def tDGet2 (td ty tx : TE) : TE := fun σ H Q => td σ H fun x H1 => ∃ a, x = .ref a ∧ IsD H1 a ∧ ty σ H1 fun y H2 => tx σ H2 fun z H3 => ∃ o, DGet H3 a y o ∧ Q (o.getD z) H3
/-- d.pop(k): there; d.pop(k, x): there or not -/
def tDPop1 (td ty : TE) : TE := fun σ H Q => td σ H fun x H1 => ∃ a, x = .ref a ∧ IsD H1 a ∧ ty σ H1 fun y H2 => ∃ kvs k v, H2 a = some (.dK kvs) ∧ y = kV k ∧ valV kvs k = some v ∧ Q v (upd H2 a (.dK (dropK kvs k)))
def tDPop2 (td ty tx : TE) : TE := fun σ H Q => td σ H fun x H1 => ∃ a, x = .ref a ∧ IsD H1 a ∧ ty σ H1 fun y H2 => tx σ H2 fun z H3 => ∃ kvs k, H3 a = some (.dK kvs) ∧ y = kV k ∧
  (∀ v, valV kvs k = some v → Q v (upd H3 a (.dK (dropK kvs k)))) ∧ (valV kvs k = none → Q z H3)
section
variable {X : Cx} {o e f : Expr} {apos cpos : Pos} {td ty tx : TE}
end

/-! ### dict(d): a copy -/
section
variable {X : Cx} {pins : List (Addr × Obj)} {σ : St} {H : Hp} {s : Shared} {a : Addr} {kvs : List (Key × V)} {A : Around} {E : Value → Shared → Prop}
end


section
variable {X : Cx} {pins : List (Addr × Obj)} {σ : St} {H : Hp} {s : Shared} {a : Addr} {y : V} {u : Value} {A : Around} {E : Value → Shared → Prop}
end
end L2

namespace Att
open PySem PySem.W PySem.Calls PyProof.Rows

/-! ### the script -/
theorem ints_of_wellAll {P : Params} {h : Heap} : ∀ (ns : List Int) (vs : List Value), WellAll P h vs (ns.map WData.int) → IntsAre vs ns := by
  intro ns
  induction ns with
  | nil =>
    intro vs w
    rw [List.map_nil] at w
    cases w
    exact .nil
  | cons n ns ih =>
    intro vs w
    rw [List.map_cons] at w
    cases w with
    | cons a b =>
      cases a
      exact .cons _ _ (ih _ b)

theorem script_of {l : OpenLaw} {n : Nat} (hn : l.most = some n) {P : Params} {h : Heap} {args : List WData} {vals : List Value}
    (hpre : l.row.toRowW.claim.pre args = true) (hwl : WellAll P h vals args) :
    ∃ a vs ns, vals = [Value.ref a] ∧ args = [WData.list (ns.map WData.int)] ∧ h.get? a = some { cls := .type "list", data := .seq vs.toArray } ∧ IntsAre vs ns ∧ ns.length ≤ n := by
  have hsh : WShape.hasAll [] args [.list .int] = true := (pre_splitW hpre).1
  have hc : l.pre.holds [] { args := args } = true := (pre_splitW hpre).2
  obtain ⟨d, r, rfl, h1, h2⟩ := hasAllW_cons hsh
  obtain rfl := hasAllW_nil h2
  obtain ⟨xs, rfl, h3⟩ := hasW_list h1
  obtain ⟨ns, rfl⟩ := items_int h3
  have hlen : ns.length ≤ n := by
    unfold OpenLaw.pre at hc
    have h4 : (WTm.not (.lt (.lit (.int (n : Int))) (.len (.arg 0)))).holds [] { args := [.list (ns.map .int)] } = true := by
      have h4 := (holds_andW hc).1
      rw [hn] at h4
      exact h4
    have h5 := condW_of h4 (w_not (w_lt w_lit (w_len_list (w_arg rfl))))
    rw [List.length_map] at h5
    refine Nat.le_of_not_lt fun q => ?_
    have q' : (n : Int) < ((ns.length : Nat) : Int) := by omega
    first
      | (rw [decide_eq_true q'] at h5; exact absurd h5 (by decide))
      | (simp at h5; omega)
  cases hwl with
  | cons w1 w2 =>
    cases w2
    cases w1 with
    | list ho hall => exact ⟨_, _, ns, rfl, rfl, ho, ints_of_wellAll ns _ hall, hlen⟩

theorem post_true (l : OpenLaw) (args : List WData) : l.row.toRowW.claim.post args (.bool true) args = true :=
  postW_of (r := l.row.toRowW) (X := (true == true))
    (show WShape.has [] (.bool true) .bool = true by first | rfl | decide | simp [WShape.has, WShape.arms, WShape.armsAll])
    (show (WTm.eq .res (.lit (.bool true))).value [] { args := args, res := some (.bool true), after := args } = some (.bool (true == true)) from w_eq_bool (w_res rfl) w_lit) rfl

/-! ### the attachment: holds_open's last premise (the goal 'hc' behind k_head) from a wpAny of the law's body -/
/-- the same from a codeAny of the CALL (for a layer whose function contracts speak of calls) -/
theorem attach_call {l : OpenLaw} {n : Nat} {q : Program} {loose : List Str} {XP : (Str → Option Value) → Heap → Prop} {YP : World → Heap → Prop} {d : DefRec}
    (hn : l.most = some n) (hdf : d.params.defaults = [])
    (call : ∀ (w : World) (s₀ s₁ : Shared) (mg mb : Str → Option Value) (fa : Addr) (o : Obj) (pm cd doc : Value) (a : Addr) (vs : List Value) (ns : List Int),
      Ground q loose [] XP w s₀ mg mb s₁.heap → YP w s₁.heap →
      s₁.heap.get? fa = some o → o.data = .func (docDef d.name d.params d.body d.scope pm cd doc) → s₁.heap.CodeRec cd d.name → mg d.name = some (.ref fa) →
      s₁.heap.get? a = some { cls := .type "list", data := .seq vs.toArray } → IntsAre vs ns → ns.length ≤ n → s₁.gens = #[] →
      codeAny (model l.prog w) callerA (.call (.ref fa) ⟨[.ref a], []⟩) (fun r s' => r = .ok (.ret (.bool true)) ∧ OldK s₁.heap s'.heap ∧ s'.os = s₁.os ∧ AllBare s'.gens) s₁) :
    WalkO q loose XP YP l.row.toRowW d [] (fun f vs => PySem.call f vs) := by
  intro w s₀ s₁ mg mb G Y fa o pm cd doc dV kV ho hd hcd hD hmg hg args vals as hpre hlay hrd hwl hlo
  obtain rfl : dV = .none := Dflts.none hD hdf
  obtain rfl : kV = .none := Dflts.noKw hD
  obtain ⟨a, vs, ns, rfl, rfl, hobj, hints, hlen⟩ := script_of hn hpre hwl
  refine enter_call (codeAny_mono (call w s₀ s₁ mg mb fa o pm cd doc a vs ns G Y ho (fd_plain hd) hcd hmg hobj hints hlen hg) fun r s' hq => ?_)
  obtain ⟨rfl, h2, h3, h4⟩ := hq
  exact ⟨.inl ⟨.bool true, .bool true, [], rfl, fun _ => rfl, .bool true, post_true l _, fun _ => ⟨List.Pairwise.nil, fun _ hm => (nomatch hm)⟩⟩, h2, h3, h4⟩

/-! ### rules over ANY heap (no ledger) from facts about the written part K: the library's own take a ledger (News) for what they write -/
section
variable {prog : Program} {w : World} {A : Around} {E : Value → Shared → Prop} {s : Shared} {K : Frag}

/-! the whole heap as the ledger: makes every rule that writes through a ledger a rule over any heap -/
def noObjs (h : Heap) : Heap := { h with objs := #[] }
def ledger (h : Heap) (L d : Addr) : List (Addr × Obj) := (List.range h.objs.size).filterMap fun a => if a = L ∨ a = d then none else (h.get? a).map fun o => (a, o)
end
end Att

namespace L2
open PySem PySem.Spec PyProof.Rows

theorem vals_ints : ∀ {vs : List Value} {ns : List Int}, IntsAre vs ns → Vals (ns.map V.int) vs
  | _, _, .nil => .nil
  | _, _, .cons n t h => .cons ⟨t, rfl⟩ (vals_ints h)

/-- nothing is tracked but the script, known to the object (or it is an object of the module) -/
def Only (H : Hp) : Prop := ∀ b, H b = none ∨ ∃ o xs, H b = some (.frz o (.lst xs))

/-- THE HEAD: the law's promise, at the heap behind the top. F, the promise of the law's def, may use that base is part of the heap (so K.In base, base.Ns mainGlobals mg stand in Mod) -/
theorem law_call {P : Program} {w : World} {K : PySem.W.Frag} {mg mb : Str → Option Value} {CX : CXT} {k : Nat} {fa a : Addr} {fd : FuncData} {x : Str} {sp : Sp} {s₁ : Shared} {vs : List Value} {ns : List Int}
    (KX : K.In s₁.heap) (hns : s₁.heap.Ns mainGlobals mg) (hb : s₁.heap.Ns builtinsNs mb) (hbb : ∀ x : Str, x ≠ "__name__" → mb x = bootBuiltins x) (hlim : s₁.heap.NoLimit) (hg : s₁.gens = #[])
    (ha : s₁.heap.get? a = some { cls := .type "list", data := .seq vs.toArray }) (hi : IntsAre vs ns) (hl : ns.length ≤ sizeLine) (hr : Room k callerA)
    (F : ∀ base : Heap, K.In base → base.Ns mainGlobals mg → FnOk P w K mg base CX k fa fd [x] sp) (hbind : ∀ (s : Shared) (u : Value), BindsTo s fd ⟨[u], []⟩ [(x, u)])
    (hsp : ∀ H : Hp, Only H → SqL K H a (ns.map V.int) → sp [.ref a] H (fun v _ => v = .bl true) fun _ _ _ => False)
    (hCX : ∀ H e s', CX [] H s₁ (fun _ _ _ => False) e s' → False) :
    codeAny (model P w) callerA (.call (.ref fa) ⟨[.ref a], []⟩) (fun r s' => r = .ok (.ret (.bool true)) ∧ OldK s₁.heap s'.heap ∧ s'.os = s₁.os ∧ AllBare s'.gens) s₁ := by
  have rv := vals_ints hi
  have lenV := hi.length
  -- from an abstract heap in which nothing but the script may be tracked
  have core : ∀ H : Hp, Only H → SqL K H a (ns.map V.int) → HOk P w H s₁.heap → (∀ b, H b ≠ none → b = a) → (H a ≠ none → K.lookup a = none) →
      codeAny (model P w) callerA (.call (.ref fa) ⟨[.ref a], []⟩) (fun r s' => r = .ok (.ret (.bool true)) ∧ OldK s₁.heap s'.heap ∧ s'.os = s₁.os ∧ AllBare s'.gens) s₁ := by
    intro H hO hS hok hA hK
    have base_of : ∀ {b : Addr} {o : Obj}, s₁.heap.get? b = some o → H b = none → (hidT s₁.heap H).get? b = some o := fun e n => hidT_get e n
    have noA : ∀ {b : Addr} {o : Obj} {es : Array DictEntry} {ep : Nat}, s₁.heap.get? b = some o → o.data = .dict es ep → H b = none := fun {b o es ep} e d => by
      cases q : H b with
      | none => rfl
      | some u =>
        have e' : b = a := hA b (by rw [q]; simp)
        subst e'
        rw [ha] at e; cases e
        have d' : Data.seq vs.toArray _ = Data.dict es ep := d
        cases d'
    have nsK : ∀ {b : Addr} {m : Str → Option Value}, s₁.heap.Ns b m → (hidT s₁.heap H).Ns b m := fun {b m} ⟨o, es, ep, e, d, r⟩ => ⟨o, es, ep, base_of e (noA e d), d, r⟩
    have hKb : K.In (hidT s₁.heap H) := fun b o e => base_of (KX b o e) (by
      cases q : H b with
      | none => rfl
      | some u =>
        have e' : b = a := hA b (by rw [q]; simp)
        subst e'
        rw [hK (by rw [q]; simp)] at e; cases e)
    have hM : Mod K mg (hidT s₁.heap H) := ⟨hKb, nsK hns, ⟨mb, nsK hb, hbb⟩, let ⟨mc, h1, h2⟩ := hlim; ⟨mc, nsK h1, h2⟩⟩
    have e0 : Env0 P w K mg (hidT s₁.heap H) callerA [] s₁ H := ⟨rfl, hM, fun b o e => of_hidT e, Nat.le_of_eq (hidT_size _ _), trivial, fun b hb => absurd (show b ∈ ([] : List Addr) from hb) (by simp), hok, .of_eq hg⟩
    refine codeAny_mono ((F _ hKb (nsK hns)).run callerA [] s₁ H ⟨[.ref a], []⟩ [.ref a] [.ref a] _ _ hr e0 (hbind s₁ (.ref a)) (.cons rfl .nil) (hsp H hO hS)) fun r s' h => ?_
    cases r with
    | error e => exact (hCX H e s' h).elim
    | ok fl =>
      cases fl with
      | next => exact False.elim h
      | brk => exact False.elim h
      | cont => exact False.elim h
      | ret u =>
        obtain ⟨v, H', os, bare, un, hok', r', q⟩ := h
        have q' : v = .bl true := q
        subst q'
        obtain rfl : u = Value.bool true := r'
        refine ⟨rfl, OldK.of_keep fun b o e => ?_, os, bare⟩
        cases q : H b with
        | none => exact un.keep b o e q (by intro z; exact absurd (show b ∈ ([] : List Addr) from z) (by simp)) (by simp)
        | some u =>
          rcases hO b with z | ⟨ob, xs, z⟩
          · rw [q] at z; cases z
          · have z2 := un.frzs b ob _ z
            obtain ⟨e1, _⟩ := hok b _ z
            obtain ⟨e2, _⟩ := hok' b _ z2
            rw [e] at e1; cases e1
            exact e2
  cases hk : K.lookup a with
  | some o =>
    -- the script is one of the module's own objects
    have e := KX a o hk
    rw [ha] at e
    cases e
    refine core (fun _ => none) (fun _ => .inl rfl) (.inr ⟨_, vs.toArray, _, hk, rfl, rfl, rfl, by rw [List.size_toArray, lenV]; exact hl, by simpa using rv⟩) (fun b u z => by have z' : (none : Option HO) = some u := z; cases z') (fun b z => absurd rfl z) fun z => absurd rfl z
  | none =>
    refine core (fun b => if b = a then some (.frz { cls := .type "list", data := .seq vs.toArray } (.lst (ns.map V.int))) else none) (fun b => ?_) (.inl (.inr ⟨{ cls := .type "list", data := .seq vs.toArray }, if_pos rfl⟩)) (fun b u z => ?_) (fun b z => ?_) fun _ => hk
    · by_cases hb : b = a
      · exact .inr ⟨_, _, if_pos hb⟩
      · exact .inl (if_neg hb)
    · by_cases hb : b = a
      · have z' := (if_pos hb).symm.trans z
        cases z'
        subst hb
        exact ⟨ha, by rw [List.length_map]; exact hl, vs, _, rv, ha⟩
      · have z' := (if_neg hb).symm.trans z
        cases z'
    · by_cases hb : b = a
      · exact hb
      · exact absurd (if_neg hb) z
end L2

namespace L2
open PySem PySem.Spec PyProof.Rows

abbrev KOf {K : PySem.W.Frag} {h : Heap} (_ : K.In h) : PySem.W.Frag := K

/-- the goal that k_head leaves (case hc), from the law's promise. F gives the function object fd (K's own) once, then the promise over every base -/
theorem walk_of {l : PySem.W.OpenLaw} {n k : Nat} {q : Program} {loose : List Str} {XP : (Str → Option Value) → Heap → Prop} {YP : World → Heap → Prop} {d : DefRec} {K : Params → PySem.W.Frag} {CX : World → CXT} {sp : World → Sp} {x : Str}
    (hn : l.most = some n) (hn2 : n ≤ sizeLine) (hdf : d.params.defaults = []) (hr : Room k callerA)
    (hY : ∀ (w : World) (h : Heap), YP w h → (K w.params).In h)
    (F : ∀ (w : World) (mg : Str → Option Value) (fa : Addr) (h : Heap), (K w.params).In h → h.Ns mainGlobals mg → mg d.name = some (.ref fa) →
      ∃ fd : FuncData, (∀ (s : Shared) (u : Value), BindsTo s fd ⟨[u], []⟩ [(x, u)]) ∧
        ∀ base : Heap, (K w.params).In base → base.Ns mainGlobals mg → FnOk l.prog w (K w.params) mg base (CX w) k fa fd [x] (sp w))
    (hsp : ∀ (w : World) (H : Hp) (a : Addr) (ns : List Int), ns.length ≤ n → Only H → SqL (K w.params) H a (ns.map V.int) → sp w [.ref a] H (fun v _ => v = .bl true) fun _ _ _ => False)
    (hCX : ∀ (w : World) (H : Hp) (s : Shared) (e : Value) (s' : Shared), CX w [] H s (fun _ _ _ => False) e s' → False) :
    PySem.W.WalkO q loose XP YP l.row.toRowW d [] (fun f vs => PySem.call f vs) := by
  refine Att.attach_call hn hdf fun w s₀ s₁ mg mb fa o pm cd doc a vs ns G Y ho hd hcd hmg hobj hints hlen hg => ?_
  have KX := hY w _ Y
  obtain ⟨fd, hb, hF⟩ := F w mg fa _ KX G.T.g hmg
  exact law_call KX G.T.g G.T.b G.T.builtins G.T.nolimit hg hobj hints (Nat.le_trans hlen hn2) hr hF hb (fun H hO hS => hsp w H a ns hlen hO hS) fun H e s' => hCX w H s₁ e s'
/-- the same where the promise hangs on the written part alone: (sp := My.sp_law), no hole under a binder -/
theorem walk_ofK {l : PySem.W.OpenLaw} {n k : Nat} {q : Program} {loose : List Str} {XP : (Str → Option Value) → Heap → Prop} {YP : World → Heap → Prop} {d : DefRec} {K : Params → PySem.W.Frag} {CX : CXT} {sp : PySem.W.Frag → Sp} {x : Str}
    (hn : l.most = some n) (hn2 : n ≤ sizeLine) (hdf : d.params.defaults = []) (hr : Room k callerA)
    (hY : ∀ (w : World) (h : Heap), YP w h → (K w.params).In h)
    (F : ∀ (w : World) (mg : Str → Option Value) (fa : Addr) (h : Heap), (K w.params).In h → h.Ns mainGlobals mg → mg d.name = some (.ref fa) →
      ∃ fd : FuncData, (∀ (s : Shared) (u : Value), BindsTo s fd ⟨[u], []⟩ [(x, u)]) ∧
        ∀ base : Heap, (K w.params).In base → base.Ns mainGlobals mg → FnOk l.prog w (K w.params) mg base CX k fa fd [x] (sp (K w.params)))
    (hsp : ∀ (K : PySem.W.Frag) (H : Hp) (a : Addr) (ns : List Int), ns.length ≤ n → Only H → SqL K H a (ns.map V.int) → sp K [.ref a] H (fun v _ => v = .bl true) fun _ _ _ => False)
    (hCX : ∀ (H : Hp) (s : Shared) (e : Value) (s' : Shared), CX [] H s (fun _ _ _ => False) e s' → False) :
    PySem.W.WalkO q loose XP YP l.row.toRowW d [] (fun f vs => PySem.call f vs) :=
  walk_of (K := K) (CX := fun _ => CX) (sp := fun w => sp (K w.params)) hn hn2 hdf hr hY F (fun w H a ns h1 h2 h3 => hsp (K w.params) H a ns h1 h2 h3) fun _ H s e s' => hCX H s e s'
end L2

/- THE LAST THEOREM (shape; LID, My.* are yours):
   My.Adr: a structure of the addresses that your layer names (classes, functions); My.Txt K t: a structure (Prop) of the equations over K;
   My.txt_mk : {K} {implicit addresses ..} (e1 : nsIn K mainGlobals "law" = some (some (.ref f))) (e2 : K.lookup f = some ⟨oc, od, .func (fnOf "law" "law" params body scope dV kV doc pm an cdv ct), sl⟩) (e3 : codeIn K cdv "law" = true) .. : ∃ t, My.Txt K t

set_option maxRecDepth 100000 in
set_option maxHeartbeats 0 in
theorem PySem.Challenge.cw_LID_holds : PySem.Challenge.rw_LID.Holds := by
  w_on; o_law; k_head; (case hw => w_witness2)
  k_fill
  refine L2.walk_of (l := PySem.Challenge.rw_LID) (n := 63) (k := 40) (x := "script") (CX := fun w => ..) (sp := fun _ => My.sp_law) rfl (by decide) rfl ⟨rfl, by decide, by decide⟩ (fun w h Y => PySem.W.kIn_of Y) ?F ?S ?C
  case F =>
    intro w mg fa h KX G hmg
    have T : ∃ t, My.Txt (L2.KOf KX) t := by
      dsimp only [L2.KOf]                          -- K must stand as «<heap const> w.params» for k_is
      refine' My.txt_mk ?e1 ?e2 ?e3 ..
      (case e1 => PySem.W.k_is)                    -- in the order: a name -> its address -> its object -> its parts
      (case e2 => PySem.W.k_is)
      ..
    obtain ⟨t, T⟩ := T
    have e0 := hmg.symm.trans (PySem.W.mg_of KX G T.law)
    cases e0                                       -- fa is the law's own address
    exact ⟨_, fun s u => .of_eq rfl, fun base kb nb => My.law_fn T kb nb⟩     -- if «.of_eq rfl» comes too early: refine' ⟨_, ?b, fun base kb nb => My.law_fn T kb nb⟩; exact fun s u => .of_eq rfl
  case S => exact fun w H a ns hl hO hS => ..
  case C => exact ..
(the tactic k_is has no namespace: write k_is) -/

/-! SHORT WORDS over the layer: a def of the text, its body, what a loop and a test want. -/
namespace L2
open PySem PySem.Spec PyProof.Rows

/-! ### the text by places -/
/-- the j-th statement of a class's body -/
def inClass (s : Stmt) (j : Nat) : Stmt := match s with
  | .ClassDef _ _ _ body _ _ _ _ _ _ _ => body.getD j (.Pass ⟨0, 0, 0, 0⟩)
  | _ => .Pass ⟨0, 0, 0, 0⟩
def defArgs (s : Stmt) : Arguments := match s with
  | .FunctionDef _ a _ _ _ _ _ _ _ _ => a
  | _ => { posonlyargs := [], args := [], vararg := none, kwonlyargs := [], kw_defaults := [], kwarg := none, defaults := [] }
def defBody (s : Stmt) : List Stmt := match s with
  | .FunctionDef _ _ b _ _ _ _ _ _ _ => b
  | _ => []
def defScope (s : Stmt) : Scope := match s with
  | .FunctionDef _ _ _ _ _ _ sc _ _ _ => sc
  | _ => { kind := .function, names := [], isGenerator := false, isCoroutine := false }

/-! ### no exception leaves a def -/
abbrev CX0 : CXT := fun _ _ _ _ _ _ => False
abbrev E0 : XK := fun _ _ _ => False
/-! ### a def (or method) of the text as it stands behind the top -/
structure Fun (K : PySem.W.Frag) (x qual : Str) (st : Stmt) (f : Addr) (fd : FuncData) : Prop where
  ex : ∃ (oc : Value) (od : Option Addr) (kV doc pm : Value) (an : Option Addr) (cdv ct : Value) (osl : Array (Option Value)),
    fd = PySem.W.fnOf x qual (defArgs st) (defBody st) (defScope st) .none kV doc pm an cdv ct ∧ K.lookup f = some ⟨oc, od, .func fd, osl⟩ ∧ PySem.W.codeIn K cdv qual = true
  kp : PySem.W.keepIn K (.ref f) = true
section
variable {P : Program} {w : World} {K : PySem.W.Frag} {mg : Str → Option Value} {base : Heap}
/-- how its arguments bind (no defaults): h is «fun _ _ _ _ _ _ us hl => match us, hl with | [_, _], _ => rfl», one _ a parameter -/
theorem Fun.binds {x qual : Str} {st : Stmt} {f : Addr} {fd : FuncData} {ps : List Str} (F : Fun K x qual st f fd)
    (h : ∀ (kV doc pm : Value) (an : Option Addr) (cdv ct : Value) (us : List Value), us.length = ps.length → bindArgs (PySem.W.fnOf x qual (defArgs st) (defBody st) (defScope st) .none kV doc pm an cdv ct) ⟨us, []⟩ = pure (ps.zip us)) : Binds K fd ps [] := by
  obtain ⟨oc, od, kV, doc, pm, an, cdv, ct, osl, rfl, lk, hcd⟩ := F.ex
  exact .all (h kV doc pm an cdv ct)
theorem fun_mk {x qual : Str} {st : Stmt} {f : Addr} {oc : Value} {od an : Option Addr} {osl : Array (Option Value)} {kV doc pm cdv ct : Value} (l : K.lookup f = some ⟨oc, od, .func (PySem.W.fnOf x qual (defArgs st) (defBody st) (defScope st) .none kV doc pm an cdv ct), osl⟩)
    (c : PySem.W.codeIn K cdv qual = true) (k : PySem.W.keepIn K (.ref f) = true) : Fun K x qual st f (PySem.W.fnOf x qual (defArgs st) (defBody st) (defScope st) .none kV doc pm an cdv ct) := ⟨⟨oc, od, kV, doc, pm, an, cdv, ct, osl, rfl, l, c⟩, k⟩
end
/-! ### expressions in short: the name that stands in the i-th slot -/
section
variable {X : Cx}
end

/-! ### tests -/
theorem iteF {A B : Prop} (h : B) : if false = true then A else B := by
  rw [if_neg Bool.false_ne_true]
  exact h
theorem iteT {A B : Prop} (h : A) : if true = true then A else B := by
  rw [if_pos rfl]
  exact h
/-! ### heaps -/
/-- all that was tracked is as it was -/
def Same (H H' : Hp) : Prop := ∀ b o, H b = some o → H' b = some o
theorem Same.refl (H : Hp) : Same H H := fun _ _ h => h
theorem Same.trans {H H1 H2 : Hp} (a : Same H H1) (b : Same H1 H2) : Same H H2 := fun c o h => b c o (a c o h)
theorem Same.free {H H' : Hp} (e : Same H H') {l : Addr} (h : H' l = Option.none) : H l = Option.none := by
  cases q : H l with
  | none => rfl
  | some o =>
    rw [e l o q] at h
    cases h
theorem Same.seq {K : PySem.W.Frag} {H H' : Hp} {a : Addr} {xs : List V} (e : Same H H') (h : SqL K H a xs) : SqL K H' a xs := by
  rcases h with (h | ⟨o, h⟩) | h
  · exact .inl (.inl (e _ _ h))
  · exact .inl (.inr ⟨o, e _ _ h⟩)
  · exact .inr h

/-! ### a dict's pairs: keys that differ -/
section
variable {κ : Type} [DecidableEq κ]
end
end L2

set_option maxHeartbeats 4000000
namespace Sg
open PySem PySem.Spec PyProof.Rows L2 PySem.Builtin PySem.Builtin.Getset_descriptor
/-- an object of the class at D, whatever else -/
def IsOf (h : Heap) (x D : Addr) : Prop := ∃ ox, h.get? x = some ox ∧ ox.cls = .ref D
theorem IsOf.ty {M : Model} {h : Heap} {x D : Addr} (I : IsOf h x D) : PySem.W.Looks M h (typeOf (.ref x)) (.ref D) := by
  obtain ⟨ox, h1, h2⟩ := I
  rw [← h2]
  exact (PySem.W.Looks.ld h1).andThen .now
theorem exc_by {prog : Program} {w : World} {A : Around} {E : Value → Shared → Prop} {K : PySem.W.Frag} {s : Shared} {x D : Addr} {name : Str} {tk : Tok} {fill expr : Bool} {Q : Value → Shared → Prop} {r : Builtin.ObjectAttr.Found} (X : K.In s.heap) (I : IsOf s.heap x D)
    (hga : PySem.W.findIn K (.ref D) "__getattribute__" = some (some (.builtin "BaseException.__getattribute__"))) (hgt : PySem.W.findIn K (.ref D) "__getattr__" = some none) (hbe : PySem.W.mroIn K D (.type "BaseException") = some true)
    (hf : PySem.W.Looks (model prog w) s.heap (Builtin.ObjectAttr.find (.ref x) (.ref D) name) r)
    (h : match r with
      | .bind g a => wpAny (model prog w) A.in1 (call g [a, .ref x, .ref D]) (fun v s' => wpAny (model prog w) A (handedOut v) Q E s') (fun _ _ => False) s
      | .value v => wpAny (model prog w) A (handedOut v) Q E s
      | .missing => False) :
    wpAny (model prog w) A (getAttrBy (.ref x) (.str name tk) fill expr) Q E s := by
  obtain ⟨hh, gg, d, t, os⟩ := s
  have L0 := I.ty (M := model prog w)
  have L1 := PySem.W.looks_findIn (M := model prog w) X hga
  have L2' := PySem.W.looks_findIn (M := model prog w) X hgt
  have L4 := PySem.W.looks_mroIn (M := model prog w) X hbe
  have f3 := PySem.F.excAttr_ValueError.ga.bind (.ref x)
  unfold getAttrBy
  refine wpAny_holding (wpAny_bind (L0.at (wpAny_bind (L1.at ?_))))
  have hx2 : (Value.builtin "BaseException.__getattribute__" == Value.builtin "object.__getattribute__") = false := by
    decide +kernel
  simp only [hx2, Bool.and_false, Bool.false_eq_true, if_false]
  unfold getAttrByItsOwn hookBefore
  refine wpAny_bind (L2'.at ?_)
  refine wpAny_bind (wpAny_attempt (wpAny_holding ?_))
  unfold callGetattribute boundAndCalled
  have hx0 : (expr && onTheHeap (Value.builtin "BaseException.__getattribute__")) = false := by
    cases expr <;> rfl
  rw [hx0, f3]
  simp only [Bool.false_eq_true, if_false]
  refine wpAny_bind (wpAny_pure ?_)
  have hbi : PySem.W.Looks (model prog w) hh (isInstance (.ref x) (.type "BaseException")) true := L0.andThen L4
  refine wpAny_call (codeAny_call_builtin PySem.F.excAttr_ValueError.ga.plain PySem.F.entry_bexc_ga (@PySem.W.check_slot (model prog w) _ _ _ "BaseException.__getattribute__" "BaseException" "__getattribute__" (.ref x) [.str name tk] [] _ (by decide +kernel) (by decide +kernel) hbi (PySem.F.args_bexc_ga _ _) ?_))
  unfold Builtin.«object.__getattribute__»
  refine wpAny_bind (wpAny_pure ?_)
  show wpAny (model prog w) A.in1 (Builtin.ObjectAttr.attrName (.str name tk) >>= _) _ _ _
  unfold Builtin.ObjectAttr.attrName
  refine wpAny_bind (wpAny_pure (wpAny_bind (L0.at (wpAny_bind (hf.at ?_)))))
  cases r with
  | bind g a =>
    show wpAny (model prog w) A.in1 (Builtin.ObjectAttr.bindTo g a (.ref x) (.ref D)) _ _ _
    unfold Builtin.ObjectAttr.bindTo
    show wpAny (model prog w) A.in1 (holding [a] (call g [a, .ref x, .ref D]) >>= ret) _ _ _
    exact wpAny_bind (wpAny_holding (wpAny_mono h (fun v s' z => wpAny_pure z) fun _ _ z => z.elim))
  | value v =>
    show wpAny (model prog w) A.in1 (ret v) _ _ _
    exact wpAny_pure h
  | missing => exact h.elim
/-- the getter of object.__class__, of any object of a class of one's own -/
theorem cls_get {prog : Program} {w : World} {A : Around} {K : PySem.W.Frag} {s : Shared} {x D : Addr} {tp : Value} {R : Result → Shared → Prop} (X : K.In s.heap) (I : IsOf s.heap x D) (hm : PySem.W.mroIn K D (.type "object") = some true)
    (hR : R (.ok (.ret (.ref D))) s) : codeAny (model prog w) A (.call (.builtin "getset_descriptor.__get__") ⟨[.builtin "object.__class__", .ref x, tp], []⟩) R s := by
  obtain ⟨hh, g, dr, t, os⟩ := s
  have L0 := I.ty (M := model prog w)
  have L1 := PySem.W.looks_mroIn (M := model prog w) X hm
  have pl := PySem.W.KF.slot_gs.plain
  have ent := PySem.W.KF.entry_gs
  refine codeAny_call_builtin pl ent (PySem.W.KF.slot_gs.check _ _ _ _ _ _ _ _ PySem.W.KF.type_class (PySem.W.KF.args_gs _ _ _) ?_)
  unfold Builtin.«getset_descriptor.__get__» descrGet
  rw [PySem.W.dga_obj]
  refine wpAny_bind (wpAny_pure ?_)
  unfold descrGetter descrCheckInstance descrNameAndClass isInstance
  simp only [PySem.W.KF.owner_class]
  repeat lk
  refine ⟨Code.quiet_builtin _ (by decide +kernel), codeAny_builtin PySem.W.KF.entry_class ?_⟩
  unfold Builtin.«object.__class__» shownTypeOf
  repeat lk
  exact hR
/-- what isinstance asks of a class of exceptions -/
structure TyX (K : PySem.W.Frag) (C : Addr) : Prop where
  hc : (PySem.W.clsIn K C).isSome = true
  ga : PySem.W.findIn K (.ref C) "__getattribute__" = some (some (.builtin "BaseException.__getattribute__"))
  gt : PySem.W.findIn K (.ref C) "__getattr__" = some none
  be : PySem.W.mroIn K C (.type "BaseException") = some true
  ha : PySem.W.findIn K (.ref C) "__class__" = some (some (.builtin "object.__class__"))
  hn : PySem.W.specialIn K (.builtin "object.__class__") "__get__" = some (some (.builtin "getset_descriptor.__get__"))
  htk : PySem.W.takesIn K (.builtin "object.__class__") = some true
  hm : PySem.W.mroIn K C (.type "object") = some true
theorem find_cls {M : Model} {K : PySem.W.Frag} {h : Heap} {x C : Addr} (X : K.In h) (T : TyX K C) : PySem.W.Looks M h (Builtin.ObjectAttr.find (.ref x) (.ref C) "__class__") (.bind (.builtin "getset_descriptor.__get__") (.builtin "object.__class__")) := by
  refine (PySem.W.looks_findIn X T.ha).andThen ?_
  refine (PySem.W.looks_specialIn X T.hn : PySem.W.Looks M h (Builtin.ObjectAttr.getOf (some (.builtin "object.__class__"))) _).andThen ?_
  refine ((PySem.W.looks_takesIn X T.htk).andThen .now : PySem.W.Looks M h (Builtin.ObjectAttr.dataDescriptor? (some (.builtin "object.__class__")) (some (.builtin "getset_descriptor.__get__"))) (some (.builtin "getset_descriptor.__get__", .builtin "object.__class__"))).andThen ?_
  exact PySem.W.Looks.tag .now
theorem kitx_exc {K : PySem.W.Frag} {x D : Addr} (T : TyX K D) : PySem.W.KitX K (.ref x) (.ref D) (fun h => IsOf h x D) where
  ty := fun _ _ _ I => I.ty
  it := fun M h X _ => by
    obtain ⟨cdD, hcD⟩ := Option.isSome_iff_exists.mp T.hc
    unfold PySem.W.clsIn at hcD
    split at hcD
    · rename_i u1 u2 u3 u4 hlk
      intro A' Q' E' s' k q
      unfold isType loadHead
      exact wpAny_bind (wpAny_loadPart (k _ _ (X _ _ hlk)) (wpAny_pure q))
    · cases hcD
  ne := fun h tp dd its n sl X htp => by
    obtain ⟨cdD, hcD⟩ := Option.isSome_iff_exists.mp T.hc
    refine Bool.eq_false_iff.mpr fun q => ?_
    have e : D = tp := Value.ref.inj (beq_iff_eq.mp q)
    subst e
    unfold PySem.W.clsIn at hcD
    split at hcD
    · rename_i u1 u2 u3 u4 hlk
      have z := (X _ _ hlk).symm.trans htp
      cases z
    · cases hcD
  ca := fun {prog w A E Q s} X I k => by
    unfold getAttr? getAttrBy?
    refine wpAny_bind (wpAny_mkText (wpAny_bind (wpAny_attempt ?_)))
    refine exc_by (s := { s with toks := s.toks + 1 }) X I T.ga T.gt T.be (find_cls X T) ?_
    refine wpAny_call (cls_get (s := { s with toks := s.toks + 1 }) X I T.hm ?_)
    exact PySem.W.handed_on rfl (wpAny_pure k)
end Sg

/-! The calculus of plain data over the layer: values without addresses, a frozen part of the heap, owned things. -/
namespace Sg
open PySem PySem.Spec PyProof.Rows L2

abbrev St := L2.St
/-- an object of the class at C, its dict at dx -/
def IsOfD (h : Heap) (x C dx : Addr) : Prop := ∃ ox, h.get? x = some ox ∧ ox.cls = .ref C ∧ ox.dict = some dx ∧ ∃ vs, ox.data = .fields vs
theorem IsOfD.of {h : Heap} {x C dx : Addr} (I : IsOfD h x C dx) : IsOf h x C := let ⟨ox, h1, h2, _⟩ := I; ⟨ox, h1, h2⟩
inductive Dt where
  | non
  | bl (b : Bool)
  | int (i : Int)
  | str (x : Str)
  | tup (ds : List Dt)
  | lst (ds : List Dt)
  | scr (ns : List Int)
  | dic (kvs : List (Key × Dt))
  | obj (C : Addr) (fs : List (Str × Dt))
  | ty (n : String)
  | cls (C : Addr)
  | xo (C : Addr)
  | dicF (kvs : List (Key × Dt))
  | xof (C : Addr) (fs : List (Str × Dt))

mutual
inductive Rep (K : PySem.W.Frag) (H : Hp) : V → Dt → Prop
  | non : Rep K H .non .non
  | bl (b : Bool) : Rep K H (.bl b) (.bl b)
  | int (i : Int) : Rep K H (.int i) (.int i)
  | str (x : Str) : Rep K H (.str x) (.str x)
  | tup {a : Addr} {vs : List V} {ds : List Dt} : SqT K H a vs → Reps K H vs ds → Rep K H (.ref a) (.tup ds)
  | lst {a : Addr} {vs : List V} {ds : List Dt} : H a = some (.lst vs) → Reps K H vs ds → Rep K H (.ref a) (.lst ds)
  | scr {a : Addr} {ns : List Int} : SqL K H a (ns.map V.int) → Rep K H (.ref a) (.scr ns)
  | dic {a : Addr} {kvs : List (Key × V)} {kds : List (Key × Dt)} : H a = some (.dK kvs) → RepK K H kvs kds → Rep K H (.ref a) (.dic kds)
  | obj {a C dx : Addr} {fs : List (Str × V)} {ds : List (Str × Dt)} : H a = some (.ins C dx fs) → RepF K H fs ds → Rep K H (.ref a) (.obj C ds)
  | ty (n : String) : Rep K H (.ty n) (.ty n)
  | cls (C : Addr) : Rep K H (.ref C) (.cls C)
  | xo {a C : Addr} {ph : Heap → Prop} : H a = some (.ext ph) → (∀ h, ph h → IsOf h a C) → Rep K H (.ref a) (.xo C)
  | dicF {a : Addr} {ob : Obj} {kvs : List (Key × V)} {kds : List (Key × Dt)} : H a = some (.frz ob (.dK kvs)) → RepK K H kvs kds → Rep K H (.ref a) (.dicF kds)
  | xof {a C dx : Addr} {ph : Heap → Prop} {fs : List (Str × V)} {ds : List (Str × Dt)} : H a = some (.ext ph) → (∀ h, ph h → IsOfD h a C dx) → H dx = some (.xd fs) → RepF K H fs ds → Rep K H (.ref a) (.xof C ds)
inductive Reps (K : PySem.W.Frag) (H : Hp) : List V → List Dt → Prop
  | nil : Reps K H [] []
  | cons {v : V} {d : Dt} {vs : List V} {ds : List Dt} : Rep K H v d → Reps K H vs ds → Reps K H (v :: vs) (d :: ds)
inductive RepK (K : PySem.W.Frag) (H : Hp) : List (Key × V) → List (Key × Dt) → Prop
  | nil : RepK K H [] []
  | cons {k : Key} {v : V} {d : Dt} {vs : List (Key × V)} {ds : List (Key × Dt)} : Rep K H v d → RepK K H vs ds → RepK K H ((k, v) :: vs) ((k, d) :: ds)
inductive RepF (K : PySem.W.Frag) (H : Hp) : List (Str × V) → List (Str × Dt) → Prop
  | nil : RepF K H [] []
  | cons {k : Str} {v : V} {d : Dt} {vs : List (Str × V)} {ds : List (Str × Dt)} : Rep K H v d → RepF K H vs ds → RepF K H ((k, v) :: vs) ((k, d) :: ds)
end

theorem Rd_same {H H' : Hp} {a : Addr} {u : HO} (e : Same H H') (h : Rd H a u) : Rd H' a u := by
  rcases h with h | ⟨o, h⟩
  · exact .inl (e _ _ h)
  · exact .inr ⟨o, e _ _ h⟩
theorem SqT_same {K : PySem.W.Frag} {H H' : Hp} {a : Addr} {xs : List V} (e : Same H H') (h : SqT K H a xs) : SqT K H' a xs := by
  rcases h with h | h
  · exact .inl (Rd_same e h)
  · exact .inr h

mutual
theorem Rep.mono {K : PySem.W.Frag} {H H' : Hp} (e : Same H H') : ∀ {v : V} {d : Dt}, Rep K H v d → Rep K H' v d
  | _, _, .non => .non
  | _, _, .bl b => .bl b
  | _, _, .int i => .int i
  | _, _, .str x => .str x
  | _, _, .tup h r => .tup (SqT_same e h) (Reps.mono e r)
  | _, _, .lst h r => .lst (e _ _ h) (Reps.mono e r)
  | _, _, .scr h => .scr (e.seq h)
  | _, _, .dic h r => .dic (e _ _ h) (RepK.mono e r)
  | _, _, .obj h r => .obj (e _ _ h) (RepF.mono e r)
  | _, _, .ty n => .ty n
  | _, _, .cls C => .cls C
  | _, _, .xo h r => .xo (e _ _ h) r
  | _, _, .dicF h r => .dicF (e _ _ h) (RepK.mono e r)
  | _, _, .xof h q g r => .xof (e _ _ h) q (e _ _ g) (RepF.mono e r)
theorem Reps.mono {K : PySem.W.Frag} {H H' : Hp} (e : Same H H') : ∀ {v : List V} {d : List Dt}, Reps K H v d → Reps K H' v d
  | _, _, .nil => .nil
  | _, _, .cons h r => .cons (Rep.mono e h) (Reps.mono e r)
theorem RepK.mono {K : PySem.W.Frag} {H H' : Hp} (e : Same H H') : ∀ {v : List (Key × V)} {d : List (Key × Dt)}, RepK K H v d → RepK K H' v d
  | _, _, .nil => .nil
  | _, _, .cons h r => .cons (Rep.mono e h) (RepK.mono e r)
theorem RepF.mono {K : PySem.W.Frag} {H H' : Hp} (e : Same H H') : ∀ {v : List (Str × V)} {d : List (Str × Dt)}, RepF K H v d → RepF K H' v d
  | _, _, .nil => .nil
  | _, _, .cons h r => .cons (Rep.mono e h) (RepF.mono e r)
end
theorem Reps.length {K : PySem.W.Frag} {H : Hp} : ∀ {v : List V} {d : List Dt}, Reps K H v d → v.length = d.length
  | _, _, .nil => rfl
  | _, _, .cons _ r => congrArg (· + 1) (Reps.length r)
theorem Reps.get {K : PySem.W.Frag} {H : Hp} : ∀ {v : List V} {d : List Dt} {i : Nat} {x : Dt}, Reps K H v d → d[i]? = some x → ∃ y, v[i]? = some y ∧ Rep K H y x
  | _, _, _, _, .nil, e => by simp at e
  | _, _, 0, _, .cons h _, e => by simp at e; subst e; exact ⟨_, rfl, h⟩
  | _, _, i + 1, x, .cons _ r, e => by
    obtain ⟨y, h1, h2⟩ := Reps.get (i := i) (x := x) r (by simpa using e)
    exact ⟨y, by simpa using h1, h2⟩
theorem Reps.append {K : PySem.W.Frag} {H : Hp} : ∀ {v : List V} {d : List Dt} {v' : List V} {d' : List Dt}, Reps K H v d → Reps K H v' d' → Reps K H (v ++ v') (d ++ d')
  | _, _, _, _, .nil, s => s
  | _, _, _, _, .cons h r, s => .cons h (Reps.append r s)
theorem RepF.lookup {K : PySem.W.Frag} {H : Hp} {f : Str} : ∀ {v : List (Str × V)} {d : List (Str × Dt)} {x : Dt}, RepF K H v d → d.lookup f = some x → ∃ y, v.lookup f = some y ∧ Rep K H y x
  | _, _, _, .nil, e => by simp at e
  | (k, v) :: r, (_, d) :: s, x, .cons h t, e => by
    rw [List.lookup_cons] at e ⊢
    cases q : (f == k) with
    | true => rw [q] at e; cases e; exact ⟨v, rfl, h⟩
    | false => rw [q] at e; exact RepF.lookup t e
/-- the frozen part Hf and the heap H grow -/
structure Grow (Hf H Hf' H' : Hp) : Prop where
  big : Same H H'
  frz : Same Hf Hf'
  sub : Same Hf' H'
  new : ∀ a o, Hf' a = some o → (∃ o, Hf a = some o) ∨ H a = Option.none
theorem Grow.refl {Hf H : Hp} (s : Same Hf H) : Grow Hf H Hf H := ⟨Same.refl _, Same.refl _, s, fun a o h => .inl ⟨o, h⟩⟩
theorem Grow.trans {Hf H Hf1 H1 Hf2 H2 : Hp} (a : Grow Hf H Hf1 H1) (b : Grow Hf1 H1 Hf2 H2) : Grow Hf H Hf2 H2 :=
  ⟨a.big.trans b.big, a.frz.trans b.frz, b.sub, fun x o h => by
    rcases b.new x o h with ⟨o', h'⟩ | h'
    · exact a.new x o' h'
    · exact .inr (a.big.free h')⟩
theorem same_upd {H : Hp} {p : Addr} {o : HO} (n : H p = Option.none) : Same H (upd H p o) := fun b u e => by
  rw [upd_ne (ne_of_none e n)]; exact e
theorem same_upd2 {Hf H : Hp} {p : Addr} {o : HO} (s : Same Hf H) : Same (upd Hf p o) (upd H p o) := fun b u e => by
  by_cases hb : b = p
  · subst hb; rw [upd_same] at e ⊢; exact e
  · rw [upd_ne hb] at e ⊢; exact s _ _ e
theorem same_updO {Hf H : Hp} {p : Addr} {o : HO} (s : Same Hf H) (n : Hf p = Option.none) : Same Hf (upd H p o) := fun b u e => by
  rw [upd_ne (ne_of_none e n)]; exact s _ _ e
theorem Grow.alloc {Hf H : Hp} {p : Addr} {o : HO} (s : Same Hf H) (n : H p = Option.none) : Grow Hf H (upd Hf p o) (upd H p o) :=
  ⟨same_upd n, same_upd (s.free n), same_upd2 s, fun a u h => by
    by_cases hb : a = p
    · subst hb; exact .inr n
    · rw [upd_ne hb] at h; exact .inl ⟨u, h⟩⟩
/-- a new thing that stays owned -/
theorem Grow.allocO {Hf H : Hp} {p : Addr} {o : HO} (s : Same Hf H) (n : H p = Option.none) : Grow Hf H Hf (upd H p o) :=
  ⟨same_upd n, Same.refl _, same_updO s (s.free n), fun a u h => .inl ⟨u, h⟩⟩

/-- an owned thing -/
inductive Own where
  | lst (ds : List Dt)
  | dic (kds : List (Key × Dt))
  | obj (C : Addr) (fs : List (Str × Dt))
  | slf (x : Addr) (C : Addr) (fs : List (Str × Dt))
inductive Slot where
  | unk
  | val (d : Dt)
  | own (o : Own)
def OwnAt (K : PySem.W.Frag) (Hf H : Hp) (a : Addr) : Own → Prop
  | .lst ds => ∃ vs, H a = some (.lst vs) ∧ Reps K Hf vs ds
  | .dic kds => ∃ kvs, H a = some (.dK kvs) ∧ RepK K Hf kvs kds
  | .obj C ds => ∃ dx fs, H a = some (.ins C dx fs) ∧ RepF K Hf fs ds
  | .slf x C ds => a = x ∧ ∃ dx fs, H a = some (.ins C dx fs) ∧ RepF K Hf fs ds
theorem OwnAt.some {K : PySem.W.Frag} {Hf H : Hp} {a : Addr} : ∀ {o : Own}, OwnAt K Hf H a o → ∃ u, H a = some u
  | .lst _, ⟨_, h, _⟩ => ⟨_, h⟩
  | .dic _, ⟨_, h, _⟩ => ⟨_, h⟩
  | .obj _ _, ⟨_, _, h, _⟩ => ⟨_, h⟩
  | .slf _ _ _, ⟨_, _, _, h, _⟩ => ⟨_, h⟩
theorem OwnAt.grow {K : PySem.W.Frag} {Hf H Hf' H' : Hp} {a : Addr} (e : H' a = H a) (f : Same Hf Hf') : ∀ {o : Own}, OwnAt K Hf H a o → OwnAt K Hf' H' a o
  | .lst _, ⟨vs, h, r⟩ => ⟨vs, by rw [e]; exact h, r.mono f⟩
  | .dic _, ⟨vs, h, r⟩ => ⟨vs, by rw [e]; exact h, r.mono f⟩
  | .obj _ _, ⟨dx, fs, h, r⟩ => ⟨dx, fs, by rw [e]; exact h, r.mono f⟩
  | .slf _ _ _, ⟨q, dx, fs, h, r⟩ => ⟨q, dx, fs, by rw [e]; exact h, r.mono f⟩

/-- a def's entry: its frozen part, its heap -/
structure Gr where
  Hf : Hp
  H : Hp
structure Stt (K : PySem.W.Frag) (G : Gr) (st : L2.St) (Hf H : Hp) (dl : List Slot) : Prop where
  gr : Grow G.Hf G.H Hf H
  len : st.length = dl.length
  val : ∀ (i : Nat) d, dl[i]? = some (.val d) → ∃ v, st[i]? = some (some v) ∧ Rep K Hf v d
  own : ∀ (i : Nat) o, dl[i]? = some (.own o) → ∃ a, st[i]? = some (some (.ref a)) ∧ Hf a = Option.none ∧ G.H a = Option.none ∧ OwnAt K Hf H a o
  dis : ∀ (i j : Nat) o o' a, dl[i]? = some (.own o) → dl[j]? = some (.own o') → st[i]? = some (some (.ref a)) → st[j]? = some (some (.ref a)) → i = j
section
variable {K : PySem.W.Frag} {G : Gr} {st : L2.St} {Hf H Hf' H' : Hp} {dl dl' : List Slot}
theorem Stt.sub (S : Stt K G st Hf H dl) : Same Hf H := S.gr.sub
theorem Stt.grow (S : Stt K G st Hf H dl) (g : Grow Hf H Hf' H') : Stt K G st Hf' H' dl := by
  refine ⟨S.gr.trans g, S.len, fun i d h => let ⟨v, h1, h2⟩ := S.val i d h; ⟨v, h1, h2.mono g.frz⟩, fun i o h => ?_, S.dis⟩
  obtain ⟨a, h1, h2, h3, h4⟩ := S.own i o h
  obtain ⟨u, hu⟩ := h4.some
  refine ⟨a, h1, ?_, h3, h4.grow (by rw [hu]; exact g.big _ _ hu) g.frz⟩
  cases q : Hf' a with
  | none => rfl
  | some u' =>
    rcases g.new a u' q with ⟨o', z⟩ | z
    · rw [h2] at z; cases z
    · rw [hu] at z; cases z
theorem Stt.set (S : Stt K G st Hf H dl) {i : Nat} {v : V} {d : Dt} (r : Rep K Hf v d) : Stt K G (st.set i (some v)) Hf H (dl.set i (.val d)) := by
  have ln := S.len
  refine ⟨S.gr, by simp [S.len], fun j x h => ?_, fun j o h => ?_, fun j k o o' a h1 h2 h3 h4 => ?_⟩
  · by_cases e : i = j
    · subst e
      by_cases hl : i < dl.length
      · rw [List.getElem?_set_self hl] at h; cases h
        exact ⟨v, List.getElem?_set_self (by omega), r⟩
      · rw [List.getElem?_eq_none (by simp; omega)] at h; cases h
    · rw [List.getElem?_set_ne e] at h ⊢; exact S.val j x h
  · by_cases e : i = j
    · subst e
      by_cases hl : i < dl.length
      · rw [List.getElem?_set_self hl] at h; cases h
      · rw [List.getElem?_eq_none (by simp; omega)] at h; cases h
    · rw [List.getElem?_set_ne e] at h ⊢; exact S.own j o h
  · have nj : i ≠ j := fun e => by
      subst e
      by_cases hl : i < dl.length
      · rw [List.getElem?_set_self hl] at h1; cases h1
      · rw [List.getElem?_eq_none (by simp; omega)] at h1; cases h1
    have nk : i ≠ k := fun e => by
      subst e
      by_cases hl : i < dl.length
      · rw [List.getElem?_set_self hl] at h2; cases h2
      · rw [List.getElem?_eq_none (by simp; omega)] at h2; cases h2
    rw [List.getElem?_set_ne nj] at h1 h3
    rw [List.getElem?_set_ne nk] at h2 h4
    exact S.dis j k o o' a h1 h2 h3 h4
/-- the owned thing in the i-th slot is changed -/
theorem Stt.updO (S : Stt K G st Hf H dl) {i : Nat} {p : Addr} {o : HO} {w w' : Own} (hi : dl[i]? = some (.own w)) (hp : st[i]? = some (some (.ref p))) (r : OwnAt K Hf (upd H p o) p w') : Stt K G st Hf (upd H p o) (dl.set i (.own w')) := by
  have ln := S.len
  obtain ⟨p', q1, q2, q3, q4⟩ := S.own i w hi
  rw [hp] at q1; cases q1
  have hl : i < dl.length := (List.getElem?_eq_some_iff.mp hi).1
  have g : Grow G.Hf G.H Hf (upd H p o) := ⟨fun b u e => by rw [upd_ne (ne_of_none e q3)]; exact S.gr.big _ _ e, S.gr.frz, same_updO S.sub q2, S.gr.new⟩
  refine ⟨g, by simp [S.len], fun j x h => ?_, fun j o' h => ?_, fun j k o1 o2 a h1 h2 h3 h4 => ?_⟩
  · by_cases e : i = j
    · subst e; rw [List.getElem?_set_self hl] at h; cases h
    · rw [List.getElem?_set_ne e] at h; exact S.val j x h
  · by_cases e : i = j
    · subst e; rw [List.getElem?_set_self hl] at h; cases h
      exact ⟨p, hp, q2, q3, r⟩
    · rw [List.getElem?_set_ne e] at h
      obtain ⟨a, z1, z2, z3, z4⟩ := S.own j o' h
      have : a ≠ p := fun q => by subst q; exact e (S.dis i j _ _ _ hi h hp z1)
      exact ⟨a, z1, z2, z3, z4.grow (upd_ne this) (Same.refl _)⟩
  · have tr : ∀ (j : Nat) o', (dl.set i (.own w'))[j]? = some (.own o') → ∃ o'', dl[j]? = some (.own o'') := fun j o' h => by
      by_cases e : i = j
      · subst e; exact ⟨_, hi⟩
      · rw [List.getElem?_set_ne e] at h; exact ⟨_, h⟩
    obtain ⟨_, t1⟩ := tr j o1 h1
    obtain ⟨_, t2⟩ := tr k o2 h2
    exact S.dis j k _ _ a t1 t2 h3 h4
/-- less is known -/
def Le (dl dl' : List Slot) : Prop := dl.length = dl'.length ∧ ∀ (i : Nat) s, dl[i]? = some s → s ≠ .unk → dl'[i]? = some s
theorem Le.refl (dl : List Slot) : Le dl dl := ⟨rfl, fun _ _ h _ => h⟩
theorem Stt.weak (S : Stt K G st Hf H dl') (l : Le dl dl') : Stt K G st Hf H dl :=
  ⟨S.gr, by rw [S.len, l.1], fun i d h => S.val i d (l.2 i _ h (by intro z; cases z)), fun i o h => S.own i o (l.2 i _ h (by intro z; cases z)),
   fun i j o o' a h1 h2 => S.dis i j o o' a (l.2 i _ h1 (by intro z; cases z)) (l.2 j _ h2 (by intro z; cases z))⟩
def leb : List Slot → List Slot → Prop
  | [], [] => True
  | .unk :: r, _ :: s => leb r s
  | x :: r, y :: s => x = y ∧ leb r s
  | _, _ => False
theorem Le.of : ∀ {dl dl' : List Slot}, leb dl dl' → Le dl dl'
  | [], [], _ => Le.refl _
  | .unk :: r, y :: s, h => by
    have q := Le.of (dl := r) (dl' := s) h
    refine ⟨congrArg (· + 1) q.1, fun i x e n => ?_⟩
    cases i with
    | zero => simp at e; exact absurd e.symm n
    | succ i => exact q.2 i x (by simpa using e) n
  | .val d :: r, y :: s, h => by
    obtain ⟨h1, h2⟩ := (show Slot.val d = y ∧ leb r s from h)
    subst h1
    have q := Le.of h2
    refine ⟨congrArg (· + 1) q.1, fun i x e n => ?_⟩
    cases i with
    | zero => exact e
    | succ i => exact q.2 i x (by simpa using e) n
  | .own d :: r, y :: s, h => by
    obtain ⟨h1, h2⟩ := (show Slot.own d = y ∧ leb r s from h)
    subst h1
    have q := Le.of h2
    refine ⟨congrArg (· + 1) q.1, fun i x e n => ?_⟩
    cases i with
    | zero => exact e
    | succ i => exact q.2 i x (by simpa using e) n
end

/-! ### the judgements -/
def tD (K : PySem.W.Frag) (G : Gr) (dl : List Slot) (d : Dt) : TE := fun st H Q => ∃ Hf, Stt K G st Hf H dl ∧ ∀ v Hf' H', Grow Hf H Hf' H' → Rep K Hf' v d → Q v H'
def tDs (K : PySem.W.Frag) (G : Gr) (dl : List Slot) (ds : List Dt) : TA := fun st H Q => ∃ Hf, Stt K G st Hf H dl ∧ ∀ vs Hf' H', Grow Hf H Hf' H' → Reps K Hf' vs ds → Q vs H'
def tDB (K : PySem.W.Frag) (G : Gr) (dl : List Slot) (b : Bool) : TT := fun st H Q => ∃ Hf, Stt K G st Hf H dl ∧ ∀ Hf' H', Grow Hf H Hf' H' → Q b H'
abbrev EE (X : Cx) (G : Gr) (dl : List Slot) (e : Expr) (d : Dt) : Prop := PE X e (tD X.K G dl d)
abbrev EA (X : Cx) (G : Gr) (dl : List Slot) (es : List Expr) (ds : List Dt) : Prop := PA X es (tDs X.K G dl ds)
abbrev EB (X : Cx) (G : Gr) (dl : List Slot) (e : Expr) (b : Bool) : Prop := PT X e (tDB X.K G dl b)
/-- an exception's own fields -/
def ExcAt (K : PySem.W.Frag) (Hf : Hp) (od : Option Addr) (fs : List (Str × Dt)) : Prop := match od with
  | none => fs = []
  | some dx => ∃ fv, Hf dx = some (.xd fv) ∧ RepF K Hf fv fs
inductive Out where
  | nx (dl : List Slot)
  | rt (d : Dt)
  | ro (w : Own)
  | bk (dl : List Slot)
  | ct (dl : List Slot)
  | ex (c : Value) (fs : List (Str × Dt))
def OutK (K : PySem.W.Frag) (G : Gr) (E : XK) (D : Ends) (Hf : Hp) : Out → Prop
  | .nx dl => ∀ st Hf' H, Same Hf Hf' → Stt K G st Hf' H dl → D.nx st H
  | .bk dl => ∀ st Hf' H, Same Hf Hf' → Stt K G st Hf' H dl → D.bk st H
  | .ct dl => ∀ st Hf' H, Same Hf Hf' → Stt K G st Hf' H dl → D.ct st H
  | .rt d => ∀ v Hf' H, Grow G.Hf G.H Hf' H → Rep K Hf' v d → D.rt v H
  | .ro o => ∀ p Hf' H, Grow G.Hf G.H Hf' H → G.H p = none → Hf' p = none → OwnAt K Hf' H p o → D.rt (.ref p) H
  | .ex c fs => ∀ od Hf' H, Grow G.Hf G.H Hf' H → ExcAt K Hf' od fs → E c od H
theorem OutK.mono {K : PySem.W.Frag} {G : Gr} {E : XK} {D : Ends} {Hf Hf1 : Hp} (s : Same Hf Hf1) : ∀ {o : Out}, OutK K G E D Hf o → OutK K G E D Hf1 o
  | .nx _, k => fun st Hf' H s' S => k st Hf' H (s.trans s') S
  | .bk _, k => fun st Hf' H s' S => k st Hf' H (s.trans s') S
  | .ct _, k => fun st Hf' H s' S => k st Hf' H (s.trans s') S
  | .rt _, k => k
  | .ro _, k => k
  | .ex _ _, k => k
def tO (K : PySem.W.Frag) (G : Gr) (E : XK) (dl : List Slot) (o : Out) : TS := fun D st H => ∃ Hf, Stt K G st Hf H dl ∧ OutK K G E D Hf o
abbrev ES (X : Cx) (G : Gr) (E : XK) (dl : List Slot) (s : Stmt) (o : Out) : Prop := PS X s (tO X.K G E dl o)
abbrev ESs (X : Cx) (G : Gr) (E : XK) (dl : List Slot) (s : List Stmt) (o : Out) : Prop := PSs X s (tO X.K G E dl o)

theorem peI {X : Cx} {e : Expr} {t t' : TE} (h : PE X e t) (i : ∀ st H Q, t' st H Q → t st H Q) : PE X e t' := fun pins s st H Q I q => h pins s st H Q I (i st H Q q)
theorem ptI {X : Cx} {e : Expr} {t t' : TT} (h : PT X e t) (i : ∀ st H Q, t' st H Q → t st H Q) : PT X e t' := fun pins s st H Q I q => h pins s st H Q I (i st H Q q)
theorem paI {X : Cx} {e : List Expr} {t t' : TA} (h : PA X e t) (i : ∀ st H Q, t' st H Q → t st H Q) : PA X e t' := fun pos pins s st H Q I q => h pos pins s st H Q I (i st H Q q)
theorem psI {X : Cx} {e : Stmt} {t t' : TS} (h : PS X e t) (i : ∀ D st H, t' D st H → t D st H) : PS X e t' := fun pins s st H D I q => h pins s st H D I (i D st H q)
theorem pssI {X : Cx} {e : List Stmt} {t t' : TS} (h : PSs X e t) (i : ∀ D st H, t' D st H → t D st H) : PSs X e t' := fun pins s st H D I q => h pins s st H D I (i D st H q)

section
variable {X : Cx} {G : Gr} {E : XK} {dl dl1 dl2 : List Slot} {a b c e : Expr} {es : List Expr} {i j : Int} {d d1 d2 : Dt} {ds : List Dt} {pos : Pos} {o o' : Out} {x y : Str} {u v : Bool}

/-! ### names, constants -/
theorem ee_var (n : Nat) {x : Str} {pos : Pos} (hd : dl[n]? = some (.val d) := by rfl) (hN : X.N[n]? = some x := by rfl) (hv : Vis X.env.scope x := by first | exact Or.inl rfl | exact Or.inr (Or.inl rfl) | exact Or.inr (Or.inr rfl)) (hb : (x == ("__debug__" : Str)) = false := by decide)
    (hcd : (x == ("__classdict__" : Str)) = false := by decide) : EE X G dl (.Name x pos) d :=
  peI (pe_var hN hv hb hcd) fun st H Q ⟨Hf, S, k⟩ => let ⟨v, h1, h2⟩ := S.val n d hd; ⟨v, h1, k v Hf H (.refl S.sub) h2⟩
theorem ee_int {z : Int} {j pos} : EE X G dl (.Constant (.int z) j pos) (.int z) := peI pe_int fun st H Q ⟨Hf, S, k⟩ => k _ Hf H (.refl S.sub) (.int z)
theorem ee_str {z : Str} {j pos} : EE X G dl (.Constant (.str z) j pos) (.str z) := peI pe_str fun st H Q ⟨Hf, S, k⟩ => k _ Hf H (.refl S.sub) (.str z)
/-! ### two places -/
/-- a two-place operation on data -/
def R2D (K : PySem.W.Frag) (r : R2) (d1 d2 d : Dt) : Prop := ∀ v w Hf H Q, Same Hf H → Rep K Hf v d1 → Rep K Hf w d2 → (∀ u Hf' H', Grow Hf H Hf' H' → Rep K Hf' u d → Q u H') → r v w H Q
theorem tOp_D {r : R2} (h : R2D X.K r d1 d2 d) : ∀ st H Q, tD X.K G dl d st H Q → tOp r (tD X.K G dl d1) (tD X.K G dl d2) st H Q := fun st H Q ⟨Hf, S, k⟩ =>
  ⟨Hf, S, fun v Hf1 H1 g1 r1 => ⟨Hf1, S.grow g1, fun w Hf2 H2 g2 r2 => h v w Hf2 H2 Q g2.sub (r1.mono g2.frz) r2 fun u Hf3 H3 g3 r3 => k u Hf3 H3 ((g1.trans g2).trans g3) r3⟩⟩
theorem ee_op {op : Operator} {r : R2} (ho : OpR X (binaryOp op) r) (h : R2D X.K r d1 d2 d) (ha : EE X G dl a d1) (hb : EE X G dl b d2) : EE X G dl (.BinOp a op b pos) d := peI (pe_op ho ha hb) (tOp_D h)
theorem ee_cmp {op : CmpOp} {r : R2} (ho : OpR X (compareOp op) r) (h : R2D X.K r d1 d2 d) (hm : behindInMarks op b = false) (ha : EE X G dl a d1) (hb : EE X G dl b d2) : EE X G dl (.Compare a [op] [b] pos) d := peI (pe_cmpR ho ha hb hm) (tOp_D h)
theorem eb_cmp {op : CmpOp} {r : R2} (ho : OpR X (compareOp op) r) (h : R2D X.K r d1 d2 (.bl u)) (hm : behindInMarks op b = false) (ha : EE X G dl a d1) (hb : EE X G dl b d2) : EB X G dl (.Compare a [op] [b] pos) u :=
  ptI (pt_cmpR ho ha hb hm) fun st H Q ⟨Hf, S, k⟩ => tOp_D h st H _ ⟨Hf, S, fun v Hf' H' g r => by cases r; exact ⟨u, rfl, k Hf' H' g⟩⟩
theorem r2_I0 {K : PySem.W.Frag} {g : Int → Int → V} {g' : Int → Int → Dt} (h : ∀ K H i j, Rep K H (g i j) (g' i j)) : R2D K (rI0 g) (.int i) (.int j) (g' i j) := fun v w Hf H Q s r1 r2 k => by
  cases r1; cases r2; exact ⟨i, j, rfl, rfl, k _ Hf H (.refl s) (h _ _ _ _)⟩
theorem r2_I {K : PySem.W.Frag} {C : Int → Int → Prop} {g : Int → Int → V} {g' : Int → Int → Dt} (h : ∀ K H i j, Rep K H (g i j) (g' i j)) (hc : C i j) : R2D K (rI C g) (.int i) (.int j) (g' i j) := fun v w Hf H Q s r1 r2 k => by
  cases r1; cases r2; exact ⟨i, j, rfl, rfl, hc, k _ Hf H (.refl s) (h _ _ _ _)⟩
theorem ee_add (ha : EE X G dl a (.int i)) (hb : EE X G dl b (.int j)) : EE X G dl (.BinOp a .Add b pos) (.int (i + j)) := ee_op op_add (r2_I0 (g' := fun i j => .int (i + j)) fun _ _ _ _ => .int _) ha hb
theorem op_fdivB : OpR X (binaryOp .FloorDiv) (rI (fun _ j => 0 < j ∧ j.natAbs.log2 < 9000) fun i j => .int (i / j)) := opI fun i j _ _ _ _ _ hc q => by
  refine floordiv_int (Int.ne_of_gt hc.1) ?_ (.inl (PyProof.noPylong_of_log2 hc.2))
  rw [Int.fdiv_eq_ediv_of_nonneg _ (Int.le_of_lt hc.1)]
  exact q
theorem ee_fdiv (ha : EE X G dl a (.int i)) (hb : EE X G dl b (.int j)) (hc : 0 < j ∧ j.natAbs.log2 < 9000) : EE X G dl (.BinOp a .FloorDiv b pos) (.int (i / j)) := ee_op op_fdivB (r2_I (g' := fun i j => .int (i / j)) (fun _ _ _ _ => .int _) hc) ha hb
theorem ee_mod (ha : EE X G dl a (.int i)) (hb : EE X G dl b (.int j)) (hc : 0 < j) : EE X G dl (.BinOp a .Mod b pos) (.int (i % j)) := ee_op op_mod (r2_I (g' := fun i j => .int (i % j)) (fun _ _ _ _ => .int _) hc) ha hb
theorem ee_pow (ha : EE X G dl a (.int i)) (hb : EE X G dl b (.int j)) (hc : CPow i j) : EE X G dl (.BinOp a .Pow b pos) (.int (i ^ j.toNat)) := ee_op op_pow (r2_I (g' := fun i j => .int (i ^ j.toNat)) (fun _ _ _ _ => .int _) hc) ha hb
theorem r2_cat {K : PySem.W.Frag} (h : x.length + y.length ≤ sizeLine) : R2D K (fun a b H Q => ∃ i j, a = .str i ∧ b = .str j ∧ i.length + j.length ≤ sizeLine ∧ Q (.str (i ++ j)) H) (.str x) (.str y) (.str (x ++ y)) := fun v w Hf H Q s r1 r2 k => by
  cases r1; cases r2; exact ⟨x, y, rfl, rfl, h, k _ Hf H (.refl s) (.str _)⟩
theorem ee_cat (ha : EE X G dl a (.str x)) (hb : EE X G dl b (.str y)) (h : x.length + y.length ≤ sizeLine) : EE X G dl (.BinOp a .Add b pos) (.str (x ++ y)) := ee_op op_add_str (r2_cat h) ha hb
/-! ### comparisons -/
/-- a test is a truth that comes out -/
theorem eb_of (h : EE X G dl e (.bl u)) (he : ∀ whole, isTrue e X.env whole = (do let v ← whole; standAt e.pos; holding [v] (truthy v)) := by intro _; rfl) : EB X G dl e u :=
  ptI (pt_val h he) fun st H Q ⟨Hf, S, k⟩ => ⟨Hf, S, fun v Hf1 H1 g1 r1 => by cases r1; exact ⟨u, rfl, k Hf1 H1 g1⟩⟩
end
end Sg

namespace Sg
open PySem PySem.Spec PyProof.Rows L2
section
variable {X : Cx} {G : Gr} {E : XK} {dl dl1 dl2 : List Slot} {a b c e : Expr} {es : List Expr} {i j : Int} {d d1 d2 : Dt} {ds : List Dt} {pos : Pos} {o o' : Out} {x y : Str} {u v : Bool} {rest : List Expr} {sts sts' : List Stmt} {s : Stmt}

/-! ### and, or, not -/
theorem pe_nev : PE X e fun _ _ _ => False := fun _ _ _ _ _ _ h => h.elim
theorem pw_nev : PW X e fun _ _ _ => False := fun _ _ _ _ _ _ _ h => h.elim
abbrev EW (X : Cx) (G : Gr) (dl : List Slot) (e : Expr) (b : Bool) : Prop := PW X e (tDB X.K G dl b)
theorem pwI {e : Expr} {t t' : TT} (h : PW X e t) (i : ∀ st H Q, t' st H Q → t st H Q) : PW X e t' := fun wh pins s st H Q I q => h wh pins s st H Q I (i st H Q q)
theorem ew_or1 (ha : EB X G dl a u) : EW X G dl (.BoolOp .Or [a] pos) u := pw_or1 ha
theorem ew_or (ha : EB X G dl a u) (hb : u = false → EW X G dl (.BoolOp .Or (b :: rest) pos) v) : EW X G dl (.BoolOp .Or (a :: b :: rest) pos) (u || v) := by
  cases u with
  | false => exact pwI (pw_or ha (hb rfl)) fun st H Q ⟨Hf, S, k⟩ => ⟨Hf, S, fun Hf1 H1 g1 => iteF ⟨Hf1, S.grow g1, fun Hf2 H2 g2 => k Hf2 H2 (g1.trans g2)⟩⟩
  | true => exact pwI (pw_or ha pw_nev) fun st H Q ⟨Hf, S, k⟩ => ⟨Hf, S, fun Hf1 H1 g1 => iteT (k Hf1 H1 g1)⟩
theorem eb_w (h : EW X G dl e u) : EB X G dl e u := h.pt
theorem eb_not (ha : EB X G dl a u) : EB X G dl (.UnaryOp .Not a pos) (!u) := ptI (pt_not ha) fun st H Q ⟨Hf, S, k⟩ => ⟨Hf, S, fun Hf1 H1 g1 => k Hf1 H1 g1⟩
theorem ee_and1 (ha : EE X G dl a (.bl u)) : EE X G dl (.BoolOp .And [a] pos) (.bl u) := pe_one ha
theorem ee_and (ha : EE X G dl a (.bl u)) (hb : u = true → EE X G dl (.BoolOp .And (b :: rest) pos) (.bl v)) : EE X G dl (.BoolOp .And (a :: b :: rest) pos) (.bl (u && v)) := by
  cases u with
  | true => exact peI (pe_and ha (hb rfl)) fun st H Q ⟨Hf, S, k⟩ => ⟨Hf, S, fun w Hf1 H1 g1 r1 => by cases r1; exact ⟨true, rfl, iteT ⟨Hf1, S.grow g1, fun w Hf2 H2 g2 r2 => k w Hf2 H2 (g1.trans g2) r2⟩⟩⟩
  | false => exact peI (pe_and ha pe_nev) fun st H Q ⟨Hf, S, k⟩ => ⟨Hf, S, fun w Hf1 H1 g1 r1 => by cases r1; exact ⟨false, rfl, iteF (k _ Hf1 H1 g1 (.bl _))⟩⟩
theorem ee_not (ha : EE X G dl a (.bl u)) : EE X G dl (.UnaryOp .Not a pos) (.bl (!u)) := peI (pe_not ha) fun st H Q ⟨Hf, S, k⟩ => ⟨Hf, S, fun w Hf1 H1 g1 r1 => by cases r1; exact ⟨u, rfl, k _ Hf1 H1 g1 (.bl _)⟩⟩
theorem eb_to (h : EB X G dl e u) (q : u = v) : EB X G dl e v := by subst q; exact h
theorem ee_to (h : EE X G dl e d) (q : d = d1) : EE X G dl e d1 := by subst q; exact h
/-! ### argument lists, displays -/
theorem ea_nil : EA X G dl [] [] := paI pa_nil fun st H Q ⟨Hf, S, k⟩ => k [] Hf H (.refl S.sub) .nil
theorem ea_cons (ha : EE X G dl e d) (hr : EA X G dl es ds) (hs : starEach (e :: es) X.env = (false, eval e X.env) :: starEach es X.env := by rfl) : EA X G dl (e :: es) (d :: ds) :=
  paI (pa_cons ha hr hs) fun st H Q ⟨Hf, S, k⟩ => ⟨Hf, S, fun v Hf1 H1 g1 r1 => ⟨Hf1, S.grow g1, fun vs Hf2 H2 g2 r2 => k _ Hf2 H2 (g1.trans g2) (.cons (r1.mono g2.frz) r2)⟩⟩
theorem ee_lst (h : EA X G dl es ds) (hl : ds.length ≤ sizeLine := by decide) : EE X G dl (.List es pos) (.lst ds) :=
  peI (pe_lst h) fun st H Q ⟨Hf, S, k⟩ => ⟨Hf, S, fun vs Hf1 H1 g1 r1 => ⟨by rw [r1.length]; exact hl, fun p hp => k _ (upd Hf1 p (.lst vs)) _ (g1.trans (.alloc g1.sub hp)) (.lst upd_same (r1.mono (same_upd (g1.sub.free hp))))⟩⟩

/-! ### places -/
theorem Reps.atI {K : PySem.W.Frag} {H : Hp} {vs : List V} {ds : List Dt} {i : Int} {d : Dt} (r : Reps K H vs ds) (h : L2.atI ds i = some d) : ∃ v, L2.atI vs i = some v ∧ Rep K H v d := by
  unfold L2.atI at h ⊢
  rw [r.length]
  cases q : ixN ds.length i with
  | none => rw [q] at h; cases h
  | some n =>
    rw [q] at h
    exact r.get h
theorem ee_ixL (ha : EE X G dl a (.lst ds)) (hb : EE X G dl b (.int i)) (h : atI ds i = some d) (hs : PlainIx b := by intro _ _; rfl) : EE X G dl (.Subscript a b pos) d :=
  peI (pe_ix ix_list ha hb hs) (tOp_D fun v w Hf H Q s r1 r2 k => by
    cases r1 with
    | lst q r =>
      cases r2
      obtain ⟨v, h1, h2⟩ := r.atI h
      exact ⟨_, _, i, v, rfl, rfl, .of (s _ _ q), h1, k v Hf H (.refl s) h2⟩)
theorem ee_ixC {ns : List Int} {z : Int} (ha : EE X G dl a (.scr ns)) (hb : EE X G dl b (.int i)) (h : atI ns i = some z) (hs : PlainIx b := by intro _ _; rfl) : EE X G dl (.Subscript a b pos) (.int z) :=
  peI (pe_ix ix_list ha hb hs) (tOp_D fun v w Hf H Q s r1 r2 k => by
    cases r1 with
    | scr q =>
      cases r2
      have h' : L2.atI (ns.map V.int) i = some (.int z) := by
        unfold L2.atI at h ⊢
        rw [List.length_map]
        cases q2 : ixN ns.length i with
        | none => rw [q2] at h; cases h
        | some n =>
          rw [q2] at h
          show (ns.map V.int)[n]? = _
          rw [List.getElem?_map, show ns[n]? = some z from h]; rfl
      exact ⟨_, _, i, _, rfl, rfl, s.seq q, h', k _ Hf H (.refl s) (.int z)⟩)
theorem ee_ixS {z : Nat} (ha : EE X G dl a (.str x)) (hb : EE X G dl b (.int i)) (h : atI x.cps.toList i = some z) (hl : x.length ≤ sizeLine) (hs : PlainIx b := by intro _ _; rfl) : EE X G dl (.Subscript a b pos) (.str ⟨#[z]⟩) :=
  peI (pe_ix ix_str ha hb hs) (tOp_D fun v w Hf H Q s r1 r2 k => by
    cases r1; cases r2
    exact ⟨x, i, z, rfl, rfl, hl, h, k _ Hf H (.refl s) (.str _)⟩)

/-! ### statements -/
theorem es_nil : ESs X G E dl [] (.nx dl) := pssI pss_nil fun D st H ⟨Hf, S, k⟩ => k st Hf H (Same.refl _) S
theorem es_cons (h1 : ES X G E dl s (.nx dl1)) (h2 : ESs X G E dl1 sts o) : ESs X G E dl (s :: sts) o :=
  pssI (pss_cons h1 h2) fun D st H ⟨Hf, S, k⟩ => ⟨Hf, S, fun st' Hf' H' s' S' => ⟨Hf', S', k.mono s'⟩⟩
theorem es_one (h1 : ES X G E dl s o) : ESs X G E dl [s] o := pss_one h1
theorem OutK.stop {K : PySem.W.Frag} {D D' : Ends} {Hf : Hp} (h : ∀ dl, o ≠ .nx dl) (hr : D'.rt = D.rt) (hb : D'.bk = D.bk) (hc : D'.ct = D.ct) (k : OutK K G E D Hf o) : OutK K G E D' Hf o := by
  cases o with
  | nx dl => exact absurd rfl (h dl)
  | rt d => show ∀ v Hf H, _ → _ → D'.rt v H; rw [hr]; exact k
  | ro d => show ∀ v Hf H, _ → _ → _ → _ → D'.rt _ H; rw [hr]; exact k
  | bk d => show ∀ v Hf H, _ → _ → D'.bk v H; rw [hb]; exact k
  | ct d => show ∀ v Hf H, _ → _ → D'.ct v H; rw [hc]; exact k
  | ex c fs => exact k
/-- a statement that does not go on -/
theorem es_stop (h1 : ES X G E dl s o) (h : ∀ dl, o ≠ .nx dl := by intro _ z; cases z) : ESs X G E dl (s :: sts) o :=
  pssI (pss_cons h1 (pss_never (sts := sts))) fun D st H ⟨Hf, S, k⟩ => ⟨Hf, S, OutK.stop (D := D) h rfl rfl rfl k⟩
theorem es_if (hc : EB X G dl c u) (h1 : u = true → ESs X G E dl sts o) (h2 : u = false → ESs X G E dl sts' o) : ES X G E dl (.If c sts sts' pos) o := by
  cases u with
  | true => exact psI (ps_if hc (h1 rfl) (pss_never (sts := sts'))) fun D st H ⟨Hf, S, k⟩ => ⟨Hf, S, fun Hf1 H1 g1 => iteT ⟨Hf1, S.grow g1, k.mono g1.frz⟩⟩
  | false => exact psI (ps_if hc (pss_never (sts := sts)) (h2 rfl)) fun D st H ⟨Hf, S, k⟩ => ⟨Hf, S, fun Hf1 H1 g1 => iteF ⟨Hf1, S.grow g1, k.mono g1.frz⟩⟩
theorem es_ret (h : EE X G dl e d) : ES X G E dl (.Return (some e) pos) (.rt d) := psI (ps_ret h) fun D st H ⟨Hf, S, k⟩ => ⟨Hf, S, fun v Hf1 H1 g1 r1 => k v Hf1 H1 (S.gr.trans g1) r1⟩
theorem es_set (n : Nat) {x : Str} {pos' : Pos} (hN : X.N.Nodup) (he : EE X G dl e d) (hi : X.N[n]? = some x := by rfl) (hx : Loc X.env.scope x := by first | exact Or.inl rfl | exact Or.inr rfl)
    (hs : swapsWith e (some (.Name x pos')) pos.line X.env = pure false := by rfl) (hf : X.fn x = true ∨ X.env.scope.names.lookup x = some .local := by first | exact .inl rfl | exact .inr rfl | assumption) :
    ES X G E dl (.Assign [.Name x pos'] e pos) (.nx (dl.set n (.val d))) :=
  psI (ps_set hN hi hx he hs hf) fun D st H ⟨Hf, S, k⟩ => ⟨Hf, S, fun v Hf1 H1 g1 r1 => k _ Hf1 H1 g1.frz ((S.grow g1).set r1)⟩

/-! ### for over a range: the turns' states S, m turns that go on; then the end, or a turn that leaves -/
/-- what ends a loop of n turns behind m of them -/
inductive Ends1 (X : Cx) (G : Gr) (E : XK) (body : List Stmt) (S : Nat → List Slot) (pre : Nat → List Slot) (n m : Nat) : Out → Prop
  | all (h : m = n) : Ends1 X G E body S pre n m (.nx (S n))
  | rt {d : Dt} (h : m < n) (hb : ESs X G E (pre m) body (.rt d)) : Ends1 X G E body S pre n m (.rt d)
  | ro {d : Own} (h : m < n) (hb : ESs X G E (pre m) body (.ro d)) : Ends1 X G E body S pre n m (.ro d)
  | bk {dl' : List Slot} (h : m < n) (hb : ESs X G E (pre m) body (.bk dl')) : Ends1 X G E body S pre n m (.nx dl')
  | ex {c : Value} {fs : List (Str × Dt)} (h : m < n) (hb : ESs X G E (pre m) body (.ex c fs)) : Ends1 X G E body S pre n m (.ex c fs)
/-- a turn that goes on -/
inductive Goes (X : Cx) (G : Gr) (E : XK) (body : List Stmt) (pre post : List Slot) : Prop
  | nx {dl' : List Slot} (hb : ESs X G E pre body (.nx dl')) (l : Le post dl')
  | ct {dl' : List Slot} (hb : ESs X G E pre body (.ct dl')) (l : Le post dl')
/-- the body's reading in a loop -/
def tTurn (X : Cx) (G : Gr) (E : XK) (body : List Stmt) : TS := fun D st H => ∃ pre o, ESs X G E pre body o ∧ tO X.K G E pre o D st H
theorem pss_turn {body : List Stmt} : PSs X body (tTurn X G E body) := fun pins s st H D J ⟨pre, o, h, q⟩ => h pins s st H D J q
theorem turn_goes {body : List Stmt} {pre post : List Slot} {D : Ends} {st : L2.St} {Hf H : Hp} (g : Goes X G E body pre post) (S : Stt X.K G st Hf H pre) (hn : ∀ st Hf' H, Same Hf Hf' → Stt X.K G st Hf' H post → D.nx st H) (hc : ∀ st Hf' H, Same Hf Hf' → Stt X.K G st Hf' H post → D.ct st H) :
    tTurn X G E body D st H := by
  cases g with
  | nx hb l => exact ⟨_, _, hb, Hf, S, fun st' Hf' H' s' S' => hn st' Hf' H' s' (S'.weak l)⟩
  | ct hb l => exact ⟨_, _, hb, Hf, S, fun st' Hf' H' s' S' => hc st' Hf' H' s' (S'.weak l)⟩
theorem turn_ends {body : List Stmt} {S pre : Nat → List Slot} {n m : Nat} {D D' : Ends} {st : L2.St} {Hf H : Hp} (e : Ends1 X G E body S pre n m o) (hm : m < n) (S' : Stt X.K G st Hf H (pre m)) (k : OutK X.K G E D Hf o) (hr : D'.rt = D.rt) (hb' : D'.bk = D.nx) :
    tTurn X G E body D' st H := by
  cases e with
  | all h => omega
  | rt h hb => exact ⟨_, _, hb, Hf, S', by show ∀ v Hf H, _ → _ → D'.rt v H; rw [hr]; exact k⟩
  | ro h hb => exact ⟨_, _, hb, Hf, S', by show ∀ v Hf H, _ → _ → _ → _ → D'.rt _ H; rw [hr]; exact k⟩
  | bk h hb => exact ⟨_, _, hb, Hf, S', by show ∀ v Hf H, _ → _ → D'.bk v H; rw [hb']; exact k⟩
  | ex h hb => exact ⟨_, _, hb, Hf, S', k⟩
theorem es_range (nN : Nat) {x : Str} {px : Pos} {body : List Stmt} {lo : Int} {n m : Nat} (S : Nat → List Slot) (hN : X.N.Nodup) (hcalm : X.calm = true) (hp : PassesOwn (model X.prog X.w) X.A X.env X.xe)
    {wi : TI} {iter : Expr} (hI : PI X (.Name x px) iter wi) (hw : ∀ st Hf H R, Stt X.K G st Hf H dl → (∀ Hf' H', Grow Hf H Hf' H' → R (Itr lo n) H') → wi st H R)
    (h0 : Le (S 0) dl) (hmn : m ≤ n) (hb : ∀ k, k < m → Goes X G E body ((S k).set nN (.val (.int (lo + k)))) (S (k + 1))) (he : Ends1 X G E body S (fun k => (S k).set nN (.val (.int (lo + k)))) n m o)
    (hi : X.N[nN]? = some x := by rfl) (hx : Loc X.env.scope x := by first | exact Or.inl rfl | exact Or.inr rfl) (hf : X.fn x = true ∨ X.env.scope.names.lookup x = some .local := by first | exact .inl rfl | exact .inr rfl | assumption)
    (hs : ∀ x, foldedSetIterable iter X.env x = pure x := by intro _; rfl) : ES X G E dl (.For (.Name x px) iter body [] pos) o := by
  refine psI (ps_for hp hcalm hI (pg_name hN hi hx hf) (pss_turn (G := G) (E := E)) hs) fun D st H ⟨Hf, S0, k⟩ => hw st Hf H _ S0 fun Hf' H' g => ?_
  refine for_range (lo := lo) (n := n) (fun j st H => j ≤ m ∧ ∃ Hf1, Same Hf Hf1 ∧ Stt X.K G st Hf1 H (S j)) ⟨Nat.zero_le _, Hf', g.frz, (S0.grow g).weak h0⟩ (fun j st H hj ⟨hjm, Hf1, s1, Sj⟩ => ?_) (fun st H ⟨hnm, Hf1, s1, Sn⟩ => ?_)
  · have Sp : Stt X.K G (st.set nN (some (.int (lo + j)))) Hf1 H ((S j).set nN (.val (.int (lo + j)))) := Sj.set (.int _)
    by_cases hlt : j < m
    · exact turn_goes (hb j hlt) Sp (fun st Hf2 H s2 S' => ⟨hlt, Hf2, s1.trans s2, S'⟩) (fun st Hf2 H s2 S' => ⟨hlt, Hf2, s1.trans s2, S'⟩)
    · have e : j = m := by omega
      subst e
      exact turn_ends he hj Sp (k.mono s1) rfl rfl
  · have e : m = n := by omega
    subst e
    cases he with
    | all _ => exact k st Hf1 H s1 Sn
    | rt h _ => omega
    | ro h _ => omega
    | bk h _ => omega
    | ex h _ => omega
/-- for x in range(a) -/
theorem es_range1 (nN : Nat) {x : Str} {p px pc : Pos} {body : List Stmt} {n : Int} {m : Nat} (S : Nat → List Slot) (hN : X.N.Nodup) (hcalm : X.calm = true) (hp : PassesOwn (model X.prog X.w) X.A X.env X.xe) (hm0 : X.mg "range" = none)
    (ha : EA X G dl [a] [.int n]) (hn : -(2 ^ 62) ≤ n ∧ n < 2 ^ 62) (h0 : Le (S 0) dl) (hmn : m ≤ n.toNat) (hb : ∀ k : Nat, k < m → Goes X G E body ((S k).set nN (.val (.int k))) (S (k + 1)))
    (he : Ends1 X G E body S (fun k => (S k).set nN (.val (.int k))) n.toNat m o)
    (hg : Gl X "range" := by rfl) (hi : X.N[nN]? = some x := by rfl) (hx : Loc X.env.scope x := by first | exact Or.inl rfl | exact Or.inr rfl) (hf : X.fn x = true ∨ X.env.scope.names.lookup x = some .local := by first | exact .inl rfl | exact .inr rfl | assumption)
    (hs1 : starEach [a] X.env = [(false, eval a X.env)] := by rfl)
    (hs : ∀ z, foldedSetIterable (.Call (.Name "range" p) [a] [] pc) X.env z = pure z := by intro _; rfl) : ES X G E dl (.For (.Name x px) (.Call (.Name "range" p) [a] [] pc) body [] pos) o := by
  have ez : ∀ k : Nat, (0 : Int) + k = k := fun k => Int.zero_add _
  have eS : (fun k : Nat => (S k).set nN (.val (.int ((0 : Int) + k)))) = fun k : Nat => (S k).set nN (.val (.int k)) := by funext k; rw [ez]
  refine es_range nN (lo := 0) (n := n.toNat) (m := m) S hN hcalm hp (pi_range1 hg hm0 ha hs1) (fun st Hf H R S0 h => ⟨Hf, S0, fun vs Hf1 H1 g1 r1 => ?_⟩) h0 hmn (fun k hk => by rw [ez]; exact hb k hk) (by rw [eS]; exact he) hi hx hf hs
  cases r1 with
  | cons r t => cases t; cases r; exact ⟨n, rfl, hn.1, hn.2, h Hf1 H1 g1⟩

/-! ### for over a list or tuple -/
/-! ### defs -/
inductive Res where
  | ret (d : Dt)
  | own (w : Own)
  | exc (c : Value) (fs : List (Str × Dt))
def ResK (K : PySem.W.Frag) (Hf H : Hp) (Q : VK) (E : XK) : Res → Prop
  | .ret d => ∀ v Hf' H', Grow Hf H Hf' H' → Rep K Hf' v d → Q v H'
  | .own w => ∀ p Hf' H', Grow Hf H Hf' H' → H p = none → Hf' p = none → OwnAt K Hf' H' p w → Q (.ref p) H'
  | .exc c fs => ∀ od Hf' H', Grow Hf H Hf' H' → ExcAt K Hf' od fs → E c od H'
/-- a def's promise by a relation of the arguments' data and what comes -/
def spR (K : PySem.W.Frag) (n : Nat) (R : List Dt → Res → Prop) : Sp := fun vs H Q E => ∃ Hf ds r, Same Hf H ∧ Reps K Hf vs ds ∧ ds.length = n ∧ R ds r ∧ ResK K Hf H Q E r
/-- no exception: nothing lies behind -/
def NoX (CX : CXT) : Prop := ∀ outer H s e s', CX outer H s E0 e s' → False
theorem nox0 : NoX CX0 := fun _ _ _ _ _ h => h
theorem NoX.passes {CX : CXT} (n : NoX CX) : Passes CX X E0 := fun _ _ _ _ _ _ _ h => (n _ _ _ _ _ h).elim
def slots (N : List Str) (ds : List Dt) : List Slot := ds.map Slot.val ++ List.replicate (N.length - ds.length) .unk
theorem stt_start {K : PySem.W.Frag} {N : List Str} {Hf H : Hp} {vs : List V} {ds : List Dt} (s : Same Hf H) (r : Reps K Hf vs ds) : Stt K ⟨Hf, H⟩ (start N vs) Hf H (slots N ds) := by
  have hl := r.length
  have nown : ∀ (i : Nat) o, (slots N ds)[i]? ≠ some (.own o) := fun i o h => by
    unfold slots at h
    by_cases hi : i < ds.length
    · rw [List.getElem?_append_left (by simpa using hi), List.getElem?_map] at h
      cases e : ds[i]? with
      | none => rw [e] at h; cases h
      | some a => rw [e] at h; cases h
    · rw [List.getElem?_append_right (by simpa using hi), List.getElem?_replicate] at h
      split at h <;> cases h
  refine ⟨.refl s, ?_, fun i d h => ?_, fun i o h => absurd h (nown i o), fun i j o o' a h => absurd h (nown i o)⟩
  · unfold L2.start slots
    simp [hl]
  · unfold slots at h
    by_cases hi : i < ds.length
    · rw [List.getElem?_append_left (by simpa using hi), List.getElem?_map] at h
      cases e : ds[i]? with
      | none => rw [e] at h; cases h
      | some a =>
        rw [e] at h; cases h
        obtain ⟨v, h1, h2⟩ := r.get e
        refine ⟨v, ?_, h2⟩
        unfold L2.start
        rw [List.getElem?_append_left (by simp; omega), List.getElem?_map, h1]; rfl
    · rw [List.getElem?_append_right (by simpa using hi), List.getElem?_replicate] at h
      split at h <;> cases h
/-- a body's end as a def's -/
inductive Comes : Out → Res → Prop
  | rt (d : Dt) : Comes (.rt d) (.ret d)
  | ro (d : Own) : Comes (.ro d) (.own d)
  | nx (dl : List Slot) : Comes (.nx dl) (.ret .non)
  | ex (c : Value) (fs : List (Str × Dt)) : Comes (.ex c fs) (.exc c fs)
theorem Comes.ends {K : PySem.W.Frag} {Hf H : Hp} {Q : VK} {o : Out} {r : Res} (h : Comes o r) (k : ResK K Hf H Q E r) : OutK K ⟨Hf, H⟩ E { nx := fun _ H' => Q .non H', rt := Q } Hf o := by
  cases h with
  | rt d => exact k
  | ro d => exact k
  | nx dl => exact fun st Hf' H' s' S => k _ Hf' H' S.gr .non
  | ex c fs => exact k
/-- THE RULE for a def -/
theorem fnR {P : Program} {w : World} {K : PySem.W.Frag} {mg : Str → Option Value} {base : Heap} {CX : CXT} {x qual : Str} {st : Stmt} {f : Addr} {fd : FuncData} {N ps : List Str} {k n : Nat} {R : List Dt → Res → Prop} (F : Fun K x qual st f fd) (S : FnScope N ps (defScope st)) (hn : ps.length = n)
    (hbody : ∀ (cdv : Value) (A : Around) (outer : List Env) (s : Shared) (H : Hp) (E : XK) (G : Gr) (ds : List Dt) (r : Res), Room k (A.deeper (envOfC qual (defScope st) s.heap.objs.size f cdv)) → ds.length = n → R ds r →
      ∃ o, Comes o r ∧ ESs (cxOf CX P w K mg base N qual (defScope st) f cdv A outer s H E) G E (slots N ds) (defBody st) o) : FnOk P w K mg base CX (k + 1) f fd ps (spR K n R) := by
  obtain ⟨oc, od, kV, doc, pm, an, cdv, ct, osl, rfl, lk, hcd⟩ := F.ex
  refine fn_of lk hcd S (fun vs H Q E ⟨Hf, ds, r, s, rp, hl, _⟩ => by rw [rp.length, hl, hn]) fun A outer s H vs Q E hr ⟨Hf, ds, r, sm, rp, hl, hR, hk⟩ => ?_
  obtain ⟨o, hc, hb⟩ := hbody cdv A outer s H E ⟨Hf, H⟩ ds r hr hl hR
  exact ⟨_, hb, Hf, stt_start sm rp, hc.ends hk⟩

/-! ### calls -/
section
variable {CX : CXT} {k n : Nat} {f C : Addr} {fd : FuncData} {ps : List Str} {R : List Dt → Res → Prop} {m : Str} {p apos : Pos} {ob : Expr} {dvs : List Dt} {vds : List V} {dsv : List Value} {fs : List (Str × Dt)}
theorem ee_call (F : FnOk X.prog X.w X.K X.mg X.base CX k f fd ps (spR X.K n R)) (nx : NoX CX) (hr : Room k X.A) (hm : X.mg x = some (.ref f)) (hk : PySem.W.keepIn X.K (.ref f) = true) (hb : Binds X.K fd ps dsv) (hd : Vals vds dsv) (hdd : ∀ H, Reps X.K H vds dvs)
    (ha : EA X G dl (e :: es) ds) (hl : (ds ++ dvs).length = n) (h : R (ds ++ dvs) (.ret d)) (hg : Gl X x := by rfl) (hdb : (x == ("__debug__" : Str)) = false := by decide)
    (he : starEach (e :: es) X.env = (false, eval e X.env) :: starEach es X.env := by rfl) (hpl : (backTo pos (starEach es X.env)).any (·.1) = false := by rfl) : EE X G dl (.Call (.Name x p) (e :: es) [] pos) d :=
  peI (pe_call (E := E0) F hr hg hm hk hb hd nx.passes ha hdb he hpl) fun st H Q ⟨Hf, S, k⟩ => ⟨Hf, S, fun vs Hf1 H1 g1 r1 => ⟨Hf1, ds ++ dvs, .ret d, g1.sub, r1.append (hdd _), hl, h, fun v Hf2 H2 g2 r2 => k v Hf2 H2 (g1.trans g2) r2⟩⟩
end
end
end Sg

namespace Sg
open PySem PySem.Spec PyProof.Rows L2
section
variable {X : Cx} {G : Gr} {E : XK} {dl dl1 dl2 : List Slot} {a b c e : Expr} {es : List Expr} {i j : Int} {d d1 d2 : Dt} {ds : List Dt} {pos p p' : Pos} {o o' : Out} {x y f : Str} {u v : Bool} {rest : List Expr} {sts sts' : List Stmt} {s : Stmt} {C : Addr} {fs : List (Str × Dt)}

/-! ### names of the built-ins and of the module -/
theorem ee_ty {T : String} (hm : X.mg x = none) (hv : bootBuiltins x = some (.type T)) (hg : Gl X x := by rfl) (hn : x ≠ "__name__" := by decide) (hd : (x == ("__debug__" : Str)) = false := by decide) : EE X G dl (.Name x pos) (.ty T) :=
  peI (pe_bltn (v := .ty T) hg hm hv rfl hn hd) fun st H Q ⟨Hf, S, k⟩ => k _ Hf H (.refl S.sub) (.ty T)
theorem ee_cls (hm : X.mg x = some (.ref C)) (hg : Gl X x := by rfl) (hd : (x == ("__debug__" : Str)) = false := by decide) : EE X G dl (.Name x pos) (.cls C) :=
  peI (pe_glob (v := .ref C) hg hm rfl hd) fun st H Q ⟨Hf, S, k⟩ => k _ Hf H (.refl S.sub) (.cls C)
theorem boot_int : bootBuiltins "int" = some (.type "int") := by decide +kernel
theorem boot_bool : bootBuiltins "bool" = some (.type "bool") := by decide +kernel
theorem boot_ValueError : bootBuiltins "ValueError" = some (.type "ValueError") := by decide +kernel
/-! ### C() without an __init__ of its own -/
structure Mk0 (K : PySem.W.Frag) (C : Addr) : Prop where
  makes : PySem.W.makesIn K C = true
  init : PySem.W.findIn K (.ref C) "__init__" = some (some (.builtin "object.__init__"))
  kp : PySem.W.keepIn K (.ref C) = true
/-! ### a field -/
/-! ### len -/
theorem ee_lenC {ns : List Int} (hm : X.mg "len" = none) (ha : EE X G dl a (.scr ns)) (hg : Gl X "len" := by rfl) (he : starEach [a] X.env = [(false, eval a X.env)] := by rfl) : EE X G dl (.Call (.Name "len" p) [a] [] pos) (.int ns.length) :=
  peI (pe_callB call_len_seq hg hm PySem.boot_len (ea_cons ha ea_nil he) (he := he)) fun st H Q ⟨Hf, S, k⟩ => ⟨Hf, S, fun vs Hf1 H1 g1 r1 => by
    cases r1 with
    | cons r t => cases t; cases r with
      | @scr q _ z => exact ⟨q, _, rfl, .inl (g1.sub.seq z), by rw [List.length_map]; exact k _ Hf1 H1 g1 (.int _)⟩⟩
theorem ee_lenS (hm : X.mg "len" = none) (ha : EE X G dl a (.str x)) (hl : x.length ≤ sizeLine) (hg : Gl X "len" := by rfl) (he : starEach [a] X.env = [(false, eval a X.env)] := by rfl) : EE X G dl (.Call (.Name "len" p) [a] [] pos) (.int x.length) :=
  peI (pe_callB call_len_str hg hm PySem.boot_len (ea_cons ha ea_nil he) (he := he)) fun st H Q ⟨Hf, S, k⟩ => ⟨Hf, S, fun vs Hf1 H1 g1 r1 => by
    cases r1 with
    | cons r t => cases t; cases r; exact ⟨x, rfl, hl, k _ Hf1 H1 g1 (.int _)⟩⟩

/-! ### isinstance -/
def tyD : Dt → Value
  | .non => .type "NoneType"
  | .bl _ => .type "bool"
  | .int _ => .type "int"
  | .str _ => .type "str"
  | .tup _ => .type "tuple"
  | .lst _ => .type "list"
  | .scr _ => .type "list"
  | .dic _ => .type "dict"
  | .obj C _ => .ref C
  | .ty _ => .type "type"
  | .cls _ => .type "type"
  | .xo C => .ref C
  | .dicF _ => .type "dict"
  | .xof C _ => .ref C
/-- what isinstance asks of a class of one's own -/
structure TyC (K : PySem.W.Frag) (C : Addr) : Prop where
  cl : Cls K C
  ha : PySem.W.findIn K (.ref C) "__class__" = some (some (.builtin "object.__class__"))
  hn : PySem.W.specialIn K (.builtin "object.__class__") "__get__" = some (some (.builtin "getset_descriptor.__get__"))
  htk : PySem.W.takesIn K (.builtin "object.__class__") = some true
  hm : PySem.W.mroIn K C (.type "object") = some true
def TyOk (K : PySem.W.Frag) : Dt → Prop
  | .obj C _ => TyC K C
  | .xo C => TyX K C
  | .xof C _ => TyX K C
  | .ty _ => False
  | .cls _ => False
  | _ => True
def clsV : Dt → Option Value
  | .ty n => some (.type n)
  | .cls C => some (.ref C)
  | _ => none
theorem isinst_D {pins : List (Addr × Obj)} {st : L2.St} {Hf H : Hp} {s : Shared} {Q : Value → Shared → Prop} {w : V} {z c : Value} {r : Bool} (I : L2.Inv X pins st H s) (sm : Same Hf H) (rp : Rep X.K Hf w d) (rx : RelV w z) (t : TyOk X.K d) (e : PySem.W.kitOne X.K (tyD d) c = some r)
    (h : ∀ tk, Q (.bool r) { s with toks := tk }) : wpAny (model X.prog X.w) X.A (call (.builtin "isinstance") [z, c]) Q X.xe s := by
  cases rp with
  | non => cases (show z = Value.none from rx); exact PySem.W.kia_one PySem.W.kitx_none I.kIn True.intro e (fun z => nomatch z) h
  | bl y => cases (show z = Value.bool y from rx); exact PySem.W.kia_one PySem.W.kitx_bool I.kIn True.intro e (fun z => nomatch z) h
  | int i => obtain ⟨t, q⟩ := (show ∃ t, z = Value.int i t from rx); cases q; exact PySem.W.kia_one PySem.W.kitx_int I.kIn True.intro e (fun z => nomatch z) h
  | str y => obtain ⟨t, q⟩ := (show ∃ t, z = Value.str y t from rx); cases q; exact PySem.W.kia_one PySem.W.kitx_str I.kIn True.intro e (fun z => nomatch z) h
  | @tup a vs ds q rr =>
    cases (show z = Value.ref a from rx)
    obtain ⟨its, _, ⟨o, h1, h2, _⟩, _⟩ := I.tuple (SqT_same sm q)
    exact PySem.W.kia_one PySem.W.kitx_tuple I.kIn ⟨o, h1, h2⟩ e (fun z => nomatch z) h
  | @lst a vs ds q rr =>
    cases (show z = Value.ref a from rx)
    obtain ⟨its, _, ⟨o, n, h1, h2, _⟩, _⟩ := I.list (.of (sm _ _ q))
    exact PySem.W.kia_one PySem.W.kitx_list I.kIn ⟨o, h1, h2⟩ e (fun z => nomatch z) h
  | @scr a ns q =>
    cases (show z = Value.ref a from rx)
    obtain ⟨its, _, ⟨o, n, h1, h2, _⟩, _⟩ := I.list (sm.seq q)
    exact PySem.W.kia_one PySem.W.kitx_list I.kIn ⟨o, h1, h2⟩ e (fun z => nomatch z) h
  | @dic a kvs kds q rr =>
    cases (show z = Value.ref a from rx)
    exact isinst_ok (x := .ref a) I rfl (.dK (sm _ _ q)) e h
  | @obj a C dx fv fs q rr =>
    cases (show z = Value.ref a from rx)
    have t : TyC X.K C := t
    exact isinst_ok (x := .ref a) I rfl (.ins (sm _ _ q) t.cl t.ha t.hn t.htk t.hm) e h
  | ty n => exact t.elim
  | cls C => exact t.elim
  | @xo a C ph q hp =>
    cases (show z = Value.ref a from rx)
    have t : TyX X.K C := t
    have ok : ObjOk X.prog X.w H s.heap a (.ext ph) := I.hok a _ (sm _ _ q)
    exact PySem.W.kia_one (kitx_exc t) I.kIn (hp _ ok.1) e (fun z => nomatch z) h
  | @dicF a ob kvs kds q rr =>
    cases (show z = Value.ref a from rx)
    obtain ⟨_, _, vs, _, D⟩ := dk_rd (kvs := kvs) I.hok (.inr ⟨ob, sm _ _ q⟩)
    exact PySem.W.kia_one PySem.W.kitx_dict I.kIn D.typeIs e (fun z => nomatch z) h
  | @xof a C dx ph fv fs q hp g rr =>
    cases (show z = Value.ref a from rx)
    have t : TyX X.K C := t
    have ok : ObjOk X.prog X.w H s.heap a (.ext ph) := I.hok a _ (sm _ _ q)
    exact PySem.W.kia_one (kitx_exc t) I.kIn (hp _ ok.1).of e (fun z => nomatch z) h
theorem boot_isinstance : bootBuiltins "isinstance" = some (.builtin "isinstance") := by decide +kernel
def rIsi (K : PySem.W.Frag) (d d2 : Dt) (r : Bool) : List V → Hp → VK → Prop := fun xs H Q => ∃ Hf w c, xs = [w, c] ∧ Same Hf H ∧ Rep K Hf w d ∧ Rep K Hf c d2 ∧ Q (.bl r) H
theorem call_isi {r : Bool} {z : Value} (hc : clsV d2 = some z) (t : TyOk X.K d) (h : PySem.W.kitOne X.K (tyD d) z = some r) : CallR X (.builtin "isinstance") (rIsi X.K d d2 r) := by
  intro pins s st H xs us Q I rv ⟨Hf, w, c, e, sm, r1, r2, q⟩
  subst e
  cases rv with
  | cons q1 t1 =>
    cases t1 with
    | cons q2 t2 =>
      cases t2
      rename_i ud uc
      have ez : uc = z := by
        cases r2 with
        | ty n => cases hc; exact q2
        | cls C => cases hc; exact q2
        | _ => cases hc
      subst ez
      exact isinst_D I sm r1 q1 t h fun tk => ⟨.bl r, H, I.tok _, rfl, q⟩
theorem ee_isi {r : Bool} {z : Value} (hm : X.mg "isinstance" = none) (ha : EE X G dl a d) (hb : EE X G dl b d2) (hc : clsV d2 = some z) (t : TyOk X.K d) (h : PySem.W.kitOne X.K (tyD d) z = some r) (hg : Gl X "isinstance" := by rfl)
    (he : starEach [a, b] X.env = (false, eval a X.env) :: starEach [b] X.env := by rfl) (he2 : starEach [b] X.env = [(false, eval b X.env)] := by rfl) (hpl : (backTo pos (starEach [b] X.env)).any (·.1) = false := by rfl) :
    EE X G dl (.Call (.Name "isinstance" p) [a, b] [] pos) (.bl r) :=
  peI (pe_callB (call_isi hc t h) hg hm boot_isinstance (ea_cons ha (ea_cons hb ea_nil he2) he) (by decide) (by decide) he hpl) fun st H Q ⟨Hf, S, k⟩ => ⟨Hf, S, fun vs Hf1 H1 g1 r1 => by
    cases r1 with
    | cons r1 t1 => cases t1 with
      | cons r2 t2 => cases t2; exact ⟨Hf1, _, _, rfl, g1.sub, r1, r2, k _ Hf1 H1 g1 (.bl _)⟩⟩

/-! ### equal data -/
mutual
def pd : Dt → PyData
  | .non => .none
  | .bl b => .bool b
  | .int i => .int i
  | .str x => .str x
  | .tup ds => .tuple (pds ds)
  | .lst ds => .list (pds ds)
  | .scr _ => .none
  | .dic _ => .none
  | .obj _ _ => .none
  | .ty _ => .none
  | .cls _ => .none
  | .xo _ => .none
  | .dicF _ => .none
  | .xof _ _ => .none
def pds : List Dt → List PyData
  | [] => []
  | d :: r => pd d :: pds r
end
mutual
def plain : Dt → Bool
  | .tup ds => plains ds
  | .lst ds => plains ds
  | .scr _ => false
  | .dic _ => false
  | .obj _ _ => false
  | .ty _ => false
  | .cls _ => false
  | .xo _ => false
  | .dicF _ => false
  | .xof _ _ => false
  | .non => true
  | .bl _ => true
  | .int _ => true
  | .str _ => true
def plains : List Dt → Bool
  | [] => true
  | d :: r => plain d && plains r
end
section
variable {pins : List (Addr × Obj)} {st : L2.St} {Hf H : Hp} {s : Shared}
mutual
theorem reads_of (I : L2.Inv X pins st H s) (sm : Same Hf H) : ∀ {w : V} {d : Dt} {z : Value}, Rep X.K Hf w d → plain d = true → RelV w z → ∃ as, Reads s.heap z (pd d) as
  | _, _, z, .non, _, r => by cases (show z = Value.none from r); exact ⟨_, .none⟩
  | _, _, z, .bl b, _, r => by cases (show z = Value.bool b from r); exact ⟨_, .bool b⟩
  | _, _, z, .int i, _, r => by obtain ⟨t, q⟩ := (show ∃ t, z = Value.int i t from r); cases q; exact ⟨_, .int i t⟩
  | _, _, z, .str x, _, r => by obtain ⟨t, q⟩ := (show ∃ t, z = Value.str x t from r); cases q; exact ⟨_, .str x t⟩
  | _, _, z, @Rep.tup _ _ a vs ds q rr, h, r => by
    cases (show z = Value.ref a from r)
    obtain ⟨its, rv, ⟨o, h1, h2, n, h3⟩, _⟩ := I.tuple (SqT_same sm q)
    obtain ⟨as, ra⟩ := readss_of I sm rr (by rw [plain] at h; exact h) rv
    refine ⟨as, ?_⟩
    rw [pd]
    exact .tuple h1 h2 h3 (by simpa using ra)
  | _, _, z, @Rep.lst _ _ a vs ds q rr, h, r => by
    cases (show z = Value.ref a from r)
    obtain ⟨its, rv, ⟨o, n, h1, h2, _, h3⟩, _⟩ := I.list (.of (sm _ _ q))
    obtain ⟨as, ra⟩ := readss_of I sm rr (by rw [plain] at h; exact h) rv
    refine ⟨a :: as, ?_⟩
    rw [pd]
    exact .list h1 h2 h3 (by simpa using ra)
  | _, _, _, .dic _ _, h, _ => by rw [plain] at h; cases h
  | _, _, _, .scr _, h, _ => by rw [plain] at h; cases h
  | _, _, _, .obj _ _, h, _ => by rw [plain] at h; cases h
  | _, _, _, .ty _, h, _ => by rw [plain] at h; cases h
  | _, _, _, .cls _, h, _ => by rw [plain] at h; cases h
  | _, _, _, .xo _ _, h, _ => by rw [plain] at h; cases h
  | _, _, _, .dicF _ _, h, _ => by rw [plain] at h; cases h
  | _, _, _, .xof _ _ _ _, h, _ => by rw [plain] at h; cases h
theorem readss_of (I : L2.Inv X pins st H s) (sm : Same Hf H) : ∀ {vs : List V} {ds : List Dt} {zs : List Value}, Reps X.K Hf vs ds → plains ds = true → Vals vs zs → ∃ as, ReadsAll s.heap zs (pds ds) as
  | _, _, _, .nil, _, .nil => ⟨[], by rw [pds]; exact .nil⟩
  | _, _, _, .cons r t, h, .cons q w => by
    rw [plains, Bool.and_eq_true] at h
    obtain ⟨as, h1⟩ := reads_of I sm r h.1 q
    obtain ⟨bs, h2⟩ := readss_of I sm t h.2 w
    exact ⟨as ++ bs, by rw [pds]; exact .cons h1 h2⟩
end
end
def okD (d : Dt) : Prop := plain d = true ∧ SeqAt.shaped (pd d) = true
def rEqD (K : PySem.W.Frag) (d1 d2 : Dt) (g : Bool → Bool) : R2 := fun x y H Q => ∃ Hf, Same Hf H ∧ Rep K Hf x d1 ∧ Rep K Hf y d2 ∧ okD d1 ∧ okD d2 ∧ Q (.bl (g (PyData.eqv (pd d1) (pd d2)))) H
theorem op_neD (hu : X.A.units + 64 < cLine) : OpR X (compareOp .NotEq) (rEqD X.K d1 d2 (!·)) := by
  intro pins s st H x y v w Q I rx ry ⟨Hf, sm, r1, r2, o1, o2, q⟩
  obtain ⟨as, h1⟩ := reads_of I sm r1 o1.1 rx
  obtain ⟨bs, h2⟩ := reads_of I sm r2 o2.1 ry
  exact ne_dataH h1 h2 o1.2 o2.2 hu ⟨.bl _, H, I, rfl, q⟩
theorem r2_eqD {K : PySem.W.Frag} {g : Bool → Bool} (o1 : okD d1) (o2 : okD d2) : R2D K (rEqD K d1 d2 g) d1 d2 (.bl (g (PyData.eqv (pd d1) (pd d2)))) := fun v w Hf H Q s r1 r2 k => ⟨Hf, s, r1, r2, o1, o2, k _ Hf H (.refl s) (.bl _)⟩
mutual
theorem eqv_refl : ∀ d : Dt, plain d = true → PyData.eqv (pd d) (pd d) = true
  | .non, _ => by simp [pd, PyData.eqv]
  | .bl b, _ => by simp [pd, PyData.eqv]
  | .int i, _ => by simp [pd, PyData.eqv]
  | .str x, _ => by simp [pd, PyData.eqv]
  | .tup ds, h => by rw [plain] at h; rw [pd, PyData.eqv]; exact eqvs_refl ds h
  | .lst ds, h => by rw [plain] at h; rw [pd, PyData.eqv]; exact eqvs_refl ds h
  | .dic _, h => by rw [plain] at h; cases h
  | .scr _, h => by rw [plain] at h; cases h
  | .obj _ _, h => by rw [plain] at h; cases h
  | .ty _, h => by rw [plain] at h; cases h
  | .cls _, h => by rw [plain] at h; cases h
  | .xo _, h => by rw [plain] at h; cases h
  | .dicF _, h => by rw [plain] at h; cases h
  | .xof _ _, h => by rw [plain] at h; cases h
theorem eqvs_refl : ∀ ds : List Dt, plains ds = true → PyData.eqvAll (pds ds) (pds ds) = true
  | [], _ => by simp [pds, PyData.eqvAll]
  | d :: r, h => by
    rw [plains, Bool.and_eq_true] at h
    rw [pds, PyData.eqvAll, eqv_refl d h.1, eqvs_refl r h.2]; rfl
end
theorem eb_ne (hr : X.A.units + 64 < cLine) (ha : EE X G dl a d1) (hb : EE X G dl b d2) (o1 : okD d1) (o2 : okD d2) (hu : (!PyData.eqv (pd d1) (pd d2)) = u) : EB X G dl (.Compare a [.NotEq] [b] pos) u := by
  subst hu; exact eb_cmp (op_neD hr) (r2_eqD (g := (!·)) o1 o2) (nomark _) ha hb
/-! .. of ints, of texts -/
theorem eb_lt (ha : EE X G dl a (.int i)) (hb : EE X G dl b (.int j)) : EB X G dl (.Compare a [.Lt] [b] pos) (decide (i < j)) := eb_cmp op_lt (r2_I0 (g' := fun i j => .bl (decide (i < j))) fun _ _ _ _ => .bl _) (nomark _) ha hb
theorem r2_eqS {K : PySem.W.Frag} {w1 w2 : V} {g : Bool → Bool} (h1 : ∀ H w, Rep K H w d1 → w = w1) (h2 : ∀ H w, Rep K H w d2 → w = w2) (hs : scal w1 w2 = true) : R2D K (fun x y H Q => scal x y = true ∧ Q (.bl (g (decide (x = y)))) H) d1 d2 (.bl (g (decide (w1 = w2)))) := fun v w Hf H Q s r1 r2 k => by
  cases h1 _ _ r1; cases h2 _ _ r2; exact ⟨hs, k _ Hf H (.refl s) (.bl _)⟩
theorem dec_int (i j : Int) : decide (V.int i = V.int j) = decide (i = j) := by simp
theorem dec_str (i j : Str) : decide (V.str i = V.str j) = decide (i = j) := by simp
theorem ee_eqI (ha : EE X G dl a (.int i)) (hb : EE X G dl b (.int j)) : EE X G dl (.Compare a [.Eq] [b] pos) (.bl (decide (i = j))) := by
  rw [← dec_int]; exact ee_cmp op_eq (r2_eqS (g := id) (fun _ _ r => by cases r; rfl) (fun _ _ r => by cases r; rfl) rfl) (nomark _) ha hb
theorem ee_eqS (ha : EE X G dl a (.str x)) (hb : EE X G dl b (.str y)) : EE X G dl (.Compare a [.Eq] [b] pos) (.bl (decide (x = y))) := by
  rw [← dec_str]; exact ee_cmp op_eq (r2_eqS (g := id) (fun _ _ r => by cases r; rfl) (fun _ _ r => by cases r; rfl) rfl) (nomark _) ha hb
end
end Sg

namespace Sg
open PySem PySem.Spec PyProof.Rows L2
/-- a def of the module -/
structure GF (P : Program) (w : World) (K : PySem.W.Frag) (mg : Str → Option Value) (base : Heap) (CX : CXT) (k : Nat) (x : Str) (n : Nat) (R : List Dt → Res → Prop) : Prop where
  ex : ∃ f fd ps, FnOk P w K mg base CX k f fd ps (spR K n R) ∧ mg x = some (.ref f) ∧ PySem.W.keepIn K (.ref f) = true ∧ Binds K fd ps []
/-- a method of the class at C -/
structure MF (P : Program) (w : World) (K : PySem.W.Frag) (mg : Str → Option Value) (base : Heap) (CX : CXT) (k : Nat) (C : Addr) (m : Str) (n : Nat) (R : List Dt → Res → Prop) : Prop where
  cl : Cls K C
  ex : ∃ f fd ps, FnOk P w K mg base CX k f fd ps (spR K n R) ∧ Meth K C m f ∧ Binds K fd ps []
section
variable {X : Cx} {G : Gr} {E : XK} {dl : List Slot} {e : Expr} {es : List Expr} {d : Dt} {ds : List Dt} {pos p apos : Pos} {x m : Str} {C : Addr} {fs : List (Str × Dt)} {CX : CXT} {k k' n : Nat} {R : List Dt → Res → Prop} {ob : Expr}
theorem ee_gf (F : GF X.prog X.w X.K X.mg X.base CX k x n R) (nx : NoX CX) (hr : Room k' X.A) (ha : EA X G dl (e :: es) ds) (h : R ds (.ret d)) (hkk : k ≤ k' := by decide) (hl : ds.length = n := by rfl) (hg : Gl X x := by rfl) (hdb : (x == ("__debug__" : Str)) = false := by decide)
    (he : starEach (e :: es) X.env = (false, eval e X.env) :: starEach es X.env := by rfl) (hpl : (backTo pos (starEach es X.env)).any (·.1) = false := by rfl) : EE X G dl (.Call (.Name x p) (e :: es) [] pos) d := by
  obtain ⟨f, fd, ps, F, hm, hk, hb⟩ := F.ex
  refine ee_call (dvs := []) (vds := []) F nx (hr.mono hkk) hm hk hb .nil (fun _ => .nil) ha (by rw [List.append_nil]; exact hl) (by rw [List.append_nil]; exact h) hg hdb he hpl
end
end Sg

/-! what the records of a flying exception never change: the dict of an object -/
namespace Sg
open PySem PySem.Spec PyProof.Rows L2
/-- each object keeps its dict -/
def KD (h h' : Heap) : Prop := ∀ (b : Addr) o, h.objs[b]? = some o → ∃ o', h'.objs[b]? = some o' ∧ o'.dict = o.dict
def Calm {α : Type} : Sem α → Prop
  | .pure _ => True
  | .raise _ => True
  | .unsupported _ => True
  | .finish _ => True
  | .rule _ k => Calm (k ())
  | .at _ k => Calm (k ())
  | .load _ _ k => ∀ o, Calm (k o)
  | .update _ _ f k => (∀ o, (f o).dict = o.dict) ∧ Calm (k ())
  | .alloc _ k => ∀ n, Calm (k n)
  | .loadIfAlive _ k => ∀ o, Calm (k o)
  | .point _ k => Calm (k ())
  | .fresh k => ∀ n, Calm (k n)
  | .stack k => ∀ l, Calm (k l)
  | .ask k => ∀ l, Calm (k l)
  | .handled _ k => ∀ l, Calm (k l)
  | _ => False
end Sg

namespace Sg
open PySem PySem.Spec PyProof.Rows L2

/-- the dict of the object at e -/
def DictIs (h : Heap) (e : Addr) (od : Option Addr) : Prop := ∃ o, h.get? e = some o ∧ o.dict = od
/-- how an exception lies behind a call: B is what stays of the heap whatever the frames and the record of the exception become -/
def CX1 (P : Program) (w : World) : CXT := fun outer H s E e s' => ∃ (ea : Addr) (C : Value) (od : Option Addr) (H' : Hp) (B : Heap) (t : Addr),
  e = .ref ea ∧ s'.os = s.os ∧ AllBare s'.gens ∧ Un (frs outer) [] H H' s.heap s'.heap ∧ HOk P w H' s'.heap ∧ Heap.FlyingW B outer ea C (.ref t) s'.heap ∧
  (∀ b o, s.heap.get? b = some o → H b = none → b ∉ frs outer → B.get? b = some o) ∧ (∀ b o, s.heap.get? b = some o → b ∉ frs outer → ∃ o', B.get? b = some o') ∧
  (∀ a o, H' a = some o → ∃ ob, B.get? a = some ob) ∧ s.heap.get? ea = none ∧ H' ea = none ∧ DictIs s'.heap ea od ∧ E C od H'
theorem objok_some {P : Program} {w : World} {H : Hp} {h : Heap} {a : Addr} : ∀ {o : HO}, ObjOk P w H h a o → ∃ u, h.get? a = some u
  | .lst _, ⟨_, _, _, _, e⟩ => ⟨_, e⟩
  | .tup _, ⟨_, _, _, _, e, _⟩ => ⟨_, e⟩
  | .dK _, ⟨_, _, _, _, _, _, _, e, _⟩ => ⟨_, e⟩
  | .dT _, ⟨_, _, _, _, _, _, _, e, _⟩ => ⟨_, e⟩
  | .set _ _, x => by obtain ⟨_, _, _, _, e, _⟩ := x; exact ⟨_, e⟩
  | .ins _ _ _, ⟨_, _, _, e, _⟩ => ⟨_, e⟩
  | .own _, ⟨_, e⟩ => ⟨_, e⟩
  | .xd _, ⟨_, x, _⟩ => by obtain ⟨_, _, _, e, _⟩ := x; exact ⟨_, e⟩
  | .met _ _, e => ⟨_, e⟩
  | .rng _ _, ⟨_, _, _, e⟩ => ⟨_, e⟩
  | .frz _ _, ⟨e, _⟩ => ⟨_, e⟩
  | .tbl _, e => ⟨_, e⟩
  | .ext _, ⟨_, e, _⟩ => e
section
variable {P : Program} {w : World} {K : PySem.W.Frag} {mg : Str → Option Value} {base : Heap} {N : List Str} {qual : Str} {scope : Scope} {f : Addr} {cd : Value} {A : Around} {outer : List Env} {s0 : Shared} {H0 : Hp} {E : XK} {CX : CXT}
end

/-! ### the classes of exceptions -/
theorem exc_obj {K : PySem.W.Frag} {h : Heap} {C : Addr} {bmB : List Value} {newId : String} (X : K.In h) (hq : PySem.W.excIn K C bmB newId = true) :
    ∃ z1 z2 z3 z4 z5 z6 z7 z8 z9 y1 y2 y3 y4 y5 y6 y7 mN, h.get? C = some (excClassObj z3 z4 C z2 z5 z1 z6 z7 z8 z9 y1 y2 y3 y4 y5 y6 y7 newId) ∧ h.Ns z2 mN ∧ mN "__init__" = none ∧ OwnTail h bmB z1 := by
  unfold PySem.W.excIn at hq
  split at hq
  · rename_i odd ccd slots hlook
    split at hq
    · rename_i C2 tl a0 a1 a2 a3 nn a5 hmro hsl
      rw [Bool.and_eq_true, Bool.and_eq_true, Bool.and_eq_true, Bool.and_eq_true, Bool.and_eq_true] at hq
      obtain ⟨⟨⟨⟨⟨q1, q2⟩, q3⟩, q4⟩, q5⟩, q6⟩ := hq
      have q1 := beq_iff_eq.mp q1
      have q2 := beq_iff_eq.mp q2
      have q3 : ccd.hasDel = false := by simpa using q3
      have q6 := beq_iff_eq.mp q6
      subst q1 q2
      have es : slots = #[a0, a1, a2, a3, some (.builtin nn), a5] := by
        have : slots.toList = [a0, a1, a2, a3, some (.builtin nn), a5] := hsl
        rw [← Array.toArray_toList (xs := slots), this]
      obtain ⟨c1, c2, c3, c4, c5, c6, c7, c8, c9, c10, c11⟩ := ccd
      cases q3
      have hmro : c3 = .ref C2 :: tl := hmro
      subst hmro
      subst es
      exact ⟨tl, c4, c1, c5, c2, c6, c7, c8, c9, c10, odd, a0, a1, a2, a3, a5, _, X _ _ hlook, .of_isNs (PySem.W.isNs_of_in X q5), PySem.W.nsMap_none_of_in X q5 q6, PySem.W.tail_of_in X q4⟩
    · cases hq
  · cases hq
def bmV : List Value := [.type "ValueError", .type "Exception", .type "BaseException", .type "object"]
/-- an exception class of one's own over ValueError, without an __init__ -/
structure ExC (K : PySem.W.Frag) (C : Addr) : Prop where
  ex : PySem.W.excIn K C bmV "ValueError.__new__" = true
section
variable {X : Cx} {G : Gr} {E : XK} {dl : List Slot} {e : Expr} {es : List Expr} {d : Dt} {ds : List Dt} {np cpos pos : Pos} {x : Str} {C : Addr}
/-- what a raise in the body wants of the context -/
def RaiseD (X : Cx) (E : XK) : Prop := ∀ (pins : List (Addr × Obj)) (st : L2.St) (H : Hp) (s : Shared) (h' : Heap) (ea : Addr) (C : Value) (args : List Value), L2.Inv X pins st H s → Heap.MadeExcOf s.heap h' ea C args → E C none H → X.xe (.ref ea) { s with heap := h' }
end
end Sg

/-! list comprehensions of one clause: the block's context over the def's -/
namespace Sg
open PySem PySem.Spec PyProof.Rows L2

def nvr : Value → Shared → Prop := fun _ _ => False
/-! ### the cells that the block takes -/
def clGo (cells : List (Str × Addr)) : List (Str × NameKind) → List (Str × Addr) → List (Str × Addr)
  | [], cs => cs
  | (n, k) :: r, cs => if k == .free then clGo cells r ((n, (cells.lookup n).getD 0) :: cs) else clGo cells r cs
def clOf (sc : Scope) (env : Env) : List (Str × Addr) := clGo env.cells sc.names []
theorem clGo_eq {env : Env} : ∀ (l : List (Str × NameKind)) (cs : List (Str × Addr)), (∀ y ∈ l, y.2 = .free → ∃ c, env.cells.lookup y.1 = some c) →
    (forIn l cs fun (x : Str × NameKind) r => (if x.2 == .free then (do let c ← cellOf env x.1; pure (ForInStep.yield ((x.1, c) :: r))) else pure (ForInStep.yield r) : Sem _)) = pure (clGo env.cells l cs)
  | [], cs, _ => rfl
  | (n, k) :: l, cs, h => by
    have hr : ∀ y ∈ l, y.2 = .free → ∃ c, env.cells.lookup y.1 = some c := fun y hy => h y (List.mem_cons_of_mem _ hy)
    rw [List.forIn_cons, clGo]
    by_cases hk : (k == NameKind.free) = true
    · obtain ⟨c, hc⟩ := h (n, k) List.mem_cons_self (by simpa using hk)
      have hc : env.cells.lookup n = some c := hc
      simp only [hk, if_true, cellOf, hc, pure_bind, Option.getD_some]
      exact clGo_eq l _ hr
    · simp only [hk, if_false, pure_bind]
      exact clGo_eq l _ hr
theorem clos_eq {sc : Scope} {env : Env} (h : ∀ y ∈ sc.names, y.2 = .free → ∃ c, env.cells.lookup y.1 = some c) : closureFor sc env = pure (clOf sc env) := by
  unfold closureFor clOf
  have := clGo_eq (env := env) sc.names [] h
  simp only [bind_pure]
  refine Eq.trans ?_ this
  congr 1
theorem clGo_in {cells : List (Str × Addr)} {y : Str} {c : Addr} : ∀ (l : List (Str × NameKind)) (cs : List (Str × Addr)), (clGo cells l cs).lookup y = some c → ((y, NameKind.free) ∈ l ∧ (cells.lookup y).getD 0 = c) ∨ cs.lookup y = some c
  | [], cs, h => .inr h
  | (n, k) :: l, cs, h => by
    rw [clGo] at h
    by_cases hk : (k == NameKind.free) = true
    · rw [if_pos hk] at h
      have hk' : k = .free := by simpa using hk
      subst hk'
      rcases clGo_in l _ h with ⟨h1, h2⟩ | h1
      · exact .inl ⟨List.mem_cons_of_mem _ h1, h2⟩
      · rw [List.lookup_cons] at h1
        cases q : (y == n) with
        | true =>
          rw [q] at h1
          have e : y = n := by simpa using q
          subst e
          exact .inl ⟨List.mem_cons_self, Option.some.inj h1⟩
        | false => rw [q] at h1; exact .inr h1
    · rw [if_neg hk] at h
      rcases clGo_in l _ h with ⟨h1, h2⟩ | h1
      · exact .inl ⟨List.mem_cons_of_mem _ h1, h2⟩
      · exact .inr h1
theorem clGo_has {cells : List (Str × Addr)} {y : Str} : ∀ (l : List (Str × NameKind)) (cs : List (Str × Addr)), ((y, NameKind.free) ∈ l ∨ ∃ c, cs.lookup y = some c) → ∃ c, (clGo cells l cs).lookup y = some c
  | [], cs, h => by
    rcases h with h | h
    · cases h
    · exact h
  | (n, k) :: l, cs, h => by
    rw [clGo]
    by_cases hk : (k == NameKind.free) = true
    · rw [if_pos hk]
      refine clGo_has l _ ?_
      rcases h with h | ⟨c, h⟩
      · rcases List.mem_cons.mp h with h | h
        · cases h; exact .inr ⟨_, by rw [List.lookup_cons, show (y == y) = true by simp]⟩
        · exact .inl h
      · refine .inr ?_
        rw [List.lookup_cons]
        cases q : (y == n) with
        | true => exact ⟨_, rfl⟩
        | false => exact ⟨c, h⟩
    · rw [if_neg hk]
      refine clGo_has l _ ?_
      rcases h with h | h
      · rcases List.mem_cons.mp h with h | h
        · cases h; exact absurd rfl hk
        · exact .inl h
      · exact .inr h
theorem relab_kind {env : Env} {y : Str} {k : NameKind} : ∀ {names : List (Str × NameKind)}, (names.map fun (n, k) => if (k == NameKind.free && env.scope.kind == .function && env.kindOf n == some .cell) then (n, NameKind.cell) else (n, k)).lookup y = some k → ∃ k', (y, k') ∈ names ∧ (k = k' ∨ k' = .free)
  | [], h => by simp at h
  | (n, kk) :: r, h => by
    rw [List.map_cons, List.lookup_cons] at h
    by_cases hc : (kk == NameKind.free && env.scope.kind == .function && env.kindOf n == some .cell) = true
    · simp only [hc, if_true] at h
      cases q : (y == n) with
      | true =>
        have e : y = n := by simpa using q
        subst e
        have : kk = .free := by
          have := hc; simp at this; exact this.1.1
        exact ⟨kk, List.mem_cons_self, .inr this⟩
      | false =>
        rw [q] at h
        obtain ⟨k', h1, h2⟩ := relab_kind h
        exact ⟨k', List.mem_cons_of_mem _ h1, h2⟩
    · simp only [hc, Bool.false_eq_true, if_false] at h
      cases q : (y == n) with
      | true =>
        have e : y = n := by simpa using q
        subst e
        rw [q] at h
        exact ⟨kk, List.mem_cons_self, .inl (Option.some.inj h).symm⟩
      | false =>
        rw [q] at h
        obtain ⟨k', h1, h2⟩ := relab_kind h
        exact ⟨k', List.mem_cons_of_mem _ h1, h2⟩

theorem relab_free {env : Env} {y : Str} : ∀ {names : List (Str × NameKind)}, names.lookup y = some .free → (names.map fun (n, k) => if (k == NameKind.free && env.scope.kind == .function && env.kindOf n == some .cell) then (n, NameKind.cell) else (n, k)).lookup y = some .cell ∨
    (names.map fun (n, k) => if (k == NameKind.free && env.scope.kind == .function && env.kindOf n == some .cell) then (n, NameKind.cell) else (n, k)).lookup y = some .free
  | [], h => by simp at h
  | (n, kk) :: r, h => by
    rw [List.map_cons, List.lookup_cons]
    rw [List.lookup_cons] at h
    cases q : (y == n) with
    | true =>
      rw [q] at h
      have : kk = .free := Option.some.inj h
      subst this
      by_cases hc : (NameKind.free == NameKind.free && env.scope.kind == .function && env.kindOf n == some .cell) = true
      · left; simp only [hc, if_true]; simp [q]
      · right; simp only [hc, Bool.false_eq_true, if_false]; simp [q]
    | false =>
      rw [q] at h
      have ih := relab_free (env := env) h
      by_cases hc : (kk == NameKind.free && env.scope.kind == .function && env.kindOf n == some .cell) = true
      · simp only [hc, if_true, q]; exact ih
      · simp only [hc, Bool.false_eq_true, if_false, q]; exact ih

/-! ### the block's context -/
/-- what a block's scope must be over the def's -/
structure BlkScope (X : Cx) (N : List Str) (ix : List Nat) (x : Str) (sc : Scope) : Prop where
  nd : N.Nodup
  nm : N = x :: ix.map (fun j => X.N.getD j "")
  kind : sc.kind = .function
  nocell : ∀ y ∈ sc.names, y.2 ≠ .cell
  names : ∀ y ∈ sc.names, y.2 = .local → sc.names.lookup y.1 = some .local
  hx : sc.names.lookup x = some .local
  fr : ∀ y ∈ sc.names, y.2 = .free → X.env.kindOf y.1 = some .cell ∨ X.env.kindOf y.1 = some .free
  ixs : ∀ j ∈ ix, ∃ y, X.N[j]? = some y ∧ sc.names.lookup y = some .free
def blkOf (X : Cx) (N : List Str) (sc : Scope) (C : Addr) (fp : List Addr) (s : Shared) (H : Hp) : Cx :=
  { X with N := N, s₀ := s, H₀ := H, env := compEnvC sc (clOf sc X.env) C X.env, outer := X.stack, stack := X.stack, ex := fp, fn := fun _ => false, pn := [], xe := nvr }
def frees (ix : List Nat) (st : L2.St) : L2.St := ix.map fun j => (st[j]?).join
section
variable {X : Cx} {N : List Str} {ix : List Nat} {x : Str} {sc : Scope} {pins : List (Addr × Obj)} {st : L2.St} {H H' : Hp} {s s' : Shared} {C D : Addr} {fp : List Addr} {h1 : Heap}
/-- the block's turns: W by the turn, a measure, what is gathered and the heap -/
def tBlk (te : TE) (fs : L2.St) (J : It) (D : Addr) (Q : List V → Hp → Prop) (H : Hp) : Prop :=
  ∃ W : Nat → Nat → List V → Hp → Prop, (∃ m, W 0 m [] (upd H D (.lst []))) ∧ ∀ i m ys H1, W i m ys H1 →
    (J.stop i H1 ∧ Q ys H1) ∨ (J.go i H1 ∧ ys.length < sizeLine ∧ ∀ v H2, J.yld i H1 v H2 → te (some v :: fs) H2 fun y H3 => H3 D = some (.lst ys) ∧ ∃ m', m' < m ∧ W (i + 1) m' (ys ++ [y]) (upd H3 D (.lst (ys ++ [y]))))
end
end Sg

/-! new things that are still owned: lists that are changed later; list comprehensions over data -/
namespace Sg
open PySem PySem.Spec PyProof.Rows L2
def tDO (K : PySem.W.Frag) (G : Gr) (dl : List Slot) (o : Own) : TE := fun st H Q => ∃ Hf, Stt K G st Hf H dl ∧ ∀ p Hf' H', Grow Hf H Hf' H' → H p = none → Hf' p = none → OwnAt K Hf' H' p o → Q (.ref p) H'
abbrev EO (X : Cx) (G : Gr) (dl : List Slot) (e : Expr) (o : Own) : Prop := PE X e (tDO X.K G dl o)
def dtO : Own → Dt
  | .lst ds => .lst ds
  | .dic k => .dic k
  | .obj C fs => .obj C fs
  | .slf _ C fs => .obj C fs
section
variable {K : PySem.W.Frag} {G : Gr} {st : L2.St} {Hf H Hf' H' : Hp} {dl : List Slot} {p : Addr} {w : Own} {u : HO}
theorem frz_grow (g : Grow Hf H Hf' H') (n : H p = none) (n' : Hf' p = none) (e : H' p = some u) : Grow Hf H (upd Hf' p u) H' :=
  ⟨g.big, g.frz.trans (same_upd n'), fun b o h => by
    by_cases hb : b = p
    · subst hb; rw [upd_same] at h; cases h; exact e
    · rw [upd_ne hb] at h; exact g.sub _ _ h, fun a o h => by
    by_cases hb : a = p
    · subst hb; exact .inr n
    · rw [upd_ne hb] at h; exact g.new a o h⟩
theorem own_rep (r : OwnAt K Hf H p w) (n : Hf p = none) : ∃ u, H p = some u ∧ Rep K (upd Hf p u) (.ref p) (dtO w) := by
  cases w with
  | lst ds => obtain ⟨vs, h, r⟩ := r; exact ⟨_, h, .lst upd_same (r.mono (same_upd n))⟩
  | dic ds => obtain ⟨vs, h, r⟩ := r; exact ⟨_, h, .dic upd_same (r.mono (same_upd n))⟩
  | obj C ds => obtain ⟨dx, fs, h, r⟩ := r; exact ⟨_, h, .obj upd_same (r.mono (same_upd n))⟩
  | slf x C ds => obtain ⟨_, dx, fs, h, r⟩ := r; exact ⟨_, h, .obj upd_same (r.mono (same_upd n))⟩
theorem Stt.setN (S : Stt K G st Hf H dl) (g : Grow Hf H Hf' H') {i : Nat} (n : H p = none) (n' : Hf' p = none) (r : OwnAt K Hf' H' p w) : Stt K G (st.set i (some (.ref p))) Hf' H' (dl.set i (.own w)) := by
  have ln := S.len
  have S' := S.grow g
  have pn : ∀ (j : Nat) (o' : Own) (a : Addr), dl[j]? = some (Slot.own o') → st[j]? = some (some (V.ref a)) → a ≠ p := fun j o' a h1 h2 => by
    obtain ⟨b, q1, _, _, q4⟩ := S.own j o' h1
    rw [h2] at q1; cases q1
    obtain ⟨u, hu⟩ := q4.some
    exact ne_of_none hu n
  refine ⟨S'.gr, by simp [S.len], fun j x h => ?_, fun j o' h => ?_, fun j k o1 o2 a h1 h2 h3 h4 => ?_⟩
  · by_cases e : i = j
    · subst e
      by_cases hl : i < dl.length
      · rw [List.getElem?_set_self hl] at h; cases h
      · rw [List.getElem?_eq_none (by simp; omega)] at h; cases h
    · rw [List.getElem?_set_ne e] at h ⊢; exact S'.val j x h
  · by_cases e : i = j
    · subst e
      by_cases hl : i < dl.length
      · rw [List.getElem?_set_self hl] at h; cases h
        exact ⟨p, List.getElem?_set_self (by omega), n', S.gr.big.free n, r⟩
      · rw [List.getElem?_eq_none (by simp; omega)] at h; cases h
    · rw [List.getElem?_set_ne e] at h ⊢
      exact S'.own j o' h
  · by_cases ej : i = j
    · by_cases ek : i = k
      · omega
      · subst ej
        rw [List.getElem?_set_ne ek] at h2 h4
        by_cases hl : i < st.length
        · rw [List.getElem?_set_self hl] at h3; cases h3
          exact absurd rfl (pn k o2 _ h2 h4)
        · rw [List.getElem?_eq_none (by simp; omega)] at h3; cases h3
    · rw [List.getElem?_set_ne ej] at h1 h3
      by_cases ek : i = k
      · subst ek
        by_cases hl : i < st.length
        · rw [List.getElem?_set_self hl] at h4; cases h4
          exact absurd rfl (pn j o1 _ h1 h3)
        · rw [List.getElem?_eq_none (by simp; omega)] at h4; cases h4
      · rw [List.getElem?_set_ne ek] at h2 h4
        exact S.dis j k o1 o2 a h1 h2 h3 h4
theorem Stt.frz (S : Stt K G st Hf H dl) {i : Nat} (hd : dl[i]? = some (.own w)) : ∃ Hf', Same Hf Hf' ∧ Stt K G st Hf' H (dl.set i (.val (dtO w))) := by
  have ln := S.len
  obtain ⟨p, h1, h2, h3, h4⟩ := S.own i w hd
  obtain ⟨u, hu, rp⟩ := own_rep h4 h2
  have hl : i < dl.length := (List.getElem?_eq_some_iff.mp hd).1
  have sm : Same Hf (upd Hf p u) := same_upd h2
  refine ⟨upd Hf p u, sm, ⟨S.gr.big, S.gr.frz.trans sm, fun b o h => ?_, fun a o h => ?_⟩, by simp [S.len], fun j x h => ?_, fun j o' h => ?_, fun j k o1 o2 a q1 q2 q3 q4 => ?_⟩
  · by_cases hb : b = p
    · subst hb; rw [upd_same] at h; cases h; exact hu
    · rw [upd_ne hb] at h; exact S.gr.sub _ _ h
  · by_cases hb : a = p
    · subst hb; exact .inr h3
    · rw [upd_ne hb] at h; exact S.gr.new a o h
  · by_cases e : i = j
    · subst e
      rw [List.getElem?_set_self hl] at h; cases h
      exact ⟨_, h1, rp⟩
    · rw [List.getElem?_set_ne e] at h
      obtain ⟨v, z1, z2⟩ := S.val j x h
      exact ⟨v, z1, z2.mono sm⟩
  · by_cases e : i = j
    · subst e; rw [List.getElem?_set_self hl] at h; cases h
    · rw [List.getElem?_set_ne e] at h
      obtain ⟨a, z1, z2, z3, z4⟩ := S.own j o' h
      have ne : a ≠ p := fun q => by subst q; exact e (S.dis i j _ _ _ hd h h1 z1)
      exact ⟨a, z1, by rw [upd_ne ne]; exact z2, z3, z4.grow rfl sm⟩
  · have tr : ∀ (j : Nat) o', (dl.set i (.val (dtO w)))[j]? = some (.own o') → dl[j]? = some (.own o') := fun j o' h => by
      by_cases e : i = j
      · subst e; rw [List.getElem?_set_self hl] at h; cases h
      · rw [List.getElem?_set_ne e] at h; exact h
    exact S.dis j k _ _ a (tr _ _ q1) (tr _ _ q2) q3 q4
end
section
variable {X : Cx} {G : Gr} {E : XK} {dl dl1 dl2 : List Slot} {a b c e : Expr} {es : List Expr} {i j : Int} {d d1 d2 : Dt} {ds : List Dt} {pos p p' : Pos} {o o' : Out} {x y f : Str} {u v : Bool} {sts sts' : List Stmt} {s : Stmt} {C : Addr} {w : Own} {fs : List (Str × Dt)}
theorem ee_o (h : EO X G dl e w) : EE X G dl e (dtO w) := peI h fun st H Q ⟨Hf, S, k⟩ => ⟨Hf, S, fun p Hf' H' g n n' r => by
  obtain ⟨u, hu, rp⟩ := own_rep r n'
  exact k _ _ H' (frz_grow g n n' hu) rp⟩
theorem ee_ol (h : EO X G dl e (.lst ds)) : EE X G dl e (.lst ds) := ee_o h
theorem eo_to {w' : Own} (h : EO X G dl e w) (q : w = w') : EO X G dl e w' := by subst q; exact h
/-! ### statements of owned things -/
theorem es_setO (n : Nat) {x : Str} {pos' : Pos} (hN : X.N.Nodup) (he : EO X G dl e w) (hi : X.N[n]? = some x := by rfl) (hx : Loc X.env.scope x := by first | exact Or.inl rfl | exact Or.inr rfl)
    (hs : swapsWith e (some (.Name x pos')) pos.line X.env = pure false := by rfl) (hf : X.fn x = true ∨ X.env.scope.names.lookup x = some .local := by first | exact .inl rfl | exact .inr rfl | assumption) :
    ES X G E dl (.Assign [.Name x pos'] e pos) (.nx (dl.set n (.own w))) :=
  psI (ps_set hN hi hx he hs hf) fun D st H ⟨Hf, S, k⟩ => ⟨Hf, S, fun p Hf1 H1 g1 n1 n2 r1 => k _ Hf1 H1 g1.frz (S.setN g1 n1 n2 r1)⟩
theorem es_retO (h : EO X G dl e w) : ES X G E dl (.Return (some e) pos) (.ro w) := psI (ps_ret h) fun D st H ⟨Hf, S, k⟩ => ⟨Hf, S, fun p Hf1 H1 g1 n1 n2 r1 => k p Hf1 H1 (S.gr.trans g1) (S.gr.big.free n1) n2 r1⟩
theorem es_frz (i : Nat) (h : ESs X G E (dl.set i (.val (dtO w))) sts o) (hd : dl[i]? = some (.own w) := by rfl) : ESs X G E dl sts o := pssI h fun D st H ⟨Hf, S, k⟩ => by
  obtain ⟨Hf', sm, S'⟩ := S.frz hd
  exact ⟨Hf', S', k.mono sm⟩
/-- the name of an owned list, an item of it -/
def tOv (K : PySem.W.Frag) (G : Gr) (dl : List Slot) (n : Nat) (w : Own) : TE := fun st H Q => ∃ Hf a, Stt K G st Hf H dl ∧ st[n]? = some (some (.ref a)) ∧ Hf a = none ∧ OwnAt K Hf H a w ∧ Q (.ref a) H
theorem pe_ov (n : Nat) (hd : dl[n]? = some (.own w)) (hN : X.N[n]? = some x) (hv : Vis X.env.scope x) (hb : (x == ("__debug__" : Str)) = false) (hcd : (x == ("__classdict__" : Str)) = false) : PE X (.Name x p) (tOv X.K G dl n w) :=
  peI (pe_var hN hv hb hcd) fun st H Q ⟨Hf, a, S, h1, _, _, q⟩ => ⟨_, h1, q⟩
end
end Sg

/-! lists made and changed; comprehensions over data -/
namespace Sg
open PySem PySem.Spec PyProof.Rows L2
section
variable {X : Cx} {G : Gr} {E : XK} {dl dl1 dl2 : List Slot} {a b c e : Expr} {es : List Expr} {i j : Int} {d d1 d2 : Dt} {ds ds' : List Dt} {pos p p' apos cpos : Pos} {o o' : Out} {x y f : Str} {u v : Bool} {sts sts' : List Stmt} {s : Stmt} {C : Addr} {w : Own}
theorem eo_lst (h : EA X G dl es ds) (hl : ds.length ≤ sizeLine := by decide) : EO X G dl (.List es pos) (.lst ds) :=
  peI (pe_lst h) fun st H Q ⟨Hf, S, k⟩ => ⟨Hf, S, fun vs Hf1 H1 g1 r1 => ⟨by rw [r1.length]; exact hl, fun p hp => k p Hf1 _ (g1.trans (.allocO g1.sub hp)) (g1.big.free hp) (g1.sub.free hp) ⟨vs, upd_same, r1⟩⟩⟩
/-- a two-place operation whose outcome is a new list -/
theorem eo_op {op : Operator} {r : R2} (ho : OpR X (binaryOp op) r) (ha : EE X G dl a d1) (hb : EE X G dl b d2)
    (h : ∀ v z Hf H Q, Same Hf H → Rep X.K Hf v d1 → Rep X.K Hf z d2 → (∀ p vs, H p = none → Reps X.K Hf vs ds → Q (.ref p) (upd H p (.lst vs))) → r v z H Q) : EO X G dl (.BinOp a op b pos) (.lst ds) :=
  peI (pe_op ho ha hb) fun st H Q ⟨Hf, S, k⟩ => ⟨Hf, S, fun v Hf1 H1 g1 r1 => ⟨Hf1, S.grow g1, fun z Hf2 H2 g2 r2 => h v z Hf2 H2 Q g2.sub (r1.mono g2.frz) r2 fun p vs hp rv =>
    k p Hf2 _ ((g1.trans g2).trans (.allocO g2.sub hp)) ((g1.trans g2).big.free hp) (g2.sub.free hp) ⟨vs, upd_same, rv⟩⟩⟩
theorem eo_cat (ha : EE X G dl a (.lst ds)) (hb : EE X G dl b (.lst ds')) (hl : ds.length + ds'.length ≤ sizeLine) : EO X G dl (.BinOp a .Add b pos) (.lst (ds ++ ds')) :=
  eo_op op_cat ha hb fun v z Hf H Q s r1 r2 k => by
    cases r1 with
    | lst h1 q1 => cases r2 with
      | lst h2 q2 => exact ⟨_, _, _, _, rfl, rfl, s _ _ h1, s _ _ h2, by rw [q1.length, q2.length]; exact hl, fun p hp => k p _ hp (q1.append q2)⟩
/-! ### max, min of two ints -/
/-! ### is -/
/-! ### methods of lists -/
end
/-! ### comprehensions -/
def valSl : Option Slot → Slot
  | some (.val d) => .val d
  | _ => .unk
theorem valSl_own {o : Option Slot} {w : Own} (h : valSl o = .own w) : False := by
  unfold valSl at h
  split at h <;> cases h
theorem valSl_val {o : Option Slot} {d : Dt} (h : valSl o = .val d) : o = some (.val d) := by
  unfold valSl at h
  split at h
  · cases h; rfl
  · cases h
def blkSl (dl : List Slot) (ix : List Nat) : List Slot := ix.map fun j => valSl dl[j]?
section
variable {K : PySem.W.Frag} {G G' : Gr} {st : L2.St} {Hf H Hf1 H1 : Hp} {dl : List Slot} {ix : List Nat}
end
section
variable {X : Cx} {G : Gr} {E : XK} {dl : List Slot} {a b c elt iter : Expr} {i j : Int} {d : Dt} {ys : List Dt} {zs : Nat → Dt} {pos p px py pc spos : Pos} {o : Out} {x y : Str} {N : List Str} {ix : List Nat} {sc : Scope} {n : Nat}
/-- what the elements are worth -/
def EltOk (X : Cx) (N : List Str) (sc : Scope) (dl : List Slot) (ix : List Nat) (elt : Expr) (n : Nat) (zs : Nat → Dt) (ys : List Dt) : Prop :=
  ∀ k, k < n → ∀ C fp s H G', EE (blkOf X N sc C fp s H) G' (.val (zs k) :: blkSl dl ix) elt (ys.getD k .non)
def tElt (K : PySem.W.Frag) (dl : List Slot) (ix : List Nat) (n : Nat) (zs : Nat → Dt) (ys : List Dt) : TE := fun st H Q => ∃ k G', k < n ∧ tD K G' (.val (zs k) :: blkSl dl ix) (ys.getD k .non) st H Q
def tLc (wi : TI) (ix : List Nat) (te : TE) : TE := fun st H Q => wi st H fun J H1 => ∀ D, H1 D = none → tBlk te (frees ix st) J D (fun _ H' => Q (.ref D) H') H1
/-! .. over a source: a reading of iterators over data -/
def SrcD (X : Cx) (G : Gr) (dl : List Slot) (n : Nat) (zs : Nat → Dt) (wi : TI) : Prop := ∀ st H (R : It → Hp → Prop), (∃ Hf, Stt X.K G st Hf H dl ∧ ∀ J Hf0 H0, Grow Hf H Hf0 H0 →
  (∀ Hf1 H1, Grow Hf0 H0 Hf1 H1 → ∀ i, (i < n → J.go i H1 ∧ ∀ v H2, J.yld i H1 v H2 → H2 = H1 ∧ Rep X.K Hf1 v (zs i)) ∧ (i = n → J.stop i H1)) → R J H0) → wi st H R
end
end Sg

/-! objects made by __init__; defaults; calls that hand over a new thing; while -/
namespace Sg
open PySem PySem.Spec PyProof.Rows L2
/-- a def of the text, with or without defaults -/
structure FunG (K : PySem.W.Frag) (x qual : Str) (st : Stmt) (f : Addr) (fd : FuncData) : Prop where
  ex : ∃ (oc : Value) (od : Option Addr) (dV kV doc pm : Value) (an : Option Addr) (cdv ct : Value) (osl : Array (Option Value)),
    fd = PySem.W.fnOf x qual (defArgs st) (defBody st) (defScope st) dV kV doc pm an cdv ct ∧ K.lookup f = some ⟨oc, od, .func fd, osl⟩ ∧ PySem.W.codeIn K cdv qual = true
theorem funG_mk {K : PySem.W.Frag} {x qual : Str} {st : Stmt} {f : Addr} {oc : Value} {od an : Option Addr} {osl : Array (Option Value)} {dV kV doc pm cdv ct : Value}
    (l : K.lookup f = some ⟨oc, od, .func (PySem.W.fnOf x qual (defArgs st) (defBody st) (defScope st) dV kV doc pm an cdv ct), osl⟩) (c : PySem.W.codeIn K cdv qual = true) :
    FunG K x qual st f (PySem.W.fnOf x qual (defArgs st) (defBody st) (defScope st) dV kV doc pm an cdv ct) := ⟨⟨oc, od, dV, kV, doc, pm, an, cdv, ct, osl, rfl, l, c⟩⟩
section
variable {P : Program} {w : World} {K : PySem.W.Frag} {mg : Str → Option Value} {base : Heap} {CX : CXT} {x qual : Str} {st : Stmt} {f : Addr} {fd : FuncData} {N ps : List Str} {k n : Nat}
/-! ### __init__ -/
def ResI (K : PySem.W.Frag) (C : Addr) (Hf H : Hp) (x : Addr) (Q : VK) (E : XK) : Res → Prop
  | .own w => ∃ fs, w = .obj C fs ∧ ∀ Hf' H', Grow Hf H Hf' H' → Hf' x = none → OwnAt K Hf' H' x (.obj C fs) → Q .non H'
  | .exc c fs => ∀ od Hf' H', Grow Hf H Hf' H' → ExcAt K Hf' od fs → E c od H'
  | .ret _ => False
def spI (K : PySem.W.Frag) (C : Addr) (n : Nat) (R : List Dt → Res → Prop) : Sp := fun vs H Q E => ∃ Hf H1 x dx args ds r, vs = .ref x :: args ∧ H = upd H1 x (.ins C dx []) ∧ H1 x = none ∧ Same Hf H1 ∧ Reps K Hf args ds ∧ ds.length + 1 = n ∧ R ds r ∧ ResI K C Hf H1 x Q E r
inductive ComesI (C x : Addr) : Out → Res → Prop
  | nx {dl : List Slot} {fs : List (Str × Dt)} (h : dl[0]? = some (.own (.slf x C fs))) : ComesI C x (.nx dl) (.own (.obj C fs))
  | ex (c : Value) (fs : List (Str × Dt)) : ComesI C x (.ex c fs) (.exc c fs)
def slotsI (N : List Str) (x C : Addr) (ds : List Dt) : List Slot := .own (.slf x C []) :: (ds.map Slot.val ++ List.replicate (N.length - (ds.length + 1)) .unk)
end
def putD (f : Str) (v : Dt) : List (Str × Dt) → List (Str × Dt)
  | [] => [(f, v)]
  | (g, x) :: r => if g = f then (g, v) :: r else (g, x) :: putD f v r
section
variable {X : Cx} {G : Gr} {E : XK} {dl dl1 : List Slot} {e c : Expr} {es : List Expr} {d : Dt} {ds : List Dt} {pos p apos : Pos} {x m : Str} {C z : Addr} {fs : List (Str × Dt)} {CX : CXT} {k k' n : Nat} {R : List Dt → Res → Prop} {ob : Expr} {wo : Own} {dvs : List Dt} {body : List Stmt}
/-- a class with an __init__ of its own -/
structure MkF (P : Program) (w : World) (K : PySem.W.Frag) (mg : Str → Option Value) (base : Heap) (CX : CXT) (k : Nat) (x : Str) (C : Addr) (n : Nat) (R : List Dt → Res → Prop) : Prop where
  ex : ∃ f fd ps, FnOk P w K mg base CX k f fd ps (spI K C n R) ∧ L2.Mk K C f ∧ mg x = some (.ref C) ∧ Binds K fd ps []
/-! ### calls that hand over a new thing -/
theorem eo_gf (F : GF X.prog X.w X.K X.mg X.base CX k x n R) (nx : NoX CX) (hr : Room k' X.A) (ha : EA X G dl (e :: es) ds) (h : R ds (.own wo)) (hkk : k ≤ k' := by decide) (hl : ds.length = n := by rfl) (hg : Gl X x := by rfl) (hdb : (x == ("__debug__" : Str)) = false := by decide)
    (he : starEach (e :: es) X.env = (false, eval e X.env) :: starEach es X.env := by rfl) (hpl : (backTo pos (starEach es X.env)).any (·.1) = false := by rfl) : EO X G dl (.Call (.Name x p) (e :: es) [] pos) wo := by
  obtain ⟨f, fd, ps, F, hm, hk, hb⟩ := F.ex
  exact peI (pe_call (E := E0) F (hr.mono hkk) hg hm hk hb .nil nx.passes ha hdb he hpl) fun st H Q ⟨Hf, S, k⟩ => ⟨Hf, S, fun vs Hf1 H1 g1 r1 => ⟨Hf1, ds, .own wo, g1.sub, by rw [List.append_nil]; exact r1, hl, h, fun p Hf2 H2 g2 n1 n2 r2 => k p Hf2 H2 (g1.trans g2) (g1.big.free n1) n2 r2⟩⟩
/-- a method, its last arguments by default -/
structure MFd (P : Program) (w : World) (K : PySem.W.Frag) (mg : Str → Option Value) (base : Heap) (CX : CXT) (k : Nat) (C : Addr) (m : Str) (n : Nat) (dvs : List Dt) (R : List Dt → Res → Prop) : Prop where
  cl : Cls K C
  ex : ∃ f fd ps dsv vds, FnOk P w K mg base CX k f fd ps (spR K n R) ∧ Meth K C m f ∧ Binds K fd ps dsv ∧ Vals vds dsv ∧ ∀ H, Reps K H vds dvs
/-! ### while -/
def tCond (X : Cx) (G : Gr) (c : Expr) : TT := fun st H Q => ∃ dl b, EB X G dl c b ∧ tDB X.K G dl b st H Q
end
/-! ### a block's scope, by a look at the text -/
def chkBlk (sc dsc : Scope) (XN N : List Str) (ix : List Nat) (x : Str) : Bool :=
  decide N.Nodup && (decide (N = x :: ix.map (fun j => XN.getD j "")) && (decide (sc.kind = .function) && (sc.names.all (fun y => decide (y.2 ≠ .cell)) && (sc.names.all (fun y => decide (y.2 = .local → sc.names.lookup y.1 = some .local)) && (decide (sc.names.lookup x = some .local) &&
    (sc.names.all (fun y => decide (y.2 = .free → dsc.names.lookup y.1 = some .cell ∨ dsc.names.lookup y.1 = some .free)) && ix.all (fun j => decide (sc.names.lookup (XN.getD j "") = some .free) && decide (j < XN.length))))))))
def eLc : Expr → Scope
  | .ListComp _ _ sc _ => sc
  | .Call _ (.ListComp _ _ sc _ :: _) _ _ => sc
  | _ => { kind := .function, names := [], isGenerator := false, isCoroutine := false }
def sLc : Stmt → Scope
  | .Assign _ e _ => eLc e
  | .Return (some e) _ => eLc e
  | _ => { kind := .function, names := [], isGenerator := false, isCoroutine := false }
/-! ### in, not in: a text among texts -/
section
variable {X : Cx} {G : Gr} {dl : List Slot} {a b : Expr} {pos : Pos} {k : Str} {xs : List Str}
end
end Sg

/-! comprehensions of one clause with any target and tests -/
namespace Sg
open PySem PySem.Spec PyProof.Rows L2
theorem lcx_loop {P : Program} {w : World} {A : Around} {R : Result → Shared → Prop} {s : Shared} {elt tg iter : Expr} {ifs : List Expr} {sc : Scope} {pos : Pos} {it acc : Value} {env : Env} (J : Nat → Shared → Prop)
    (turn : ∀ n s, J n s → wpAny (model P w) A (pyNext it) (fun r s1 => match r with
      | none => R (.ok .next) s1
      | some v => wpAny (model P w) A (letOwnedTupleGo tg it v) (fun _ s2 => wpAny (model P w) A (assign tg env v) (fun _ s3 =>
          wpAny (model P w) A (forIn ifs true fun c r => if r = true then do let ok ← isTrue c env (eval c env); pure (ForInStep.yield ok) else pure (ForInStep.yield r)) (fun ok s3' =>
          if ok = true then wpAny (model P w) A (eval elt env) (fun x s4 => wpAny (model P w) A (call (.builtin "list.append") [acc, x]) (fun _ s5 => ∃ m, m < n ∧ J m s5) nvr s4) nvr s3'
          else ∃ m, m < n ∧ J m s3') nvr s3) nvr s2) nvr s1) nvr s)
    (n : Nat) (h : J n s) : codeAny (model P w) A (.compLoop (.ListComp elt [⟨tg, iter, ifs, 0⟩] sc pos) 0 it acc env) R s := by
  have off : ∀ {B : Value → Shared → Prop} (x : Value) (s' : Shared), nvr x s' → B x s' := fun _ _ z => z.elim
  refine codeAny_loop rfl J (fun n s hJ => ?_) n h
  show wpAny _ A ((compTurn (.ListComp elt [⟨tg, iter, ifs, 0⟩] sc pos) 0 it acc env).onRaise (fun x => (do noteFrame x env; theTreesLotGoes x))) _ _ s
  refine wpAny_noted ?_
  rw [compTurn_list]
  refine wpAny_bind (wpAny_standAt (wpAny_bind (wpAny_mono (turn n s hJ) (fun r s1 h1 => ?_) off)))
  cases r with
  | none => exact wpAny_pure h1
  | some v =>
    refine wpAny_bind (wpAny_mono h1 (fun _ s2 h2 => wpAny_bind (wpAny_mono h2 (fun _ s3 h3 => wpAny_bind (wpAny_mono h3 (fun ok s3' h3' => ?_) off)) off)) off)
    cases ok with
    | false => exact wpAny_pure ⟨rfl, h3'⟩
    | true => exact wpAny_bind (wpAny_bind (wpAny_mono h3' (fun x s4 h4 => wpAny_bind (wpAny_mono h4 (fun _ s5 h5 => wpAny_pure (wpAny_pure ⟨rfl, h5⟩)) off)) off))

/-- what a block's scope must be over the def's; tn: the target's names -/
structure BlkX (X : Cx) (N tn : List Str) (ix : List Nat) (sc : Scope) : Prop where
  nd : N.Nodup
  nm : N = tn ++ ix.map (fun j => X.N.getD j "")
  kind : sc.kind = .function
  nocell : ∀ y ∈ sc.names, y.2 ≠ .cell
  names : ∀ y ∈ sc.names, y.2 = .local → sc.names.lookup y.1 = some .local
  hx : ∀ x ∈ tn, sc.names.lookup x = some .local
  fr : ∀ y ∈ sc.names, y.2 = .free → X.env.kindOf y.1 = some .cell ∨ X.env.kindOf y.1 = some .free
  ixs : ∀ j ∈ ix, ∃ y, X.N[j]? = some y ∧ sc.names.lookup y = some .free
section
variable {X : Cx} {N tn : List Str} {ix : List Nat} {sc : Scope} {pins : List (Addr × Obj)} {st : L2.St} {H H' : Hp} {s s' : Shared} {C D : Addr} {fp : List Addr} {h1 : Heap}
theorem clox_of (B : BlkX X N tn ix sc) (ok : X.Ok) : closureFor sc X.env = pure (clOf sc X.env) := clos_eq fun y hy hk => ok.has y.1 (B.fr y hy hk)
theorem clx_sub (B : BlkX X N tn ix sc) (ok : X.Ok) {y : Str} {c : Addr} (h : (clOf sc X.env).lookup y = some c) : X.env.cells.lookup y = some c ∧ (y, NameKind.free) ∈ sc.names := by
  rcases clGo_in _ _ h with ⟨h1, h2⟩ | h1
  · obtain ⟨c', h3⟩ := ok.has y (B.fr _ h1 rfl)
    rw [h3] at h2
    cases h2
    exact ⟨h3, h1⟩
  · cases h1
theorem blkx_ok (B : BlkX X N tn ix sc) (I : L2.Inv X pins st H s) (hC : s.heap.objs.size ≤ C) (hf : ∀ b ∈ fp, FpOk X pins H b) (hlt : ∀ b ∈ fp, b < s.heap.objs.size) : (blkOf X N sc C fp s H).Ok where
  mod := I.ok.mod
  kind := B.kind
  glob := I.ok.glob
  blt := I.ok.blt
  above := hC
  inj := fun y z c h1 h2 => I.ok.inj y z c (clx_sub B I.ok h1).1 (clx_sub B I.ok h2).1
  has := fun y hy => by
    have hy : (relabel sc X.env).names.lookup y = some .cell ∨ (relabel sc X.env).names.lookup y = some .free := hy
    have : (y, NameKind.free) ∈ sc.names := by
      rcases hy with hy | hy
      · obtain ⟨k', h1, h2⟩ := relab_kind hy
        rcases h2 with h2 | h2
        · subst h2; exact absurd rfl (B.nocell _ h1)
        · subst h2; exact h1
      · obtain ⟨k', h1, h2⟩ := relab_kind hy
        rcases h2 with h2 | h2 <;> subst h2 <;> exact h1
    exact clGo_has _ _ (.inl this)
  cab := fun y c h => by cases h
  hd := I.ok.hd
  frames := I.ok.frames
  stk := .inl rfl
  exf := fun b hb => ⟨Nat.ne_of_lt (Nat.lt_of_lt_of_le (hlt b hb) hC), fun y c h => (hf b hb).2.2.2.2.1 y c (clx_sub B I.ok h).1⟩
  bs := I.bs
  bsz := Nat.le_trans I.ok.bsz I.sz
  noex := fun b o e hb => by
    rcases (hf b hb).2.2.2.1 with z | z
    · exact I.ok.noex b o e z
    · exact absurd (Nat.lt_of_lt_of_le (Heap.lt_size e) (Nat.le_trans I.ok.bsz z)) (Nat.lt_irrefl _)
  exfs := fun b hb z => by
    rcases List.mem_cons.mp (I.stkSub b z) with z | z
    · exact (hf b hb).2.1 z
    · exact (hf b hb).2.2.1 z
  funs := I.stack
  frf := I.stkFree
/-- the block begins -/
theorem blkx_start (B : BlkX X N tn ix sc) (I : L2.Inv X pins st H s) (hf : ∀ b ∈ fp, FpOk X pins H b) (hlt : ∀ b ∈ fp, b < s.heap.objs.size) (hC : C = s.heap.objs.size + 1) (k : ∀ b o, s.heap.get? b = some o → h1.get? b = some o)
    (hn : h1.Ns C fun _ => none) (hD : h1.get? s.heap.objs.size = some { cls := .type "list", data := .seq ([] : List Value).toArray 0 }) {t' : Nat} :
    L2.Inv (blkOf X N sc C fp s H) [] (List.replicate tn.length none ++ frees ix st) (upd H s.heap.objs.size (.lst [])) { s with heap := h1, toks := t' } := by
  have hC' : s.heap.objs.size ≤ C := by rw [hC]; exact Nat.le_succ _
  have fr : ∀ a, s.heap.objs.size ≤ a → H a = none := fun a ha => I.hok.fresh ha
  have ok := blkx_ok B I hC' hf hlt
  have cne : ∀ y c, (clOf sc X.env).lookup y = some c → H c = none ∧ c < s.heap.objs.size ∧ ∃ v, s.heap.IsCell c v := fun y c h => by
    have h := (clx_sub B I.ok h).1
    obtain ⟨v, q⟩ := I.cell y c h
    exact ⟨I.freeC y c h, q.lt, v, q⟩
  refine ⟨ok, rfl, I.bare, Un.laid k (Nat.le_refl _) (fr _ (Nat.le_refl _)), ⟨_, hn, fun i y v e1 e2 e3 => ?_⟩, fun y c h => ?_, ?_, fun y c h => ?_, fun p hp => absurd (show p ∈ ([] : List (Addr × Obj)) from hp) (by simp), ?_, ?_⟩
  · have e1 : N[i]? = some y := e1
    by_cases hi : i < tn.length
    · rw [List.getElem?_append_left (by simpa using hi), List.getElem?_replicate, if_pos hi] at e2
      cases e2
    · have hi : tn.length ≤ i := Nat.le_of_not_lt hi
      rw [B.nm, List.getElem?_append_right hi, List.getElem?_map] at e1
      rw [List.getElem?_append_right (by simpa using hi), List.length_replicate] at e2
      unfold frees at e2
      rw [List.getElem?_map] at e2
      cases q : ix[i - tn.length]? with
      | none => rw [q] at e1; cases e1
      | some j =>
        rw [q] at e1 e2
        obtain ⟨y', hy1, hyl⟩ := B.ixs j (List.mem_of_getElem? q)
        have hy2 := PySem.mem_of_lookup hyl
        have ey : y = y' := by
          have e1 : X.N.getD j "" = y := Option.some.inj e1
          rw [List.getD_eq_getElem?_getD, hy1] at e1
          exact e1.symm
        subst ey
        have e2 : (st[j]?).join = some v := Option.some.inj e2
        have e2' : st[j]? = some (some v) := by
          cases q2 : st[j]? with
          | none => rw [q2] at e2; cases e2
          | some z => rw [q2] at e2; rw [show z = some v from e2]
        have kd := B.fr _ hy2 rfl
        have vis : Vis X.env.scope y := by
          rcases kd with z | z
          · exact .inr (.inl z)
          · exact .inr (.inr z)
        obtain ⟨m, _, hl⟩ := I.loc
        obtain ⟨u, r, l⟩ := hl j y v hy1 e2' vis
        refine ⟨u, r, .inr ?_⟩
        rcases l with ⟨z, _⟩ | ⟨_, c, hc, ic⟩
        · rcases kd with z' | z' <;> rw [z] at z' <;> cases z'
        · obtain ⟨c', hc'⟩ := clGo_has (cells := X.env.cells) sc.names [] (.inl hy2)
          have := (clx_sub B I.ok hc').1
          rw [hc] at this; cases this
          obtain ⟨oc, hoc, hd⟩ := ic
          refine ⟨?_, c, hc', oc, k _ _ hoc, hd⟩
          rcases e3 with e3 | e3 | e3
          · have e3 : (relabel sc X.env).names.lookup y = some .local := e3
            rcases relab_free (env := X.env) hyl with z | z
            · exact absurd (e3.symm.trans z) (by decide)
            · exact absurd (e3.symm.trans z) (by decide)
          · exact .inl e3
          · exact .inr e3
  · obtain ⟨_, _, v, oc, hoc, hd⟩ := cne y c h
    exact ⟨v, oc, k _ _ hoc, hd⟩
  · show upd H s.heap.objs.size (.lst []) C = none
    rw [upd_ne (by rw [hC]; exact Nat.succ_ne_self _)]
    exact fr _ hC'
  · show upd H s.heap.objs.size (.lst []) c = none
    obtain ⟨q1, q2, _⟩ := cne y c h
    rw [upd_ne (Nat.ne_of_lt q2)]
    exact q1
  · exact I.hok.laid k (Nat.le_refl _) ⟨Nat.zero_le _, [], 0, .nil, hD⟩
  · show (List.replicate tn.length none ++ frees ix st).length = N.length
    rw [B.nm]
    unfold frees
    simp
/-- tests of a clause -/
def PTs (X : Cx) (ifs : List Expr) (tt : TT) : Prop := ∀ (pins : List (Addr × Obj)) (s : Shared) (st : L2.St) (H : Hp) (Q : Bool → Hp → Prop), L2.Inv X pins st H s → tt st H Q →
  wpAny (model X.prog X.w) X.A (forIn ifs true fun c r => if r = true then do let ok ← isTrue c X.env (eval c X.env); pure (ForInStep.yield ok) else pure (ForInStep.yield r)) (fun b s' => ∃ H', L2.Inv X pins st H' s' ∧ Q b H') X.xe s
def tNoTest : TT := fun _ H Q => Q true H
theorem pts_one {c : Expr} {tt : TT} (h : PT X c tt) : PTs X [c] tt := fun pins s st H Q I q => wpAny_tests_one (thn (h pins s st H _ I q) fun b s' z => z)
/-- the block's turns -/
def tBlkX (nt : Nat) (g : TG) (tt : TT) (te : TE) (fs : L2.St) (J : It) (D : Addr) (Q : List V → Hp → Prop) (H : Hp) : Prop :=
  ∃ W : Nat → Nat → List V → Hp → Prop, (∃ m, W 0 m [] (upd H D (.lst []))) ∧ ∀ i m ys H1, W i m ys H1 →
    (J.stop i H1 ∧ Q ys H1) ∨ (J.go i H1 ∧ ys.length < sizeLine ∧ ∀ σ : L2.St, σ.length = nt → ∀ v H2, J.yld i H1 v H2 → g v (σ ++ fs) H2 fun σ2 H3 => ∃ σ' : L2.St, σ2 = σ' ++ fs ∧ σ'.length = nt ∧
      tt σ2 H3 fun b H4 => if b = true then te σ2 H4 fun y H5 => H5 D = some (.lst ys) ∧ ∃ m', m' < m ∧ W (i + 1) m' (ys ++ [y]) (upd H5 D (.lst (ys ++ [y]))) else ∃ m', m' < m ∧ W (i + 1) m' ys H4)
theorem lcx_core {elt iter tg : Expr} {ifs : List Expr} {pos : Pos} {g : TG} {tt : TT} {te : TE} {J : It} {it : Addr} {tj : Nat → Heap → Prop} {Q : Addr → List V → Hp → Prop} {RR : Value → Addr → Result → Shared → Prop} {E : Value → Shared → Prop} (hc : X.calm = true) (B : BlkX X N tn ix sc)
    (hg : ∀ C fp s H, PG (blkOf X N sc C fp s H) tg g) (ht : ∀ C fp s H, PTs (blkOf X N sc C fp s H) ifs tt) (helt : ∀ C fp s H, PE (blkOf X N sc C fp s H) elt te) (I : L2.Inv X pins st H s) (T : Turn X.prog X.w X.K tg J fp it tj) (h0 : tj 0 s.heap) (hf : ∀ b ∈ fp, FpOk X pins H b)
    (hq : ∀ D, H D = none → tBlkX tn.length g tt te (frees ix st) J D (Q D) H)
    (hRR : ∀ D C ys H' s', L2.Inv X pins st H' s' → (∃ m, s'.heap.Ns C m) → FpOk X pins H' C → Q D ys H' → RR (.ref D) C (.ok .next) s') :
    wpAny (model X.prog X.w) X.A (newList []) (fun acc s3 => wpAny (model X.prog X.w) X.A (newFunctionEnv sc X.env.globals (clOf sc X.env) [] X.env.qual none .none (some X.env)) (fun cenv s4 =>
      codeAny (model X.prog X.w) X.A (.compStart (.ListComp elt [⟨tg, iter, ifs, 0⟩] sc pos) 0 (.ref it) acc { cenv with scope := relabel sc X.env }) (RR acc cenv.locals) s4) E s3) E s := by
  have hlt : ∀ b ∈ fp, b < s.heap.objs.size := fun b hb => by
    obtain ⟨o, e, _⟩ := T.obj _ _ h0 b hb
    exact Heap.lt_size e
  refine wpAny_newObj_type (wpAny_newFunctionEnv B.nocell (fun y hy => absurd hy (by simp)) (fun h1 hns hsb => ?_) B.kind)
  dsimp only at hns hsb ⊢
  generalize hG : s.heap.push { cls := .type "list", dict := none, data := .seq ([] : List Value).toArray } = g' at hns hsb ⊢
  have hC : g'.objs.size = s.heap.objs.size + 1 := by rw [← hG, Heap.size_push]
  have hDC : s.heap.objs.size ≠ g'.objs.size := by rw [hC]; exact Nat.ne_of_lt (Nat.lt_succ_self _)
  have old : ∀ b o, s.heap.get? b = some o → h1.get? b = some o := fun b o e =>
    hsb.extBut b o (by rw [hC]; exact Nat.ne_of_lt (Nat.lt_succ_of_lt (Heap.lt_size e))) (Heap.get?_push_of_some _ (hG ▸ Heap.get?_push_of_some _ e))
  have hacc : h1.get? s.heap.objs.size = some { cls := .type "list", data := .seq ([] : List Value).toArray 0 } := hsb.extBut _ _ hDC (Heap.get?_push_of_some _ (hG ▸ Heap.get?_push_size _ rfl))
  have hD : H s.heap.objs.size = none := I.hok.fresh (Nat.le_refl _)
  obtain ⟨W, ⟨m0, w0⟩, turn⟩ := hq _ hD
  have I0 := blkx_start (t' := s.toks + ([] : List (Str × Value)).length) B I hf hlt hC old (by simpa using hns) hacc
  have st0 : tj 0 h1 := T.keep _ _ _ h0 fun b _ o e => old b o e
  have hCle : s.heap.objs.size ≤ g'.objs.size := by rw [hC]; exact Nat.le_succ _
  have stat : ∀ {H' : Hp}, (∀ b ∈ fp, H' b = none) → ∀ b ∈ fp, FpOk (blkOf X N sc g'.objs.size fp s H) [] H' b := fun {H'} hn b hb =>
    ⟨hn b hb, ((blkx_ok B I hCle hf hlt).exf b hb).1, (blkx_ok B I hCle hf hlt).exfs b hb, .inl hb, ((blkx_ok B I hCle hf hlt).exf b hb).2, fun p hp => absurd (show p ∈ ([] : List (Addr × Obj)) from hp) (by simp)⟩
  have loop : ∀ s3 : Shared, s3 = { s with heap := h1, toks := s.toks + ([] : List (Str × Value)).length } →
      codeAny (model X.prog X.w) X.A (.compLoop (.ListComp elt [⟨tg, iter, ifs, 0⟩] sc pos) 0 (.ref it) (.ref s.heap.objs.size) (compEnvC sc (clOf sc X.env) g'.objs.size X.env)) (RR (.ref s.heap.objs.size) g'.objs.size) s3 := by
    rintro s3 rfl
    refine lcx_loop (fun n s' => ∃ i ys σ H', σ.length = tn.length ∧ L2.Inv (blkOf X N sc g'.objs.size fp s H) [] (σ ++ frees ix st) H' s' ∧ tj i s'.heap ∧ (∀ b ∈ fp, H' b = none) ∧ W i n ys H') ?_ m0
      ⟨0, [], List.replicate tn.length none, _, by simp, I0, st0, fun b hb => ?_, w0⟩
    · rintro n s5 ⟨i, ys, σ, H5, hσ, I5, st5, fr5, w5⟩
      rcases turn i n ys H5 w5 with ⟨stop, qn⟩ | ⟨go, hz, step⟩
      · refine thn (T.done (blkOf X N sc g'.objs.size fp s H) rfl rfl rfl hc i [] s5 _ H5 nvr I5 (stat fr5) st5 stop) fun r s6 ⟨hr, I6⟩ => ?_
        subst hr
        refine hRR _ _ ys H5 s6 ?_ ?_ (I.fpOk hCle I6.free) qn
        · exact I.call' I6.os I6.base I6.hok I6.bare fun b hb => ⟨(hf b hb).2.2.2.1, (hf b hb).2.1, (hf b hb).2.2.2.2.1, (hf b hb).2.2.2.2.2⟩
        · obtain ⟨m, hm, _⟩ := I6.loc
          exact ⟨m, hm⟩
      · refine thn (T.item (blkOf X N sc g'.objs.size fp s H) rfl rfl rfl hc i [] s5 _ H5 nvr I5 (stat fr5) st5 go) fun r s6 ⟨u, hr, h6⟩ => ?_
        subst hr
        refine thn h6 fun _ s7 ⟨v, H7, I7, r7, y7, st7, fr7⟩ => ?_
        have I7' := I7.pinned (stat fr7) (T.obj _ _ st7)
        refine thn (hg g'.objs.size fp s H _ s7 _ H7 v u _ I7' r7 (step σ hσ v H7 y7)) fun _ s8 h8 => ?_
        obtain ⟨σ8, H8, I8, σ', e8, hl8, h8⟩ := h8
        subst e8
        have pinned : ∀ {σ9 : L2.St} {H9 : Hp} {s9 : Shared}, L2.Inv (blkOf X N sc g'.objs.size fp s H) ([] ++ pinsAt fp s7.heap) σ9 H9 s9 → tj (i + 1) s9.heap ∧ ∀ b ∈ fp, H9 b = none := fun {σ9 H9 s9} I9 => by
          refine ⟨T.keep _ _ _ st7 fun b hb o e => (I9.pin (b, o) (List.mem_append_right _ (List.mem_append_right _ (mem_pinsAt hb e)))).1, fun b hb => ?_⟩
          obtain ⟨o, e, d⟩ := T.obj _ _ st7 b hb
          exact (I9.pin (b, o) (List.mem_append_right _ (List.mem_append_right _ (mem_pinsAt hb e)))).2.1
        refine thn (ht g'.objs.size fp s H _ s8 _ H8 _ I8 h8) fun ok s8' h8' => ?_
        obtain ⟨H8', I8', h8'⟩ := h8'
        cases ok with
        | false =>
          obtain ⟨m', hm, w8⟩ := h8'
          exact ⟨m', hm, i + 1, ys, σ', _, hl8, I8'.unpinned (pins := []), (pinned I8').1, (pinned I8').2, w8⟩
        | true =>
          refine thn (helt g'.objs.size fp s H _ s8' _ H8' _ I8' h8') fun z s9 ⟨y, H9, I9, r9, hD9, m', hm, w9⟩ => ?_
          refine thn (mt_append _ s9 _ H9 (.ref s.heap.objs.size) [y] (.ref s.heap.objs.size) [z] (fun _ H' => H' = upd H9 s.heap.objs.size (.lst (ys ++ [y]))) I9 rfl (.cons r9 .nil) ⟨_, ys, y, rfl, rfl, hD9, hz, rfl⟩) fun _ s10 h10 => ?_
          obtain ⟨_, H10, I10, _, rfl⟩ := h10
          exact ⟨m', hm, i + 1, ys ++ [y], σ', _, hl8, I10.unpinned (pins := []), (pinned I10).1, (pinned I10).2, w9⟩
    · rw [upd_ne (Nat.ne_of_lt (hlt b hb))]
      exact (hf b hb).1
  exact codeAny_compStart_list (loop _ rfl) (T.self _ 0 _ _ _ st0 (loop _ rfl))
end

/-! ### over data -/
section
variable {K : PySem.W.Frag} {G G' : Gr} {st : L2.St} {Hf H Hf1 H1 : Hp} {dl : List Slot} {ix : List Nat}
/-- the target's names stand in the first slots -/
structure TgV (K : PySem.W.Frag) (Hf : Hp) (σ : L2.St) (sl : List Slot) : Prop where
  len : σ.length = sl.length
  val : ∀ (i : Nat) d, sl[i]? = some (.val d) → ∃ v, σ[i]? = some (some v) ∧ Rep K Hf v d
  no : ∀ (i : Nat) o, sl[i]? ≠ some (.own o)
theorem TgV.mono {σ : L2.St} {sl : List Slot} (h : TgV K Hf σ sl) (s : Same Hf Hf1) : TgV K Hf1 σ sl := ⟨h.len, fun i d e => let ⟨v, h1, h2⟩ := h.val i d e; ⟨v, h1, h2.mono s⟩, h.no⟩
theorem blkx_stt {σ : L2.St} {sl : List Slot} (S : Stt K G st Hf H dl) (s1 : Same Hf Hf1) (sb : Same Hf1 H1) (r : TgV K Hf1 σ sl) : Stt K ⟨Hf1, H1⟩ (σ ++ frees ix st) Hf1 H1 (sl ++ blkSl dl ix) := by
  have no : ∀ (i : Nat) o, (sl ++ blkSl dl ix)[i]? ≠ some (.own o) := fun i o h => by
    by_cases hi : i < sl.length
    · rw [List.getElem?_append_left hi] at h
      exact r.no i o h
    · rw [List.getElem?_append_right (Nat.le_of_not_lt hi)] at h
      unfold blkSl at h
      rw [List.getElem?_map] at h
      cases q : ix[i - sl.length]? with
      | none => rw [q] at h; cases h
      | some j =>
        rw [q] at h
        exact valSl_own (Option.some.inj h)
  refine ⟨.refl sb, by simp [frees, blkSl, r.len], fun i x h => ?_, fun i o h => absurd h (no i o), fun i j o o' a h => absurd h (no i o)⟩
  by_cases hi : i < sl.length
  · rw [List.getElem?_append_left hi] at h
    rw [List.getElem?_append_left (by rw [r.len]; exact hi)]
    exact r.val i x h
  · have hi := Nat.le_of_not_lt hi
    rw [List.getElem?_append_right hi] at h
    rw [List.getElem?_append_right (by rw [r.len]; exact hi), r.len]
    unfold blkSl at h
    unfold frees
    rw [List.getElem?_map] at h ⊢
    cases q : ix[i - sl.length]? with
    | none => rw [q] at h; cases h
    | some j =>
      rw [q] at h
      have hd := valSl_val (Option.some.inj h)
      obtain ⟨v', z1, z2⟩ := S.val j x hd
      exact ⟨v', by rw [Option.map_some, z1]; rfl, z2.mono s1⟩
/-- what a target makes of a datum -/
def TgD (K : PySem.W.Frag) (nt : Nat) (g : TG) (z : Dt) (sl : List Slot) : Prop := ∀ (σ fs : L2.St) (Hf H : Hp) (v : V) (Q : L2.St → Hp → Prop), σ.length = nt → Same Hf H → Rep K Hf v z →
  (∀ σ' : L2.St, σ'.length = nt → TgV K Hf σ' sl → Q (σ' ++ fs) H) → g v (σ ++ fs) H Q
theorem tg_name {z : Dt} : TgD K 1 (gName 0) z [.val z] := fun σ fs Hf H v Q hl s r k => by
  cases σ with
  | nil => cases hl
  | cons a σ =>
    have : σ = [] := List.eq_nil_of_length_eq_zero (by simpa using hl)
    subst this
    refine k [some v] rfl ⟨rfl, fun i d h => ?_, fun i o h => ?_⟩
    · cases i with
      | zero => cases h; exact ⟨v, rfl, r⟩
      | succ i => cases h
    · cases i with
      | zero => cases h
      | succ i => cases h
abbrev gPair (K : PySem.W.Frag) : TG := gTup K 2 (gCons (gName 0) (gCons (gName 1) gNil))
end
section
variable {X : Cx} {G : Gr} {E : XK} {dl : List Slot} {a b c elt iter tg : Expr} {ifs : List Expr} {i j : Int} {d : Dt} {pos p px py pc spos : Pos} {o : Out} {x y : Str} {N tn : List Str} {ix : List Nat} {sc : Scope} {n : Nat}
/-- a source: it yields these data, as long as what is frozen stays -/
def SrcX (X : Cx) (G : Gr) (dl : List Slot) (zs : List Dt) (wi : TI) : Prop := ∀ st H (R : It → Hp → Prop), (∃ Hf, Stt X.K G st Hf H dl ∧ ∀ J Hf0 H0, Grow Hf H Hf0 H0 →
  (∀ Hf1 H1, Same Hf0 Hf1 → Same Hf1 H1 → ∀ i, (∀ z, zs[i]? = some z → J.go i H1 ∧ ∀ v H2, J.yld i H1 v H2 → ∃ Hf2, Grow Hf1 H1 Hf2 H2 ∧ Rep X.K Hf2 v z) ∧ (i = zs.length → J.stop i H1)) → R J H0) → wi st H R
theorem srcx_list {xs : List Dt} : SrcX X G dl xs (iList X.K (tD X.K G dl (.lst xs))) := fun st H R ⟨Hf, S, k⟩ => ⟨Hf, S, fun v Hf1 H1 g1 r1 => by
  cases r1 with
  | @lst q vs _ hq rp =>
    have hl := rp.length
    refine ⟨q, rfl, ⟨vs, .of (g1.sub _ _ hq)⟩, k _ Hf1 H1 g1 fun Hf2 H2 s1 s2 i => ⟨fun z hz => ?_, fun hi => ⟨vs, .of (s2 _ _ (s1 _ _ hq)), by omega⟩⟩⟩
    obtain ⟨u, z1, z2⟩ := rp.get hz
    have hs : SqL X.K H2 q vs := .of (s2 _ _ (s1 _ _ hq))
    refine ⟨⟨vs, u, hs, z1⟩, fun v H3 hy => ?_⟩
    obtain ⟨e1, e2⟩ := hy
    have e2 := e2 vs hs
    rw [z1] at e2; cases e2
    subst e1
    exact ⟨Hf2, .refl s2, z2.mono s1⟩⟩
theorem srcx_itr {lo : Int} {n : Nat} {Hf1 H1 Hf2 H2 : Hp} (s2 : Same Hf2 H2) (i : Nat) : (∀ z, ((List.range n).map fun (k : Nat) => Dt.int (lo + k))[i]? = some z → (Itr lo n).go i H2 ∧ ∀ v H3, (Itr lo n).yld i H2 v H3 → ∃ Hf3, Grow Hf2 H2 Hf3 H3 ∧ Rep X.K Hf3 v z) ∧ (i = ((List.range n).map fun (k : Nat) => Dt.int (lo + k)).length → (Itr lo n).stop i H2) := by
  refine ⟨fun z hz => ?_, fun e => by have : i = n := by simpa using e
                                      exact Nat.le_of_eq this.symm⟩
  have hi : i < n := by
    have := (List.getElem?_eq_some_iff.mp hz).1
    simpa using this
  rw [List.getElem?_map, List.getElem?_range hi] at hz
  cases hz
  refine ⟨hi, fun v H3 hy => ?_⟩
  obtain ⟨e1, e2⟩ := hy
  subst e1 e2
  exact ⟨Hf2, .refl s2, .int _⟩
theorem srcx_range1 (hn : -(2 ^ 62) ≤ j ∧ j < 2 ^ 62) : SrcX X G dl ((List.range j.toNat).map fun (k : Nat) => .int k) (iRng1 (tDs X.K G dl [.int j])) := fun st H R ⟨Hf, S, k⟩ => ⟨Hf, S, fun vs Hf1 H1 g1 r1 => by
  cases r1 with
  | cons r t =>
    cases t; cases r
    refine ⟨j, rfl, hn.1, hn.2, k _ Hf1 H1 g1 fun Hf2 H2 s1 s2 i => ?_⟩
    have h := srcx_itr (X := X) (lo := 0) (n := j.toNat) (Hf1 := Hf1) (H1 := H1) s2 i
    simp only [Int.zero_add] at h
    exact h⟩
variable {α : Type} {as : List α} {z f : α → Dt} {sl : α → List Slot} {keep : α → Bool} {g : TG} {wi : TI}
def tTst (K : PySem.W.Frag) (dl : List Slot) (ix : List Nat) (as : List α) (sl : α → List Slot) (keep : α → Bool) : TT := fun st H Q => ∃ a G', a ∈ as ∧ tDB K G' (sl a ++ blkSl dl ix) (keep a) st H Q
def tElx (K : PySem.W.Frag) (dl : List Slot) (ix : List Nat) (as : List α) (sl : α → List Slot) (keep : α → Bool) (f : α → Dt) : TE := fun st H Q => ∃ a G', a ∈ as ∧ keep a = true ∧ tD K G' (sl a ++ blkSl dl ix) (f a) st H Q
/-- the tests -/
inductive TstOk (X : Cx) (N : List Str) (sc : Scope) (dl : List Slot) (ix : List Nat) (as : List α) (sl : α → List Slot) (keep : α → Bool) : List Expr → Prop
  | nil : (∀ a ∈ as, keep a = true) → TstOk X N sc dl ix as sl keep []
  | one {c : Expr} : (∀ a ∈ as, ∀ C fp s H G', EB (blkOf X N sc C fp s H) G' (sl a ++ blkSl dl ix) c (keep a)) → TstOk X N sc dl ix as sl keep [c]
theorem pts_of (h : TstOk X N sc dl ix as sl keep ifs) : ∀ C fp s H, PTs (blkOf X N sc C fp s H) ifs (tTst X.K dl ix as sl keep) := fun C fp s H => by
  cases h with
  | nil h => exact fun pins s' st H' Q I ⟨a, G', ha, Hf, S, k⟩ => wpAny_tests_nil ⟨H', I, by have := k Hf H' (.refl S.sub); rw [h a ha] at this; exact this⟩
  | one h => exact pts_one fun pins s' st H' Q I ⟨a, G', ha, q⟩ => h a ha C fp s H G' pins s' st H' Q I q
def EltX (X : Cx) (N : List Str) (sc : Scope) (dl : List Slot) (ix : List Nat) (as : List α) (sl : α → List Slot) (keep : α → Bool) (f : α → Dt) (elt : Expr) : Prop := ∀ a ∈ as, keep a = true → ∀ C fp s H G', EE (blkOf X N sc C fp s H) G' (sl a ++ blkSl dl ix) elt (f a)
theorem pe_elx (h : EltX X N sc dl ix as sl keep f elt) : ∀ C fp s H, PE (blkOf X N sc C fp s H) elt (tElx X.K dl ix as sl keep f) := fun C fp s H pins s' st H' Q I ⟨a, G', ha, hk, q⟩ => h a ha hk C fp s H G' pins s' st H' Q I q
theorem blkx_data {nt : Nat} {st : L2.St} {Hf H : Hp} {J : It} {Q : VK} (S : Stt X.K G st Hf H dl) (hn : as.length ≤ sizeLine) (htg : ∀ a ∈ as, TgD X.K nt g (z a) (sl a))
    (go : ∀ Hf1 H1, Grow Hf H Hf1 H1 → ∀ i, (∀ y, (as.map z)[i]? = some y → J.go i H1 ∧ ∀ v H2, J.yld i H1 v H2 → ∃ Hf2, Grow Hf1 H1 Hf2 H2 ∧ Rep X.K Hf2 v y) ∧ (i = (as.map z).length → J.stop i H1))
    (k : ∀ p Hf' H', Grow Hf H Hf' H' → H p = none → Hf' p = none → OwnAt X.K Hf' H' p (.lst ((as.filter keep).map f)) → Q (.ref p) H') :
    ∀ D, H D = none → tBlkX nt g (tTst X.K dl ix as sl keep) (tElx X.K dl ix as sl keep f) (frees ix st) J D (fun _ H' => Q (.ref D) H') H := by
  intro D hD
  refine ⟨fun i m vs H1 => m = as.length - i ∧ i ≤ as.length ∧ ∃ Hf1, Grow Hf H Hf1 H1 ∧ Hf1 D = none ∧ H1 D = some (.lst vs) ∧ Reps X.K Hf1 vs (((as.take i).filter keep).map f), ⟨as.length, rfl, Nat.zero_le _, Hf, .allocO S.sub hD, S.sub.free hD, upd_same, .nil⟩, ?_⟩
  rintro i m vs H1 ⟨rfl, hi, Hf1, g1, hD1, hD2, rp⟩
  have hlen := rp.length
  rw [List.length_map] at hlen
  have hfl : ((as.take i).filter keep).length ≤ i := Nat.le_trans (List.length_filter_le _ _) (by rw [List.length_take]; omega)
  have keepsD : ∀ {Hfa Ha Hfb Hb : Hp}, Grow Hfa Ha Hfb Hb → Hfa D = none → Ha D = some (.lst vs) → Hfb D = none ∧ Hb D = some (.lst vs) := fun {Hfa Ha Hfb Hb} gg e1 e2 => by
    refine ⟨?_, gg.big _ _ e2⟩
    cases q : Hfb D with
    | none => rfl
    | some u =>
      rcases gg.new D u q with ⟨o, z⟩ | z
      · rw [e1] at z; cases z
      · rw [e2] at z; cases z
  by_cases hlt : i < as.length
  · have hmem : as[i] ∈ as := List.getElem_mem hlt
    have et : as.take (i + 1) = as.take i ++ [as[i]] := by rw [List.take_add_one, List.getElem?_eq_getElem hlt]; rfl
    obtain ⟨hgo, hy⟩ := (go Hf1 H1 g1 i).1 (z as[i]) (by rw [List.getElem?_map, List.getElem?_eq_getElem hlt]; rfl)
    refine .inr ⟨hgo, by omega, fun σ hσ v H2 y => ?_⟩
    obtain ⟨Hf2, g2, rv⟩ := hy v H2 y
    obtain ⟨d2, d2'⟩ := keepsD g2 hD1 hD2
    refine htg as[i] hmem σ _ Hf2 H2 v _ hσ g2.sub rv fun σ' hl' tv => ⟨σ', rfl, hl', as[i], ⟨Hf2, H2⟩, hmem, Hf2, blkx_stt S (g1.frz.trans g2.frz) g2.sub tv, fun Hf3 H3 g3 => ?_⟩
    obtain ⟨d3, d3'⟩ := keepsD g3 d2 d2'
    cases hk : keep as[i] with
    | false =>
      refine ⟨as.length - (i + 1), by omega, rfl, hlt, Hf3, (g1.trans g2).trans g3, d3, d3', ?_⟩
      rw [et, List.filter_append, List.filter_cons_of_neg (by simp [hk]), List.filter_nil, List.append_nil]
      exact rp.mono (g2.frz.trans g3.frz)
    | true =>
      refine ⟨as[i], ⟨Hf3, H3⟩, hmem, hk, Hf3, blkx_stt S ((g1.frz.trans g2.frz).trans g3.frz) g3.sub (tv.mono g3.frz), fun y Hf4 H4 g4 r4 => ?_⟩
      obtain ⟨d4, d4'⟩ := keepsD g4 d3 d3'
      have gg := ((g1.trans g2).trans g3).trans g4
      refine ⟨d4', as.length - (i + 1), by omega, rfl, hlt, Hf4, ⟨fun a o h => ?_, gg.frz, fun a o h => ?_, gg.new⟩, d4, upd_same, ?_⟩
      · rw [upd_ne (ne_of_none h hD)]; exact gg.big _ _ h
      · rw [upd_ne (ne_of_none h d4)]; exact g4.sub _ _ h
      · rw [et, List.filter_append, List.filter_cons_of_pos (by simpa using hk), List.filter_nil, List.map_append]
        exact (rp.mono ((g2.frz.trans g3.frz).trans g4.frz)).append (.cons r4 .nil)
  · have e : i = as.length := by omega
    subst e
    refine .inl ⟨(go Hf1 H1 g1 _).2 (by simp), k D Hf1 H1 g1 hD hD1 ⟨vs, hD2, ?_⟩⟩
    rw [List.take_length] at rp
    exact rp
def tLcx (wi : TI) (nt : Nat) (ix : List Nat) (g : TG) (tt : TT) (te : TE) : TE := fun st H Q => wi st H fun J H1 => ∀ D, H1 D = none → tBlkX nt g tt te (frees ix st) J D (fun _ H' => Q (.ref D) H') H1
theorem pe_lcx {tt : TT} {te : TE} (hc : X.calm = true) (B : BlkX X N tn ix sc) (hi : PI X tg iter wi) (hg : ∀ C fp s H, PG (blkOf X N sc C fp s H) tg g) (ht : ∀ C fp s H, PTs (blkOf X N sc C fp s H) ifs tt) (helt : ∀ C fp s H, PE (blkOf X N sc C fp s H) elt te) (hs : ∀ z, foldedSetIterable iter X.env z = pure z) :
    PE X (.ListComp elt [⟨tg, iter, ifs, 0⟩] sc pos) (tLcx wi tn.length ix g tt te) := by
  intro pins s st H Q I h
  rw [eval_ListComp]
  refine wpAny_comprehension_free (use := none) rfl hs (clox_of B I.ok) B.kind B.names (thn (hi pins s st H _ I h) fun v s1 h1 => thn h1 fun itv s2 h2 => ?_)
  obtain ⟨it, fp, tj, J, H2, e, I2, T, st2, f2, hq⟩ := h2
  subst e
  refine lcx_core (RR := fun acc C => compPost (model X.prog X.w) X.A X.xe none (EP X pins st Q) acc C) hc B hg ht helt I2 T st2 f2 hq ?_
  intro D C ws H' s' I' ⟨m, hn⟩ hfp q
  exact ⟨m, hn, fun h' hs' => ⟨.ref D, H', I'.turned (t' := s'.toks) (it := C) (fun b o hb e => (hs'.2 b hb).trans e) hfp.1 hfp.2.1 hfp.2.2.2.1 hfp.2.2.2.2.1 hfp.2.2.2.2.2, rfl, q⟩⟩
theorem tLcx_data (hs : SrcX X G dl (as.map z) wi) (htg : ∀ a ∈ as, TgD X.K n g (z a) (sl a)) (hn : as.length ≤ sizeLine) : ∀ st H Q, tDO X.K G dl (.lst ((as.filter keep).map f)) st H Q → tLcx wi n ix g (tTst X.K dl ix as sl keep) (tElx X.K dl ix as sl keep f) st H Q := fun st H Q ⟨Hf, S, k⟩ =>
  hs st H _ ⟨Hf, S, fun J Hf0 H0 g0 src => blkx_data (S.grow g0) hn htg (fun Hf1 H1 g1 i => src Hf1 H1 g1.frz g1.sub i) fun p Hf' H' g n1 n2 r => k p Hf' H' (g0.trans g) (g0.big.free n1) n2 r⟩
theorem eo_lcx (as : List α) (z f : α → Dt) (sl : α → List Slot) (keep : α → Bool) (hc : X.calm = true) (B : BlkX X N tn ix sc) (hi : PI X tg iter wi) (hg : ∀ C fp s H, PG (blkOf X N sc C fp s H) tg g) (hsrc : SrcX X G dl (as.map z) wi) (htg : ∀ a ∈ as, TgD X.K tn.length g (z a) (sl a)) (htst : TstOk X N sc dl ix as sl keep ifs) (helt : EltX X N sc dl ix as sl keep f elt) (hn : as.length ≤ sizeLine) (hs : ∀ z, foldedSetIterable iter X.env z = pure z := by intro _; rfl) :
    EO X G dl (.ListComp elt [⟨tg, iter, ifs, 0⟩] sc pos) (.lst ((as.filter keep).map f)) := peI (pe_lcx hc B hi hg (pts_of htst) (pe_elx helt) hs) (tLcx_data hsrc htg hn)
/-! for over a source -/
/-- what a target makes of a datum in the def's own frame -/
def TgS (K : PySem.W.Frag) (g : TG) (z : Dt) (up : List Slot → List Slot) : Prop := ∀ (G : Gr) (st : L2.St) (Hf H : Hp) (v : V) (dl : List Slot) (Q : L2.St → Hp → Prop), Stt K G st Hf H dl → Rep K Hf v z → (∀ st', Stt K G st' Hf H (up dl) → Q st' H) → g v st H Q
/-- the target's names in the block -/
theorem pgb_name (B : BlkX X N tn ix sc) (h : tn = [x]) : ∀ C fp s H, PG (blkOf X N sc C fp s H) (.Name x px) (gName 0) := fun C fp s H => by
  have hN : (blkOf X N sc C fp s H).N[0]? = some x := by
    show N[0]? = some x
    rw [B.nm, h]; rfl
  have hxl : (blkOf X N sc C fp s H).env.scope.names.lookup x = some .local := lookup_relabel_local (B.hx x (by rw [h]; simp))
  exact pg_name (X := blkOf X N sc C fp s H) B.nd hN (.inl hxl) (.inr hxl)
end
/-! ### a block's scope, by a look at the text -/
def chkBx (sc dsc : Scope) (XN N tn : List Str) (ix : List Nat) : Bool :=
  decide N.Nodup && (decide (N = tn ++ ix.map (fun j => XN.getD j "")) && (decide (sc.kind = .function) && (sc.names.all (fun y => decide (y.2 ≠ .cell)) && (sc.names.all (fun y => decide (y.2 = .local → sc.names.lookup y.1 = some .local)) && (tn.all (fun x => decide (sc.names.lookup x = some .local)) &&
    (sc.names.all (fun y => decide (y.2 = .free → dsc.names.lookup y.1 = some .cell ∨ dsc.names.lookup y.1 = some .free)) && ix.all (fun j => decide (sc.names.lookup (XN.getD j "") = some .free) && decide (j < XN.length))))))))
theorem bx_of {X : Cx} {sc dsc : Scope} {XN N tn : List Str} {ix : List Nat} (h : chkBx sc dsc XN N tn ix = true) (e1 : X.env.scope = dsc := by rfl) (e2 : X.N = XN := by rfl) : BlkX X N tn ix sc := by
  subst e1 e2
  unfold chkBx at h
  simp only [Bool.and_eq_true, List.all_eq_true, decide_eq_true_eq] at h
  obtain ⟨h1, h2, h3, h4, h5, h6, h7, h8⟩ := h
  refine ⟨h1, h2, h3, h4, h5, h6, h7, fun j hj => ?_⟩
  obtain ⟨q1, q2⟩ := h8 j hj
  refine ⟨X.N.getD j "", ?_, q1⟩
  rw [List.getD_eq_getElem?_getD, List.getElem?_eq_getElem q2]; rfl
end Sg

/-! two names at once; an owned thing looked at -/
namespace Sg
open PySem PySem.Spec PyProof.Rows L2
section
variable {X : Cx} {G : Gr} {E : XK} {dl : List Slot} {a b e : Expr} {d d1 d2 : Dt} {pos : Pos} {x y : Str} {w : Own} {u : Bool} {i : Int}
/-- a datum that lies in no heap -/
def scalD : Dt → Bool
  | .non | .bl _ | .int _ | .str _ | .ty _ | .cls _ => true
  | _ => false
end
section
variable {X : Cx} {G : Gr} {E : XK} {dl : List Slot} {e : Expr} {d1 d2 : Dt} {pos : Pos}
end
end Sg

/-! enumerate over a list -/
namespace Sg
open PySem PySem.Spec PyProof.Rows L2
section
variable {X : Cx} {pins : List (Addr × Obj)} {σ : List (Option V)} {H H' : Hp} {s : Shared} {h' : Heap}
end
/-- pairs of a number and an item -/
def Ite (K : PySem.W.Frag) (a : Addr) : It :=
  ⟨fun i H => ∃ xs x, SqL K H a xs ∧ xs[i]? = some x, fun i H v H' => ∃ p x, v = .ref p ∧ H p = none ∧ H' = upd H p (.tup [.int i, x]) ∧ ∀ xs, SqL K H a xs → xs[i]? = some x, fun i H => ∃ xs, SqL K H a xs ∧ xs.length ≤ i⟩
section
variable {X : Cx} {G : Gr} {dl : List Slot} {a : Expr} {xs : List Dt} {p pos : Pos}
def iEnum (K : PySem.W.Frag) (ta : TA) : TI := fun σ H R => ta σ H fun vs H1 => ∃ a, vs = [.ref a] ∧ (∃ xs, SqL K H1 a xs) ∧ R (Ite K a) H1
/-- the numbers and items -/
def enumD (xs : List Dt) : List Dt := (List.range xs.length).map fun (k : Nat) => .tup [.int k, xs.getD k .non]
end
end Sg

/-! a caught exception: the state behind its landing -/
namespace Sg
open PySem PySem.Spec PyProof.Rows L2
section
variable {X : Cx} {pins : List (Addr × Obj)} {st : L2.St} {H H' : Hp} {s s' : Shared} {h2 B : Heap} {ea t : Addr} {C : Value}
end
end Sg

/-! try: a call that raises; except D as n: a suite that goes on -/
namespace Sg
open PySem PySem.Spec PyProof.Rows L2
section
variable {X : Cx} {pins pins' : List (Addr × Obj)} {st : L2.St} {H H' : Hp} {s s' : Shared} {h2 B : Heap} {ea t : Addr} {C D : Addr} {xe : Value → Shared → Prop} {G : Gr} {Hf : Hp}
/-- nothing is known of the slots -/
def blank (n : Nat) : List Slot := List.replicate n .unk
def noOwn : List Slot → Bool
  | [] => true
  | .own _ :: _ => false
  | _ :: r => noOwn r
/-- what is wanted of an exception in the body -/
def EX1 (C : Addr) (Hf H : Hp) : XK := fun c _ H1 => c = .ref C ∧ ∃ Hf1, Grow Hf H Hf1 H1
end
/-! ### a call that raises -/
section
variable {X : Cx} {G : Gr} {E : XK} {dl : List Slot} {e : Expr} {es : List Expr} {ds : List Dt} {pos p apos pos' : Pos} {x m : Str} {C : Addr} {fs fe : List (Str × Dt)} {k k' n : Nat} {R : List Dt → Res → Prop} {ob : Expr} {c : Value}
end
end Sg

/-! texts: slices, and a text with a part by its repr -/
namespace Sg
open PySem PySem.Spec PyProof.Rows L2
section
variable {X : Cx} {G : Gr} {dl : List Slot} {a e b : Expr} {x y : Str} {i j : Int} {pos p1 p2 : Pos} {lo hi : Option Expr} {l u : Option Int}
theorem sl_str : SlR X (fun x lo hi H Q => ∃ z : Str, x = .str z ∧ z.length ≤ sizeLine ∧ Q (.str (Txt.slice z lo hi)) H) := by
  intro pins s σ H x v vl vu lo hi sl Q I rx hs pl pu h
  obtain ⟨z, rfl, hz, q⟩ := h
  obtain ⟨t, rfl⟩ := (show ∃ t, v = Value.str z t from rx)
  obtain ⟨o, h1, h2, h3⟩ := hs
  refine ⟨"str", _, F.slot_str_getitem.lookup, typeIs_str _ _ _, ?_⟩
  cases pl with
  | none =>
    cases pu with
    | none => exact wpAny_getItem_str_slice (l := none) (u := none) (st := none) ⟨o, h1, h2, h3⟩ rfl (post_val_or_str ⟨Nat.le_trans (Txt.slice_le z _ _) hz, fun t' k => ⟨.str (Txt.slice z _ _), H, I.tok _, ⟨t', rfl⟩, q⟩⟩)
    | int j uj => exact wpAny_getItem_str_slice (l := none) (u := some (j, uj)) (st := none) ⟨o, h1, h2, h3⟩ rfl (post_val_or_str ⟨Nat.le_trans (Txt.slice_le z _ _) hz, fun t' k => ⟨.str (Txt.slice z _ _), H, I.tok _, ⟨t', rfl⟩, q⟩⟩)
  | int i ui =>
    cases pu with
    | none => exact wpAny_getItem_str_slice (l := some (i, ui)) (u := none) (st := none) ⟨o, h1, h2, h3⟩ rfl (post_val_or_str ⟨Nat.le_trans (Txt.slice_le z _ _) hz, fun t' k => ⟨.str (Txt.slice z _ _), H, I.tok _, ⟨t', rfl⟩, q⟩⟩)
    | int j uj => exact wpAny_getItem_str_slice (l := some (i, ui)) (u := some (j, uj)) (st := none) ⟨o, h1, h2, h3⟩ rfl (post_val_or_str ⟨Nat.le_trans (Txt.slice_le z _ _) hz, fun t' k => ⟨.str (Txt.slice z _ _), H, I.tok _, ⟨t', rfl⟩, q⟩⟩)
/-- a slice's part, by data -/
def tDPt (K : PySem.W.Frag) (G : Gr) (dl : List Slot) (o : Option Int) : TO := fun st H Q => ∃ Hf, Stt K G st Hf H dl ∧ ∀ Hf' H', Grow Hf H Hf' H' → Q o H'
abbrev EPt (X : Cx) (G : Gr) (dl : List Slot) (e : Option Expr) (o : Option Int) : Prop := PO X e (tDPt X.K G dl o)
theorem poI {e : Option Expr} {t t' : TO} (h : PO X e t) (i : ∀ st H Q, t' st H Q → t st H Q) : PO X e t' := fun pins s st H Q I q => h pins s st H Q I (i st H Q q)
theorem ept_no : EPt X G dl none none := poI po_none fun st H Q ⟨Hf, S, k⟩ => k Hf H (.refl S.sub)
theorem ept_int (h : EE X G dl e (.int i)) : EPt X G dl (some e) (some i) := poI (po_some h) fun st H Q ⟨Hf, S, k⟩ => ⟨Hf, S, fun v Hf1 H1 g1 r1 => by cases r1; exact ⟨i, rfl, k Hf1 H1 g1⟩⟩
theorem ee_slS (he : EE X G dl e (.str x)) (hl : EPt X G dl lo l) (hu : EPt X G dl hi u) (hx : x.length ≤ sizeLine) : EE X G dl (.Subscript e (.Slice lo hi none p2) pos) (.str (Txt.slice x l u)) :=
  peI (pe_slice sl_str he hl hu) fun st H Q ⟨Hf, S, k⟩ => ⟨Hf, S, fun v Hf1 H1 g1 r1 => ⟨Hf1, S.grow g1, fun Hf2 H2 g2 => ⟨Hf2, (S.grow g1).grow g2, fun Hf3 H3 g3 => by
    cases r1
    exact ⟨x, rfl, hx, k _ Hf3 H3 ((g1.trans g2).trans g3) (.str _)⟩⟩⟩⟩
/-- f'a{e!r}' -/
theorem ee_fmtR {jk : Nat} (he : EE X G dl e (.str x)) (h1 : (reprText x).length ≤ sizeLine) (h2 : (Str.empty ++ y).length ≤ sizeLine) (h3 : (Str.empty ++ y ++ reprText x).length ≤ sizeLine) :
    EE X G dl (.JoinedStr [.Constant (.str y) jk p1, .FormattedValue e 114 none p2] pos) (.str (Str.empty ++ y ++ reprText x)) := by
  intro pins s st H Q I ⟨Hf, S, k⟩
  refine wpAny_JoinedStr ?_
  refine thn (pe_str (X := X) (j := jk) (pos := p1) pins s st H (fun v H1 => v = .str y ∧ H1 = H) I ⟨rfl, rfl⟩) fun v s1 ⟨v1, H1, I1, r1, e1, e2⟩ => ?_
  subst e1 e2
  obtain ⟨t1, rfl⟩ := (show ∃ t, v = Value.str y t from r1)
  refine ⟨y, t1, rfl, h2, ?_⟩
  refine wpAny_FormattedValue_repr (thn (he pins s1 st H1 (fun v H2 => v = .str x ∧ ∃ Hf2, Grow Hf H1 Hf2 H2) I1 ⟨Hf, S, fun v Hf2 H2 g2 r2 => by cases r2; exact ⟨rfl, Hf2, g2⟩⟩) fun v s2 ⟨v2, H2, I2, r2, e2, Hf2, g2⟩ => ?_)
  subst e2
  obtain ⟨t2, rfl⟩ := (show ∃ t, v = Value.str x t from r2)
  refine wpAny_pyReprObj_str ?_ h1
  refine formatField_str (fun t' tk => ⟨_, t', rfl, h3, h3, .str (Str.empty ++ y ++ reprText x), H2, (I2.tok _).tok _, ⟨_, rfl⟩, k _ Hf2 H2 g2 (.str _)⟩) h1
end
end Sg

/-! texts: walked, compared -/
namespace Sg
open PySem PySem.Spec PyProof.Rows L2
def Itx (x : Str) : It := ⟨fun i H => ∃ c, x.cps[i]? = some c, fun i H v H' => H' = H ∧ ∃ c, x.cps[i]? = some c ∧ v = .str ⟨#[c]⟩, fun i H => x.cps[i]? = none⟩
def asciiS (x : Str) : Bool := x.cps.all (· < 128)
/-- the signs of a text -/
def signs (x : Str) : List Dt := x.cps.toList.map fun c => .str ⟨#[c]⟩
section
variable {X : Cx} {G : Gr} {dl : List Slot} {a b c e : Expr} {x y z : Str} {p pos : Pos} {i j k : Int} {u v : Bool}
def iStr (ta : TE) : TI := fun σ H R => ta σ H fun v H1 => ∃ x, v = .str x ∧ asciiS x = true ∧ R (Itx x) H1
/-! ### a <= b <= c -/
def leS (x y : Str) : Bool := !decide (y.cps.toList < x.cps.toList)
variable {d1 d2 d3 : Dt}
end
end Sg

/-! lists of texts: in, slices, join; all, sum -/
namespace Sg
open PySem PySem.Spec PyProof.Rows L2
section
variable {X : Cx} {G : Gr} {dl : List Slot} {a b e : Expr} {pos p p2 apos cpos : Pos} {k x : Str} {xs : List Str} {ds : List Dt} {bs : List Bool} {ns : List Int} {lo hi : Option Expr} {l u : Option Int}
/-! ### slices of lists -/
def cutD {α : Type} (xs : List α) (lo hi : Option Int) : List α := (xs.drop (HT.sIx xs.length 0 lo)).take (HT.sIx xs.length xs.length hi - HT.sIx xs.length 0 lo)
/-! ### all, sum -/
theorem range_all (bs : List Bool) : (List.range bs.length).all (fun i => bs.getD i true) = bs.all id := by
  induction bs with
  | nil => rfl
  | cons b r ih =>
    rw [List.length_cons, List.range_succ_eq_map, List.all_cons, List.all_map, List.all_cons]
    show (b && (List.range r.length).all (fun i => r.getD i true)) = (b && r.all id)
    rw [ih]
theorem call_allB (hc : X.calm = true) : CallR X (.builtin "all") (fun xs H Q => ∃ (p : Addr) (bs : List Bool), xs = [.ref p] ∧ SqL X.K H p (bs.map V.bl) ∧ Q (.bl (bs.all id)) H) := by
  intro pins s σ H xs us Q I r h
  obtain ⟨p, bs, rfl, hq, q⟩ := h
  obtain ⟨u, rfl, rx⟩ := vals1 r
  cases rx
  obtain ⟨its, rv, pl, hz⟩ := I.list hq
  have hlen := rv.length
  rw [List.length_map] at hlen
  obtain ⟨o, n, ho, _⟩ := id pl
  have hp : p < s.heap.objs.size := Heap.lt_size ho
  refine call_all_walk (wpAny_pyIter_list pl.isList ?_)
  refine ⟨s.heap.objs.size, _, _, _, _, _, fun i => bs.getD i true, rfl, Walks.list (A := X.A.in1) (I.ok.hd hc) s.heap.objs.size p (Nat.ne_of_lt hp) its.toArray, ⟨⟨_, Heap.get?_push_size _ rfl, rfl, rfl⟩, ?_⟩, fun i v s' Q' E' hv hQ => ?_, fun h' tk hk => ?_⟩
  · exact pl.isList.at fun o e => Heap.get?_push_of_some _ e
  · have hv : its[i]? = some v := by simpa using hv
    have hi : i < its.length := (List.getElem?_eq_some_iff.mp hv).1
    have hib : i < bs.length := by omega
    obtain ⟨u', h1, h2⟩ := rv.get (i := i) (x := V.bl bs[i]) (by rw [List.getElem?_map, List.getElem?_eq_getElem hib]; rfl)
    rw [hv] at h1; cases h1
    cases h2
    have e : bs.getD i true = bs[i] := by rw [List.getD_eq_getElem?_getD, List.getElem?_eq_getElem hib]; rfl
    have hQ : Q' (bs.getD i true) s' := hQ
    rw [e] at hQ
    exact wpAny_truthy_bool hQ
  · have ea : (List.range its.toArray.size).all (fun i => bs.getD i true) = bs.all id := by rw [List.size_toArray, ← hlen]; exact range_all bs
    rw [ea]
    refine ⟨.bl _, H, I.kept (t' := tk) fun b o e => hk b o (fun hm => ?_) (Heap.get?_push_of_some _ e), rfl, q⟩
    have : b = s.heap.objs.size := by simpa using hm
    subst this
    exact Nat.lt_irrefl _ (Heap.lt_size e)
theorem boot_all : bootBuiltins "all" = some (.builtin "all") := by decide +kernel
theorem reps_bls {K : PySem.W.Frag} {H : Hp} : ∀ {bs : List Bool} {vs : List V}, Reps K H vs (bs.map Dt.bl) → vs = bs.map V.bl
  | [], _, .nil => rfl
  | b :: r, _, .cons h t => by cases h; rw [reps_bls t]; rfl
theorem ee_all (hm : X.mg "all" = none) (hc : X.calm = true) (ha : EE X G dl a (.lst (bs.map .bl))) (hg : Gl X "all" := by rfl) (he : starEach [a] X.env = [(false, eval a X.env)] := by rfl) : EE X G dl (.Call (.Name "all" p) [a] [] pos) (.bl (bs.all id)) :=
  peI (pe_callB (call_allB hc) hg hm boot_all (ea_cons ha ea_nil he) (by decide) (by decide) he rfl) fun st H Q ⟨Hf, S, k⟩ => ⟨Hf, S, fun vs Hf1 H1 g1 r1 => by
    cases r1 with
    | cons r t => cases t; cases r with
      | @lst q vs _ z r => 
        have ev := reps_bls r
        subst ev
        exact ⟨q, bs, rfl, .of (g1.sub _ _ z), k _ Hf1 H1 g1 (.bl _)⟩⟩
/-! ### x.join(texts) -/
end
end Sg

/-! dicts: read; one that __init__ fills -/
namespace Sg
open PySem PySem.Spec PyProof.Rows L2
def valD (kds : List (Key × Dt)) (k : Key) : Option Dt := (kds.find? fun kv => decide (kv.1 = k)).map (·.2)
section
variable {X : Cx} {G : Gr} {E : XK} {dl : List Slot} {a b e i o : Expr} {d : Dt} {pos p : Pos} {k x : Str} {kds : List (Key × Dt)}
def putKD (kds : List (Key × Dt)) (k : Key) (v : Dt) : List (Key × Dt) :=
  if (valD kds k).isSome = true then kds.map (fun kv => if kv.1 = k then (kv.1, v) else kv) else kds ++ [(k, v)]
/-! ### a dict of self's, made and filled at the end of __init__ -/
def rowsD (rows : List (Str × List Dt)) : List (Key × Dt) := rows.map fun r => (.inr r.1, .tup (.str r.1 :: r.2))
def rowD (r : Str × List Dt) : Dt := .tup (.str r.1 :: r.2)
end
end Sg

/-! list(d), list(d.values()) -/
namespace Sg
open PySem PySem.Spec PyProof.Rows L2
section
variable {X : Cx} {G : Gr} {dl : List Slot} {a o : Expr} {kds : List (Key × Dt)} {pos p apos cpos : Pos}
def kD : Key → Dt
  | .inl i => .int i
  | .inr x => .str x
end
end Sg

/-! three names as a target; int(bool) -/
namespace Sg
open PySem PySem.Spec PyProof.Rows L2
section
variable {K : PySem.W.Frag}
abbrev gTri (K : PySem.W.Frag) : TG := gTup K 3 (gCons (gName 0) (gCons (gName 1) (gCons (gName 2) gNil)))
end
section
variable {X : Cx} {N tn : List Str} {ix : List Nat} {sc : Scope} {x y z : Str} {px py pz p : Pos}
end
section
variable {X : Cx} {G : Gr} {E : XK} {dl : List Slot} {e a b : Expr} {d1 d2 d3 : Dt} {pos p : Pos} {u : Bool}
end
end Sg

/-! try with a call as its body, the slots kept -/
namespace Sg
open PySem PySem.Spec PyProof.Rows L2
section
variable {X : Cx} {pins pins' : List (Addr × Obj)} {st : L2.St} {H H' : Hp} {s s' : Shared} {h2 B : Heap} {ea t : Addr} {C D : Addr} {xe : Value → Shared → Prop} {G : Gr} {Hf : Hp}
end
end Sg

/-! enumerate over a text -/
namespace Sg
open PySem PySem.Spec PyProof.Rows L2
/-- pairs of a number and a sign -/
def Itxe (x : Str) : It :=
  ⟨fun i H => ∃ c, x.cps[i]? = some c, fun i H v H' => ∃ p c, v = .ref p ∧ H p = none ∧ H' = upd H p (.tup [.int i, .str ⟨#[c]⟩]) ∧ x.cps[i]? = some c, fun i H => i = x.cps.size⟩
section
variable {X : Cx} {G : Gr} {dl : List Slot} {a : Expr} {x : Str} {p pos : Pos}
def iEnumS (ta : TA) : TI := fun σ H R => ta σ H fun vs H1 => ∃ x, vs = [.str x] ∧ asciiS x = true ∧ R (Itxe x) H1
end
end Sg

/-! a text so many times -/
namespace Sg
open PySem PySem.Spec PyProof.Rows L2
section
variable {X : Cx} {G : Gr} {dl : List Slot} {a b : Expr} {x : Str} {i : Int} {pos : Pos}
end
end Sg

/-! except without a name -/
namespace Sg
open PySem PySem.Spec PyProof.Rows L2
section
variable {X : Cx} {pins pins' : List (Addr × Obj)} {st : L2.St} {H H' : Hp} {s s' : Shared} {h2 B : Heap} {ea t : Addr} {C D : Addr} {xe : Value → Shared → Prop} {G : Gr} {Hf : Hp}
end
end Sg

/-! dicts that are walked: known to the object while so -/
namespace Sg
open PySem PySem.Spec PyProof.Rows L2
def Itd (d : Addr) (ob : Obj) (kvs : List (Key × V)) : It :=
  ⟨fun i H => H d = some (.frz ob (.dK kvs)) ∧ i < kvs.length, fun i H v H' => H' = H ∧ ∃ kv, kvs[i]? = some kv ∧ v = kV kv.1, fun i H => H d = some (.frz ob (.dK kvs)) ∧ i = kvs.length⟩
section
variable {X : Cx} {G : Gr} {E : XK} {dl : List Slot} {a b e i o : Expr} {d : Dt} {pos p : Pos} {k x : Str} {kds : List (Key × Dt)} {sts : List Stmt} {ou : Out}
def iDictF (ta : TE) : TI := fun σ H R => ta σ H fun v H1 => ∃ d ob kvs, v = .ref d ∧ H1 d = some (.frz ob (.dK kvs)) ∧ R (Itd d ob kvs) H1
end
end Sg

/-! an exception class of one's own, over another of one's own, with an __init__: the call makes it and runs the __init__ -/
namespace Sg
open PySem PySem.Spec PyProof.Rows L2
section
variable {prog : Program} {w : World} {A : Around} {E : Value → Shared → Prop} {h : Heap} {g : Array GenState} {d : Drawn} {t : Nat} {os : OsState}
variable {nm q : Str} {C N : Addr} {bs bm bmB bmN : List Value} {hdct : Bool} {sn : List Str} {sub : List Value} {ab : Bool} {col : Option Bool} {dd : Option Addr} {k0 k1 k2 k3 k5 : Option Value} {B Bn newId nid initId inN : String}
theorem type_call_initU (Fn : ExcBaseFacts Bn newId inN bmN) (hBn : bmB.contains (.type Bn) = true) (F : ExcBaseFacts B nid initId bmB) (T : OwnTail h bmB bm) {mN : Str → Option Value} {rest : List Value} {fI : Addr} {oI : Obj} {Q : Fin → Shared → Prop}
    (hC : h.get? C = some (excClassObj nm q C N bs bm hdct sn sub ab col dd k0 k1 k2 k3 k5 newId)) (hn : h.Ns N mN) (hi : mN "__init__" = some (.ref fI)) (hfI : h.get? fI = some oI) (hfc : oI.cls = .type "function")
    (hq : ∀ h' e, h.objs.size ≤ e → Heap.MadeExcOf h h' e (.ref C) rest → wpAny (model prog w) A (call (.ref fI) (.ref e :: rest)) (fun r s' => r = .none ∧ Q (.done (.ret (.ref e))) s') E ⟨h', g, d, t, os⟩) (hrest : rest.length ≤ sizeLine) :
    wpAny (model prog w) A (Builtin.«type.__call__» ⟨.ref C :: rest, []⟩) Q E ⟨h, g, d, t, os⟩ := by
  repeat (first | with_reducible refine wpAny_loadPart_at hC ?_ | with_reducible refine wpAny_madeBy_exc hC ?_ | wp_step)
  refine codeAny_call_builtin_code (Code.quiet_builtin _ Fn.quiet) (wpAny_check_new_subU Fn hBn T hC ?_)
  refine codeAny_exc_new_subU Fn hBn F T hC ?_ hrest
  show wpAny _ _ _ _ _ _
  let h2 := (h.push { cls := .type "tuple", data := .seq rest.toArray }).push { cls := .ref C, data := .fields #[.ref h.objs.size, .none, .none, .none, .bool false, .none] }
  have up : ∀ b o, h.get? b = some o → h2.get? b = some o := fun b o e => Heap.get?_push_of_some _ (Heap.get?_push_of_some _ e)
  have hC1 := up _ _ hC
  have hn1 : h2.Ns N mN := hn.keeps up
  have hget : h2.get? (h.objs.size + 1) = some { cls := .ref C, data := .fields #[.ref h.objs.size, .none, .none, .none, .bool false, .none] } := by
    show ((h.push _).push _).get? _ = _
    heap_get
  have hcC : (Value.ref C :: bm).contains (.ref C) = true := by simp
  have T1 := T.keeps (h' := h2) up
  unfold isInstance
  repeat (first | with_reducible refine wpAny_loadPart_at hget ?_ | (with_reducible refine wpAny_isSubtype_exc hC1 ?_; rw [hcC]) | wp_step)
  show wpAny _ _ (typeLookup (.ref C) _) _ _ _
  refine wpAny_typeLookup_tail hC1 hn1 T1 F.mroIs F.init.lookup ?_
  rw [hi]
  refine wpAny_holding (wpAny_bind ?_)
  unfold bindSpecial
  refine wpAny_bind (wpAny_typeOf (T := "function") ⟨_, up _ _ hfI, hfc⟩ ?_)
  rw [if_pos (by decide)]
  refine wpAny_pure (wpAny_bind (wpAny_mono (hq _ (h.objs.size + 1) (Nat.le_succ _) ⟨up, Heap.get?_none_of_le (Nat.le_succ _), h.objs.size, hget, Heap.get?_none_of_le (Nat.le_refl _), ?_⟩) (fun r s' hr => ?_) fun _ _ x => x))
  · exact Heap.get?_push_of_some _ (Heap.get?_push_at rfl rfl)
  · obtain ⟨rfl, hQ⟩ := hr
    wp_walk
    exact hQ
theorem call_initU (Fn : ExcBaseFacts Bn newId inN bmN) (hBn : bmB.contains (.type Bn) = true) (F : ExcBaseFacts B nid initId bmB) (T : OwnTail h bmB bm) {mN : Str → Option Value} {rest : List Value} {fI : Addr} {oI : Obj} {Q : Value → Shared → Prop}
    (hC : h.get? C = some (excClassObj nm q C N bs bm hdct sn sub ab col dd k0 k1 k2 k3 k5 newId)) (hn : h.Ns N mN) (hi : mN "__init__" = some (.ref fI)) (hfI : h.get? fI = some oI) (hfc : oI.cls = .type "function")
    (hq : ∀ h' e, h.objs.size ≤ e → Heap.MadeExcOf h h' e (.ref C) rest → wpAny (model prog w) (A.under (.builtin "type.__call__" ⟨.ref C :: rest, []⟩)) (call (.ref fI) (.ref e :: rest)) (fun r s' => r = .none ∧ Q (.ref e) s') E ⟨h', g, d, t, os⟩) (hrest : rest.length ≤ sizeLine) :
    wpAny (model prog w) A (call (.ref C) rest) Q E ⟨h, g, d, t, os⟩ := by
  have f1 := tc_lookup
  have f2 := tc_bind (.ref C)
  have hT : (⟨h, g, d, t, os⟩ : Shared).TypeIs (.ref C) "type" := ⟨_, hC, rfl⟩
  refine wpAny_call (codeAny_of_tree ?_)
  show wpAny _ _ (callAny (.ref C) _) _ _ _
  repeat (any_goals (first | assumption | with_reducible refine wpAny_loadPart_at hC ?_ | wp_step))
  refine ⟨rfl, ?_⟩
  exact codeAny_call_builtin_at (Code.quiet_builtin _ (by decide +kernel)) entry_typeCall (wpAny_check_type_call_sub hC (type_call_initU Fn hBn F T hC hn hi hfI hfc (fun h' e hz hm => hq h' e hz hm) hrest))
end
end Sg

/-! exceptions of one's own with an __init__ and a field -/
namespace Sg
open PySem PySem.Spec PyProof.Rows L2
/-- an exception that is made and not yet raised -/
def exO (C t : Addr) (od : Option Addr) : Obj := { cls := .ref C, dict := od, data := .fields #[.ref t, .none, .none, .none, .bool false, .none] }
def ExB (h : Heap) (e C : Addr) (od : Option Addr) : Prop := ∃ t : Addr, h.get? e = some (exO C t od)
section
variable {prog : Program} {w : World} {A : Around} {E : Value → Shared → Prop} {h : Heap} {g : Array GenState} {d : Drawn} {t : Nat} {os : OsState}
variable {nm q : Str} {C N : Addr} {bs bm bmB bmN : List Value} {hdct : Bool} {sn : List Str} {sub : List Value} {ab : Bool} {col : Option Bool} {dd : Option Addr} {k0 k1 k2 k3 k5 : Option Value} {B Bn newId nid initId inN : String}
theorem base_init (F : ExcBaseFacts B nid initId bmB) (T : OwnTail h bmB bm) {e t0 : Addr} {od : Option Addr} {a : Value} {Q : Value → Shared → Prop}
    (hC : h.get? C = some (excClassObj nm q C N bs bm hdct sn sub ab col dd k0 k1 k2 k3 k5 newId)) (he : h.get? e = some (exO C t0 od))
    (hq : ∀ h', ExB h' e C od → (∀ b o, b ≠ e → h.get? b = some o → h'.get? b = some o) → Q .none ⟨h', g, d, t, os⟩) :
    wpAny (model prog w) A (call (.builtin initId) [.ref e, a]) Q E ⟨h, g, d, t, os⟩ := by
  have he' : h.get? e = some { cls := .ref C, dict := od, data := .fields #[.ref t0, .none, .none, .none, .bool false, .none] } := he
  refine wpAny_call (codeAny_call_builtin F.init.plain F.initEntry (wpAny_check_init_subU F T hC he' rfl ?_))
  wp_walk
  refine hq _ ⟨h.objs.size, ?_⟩ fun b o hb h1 => ?_
  · rw [Heap.get?_update_self _ (Heap.get?_push_of_some _ he') rfl]; rfl
  · rw [Heap.get?_update_other _ _ (Ne.symm hb)]; exact Heap.get?_push_of_some _ h1
/-- the store of a field into an exception of one's own -/
structure StX (K : PySem.W.Frag) (C : Addr) (f : Str) : Prop where
  sa : PySem.W.findIn K (.ref C) "__setattr__" = some (some (.builtin "object.__setattr__"))
  na : PySem.W.findIn K (.ref C) f = some none
  ob : PySem.W.mroIn K C (.type "object") = some true
  mr : ∃ G, (PySem.W.clsIn K C).map (·.mro) = some [.ref C, .ref G, .type "ValueError", .type "Exception", .type "BaseException", .type "object"]
  hd : (PySem.W.clsIn K C).map (·.hasDict) = some true
end
section
variable {prog : Program} {w : World} {A : Around} {E : Value → Shared → Prop} {K : PySem.W.Frag} {C e t0 : Addr} {f : Str} {v : Value} {s : Shared}
open Builtin Builtin.ObjectAttr
theorem xstore {tk : Tok} {R : Result → Shared → Prop} (X : K.In s.heap) (S : StX K C f) (he : s.heap.get? e = some (exO C t0 none))
    (hq : ∀ h' tk' dx mA, h'.get? e = some (exO C t0 (some dx)) → s.heap.objs.size ≤ dx → h'.Ns1 dx mA → mA f = some v → (∀ y, y ≠ f → mA y = none) → (∀ b o, b ≠ e → s.heap.get? b = some o → h'.get? b = some o) → R (.ok (.ret .none)) { s with heap := h', toks := tk' }) :
    codeAny (model prog w) A (.call (.builtin "object.__setattr__") ⟨[.ref e, .str f tk, v], []⟩) R s := by
  have SF := PySem.F.store_object
  obtain ⟨G, hmr⟩ := S.mr
  obtain ⟨cd, hc, hm⟩ := Option.map_eq_some_iff.mp hmr
  have hhd : cd.hasDict = true := by have := S.hd; rw [hc] at this; exact Option.some.inj this
  have hty : PySem.W.Looks (model prog w) s.heap (typeOf (.ref e)) (.ref C) := IsOf.ty ⟨_, he, rfl⟩
  have sub : PySem.W.Looks (model prog w) s.heap (isInstance (.ref e) (.type "object")) true := hty.andThen (PySem.W.looks_mroIn X S.ob)
  refine codeAny_call_builtin SF.slot.plain SF.entry (@PySem.W.check_slot (model prog w) _ _ s "object.__setattr__" "object" "__setattr__" (.ref e) [.str f tk, v] [] _ SF.kind SF.split sub (SF.args (.ref e) (.str f tk) v) ?_)
  have hmro : PySem.W.Looks (model prog w) s.heap (mroOf (.ref C)) cd.mro := (PySem.W.looks_clsIn X hc).andThen .now
  rw [PySem.W.osa_eq, refuse_eq]
  refine wpAny_bind (wpAny_bind (hty.here (wpAny_bind (hmro.here ?_))))
  rw [hm, refuseLoop_ref, refuseLoop_ref, PySem.F.store_ValueError.passes]
  refine wpAny_pure (wpAny_bind (hty.here (wpAny_bind ((PySem.W.looks_findIn X S.na).here (wpAny_bind (PySem.W.Looks.now.here ?_))))))
  show wpAny _ _ (storeInOwnDict (.ref e) (.ref C) (.str f tk) f v false) _ _ _
  refine wpAny_bind (wpAny_pure (wpAny_bind (wpAny_bind (wpAny_loadPart he (wpAny_bind ((PySem.W.looks_clsIn X hc).here ?_))))))
  rw [hhd]
  have hes : e ≠ s.heap.objs.size := Nat.ne_of_lt (Heap.lt_size he)
  have hx1 : (s.heap.push { cls := .type "dict", data := .dict #[] }).get? e = some (exO C t0 none) := Heap.get?_push_of_some _ he
  refine wpAny_bind (wpAny_alloc' ?_)
  refine wpAny_bind (wpAny_update' hx1 ?_)
  refine wpAny_pure ?_
  have hgd : ((s.heap.push { cls := .type "dict", data := .dict #[] }).update e fun o => { cls := o.cls, dict := some s.heap.objs.size, data := o.data, slots := o.slots }).get? s.heap.objs.size = some { cls := .type "dict", data := .dict #[] } :=
    (Heap.get?_update_ne _ _ _ _ hes.symm).trans (Heap.get?_push_at rfl rfl)
  have hnd : ((s.heap.push { cls := .type "dict", data := .dict #[] }).update e fun o => { cls := o.cls, dict := some s.heap.objs.size, data := o.data, slots := o.slots }).Ns s.heap.objs.size (fun _ => none) :=
    ⟨_, #[], _, hgd, rfl, fun e he => absurd he (by simp), fun _ => rfl⟩
  show wpAny _ _ (storeInDict s.heap.objs.size (.str f tk) f v) _ _ _
  unfold storeInDict newKeyGuard
  refine wpAny_bind (wpAny_pure (wpAny_bind (wpAny_nsSet1 (Heap.Ns1.of_empty hnd) fun h' hn' hs => ?_)))
  obtain ⟨oD, esD, epD, hoD, hdD, hcD⟩ := hn'.count (Within.cons f v Within.nil)
  refine wpAny_bind (wpAny_lookBehind hoD (by rw [hdD]; exact pastItsLine_dict (Nat.le_trans hcD (by rw [List.length_cons, List.length_nil, sizeLine_eq]; omega))) ?_)
  refine wpAny_pure (hq h' _ s.heap.objs.size _ ((hs.2 e hes).trans (Heap.get?_update_self _ hx1 rfl)) (Nat.le_refl _) hn' (by simp) (fun y hy => by simp [hy]) fun b o hb h1 => ?_)
  exact (hs.2 b (Nat.ne_of_lt (Heap.lt_size h1))).trans ((Heap.get?_update_ne _ _ _ _ hb).trans (Heap.get?_push_of_some _ h1))
end
/-- what a name space of the text holds -/
theorem ns_ofI {K : PySem.W.Frag} {h : Heap} {N : Addr} {mN : Str → Option Value} {n : Str} {v : Value} (X : K.In h) (G : h.Ns N mN) (e : PySem.W.nsIn K N n = some (some v)) : mN n = some v := by
  obtain ⟨o, es, ep, ho, hd, _, hf⟩ := G
  unfold PySem.W.nsIn at e
  split at e
  · rename_i q
    have z := X _ _ q
    rw [ho] at z
    cases z
    cases hd
    split at e
    · rename_i en he
      cases e
      rw [← hf]
      unfold nsFind findBy; rw [← Array.find?_toList, he]
      rfl
    · split at e <;> cases e
  · cases e
/-! ### classes of exceptions with an __init__ of their own -/
def excInI (K : PySem.W.Frag) (C : Addr) (bmB : List Value) (nw : String) (fI : Addr) : Bool := match K.lookup C with
  | some ⟨.type "type", _, .cls cd, sl⟩ => (match cd.mro, sl.toList with
    | .ref D :: tl, [_, _, _, _, some (.builtin n), _] => D == C && (n == nw && (!cd.hasDel && (PySem.W.tailIn K bmB tl && (PySem.W.nsOkIn K cd.ns && (PySem.W.nsIn K cd.ns "__init__" == some (some (.ref fI)))))))
    | _, _ => false)
  | _ => false
theorem excI_obj {K : PySem.W.Frag} {h : Heap} {C fI : Addr} {bmB : List Value} {nw : String} (X : K.In h) (hq : excInI K C bmB nw fI = true) :
    ∃ z1 z2 z3 z4 z5 z6 z7 z8 z9 y1 y2 y3 y4 y5 y6 y7 mN, h.get? C = some (excClassObj z3 z4 C z2 z5 z1 z6 z7 z8 z9 y1 y2 y3 y4 y5 y6 y7 nw) ∧ h.Ns z2 mN ∧ mN "__init__" = some (.ref fI) ∧ OwnTail h bmB z1 := by
  unfold excInI at hq
  split at hq
  · rename_i odd ccd slots hlook
    split at hq
    · rename_i C2 tl a0 a1 a2 a3 nn a5 hmro hsl
      simp only [Bool.and_eq_true] at hq
      obtain ⟨q1, q2, q3, q4, q5, q6⟩ := hq
      have q1 := beq_iff_eq.mp q1
      have q2 := beq_iff_eq.mp q2
      have q3 : ccd.hasDel = false := by simpa using q3
      have q6 := beq_iff_eq.mp q6
      subst q1 q2
      have es : slots = #[a0, a1, a2, a3, some (.builtin nn), a5] := by
        have : slots.toList = [a0, a1, a2, a3, some (.builtin nn), a5] := hsl
        rw [← Array.toArray_toList (xs := slots), this]
      obtain ⟨c1, c2, c3, c4, c5, c6, c7, c8, c9, c10, c11⟩ := ccd
      cases q3
      have hmro : c3 = .ref C2 :: tl := hmro
      subst hmro
      subst es
      have hN : h.Ns c4 (h.nsMap c4) := .of_isNs (PySem.W.isNs_of_in X q5)
      exact ⟨tl, c4, c1, c5, c2, c6, c7, c8, c9, c10, odd, a0, a1, a2, a3, a5, _, X _ _ hlook, hN, ns_ofI X hN q6, PySem.W.tail_of_in X q4⟩
    · cases hq
  · cases hq

structure XcI (K : PySem.W.Frag) (C fI : Addr) : Prop where
  ex : excInI K C bmV "ValueError.__new__" fI = true
  fn : PySem.W.typeIn K (.ref fI) = some (.type "function")
  kp : PySem.W.keepIn K (.ref C) = true
/-- the class whose __init__ is called by name -/
structure XcB (K : PySem.W.Frag) (G : Addr) : Prop where
  sp : PySem.W.specialIn K (.ref G) "__getattribute__" = some (some (.builtin "type.__getattribute__"))
  rd : PySem.W.readsIn K G (.type "type") = true
  fc : PySem.W.findCls K (.ref G) (.type "type") "__init__" = some (.val (.builtin "ValueError.__init__"))
theorem upd_eq {H : Hp} {z : Addr} {o : HO} (h : H z = some o) : upd H z o = H := by
  funext b
  by_cases e : b = z
  · subst e; rw [upd_same, h]
  · rw [upd_ne e]
theorem xb_stay {z C : Addr} {od : Option Addr} {h1 h2 : Heap} (a : ExB h1 z C od) (k : ∀ o, h1.get? z = some o → h2.get? z = some o) : ExB h2 z C od := let ⟨t, e⟩ := a; ⟨t, k _ e⟩
abbrev xT (z C : Addr) (od : Option Addr) : HO := .ext fun h => ExB h z C od
theorem xok {P : Program} {w : World} {H : Hp} {h : Heap} {z C : Addr} {od : Option Addr} (a : ExB h z C od) : ObjOk P w H h z (xT z C od) := ⟨a, let ⟨t, e⟩ := a; ⟨_, e⟩, fun _ _ b k => xb_stay b k⟩
section
variable {X : Cx} {C fI G z : Addr} {a b e : Expr} {es : List Expr} {p p1 p3 pos apos cpos : Pos} {gN x f : Str} {ta tv : TE} {t : TA} {pl : Sem Bool}
def tBI (C : Addr) (t : TA) : TE := fun σ H Q => t σ H fun vs H1 => ∃ z x, vs = [.ref z, .str x] ∧ H1 z = some (xT z C none) ∧ Q .non H1
/-- G.__init__(self, text) -/
theorem pe_binit (hC : XcI X.K C fI) (hB : XcB X.K G) (hm : X.mg gN = some (.ref G)) (hg : Gl X gN) (ha : PA X [a, b] t) (hdb : (gN == ("__debug__" : Str)) = false := by decide)
    (hst : starEach [a, b] X.env = (false, eval a X.env) :: starEach [b] X.env := by rfl) (hpl : (backTo pos (starEach [b] X.env)).any (·.1) = false := by rfl)
    (ht : eval (.Call (.Attribute (.Name gN p1) "__init__" apos) [a, b] [] pos) X.env = (do
      let ov ← eval (.Name gN p1) X.env
      standAt apos.atName
      let (f, first) ← holding [ov] (getMethod ov "__init__" pl)
      callWith pos f first (backTo pos (starEach [a, b] X.env)) (backToKw pos (keywordEach [] X.env))) := by rfl) :
    PE X (.Call (.Attribute (.Name gN p1) "__init__" apos) [a, b] [] pos) (tBI C t) := by
  intro pins s σ H Q I h
  refine PySem.W.methodCall_KW (pl := pl) (ld_glob I hg hm ?_ hdb) ht
  refine PySem.W.method_cls I.kIn hB.sp (PySem.W.cls_value (mc := .type "type") I.kIn hB.rd hB.fc rfl ?_)
  refine PyProof.Rows.callWith_builtin1 (thn (ha pos pins { s with toks := s.toks + 1 } σ H _ (I.tok _) h) fun us s1 ⟨vs, H1, I1, r1, q1⟩ => ?_) hst hpl
  obtain ⟨z, y, rfl, hz, q⟩ := q1
  cases r1 with
  | cons ra rr =>
    cases rr with
    | cons rb r0 =>
      cases r0
      cases ra
      obtain ⟨t0, he⟩ : ExB s1.heap z C none := (show ObjOk X.prog X.w H1 s1.heap z (xT z C none) from I1.hok z _ hz).1
      obtain ⟨z1, z2, z3, z4, z5, z6, z7, z8, z9, y1, y2, y3, y4, y5, y6, y7, mN, hO, hN, hni, hT⟩ := excI_obj I1.kIn hC.ex
      refine base_init (F := PySem.F.excBase_ValueError) hT hO he fun h' xb keep => ⟨.non, H1, ?_, rfl, q⟩
      have W := I1.write (x := z) (e := z) (o := xT z C none) (t' := s1.toks) (h' := h') (by rw [hz]; trivial) (.inl rfl) keep (let ⟨t, e⟩ := xb; ⟨_, e⟩) (xok xb)
      rw [upd_eq hz] at W
      exact W
end
section
variable {prog : Program} {w : World} {A : Around} {E : Value → Shared → Prop} {K : PySem.W.Frag} {C e t0 : Addr} {f : Str} {v : Value} {s : Shared}
theorem xset {Q : Unit → Shared → Prop} (X : K.In s.heap) (S : StX K C f) (he : s.heap.get? e = some (exO C t0 none))
    (hq : ∀ h' tk' dx mA, h'.get? e = some (exO C t0 (some dx)) → s.heap.objs.size ≤ dx → h'.Ns1 dx mA → mA f = some v → (∀ y, y ≠ f → mA y = none) → (∀ b o, b ≠ e → s.heap.get? b = some o → h'.get? b = some o) → Q () { s with heap := h', toks := tk' }) :
    wpAny (model prog w) A (setAttr (.ref e) f v) Q E s := by
  have hty : PySem.W.Looks (model prog w) s.heap (typeOf (.ref e)) (.ref C) := IsOf.ty ⟨_, he, rfl⟩
  refine wpAny_bind (wpAny_mkText (wpAny_bind (wpAny_bind (wpAny_bind (hty _ _ _ _ (fun _ _ e => e) (PySem.W.looks_findIn X S.sa _ _ _ _ (fun _ _ e => e) (wpAny_holding ?_)))))))
  rw [PySem.F.store_object.slot.bind]
  refine wpAny_bind (wpAny_pure (wpAny_bind (wpAny_call (xstore (s := { s with toks := s.toks + 1 }) X S he fun h' tk' dx mA a1 a2 a3 a4 a5 a6 => ?_))))
  exact wpAny_pure (wpAny_pure (hq h' tk' dx mA a1 a2 a3 a4 a5 a6))
end
section
variable {X : Cx} {pins : List (Addr × Obj)} {σ : List (Option V)} {H : Hp} {s : Shared} {h' : Heap} {C z dx : Addr} {o : HO}
/-- the exception has its dict now -/
theorem inv_xf {tk : Nat} (I : L2.Inv X pins σ H s) (hz : H z = some (xT z C none)) (hd : s.heap.objs.size ≤ dx) (xb : ExB h' z C (some dx)) (hx : ObjOk X.prog X.w (upd (upd H dx o) z (xT z C (some dx))) h' dx o)
    (k : ∀ b u, b ≠ z → s.heap.get? b = some u → h'.get? b = some u) : L2.Inv X pins σ (upd (upd H dx o) z (xT z C (some dx))) { s with heap := h', toks := tk } := by
  have hn : H dx = none := I.hok.fresh hd
  have nz : dx ≠ z := fun e => by rw [e, hz] at hn; cases hn
  have at_ : ∀ b u, H b = some u → b ≠ z → upd (upd H dx o) z (xT z C (some dx)) b = some u := fun b u e h => by rw [upd_ne h, upd_ne (ne_of_none e hn)]; exact e
  refine I.step (g' := s.gens) (d' := s.drawn) (t' := tk) (ch := []) (fun b hb => absurd hb (by simp)) (fun b u _ _ _ e n => k b u (fun q => by rw [q, hz] at n; cases n) e) (fun b u _ _ _ e n => ⟨u.slots, k b u (fun q => by rw [q, hz] at n; cases n) e⟩)
    (fun b u _ e n => ?_) (fun b u _ e => ?_) (fun b xs e => at_ b _ e fun q => by rw [q, hz] at e; cases e) (fun b ob u e => at_ b _ e fun q => by rw [q, hz] at e; cases e) (fun b ps e => ⟨#[], by rw [at_ b _ e fun q => by rw [q, hz] at e; cases e]; simp⟩) (fun m hm => ?_) (fun b u e => ?_) I.bare
  · have b1 : b ≠ z := fun q => by rw [q, hz] at n; cases n
    have b2 : b ≠ dx := Nat.ne_of_lt (Nat.lt_of_lt_of_le (Heap.lt_size e) hd)
    rw [upd_ne b1, upd_ne b2]; exact n
  · by_cases hb : b = z
    · subst hb; obtain ⟨t, q⟩ := xb; exact ⟨_, q⟩
    · exact ⟨u, k b u hb e⟩
  · obtain ⟨ob, es, ep, ho, r⟩ := hm
    exact ⟨ob, es, ep, k _ ob (fun q => by have := I.free; rw [← q, this] at hz; cases hz) ho, r⟩
  · by_cases hb : b = z
    · subst hb; rw [upd_same] at e; cases e; exact xok xb
    · rw [upd_ne hb] at e
      by_cases hb2 : b = dx
      · subst hb2; rw [upd_same] at e; cases e; exact hx
      · rw [upd_ne hb2] at e
        refine (I.hok b u e).stay (fun c v hc q => k c v ?_ q) (fun c q => at_ c _ q fun q' => by rw [q', hz] at q; cases q) fun c xs q => at_ c _ q fun q' => by rw [q', hz] at q; cases q
        rcases hc with r | r
        · rw [r]; exact hb
        · exact fun q' => by rw [q', hz] at r; cases r
end
section
variable {X : Cx} {C fI G z : Addr} {a b e value o : Expr} {es : List Expr} {p p1 p3 pos apos cpos pos' : Pos} {gN x f : Str} {ta tv : TE} {t : TA} {pl : Sem Bool}
def sXF (C : Addr) (f : Str) (ta tv : TE) : TS := fun D σ H => tv σ H fun v H1 => ta σ H1 fun y H2 => ∃ z, y = .ref z ∧ H2 z = some (xT z C none) ∧ ∀ dx, H2 dx = none → dx ≠ z → D.nx σ (upd (upd H2 dx (.xd [(f, v)])) z (xT z C (some dx)))
theorem ps_xfld (S : StX X.K C f) (ha : PE X o ta) (hv : PE X value tv) (hs : swapsWith value (some (.Attribute o f pos')) pos.line X.env = pure false) : PS X (.Assign [.Attribute o f pos'] value pos) (sXF C f ta tv) := by
  intro pins s σ H D I h
  refine plainObj_wpAny_Assign_Attribute (thn (hv pins s σ H _ I h) fun u s1 ⟨y, H1, I1, ry, q⟩ => thn (ha pins s1 σ H1 _ I1 q) fun ov s2 ⟨x, H2, I2, rx, z, ex, hz, q2⟩ => ?_) hs
  subst ex
  obtain rfl : ov = Value.ref z := rx
  obtain ⟨t0, he⟩ : ExB s2.heap z C none := (show ObjOk X.prog X.w H2 s2.heap z (xT z C none) from I2.hok z _ hz).1
  refine xset I2.kIn S he fun h' tk' dx mA a1 a2 a3 a4 a5 a6 => ?_
  have hn : H2 dx = none := I2.hok.fresh a2
  refine ⟨σ, _, inv_xf (o := .xd [(f, y)]) I2 hz a2 ⟨t0, a1⟩ ⟨mA, a3, fun g => ?_⟩ a6, q2 dx hn fun e => by rw [e, hz] at hn; cases hn⟩
  rw [List.lookup_cons]
  by_cases hg : g = f
  · subst hg; rw [beq_self_eq_true, a4]; exact ry
  · rw [beq_eq_false_iff_ne.mpr hg, a5 g hg]; exact trivial
end
end Sg

/-! exceptions with a field: made, raised, read -/
namespace Sg
open PySem PySem.Spec PyProof.Rows L2
section
variable {X : Cx} {G : Gr} {dl : List Slot} {e : Expr} {y : Str} {i : Int} {pos p1 p2 : Pos}
/-- f'a{e}', e a whole number -/
theorem ee_fmtI {jk : Nat} (he : EE X G dl e (.int i)) (hi : i.natAbs.log2 < 1920) (h2 : (Str.empty ++ y).length ≤ sizeLine) (h3 : (Str.empty ++ y ++ Str.ofString (toString i)).length ≤ sizeLine) :
    EE X G dl (.JoinedStr [.Constant (.str y) jk p1, .FormattedValue e (-1) none p2] pos) (.str (Str.empty ++ y ++ Str.ofString (toString i))) := by
  intro pins s st H Q I ⟨Hf, S, k⟩
  refine wpAny_JoinedStr ?_
  refine thn (pe_str (X := X) (j := jk) (pos := p1) pins s st H (fun v H1 => v = .str y ∧ H1 = H) I ⟨rfl, rfl⟩) fun v s1 ⟨v1, H1, I1, r1, e1, e2⟩ => ?_
  subst e1 e2
  obtain ⟨t1, rfl⟩ := (show ∃ t, v = Value.str y t from r1)
  refine ⟨y, t1, rfl, h2, ?_⟩
  refine wpAny_FormattedValue_plain (thn (he pins s1 st H1 (fun v H2 => v = .int i ∧ ∃ Hf2, Grow Hf H1 Hf2 H2) I1 ⟨Hf, S, fun v Hf2 H2 g2 r2 => by cases r2; exact ⟨rfl, Hf2, g2⟩⟩) fun v s2 ⟨v2, H2, I2, r2, e2, Hf2, g2⟩ => ?_)
  subst e2
  obtain ⟨t2, rfl⟩ := (show ∃ t, v = Value.int i t from r2)
  exact wpAny_formatField_int hi ⟨_, _, rfl, h3, h3, .str (Str.empty ++ y ++ Str.ofString (toString i)), H2, (I2.tok _).tok _, ⟨_, rfl⟩, k _ Hf2 H2 g2 (.str _)⟩
end
/-! ### the __init__ -/
def spX (K : PySem.W.Frag) (C : Addr) (f : Str) (ok : Dt → Prop) : Sp := fun vs H Q E => ∃ Hf H1 z v d, vs = [.ref z, v] ∧ H = upd H1 z (xT z C none) ∧ H1 z = none ∧ Same Hf H1 ∧ Rep K Hf v d ∧ ok d ∧
  ∀ Hf2 H2 dx, Grow Hf H Hf2 H2 → H2 dx = none → dx ≠ z → Q .non (upd (upd H2 dx (.xd [(f, v)])) z (xT z C (some dx)))
def sXI (K : PySem.W.Frag) (C : Addr) (f : Str) (d : Dt) : TS := fun D σ H => ∃ Hf z v, σ = [some (.ref z), some v] ∧ H z = some (xT z C none) ∧ Same Hf H ∧ Rep K Hf v d ∧
  ∀ Hf2 H2 dx, Grow Hf H Hf2 H2 → H2 dx = none → dx ≠ z → D.nx σ (upd (upd H2 dx (.xd [(f, v)])) z (xT z C (some dx)))
theorem fn_xinit {P : Program} {w : World} {K : PySem.W.Frag} {mg : Str → Option Value} {base : Heap} {CX : CXT} {qual nm : Str} {st : Stmt} {fI C : Addr} {fd : FuncData} {N ps : List Str} {k : Nat} {f : Str} {ok : Dt → Prop} (F : FunG K nm qual st fI fd) (S : FnScope N ps (defScope st)) (hN : N.length = 2) (hp : ps.length = 2)
    (hbody : ∀ (cdv : Value) (A : Around) (outer : List Env) (s : Shared) (H : Hp) (E : XK) (d : Dt), Room k (A.deeper (envOfC qual (defScope st) s.heap.objs.size fI cdv)) → ok d → PSs (cxOf CX P w K mg base N qual (defScope st) fI cdv A outer s H E) (defBody st) (sXI K C f d)) : FnOk P w K mg base CX (k + 1) fI fd ps (spX K C f ok) := by
  obtain ⟨oc, od, dV, kV, doc, pm, an, cdv, ct, osl, rfl, lk, hcd⟩ := F.ex
  refine fn_of lk hcd S (fun vs H Q E ⟨Hf, H1, z, v, d, e, _⟩ => by rw [e, hp]; rfl) fun A outer s H vs Q E hr ⟨Hf, H1, z, v, d, e1, e2, hz, sm, rp, ho, hk⟩ => ?_
  subst e1 e2
  refine ⟨_, hbody cdv A outer s _ E d hr ho, Hf, z, v, ?_, upd_same, same_updO sm (sm.free hz), rp, hk⟩
  unfold L2.start
  simp [hN]
section
variable {X : Cx} {C fI Gc : Addr} {a tx : Expr} {p1 p2 p3 p4 pos pos' apos apos' cpos : Pos} {gN an sn f y : Str} {d : Dt} {pl : Sem Bool}
theorem xbody (hC : XcI X.K C fI) (hB : XcB X.K Gc) (hS : StX X.K C f) (hm : X.mg gN = some (.ref Gc)) (ht : ∀ G, EE X G [.unk, .val d] tx (.str y)) (hg : Gl X gN := by rfl) (hN0 : X.N[0]? = some sn := by rfl) (hN1 : X.N[1]? = some an := by rfl)
    (hv0 : Vis X.env.scope sn := by first | exact Or.inl rfl | exact Or.inr (Or.inl rfl) | exact Or.inr (Or.inr rfl)) (hv1 : Vis X.env.scope an := by first | exact Or.inl rfl | exact Or.inr (Or.inl rfl) | exact Or.inr (Or.inr rfl))
    (hb0 : (sn == ("__debug__" : Str)) = false := by decide) (hc0 : (sn == ("__classdict__" : Str)) = false := by decide) (hb1 : (an == ("__debug__" : Str)) = false := by decide) (hc1 : (an == ("__classdict__" : Str)) = false := by decide)
    (hdb : (gN == ("__debug__" : Str)) = false := by decide) (hst : starEach [.Name sn p2, tx] X.env = (false, eval (.Name sn p2) X.env) :: starEach [tx] X.env := by rfl) (hst2 : starEach [tx] X.env = (false, eval tx X.env) :: starEach [] X.env := by rfl) (hpl : (backTo cpos (starEach [tx] X.env)).any (·.1) = false := by rfl)
    (hev : eval (.Call (.Attribute (.Name gN p1) "__init__" apos) [.Name sn p2, tx] [] cpos) X.env = (do
      let ov ← eval (.Name gN p1) X.env
      standAt apos.atName
      let (f, first) ← holding [ov] (getMethod ov "__init__" pl)
      callWith cpos f first (backTo cpos (starEach [.Name sn p2, tx] X.env)) (backToKw cpos (keywordEach [] X.env))) := by rfl)
    (hsw : swapsWith (.Call (.Attribute (.Name gN p1) "__init__" apos) [.Name sn p2, tx] [] cpos) none pos.line X.env = pure false := by rfl) (hs2 : swapsWith (.Name an p4) (some (.Attribute (.Name sn p3) f apos')) pos'.line X.env = pure false := by rfl) :
    PSs X [.Expr (.Call (.Attribute (.Name gN p1) "__init__" apos) [.Name sn p2, tx] [] cpos) pos, .Assign [.Attribute (.Name sn p3) f apos'] (.Name an p4) pos'] (sXI X.K C f d) := by
  intro pins s σ H D I ⟨Hf, z, v, e, hz, sm, r, k⟩
  subst e
  have S : Stt X.K ⟨Hf, H⟩ [some (.ref z), some v] Hf H [.unk, .val d] := by
    refine ⟨.refl sm, rfl, fun i d' h => ?_, fun i o h => ?_, fun i j o o' a h => ?_⟩
    · match i, h with
      | 1, h => cases h; exact ⟨v, rfl, r⟩
    · match i, h with
      | 0, h => cases h
      | 1, h => cases h
    · match i, h with
      | 0, h => cases h
      | 1, h => cases h
  refine (pss_cons (ps_expr (pe_binit (pl := pl) hC hB hm hg (pa_cons (pe_var (i := 0) hN0 hv0 hb0 hc0) (pa_cons (ht ⟨Hf, H⟩) pa_nil hst2) hst) hdb hst hpl hev) hsw) (pss_one (ps_xfld hS (pe_var (i := 0) hN0 hv0 hb0 hc0) (pe_var (i := 1) hN1 hv1 hb1 hc1) hs2))) pins s _ H D I ?_
  refine ⟨.ref z, rfl, Hf, S, fun x Hf1 H1 g1 r1 => ?_⟩
  cases r1
  exact ⟨z, y, rfl, g1.big _ _ hz, v, rfl, .ref z, rfl, z, rfl, g1.big _ _ hz, fun dx hd hne => k Hf1 H1 dx g1 hd hne⟩
end
/-- a class of exceptions with one field -/
structure XF (P : Program) (w : World) (K : PySem.W.Frag) (mg : Str → Option Value) (base : Heap) (CX : CXT) (k : Nat) (x : Str) (C : Addr) (f : Str) (ok : Dt → Prop) : Prop where
  ex : ∃ fI fd ps, FnOk P w K mg base CX k fI fd ps (spX K C f ok) ∧ XcI K C fI ∧ mg x = some (.ref C) ∧ Binds K fd ps []
section
variable {X : Cx} {G : Gr} {E : XK} {dl : List Slot} {C : Addr} {e : Expr} {p pos np cpos : Pos} {x f : Str} {d : Dt} {ok : Dt → Prop} {CX : CXT} {k k' : Nat} {t : TA}
def tMX (K : PySem.W.Frag) (C : Addr) (f : Str) (ok : Dt → Prop) (E : XK) (t : TA) : TE := fun σ H Q => t σ H fun vs H1 => ∃ v, vs = [v] ∧ ∀ z, H1 z = none → spX K C f ok [.ref z, v] (upd H1 z (xT z C none)) (fun u H2 => u = .non ∧ Q (.ref z) H2) E
theorem pe_makeX (F : XF X.prog X.w X.K X.mg X.base CX k x C f ok) (hr : Room k' X.A) (hx : Passes CX X E) (ha : PA X [e] t) (hkk : k + 1 ≤ k') (hg : Gl X x) (hdb : (x == ("__debug__" : Str)) = false) (he : starEach [e] X.env = (false, eval e X.env) :: starEach [] X.env) (hpl : (backTo pos (starEach [] X.env)).any (·.1) = false) :
    PE X (.Call (.Name x p) [e] [] pos) (tMX X.K C f ok E t) := by
  intro pins s σ H Q I h
  obtain ⟨fI, fd, ps, Fo, hC, hm, hb⟩ := F.ex
  refine wpAny_Call_Name_kw (ld_glob I hg hm ?_ hdb)
  refine PySem.W.callWith_K (h₀ := X.base) I.ok.mod.kin hC.kp (thn (ha pos pins s σ H _ I h) fun us s1 ⟨vs, H1, I1, r, q⟩ => ⟨I1.kIn, ?_⟩) he hpl
  obtain ⟨v, rfl, q⟩ := q
  obtain ⟨u, rfl, ru⟩ := vals1 r
  obtain ⟨z1, z2, z3, z4, z5, z6, z7, z8, z9, y1, y2, y3, y4, y5, y6, y7, mN, hO, hN, hni, hT⟩ := excI_obj I1.kIn hC.ex
  obtain ⟨oI, hl, hfc⟩ := Option.map_eq_some_iff.mp hC.fn
  refine call_initU (h := s1.heap) (g := s1.gens) (d := s1.drawn) (t := s1.toks) (os := s1.os) PySem.F.excBase_ValueError (by decide) PySem.F.excBase_ValueError hT hO hN hni (I1.kIn _ _ hl) hfc (fun h' z hz mx => ?_) (show 1 ≤ sizeLine by decide)
  obtain ⟨t0, e0, _, _⟩ := mx.there
  have I2 : L2.Inv X pins σ (upd H1 z (xT z C none)) { s1 with heap := h', toks := s1.toks } := I1.laid mx.keeps hz (xok ⟨t0, e0⟩)
  have hq := q z (I1.hok.fresh hz)
  have r2 : Vals [V.ref z, v] [Value.ref z, u] := .cons rfl (.cons ru .nil)
  have hl2 : ([Value.ref z, u] ++ []).length = ps.length := by
    have e := r2.length
    rw [Fo.len _ _ _ _ hq] at e
    exact e.symm
  have hb2 := hb { s1 with heap := h' } [Value.ref z, u] I2.kIn hl2
  refine wpAny_call (codeAny_mono (Fo.run _ X.stack { s1 with heap := h' } _ ⟨[Value.ref z, u], []⟩ [Value.ref z, u] _ _ E ((hr.mono hkk).make C [u] []) (I2.env0.make C [u] []) hb2 r2 hq) fun r s' hq' => ?_)
  cases r with
  | error e => exact hx pins σ _ _ e s' I2 hq'
  | ok fl =>
    cases fl with
    | ret u =>
      obtain ⟨v, H', I3, rv, ev, q3⟩ := I2.after hq'
      subst ev
      exact ⟨rv, ⟨V.ref z, H', I3, rfl, q3⟩⟩
    | next => exact False.elim hq'
    | brk => exact False.elim hq'
    | cont => exact False.elim hq'
theorem growX {Hf H Hf2 H2 : Hp} {z dx : Addr} {u o : HO} (s : Same Hf H) (hz : H z = none) (g : Grow Hf (upd H z u) Hf2 H2) (hd : H2 dx = none) : Grow Hf H (upd Hf2 dx o) (upd H2 dx o) ∧ H dx = none ∧ Hf2 z = none := by
  have z2 : H2 z = some u := g.big _ _ upd_same
  have nz : dx ≠ z := fun e => by rw [e, z2] at hd; cases hd
  have hd1 : H dx = none := by have := g.big.free hd; rw [upd_ne nz] at this; exact this
  have fz : Hf2 z = none := by
    cases q : Hf2 z with
    | none => rfl
    | some o' =>
      rcases g.new z o' q with ⟨o1, h1⟩ | h1
      · rw [s.free hz] at h1; cases h1
      · rw [upd_same] at h1; cases h1
  refine ⟨⟨fun b w h => ?_, g.frz.trans (same_upd (g.sub.free hd)), same_upd2 g.sub, fun b w h => ?_⟩, hd1, fz⟩
  · have bz : b ≠ z := ne_of_none h hz
    rw [upd_ne (ne_of_none h hd1)]
    exact g.big _ _ (by rw [upd_ne bz]; exact h)
  · by_cases hb : b = dx
    · subst hb; exact .inr hd1
    · rw [upd_ne hb] at h
      rcases g.new b w h with h1 | h1
      · exact .inl h1
      · by_cases bz : b = z
        · subst bz; rw [upd_same] at h1; cases h1
        · rw [upd_ne bz] at h1; exact .inr h1
/-- C(e), an exception that is made -/
theorem ee_makeX (F : XF X.prog X.w X.K X.mg X.base CX k x C f ok) (nx : NoX CX) (hr : Room k' X.A) (ha : EE X G dl e d) (hok : ok d) (hkk : k + 1 ≤ k' := by decide) (hg : Gl X x := by rfl) (hdb : (x == ("__debug__" : Str)) = false := by decide)
    (he : starEach [e] X.env = (false, eval e X.env) :: starEach [] X.env := by rfl) (hpl : (backTo pos (starEach [] X.env)).any (·.1) = false := by rfl) : EE X G dl (.Call (.Name x p) [e] [] pos) (.xof C [(f, d)]) :=
  peI (pe_makeX (E := E0) F hr nx.passes (ea_cons ha ea_nil he) hkk hg hdb he hpl) fun st H Q ⟨Hf, S, kk⟩ => ⟨Hf, S, fun vs Hf1 H1 g1 r1 => by
    cases r1 with
    | @cons v _ _ _ r t =>
      cases t
      refine ⟨_, rfl, fun z hz => ⟨Hf1, H1, z, _, d, rfl, rfl, hz, g1.sub, r, hok, fun Hf2 H2 dx g2 hd hne => ⟨rfl, ?_⟩⟩⟩
      obtain ⟨g3, hd1, fz⟩ := growX (o := .xd [(f, v)]) g1.sub hz g2 hd
      have z2 : H2 z = some (xT z C none) := g2.big _ _ upd_same
      have f3 : upd Hf2 dx (.xd [(f, v)]) z = none := by rw [upd_ne (Ne.symm hne)]; exact fz
      have g4 : Grow Hf1 H1 (upd (upd Hf2 dx (.xd [(f, v)])) z (xT z C (some dx))) (upd (upd H2 dx (.xd [(f, v)])) z (xT z C (some dx))) := by
        refine ⟨fun b w h => ?_, g3.frz.trans (same_upd f3), same_upd2 g3.sub, fun b w h => ?_⟩
        · rw [upd_ne (ne_of_none h hz)]; exact g3.big _ _ h
        · by_cases hb : b = z
          · subst hb; exact .inr hz
          · rw [upd_ne hb] at h; exact g3.new b w h
      exact kk _ _ _ (g1.trans g4) (.xof upd_same (fun h ⟨t, q⟩ => ⟨_, q, rfl, rfl, _, rfl⟩) (by rw [upd_ne hne]; exact upd_same) (.cons (r.mono (g2.frz.trans ((same_upd (g2.sub.free hd)).trans (same_upd f3)))) .nil))⟩
end
end Sg

/-! exceptions with a field: raised, caught, their field read -/
namespace Sg
open PySem PySem.Spec PyProof.Rows L2
/-! ### raise -/
def rmA (H : Hp) (z : Addr) : Hp := fun a => if a = z then none else H a
/-- what a raise of a made exception wants of the context -/
def RaiseX (X : Cx) (G : Gr) (E : XK) : Prop := ∀ (pins : List (Addr × Obj)) (st : L2.St) (H : Hp) (s : Shared) (ea C dx : Addr), L2.Inv X pins st (upd H ea (xT ea C (some dx))) s → H ea = none → G.H ea = none → E (.ref C) (some dx) H → X.xe (.ref ea) s
section
variable {P : Program} {w : World} {K : PySem.W.Frag} {mg : Str → Option Value} {base : Heap} {N : List Str} {qual : Str} {scope : Scope} {f : Addr} {cd : Value} {A : Around} {outer : List Env} {s0 : Shared} {H0 : Hp} {E : XK} {G : Gr}
end
section
variable {X : Cx} {G : Gr} {E : XK} {dl : List Slot} {C : Addr} {e : Expr} {p pos np cpos : Pos} {x f : Str} {d : Dt} {ok : Dt → Prop} {CX : CXT} {k k' : Nat} {t : TA}
end
/-! ### the field read -/
section
variable {X : Cx} {G : Gr} {E : XK} {dl : List Slot} {C : Addr} {e : Expr} {pos : Pos} {f : Str} {d : Dt} {fs : List (Str × Dt)}
theorem find_own {M : Model} {K : PySem.W.Frag} {h : Heap} {x C dx : Addr} {f : Str} {mA : Str → Option Value} {v : Value} (X : K.In h) (S : StX K C f) (I : IsOfD h x C dx) (hn : h.Ns1 dx mA) (hv : mA f = some v) : PySem.W.Looks M h (Builtin.ObjectAttr.find (.ref x) (.ref C) f) (.value v) := by
  obtain ⟨ox, h1, h2, h3, vs, h4⟩ := I
  obtain ⟨cd, hc, hhd⟩ := Option.map_eq_some_iff.mp S.hd
  have own : PySem.W.Looks M h (Builtin.ObjectAttr.inOwnDict f (.ref x)) (some v) := by
    intro A Q E s k q
    have KX := X.keeps k
    show wpAny M A (Builtin.ObjectAttr.ownDict x >>= fun d => Builtin.ObjectAttr.inDict f d) Q E s
    unfold Builtin.ObjectAttr.ownDict instanceDict loadHead
    refine wpAny_bind (wpAny_bind (wpAny_loadPart (k _ _ h1) ?_))
    rw [h4]
    refine wpAny_bind (wpAny_loadPart (k _ _ h1) ?_)
    rw [h2]
    refine wpAny_bind ((PySem.W.looks_clsIn KX hc).here ?_)
    rw [hhd, h3, if_neg (by decide)]
    refine wpAny_pure (a := some dx) ?_
    show wpAny M A (nsGet dx f) Q E s
    refine wpAny_nsGet (hn.keeps k).ns ?_
    rw [hv]; exact q
  refine (PySem.W.looks_findIn X S.na).andThen ?_
  refine (PySem.W.Looks.now : PySem.W.Looks M h (Builtin.ObjectAttr.getOf none) none).andThen ?_
  refine (PySem.W.Looks.now : PySem.W.Looks M h (Builtin.ObjectAttr.dataDescriptor? none none) none).andThen ?_
  refine own.andThen ?_
  exact PySem.W.Looks.tag .now
theorem ee_xfld (he : EE X G dl e (.xof C fs)) (T : TyX X.K C) (S : StX X.K C f) (hf : fs.lookup f = some d) (hb : attributeBase e f X.env (eval e X.env) = eval e X.env := by rfl) : EE X G dl (.Attribute e f pos) d := by
  intro pins s st H Q I ⟨Hf, S0, kk⟩
  refine attr_of hb (thn (he pins s st H (fun v H' => ∃ Hf1, Grow Hf H Hf1 H' ∧ Rep X.K Hf1 v (.xof C fs)) I ⟨Hf, S0, fun v Hf1 H1 g1 r1 => ⟨Hf1, g1, r1⟩⟩) fun u s1 ⟨w, H1, I1, rw1, Hf1, g1, r1⟩ => ?_)
  cases r1 with
  | @xof a _ dx ph fv _ q hp g rr =>
    cases (show u = Value.ref a from rw1)
    have ok : ObjOk X.prog X.w H1 s1.heap a (.ext ph) := I1.hok a _ (g1.sub _ _ q)
    obtain ⟨mA, hn, hr⟩ := (show ObjOk X.prog X.w H1 s1.heap dx (.xd fv) from I1.hok dx _ (g1.sub _ _ g))
    obtain ⟨v, e1, rv⟩ := rr.lookup hf
    have hr := hr f
    rw [e1] at hr
    cases hm : mA f with
    | none => rw [hm] at hr; exact hr.elim
    | some z =>
      rw [hm] at hr
      refine wpAny_bind (wpAny_mkText ?_)
      refine exc_by (s := { s1 with toks := s1.toks + 1 }) I1.kIn (hp _ ok.1).of T.ga T.gt T.be (find_own I1.kIn S (hp _ ok.1) hn hm) ?_
      have q2 : EP X pins st Q z { s1 with toks := s1.toks + 1 } := ⟨v, H1, I1.tok _, hr, kk v Hf1 H1 g1 rv⟩
      exact PySem.W.handed_on (handed_of hr) q2
end
/-! ### caught -/
def EX2 (K : PySem.W.Frag) (C : Addr) (fs : List (Str × Dt)) (Hf H : Hp) : XK := fun c od H1 => c = .ref C ∧ ∃ Hf1, Grow Hf H Hf1 H1 ∧ ExcAt K Hf1 od fs
section
variable {X : Cx} {pins pins' : List (Addr × Obj)} {st : L2.St} {H H' : Hp} {s s' : Shared} {h2 B : Heap} {ea t : Addr} {C D : Addr} {xe : Value → Shared → Prop} {G : Gr} {Hf : Hp}
end
end Sg

/-! try over a body that raises, the slots kept; defs that raise an exception with a field -/
namespace Sg
open PySem PySem.Spec PyProof.Rows L2
section
variable {P : Program} {w : World} {K : PySem.W.Frag} {mg : Str → Option Value} {base : Heap} {CX : CXT} {x qual : Str} {st : Stmt} {f : Addr} {fd : FuncData} {N ps : List Str} {k n : Nat} {R : List Dt → Res → Prop}
end
/-! ### a raising expression in a def -/
section
variable {X : Cx} {G : Gr} {E : XK} {dl : List Slot} {a b e : Expr} {es : List Expr} {ds dvs : List Dt} {pos p apos pos' : Pos} {x m y : Str} {C : Addr} {fs fe : List (Str × Dt)} {k k' n : Nat} {R : List Dt → Res → Prop} {ob : Expr} {c : Value}
/-- what a raising expression asks -/
def tEx (K : PySem.W.Frag) (G : Gr) (E : XK) (dl : List Slot) (c : Value) (fe : List (Str × Dt)) : TE := fun st H _ => ∃ Hf, Stt K G st Hf H dl ∧ ∀ od Hf' H', Grow G.Hf G.H Hf' H' → ExcAt K Hf' od fe → E c od H'
abbrev EXE (X : Cx) (G : Gr) (E : XK) (dl : List Slot) (e : Expr) (c : Value) (fe : List (Str × Dt)) : Prop := PE X e (tEx X.K G E dl c fe)
end
/-! ### try -/
/-- where the exception goes: the state is the one at the try's beginning -/
def ExK (X : Cx) (pn : List (Addr × Obj)) (xl : Value → Shared → Prop) (st : L2.St) (Hf H : Hp) (C : Addr) (fs : List (Str × Dt)) : Prop := ∀ H1 s1 e s', L2.Inv { X with pn := pn, xe := xl } [] st H1 s1 → CX1 X.prog X.w X.stack H1 s1 (EX2 X.K C fs Hf H) e s' → xl e s'
def REx (X : Cx) (dl : List Slot) (e : Expr) (C : Addr) (fs : List (Str × Dt)) : Prop := ∀ pn xl s st Hf0 H0 Hf H, ExK X pn xl st Hf0 H0 C fs → L2.Inv { X with pn := pn, xe := xl } [] st H s → Stt X.K ⟨Hf0, H0⟩ st Hf H dl → wpAny (model X.prog X.w) X.A (eval e X.env) (fun _ _ => False) xl s
def RSt (X : Cx) (dl : List Slot) (st : Stmt) (C : Addr) (fs : List (Str × Dt)) : Prop := ∀ pn xl s σ Hf0 H0 Hf H, ExK X pn xl σ Hf0 H0 C fs → L2.Inv { X with pn := pn, xe := xl } [] σ H s → Stt X.K ⟨Hf0, H0⟩ σ Hf H dl → wpAny (model X.prog X.w) X.A (exec st X.env) (fun _ _ => False) xl s
section
variable {X : Cx} {dl : List Slot} {a b e c : Expr} {es : List Expr} {ds dvs : List Dt} {pos p apos py : Pos} {x m y : Str} {C Co : Addr} {fs fe : List (Str × Dt)} {k k' n : Nat} {R : List Dt → Res → Prop} {ob : Expr}
end
end Sg

/-! exceptions without a field, made as values; x.extend(list) -/
namespace Sg
open PySem PySem.Spec PyProof.Rows L2
section
variable {X : Cx} {pins : List (Addr × Obj)} {σ : L2.St} {H : Hp} {s : Shared} {h' : Heap} {z : Addr} {ph : Heap → Prop}
theorem inv_ext {tk : Nat} (I : L2.Inv X pins σ H s) (k : ∀ b u, s.heap.get? b = some u → h'.get? b = some u) (hn : s.heap.get? z = none) (hz : H z = none) (hp : ph h') (ht : ∃ o, h'.get? z = some o) (hs : ∀ h1 h2, ph h1 → (∀ o, h1.get? z = some o → h2.get? z = some o) → ph h2) :
    L2.Inv X pins σ (upd H z (.ext ph)) { s with heap := h', toks := tk } := by
  have sm : Same H (upd H z (.ext ph)) := same_upd hz
  refine I.un ⟨fun b o e _ _ _ => k b o e, fun b o e _ _ _ => ⟨o.slots, k b o e⟩, fun b o e n _ => ?_, fun b o e _ => ⟨o, k b o e⟩, fun b xs e => sm _ _ e, fun b ob u e => sm _ _ e, fun b ps e => ⟨#[], by rw [sm _ _ e]; simp⟩⟩ fun a o e => ?_
  · have ne : b ≠ z := fun q => by rw [q, hn] at e; cases e
    rw [upd_ne ne]; exact n
  · by_cases ha : a = z
    · subst ha
      rw [upd_same] at e; cases e
      exact ⟨hp, ht, hs⟩
    · rw [upd_ne ha] at e
      exact (I.hok a o e).stay (fun c u _ q => k c u q) (fun c q => sm _ _ q) (fun c xs q => sm _ _ q)
theorem hn_of (I : L2.Inv X pins σ H s) (hn : s.heap.get? z = none) : H z = none := by
  cases q : H z with
  | none => rfl
  | some o =>
    obtain ⟨u, hu⟩ := objok_some (I.hok z o q)
    rw [hn] at hu; cases hu
end
section
variable {X : Cx} {G : Gr} {E : XK} {dl : List Slot} {C : Addr} {e : Expr} {p pos apos cpos : Pos} {x : Str} {d : Dt} {ds ds2 : List Dt}
/-- C(e), C without an __init__ -/
theorem ee_makeE (hC : ExC X.K C) (hm : X.mg x = some (.ref C)) (hk : PySem.W.keepIn X.K (.ref C) = true) (ha : EE X G dl e d) (hg : Gl X x := by rfl) (hdb : (x == ("__debug__" : Str)) = false := by decide)
    (he : starEach [e] X.env = (false, eval e X.env) :: starEach [] X.env := by rfl) (hpl : (backTo pos (starEach [] X.env)).any (·.1) = false := by rfl) : EE X G dl (.Call (.Name x p) [e] [] pos) (.xo C) := by
  intro pins s st H Q I ⟨Hf, S, kk⟩
  refine wpAny_Call_Name_kw (ld_glob I hg hm ?_ hdb)
  refine PySem.W.callWith_K (h₀ := X.base) I.ok.mod.kin hk (thn (ea_cons ha ea_nil he pos pins s st H (fun vs H' => ∃ Hf1, Grow Hf H Hf1 H' ∧ Reps X.K Hf1 vs [d]) I ⟨Hf, S, fun vs Hf1 H1 g1 r1 => ⟨Hf1, g1, r1⟩⟩) fun us s1 ⟨vs, H1, I1, rv, Hf1, g1, r1⟩ => ⟨I1.kIn, ?_⟩) he hpl
  obtain ⟨z1, z2, z3, z4, z5, z6, z7, z8, z9, y1, y2, y3, y4, y5, y6, y7, mN, hO, hN, hni, hT⟩ := exc_obj I1.kIn hC.ex
  have hus : us.length ≤ sizeLine := by rw [← rv.length, r1.length]; exact (show 1 ≤ sizeLine by decide)
  refine wpAny_call_exc_subU (h := s1.heap) (g := s1.gens) (d := s1.drawn) (t := s1.toks) (os := s1.os) PySem.F.excBase_ValueError (by decide) PySem.F.excBase_ValueError hT hO hN hni (fun h' z mx => ?_) hus
  obtain ⟨t0, e0, _, _⟩ := mx.there
  have hz := hn_of I1 mx.new
  have io : IsOf h' z C := ⟨_, e0, rfl⟩
  refine ⟨.ref z, _, inv_ext (tk := s1.toks) (ph := fun h => IsOf h z C) I1 mx.keeps mx.new hz io ⟨_, e0⟩ (fun h1 h2 ⟨o, q1, q2⟩ k => ⟨o, k _ q1, q2⟩), rfl, ?_⟩
  exact kk _ (upd Hf1 z (.ext fun h => IsOf h z C)) _ (g1.trans (.alloc g1.sub hz)) (.xo upd_same fun h z => z)
/-- x.extend(e), an owned list and a list -/
theorem es_extend (n : Nat) {pn : Pos} (he : EE X G dl e (.lst ds2)) (hl : ds.length + ds2.length ≤ sizeLine) (hd : dl[n]? = some (.own (.lst ds)) := by rfl) (hN : X.N[n]? = some x := by rfl) (hv : Vis X.env.scope x := by first | exact Or.inl rfl | exact Or.inr (Or.inl rfl) | exact Or.inr (Or.inr rfl))
    (hdb : (x == ("__debug__" : Str)) = false := by decide) (hcd : (x == ("__classdict__" : Str)) = false := by decide)
    (hbase : attributeBase (.Name x pn) "extend" X.env (eval (.Name x pn) X.env) = eval (.Name x pn) X.env := by rfl)
    (hfew : ((backTo cpos (starEach [e] X.env)).all (fun x => !x.1) && (backToKw cpos (keywordEach [] X.env)).all (fun x => x.1.isSome) && decide ([e].length + ([] : List Keyword).length + (if ([] : List Keyword).isEmpty then 0 else 1) < 30)) = true := by rfl)
    (hline : (apos.endLine == cpos.line) = true := by rfl) (hst : starEach [e] X.env = (false, eval e X.env) :: starEach [] X.env := by rfl) (hs : swapsWith (.Call (.Attribute (.Name x pn) "extend" apos) [e] [] cpos) none pos.line X.env = pure false := by rfl) :
    ES X G E dl (.Expr (.Call (.Attribute (.Name x pn) "extend" apos) [e] [] cpos) pos) (.nx (dl.set n (.own (.lst (ds ++ ds2))))) :=
  psI (ps_expr (pe_bm PySem.F.plainAttrs_list PySem.F.slot_list_extend PySem.F.type_list_extend mt_extend (pe_ov (p := pn) n hd hN hv hdb hcd) (ea_cons he ea_nil hst) hbase hfew hline hst rfl) hs) fun D st H ⟨Hf, S, k⟩ => by
    obtain ⟨q, z1, z2, z3, vs, hq, rp⟩ := S.own n _ hd
    refine ⟨Hf, q, S, z1, z2, ⟨vs, hq, rp⟩, .inl ⟨rfl, vs, .of hq⟩, Hf, S, fun us Hf1 H1 g1 r1 => ?_⟩
    cases r1 with
    | cons r1 t1 =>
      cases t1
      cases r1 with
      | @lst b zs _ hb rz =>
        refine ⟨q, b, vs, zs, rfl, rfl, g1.big _ _ hq, g1.sub _ _ hb, by rw [rp.length, rz.length]; exact hl, ?_⟩
        exact k st Hf1 _ g1.frz ((S.grow g1).updO hd z1 ⟨_, upd_same, (rp.mono g1.frz).append rz⟩)
end
/-- of these classes each is itself alone -/
def allKit (K : PySem.W.Frag) (cs : List Addr) : Bool := (List.range cs.length).all fun i => (List.range cs.length).all fun j => PySem.W.kitOne K (.ref (cs.getD i 0)) (.ref (cs.getD j 0)) == some (decide (i = j))
def gKit (K : PySem.W.Frag) (cs : List Addr) (g : Addr) : Bool := (List.range cs.length).all fun i => (PySem.W.kitOne K (.ref (cs.getD i 0)) (.ref g) == some true) && (PySem.W.kitOne K (.ref (cs.getD i 0)) (.type "ValueError") == some true)
theorem allKit_at {K : PySem.W.Frag} {cs : List Addr} (h : allKit K cs = true) {i j : Nat} (hi : i < cs.length) (hj : j < cs.length) : PySem.W.kitOne K (.ref (cs.getD i 0)) (.ref (cs.getD j 0)) = some (decide (i = j)) := by
  have h1 := List.all_eq_true.mp h i (List.mem_range.mpr hi)
  exact beq_iff_eq.mp (List.all_eq_true.mp h1 j (List.mem_range.mpr hj))
theorem gKit_at {K : PySem.W.Frag} {cs : List Addr} {g : Addr} (h : gKit K cs g = true) {i : Nat} (hi : i < cs.length) : PySem.W.kitOne K (.ref (cs.getD i 0)) (.ref g) = some true ∧ PySem.W.kitOne K (.ref (cs.getD i 0)) (.type "ValueError") = some true := by
  have h1 := List.all_eq_true.mp h i (List.mem_range.mpr hi)
  rw [Bool.and_eq_true] at h1
  exact ⟨beq_iff_eq.mp h1.1, beq_iff_eq.mp h1.2⟩
end Sg

namespace Pf
open PySem PySem.Spec PyProof.Rows L2 Sg
def top (i : Nat) : Stmt := PySem.Challenge.pw_strokegrow_k12_refusals_made.main.body.getD i (.Pass ⟨0, 0, 0, 0⟩)
abbrev s_NoRules_init : Stmt := inClass (top 7) 0
abbrev s_NoWord_init : Stmt := inClass (top 8) 0
abbrev s_NoText_init : Stmt := inClass (top 9) 0
abbrev s_NoLetter_init : Stmt := inClass (top 10) 0
abbrev s_NoPlace_init : Stmt := inClass (top 11) 0
abbrev s_NoLine_init : Stmt := inClass (top 12) 0
abbrev s_cell : Stmt := top 14
abbrev s_whole : Stmt := top 15
abbrev s_letters : Stmt := top 16
abbrev s_word : Stmt := top 17
abbrev s_classes : Stmt := top 18
abbrev s_errors : Stmt := top 19
abbrev s_law : Stmt := top 20
abbrev n_NoRules_init : List Str := ["self", "row"]
theorem sc_NoRules_init : FnScope n_NoRules_init ["self", "row"] (defScope s_NoRules_init) := ⟨rfl, rfl, rfl, by decide +kernel, rfl, by decide +kernel, by decide +kernel⟩
abbrev n_NoWord_init : List Str := ["self", "at"]
theorem sc_NoWord_init : FnScope n_NoWord_init ["self", "at"] (defScope s_NoWord_init) := ⟨rfl, rfl, rfl, by decide +kernel, rfl, by decide +kernel, by decide +kernel⟩
abbrev n_NoText_init : List Str := ["self", "which"]
theorem sc_NoText_init : FnScope n_NoText_init ["self", "which"] (defScope s_NoText_init) := ⟨rfl, rfl, rfl, by decide +kernel, rfl, by decide +kernel, by decide +kernel⟩
abbrev n_NoLetter_init : List Str := ["self", "letter"]
theorem sc_NoLetter_init : FnScope n_NoLetter_init ["self", "letter"] (defScope s_NoLetter_init) := ⟨rfl, rfl, rfl, by decide +kernel, rfl, by decide +kernel, by decide +kernel⟩
abbrev n_NoPlace_init : List Str := ["self", "place"]
theorem sc_NoPlace_init : FnScope n_NoPlace_init ["self", "place"] (defScope s_NoPlace_init) := ⟨rfl, rfl, rfl, by decide +kernel, rfl, by decide +kernel, by decide +kernel⟩
abbrev n_NoLine_init : List Str := ["self", "line"]
theorem sc_NoLine_init : FnScope n_NoLine_init ["self", "line"] (defScope s_NoLine_init) := ⟨rfl, rfl, rfl, by decide +kernel, rfl, by decide +kernel, by decide +kernel⟩
abbrev n_cell : List Str := ["_law_script", "_law_k"]
theorem sc_cell : FnScope n_cell ["_law_script", "_law_k"] (defScope s_cell) := ⟨rfl, rfl, rfl, by decide +kernel, rfl, by decide +kernel, by decide +kernel⟩
abbrev n_whole : List Str := ["_law_found"]
theorem sc_whole : FnScope n_whole ["_law_found"] (defScope s_whole) := ⟨rfl, rfl, rfl, by decide +kernel, rfl, by decide +kernel, by decide +kernel⟩
abbrev n_letters : List Str := ["_law_cell_here", "_law_left", "_law_rest", "_law_letters_here", "_law_k", "_law_at"]
theorem sc_letters : FnScope n_letters ["_law_cell_here"] (defScope s_letters) := ⟨rfl, rfl, rfl, by decide +kernel, rfl, by decide +kernel, by decide +kernel⟩
abbrev n_word : List Str := ["_law_cell_here", "_law_letters_here", "_law_most", "_law_rest", "_law_word_here", "_law_k"]
theorem sc_word : FnScope n_word ["_law_cell_here", "_law_letters_here", "_law_most"] (defScope s_word) := ⟨rfl, rfl, rfl, by decide +kernel, rfl, by decide +kernel, by decide +kernel⟩
abbrev n_classes : List Str := ["_law_error", "_law_found"]
theorem sc_classes : FnScope n_classes ["_law_error"] (defScope s_classes) := ⟨rfl, rfl, rfl, by decide +kernel, rfl, by decide +kernel, by decide +kernel⟩
abbrev n_errors : List Str := ["_law_number", "_law_place", "_law_text", "_law_found"]
theorem sc_errors : FnScope n_errors ["_law_number", "_law_place", "_law_text"] (defScope s_errors) := ⟨rfl, rfl, rfl, by decide +kernel, rfl, by decide +kernel, by decide +kernel⟩
abbrev n_law : List Str := ["_law_script", "_law_number", "_law_place", "_law_text", "_law_errors_here", "_law_k", "_law_values"]
theorem sc_law : FnScope n_law ["_law_script"] (defScope s_law) := ⟨rfl, rfl, rfl, by decide +kernel, rfl, by decide +kernel, by decide +kernel⟩
structure Adr where
  f_NoRules_init : Addr
  d_NoRules_init : FuncData
  f_NoWord_init : Addr
  d_NoWord_init : FuncData
  f_NoText_init : Addr
  d_NoText_init : FuncData
  f_NoLetter_init : Addr
  d_NoLetter_init : FuncData
  f_NoPlace_init : Addr
  d_NoPlace_init : FuncData
  f_NoLine_init : Addr
  d_NoLine_init : FuncData
  f_cell : Addr
  d_cell : FuncData
  f_whole : Addr
  d_whole : FuncData
  f_letters : Addr
  d_letters : FuncData
  f_word : Addr
  d_word : FuncData
  f_classes : Addr
  d_classes : FuncData
  f_errors : Addr
  d_errors : FuncData
  f_law : Addr
  d_law : FuncData
  C_GrowError : Addr
  C_NoPen : Addr
  C_NoDeed : Addr
  C_NoRound : Addr
  C_TooLong : Addr
  C_NothingDone : Addr
  C_NoRules : Addr
  C_NoWord : Addr
  C_NoText : Addr
  C_NoPlace : Addr
  C_NoLetter : Addr
  C_NoLine : Addr
structure Txt (K : PySem.W.Frag) (mg : Str → Option Value) (t : Adr) : Prop where
  m_GrowError : mg "GrowError" = some (.ref t.C_GrowError)
  m_NoPen : mg "NoPen" = some (.ref t.C_NoPen)
  m_NoDeed : mg "NoDeed" = some (.ref t.C_NoDeed)
  m_NoRound : mg "NoRound" = some (.ref t.C_NoRound)
  m_TooLong : mg "TooLong" = some (.ref t.C_TooLong)
  m_NothingDone : mg "NothingDone" = some (.ref t.C_NothingDone)
  m_NoRules : mg "NoRules" = some (.ref t.C_NoRules)
  m_NoWord : mg "NoWord" = some (.ref t.C_NoWord)
  m_NoText : mg "NoText" = some (.ref t.C_NoText)
  m_NoPlace : mg "NoPlace" = some (.ref t.C_NoPlace)
  m_NoLetter : mg "NoLetter" = some (.ref t.C_NoLetter)
  m_NoLine : mg "NoLine" = some (.ref t.C_NoLine)
  xc_GrowError : ExC K t.C_GrowError
  xt_GrowError : TyX K t.C_GrowError
  xc_NoPen : ExC K t.C_NoPen
  xt_NoPen : TyX K t.C_NoPen
  xc_NoDeed : ExC K t.C_NoDeed
  xt_NoDeed : TyX K t.C_NoDeed
  xc_NoRound : ExC K t.C_NoRound
  xt_NoRound : TyX K t.C_NoRound
  xc_TooLong : ExC K t.C_TooLong
  xt_TooLong : TyX K t.C_TooLong
  xc_NothingDone : ExC K t.C_NothingDone
  xt_NothingDone : TyX K t.C_NothingDone
  xt_NoRules : TyX K t.C_NoRules
  xt_NoWord : TyX K t.C_NoWord
  xt_NoText : TyX K t.C_NoText
  xt_NoPlace : TyX K t.C_NoPlace
  xt_NoLetter : TyX K t.C_NoLetter
  xt_NoLine : TyX K t.C_NoLine
  xi_NoRules : XcI K t.C_NoRules t.f_NoRules_init
  sx_NoRules : StX K t.C_NoRules "row"
  xi_NoWord : XcI K t.C_NoWord t.f_NoWord_init
  sx_NoWord : StX K t.C_NoWord "at"
  xi_NoText : XcI K t.C_NoText t.f_NoText_init
  sx_NoText : StX K t.C_NoText "which"
  xi_NoPlace : XcI K t.C_NoPlace t.f_NoPlace_init
  sx_NoPlace : StX K t.C_NoPlace "place"
  xi_NoLetter : XcI K t.C_NoLetter t.f_NoLetter_init
  sx_NoLetter : StX K t.C_NoLetter "letter"
  xi_NoLine : XcI K t.C_NoLine t.f_NoLine_init
  sx_NoLine : StX K t.C_NoLine "line"
  xb_GrowError : XcB K t.C_GrowError
  F_NoRules_init : FunG K "__init__" "NoRules.__init__" s_NoRules_init t.f_NoRules_init t.d_NoRules_init
  k_NoRules_init : PySem.W.keepIn K (.ref t.f_NoRules_init) = true
  b_NoRules_init : Binds K t.d_NoRules_init ["self", "row"] []
  F_NoWord_init : FunG K "__init__" "NoWord.__init__" s_NoWord_init t.f_NoWord_init t.d_NoWord_init
  k_NoWord_init : PySem.W.keepIn K (.ref t.f_NoWord_init) = true
  b_NoWord_init : Binds K t.d_NoWord_init ["self", "at"] []
  F_NoText_init : FunG K "__init__" "NoText.__init__" s_NoText_init t.f_NoText_init t.d_NoText_init
  k_NoText_init : PySem.W.keepIn K (.ref t.f_NoText_init) = true
  b_NoText_init : Binds K t.d_NoText_init ["self", "which"] []
  F_NoLetter_init : FunG K "__init__" "NoLetter.__init__" s_NoLetter_init t.f_NoLetter_init t.d_NoLetter_init
  k_NoLetter_init : PySem.W.keepIn K (.ref t.f_NoLetter_init) = true
  b_NoLetter_init : Binds K t.d_NoLetter_init ["self", "letter"] []
  F_NoPlace_init : FunG K "__init__" "NoPlace.__init__" s_NoPlace_init t.f_NoPlace_init t.d_NoPlace_init
  k_NoPlace_init : PySem.W.keepIn K (.ref t.f_NoPlace_init) = true
  b_NoPlace_init : Binds K t.d_NoPlace_init ["self", "place"] []
  F_NoLine_init : FunG K "__init__" "NoLine.__init__" s_NoLine_init t.f_NoLine_init t.d_NoLine_init
  k_NoLine_init : PySem.W.keepIn K (.ref t.f_NoLine_init) = true
  b_NoLine_init : Binds K t.d_NoLine_init ["self", "line"] []
  F_cell : Fun K "_law_cell" "_law_cell" s_cell t.f_cell t.d_cell
  k_cell : PySem.W.keepIn K (.ref t.f_cell) = true
  b_cell : Binds K t.d_cell ["_law_script", "_law_k"] []
  m_cell : mg "_law_cell" = some (.ref t.f_cell)
  F_whole : Fun K "_law_whole" "_law_whole" s_whole t.f_whole t.d_whole
  k_whole : PySem.W.keepIn K (.ref t.f_whole) = true
  b_whole : Binds K t.d_whole ["_law_found"] []
  m_whole : mg "_law_whole" = some (.ref t.f_whole)
  F_letters : Fun K "_law_letters" "_law_letters" s_letters t.f_letters t.d_letters
  k_letters : PySem.W.keepIn K (.ref t.f_letters) = true
  b_letters : Binds K t.d_letters ["_law_cell_here"] []
  m_letters : mg "_law_letters" = some (.ref t.f_letters)
  F_word : Fun K "_law_word" "_law_word" s_word t.f_word t.d_word
  k_word : PySem.W.keepIn K (.ref t.f_word) = true
  b_word : Binds K t.d_word ["_law_cell_here", "_law_letters_here", "_law_most"] []
  m_word : mg "_law_word" = some (.ref t.f_word)
  F_classes : Fun K "_law_classes" "_law_classes" s_classes t.f_classes t.d_classes
  k_classes : PySem.W.keepIn K (.ref t.f_classes) = true
  b_classes : Binds K t.d_classes ["_law_error"] []
  m_classes : mg "_law_classes" = some (.ref t.f_classes)
  F_errors : Fun K "_law_errors" "_law_errors" s_errors t.f_errors t.d_errors
  k_errors : PySem.W.keepIn K (.ref t.f_errors) = true
  b_errors : Binds K t.d_errors ["_law_number", "_law_place", "_law_text"] []
  m_errors : mg "_law_errors" = some (.ref t.f_errors)
  F_law : Fun K "law" "law" s_law t.f_law t.d_law
  k_law : PySem.W.keepIn K (.ref t.f_law) = true
  b_law : Binds K t.d_law ["_law_script"] []
  m_law : mg "law" = some (.ref t.f_law)
  z_range : mg "range" = none
  z_len : mg "len" = none
  z_isinstance : mg "isinstance" = none
  z_int : mg "int" = none
  z_bool : mg "bool" = none
  z_ValueError : mg "ValueError" = none
  z_all : mg "all" = none
  bl_law : ∀ (s : Shared) (u : Value), BindsTo s t.d_law ⟨[u], []⟩ [("_law_script", u)]
  kits : allKit K [t.C_NoRules, t.C_NoWord, t.C_NoText, t.C_NoPlace, t.C_NoLetter, t.C_NoLine, t.C_NoPen, t.C_NoDeed, t.C_NoRound, t.C_TooLong, t.C_NothingDone] = true
  kitg : gKit K [t.C_NoRules, t.C_NoWord, t.C_NoText, t.C_NoPlace, t.C_NoLetter, t.C_NoLine, t.C_NoPen, t.C_NoDeed, t.C_NoRound, t.C_TooLong, t.C_NothingDone] t.C_GrowError = true
  kp_NoPen : PySem.W.keepIn K (.ref t.C_NoPen) = true
  kp_NoDeed : PySem.W.keepIn K (.ref t.C_NoDeed) = true
  kp_NoRound : PySem.W.keepIn K (.ref t.C_NoRound) = true
  kp_TooLong : PySem.W.keepIn K (.ref t.C_TooLong) = true
  kp_NothingDone : PySem.W.keepIn K (.ref t.C_NothingDone) = true
theorem txt_mk {K : PySem.W.Frag} {h : Heap} {mg : Str → Option Value} (X : K.In h) (G : h.Ns mainGlobals mg) {C_GrowError : Addr} {C_NoPen : Addr} {C_NoDeed : Addr} {C_NoRound : Addr} {C_TooLong : Addr} {C_NothingDone : Addr} {C_NoRules : Addr} {C_NoWord : Addr} {C_NoText : Addr} {C_NoPlace : Addr} {C_NoLetter : Addr} {C_NoLine : Addr} {f_NoRules_init : Addr} {od_NoRules_init an_NoRules_init : Option Addr} {sl_NoRules_init : Array (Option Value)} {oc_NoRules_init kV_NoRules_init dc_NoRules_init pm_NoRules_init cd_NoRules_init ct_NoRules_init : Value} {f_NoWord_init : Addr} {od_NoWord_init an_NoWord_init : Option Addr} {sl_NoWord_init : Array (Option Value)} {oc_NoWord_init kV_NoWord_init dc_NoWord_init pm_NoWord_init cd_NoWord_init ct_NoWord_init : Value} {f_NoText_init : Addr} {od_NoText_init an_NoText_init : Option Addr} {sl_NoText_init : Array (Option Value)} {oc_NoText_init kV_NoText_init dc_NoText_init pm_NoText_init cd_NoText_init ct_NoText_init : Value} {f_NoLetter_init : Addr} {od_NoLetter_init an_NoLetter_init : Option Addr} {sl_NoLetter_init : Array (Option Value)} {oc_NoLetter_init kV_NoLetter_init dc_NoLetter_init pm_NoLetter_init cd_NoLetter_init ct_NoLetter_init : Value} {f_NoPlace_init : Addr} {od_NoPlace_init an_NoPlace_init : Option Addr} {sl_NoPlace_init : Array (Option Value)} {oc_NoPlace_init kV_NoPlace_init dc_NoPlace_init pm_NoPlace_init cd_NoPlace_init ct_NoPlace_init : Value} {f_NoLine_init : Addr} {od_NoLine_init an_NoLine_init : Option Addr} {sl_NoLine_init : Array (Option Value)} {oc_NoLine_init kV_NoLine_init dc_NoLine_init pm_NoLine_init cd_NoLine_init ct_NoLine_init : Value} {f_cell : Addr} {od_cell an_cell : Option Addr} {sl_cell : Array (Option Value)} {oc_cell kV_cell dc_cell pm_cell cd_cell ct_cell : Value} {f_whole : Addr} {od_whole an_whole : Option Addr} {sl_whole : Array (Option Value)} {oc_whole kV_whole dc_whole pm_whole cd_whole ct_whole : Value} {f_letters : Addr} {od_letters an_letters : Option Addr} {sl_letters : Array (Option Value)} {oc_letters kV_letters dc_letters pm_letters cd_letters ct_letters : Value} {f_word : Addr} {od_word an_word : Option Addr} {sl_word : Array (Option Value)} {oc_word kV_word dc_word pm_word cd_word ct_word : Value} {f_classes : Addr} {od_classes an_classes : Option Addr} {sl_classes : Array (Option Value)} {oc_classes kV_classes dc_classes pm_classes cd_classes ct_classes : Value} {f_errors : Addr} {od_errors an_errors : Option Addr} {sl_errors : Array (Option Value)} {oc_errors kV_errors dc_errors pm_errors cd_errors ct_errors : Value} {f_law : Addr} {od_law an_law : Option Addr} {sl_law : Array (Option Value)} {oc_law kV_law dc_law pm_law cd_law ct_law : Value}
    (aGrowError : PySem.W.nsIn K mainGlobals "GrowError" = some (some (.ref C_GrowError)))
    (aNoPen : PySem.W.nsIn K mainGlobals "NoPen" = some (some (.ref C_NoPen)))
    (aNoDeed : PySem.W.nsIn K mainGlobals "NoDeed" = some (some (.ref C_NoDeed)))
    (aNoRound : PySem.W.nsIn K mainGlobals "NoRound" = some (some (.ref C_NoRound)))
    (aTooLong : PySem.W.nsIn K mainGlobals "TooLong" = some (some (.ref C_TooLong)))
    (aNothingDone : PySem.W.nsIn K mainGlobals "NothingDone" = some (some (.ref C_NothingDone)))
    (aNoRules : PySem.W.nsIn K mainGlobals "NoRules" = some (some (.ref C_NoRules)))
    (aNoWord : PySem.W.nsIn K mainGlobals "NoWord" = some (some (.ref C_NoWord)))
    (aNoText : PySem.W.nsIn K mainGlobals "NoText" = some (some (.ref C_NoText)))
    (aNoPlace : PySem.W.nsIn K mainGlobals "NoPlace" = some (some (.ref C_NoPlace)))
    (aNoLetter : PySem.W.nsIn K mainGlobals "NoLetter" = some (some (.ref C_NoLetter)))
    (aNoLine : PySem.W.nsIn K mainGlobals "NoLine" = some (some (.ref C_NoLine)))
    (xiGrowError : PySem.W.excIn K C_GrowError Sg.bmV "ValueError.__new__" = true)
    (x1GrowError : (PySem.W.clsIn K C_GrowError).isSome = true)
    (x2GrowError : PySem.W.findIn K (.ref C_GrowError) "__getattribute__" = some (some (.builtin "BaseException.__getattribute__")))
    (x3GrowError : PySem.W.findIn K (.ref C_GrowError) "__getattr__" = some none)
    (x4GrowError : PySem.W.mroIn K C_GrowError (.type "BaseException") = some true)
    (x5GrowError : PySem.W.findIn K (.ref C_GrowError) "__class__" = some (some (.builtin "object.__class__")))
    (x8GrowError : PySem.W.mroIn K C_GrowError (.type "object") = some true)
    (x6GrowError : PySem.W.specialIn K (.builtin "object.__class__") "__get__" = some (some (.builtin "getset_descriptor.__get__")))
    (x7GrowError : PySem.W.takesIn K (.builtin "object.__class__") = some true)
    (xiNoPen : PySem.W.excIn K C_NoPen Sg.bmV "ValueError.__new__" = true)
    (x1NoPen : (PySem.W.clsIn K C_NoPen).isSome = true)
    (x2NoPen : PySem.W.findIn K (.ref C_NoPen) "__getattribute__" = some (some (.builtin "BaseException.__getattribute__")))
    (x3NoPen : PySem.W.findIn K (.ref C_NoPen) "__getattr__" = some none)
    (x4NoPen : PySem.W.mroIn K C_NoPen (.type "BaseException") = some true)
    (x5NoPen : PySem.W.findIn K (.ref C_NoPen) "__class__" = some (some (.builtin "object.__class__")))
    (x8NoPen : PySem.W.mroIn K C_NoPen (.type "object") = some true)
    (x6NoPen : PySem.W.specialIn K (.builtin "object.__class__") "__get__" = some (some (.builtin "getset_descriptor.__get__")))
    (x7NoPen : PySem.W.takesIn K (.builtin "object.__class__") = some true)
    (xiNoDeed : PySem.W.excIn K C_NoDeed Sg.bmV "ValueError.__new__" = true)
    (x1NoDeed : (PySem.W.clsIn K C_NoDeed).isSome = true)
    (x2NoDeed : PySem.W.findIn K (.ref C_NoDeed) "__getattribute__" = some (some (.builtin "BaseException.__getattribute__")))
    (x3NoDeed : PySem.W.findIn K (.ref C_NoDeed) "__getattr__" = some none)
    (x4NoDeed : PySem.W.mroIn K C_NoDeed (.type "BaseException") = some true)
    (x5NoDeed : PySem.W.findIn K (.ref C_NoDeed) "__class__" = some (some (.builtin "object.__class__")))
    (x8NoDeed : PySem.W.mroIn K C_NoDeed (.type "object") = some true)
    (x6NoDeed : PySem.W.specialIn K (.builtin "object.__class__") "__get__" = some (some (.builtin "getset_descriptor.__get__")))
    (x7NoDeed : PySem.W.takesIn K (.builtin "object.__class__") = some true)
    (xiNoRound : PySem.W.excIn K C_NoRound Sg.bmV "ValueError.__new__" = true)
    (x1NoRound : (PySem.W.clsIn K C_NoRound).isSome = true)
    (x2NoRound : PySem.W.findIn K (.ref C_NoRound) "__getattribute__" = some (some (.builtin "BaseException.__getattribute__")))
    (x3NoRound : PySem.W.findIn K (.ref C_NoRound) "__getattr__" = some none)
    (x4NoRound : PySem.W.mroIn K C_NoRound (.type "BaseException") = some true)
    (x5NoRound : PySem.W.findIn K (.ref C_NoRound) "__class__" = some (some (.builtin "object.__class__")))
    (x8NoRound : PySem.W.mroIn K C_NoRound (.type "object") = some true)
    (x6NoRound : PySem.W.specialIn K (.builtin "object.__class__") "__get__" = some (some (.builtin "getset_descriptor.__get__")))
    (x7NoRound : PySem.W.takesIn K (.builtin "object.__class__") = some true)
    (xiTooLong : PySem.W.excIn K C_TooLong Sg.bmV "ValueError.__new__" = true)
    (x1TooLong : (PySem.W.clsIn K C_TooLong).isSome = true)
    (x2TooLong : PySem.W.findIn K (.ref C_TooLong) "__getattribute__" = some (some (.builtin "BaseException.__getattribute__")))
    (x3TooLong : PySem.W.findIn K (.ref C_TooLong) "__getattr__" = some none)
    (x4TooLong : PySem.W.mroIn K C_TooLong (.type "BaseException") = some true)
    (x5TooLong : PySem.W.findIn K (.ref C_TooLong) "__class__" = some (some (.builtin "object.__class__")))
    (x8TooLong : PySem.W.mroIn K C_TooLong (.type "object") = some true)
    (x6TooLong : PySem.W.specialIn K (.builtin "object.__class__") "__get__" = some (some (.builtin "getset_descriptor.__get__")))
    (x7TooLong : PySem.W.takesIn K (.builtin "object.__class__") = some true)
    (xiNothingDone : PySem.W.excIn K C_NothingDone Sg.bmV "ValueError.__new__" = true)
    (x1NothingDone : (PySem.W.clsIn K C_NothingDone).isSome = true)
    (x2NothingDone : PySem.W.findIn K (.ref C_NothingDone) "__getattribute__" = some (some (.builtin "BaseException.__getattribute__")))
    (x3NothingDone : PySem.W.findIn K (.ref C_NothingDone) "__getattr__" = some none)
    (x4NothingDone : PySem.W.mroIn K C_NothingDone (.type "BaseException") = some true)
    (x5NothingDone : PySem.W.findIn K (.ref C_NothingDone) "__class__" = some (some (.builtin "object.__class__")))
    (x8NothingDone : PySem.W.mroIn K C_NothingDone (.type "object") = some true)
    (x6NothingDone : PySem.W.specialIn K (.builtin "object.__class__") "__get__" = some (some (.builtin "getset_descriptor.__get__")))
    (x7NothingDone : PySem.W.takesIn K (.builtin "object.__class__") = some true)
    (x1NoRules : (PySem.W.clsIn K C_NoRules).isSome = true)
    (x2NoRules : PySem.W.findIn K (.ref C_NoRules) "__getattribute__" = some (some (.builtin "BaseException.__getattribute__")))
    (x3NoRules : PySem.W.findIn K (.ref C_NoRules) "__getattr__" = some none)
    (x4NoRules : PySem.W.mroIn K C_NoRules (.type "BaseException") = some true)
    (x5NoRules : PySem.W.findIn K (.ref C_NoRules) "__class__" = some (some (.builtin "object.__class__")))
    (x8NoRules : PySem.W.mroIn K C_NoRules (.type "object") = some true)
    (x6NoRules : PySem.W.specialIn K (.builtin "object.__class__") "__get__" = some (some (.builtin "getset_descriptor.__get__")))
    (x7NoRules : PySem.W.takesIn K (.builtin "object.__class__") = some true)
    (x1NoWord : (PySem.W.clsIn K C_NoWord).isSome = true)
    (x2NoWord : PySem.W.findIn K (.ref C_NoWord) "__getattribute__" = some (some (.builtin "BaseException.__getattribute__")))
    (x3NoWord : PySem.W.findIn K (.ref C_NoWord) "__getattr__" = some none)
    (x4NoWord : PySem.W.mroIn K C_NoWord (.type "BaseException") = some true)
    (x5NoWord : PySem.W.findIn K (.ref C_NoWord) "__class__" = some (some (.builtin "object.__class__")))
    (x8NoWord : PySem.W.mroIn K C_NoWord (.type "object") = some true)
    (x6NoWord : PySem.W.specialIn K (.builtin "object.__class__") "__get__" = some (some (.builtin "getset_descriptor.__get__")))
    (x7NoWord : PySem.W.takesIn K (.builtin "object.__class__") = some true)
    (x1NoText : (PySem.W.clsIn K C_NoText).isSome = true)
    (x2NoText : PySem.W.findIn K (.ref C_NoText) "__getattribute__" = some (some (.builtin "BaseException.__getattribute__")))
    (x3NoText : PySem.W.findIn K (.ref C_NoText) "__getattr__" = some none)
    (x4NoText : PySem.W.mroIn K C_NoText (.type "BaseException") = some true)
    (x5NoText : PySem.W.findIn K (.ref C_NoText) "__class__" = some (some (.builtin "object.__class__")))
    (x8NoText : PySem.W.mroIn K C_NoText (.type "object") = some true)
    (x6NoText : PySem.W.specialIn K (.builtin "object.__class__") "__get__" = some (some (.builtin "getset_descriptor.__get__")))
    (x7NoText : PySem.W.takesIn K (.builtin "object.__class__") = some true)
    (x1NoPlace : (PySem.W.clsIn K C_NoPlace).isSome = true)
    (x2NoPlace : PySem.W.findIn K (.ref C_NoPlace) "__getattribute__" = some (some (.builtin "BaseException.__getattribute__")))
    (x3NoPlace : PySem.W.findIn K (.ref C_NoPlace) "__getattr__" = some none)
    (x4NoPlace : PySem.W.mroIn K C_NoPlace (.type "BaseException") = some true)
    (x5NoPlace : PySem.W.findIn K (.ref C_NoPlace) "__class__" = some (some (.builtin "object.__class__")))
    (x8NoPlace : PySem.W.mroIn K C_NoPlace (.type "object") = some true)
    (x6NoPlace : PySem.W.specialIn K (.builtin "object.__class__") "__get__" = some (some (.builtin "getset_descriptor.__get__")))
    (x7NoPlace : PySem.W.takesIn K (.builtin "object.__class__") = some true)
    (x1NoLetter : (PySem.W.clsIn K C_NoLetter).isSome = true)
    (x2NoLetter : PySem.W.findIn K (.ref C_NoLetter) "__getattribute__" = some (some (.builtin "BaseException.__getattribute__")))
    (x3NoLetter : PySem.W.findIn K (.ref C_NoLetter) "__getattr__" = some none)
    (x4NoLetter : PySem.W.mroIn K C_NoLetter (.type "BaseException") = some true)
    (x5NoLetter : PySem.W.findIn K (.ref C_NoLetter) "__class__" = some (some (.builtin "object.__class__")))
    (x8NoLetter : PySem.W.mroIn K C_NoLetter (.type "object") = some true)
    (x6NoLetter : PySem.W.specialIn K (.builtin "object.__class__") "__get__" = some (some (.builtin "getset_descriptor.__get__")))
    (x7NoLetter : PySem.W.takesIn K (.builtin "object.__class__") = some true)
    (x1NoLine : (PySem.W.clsIn K C_NoLine).isSome = true)
    (x2NoLine : PySem.W.findIn K (.ref C_NoLine) "__getattribute__" = some (some (.builtin "BaseException.__getattribute__")))
    (x3NoLine : PySem.W.findIn K (.ref C_NoLine) "__getattr__" = some none)
    (x4NoLine : PySem.W.mroIn K C_NoLine (.type "BaseException") = some true)
    (x5NoLine : PySem.W.findIn K (.ref C_NoLine) "__class__" = some (some (.builtin "object.__class__")))
    (x8NoLine : PySem.W.mroIn K C_NoLine (.type "object") = some true)
    (x6NoLine : PySem.W.specialIn K (.builtin "object.__class__") "__get__" = some (some (.builtin "getset_descriptor.__get__")))
    (x7NoLine : PySem.W.takesIn K (.builtin "object.__class__") = some true)
    (inNoRules : PySem.W.findIn K (.ref C_NoRules) "__init__" = some (some (.ref f_NoRules_init)))
    (xeNoRules : Sg.excInI K C_NoRules Sg.bmV "ValueError.__new__" f_NoRules_init = true)
    (xfNoRules : PySem.W.typeIn K (.ref f_NoRules_init) = some (.type "function"))
    (xkNoRules : PySem.W.keepIn K (.ref C_NoRules) = true)
    (xsaNoRules : PySem.W.findIn K (.ref C_NoRules) "__setattr__" = some (some (.builtin "object.__setattr__")))
    (xnaNoRules : PySem.W.findIn K (.ref C_NoRules) "row" = some none)
    (xobNoRules : PySem.W.mroIn K C_NoRules (.type "object") = some true)
    (xmrNoRules : (PySem.W.clsIn K C_NoRules).map (·.mro) = some [.ref C_NoRules, .ref C_GrowError, .type "ValueError", .type "Exception", .type "BaseException", .type "object"])
    (xhdNoRules : (PySem.W.clsIn K C_NoRules).map (·.hasDict) = some true)
    (inNoWord : PySem.W.findIn K (.ref C_NoWord) "__init__" = some (some (.ref f_NoWord_init)))
    (xeNoWord : Sg.excInI K C_NoWord Sg.bmV "ValueError.__new__" f_NoWord_init = true)
    (xfNoWord : PySem.W.typeIn K (.ref f_NoWord_init) = some (.type "function"))
    (xkNoWord : PySem.W.keepIn K (.ref C_NoWord) = true)
    (xsaNoWord : PySem.W.findIn K (.ref C_NoWord) "__setattr__" = some (some (.builtin "object.__setattr__")))
    (xnaNoWord : PySem.W.findIn K (.ref C_NoWord) "at" = some none)
    (xobNoWord : PySem.W.mroIn K C_NoWord (.type "object") = some true)
    (xmrNoWord : (PySem.W.clsIn K C_NoWord).map (·.mro) = some [.ref C_NoWord, .ref C_GrowError, .type "ValueError", .type "Exception", .type "BaseException", .type "object"])
    (xhdNoWord : (PySem.W.clsIn K C_NoWord).map (·.hasDict) = some true)
    (inNoText : PySem.W.findIn K (.ref C_NoText) "__init__" = some (some (.ref f_NoText_init)))
    (xeNoText : Sg.excInI K C_NoText Sg.bmV "ValueError.__new__" f_NoText_init = true)
    (xfNoText : PySem.W.typeIn K (.ref f_NoText_init) = some (.type "function"))
    (xkNoText : PySem.W.keepIn K (.ref C_NoText) = true)
    (xsaNoText : PySem.W.findIn K (.ref C_NoText) "__setattr__" = some (some (.builtin "object.__setattr__")))
    (xnaNoText : PySem.W.findIn K (.ref C_NoText) "which" = some none)
    (xobNoText : PySem.W.mroIn K C_NoText (.type "object") = some true)
    (xmrNoText : (PySem.W.clsIn K C_NoText).map (·.mro) = some [.ref C_NoText, .ref C_GrowError, .type "ValueError", .type "Exception", .type "BaseException", .type "object"])
    (xhdNoText : (PySem.W.clsIn K C_NoText).map (·.hasDict) = some true)
    (inNoPlace : PySem.W.findIn K (.ref C_NoPlace) "__init__" = some (some (.ref f_NoPlace_init)))
    (xeNoPlace : Sg.excInI K C_NoPlace Sg.bmV "ValueError.__new__" f_NoPlace_init = true)
    (xfNoPlace : PySem.W.typeIn K (.ref f_NoPlace_init) = some (.type "function"))
    (xkNoPlace : PySem.W.keepIn K (.ref C_NoPlace) = true)
    (xsaNoPlace : PySem.W.findIn K (.ref C_NoPlace) "__setattr__" = some (some (.builtin "object.__setattr__")))
    (xnaNoPlace : PySem.W.findIn K (.ref C_NoPlace) "place" = some none)
    (xobNoPlace : PySem.W.mroIn K C_NoPlace (.type "object") = some true)
    (xmrNoPlace : (PySem.W.clsIn K C_NoPlace).map (·.mro) = some [.ref C_NoPlace, .ref C_GrowError, .type "ValueError", .type "Exception", .type "BaseException", .type "object"])
    (xhdNoPlace : (PySem.W.clsIn K C_NoPlace).map (·.hasDict) = some true)
    (inNoLetter : PySem.W.findIn K (.ref C_NoLetter) "__init__" = some (some (.ref f_NoLetter_init)))
    (xeNoLetter : Sg.excInI K C_NoLetter Sg.bmV "ValueError.__new__" f_NoLetter_init = true)
    (xfNoLetter : PySem.W.typeIn K (.ref f_NoLetter_init) = some (.type "function"))
    (xkNoLetter : PySem.W.keepIn K (.ref C_NoLetter) = true)
    (xsaNoLetter : PySem.W.findIn K (.ref C_NoLetter) "__setattr__" = some (some (.builtin "object.__setattr__")))
    (xnaNoLetter : PySem.W.findIn K (.ref C_NoLetter) "letter" = some none)
    (xobNoLetter : PySem.W.mroIn K C_NoLetter (.type "object") = some true)
    (xmrNoLetter : (PySem.W.clsIn K C_NoLetter).map (·.mro) = some [.ref C_NoLetter, .ref C_GrowError, .type "ValueError", .type "Exception", .type "BaseException", .type "object"])
    (xhdNoLetter : (PySem.W.clsIn K C_NoLetter).map (·.hasDict) = some true)
    (inNoLine : PySem.W.findIn K (.ref C_NoLine) "__init__" = some (some (.ref f_NoLine_init)))
    (xeNoLine : Sg.excInI K C_NoLine Sg.bmV "ValueError.__new__" f_NoLine_init = true)
    (xfNoLine : PySem.W.typeIn K (.ref f_NoLine_init) = some (.type "function"))
    (xkNoLine : PySem.W.keepIn K (.ref C_NoLine) = true)
    (xsaNoLine : PySem.W.findIn K (.ref C_NoLine) "__setattr__" = some (some (.builtin "object.__setattr__")))
    (xnaNoLine : PySem.W.findIn K (.ref C_NoLine) "line" = some none)
    (xobNoLine : PySem.W.mroIn K C_NoLine (.type "object") = some true)
    (xmrNoLine : (PySem.W.clsIn K C_NoLine).map (·.mro) = some [.ref C_NoLine, .ref C_GrowError, .type "ValueError", .type "Exception", .type "BaseException", .type "object"])
    (xhdNoLine : (PySem.W.clsIn K C_NoLine).map (·.hasDict) = some true)
    (xspGrowError : PySem.W.specialIn K (.ref C_GrowError) "__getattribute__" = some (some (.builtin "type.__getattribute__")))
    (xrdGrowError : PySem.W.readsIn K C_GrowError (.type "type") = true)
    (xfcGrowError : PySem.W.findCls K (.ref C_GrowError) (.type "type") "__init__" = some (.val (.builtin "ValueError.__init__")))
    (l_NoRules_init : K.lookup f_NoRules_init = some ⟨oc_NoRules_init, od_NoRules_init, .func (PySem.W.fnOf "__init__" "NoRules.__init__" (defArgs s_NoRules_init) (defBody s_NoRules_init) (defScope s_NoRules_init) .none kV_NoRules_init dc_NoRules_init pm_NoRules_init an_NoRules_init cd_NoRules_init ct_NoRules_init), sl_NoRules_init⟩)
    (c_NoRules_init : PySem.W.codeIn K cd_NoRules_init "NoRules.__init__" = true)
    (k_NoRules_init : PySem.W.keepIn K (.ref f_NoRules_init) = true)
    (l_NoWord_init : K.lookup f_NoWord_init = some ⟨oc_NoWord_init, od_NoWord_init, .func (PySem.W.fnOf "__init__" "NoWord.__init__" (defArgs s_NoWord_init) (defBody s_NoWord_init) (defScope s_NoWord_init) .none kV_NoWord_init dc_NoWord_init pm_NoWord_init an_NoWord_init cd_NoWord_init ct_NoWord_init), sl_NoWord_init⟩)
    (c_NoWord_init : PySem.W.codeIn K cd_NoWord_init "NoWord.__init__" = true)
    (k_NoWord_init : PySem.W.keepIn K (.ref f_NoWord_init) = true)
    (l_NoText_init : K.lookup f_NoText_init = some ⟨oc_NoText_init, od_NoText_init, .func (PySem.W.fnOf "__init__" "NoText.__init__" (defArgs s_NoText_init) (defBody s_NoText_init) (defScope s_NoText_init) .none kV_NoText_init dc_NoText_init pm_NoText_init an_NoText_init cd_NoText_init ct_NoText_init), sl_NoText_init⟩)
    (c_NoText_init : PySem.W.codeIn K cd_NoText_init "NoText.__init__" = true)
    (k_NoText_init : PySem.W.keepIn K (.ref f_NoText_init) = true)
    (l_NoLetter_init : K.lookup f_NoLetter_init = some ⟨oc_NoLetter_init, od_NoLetter_init, .func (PySem.W.fnOf "__init__" "NoLetter.__init__" (defArgs s_NoLetter_init) (defBody s_NoLetter_init) (defScope s_NoLetter_init) .none kV_NoLetter_init dc_NoLetter_init pm_NoLetter_init an_NoLetter_init cd_NoLetter_init ct_NoLetter_init), sl_NoLetter_init⟩)
    (c_NoLetter_init : PySem.W.codeIn K cd_NoLetter_init "NoLetter.__init__" = true)
    (k_NoLetter_init : PySem.W.keepIn K (.ref f_NoLetter_init) = true)
    (l_NoPlace_init : K.lookup f_NoPlace_init = some ⟨oc_NoPlace_init, od_NoPlace_init, .func (PySem.W.fnOf "__init__" "NoPlace.__init__" (defArgs s_NoPlace_init) (defBody s_NoPlace_init) (defScope s_NoPlace_init) .none kV_NoPlace_init dc_NoPlace_init pm_NoPlace_init an_NoPlace_init cd_NoPlace_init ct_NoPlace_init), sl_NoPlace_init⟩)
    (c_NoPlace_init : PySem.W.codeIn K cd_NoPlace_init "NoPlace.__init__" = true)
    (k_NoPlace_init : PySem.W.keepIn K (.ref f_NoPlace_init) = true)
    (l_NoLine_init : K.lookup f_NoLine_init = some ⟨oc_NoLine_init, od_NoLine_init, .func (PySem.W.fnOf "__init__" "NoLine.__init__" (defArgs s_NoLine_init) (defBody s_NoLine_init) (defScope s_NoLine_init) .none kV_NoLine_init dc_NoLine_init pm_NoLine_init an_NoLine_init cd_NoLine_init ct_NoLine_init), sl_NoLine_init⟩)
    (c_NoLine_init : PySem.W.codeIn K cd_NoLine_init "NoLine.__init__" = true)
    (k_NoLine_init : PySem.W.keepIn K (.ref f_NoLine_init) = true)
    (a_cell : PySem.W.nsIn K mainGlobals "_law_cell" = some (some (.ref f_cell)))
    (l_cell : K.lookup f_cell = some ⟨oc_cell, od_cell, .func (PySem.W.fnOf "_law_cell" "_law_cell" (defArgs s_cell) (defBody s_cell) (defScope s_cell) .none kV_cell dc_cell pm_cell an_cell cd_cell ct_cell), sl_cell⟩)
    (c_cell : PySem.W.codeIn K cd_cell "_law_cell" = true)
    (k_cell : PySem.W.keepIn K (.ref f_cell) = true)
    (a_whole : PySem.W.nsIn K mainGlobals "_law_whole" = some (some (.ref f_whole)))
    (l_whole : K.lookup f_whole = some ⟨oc_whole, od_whole, .func (PySem.W.fnOf "_law_whole" "_law_whole" (defArgs s_whole) (defBody s_whole) (defScope s_whole) .none kV_whole dc_whole pm_whole an_whole cd_whole ct_whole), sl_whole⟩)
    (c_whole : PySem.W.codeIn K cd_whole "_law_whole" = true)
    (k_whole : PySem.W.keepIn K (.ref f_whole) = true)
    (a_letters : PySem.W.nsIn K mainGlobals "_law_letters" = some (some (.ref f_letters)))
    (l_letters : K.lookup f_letters = some ⟨oc_letters, od_letters, .func (PySem.W.fnOf "_law_letters" "_law_letters" (defArgs s_letters) (defBody s_letters) (defScope s_letters) .none kV_letters dc_letters pm_letters an_letters cd_letters ct_letters), sl_letters⟩)
    (c_letters : PySem.W.codeIn K cd_letters "_law_letters" = true)
    (k_letters : PySem.W.keepIn K (.ref f_letters) = true)
    (a_word : PySem.W.nsIn K mainGlobals "_law_word" = some (some (.ref f_word)))
    (l_word : K.lookup f_word = some ⟨oc_word, od_word, .func (PySem.W.fnOf "_law_word" "_law_word" (defArgs s_word) (defBody s_word) (defScope s_word) .none kV_word dc_word pm_word an_word cd_word ct_word), sl_word⟩)
    (c_word : PySem.W.codeIn K cd_word "_law_word" = true)
    (k_word : PySem.W.keepIn K (.ref f_word) = true)
    (a_classes : PySem.W.nsIn K mainGlobals "_law_classes" = some (some (.ref f_classes)))
    (l_classes : K.lookup f_classes = some ⟨oc_classes, od_classes, .func (PySem.W.fnOf "_law_classes" "_law_classes" (defArgs s_classes) (defBody s_classes) (defScope s_classes) .none kV_classes dc_classes pm_classes an_classes cd_classes ct_classes), sl_classes⟩)
    (c_classes : PySem.W.codeIn K cd_classes "_law_classes" = true)
    (k_classes : PySem.W.keepIn K (.ref f_classes) = true)
    (a_errors : PySem.W.nsIn K mainGlobals "_law_errors" = some (some (.ref f_errors)))
    (l_errors : K.lookup f_errors = some ⟨oc_errors, od_errors, .func (PySem.W.fnOf "_law_errors" "_law_errors" (defArgs s_errors) (defBody s_errors) (defScope s_errors) .none kV_errors dc_errors pm_errors an_errors cd_errors ct_errors), sl_errors⟩)
    (c_errors : PySem.W.codeIn K cd_errors "_law_errors" = true)
    (k_errors : PySem.W.keepIn K (.ref f_errors) = true)
    (a_law : PySem.W.nsIn K mainGlobals "law" = some (some (.ref f_law)))
    (l_law : K.lookup f_law = some ⟨oc_law, od_law, .func (PySem.W.fnOf "law" "law" (defArgs s_law) (defBody s_law) (defScope s_law) .none kV_law dc_law pm_law an_law cd_law ct_law), sl_law⟩)
    (c_law : PySem.W.codeIn K cd_law "law" = true)
    (k_law : PySem.W.keepIn K (.ref f_law) = true)
    (z_range : PySem.W.nsIn K mainGlobals "range" = some none)
    (z_len : PySem.W.nsIn K mainGlobals "len" = some none)
    (z_isinstance : PySem.W.nsIn K mainGlobals "isinstance" = some none)
    (z_int : PySem.W.nsIn K mainGlobals "int" = some none)
    (z_bool : PySem.W.nsIn K mainGlobals "bool" = some none)
    (z_ValueError : PySem.W.nsIn K mainGlobals "ValueError" = some none)
    (z_all : PySem.W.nsIn K mainGlobals "all" = some none)
    (x_kits : allKit K [C_NoRules, C_NoWord, C_NoText, C_NoPlace, C_NoLetter, C_NoLine, C_NoPen, C_NoDeed, C_NoRound, C_TooLong, C_NothingDone] = true)
    (x_kitg : gKit K [C_NoRules, C_NoWord, C_NoText, C_NoPlace, C_NoLetter, C_NoLine, C_NoPen, C_NoDeed, C_NoRound, C_TooLong, C_NothingDone] C_GrowError = true)
    (x_kp_NoPen : PySem.W.keepIn K (.ref C_NoPen) = true)
    (x_kp_NoDeed : PySem.W.keepIn K (.ref C_NoDeed) = true)
    (x_kp_NoRound : PySem.W.keepIn K (.ref C_NoRound) = true)
    (x_kp_TooLong : PySem.W.keepIn K (.ref C_TooLong) = true)
    (x_kp_NothingDone : PySem.W.keepIn K (.ref C_NothingDone) = true)
    : ∃ t, Txt K mg t ∧ t.f_law = f_law := by
  refine ⟨⟨f_NoRules_init, PySem.W.fnOf "__init__" "NoRules.__init__" (defArgs s_NoRules_init) (defBody s_NoRules_init) (defScope s_NoRules_init) .none kV_NoRules_init dc_NoRules_init pm_NoRules_init an_NoRules_init cd_NoRules_init ct_NoRules_init, f_NoWord_init, PySem.W.fnOf "__init__" "NoWord.__init__" (defArgs s_NoWord_init) (defBody s_NoWord_init) (defScope s_NoWord_init) .none kV_NoWord_init dc_NoWord_init pm_NoWord_init an_NoWord_init cd_NoWord_init ct_NoWord_init, f_NoText_init, PySem.W.fnOf "__init__" "NoText.__init__" (defArgs s_NoText_init) (defBody s_NoText_init) (defScope s_NoText_init) .none kV_NoText_init dc_NoText_init pm_NoText_init an_NoText_init cd_NoText_init ct_NoText_init, f_NoLetter_init, PySem.W.fnOf "__init__" "NoLetter.__init__" (defArgs s_NoLetter_init) (defBody s_NoLetter_init) (defScope s_NoLetter_init) .none kV_NoLetter_init dc_NoLetter_init pm_NoLetter_init an_NoLetter_init cd_NoLetter_init ct_NoLetter_init, f_NoPlace_init, PySem.W.fnOf "__init__" "NoPlace.__init__" (defArgs s_NoPlace_init) (defBody s_NoPlace_init) (defScope s_NoPlace_init) .none kV_NoPlace_init dc_NoPlace_init pm_NoPlace_init an_NoPlace_init cd_NoPlace_init ct_NoPlace_init, f_NoLine_init, PySem.W.fnOf "__init__" "NoLine.__init__" (defArgs s_NoLine_init) (defBody s_NoLine_init) (defScope s_NoLine_init) .none kV_NoLine_init dc_NoLine_init pm_NoLine_init an_NoLine_init cd_NoLine_init ct_NoLine_init, f_cell, PySem.W.fnOf "_law_cell" "_law_cell" (defArgs s_cell) (defBody s_cell) (defScope s_cell) .none kV_cell dc_cell pm_cell an_cell cd_cell ct_cell, f_whole, PySem.W.fnOf "_law_whole" "_law_whole" (defArgs s_whole) (defBody s_whole) (defScope s_whole) .none kV_whole dc_whole pm_whole an_whole cd_whole ct_whole, f_letters, PySem.W.fnOf "_law_letters" "_law_letters" (defArgs s_letters) (defBody s_letters) (defScope s_letters) .none kV_letters dc_letters pm_letters an_letters cd_letters ct_letters, f_word, PySem.W.fnOf "_law_word" "_law_word" (defArgs s_word) (defBody s_word) (defScope s_word) .none kV_word dc_word pm_word an_word cd_word ct_word, f_classes, PySem.W.fnOf "_law_classes" "_law_classes" (defArgs s_classes) (defBody s_classes) (defScope s_classes) .none kV_classes dc_classes pm_classes an_classes cd_classes ct_classes, f_errors, PySem.W.fnOf "_law_errors" "_law_errors" (defArgs s_errors) (defBody s_errors) (defScope s_errors) .none kV_errors dc_errors pm_errors an_errors cd_errors ct_errors, f_law, PySem.W.fnOf "law" "law" (defArgs s_law) (defBody s_law) (defScope s_law) .none kV_law dc_law pm_law an_law cd_law ct_law, C_GrowError, C_NoPen, C_NoDeed, C_NoRound, C_TooLong, C_NothingDone, C_NoRules, C_NoWord, C_NoText, C_NoPlace, C_NoLetter, C_NoLine⟩, ?_, rfl⟩
  constructor
  · exact PySem.W.mg_of X G aGrowError
  · exact PySem.W.mg_of X G aNoPen
  · exact PySem.W.mg_of X G aNoDeed
  · exact PySem.W.mg_of X G aNoRound
  · exact PySem.W.mg_of X G aTooLong
  · exact PySem.W.mg_of X G aNothingDone
  · exact PySem.W.mg_of X G aNoRules
  · exact PySem.W.mg_of X G aNoWord
  · exact PySem.W.mg_of X G aNoText
  · exact PySem.W.mg_of X G aNoPlace
  · exact PySem.W.mg_of X G aNoLetter
  · exact PySem.W.mg_of X G aNoLine
  · exact ⟨xiGrowError⟩
  · exact ⟨x1GrowError, x2GrowError, x3GrowError, x4GrowError, x5GrowError, x6GrowError, x7GrowError, x8GrowError⟩
  · exact ⟨xiNoPen⟩
  · exact ⟨x1NoPen, x2NoPen, x3NoPen, x4NoPen, x5NoPen, x6NoPen, x7NoPen, x8NoPen⟩
  · exact ⟨xiNoDeed⟩
  · exact ⟨x1NoDeed, x2NoDeed, x3NoDeed, x4NoDeed, x5NoDeed, x6NoDeed, x7NoDeed, x8NoDeed⟩
  · exact ⟨xiNoRound⟩
  · exact ⟨x1NoRound, x2NoRound, x3NoRound, x4NoRound, x5NoRound, x6NoRound, x7NoRound, x8NoRound⟩
  · exact ⟨xiTooLong⟩
  · exact ⟨x1TooLong, x2TooLong, x3TooLong, x4TooLong, x5TooLong, x6TooLong, x7TooLong, x8TooLong⟩
  · exact ⟨xiNothingDone⟩
  · exact ⟨x1NothingDone, x2NothingDone, x3NothingDone, x4NothingDone, x5NothingDone, x6NothingDone, x7NothingDone, x8NothingDone⟩
  · exact ⟨x1NoRules, x2NoRules, x3NoRules, x4NoRules, x5NoRules, x6NoRules, x7NoRules, x8NoRules⟩
  · exact ⟨x1NoWord, x2NoWord, x3NoWord, x4NoWord, x5NoWord, x6NoWord, x7NoWord, x8NoWord⟩
  · exact ⟨x1NoText, x2NoText, x3NoText, x4NoText, x5NoText, x6NoText, x7NoText, x8NoText⟩
  · exact ⟨x1NoPlace, x2NoPlace, x3NoPlace, x4NoPlace, x5NoPlace, x6NoPlace, x7NoPlace, x8NoPlace⟩
  · exact ⟨x1NoLetter, x2NoLetter, x3NoLetter, x4NoLetter, x5NoLetter, x6NoLetter, x7NoLetter, x8NoLetter⟩
  · exact ⟨x1NoLine, x2NoLine, x3NoLine, x4NoLine, x5NoLine, x6NoLine, x7NoLine, x8NoLine⟩
  · exact ⟨xeNoRules, xfNoRules, xkNoRules⟩
  · exact ⟨xsaNoRules, xnaNoRules, xobNoRules, ⟨_, xmrNoRules⟩, xhdNoRules⟩
  · exact ⟨xeNoWord, xfNoWord, xkNoWord⟩
  · exact ⟨xsaNoWord, xnaNoWord, xobNoWord, ⟨_, xmrNoWord⟩, xhdNoWord⟩
  · exact ⟨xeNoText, xfNoText, xkNoText⟩
  · exact ⟨xsaNoText, xnaNoText, xobNoText, ⟨_, xmrNoText⟩, xhdNoText⟩
  · exact ⟨xeNoPlace, xfNoPlace, xkNoPlace⟩
  · exact ⟨xsaNoPlace, xnaNoPlace, xobNoPlace, ⟨_, xmrNoPlace⟩, xhdNoPlace⟩
  · exact ⟨xeNoLetter, xfNoLetter, xkNoLetter⟩
  · exact ⟨xsaNoLetter, xnaNoLetter, xobNoLetter, ⟨_, xmrNoLetter⟩, xhdNoLetter⟩
  · exact ⟨xeNoLine, xfNoLine, xkNoLine⟩
  · exact ⟨xsaNoLine, xnaNoLine, xobNoLine, ⟨_, xmrNoLine⟩, xhdNoLine⟩
  · exact ⟨xspGrowError, xrdGrowError, xfcGrowError⟩
  · exact funG_mk (st := s_NoRules_init) l_NoRules_init c_NoRules_init
  · exact k_NoRules_init
  · exact (fun_mk (st := s_NoRules_init) l_NoRules_init c_NoRules_init k_NoRules_init).binds fun _ _ _ _ _ _ us hl => match us, hl with | [_, _], _ => rfl
  · exact funG_mk (st := s_NoWord_init) l_NoWord_init c_NoWord_init
  · exact k_NoWord_init
  · exact (fun_mk (st := s_NoWord_init) l_NoWord_init c_NoWord_init k_NoWord_init).binds fun _ _ _ _ _ _ us hl => match us, hl with | [_, _], _ => rfl
  · exact funG_mk (st := s_NoText_init) l_NoText_init c_NoText_init
  · exact k_NoText_init
  · exact (fun_mk (st := s_NoText_init) l_NoText_init c_NoText_init k_NoText_init).binds fun _ _ _ _ _ _ us hl => match us, hl with | [_, _], _ => rfl
  · exact funG_mk (st := s_NoLetter_init) l_NoLetter_init c_NoLetter_init
  · exact k_NoLetter_init
  · exact (fun_mk (st := s_NoLetter_init) l_NoLetter_init c_NoLetter_init k_NoLetter_init).binds fun _ _ _ _ _ _ us hl => match us, hl with | [_, _], _ => rfl
  · exact funG_mk (st := s_NoPlace_init) l_NoPlace_init c_NoPlace_init
  · exact k_NoPlace_init
  · exact (fun_mk (st := s_NoPlace_init) l_NoPlace_init c_NoPlace_init k_NoPlace_init).binds fun _ _ _ _ _ _ us hl => match us, hl with | [_, _], _ => rfl
  · exact funG_mk (st := s_NoLine_init) l_NoLine_init c_NoLine_init
  · exact k_NoLine_init
  · exact (fun_mk (st := s_NoLine_init) l_NoLine_init c_NoLine_init k_NoLine_init).binds fun _ _ _ _ _ _ us hl => match us, hl with | [_, _], _ => rfl
  · exact fun_mk (st := s_cell) l_cell c_cell k_cell
  · exact k_cell
  · exact (fun_mk (st := s_cell) l_cell c_cell k_cell).binds fun _ _ _ _ _ _ us hl => match us, hl with | [_, _], _ => rfl
  · exact PySem.W.mg_of X G a_cell
  · exact fun_mk (st := s_whole) l_whole c_whole k_whole
  · exact k_whole
  · exact (fun_mk (st := s_whole) l_whole c_whole k_whole).binds fun _ _ _ _ _ _ us hl => match us, hl with | [_], _ => rfl
  · exact PySem.W.mg_of X G a_whole
  · exact fun_mk (st := s_letters) l_letters c_letters k_letters
  · exact k_letters
  · exact (fun_mk (st := s_letters) l_letters c_letters k_letters).binds fun _ _ _ _ _ _ us hl => match us, hl with | [_], _ => rfl
  · exact PySem.W.mg_of X G a_letters
  · exact fun_mk (st := s_word) l_word c_word k_word
  · exact k_word
  · exact (fun_mk (st := s_word) l_word c_word k_word).binds fun _ _ _ _ _ _ us hl => match us, hl with | [_, _, _], _ => rfl
  · exact PySem.W.mg_of X G a_word
  · exact fun_mk (st := s_classes) l_classes c_classes k_classes
  · exact k_classes
  · exact (fun_mk (st := s_classes) l_classes c_classes k_classes).binds fun _ _ _ _ _ _ us hl => match us, hl with | [_], _ => rfl
  · exact PySem.W.mg_of X G a_classes
  · exact fun_mk (st := s_errors) l_errors c_errors k_errors
  · exact k_errors
  · exact (fun_mk (st := s_errors) l_errors c_errors k_errors).binds fun _ _ _ _ _ _ us hl => match us, hl with | [_, _, _], _ => rfl
  · exact PySem.W.mg_of X G a_errors
  · exact fun_mk (st := s_law) l_law c_law k_law
  · exact k_law
  · exact (fun_mk (st := s_law) l_law c_law k_law).binds fun _ _ _ _ _ _ us hl => match us, hl with | [_], _ => rfl
  · exact PySem.W.mg_of X G a_law
  · exact PySem.W.mg_none_of X G z_range
  · exact PySem.W.mg_none_of X G z_len
  · exact PySem.W.mg_none_of X G z_isinstance
  · exact PySem.W.mg_none_of X G z_int
  · exact PySem.W.mg_none_of X G z_bool
  · exact PySem.W.mg_none_of X G z_ValueError
  · exact PySem.W.mg_none_of X G z_all
  · exact fun s u => .of_eq rfl
  · exact x_kits
  · exact x_kitg
  · exact x_kp_NoPen
  · exact x_kp_NoDeed
  · exact x_kp_NoRound
  · exact x_kp_TooLong
  · exact x_kp_NothingDone

abbrev CX : CXT := CX0
/-! ### rules: rows of a letter, a deed, a word -/
def sg (c : Nat) : Str := ⟨#[c]⟩
def tx (w : List Nat) : Str := ⟨w.toArray⟩
structure Row where
  c : Nat
  d : Str
  w : List Nat
def deedL : List Str := ["stroke", "step", "left", "right", "rest"]
def rwD (r : Row) : Dt := .tup [.str (sg r.c), .str r.d, .str (tx r.w)]
def small (c : Nat) : Prop := 97 ≤ c ∧ c ≤ 122
structure RowsOk (rows : List Row) : Prop where
  pos : 0 < rows.length
  le : rows.length ≤ 6
  nd : (rows.map (·.c)).Nodup
  sm : ∀ r ∈ rows, small r.c
  dd : ∀ r ∈ rows, r.d ∈ deedL
  wp : ∀ r ∈ rows, 0 < r.w.length ∧ r.w.length ≤ 8
  wo : ∀ r ∈ rows, ∀ x ∈ r.w, x ∈ rows.map (·.c)
def dicD (rows : List Row) : List (Key × Dt) := rows.map fun r => (.inr (sg r.c), rwD r)
abbrev Rl := List Dt → Res → Prop
def wy (six : Bool) : Int := if six then 6 else 4
theorem len_tx (w : List Nat) : (tx w).length = w.length := by show w.toArray.size = w.length; simp
theorem szl {n : Nat} (h : n ≤ 2000) : n ≤ sizeLine := Nat.le_trans h (by decide)
open PySem.Builtin.Str in
theorem slice_gen (x : Str) {a b : Nat} (hab : a ≤ b) (hb : b ≤ x.length) {l u : Option Int} (h : strSliceIndices l u 1 x.length = strSliceIndices (some (a : Int)) (some (b : Int)) 1 x.length) : Txt.slice x l u = ⟨((x.cps.toList.drop a).take (b - a)).toArray⟩ := by
  unfold Txt.slice
  rw [h, PySem.StrLaws.sliced_plain x hab hb]
  split
  · rename_i q
    rw [PySem.StrLaws.strSliceIndices_plain hab hb, List.length_map, List.length_range] at q
    have q : b - a = x.length := by simpa using q
    have ea : a = 0 := by omega
    have eb : b = x.length := by omega
    subst ea eb
    rw [List.drop_zero, Nat.sub_zero]
    have : x.cps.toList.take x.length = x.cps.toList := List.take_of_length_le (by simp [Str.length])
    rw [this]
  · rfl
open PySem.Builtin.Str in
theorem slice_to (L : List Nat) {k : Nat} (h : k ≤ L.length) : Txt.slice (tx L) none (some (k : Int)) = tx (L.take k) := by
  rw [slice_gen (tx L) (a := 0) (b := k) (Nat.zero_le _) (by rw [len_tx]; exact h)]
  · show (⟨(((L.toArray.toList).drop 0).take (k - 0)).toArray⟩ : Str) = _
    simp [tx]
  · simp [strSliceIndices]
    have e : max (0 : Int) (min 0 ((tx L).length : Int)) = 0 := by omega
    rw [e]
open PySem.Builtin.Str in
theorem slice_from (L : List Nat) {k : Nat} (h : k ≤ L.length) : Txt.slice (tx L) (some (k : Int)) none = tx (L.drop k) := by
  rw [slice_gen (tx L) (a := k) (b := (tx L).length) (by rw [len_tx]; exact h) (Nat.le_refl _)]
  · show (⟨(((L.toArray.toList).drop k).take ((tx L).length - k)).toArray⟩ : Str) = _
    rw [len_tx, List.toList_toArray, List.take_of_length_le (by rw [List.length_drop]; exact Nat.le_refl _)]
    rfl
  · simp [strSliceIndices]
    have e : max (0 : Int) (min (if ((tx L).length : Int) < 0 then ((tx L).length : Int) + (tx L).length else (tx L).length) ((tx L).length : Int)) = (tx L).length := by
      rw [if_neg (by omega)]; omega
    rw [e]
theorem cat_tx (a b : List Nat) : tx a ++ tx b = tx (a ++ b) := by
  show (⟨a.toArray ++ b.toArray⟩ : Str) = ⟨(a ++ b).toArray⟩
  simp
theorem at_tx (L : List Nat) {k : Nat} (h : k < L.length) : atI (tx L).cps.toList (k : Int) = some (L.getD k 0) := by
  show atI L.toArray.toList (k : Int) = _
  rw [List.toList_toArray]
  refine atI_nat ?_
  rw [List.getD_eq_getElem?_getD, List.getElem?_eq_getElem h]; rfl
section
variable {X : Cx} {G : Gr} {dl : List Slot} {a b e : Expr} {L M : List Nat} {k : Nat} {pos p p2 : Pos} {ns : List Int}
theorem ee_catT (ha : EE X G dl a (.str (tx L))) (hb : EE X G dl b (.str (tx M))) (h : L.length + M.length ≤ 2000) : EE X G dl (.BinOp a .Add b pos) (.str (tx (L ++ M))) :=
  ee_to (ee_cat ha hb (by rw [len_tx, len_tx]; exact szl h)) (by rw [cat_tx])
theorem ee_ixTx (ha : EE X G dl a (.str (tx L))) (hb : EE X G dl b (.int (k : Int))) (h : k < L.length) (hl : L.length ≤ 2000) (hs : PlainIx b := by intro _ _; rfl) : EE X G dl (.Subscript a b pos) (.str (tx [L.getD k 0])) :=
  ee_ixS ha hb (at_tx L h) (by rw [len_tx]; exact szl hl) hs
theorem ee_toTx (ha : EE X G dl a (.str (tx L))) (hb : EE X G dl b (.int (k : Int))) (h : k ≤ L.length) (hl : L.length ≤ 2000) : EE X G dl (.Subscript a (.Slice none (some b) none p2) pos) (.str (tx (L.take k))) :=
  ee_to (ee_slS ha ept_no (ept_int hb) (by rw [len_tx]; exact szl hl)) (by rw [slice_to L h])
theorem ee_fromTx (ha : EE X G dl a (.str (tx L))) (hb : EE X G dl b (.int (k : Int))) (h : k ≤ L.length) (hl : L.length ≤ 2000) : EE X G dl (.Subscript a (.Slice (some b) none none p2) pos) (.str (tx (L.drop k))) :=
  ee_to (ee_slS ha (ept_int hb) ept_no (by rw [len_tx]; exact szl hl)) (by rw [slice_from L h])
theorem ee_lenTx (hm : X.mg "len" = none) (ha : EE X G dl a (.str (tx L))) (hl : L.length ≤ 2000) (hg : Gl X "len" := by rfl) (he : starEach [a] X.env = [(false, eval a X.env)] := by rfl) : EE X G dl (.Call (.Name "len" p) [a] [] pos) (.int (L.length : Nat)) :=
  ee_to (ee_lenS hm ha (by rw [len_tx]; exact szl hl) hg he) (by rw [len_tx])
end
def cellAt (ns : List Int) (k : Nat) : Int := ns.getD k 0
def R_law : Rl := fun ds r => ∃ ns : List Int, ns.length ≤ 63 ∧ ds = [.scr ns] ∧ r = .ret (.bl true)
def spLaw (K : PySem.W.Frag) : Sp := spR K 1 R_law
theorem law_sp {K : PySem.W.Frag} {H : Hp} {a : Addr} {ns : List Int} (hl : ns.length ≤ 63) (hS : SqL K H a (ns.map V.int)) : spLaw K [.ref a] H (fun v _ => v = .bl true) fun _ _ _ => False :=
  ⟨H, [.scr ns], .ret (.bl true), Same.refl H, .cons (.scr hS) .nil, rfl, ⟨ns, hl, rfl, rfl⟩, fun v Hf' H' g r => by cases r; rfl⟩
def R_cell_at : Rl := fun ds r => ∃ (ns : List Int) (k : Nat), ds = [.scr ns, .int k] ∧ k ≤ 100 ∧ r = .ret (.int (cellAt ns k))
def R_whole : Rl := fun ds r => ∃ z, ds = [.int z] ∧ r = .ret (.bl true)
section
variable {P : Program} {w : World} {K : PySem.W.Frag} {mg : Str → Option Value} {base : Heap} {t : Adr}
theorem getD_scr (ns : List Int) (k : Nat) (h : k < ns.length) : atI ns (k : Int) = some (ns.getD k 0) := by
  refine atI_nat ?_
  rw [List.getD_eq_getElem?_getD, List.getElem?_eq_getElem h]; rfl
theorem ok_cell (T : Txt K mg t) : GF P w K mg base CX 1 "_law_cell" 2 R_cell_at := by
  refine ⟨_, _, _, fnR T.F_cell sc_cell rfl fun cdv A outer s H E G ds r hr hl hR => ?_, T.m_cell, T.k_cell, T.b_cell⟩
  obtain ⟨ns, k, rfl, hk, rfl⟩ := hR
  by_cases h : k < ns.length
  · exact ⟨_, .rt _, es_stop (es_if (u := true) (eb_to (eb_lt (ee_var 1 rfl) (ee_lenC T.z_len (ee_var 0 rfl))) (decide_eq_true (by omega))) (fun _ => es_one (es_ret (ee_ixC (ee_var 0 rfl) (ee_var 1 rfl) (getD_scr ns k h)))) (fun h => nomatch h))⟩
  · have e : cellAt ns k = 0 := by unfold cellAt; rw [List.getD_eq_getElem?_getD, List.getElem?_eq_none (by omega)]; rfl
    rw [e]
    exact ⟨_, .rt _, es_cons (es_if (u := false) (eb_to (eb_lt (ee_var 1 rfl) (ee_lenC T.z_len (ee_var 0 rfl))) (decide_eq_false (by omega))) (fun h => nomatch h) (fun h => es_nil)) (es_one (es_ret ee_int))⟩
theorem ok_whole (T : Txt K mg t) : GF P w K mg base CX 1 "_law_whole" 1 R_whole := by
  refine ⟨_, _, _, fnR T.F_whole sc_whole rfl fun cdv A outer s H E G ds r hr hl hR => ?_, T.m_whole, T.k_whole, T.b_whole⟩
  obtain ⟨z, rfl, rfl⟩ := hR
  exact ⟨_, .rt _, (es_one (es_ret (ee_and (u := true) (v := true) (ee_isi T.z_isinstance (ee_var 0 rfl) (ee_ty T.z_int Sg.boot_int) rfl trivial rfl) fun _ => (ee_and1 (ee_not (u := false) (ee_isi T.z_isinstance (ee_var 0 rfl) (ee_ty T.z_bool Sg.boot_bool) rfl trivial rfl))))))⟩
end

/-! ### the law's letters, words, rows -/
def abc : List Nat := (List.range 26).map (97 + ·)
structure LS where
  left : List Nat
  rest : Int
  out : List Nat
def ls (c : Int) : Nat → LS
  | 0 => ⟨abc, c / 6, []⟩
  | k + 1 => let s := ls c k; let at_ := (s.rest % (s.left.length : Nat)).toNat; ⟨s.left.take at_ ++ s.left.drop (at_ + 1), s.rest / (s.left.length : Nat), s.out ++ [s.left.getD at_ 0]⟩
def lat (s : LS) : Nat := (s.rest % (s.left.length : Nat)).toNat
structure LOk (k : Nat) (s : LS) : Prop where
  len : s.left.length + k = 26
  ol : s.out.length = k
  sm : ∀ x ∈ s.left, small x
  so : ∀ x ∈ s.out, small x
  nl : s.left.Nodup
  no : s.out.Nodup
  ap : ∀ x ∈ s.out, x ∉ s.left
theorem lat_lt {s : LS} (h : 0 < s.left.length) : lat s < s.left.length := by
  have h0 := Int.emod_nonneg s.rest (show ((s.left.length : Nat) : Int) ≠ 0 by omega)
  have h1 := Int.emod_lt_of_pos s.rest (show (0 : Int) < (s.left.length : Nat) by omega)
  unfold lat
  omega
theorem ls_ok (c : Int) : ∀ k, k ≤ 6 → LOk k (ls c k)
  | 0, _ => ⟨show abc.length + 0 = 26 by decide, rfl, fun x hx => by
      obtain ⟨i, hi, rfl⟩ := List.mem_map.mp (show x ∈ (List.range 26).map (97 + ·) from hx)
      have := List.mem_range.mp hi
      unfold small; omega, fun x h => absurd h (List.not_mem_nil), show abc.Nodup by decide, List.nodup_nil, fun x h => absurd h (List.not_mem_nil)⟩
  | k + 1, hk => by
    have ih := ls_ok c k (by omega)
    have hl := ih.len
    have hlt : lat (ls c k) < (ls c k).left.length := lat_lt (by omega)
    generalize hs : ls c k = s at ih hl hlt
    have e : ls c (k + 1) = ⟨s.left.take (lat s) ++ s.left.drop (lat s + 1), s.rest / (s.left.length : Nat), s.out ++ [s.left.getD (lat s) 0]⟩ := by rw [← hs]; rfl
    rw [e]
    have eg : s.left.getD (lat s) 0 = s.left[lat s] := by rw [List.getD_eq_getElem?_getD, List.getElem?_eq_getElem hlt]; rfl
    have sub : s.left.take (lat s) ++ s.left.drop (lat s + 1) = s.left.eraseIdx (lat s) := (List.eraseIdx_eq_take_drop_succ _ _).symm
    have mem : ∀ x ∈ s.left.take (lat s) ++ s.left.drop (lat s + 1), x ∈ s.left := fun x hx => by
      rcases List.mem_append.mp hx with h | h
      · exact List.mem_of_mem_take h
      · exact List.mem_of_mem_drop h
    have hin : s.left[lat s] ∈ s.left := List.getElem_mem hlt
    have nin : s.left[lat s] ∉ s.left.take (lat s) ++ s.left.drop (lat s + 1) := by
      have pw := List.pairwise_iff_getElem.mp ih.nl
      intro h
      rcases List.mem_append.mp h with h | h
      · obtain ⟨i, hi, e⟩ := List.mem_iff_getElem.mp h
        rw [List.length_take] at hi
        rw [List.getElem_take] at e
        exact pw i (lat s) (by omega) hlt (by omega) e
      · obtain ⟨i, hi, e⟩ := List.mem_iff_getElem.mp h
        rw [List.length_drop] at hi
        rw [List.getElem_drop] at e
        exact pw (lat s) (lat s + 1 + i) hlt (by omega) (by omega) e.symm
    refine ⟨?_, ?_, fun x hx => ih.sm x (mem x hx), fun x hx => ?_, ?_, ?_, fun x hx => ?_⟩
    · show (s.left.take (lat s) ++ s.left.drop (lat s + 1)).length + (k + 1) = 26
      rw [List.length_append, List.length_take, List.length_drop]; omega
    · show (s.out ++ [s.left.getD (lat s) 0]).length = k + 1
      rw [List.length_append, ih.ol]; rfl
    · rcases List.mem_append.mp hx with h | h
      · exact ih.so x h
      · have : x = s.left[lat s] := by rw [← eg]; simpa using h
        rw [this]; exact ih.sm _ hin
    · show (s.left.take (lat s) ++ s.left.drop (lat s + 1)).Nodup
      rw [sub]
      exact List.Nodup.sublist (List.eraseIdx_sublist _ _) ih.nl
    · show (s.out ++ [s.left.getD (lat s) 0]).Nodup
      rw [eg]
      refine List.nodup_append.mpr ⟨ih.no, by simp, fun a ha b hb z => ?_⟩
      have : b = s.left[lat s] := by simpa using hb
      subst z this
      exact ih.ap _ ha hin
    · rcases List.mem_append.mp hx with h | h
      · exact fun z => ih.ap x h (mem x z)
      · have : x = s.left[lat s] := by rw [← eg]; simpa using h
        rw [this]; exact nin
def lets (c : Int) : List Nat := (ls c (1 + c % 6).toNat).out
def R_letters : Rl := fun ds r => ∃ c, ds = [.int c] ∧ r = .ret (.str (tx (lets c)))
def ws (L : List Nat) (c m : Int) : Nat → Int × List Nat
  | 0 => (c / m, [])
  | k + 1 => let s := ws L c m k; (s.1 / (L.length : Nat), s.2 ++ [L.getD (s.1 % (L.length : Nat)).toNat 0])
def wordL (L : List Nat) (c m : Int) : List Nat := (ws L c m (1 + c % m).toNat).2
theorem ws_len (L : List Nat) (c m : Int) : ∀ k, (ws L c m k).2.length = k
  | 0 => rfl
  | k + 1 => by show ((ws L c m k).2 ++ [_]).length = _; rw [List.length_append, ws_len L c m k]; rfl
theorem ws_mem (L : List Nat) (hL : 0 < L.length) (c m : Int) : ∀ k, ∀ x ∈ (ws L c m k).2, x ∈ L
  | 0, x, h => by cases h
  | k + 1, x, h => by
    rcases List.mem_append.mp h with h | h
    · exact ws_mem L hL c m k x h
    · have h0 := Int.emod_nonneg (ws L c m k).1 (show ((L.length : Nat) : Int) ≠ 0 by omega)
      have h1 := Int.emod_lt_of_pos (ws L c m k).1 (show (0 : Int) < (L.length : Nat) by omega)
      have hlt : ((ws L c m k).1 % (L.length : Nat)).toNat < L.length := by omega
      have : x = L.getD ((ws L c m k).1 % (L.length : Nat)).toNat 0 := by simpa using h
      rw [this, List.getD_eq_getElem?_getD, List.getElem?_eq_getElem hlt]
      exact List.getElem_mem hlt
def R_word : Rl := fun ds r => ∃ (L : List Nat) (c m : Int), ds = [.int c, .str (tx L), .int m] ∧ (0 < L.length ∧ L.length ≤ 100) ∧ (0 < m ∧ m ≤ 500) ∧ r = .ret (.str (tx (wordL L c m)))
section
variable {P : Program} {w : World} {K : PySem.W.Frag} {mg : Str → Option Value} {base : Heap} {t : Adr}
theorem ok_letters (T : Txt K mg t) : GF P w K mg base CX 1 "_law_letters" 1 R_letters := by
  refine ⟨_, _, _, fnR T.F_letters sc_letters rfl fun cdv A outer s H E G ds r hr hl hR => ?_, T.m_letters, T.k_letters, T.b_letters⟩
  obtain ⟨c, rfl, rfl⟩ := hR
  have nd := sc_letters.nd
  have h0 := Int.emod_nonneg c (show (6 : Int) ≠ 0 by decide)
  have h1 := Int.emod_lt_of_pos c (show (0 : Int) < 6 by decide)
  let S : Nat → List Slot := fun k => [.val (.int c), .val (.str (tx (ls c k).left)), .val (.int (ls c k).rest), .val (.str (tx (ls c k).out)), .unk, .unk]
  refine ⟨_, .rt _, es_cons (es_set 1 nd ee_str) (es_cons (es_set 2 nd (ee_fdiv (ee_var 0 rfl) ee_int ⟨by decide, by decide +kernel⟩)) (es_cons (es_set 3 nd ee_str)
    (es_cons (es_range1 (m := (1 + c % 6).toNat) 4 S nd rfl PassesOwn.leaving T.z_range (ea_cons (ee_add ee_int (ee_mod (ee_var 0 rfl) ee_int (by decide))) ea_nil) ⟨by omega, by omega⟩ (Le.of ⟨rfl, rfl, rfl, rfl, trivial⟩) (Nat.le_refl _) (fun k hk => ?_) (.all rfl)) (es_one (es_ret (ee_var 3 rfl))))))⟩
  have ok := ls_ok c k (by omega)
  have hl := ok.len
  have hol := ok.ol
  have hlt : lat (ls c k) < (ls c k).left.length := lat_lt (by omega)
  have ea : (ls c k).rest % (((ls c k).left.length : Nat) : Int) = ((lat (ls c k) : Nat) : Int) := by
    have h0 := Int.emod_nonneg (ls c k).rest (show (((ls c k).left.length : Nat) : Int) ≠ 0 by omega)
    unfold lat; omega
  have ea1 : ((lat (ls c k) : Nat) : Int) + 1 = ((lat (ls c k) + 1 : Nat) : Int) := by omega
  have hb : 0 < (((ls c k).left.length : Nat) : Int) ∧ (((ls c k).left.length : Nat) : Int).natAbs.log2 < 9000 := ⟨by omega, by
    have : (((ls c k).left.length : Nat) : Int).natAbs ≤ 26 := by omega
    exact Nat.lt_of_le_of_lt (Nat.log2_le_self _) (by omega)⟩
  exact .nx (es_cons (es_set 5 nd (ee_to (ee_mod (ee_var 2 rfl) (ee_lenTx T.z_len (ee_var 1 rfl) (by omega)) (by omega)) (congrArg Dt.int ea)))
    (es_cons (es_set 2 nd (ee_fdiv (ee_var 2 rfl) (ee_lenTx T.z_len (ee_var 1 rfl) (by omega)) hb))
    (es_cons (es_set 3 nd (ee_catT (ee_var 3 rfl) (ee_ixTx (ee_var 1 rfl) (ee_var 5 rfl) hlt (by omega)) (by rw [hol]; show k + 1 ≤ 2000; omega)))
    (es_one (es_set 1 nd (ee_catT (ee_toTx (ee_var 1 rfl) (ee_var 5 rfl) (Nat.le_of_lt hlt) (by omega)) (ee_fromTx (ee_var 1 rfl) (ee_to (ee_add (ee_var 5 rfl) ee_int) (congrArg Dt.int ea1)) hlt (by omega)) (by rw [List.length_take, List.length_drop]; omega))))))) (Le.of ⟨rfl, rfl, rfl, rfl, trivial⟩)
theorem ok_word (T : Txt K mg t) : GF P w K mg base CX 1 "_law_word" 3 R_word := by
  refine ⟨_, _, _, fnR T.F_word sc_word rfl fun cdv A outer s H E G ds r hr hl hR => ?_, T.m_word, T.k_word, T.b_word⟩
  obtain ⟨L, c, m, rfl, ⟨hL0, hL⟩, ⟨hm0, hm⟩, rfl⟩ := hR
  have nd := sc_word.nd
  have h0 := Int.emod_nonneg c (show m ≠ 0 by omega)
  have h1 := Int.emod_lt_of_pos c hm0
  have hmb : 0 < m ∧ m.natAbs.log2 < 9000 := ⟨hm0, Nat.lt_of_le_of_lt (Nat.log2_le_self _) (by omega)⟩
  have hLb : 0 < ((L.length : Nat) : Int) ∧ ((L.length : Nat) : Int).natAbs.log2 < 9000 := ⟨by omega, Nat.lt_of_le_of_lt (Nat.log2_le_self _) (by omega)⟩
  let S : Nat → List Slot := fun k => [.val (.int c), .val (.str (tx L)), .val (.int m), .val (.int (ws L c m k).1), .val (.str (tx (ws L c m k).2)), .unk]
  refine ⟨_, .rt _, es_cons (es_set 3 nd (ee_fdiv (ee_var 0 rfl) (ee_var 2 rfl) hmb)) (es_cons (es_set 4 nd ee_str)
    (es_cons (es_range1 (m := (1 + c % m).toNat) 5 S nd rfl PassesOwn.leaving T.z_range (ea_cons (ee_add ee_int (ee_mod (ee_var 0 rfl) (ee_var 2 rfl) hm0)) ea_nil) ⟨by omega, by omega⟩ (Le.of ⟨rfl, rfl, rfl, rfl, rfl, trivial⟩) (Nat.le_refl _) (fun k hk => ?_) (.all rfl)) (es_one (es_ret (ee_var 4 rfl)))))⟩
  have hwl := ws_len L c m k
  have h2 := Int.emod_nonneg (ws L c m k).1 (show ((L.length : Nat) : Int) ≠ 0 by omega)
  have h3 := Int.emod_lt_of_pos (ws L c m k).1 (show (0 : Int) < (L.length : Nat) by omega)
  have ea : (ws L c m k).1 % ((L.length : Nat) : Int) = ((((ws L c m k).1 % (L.length : Nat)).toNat : Nat) : Int) := by omega
  exact .nx (es_cons (es_set 4 nd (ee_catT (ee_var 4 rfl) (ee_ixTx (ee_var 1 rfl) (ee_to (ee_mod (ee_var 3 rfl) (ee_lenTx T.z_len (ee_var 1 rfl) (by omega)) (by omega)) (congrArg Dt.int ea)) (by omega) (by omega)) (by rw [hwl]; show k + 1 ≤ 2000; omega)))
    (es_one (es_set 3 nd (ee_fdiv (ee_var 3 rfl) (ee_lenTx T.z_len (ee_var 1 rfl) (by omega)) hLb)))) (Le.of ⟨rfl, rfl, rfl, rfl, rfl, trivial⟩)
end

def okN (d : Dt) : Prop := ∃ n : Nat, d = .int (n : Nat) ∧ n ≤ 1000000
def okW (d : Dt) : Prop := ∃ w : List Nat, d = .str (tx w) ∧ (∀ x ∈ w, x < 128) ∧ w.length ≤ 100
theorem log_num {n : Nat} (h : n ≤ 1000000) : ((n : Nat) : Int).natAbs.log2 < 1920 := by
  rw [Int.natAbs_natCast]
  by_cases h0 : n = 0
  · subst h0; decide
  · exact (Nat.log2_lt h0).mpr (Nat.lt_of_le_of_lt h (Nat.lt_of_lt_of_le (show 1000000 < 2 ^ 20 by decide) (Nat.pow_le_pow_right (by decide) (by decide))))
theorem len_num {n : Nat} (h : n ≤ 1000000) : (Str.ofString (toString ((n : Nat) : Int))).length ≤ 1000 := by
  have := PyProof.Rows.toString_length_le (v := ((n : Nat) : Int)) (by omega) (k := 7) (by decide) (by omega)
  omega
theorem len_msg {y : Str} {n : Nat} (h : n ≤ 1000000) (hy : y.length ≤ 100) : (Str.empty ++ y ++ Str.ofString (toString ((n : Nat) : Int))).length ≤ sizeLine := by
  rw [PySem.Str.length_append, PySem.Str.length_append]
  have := len_num h
  have e : Str.empty.length = 0 := rfl
  exact Nat.le_trans (show Str.empty.length + y.length + _ ≤ 2000 by omega) (by decide)
theorem rep_len {w : List Nat} (hw : ∀ x ∈ w, x < 128) (hl : w.length ≤ 100) : (reprText (tx w)).length ≤ 1100 := by
  have := PySem.StrLaws.reprText_len (tx w) (fun c hc => Nat.lt_of_lt_of_le (hw c (by simpa [tx] using hc)) (by decide))
  rw [len_tx] at this
  omega
theorem len_rep {y : Str} {w : List Nat} (hw : ∀ x ∈ w, x < 128) (hl : w.length ≤ 100) (hy : y.length ≤ 100) : (Str.empty ++ y ++ reprText (tx w)).length ≤ sizeLine := by
  rw [PySem.Str.length_append, PySem.Str.length_append]
  have := rep_len hw hl
  have e : Str.empty.length = 0 := rfl
  exact Nat.le_trans (show Str.empty.length + y.length + _ ≤ 2000 by omega) (by decide)
section
variable {P : Program} {w : World} {K : PySem.W.Frag} {mg : Str → Option Value} {base : Heap} {t : Adr}
theorem ok_xNoRules (T : Txt K mg t) : XF P w K mg base CX 1 "NoRules" t.C_NoRules "row" okN :=
  ⟨_, _, _, fn_xinit T.F_NoRules_init sc_NoRules_init rfl rfl (fun cdv A outer s H E d hr hd => by
    obtain ⟨n, rfl, hn⟩ := hd
    exact xbody T.xi_NoRules T.xb_GrowError T.sx_NoRules T.m_GrowError (fun G => ee_fmtI (ee_var 1 rfl) (log_num hn) (by decide) (len_msg hn (by decide)))), T.xi_NoRules, T.m_NoRules, T.b_NoRules_init⟩
theorem ok_xNoWord (T : Txt K mg t) : XF P w K mg base CX 1 "NoWord" t.C_NoWord "at" okN :=
  ⟨_, _, _, fn_xinit T.F_NoWord_init sc_NoWord_init rfl rfl (fun cdv A outer s H E d hr hd => by
    obtain ⟨n, rfl, hn⟩ := hd
    exact xbody T.xi_NoWord T.xb_GrowError T.sx_NoWord T.m_GrowError (fun G => ee_fmtI (ee_var 1 rfl) (log_num hn) (by decide) (len_msg hn (by decide)))), T.xi_NoWord, T.m_NoWord, T.b_NoWord_init⟩
theorem ok_xNoText (T : Txt K mg t) : XF P w K mg base CX 1 "NoText" t.C_NoText "which" okN :=
  ⟨_, _, _, fn_xinit T.F_NoText_init sc_NoText_init rfl rfl (fun cdv A outer s H E d hr hd => by
    obtain ⟨n, rfl, hn⟩ := hd
    exact xbody T.xi_NoText T.xb_GrowError T.sx_NoText T.m_GrowError (fun G => ee_fmtI (ee_var 1 rfl) (log_num hn) (by decide) (len_msg hn (by decide)))), T.xi_NoText, T.m_NoText, T.b_NoText_init⟩
theorem ok_xNoPlace (T : Txt K mg t) : XF P w K mg base CX 1 "NoPlace" t.C_NoPlace "place" okN :=
  ⟨_, _, _, fn_xinit T.F_NoPlace_init sc_NoPlace_init rfl rfl (fun cdv A outer s H E d hr hd => by
    obtain ⟨n, rfl, hn⟩ := hd
    exact xbody T.xi_NoPlace T.xb_GrowError T.sx_NoPlace T.m_GrowError (fun G => ee_str)), T.xi_NoPlace, T.m_NoPlace, T.b_NoPlace_init⟩
theorem ok_xNoLetter (T : Txt K mg t) : XF P w K mg base CX 1 "NoLetter" t.C_NoLetter "letter" okW :=
  ⟨_, _, _, fn_xinit T.F_NoLetter_init sc_NoLetter_init rfl rfl (fun cdv A outer s H E d hr hd => by
    obtain ⟨w, rfl, hw, hl⟩ := hd
    exact xbody T.xi_NoLetter T.xb_GrowError T.sx_NoLetter T.m_GrowError (fun G => ee_fmtR (ee_var 1 rfl) (szl (Nat.le_trans (rep_len hw hl) (by decide))) (by decide) (len_rep hw hl (by decide)))), T.xi_NoLetter, T.m_NoLetter, T.b_NoLetter_init⟩
theorem ok_xNoLine (T : Txt K mg t) : XF P w K mg base CX 1 "NoLine" t.C_NoLine "line" okW :=
  ⟨_, _, _, fn_xinit T.F_NoLine_init sc_NoLine_init rfl rfl (fun cdv A outer s H E d hr hd => by
    obtain ⟨w, rfl, hw, hl⟩ := hd
    exact xbody T.xi_NoLine T.xb_GrowError T.sx_NoLine T.m_GrowError (fun G => ee_fmtR (ee_var 1 rfl) (szl (Nat.le_trans (rep_len hw hl) (by decide))) (by decide) (len_rep hw hl (by decide)))), T.xi_NoLine, T.m_NoLine, T.b_NoLine_init⟩
end
def Adr.cs (t : Adr) : List Addr := [t.C_NoRules, t.C_NoWord, t.C_NoText, t.C_NoPlace, t.C_NoLetter, t.C_NoLine, t.C_NoPen, t.C_NoDeed, t.C_NoRound, t.C_TooLong, t.C_NothingDone]
def Adr.ers (t : Adr) (n p : Nat) (w : List Nat) : List Dt := [.xof t.C_NoRules [("row", .int (n : Nat))], .xof t.C_NoWord [("at", .int (p : Nat))], .xof t.C_NoText [("which", .int (n : Nat))], .xof t.C_NoPlace [("place", .int (p : Nat))], .xof t.C_NoLetter [("letter", .str (tx w))], .xof t.C_NoLine [("line", .str (tx w))],
  .xo t.C_NoPen, .xo t.C_NoDeed, .xo t.C_NoRound, .xo t.C_TooLong, .xo t.C_NothingDone]
structure IsEr (K : PySem.W.Frag) (t : Adr) (i : Nat) (d : Dt) : Prop where
  hi : i < 11
  ok : TyOk K d
  ty : tyD d = .ref (t.cs.getD i 0)
section
variable {P : Program} {w : World} {K : PySem.W.Frag} {mg : Str → Option Value} {base : Heap} {t : Adr}
theorem er_at (T : Txt K mg t) (n p : Nat) (w : List Nat) : ∀ i, i < 11 → ∃ d, (t.ers n p w)[i]? = some d ∧ IsEr K t i d
  | 0, h => ⟨_, rfl, h, T.xt_NoRules, rfl⟩
  | 1, h => ⟨_, rfl, h, T.xt_NoWord, rfl⟩
  | 2, h => ⟨_, rfl, h, T.xt_NoText, rfl⟩
  | 3, h => ⟨_, rfl, h, T.xt_NoPlace, rfl⟩
  | 4, h => ⟨_, rfl, h, T.xt_NoLetter, rfl⟩
  | 5, h => ⟨_, rfl, h, T.xt_NoLine, rfl⟩
  | 6, h => ⟨_, rfl, h, T.xt_NoPen, rfl⟩
  | 7, h => ⟨_, rfl, h, T.xt_NoDeed, rfl⟩
  | 8, h => ⟨_, rfl, h, T.xt_NoRound, rfl⟩
  | 9, h => ⟨_, rfl, h, T.xt_TooLong, rfl⟩
  | 10, h => ⟨_, rfl, h, T.xt_NothingDone, rfl⟩
  | n + 11, h => by omega
theorem er_kit (T : Txt K mg t) {i : Nat} {d : Dt} (h : IsEr K t i d) (j : Nat) (hj : j < 11) : PySem.W.kitOne K (tyD d) (.ref (t.cs.getD j 0)) = some (decide (i = j)) := by
  rw [h.ty]; exact allKit_at T.kits h.hi hj
theorem er_g (T : Txt K mg t) {i : Nat} {d : Dt} (h : IsEr K t i d) : PySem.W.kitOne K (tyD d) (.ref t.C_GrowError) = some true ∧ PySem.W.kitOne K (tyD d) (.type "ValueError") = some true := by
  rw [h.ty]; exact gKit_at T.kitg h.hi
end
def bL (i : Nat) : List Dt := (List.range 11).map fun j => .bl (decide (i = j))
def R_classes (K : PySem.W.Frag) (t : Adr) : Rl := fun ds r => ∃ (i : Nat) (d : Dt), ds = [d] ∧ IsEr K t i d ∧ r = .own (.lst (bL i))
def R_errors (t : Adr) : Rl := fun ds r => ∃ (n p : Nat) (w : List Nat), ds = [.int (n : Nat), .int (p : Nat), .str (tx w)] ∧ (n ≤ 1000000 ∧ p ≤ 1000000) ∧ (∀ x ∈ w, x < 128) ∧ w.length ≤ 100 ∧ r = .own (.lst (t.ers n p w))
section
variable {P : Program} {w : World} {K : PySem.W.Frag} {mg : Str → Option Value} {base : Heap} {t : Adr}
theorem ok_classes (T : Txt K mg t) : GF P w K mg base CX 1 "_law_classes" 1 (R_classes K t) := by
  refine ⟨_, _, _, fnR T.F_classes sc_classes rfl fun cdv A outer s H E G ds r hr hl hR => ?_, T.m_classes, T.k_classes, T.b_classes⟩
  obtain ⟨i, d, rfl, h, rfl⟩ := hR
  have nd := sc_classes.nd
  have k := er_kit T h
  have o := h.ok
  refine ⟨_, .ro _, ?_⟩
  refine es_cons (es_setO 1 nd (eo_lst (ea_cons (ee_isi T.z_isinstance (ee_var 0 rfl) (ee_cls T.m_NoRules) rfl o (k 0 (by decide))) (ea_cons (ee_isi T.z_isinstance (ee_var 0 rfl) (ee_cls T.m_NoWord) rfl o (k 1 (by decide))) (ea_cons (ee_isi T.z_isinstance (ee_var 0 rfl) (ee_cls T.m_NoText) rfl o (k 2 (by decide))) ea_nil))) (Nat.le_of_ble_eq_true rfl))) ?_
  refine es_cons (es_extend 1 (ee_lst (ea_cons (ee_isi T.z_isinstance (ee_var 0 rfl) (ee_cls T.m_NoPlace) rfl o (k 3 (by decide))) (ea_cons (ee_isi T.z_isinstance (ee_var 0 rfl) (ee_cls T.m_NoLetter) rfl o (k 4 (by decide))) (ea_cons (ee_isi T.z_isinstance (ee_var 0 rfl) (ee_cls T.m_NoLine) rfl o (k 5 (by decide))) ea_nil))) (Nat.le_of_ble_eq_true rfl)) (Nat.le_of_ble_eq_true rfl)) ?_
  refine es_cons (es_extend 1 (ee_lst (ea_cons (ee_isi T.z_isinstance (ee_var 0 rfl) (ee_cls T.m_NoPen) rfl o (k 6 (by decide))) (ea_cons (ee_isi T.z_isinstance (ee_var 0 rfl) (ee_cls T.m_NoDeed) rfl o (k 7 (by decide))) (ea_cons (ee_isi T.z_isinstance (ee_var 0 rfl) (ee_cls T.m_NoRound) rfl o (k 8 (by decide))) ea_nil))) (Nat.le_of_ble_eq_true rfl)) (Nat.le_of_ble_eq_true rfl)) ?_
  refine es_frz 1 (w := .lst ([.bl (decide (i = 0)), .bl (decide (i = 1)), .bl (decide (i = 2))] ++ [.bl (decide (i = 3)), .bl (decide (i = 4)), .bl (decide (i = 5))] ++ [.bl (decide (i = 6)), .bl (decide (i = 7)), .bl (decide (i = 8))])) (es_one (es_retO (eo_to (eo_cat (ee_var 1 rfl) (ee_lst (ea_cons (ee_isi T.z_isinstance (ee_var 0 rfl) (ee_cls T.m_TooLong) rfl o (k 9 (by decide))) (ea_cons (ee_isi T.z_isinstance (ee_var 0 rfl) (ee_cls T.m_NothingDone) rfl o (k 10 (by decide))) ea_nil)) (Nat.le_of_ble_eq_true rfl)) (Nat.le_of_ble_eq_true rfl)) (show Own.lst _ = Own.lst (bL i) from rfl))))
theorem ok_errors (T : Txt K mg t) : GF P w K mg base CX 3 "_law_errors" 3 (R_errors t) := by
  refine ⟨_, _, _, fnR T.F_errors sc_errors rfl fun cdv A outer s H E G ds r hr hl hR => ?_, T.m_errors, T.k_errors, T.b_errors⟩
  obtain ⟨n, p, wd, rfl, ⟨hn, hp⟩, hw, hwl, rfl⟩ := hR
  have nd := sc_errors.nd
  have xa := ok_xNoRules (P := P) (w := w) (base := base) T
  have xb := ok_xNoWord (P := P) (w := w) (base := base) T
  have xc := ok_xNoText (P := P) (w := w) (base := base) T
  have xd := ok_xNoPlace (P := P) (w := w) (base := base) T
  have xe := ok_xNoLetter (P := P) (w := w) (base := base) T
  have xf := ok_xNoLine (P := P) (w := w) (base := base) T
  refine ⟨_, .ro _, ?_⟩
  refine es_cons (es_set 3 nd (ee_lst (ea_cons (ee_makeX xa nox0 hr (ee_var 0 rfl) ⟨n, rfl, hn⟩) (ea_cons (ee_makeX xb nox0 hr (ee_var 1 rfl) ⟨p, rfl, hp⟩) (ea_cons (ee_makeX xc nox0 hr (ee_var 0 rfl) ⟨n, rfl, hn⟩) (ea_cons (ee_makeX xd nox0 hr (ee_var 1 rfl) ⟨p, rfl, hp⟩) (ea_cons (ee_makeX xe nox0 hr (ee_var 2 rfl) ⟨wd, rfl, hw, hwl⟩) (ea_cons (ee_makeX xf nox0 hr (ee_var 2 rfl) ⟨wd, rfl, hw, hwl⟩) ea_nil)))))) (Nat.le_of_ble_eq_true rfl))) ?_
  exact es_one (es_retO (eo_to (eo_cat (ee_var 3 rfl) (ee_lst (ea_cons (ee_makeE T.xc_NoPen T.m_NoPen T.kp_NoPen (ee_var 2 rfl)) (ea_cons (ee_makeE T.xc_NoDeed T.m_NoDeed T.kp_NoDeed (ee_var 2 rfl)) (ea_cons (ee_makeE T.xc_NoRound T.m_NoRound T.kp_NoRound (ee_var 2 rfl)) (ea_cons (ee_makeE T.xc_TooLong T.m_TooLong T.kp_TooLong (ee_var 2 rfl)) (ea_cons (ee_makeE T.xc_NothingDone T.m_NothingDone T.kp_NothingDone (ee_var 2 rfl)) ea_nil))))) (Nat.le_of_ble_eq_true rfl)) (Nat.le_of_ble_eq_true rfl)) (show Own.lst _ = Own.lst (t.ers n p wd) from rfl)))
end
theorem lst_of' {L L' : List Dt} (e : L = L') {X : Cx} {G : Gr} {dl : List Slot} {z : Expr} (h : EO X G dl z (.lst L)) : EE X G dl z (.lst L') := by subst e; exact ee_ol h
theorem wd4_ok {L : List Nat} (hL : 0 < L.length) (c : Int) : (wordL L c 4).length ≤ 100 ∧ ∀ x ∈ wordL L c 4, x ∈ L := by
  have h0 := Int.emod_nonneg c (show (4 : Int) ≠ 0 by decide)
  have h1 := Int.emod_lt_of_pos c (show (0 : Int) < 4 by decide)
  unfold wordL
  exact ⟨by rw [ws_len]; omega, ws_mem _ hL _ _ _⟩
theorem lets_ok (c : Int) : 0 < (lets c).length ∧ (lets c).length ≤ 6 ∧ (lets c).Nodup ∧ ∀ x ∈ lets c, small x := by
  have h0 := Int.emod_nonneg c (show (6 : Int) ≠ 0 by decide)
  have h1 := Int.emod_lt_of_pos c (show (0 : Int) < 6 by decide)
  have ok := ls_ok c (1 + c % 6).toNat (by omega)
  have := ok.ol
  refine ⟨?_, ?_, ok.no, ok.so⟩
  · show 0 < (ls c (1 + c % 6).toNat).out.length; omega
  · show (ls c (1 + c % 6).toNat).out.length ≤ 6; omega
def scCmp : Stmt → Scope
  | .For _ _ (_ :: .If (.Compare _ _ (.ListComp _ _ sc _ :: _) _) _ _ _ :: _) _ _ => sc
  | _ => default
def scAll : Stmt → Scope
  | .If (.BoolOp _ (_ :: .UnaryOp _ (.Call _ (.ListComp _ _ sc _ :: _) _ _) _ :: _) _) _ _ _ => sc
  | _ => default
abbrev bS_c1 : Scope := scCmp ((defBody s_law).getD 4 (.Pass ⟨0, 0, 0, 0⟩))
theorem bk_c1 : chkBx bS_c1 (defScope s_law) n_law ["_law_j", "_law_k"] ["_law_j"] [5] = true := by decide +kernel
abbrev bS_c2 : Scope := scAll ((defBody s_law).getD 6 (.Pass ⟨0, 0, 0, 0⟩))
theorem bk_c2 : chkBx bS_c2 (defScope s_law) n_law ["_law_value"] ["_law_value"] [] = true := by decide +kernel
theorem okD_bl (i : Nat) : okD (.lst (bL i)) := by
  unfold bL
  refine ⟨rfl, rfl⟩
section
variable {P : Program} {w : World} {K : PySem.W.Frag} {mg : Str → Option Value} {base : Heap} {t : Adr}
theorem law_fn (T : Txt K mg t) : FnOk P w K mg base CX 9 t.f_law t.d_law ["_law_script"] (spLaw K) := by
  refine fnR T.F_law sc_law rfl fun cdv A outer s H E G ds r hr hl hR => ?_
  obtain ⟨ns, hlen, rfl, rfl⟩ := hR
  have h_cell := ok_cell (P := P) (w := w) (base := base) T
  have h_letters := ok_letters (P := P) (w := w) (base := base) T
  have h_word := ok_word (P := P) (w := w) (base := base) T
  have h_whole := ok_whole (P := P) (w := w) (base := base) T
  have h_classes := ok_classes (P := P) (w := w) (base := base) T
  have h_errors := ok_errors (P := P) (w := w) (base := base) T
  have nd := sc_law.nd
  have md : ∀ c : Int, c % (10 ^ 6 + 1) = (((c % (10 ^ 6 + 1)).toNat : Nat) : Int) ∧ (c % (10 ^ 6 + 1)).toNat ≤ 1000000 := fun c => by
    have a0 := Int.emod_nonneg c (show (10 ^ 6 + 1 : Int) ≠ 0 by decide)
    have a1 := Int.emod_lt_of_pos c (show (0 : Int) < 10 ^ 6 + 1 by decide)
    omega
  let n := (cellAt ns 0 % (10 ^ 6 + 1)).toNat
  let p := (cellAt ns 1 % (10 ^ 6 + 1)).toNat
  obtain ⟨en, hn⟩ := md (cellAt ns 0)
  obtain ⟨ep, hp⟩ := md (cellAt ns 1)
  let L := lets (cellAt ns 3)
  have hL := lets_ok (cellAt ns 3)
  have hL0 : 0 < L.length := hL.1
  have hL6 : L.length ≤ 6 := hL.2.1
  let wd := wordL L (cellAt ns 2) 4
  obtain ⟨hwl, hwm⟩ : wd.length ≤ 100 ∧ ∀ x ∈ wd, x ∈ L := wd4_ok hL0 _
  have hws : ∀ x ∈ wd, x < 128 := fun x hx => by have := hL.2.2.2 x (hwm x hx); unfold small at this; omega
  let ers := t.ers n p wd
  have ei : ∀ z : Int, (decide (z = z)) = true := fun z => by simp
  have es : ∀ z : Str, (decide (z = z)) = true := fun z => by simp
  let S : Nat → List Slot := fun _ => [.val (.scr ns), .val (.int (n : Nat)), .val (.int (p : Nat)), .val (.str (tx wd)), .val (.lst ers), .unk, .unk]
  refine ⟨_, .rt _, ?_⟩
  refine es_cons (es_set 1 nd (d := .int (n : Nat)) (ee_to (ee_mod (ee_gf h_cell nox0 hr (ea_cons (ee_var 0 rfl) (ea_cons ee_int ea_nil)) ⟨ns, 0, rfl, by decide, rfl⟩) (ee_add (ee_pow ee_int ee_int ⟨by decide, by decide, by decide⟩) ee_int) (by decide)) (congrArg Dt.int en))) ?_
  refine es_cons (es_set 2 nd (d := .int (p : Nat)) (ee_to (ee_mod (ee_gf h_cell nox0 hr (ea_cons (ee_var 0 rfl) (ea_cons ee_int ea_nil)) ⟨ns, 1, rfl, by decide, rfl⟩) (ee_add (ee_pow ee_int ee_int ⟨by decide, by decide, by decide⟩) ee_int) (by decide)) (congrArg Dt.int ep))) ?_
  refine es_cons (es_set 3 nd (d := .str (tx wd)) (ee_gf h_word nox0 hr (ea_cons (ee_gf h_cell nox0 hr (ea_cons (ee_var 0 rfl) (ea_cons ee_int ea_nil)) ⟨ns, 2, rfl, by decide, rfl⟩) (ea_cons (ee_gf h_letters nox0 hr (ea_cons (ee_gf h_cell nox0 hr (ea_cons (ee_var 0 rfl) (ea_cons ee_int ea_nil)) ⟨ns, 3, rfl, by decide, rfl⟩) ea_nil) ⟨cellAt ns 3, rfl, rfl⟩) (ea_cons ee_int ea_nil))) ⟨L, cellAt ns 2, 4, rfl, ⟨hL0, by omega⟩, ⟨by decide, by decide⟩, rfl⟩)) ?_
  refine es_cons (es_set 4 nd (d := .lst ers) (ee_ol (eo_gf h_errors nox0 hr (ea_cons (ee_var 1 rfl) (ea_cons (ee_var 2 rfl) (ea_cons (ee_var 3 rfl) ea_nil))) ⟨n, p, wd, rfl, ⟨hn, hp⟩, hws, hwl, rfl⟩))) ?_
  refine es_cons (es_range1 (o := .nx (S 11)) (m := 11) 5 S nd rfl PassesOwn.leaving T.z_range (ea_cons ee_int ea_nil) ⟨by decide, by decide⟩ (Le.of ⟨rfl, rfl, rfl, rfl, rfl, trivial⟩) (by decide) (fun k hk => ?l) (.all rfl)) ?r
  case l =>
    obtain ⟨d, hd, her⟩ := er_at T n p wd k hk
    obtain ⟨g1, g2⟩ := er_g T her
    have ha : atI ers (k : Int) = some d := atI_nat hd
    have fl : ((List.range 11).filter fun _ => true).map (fun (j : Nat) => Dt.bl (decide ((k : Int) = (j : Int)))) = bL k := by
      rw [List.filter_eq_self.mpr (fun _ _ => rfl)]
      refine List.map_congr_left fun j _ => congrArg Dt.bl (decide_eq_decide.mpr (by omega))
    refine .nx (es_cons (es_if (u := false) (eb_w (ew_or (u := false) (v := false) (eb_not (u := true) (eb_of (ee_isi T.z_isinstance (ee_ixL (ee_var 4 rfl) (ee_var 5 rfl) ha) (ee_cls T.m_GrowError) rfl her.ok g1))) fun _ => ew_or1 (eb_not (u := true) (eb_of (ee_isi T.z_isinstance (ee_ixL (ee_var 4 rfl) (ee_var 5 rfl) ha) (ee_ty T.z_ValueError Sg.boot_ValueError) rfl her.ok g2))))) (fun h => nomatch h) (fun h => es_nil))
      (es_one (es_if (u := false) (eb_ne (u := false) hr.units (ee_ol (eo_gf h_classes nox0 hr (ea_cons (ee_ixL (ee_var 4 rfl) (ee_var 5 rfl) ha) ea_nil) ⟨k, d, rfl, her, rfl⟩)) (lst_of' fl (eo_lcx (List.range 11) (fun (j : Nat) => Dt.int (j : Nat)) (fun (j : Nat) => .bl (decide ((k : Int) = (j : Int)))) (fun (j : Nat) => [.val (.int (j : Nat))]) (fun _ => true) rfl (bx_of bk_c1) (pi_range1 rfl T.z_range (ea_cons ee_int ea_nil) rfl) (pgb_name (bx_of bk_c1) rfl) (srcx_range1 (j := 11) ⟨by decide, by decide⟩) (fun a _ => tg_name) (.nil fun _ _ => rfl) (fun a ha _ C fp s' H' G' => ee_eqI (ee_var 1 rfl) (ee_var 0 rfl)) (Nat.le_of_ble_eq_true rfl))) (okD_bl k) (okD_bl k) (by rw [eqv_refl _ (okD_bl k).1]; rfl)) (fun h => nomatch h) (fun h => es_nil)))) (Le.of ⟨rfl, rfl, rfl, rfl, rfl, trivial⟩)
  case r =>
    let vs : List Int := [(n : Nat), (p : Nat), (n : Nat), (p : Nat)]
    have ev : (vs.filter fun _ => true).map (fun _ => Dt.bl true) = (vs.map fun _ => true).map Dt.bl := rfl
    refine es_cons (es_set 6 nd (d := .lst (vs.map .int)) (ee_lst (ea_cons (ee_xfld (d := .int (n : Nat)) (ee_ixL (d := .xof t.C_NoRules [("row", .int (n : Nat))]) (ee_var 4 rfl) ee_int rfl) T.xt_NoRules T.sx_NoRules rfl) (ea_cons (ee_xfld (d := .int (p : Nat)) (ee_ixL (d := .xof t.C_NoWord [("at", .int (p : Nat))]) (ee_var 4 rfl) ee_int rfl) T.xt_NoWord T.sx_NoWord rfl) (ea_cons (ee_xfld (d := .int (n : Nat)) (ee_ixL (d := .xof t.C_NoText [("which", .int (n : Nat))]) (ee_var 4 rfl) ee_int rfl) T.xt_NoText T.sx_NoText rfl) (ea_cons (ee_xfld (d := .int (p : Nat)) (ee_ixL (d := .xof t.C_NoPlace [("place", .int (p : Nat))]) (ee_var 4 rfl) ee_int rfl) T.xt_NoPlace T.sx_NoPlace rfl) ea_nil)))) (Nat.le_of_ble_eq_true rfl))) ?_
    refine es_cons (es_if (u := false) (eb_w (ew_or (u := false) (v := false) (eb_ne (u := false) (d2 := .lst (vs.map .int)) hr.units (ee_var 6 rfl) (ee_lst (ea_cons (ee_var 1 rfl) (ea_cons (ee_var 2 rfl) (ea_cons (ee_var 1 rfl) (ea_cons (ee_var 2 rfl) ea_nil)))) (Nat.le_of_ble_eq_true rfl)) ⟨rfl, rfl⟩ ⟨rfl, rfl⟩ (by rw [eqv_refl _ rfl]; rfl)) fun _ => ew_or1 (eb_not (u := true) (eb_of (ee_all (bs := vs.map fun _ => true) T.z_all rfl (lst_of' ev (eo_lcx vs (fun z => Dt.int z) (fun _ => .bl true) (fun z => [.val (.int z)]) (fun _ => true) rfl (bx_of bk_c2) (pi_list (ee_var 6 rfl)) (pgb_name (bx_of bk_c2) rfl) srcx_list (fun a _ => tg_name) (.nil fun _ _ => rfl) (fun a ha _ C fp s' H' G' => ee_gf h_whole nox0 hr (ea_cons (ee_var 0 rfl) ea_nil) ⟨_, rfl, rfl⟩) (Nat.le_of_ble_eq_true rfl)))))))) (fun h => nomatch h) (fun h => es_nil)) ?_
    exact es_one (es_ret (ee_and (u := true) (v := true) (ee_to (ee_eqS (ee_xfld (d := .str (tx wd)) (ee_ixL (d := .xof t.C_NoLetter [("letter", .str (tx wd))]) (ee_var 4 rfl) ee_int rfl) T.xt_NoLetter T.sx_NoLetter rfl) (ee_var 3 rfl)) (congrArg Dt.bl (es _))) fun _ => (ee_and1 (ee_to (ee_eqS (ee_xfld (d := .str (tx wd)) (ee_ixL (d := .xof t.C_NoLine [("line", .str (tx wd))]) (ee_var 4 rfl) ee_int rfl) T.xt_NoLine T.sx_NoLine rfl) (ee_var 3 rfl)) (congrArg Dt.bl (es _))))))
end

end Pf
def PySem.W.Fast.tw1681334827418518591 : Unit := ()
def PySem.W.Fast.tw4813382169724460286 : Unit := ()
def PySem.W.Fast.tw17030414879398772894 : Unit := ()
def PySem.W.Fast.tw10581919212363404604 : Unit := ()
def PySem.W.Fast.tw13003878779467645019 : Unit := ()
def PySem.W.Fast.tw12255443594601748408 : Unit := ()
def PySem.W.Fast.tw12089262527646585175 : Unit := ()
def PySem.W.Fast.tw465650643257686004 : Unit := ()
def PySem.W.Fast.tw12867181637801456595 : Unit := ()
def PySem.W.Fast.tw16136707965027692817 : Unit := ()
def PySem.W.Fast.tw5792696939474278381 : Unit := ()
def PySem.W.Fast.tw9746969759458341099 : Unit := ()
def PySem.W.Fast.tw15004419388136909578 : Unit := ()
def PySem.W.Fast.tw4583825934934023242 : Unit := ()
def PySem.W.Fast.tw16743696716240057797 : Unit := ()
def PySem.W.Fast.tw15654921941691360483 : Unit := ()
def PySem.W.Fast.tw4109485909190267330 : Unit := ()
open PySem PySem.W PyProof.Rows
set_option maxRecDepth 100000 in
set_option maxHeartbeats 0 in
theorem PySem.Challenge.cw_strokegrow_k12_refusals_made_holds : PySem.Challenge.rw_strokegrow_k12_refusals_made.Holds := by
  w_on; o_law; k_head; (case hw => w_witness2)
  k_fill
  refine L2.walk_ofK (l := PySem.Challenge.rw_strokegrow_k12_refusals_made) (n := 63) (k := 9) (x := "_law_script") (CX := Pf.CX) (sp := fun K => Pf.spLaw K) rfl (by decide) rfl ⟨rfl, by decide, by decide⟩ (fun w h Y => PySem.W.kIn_of Y) ?F ?S ?C
  case F =>
    intro w mg fa h KX G hmg
    have T : ∃ t, Pf.Txt (L2.KOf KX) mg t ∧ t.f_law = fa := by
      dsimp only [L2.KOf]
      obtain ⟨t, T, e⟩ : ∃ t, Pf.Txt _ mg t ∧ t.f_law = _ := by
        refine' Pf.txt_mk KX G ?aGrowError ?aNoPen ?aNoDeed ?aNoRound ?aTooLong ?aNothingDone ?aNoRules ?aNoWord ?aNoText ?aNoPlace ?aNoLetter ?aNoLine ?xiGrowError ?x1GrowError ?x2GrowError ?x3GrowError ?x4GrowError ?x5GrowError ?x8GrowError ?x6GrowError ?x7GrowError ?xiNoPen ?x1NoPen ?x2NoPen ?x3NoPen ?x4NoPen ?x5NoPen ?x8NoPen ?x6NoPen ?x7NoPen ?xiNoDeed ?x1NoDeed ?x2NoDeed ?x3NoDeed ?x4NoDeed ?x5NoDeed ?x8NoDeed ?x6NoDeed ?x7NoDeed ?xiNoRound ?x1NoRound ?x2NoRound ?x3NoRound ?x4NoRound ?x5NoRound ?x8NoRound ?x6NoRound ?x7NoRound ?xiTooLong ?x1TooLong ?x2TooLong ?x3TooLong ?x4TooLong ?x5TooLong ?x8TooLong ?x6TooLong ?x7TooLong ?xiNothingDone ?x1NothingDone ?x2NothingDone ?x3NothingDone ?x4NothingDone ?x5NothingDone ?x8NothingDone ?x6NothingDone ?x7NothingDone ?x1NoRules ?x2NoRules ?x3NoRules ?x4NoRules ?x5NoRules ?x8NoRules ?x6NoRules ?x7NoRules ?x1NoWord ?x2NoWord ?x3NoWord ?x4NoWord ?x5NoWord ?x8NoWord ?x6NoWord ?x7NoWord ?x1NoText ?x2NoText ?x3NoText ?x4NoText ?x5NoText ?x8NoText ?x6NoText ?x7NoText ?x1NoPlace ?x2NoPlace ?x3NoPlace ?x4NoPlace ?x5NoPlace ?x8NoPlace ?x6NoPlace ?x7NoPlace ?x1NoLetter ?x2NoLetter ?x3NoLetter ?x4NoLetter ?x5NoLetter ?x8NoLetter ?x6NoLetter ?x7NoLetter ?x1NoLine ?x2NoLine ?x3NoLine ?x4NoLine ?x5NoLine ?x8NoLine ?x6NoLine ?x7NoLine ?inNoRules ?xeNoRules ?xfNoRules ?xkNoRules ?xsaNoRules ?xnaNoRules ?xobNoRules ?xmrNoRules ?xhdNoRules ?inNoWord ?xeNoWord ?xfNoWord ?xkNoWord ?xsaNoWord ?xnaNoWord ?xobNoWord ?xmrNoWord ?xhdNoWord ?inNoText ?xeNoText ?xfNoText ?xkNoText ?xsaNoText ?xnaNoText ?xobNoText ?xmrNoText ?xhdNoText ?inNoPlace ?xeNoPlace ?xfNoPlace ?xkNoPlace ?xsaNoPlace ?xnaNoPlace ?xobNoPlace ?xmrNoPlace ?xhdNoPlace ?inNoLetter ?xeNoLetter ?xfNoLetter ?xkNoLetter ?xsaNoLetter ?xnaNoLetter ?xobNoLetter ?xmrNoLetter ?xhdNoLetter ?inNoLine ?xeNoLine ?xfNoLine ?xkNoLine ?xsaNoLine ?xnaNoLine ?xobNoLine ?xmrNoLine ?xhdNoLine ?xspGrowError ?xrdGrowError ?xfcGrowError ?l_NoRules_init ?c_NoRules_init ?k_NoRules_init ?l_NoWord_init ?c_NoWord_init ?k_NoWord_init ?l_NoText_init ?c_NoText_init ?k_NoText_init ?l_NoLetter_init ?c_NoLetter_init ?k_NoLetter_init ?l_NoPlace_init ?c_NoPlace_init ?k_NoPlace_init ?l_NoLine_init ?c_NoLine_init ?k_NoLine_init ?a_cell ?l_cell ?c_cell ?k_cell ?a_whole ?l_whole ?c_whole ?k_whole ?a_letters ?l_letters ?c_letters ?k_letters ?a_word ?l_word ?c_word ?k_word ?a_classes ?l_classes ?c_classes ?k_classes ?a_errors ?l_errors ?c_errors ?k_errors ?a_law ?l_law ?c_law ?k_law ?z_range ?z_len ?z_isinstance ?z_int ?z_bool ?z_ValueError ?z_all ?x_kits ?x_kitg ?x_kp_NoPen ?x_kp_NoDeed ?x_kp_NoRound ?x_kp_TooLong ?x_kp_NothingDone
        (case aGrowError => k_is)
        (case aNoPen => k_is)
        (case aNoDeed => k_is)
        (case aNoRound => k_is)
        (case aTooLong => k_is)
        (case aNothingDone => k_is)
        (case aNoRules => k_is)
        (case aNoWord => k_is)
        (case aNoText => k_is)
        (case aNoPlace => k_is)
        (case aNoLetter => k_is)
        (case aNoLine => k_is)
        (case xiGrowError => first | k_is | kernel_rfl)
        (case x1GrowError => first | k_is | kernel_rfl)
        (case x2GrowError => first | k_is | kernel_rfl)
        (case x3GrowError => first | k_is | kernel_rfl)
        (case x4GrowError => first | k_is | kernel_rfl)
        (case x5GrowError => first | k_is | kernel_rfl)
        (case x8GrowError => first | k_is | kernel_rfl)
        (case x6GrowError => first | k_is | kernel_rfl)
        (case x7GrowError => first | k_is | kernel_rfl)
        (case xiNoPen => first | k_is | kernel_rfl)
        (case x1NoPen => first | k_is | kernel_rfl)
        (case x2NoPen => first | k_is | kernel_rfl)
        (case x3NoPen => first | k_is | kernel_rfl)
        (case x4NoPen => first | k_is | kernel_rfl)
        (case x5NoPen => first | k_is | kernel_rfl)
        (case x8NoPen => first | k_is | kernel_rfl)
        (case x6NoPen => first | k_is | kernel_rfl)
        (case x7NoPen => first | k_is | kernel_rfl)
        (case xiNoDeed => first | k_is | kernel_rfl)
        (case x1NoDeed => first | k_is | kernel_rfl)
        (case x2NoDeed => first | k_is | kernel_rfl)
        (case x3NoDeed => first | k_is | kernel_rfl)
        (case x4NoDeed => first | k_is | kernel_rfl)
        (case x5NoDeed => first | k_is | kernel_rfl)
        (case x8NoDeed => first | k_is | kernel_rfl)
        (case x6NoDeed => first | k_is | kernel_rfl)
        (case x7NoDeed => first | k_is | kernel_rfl)
        (case xiNoRound => first | k_is | kernel_rfl)
        (case x1NoRound => first | k_is | kernel_rfl)
        (case x2NoRound => first | k_is | kernel_rfl)
        (case x3NoRound => first | k_is | kernel_rfl)
        (case x4NoRound => first | k_is | kernel_rfl)
        (case x5NoRound => first | k_is | kernel_rfl)
        (case x8NoRound => first | k_is | kernel_rfl)
        (case x6NoRound => first | k_is | kernel_rfl)
        (case x7NoRound => first | k_is | kernel_rfl)
        (case xiTooLong => first | k_is | kernel_rfl)
        (case x1TooLong => first | k_is | kernel_rfl)
        (case x2TooLong => first | k_is | kernel_rfl)
        (case x3TooLong => first | k_is | kernel_rfl)
        (case x4TooLong => first | k_is | kernel_rfl)
        (case x5TooLong => first | k_is | kernel_rfl)
        (case x8TooLong => first | k_is | kernel_rfl)
        (case x6TooLong => first | k_is | kernel_rfl)
        (case x7TooLong => first | k_is | kernel_rfl)
        (case xiNothingDone => first | k_is | kernel_rfl)
        (case x1NothingDone => first | k_is | kernel_rfl)
        (case x2NothingDone => first | k_is | kernel_rfl)
        (case x3NothingDone => first | k_is | kernel_rfl)
        (case x4NothingDone => first | k_is | kernel_rfl)
        (case x5NothingDone => first | k_is | kernel_rfl)
        (case x8NothingDone => first | k_is | kernel_rfl)
        (case x6NothingDone => first | k_is | kernel_rfl)
        (case x7NothingDone => first | k_is | kernel_rfl)
        (case x1NoRules => first | k_is | kernel_rfl)
        (case x2NoRules => first | k_is | kernel_rfl)
        (case x3NoRules => first | k_is | kernel_rfl)
        (case x4NoRules => first | k_is | kernel_rfl)
        (case x5NoRules => first | k_is | kernel_rfl)
        (case x8NoRules => first | k_is | kernel_rfl)
        (case x6NoRules => first | k_is | kernel_rfl)
        (case x7NoRules => first | k_is | kernel_rfl)
        (case x1NoWord => first | k_is | kernel_rfl)
        (case x2NoWord => first | k_is | kernel_rfl)
        (case x3NoWord => first | k_is | kernel_rfl)
        (case x4NoWord => first | k_is | kernel_rfl)
        (case x5NoWord => first | k_is | kernel_rfl)
        (case x8NoWord => first | k_is | kernel_rfl)
        (case x6NoWord => first | k_is | kernel_rfl)
        (case x7NoWord => first | k_is | kernel_rfl)
        (case x1NoText => first | k_is | kernel_rfl)
        (case x2NoText => first | k_is | kernel_rfl)
        (case x3NoText => first | k_is | kernel_rfl)
        (case x4NoText => first | k_is | kernel_rfl)
        (case x5NoText => first | k_is | kernel_rfl)
        (case x8NoText => first | k_is | kernel_rfl)
        (case x6NoText => first | k_is | kernel_rfl)
        (case x7NoText => first | k_is | kernel_rfl)
        (case x1NoPlace => first | k_is | kernel_rfl)
        (case x2NoPlace => first | k_is | kernel_rfl)
        (case x3NoPlace => first | k_is | kernel_rfl)
        (case x4NoPlace => first | k_is | kernel_rfl)
        (case x5NoPlace => first | k_is | kernel_rfl)
        (case x8NoPlace => first | k_is | kernel_rfl)
        (case x6NoPlace => first | k_is | kernel_rfl)
        (case x7NoPlace => first | k_is | kernel_rfl)
        (case x1NoLetter => first | k_is | kernel_rfl)
        (case x2NoLetter => first | k_is | kernel_rfl)
        (case x3NoLetter => first | k_is | kernel_rfl)
        (case x4NoLetter => first | k_is | kernel_rfl)
        (case x5NoLetter => first | k_is | kernel_rfl)
        (case x8NoLetter => first | k_is | kernel_rfl)
        (case x6NoLetter => first | k_is | kernel_rfl)
        (case x7NoLetter => first | k_is | kernel_rfl)
        (case x1NoLine => first | k_is | kernel_rfl)
        (case x2NoLine => first | k_is | kernel_rfl)
        (case x3NoLine => first | k_is | kernel_rfl)
        (case x4NoLine => first | k_is | kernel_rfl)
        (case x5NoLine => first | k_is | kernel_rfl)
        (case x8NoLine => first | k_is | kernel_rfl)
        (case x6NoLine => first | k_is | kernel_rfl)
        (case x7NoLine => first | k_is | kernel_rfl)
        (case inNoRules => k_is)
        (case xeNoRules => first | k_is | kernel_rfl)
        (case xfNoRules => first | k_is | kernel_rfl)
        (case xkNoRules => first | k_is | kernel_rfl)
        (case xsaNoRules => first | k_is | kernel_rfl)
        (case xnaNoRules => first | k_is | kernel_rfl)
        (case xobNoRules => first | k_is | kernel_rfl)
        (case xmrNoRules => first | k_is | kernel_rfl)
        (case xhdNoRules => first | k_is | kernel_rfl)
        (case inNoWord => k_is)
        (case xeNoWord => first | k_is | kernel_rfl)
        (case xfNoWord => first | k_is | kernel_rfl)
        (case xkNoWord => first | k_is | kernel_rfl)
        (case xsaNoWord => first | k_is | kernel_rfl)
        (case xnaNoWord => first | k_is | kernel_rfl)
        (case xobNoWord => first | k_is | kernel_rfl)
        (case xmrNoWord => first | k_is | kernel_rfl)
        (case xhdNoWord => first | k_is | kernel_rfl)
        (case inNoText => k_is)
        (case xeNoText => first | k_is | kernel_rfl)
        (case xfNoText => first | k_is | kernel_rfl)
        (case xkNoText => first | k_is | kernel_rfl)
        (case xsaNoText => first | k_is | kernel_rfl)
        (case xnaNoText => first | k_is | kernel_rfl)
        (case xobNoText => first | k_is | kernel_rfl)
        (case xmrNoText => first | k_is | kernel_rfl)
        (case xhdNoText => first | k_is | kernel_rfl)
        (case inNoPlace => k_is)
        (case xeNoPlace => first | k_is | kernel_rfl)
        (case xfNoPlace => first | k_is | kernel_rfl)
        (case xkNoPlace => first | k_is | kernel_rfl)
        (case xsaNoPlace => first | k_is | kernel_rfl)
        (case xnaNoPlace => first | k_is | kernel_rfl)
        (case xobNoPlace => first | k_is | kernel_rfl)
        (case xmrNoPlace => first | k_is | kernel_rfl)
        (case xhdNoPlace => first | k_is | kernel_rfl)
        (case inNoLetter => k_is)
        (case xeNoLetter => first | k_is | kernel_rfl)
        (case xfNoLetter => first | k_is | kernel_rfl)
        (case xkNoLetter => first | k_is | kernel_rfl)
        (case xsaNoLetter => first | k_is | kernel_rfl)
        (case xnaNoLetter => first | k_is | kernel_rfl)
        (case xobNoLetter => first | k_is | kernel_rfl)
        (case xmrNoLetter => first | k_is | kernel_rfl)
        (case xhdNoLetter => first | k_is | kernel_rfl)
        (case inNoLine => k_is)
        (case xeNoLine => first | k_is | kernel_rfl)
        (case xfNoLine => first | k_is | kernel_rfl)
        (case xkNoLine => first | k_is | kernel_rfl)
        (case xsaNoLine => first | k_is | kernel_rfl)
        (case xnaNoLine => first | k_is | kernel_rfl)
        (case xobNoLine => first | k_is | kernel_rfl)
        (case xmrNoLine => first | k_is | kernel_rfl)
        (case xhdNoLine => first | k_is | kernel_rfl)
        (case xspGrowError => first | k_is | kernel_rfl)
        (case xrdGrowError => first | k_is | kernel_rfl)
        (case xfcGrowError => first | k_is | kernel_rfl)
        (case l_NoRules_init => k_is)
        (case c_NoRules_init => k_is)
        (case k_NoRules_init => k_is)
        (case l_NoWord_init => k_is)
        (case c_NoWord_init => k_is)
        (case k_NoWord_init => k_is)
        (case l_NoText_init => k_is)
        (case c_NoText_init => k_is)
        (case k_NoText_init => k_is)
        (case l_NoLetter_init => k_is)
        (case c_NoLetter_init => k_is)
        (case k_NoLetter_init => k_is)
        (case l_NoPlace_init => k_is)
        (case c_NoPlace_init => k_is)
        (case k_NoPlace_init => k_is)
        (case l_NoLine_init => k_is)
        (case c_NoLine_init => k_is)
        (case k_NoLine_init => k_is)
        (case a_cell => k_is)
        (case l_cell => k_is)
        (case c_cell => k_is)
        (case k_cell => k_is)
        (case a_whole => k_is)
        (case l_whole => k_is)
        (case c_whole => k_is)
        (case k_whole => k_is)
        (case a_letters => k_is)
        (case l_letters => k_is)
        (case c_letters => k_is)
        (case k_letters => k_is)
        (case a_word => k_is)
        (case l_word => k_is)
        (case c_word => k_is)
        (case k_word => k_is)
        (case a_classes => k_is)
        (case l_classes => k_is)
        (case c_classes => k_is)
        (case k_classes => k_is)
        (case a_errors => k_is)
        (case l_errors => k_is)
        (case c_errors => k_is)
        (case k_errors => k_is)
        (case a_law => k_is)
        (case l_law => k_is)
        (case c_law => k_is)
        (case k_law => k_is)
        (case z_range => k_is)
        (case z_len => k_is)
        (case z_isinstance => k_is)
        (case z_int => k_is)
        (case z_bool => k_is)
        (case z_ValueError => k_is)
        (case z_all => k_is)
        (case x_kits => first | k_is | kernel_rfl)
        (case x_kitg => first | k_is | kernel_rfl)
        (case x_kp_NoPen => first | k_is | kernel_rfl)
        (case x_kp_NoDeed => first | k_is | kernel_rfl)
        (case x_kp_NoRound => first | k_is | kernel_rfl)
        (case x_kp_TooLong => first | k_is | kernel_rfl)
        (case x_kp_NothingDone => first | k_is | kernel_rfl)
      refine ⟨t, T, ?_⟩
      have e0 := hmg.symm.trans T.m_law
      cases e0
      rfl
    obtain ⟨t, T, e⟩ := T
    subst e
    refine' ⟨t.d_law, ?b, fun base kb nb => Pf.law_fn T⟩
    exact T.bl_law
  case S => exact fun K H a ns hl hO hS => Pf.law_sp hl hS
  case C => exact fun H s e s' h => h
