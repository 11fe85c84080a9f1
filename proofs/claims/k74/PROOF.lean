import PyProof.Rows.All
import Wide.All
import OpenK.AllK
import Wide.FinOn
import Lean
import PyProof.EqAt
import PyProof.EqKinds
import PyProof.TupleCall
import PyProof.WalksEnum
import PyProof.EnumMake
import PyProof.ZipIter
import PyProof.ReprStr
import PyProof.StrBlockG
import PyProof.StrWalks
import PyProof.FString5
import PyProof.ConsumeWalk
import PyProof.SumAny
import PyProof.StrCalls2
import KE.KDictList
import PyProof.Draws
import PyProof.StrBlock2
import PyProof.DictIter
import PyProof.ExcInit
import PyProof.ExcClass3
import PyProof.FString
import PyProof.FitsInt
import PyProof.StrLawsRepr
import PyProof.Rows.Range3
import PyProof.StrCalls
import PyProof.ListRange
import PyProof.AttrMissHeap
import KE.KDictOf
import PyProof.StrCalls3
import PyProof.FactsAll.dict_2
import PyProof.MeetsIn
import PyProof.Cells
import KE.KDictSum
import PyProof.DictWalks
import KE.KRevIter
import PyProof.FactsAll.subtypes_3
import PyProof.Rows.CallKwBuiltin
import PyProof.Rows.SortWalk
import KE.KSortedM
import PyProof.Rows.SortStr
import PyProof.MinMaxWalk
import PyProof.WalkInts
import PyProof.SeqI3
import PySem.Challenge.RW_strokegrow_k74_whole_rule_at_great_round
set_option Elab.async false
set_option linter.all false
set_option maxRecDepth 100000
namespace L2
open PySem PySem.Spec PyProof.Rows
abbrev Key := Sum Int Str
def keyIs : Key → Value → Bool
  | .inl k, v => Value.isInt k v
  | .inr x, v => Value.isStrOf x v
def keyH (w : World) : Key → Int
  | .inl k => hashInt k
  | .inr x => hashStr w x
theorem keyIs_shape : ∀ {k : Key} {v : Value}, keyIs k v = true → (∃ i t, k = Sum.inl i ∧ v = Value.int i t) ∨ (∃ x t, k = Sum.inr x ∧ v = Value.str x t)
  | .inl i, v, h => by
    obtain ⟨t, e⟩ := Value.isInt_shape (k := i) (v := v) h
    exact .inl ⟨i, t, rfl, e⟩
  | .inr x, v, h => by
    obtain ⟨t, e⟩ := Value.isStrOf_shape (x := x) (v := v) h
    exact .inr ⟨x, t, rfl, e⟩
theorem keyIs_int (i : Int) (t : Tok) : keyIs (.inl i) (.int i t) = true := by simp [keyIs, Value.isInt]
theorem keyIs_str (x : Str) (t : Tok) : keyIs (.inr x) (.str x t) = true := by simp [keyIs, Value.isStrOf]
theorem key_ll (a b : Int) : decide ((Sum.inl a : Key) = Sum.inl b) = (a == b) := by
  by_cases e : a = b
  · subst e; simp
  · have h : ¬ (Sum.inl a : Key) = Sum.inl b := fun q => e (Sum.inl.inj q)
    rw [decide_eq_false h]
    exact (beq_eq_false_iff_ne.mpr e).symm
theorem key_rr (a b : Str) : decide ((Sum.inr a : Key) = Sum.inr b) = decide (a = b) := by
  by_cases e : a = b
  · subst e; simp
  · have h : ¬ (Sum.inr a : Key) = Sum.inr b := fun q => e (Sum.inr.inj q)
    rw [decide_eq_false h, decide_eq_false e]
theorem key_lr (a : Int) (b : Str) : decide ((Sum.inl a : Key) = Sum.inr b) = false := decide_eq_false (fun q => nomatch q)
theorem key_rl (a : Str) (b : Int) : decide ((Sum.inr a : Key) = Sum.inl b) = false := decide_eq_false (fun q => nomatch q)
def mixKind (prog : Program) (w : World) : PySem.KeyKind prog w Key where
  is := keyIs
  hash := keyH w
  inj := fun v a b ha hb => by
    rcases keyIs_shape ha with ⟨i, t, rfl, rfl⟩ | ⟨x, t, rfl, rfl⟩
    · rcases keyIs_shape hb with ⟨j, u, rfl, e⟩ | ⟨y, u, rfl, e⟩
      · injection e with e1 _; rw [e1]
      · exact nomatch e
    · rcases keyIs_shape hb with ⟨j, u, rfl, e⟩ | ⟨y, u, rfl, e⟩
      · exact nomatch e
      · injection e with e1 _; rw [e1]
  byValue := fun k v h => by
    rcases keyIs_shape h with ⟨i, t, rfl, rfl⟩ | ⟨x, t, rfl, rfl⟩ <;> rfl
  pyHash := fun hv h => by
    rcases keyIs_shape hv with ⟨i, t, rfl, rfl⟩ | ⟨x, t, rfl, rfl⟩
    · exact wpAny_pyHash_int h
    · exact wpAny_pyHash_str h
  eqBool := fun hu hv h => by
    rcases keyIs_shape hu with ⟨i, t, rfl, rfl⟩ | ⟨x, t, rfl, rfl⟩
    · rcases keyIs_shape hv with ⟨j, u, rfl, rfl⟩ | ⟨y, u, rfl, rfl⟩
      · rw [key_ll] at h; exact wpAny_eqBool_int h
      · rw [key_lr] at h; exact SeqAt.EqAt.int_str i t y u _ _ _ _ h
    · rcases keyIs_shape hv with ⟨j, u, rfl, rfl⟩ | ⟨y, u, rfl, rfl⟩
      · rw [key_rl] at h; exact SeqAt.EqAt.str_int x t j u _ _ _ _ h
      · rw [key_rr] at h; exact wpAny_eqBool_str h
  «strs» := fun k x t v h => by
    rcases keyIs_shape h with ⟨i, u, rfl, e⟩ | ⟨y, u, rfl, e⟩
    · exact nomatch e
    · injection e with e1 _
      subst e1
      cases v <;> rfl
theorem mixKind_int (prog : Program) (w : World) (i : Int) (t : Tok) : (mixKind prog w).is (.inl i) (.int i t) = true := keyIs_int i t
theorem mixKind_str (prog : Program) (w : World) (x : Str) (t : Tok) : (mixKind prog w).is (.inr x) (.str x t) = true := keyIs_str x t
end L2
namespace L2
open PySem PySem.Spec PyProof.Rows
inductive V where
  | non | bl (b : Bool) | int (i : Int) | str (x : Str) | byt (b : Array UInt8) | flt (b : UInt64) | ref (a : Addr) | ty (n : String)
  deriving DecidableEq
def RelV : V → Value → Prop
  | .non, u => u = Value.none
  | .bl b, u => u = Value.bool b
  | .int i, u => ∃ t, u = Value.int i t
  | .str x, u => ∃ t, u = Value.str x t
  | .byt b, u => ∃ t, u = Value.bytes b t
  | .flt b, u => ∃ t, u = Value.float b t
  | .ref a, u => u = Value.ref a
  | .ty n, u => u = Value.type n
abbrev Vals : List V → List Value → Prop := Paired RelV
theorem Vals.length {xs : List V} {us : List Value} (r : Vals xs us) : xs.length = us.length := Paired.length r
theorem Vals.get : ∀ {xs : List V} {us : List Value} {i : Nat} {x : V}, Vals xs us → xs[i]? = some x → ∃ u, us[i]? = some u ∧ RelV x u
  | _, _, _, _, .nil, e => by simp at e
  | _, _, 0, _, .cons r _, e => by simp at e; subst e; exact ⟨_, rfl, r⟩
  | _, _, i + 1, x, .cons _ t, e => by
    obtain ⟨u, h1, h2⟩ := Vals.get (i := i) (x := x) t (by simpa using e)
    exact ⟨u, by simpa using h1, h2⟩
theorem Vals.append : ∀ {xs ys : List V} {us ws : List Value}, Vals xs us → Vals ys ws → Vals (xs ++ ys) (us ++ ws)
  | _, _, _, _, .nil, s => s
  | _, _, _, _, .cons r t, s => .cons r (Vals.append t s)
theorem Vals.take : ∀ {xs : List V} {us : List Value} (n : Nat), Vals xs us → Vals (xs.take n) (us.take n)
  | _, _, 0, _ => .nil
  | _, _, _ + 1, .nil => .nil
  | _, _, n + 1, .cons r t => .cons r (Vals.take n t)
theorem Vals.drop : ∀ {xs : List V} {us : List Value} (n : Nat), Vals xs us → Vals (xs.drop n) (us.drop n)
  | _, _, 0, r => r
  | _, _, _ + 1, .nil => .nil
  | _, _, n + 1, .cons _ t => Vals.drop n t
def RelO : Option V → Option Value → Prop
  | some v, some u => RelV v u
  | none, none => True
  | _, _ => False
def KV {κ : Type} : List (κ × V) → List (κ × Value) → Prop := Paired fun (p : κ × V) (q : κ × Value) => p.1 = q.1 ∧ RelV p.2 q.2
def kV : Key → V
  | .inl i => .int i
  | .inr x => .str x
inductive FD where
  | int (i : Int)
  | dic (kds : List (Key × Int))
abbrev MLs := List (Addr × (Nat → List (Key × FD)))
inductive HO where
    | lst (xs : List V)
    | tup (xs : List V)
    | dK (kvs : List (Key × V)) | dT (kvs : List (List Key × V))
    | set (S : Int → Bool) (n : Nat)
    | ins (C dx : Addr) (fs : List (Str × V))
    | own (x : Addr)
    | xd (fs : List (Str × V))
    | met (f x : Addr)
    | rng (lo hi : Int)
    | frz (o : Obj) (u : HO)
    | tbl (ps : Array Value)
    | ext (φ : Heap → Prop)
    | memo (ls : MLs)
  | memoX (ls : MLs) (ns : List Nat)
    | part (p : Addr)
    | kd (tg : Option (Addr × Nat)) (o : Obj) (kvs : List (Key × V))
abbrev Hp := Addr → Option HO
def upd (H : Hp) (a : Addr) (o : HO) : Hp := fun b => if b = a then some o else H b
theorem upd_same {H : Hp} {a : Addr} {o : HO} : upd H a o a = some o := by unfold upd; rw [if_pos rfl]
theorem upd_ne {H : Hp} {a b : Addr} {o : HO} (h : b ≠ a) : upd H a o b = H b := by unfold upd; rw [if_neg h]
theorem upd_upd {H : Hp} {a : Addr} {o u : HO} : upd (upd H a o) a u = upd H a u := by
  funext b; unfold upd; split <;> rfl
theorem ne_of {H : Hp} {a b : Addr} {o u : HO} (h : H a = some o) (h' : H b = some u) (d : o ≠ u) : a ≠ b := by
  intro e; subst e; rw [h] at h'; exact d (Option.some.inj h')
theorem ne_of_none {H : Hp} {a b : Addr} {o : HO} (h : H a = some o) (h' : H b = none) : a ≠ b := by
  intro e; subst e; rw [h] at h'; cases h'
def IsMemo : Option HO → Prop
  | some (.memo _) => True
  | some (.memoX _ _) => True
  | some (.part _) => True
  | _ => False
def Fz (H : Hp) : V → FD → Prop
  | .int i, .int j => i = j
  | .ref a, .dic kds => ∃ tg o, H a = some (.kd tg o (kds.map fun kd => (kd.1, V.int kd.2)))
  | _, _ => False
inductive FzK (H : Hp) : List (Key × V) → List (Key × FD) → Prop
  | nil : FzK H [] []
  | cons {k : Key} {v : V} {d : FD} {kvs : List (Key × V)} {kds : List (Key × FD)} : Fz H v d → FzK H kvs kds → FzK H ((k, v) :: kvs) ((k, d) :: kds)
def ItemOk (H : Hp) (p : Addr) (i : Nat) (its : List Value) (fd : List (Key × FD)) : Prop := ∃ q o kvs, its[i]? = some (.ref q) ∧ H q = some (.kd (some (p, i)) o kvs) ∧ FzK H kvs fd
def LstOk (H : Hp) (h : Heap) (p : Addr) (f : Nat → List (Key × FD)) (n : Nat) : Prop := ∃ its c, h.get? p = some { cls := .type "list", data := .seq (its : List Value).toArray c } ∧ its.length = n ∧ ∀ i, i < n → ItemOk H p i its (f i)
def MemoOk (H : Hp) (h : Heap) (a : Addr) (ls : MLs) (ns : List Nat) : Prop := (∃ f, ls[0]? = some (a, f)) ∧ ls.length = ns.length ∧ (∀ (j : Nat) (p : Addr) (f : Nat → List (Key × FD)), ls[j]? = some (p, f) → (p = a ∨ H p = some (.part a))) ∧ (ls.map (·.1)).Nodup ∧ (∀ n ∈ ns, n ≤ 10000) ∧ ∀ (j : Nat) (p : Addr) (f : Nat → List (Key × FD)) (n : Nat), ls[j]? = some (p, f) → ns[j]? = some n → LstOk H h p f n
section
variable (P : Program) (w : World)
def ObjOk (H : Hp) (h : Heap) (a : Addr) : HO → Prop
  | .lst xs => xs.length ≤ sizeLine ∧ ∃ (its : List Value) (n : Nat), Vals xs its ∧ h.get? a = some { cls := .type "list", data := .seq its.toArray n }
  | .tup xs => xs.length ≤ sizeLine ∧ ∃ its : List Value, Vals xs its ∧ IsTup h a its.toArray
  | .dK kvs => kvs.length ≤ sizeLine ∧ (a == sysModules) = false ∧ ∃ vs, KV kvs vs ∧ h.DictOf (mixKind P w) a vs
  | .dT kvs => kvs.length ≤ sizeLine ∧ (a == sysModules) = false ∧ ∃ xs : List (List Key × Addr × Value),
      Paired (fun (p : List Key × V) (q : List Key × Addr × Value) => p.1 = q.1 ∧ H q.2.1 = some (.tup (p.1.map kV)) ∧ RelV p.2 q.2.2) kvs xs ∧
      ∃ o es ep, h.get? a = some o ∧ o.ExactDict ∧ o.data = .dict es ep ∧ es.toList = xs.map (entryOfKey (tupleKind (mixKind P w))) ∧ (xs.map (·.1)).Nodup
  | .set S n => h.SetOf (intKind P w) a S n
  | .ins C dx fs => H dx = some (.own a) ∧ fs.length ≤ 1000 ∧ dx ≠ a ∧ h.get? a = some (PySem.W.instObj C dx) ∧
      ∃ mA, h.Ns1 dx mA ∧ (∀ f, RelO (fs.lookup f) (mA f)) ∧ PySem.Within mA (fs.map (·.1))
  | .own _ => ∃ o, h.get? a = some o
  | .xd fs => ∃ mA, h.Ns1 a mA ∧ ∀ f, RelO (fs.lookup f) (mA f)
  | .rng lo hi => ∃ t u v, h.get? a = some { cls := .type "range", data := .fields #[.int lo t, .int hi u, .int 1 v] }
  | .frz o u => h.get? a = some o ∧ ObjOk H h a u
  | .tbl ps => h.get? a = some { cls := .none, data := .fields ps }
  | .met f x => h.get? a = some (PySem.W.methodObj (.ref f) (.ref x))
  | .ext φ => φ h ∧ (∃ o, h.get? a = some o) ∧ ∀ h1 h2 : Heap, φ h1 → (∀ o, h1.get? a = some o → h2.get? a = some o) → φ h2
  | .memo ls => (∃ o, h.get? a = some o) ∧ ∃ n, 0 < n ∧ MemoOk H h a ls (List.replicate ls.length n)
  | .memoX ls ns => (∃ o, h.get? a = some o) ∧ MemoOk H h a ls ns
  | .part _ => ∃ o, h.get? a = some o
  | .kd tg o kvs => h.get? a = some o ∧ (kvs.length ≤ sizeLine ∧ (a == sysModules) = false ∧ ∃ vs, KV kvs vs ∧ h.DictOf (mixKind P w) a vs) ∧
      ∀ p i, tg = some (p, i) → IsMemo (H p) ∧ ∃ its c, h.get? p = some { cls := .type "list", data := .seq (its : List Value).toArray c } ∧ its[i]? = some (.ref a)
def HOk (H : Hp) (h : Heap) : Prop := ∀ a o, H a = some o → ObjOk P w H h a o
end
section
variable {P : Program} {w : World} {H H' : Hp} {h h' : Heap} {a : Addr} {o : HO}
theorem ObjOk.lt (x : ObjOk P w H h a o) : a < h.objs.size := by
  cases o with
  | lst xs => obtain ⟨_, _, _, _, e⟩ := x; exact Heap.lt_size e
  | tup xs => obtain ⟨_, _, _, p⟩ := x; exact p.lt
  | dK kvs => obtain ⟨_, _, _, _, o, _, _, e, _⟩ := x; exact Heap.lt_size e
  | dT kvs => obtain ⟨_, _, _, _, o, _, _, e, _⟩ := x; exact Heap.lt_size e
  | set S n => obtain ⟨o, _, _, _, e, _⟩ := x; exact Heap.lt_size e
  | ins C dx fs => obtain ⟨_, _, _, e, _⟩ := x; exact Heap.lt_size e
  | own y => obtain ⟨_, e⟩ := x; exact Heap.lt_size e
  | xd fs => obtain ⟨_, ⟨_, _, _, e, _⟩, _⟩ := x; exact Heap.lt_size e
  | rng lo hi => obtain ⟨_, _, _, e⟩ := x; exact Heap.lt_size e
  | frz ob u => obtain ⟨e, _⟩ := x; exact Heap.lt_size e
  | tbl ps => exact Heap.lt_size (show h.get? a = some _ from x)
  | met f y => exact Heap.lt_size (show h.get? a = some _ from x)
  | ext φ => obtain ⟨_, ⟨_, e⟩, _⟩ := x; exact Heap.lt_size e
  | memo ls => obtain ⟨⟨_, e⟩, _⟩ := x; exact Heap.lt_size e
  | memoX ls ns => obtain ⟨⟨_, e⟩, _⟩ := x; exact Heap.lt_size e
  | part y => obtain ⟨_, e⟩ := x; exact Heap.lt_size e
  | kd tg ob kvs => exact Heap.lt_size x.1
theorem Paired.mapP {α β : Type} {F G : α → β → Prop} : ∀ {l₁ : List α} {l₂ : List β}, Paired F l₁ l₂ → (∀ a b, F a b → G a b) → Paired G l₁ l₂
  | _, _, .nil, _ => .nil
  | _, _, .cons r t, f => .cons (f _ _ r) (Paired.mapP t f)
structure Kp (H H' : Hp) : Prop where
  kd : ∀ b tg o kvs, H b = some (.kd tg o kvs) → H' b = some (.kd tg o kvs)
  mem : ∀ b, IsMemo (H b) → IsMemo (H' b)
  part : ∀ b x, H b = some (.part x) → H' b = some (.part x)
theorem Kp.refl : Kp H H := ⟨fun _ _ _ _ e => e, fun _ e => e, fun _ _ e => e⟩
theorem Kp.of (s : ∀ b u, H b = some u → H' b = some u) : Kp H H' := ⟨fun _ _ _ _ e => s _ _ e, fun b e => by
  cases q : H b with
  | none => rw [q] at e; exact e.elim
  | some u => rw [s b u q, ← q]; exact e, fun _ _ e => s _ _ e⟩
theorem Fz.kp (kp : Kp H H') : ∀ {v : V} {d : FD}, Fz H v d → Fz H' v d
  | .int _, .int _, e => e
  | .ref _, .dic _, ⟨tg, o, e⟩ => ⟨tg, o, kp.kd _ _ _ _ e⟩
theorem FzK.kp (kp : Kp H H') : ∀ {kvs : List (Key × V)} {kds : List (Key × FD)}, FzK H kvs kds → FzK H' kvs kds
  | _, _, .nil => .nil
  | _, _, .cons h t => .cons (h.kp kp) (FzK.kp kp t)
theorem LstOk.kp {p : Addr} {f : Nat → List (Key × FD)} {n : Nat} (kp : Kp H H') (x : LstOk H h p f n) (k : ∀ u, h.get? p = some u → h'.get? p = some u) : LstOk H' h' p f n := by
  obtain ⟨its, c, e, hl, hi⟩ := x
  exact ⟨its, c, k _ e, hl, fun i hn => let ⟨q, o, kvs, h1, h2, h3⟩ := hi i hn; ⟨q, o, kvs, h1, kp.kd _ _ _ _ h2, h3.kp kp⟩⟩
theorem MemoOk.kp {ls : MLs} {ns : List Nat} (kp : Kp H H') (x : MemoOk H h a ls ns) (k : ∀ b u, b = a ∨ H b = some (.part a) → h.get? b = some u → h'.get? b = some u) : MemoOk H' h' a ls ns := by
  obtain ⟨h1, h2, h3, h4, h5, h6⟩ := x
  exact ⟨h1, h2, fun j p f e => (h3 j p f e).imp id fun z => kp.part _ _ z, h4, h5, fun j p f n e1 e2 => (h6 j p f n e1 e2).kp kp fun u e => k p u (h3 j p f e1) e⟩
def LAt (h : Heap) (p : Addr) (i : Nat) (c : Addr) : Prop := ∃ its n, h.get? p = some { cls := .type "list", data := .seq (its : List Value).toArray n } ∧ its[i]? = some (.ref c)
theorem ObjOk.stayG (x : ObjOk P w H h a o) (k : ∀ b u, (b = a ∨ H b = some (.own a) ∨ H b = some (.part a)) → h.get? b = some u → h'.get? b = some u) (ho : ∀ b, H b = some (.own a) → H' b = some (.own a)) (ht : ∀ b xs, H b = some (.tup xs) → H' b = some (.tup xs)) (kp : Kp H H') (hl : ∀ p i c, IsMemo (H p) → LAt h p i c → LAt h' p i c) : ObjOk P w H' h' a o := by
  induction o with
  | lst xs => obtain ⟨z, its, n, r, e⟩ := x; exact ⟨z, its, n, r, k _ _ (.inl rfl) e⟩
  | tup xs => obtain ⟨z, its, r, ob, e, c⟩ := x; exact ⟨z, its, r, ob, k _ _ (.inl rfl) e, c⟩
  | dK kvs => obtain ⟨z, y, vs, r, ob, es, ep, e, c⟩ := x; exact ⟨z, y, vs, r, ob, es, ep, k _ _ (.inl rfl) e, c⟩
  | dT kvs =>
    obtain ⟨z, y, xs, r, ob, es, ep, e, c⟩ := x
    exact ⟨z, y, xs, Paired.mapP r fun p q z => ⟨z.1, ht _ _ z.2.1, z.2.2⟩, ob, es, ep, k _ _ (.inl rfl) e, c⟩
  | set S n => obtain ⟨ob, es, ep, t, e, c⟩ := x; exact ⟨ob, es, ep, t, k _ _ (.inl rfl) e, c⟩
  | ins C dx fs =>
    obtain ⟨d, z, ne, e, mA, ⟨od, es, ep, e2, c⟩, r⟩ := x
    exact ⟨ho _ d, z, ne, k _ _ (.inl rfl) e, mA, ⟨od, es, ep, k _ _ (.inr (.inl d)) e2, c⟩, r⟩
  | own y => obtain ⟨ob, e⟩ := x; exact ⟨ob, k _ _ (.inl rfl) e⟩
  | xd fs => obtain ⟨mA, ⟨od, es, ep, e, c⟩, r⟩ := x; exact ⟨mA, ⟨od, es, ep, k _ _ (.inl rfl) e, c⟩, r⟩
  | rng lo hi => obtain ⟨t, u, v, e⟩ := x; exact ⟨t, u, v, k _ _ (.inl rfl) e⟩
  | frz ob u ih => obtain ⟨e, q⟩ := x; exact ⟨k _ _ (.inl rfl) e, ih q⟩
  | tbl ps =>
    have e : h.get? a = some { cls := .none, data := .fields ps } := x
    show h'.get? a = some { cls := .none, data := .fields ps }
    exact k a _ (.inl rfl) e
  | met f y =>
    have e : h.get? a = some (PySem.W.methodObj (.ref f) (.ref y)) := x
    show h'.get? a = some (PySem.W.methodObj (.ref f) (.ref y))
    exact k a _ (.inl rfl) e
  | ext φ => obtain ⟨p, ⟨o, e⟩, st⟩ := x; exact ⟨st _ _ p fun o q => k _ _ (.inl rfl) q, ⟨o, k _ _ (.inl rfl) e⟩, st⟩
  | memo ls =>
    obtain ⟨⟨o, e⟩, n, hn, q⟩ := x
    refine ⟨⟨o, k _ _ (.inl rfl) e⟩, n, hn, q.kp kp fun b u hb => k b u ?_⟩
    rcases hb with z | z
    · exact .inl z
    · exact .inr (.inr z)
  | memoX ls ns =>
    obtain ⟨⟨o, e⟩, q⟩ := x
    refine ⟨⟨o, k _ _ (.inl rfl) e⟩, q.kp kp fun b u hb => k b u ?_⟩
    rcases hb with z | z
    · exact .inl z
    · exact .inr (.inr z)
  | part y => obtain ⟨o, e⟩ := x; exact ⟨o, k _ _ (.inl rfl) e⟩
  | kd tg ob kvs =>
    obtain ⟨e, ⟨z, y, vs, r, ob', es, ep, e', c⟩, q⟩ := x
    refine ⟨k _ _ (.inl rfl) e, ⟨z, y, vs, r, ob', es, ep, k _ _ (.inl rfl) e', c⟩, fun p i ht => ?_⟩
    obtain ⟨q1, q2⟩ := q p i ht
    exact ⟨kp.mem _ q1, hl p i _ q1 q2⟩
theorem ObjOk.stay (x : ObjOk P w H h a o) (k : ∀ b u, (b = a ∨ H b = some (.own a) ∨ IsMemo (H b)) → h.get? b = some u → h'.get? b = some u) (ho : ∀ b, H b = some (.own a) → H' b = some (.own a)) (ht : ∀ b xs, H b = some (.tup xs) → H' b = some (.tup xs)) (kp : Kp H H') : ObjOk P w H' h' a o :=
  x.stayG (fun b u hb => k b u (by
    rcases hb with z | z | z
    · exact .inl z
    · exact .inr (.inl z)
    · exact .inr (.inr (by rw [z]; trivial)))) ho ht kp fun p i c hm ⟨its, n, e, q⟩ => ⟨its, n, k p _ (.inr (.inr hm)) e, q⟩
theorem HOk.lt (x : HOk P w H h) (e : H a = some o) : a < h.objs.size := (x a o e).lt
theorem HOk.fresh (x : HOk P w H h) (e : h.objs.size ≤ a) : H a = none := by
  cases q : H a with
  | none => rfl
  | some u => exact absurd (Nat.lt_of_lt_of_le (x.lt q) e) (Nat.lt_irrefl _)
theorem HOk.kept (x : HOk P w H h) (k : ∀ b u, h.get? b = some u → h'.get? b = some u) : HOk P w H h' := fun a o e =>
  (x a o e).stay (fun b u _ q => k b u q) (fun _ q => q) (fun _ _ q => q) .refl
theorem HOk.laid (x : HOk P w H h) (k : ∀ b u, h.get? b = some u → h'.get? b = some u) (hp : h.objs.size ≤ a) (new : ObjOk P w (upd H a o) h' a o) : HOk P w (upd H a o) h' := fun b u e => by
  have hn := x.fresh hp
  by_cases hb : b = a
  · subst hb; rw [upd_same] at e; cases e; exact new
  · rw [upd_ne hb] at e
    exact (x b u e).stay (fun c v _ q => k c v q) (fun c q => by rw [upd_ne (ne_of_none q hn)]; exact q) (fun c xs q => by rw [upd_ne (ne_of_none q hn)]; exact q) (.of fun c u q => by rw [upd_ne (ne_of_none q hn)]; exact q)
end
def Rd (H : Hp) (a : Addr) (u : HO) : Prop := H a = some u ∨ (∃ o, H a = some (.frz o u)) ∨ ∃ tg o kvs, H a = some (.kd tg o kvs) ∧ u = .dK kvs
theorem Rd.ok {P : Program} {w : World} {H : Hp} {h : Heap} {a : Addr} {u : HO} (r : Rd H a u) (x : HOk P w H h) : ObjOk P w H h a u := by
  rcases r with r | ⟨o, r⟩ | ⟨tg, o, kvs, r, rfl⟩
  · exact x a u r
  · obtain ⟨_, q⟩ := x a _ r
    exact q
  · obtain ⟨_, q, _⟩ := x a _ r
    exact q
def Mut : Option HO → Prop
  | some (.lst _) => True
  | some (.dK _) => True
  | some (.dT _) => True
  | some (.set _ _) => True
  | some (.ins _ _ _) => True
  | some (.ext _) => True
  | _ => False
section
variable {P : Program} {w : World} {H : Hp} {h h' : Heap} {x e : Addr} {o' : HO}
theorem HOk.write (ok : HOk P w H h) (mu : Mut (H x)) (he : e = x ∨ H e = some (.own x)) (k : ∀ b u, b ≠ e → h.get? b = some u → h'.get? b = some u) (heo : ∃ u, h'.get? e = some u) (new : ObjOk P w (upd H x o') h' x o') : HOk P w (upd H x o') h' := fun b u q => by
  have nown : ∀ c y, H c = some (.own y) → c ≠ x := fun c y r z => by subst z; rw [r] at mu; exact mu
  have ntup : ∀ c xs, H c = some (.tup xs) → c ≠ x := fun c xs r z => by subst z; rw [r] at mu; exact mu
  by_cases hb : b = x
  · subst hb; rw [upd_same] at q; cases q; exact new
  · rw [upd_ne hb] at q
    by_cases hbe : b = e
    · have q' : H b = some (.own x) := by
        rcases he with z | z
        · exact absurd (hbe.trans z) hb
        · rw [hbe]; exact z
      rw [q] at q'; cases q'
      obtain ⟨v, hv⟩ := heo
      exact ⟨v, by rw [hbe]; exact hv⟩
    · have nkd : ∀ c u, H c = some u → ¬ Mut (some u) → c ≠ x := fun c u r nm z => by subst z; rw [r] at mu; exact nm mu
      have nmm : ∀ c, IsMemo (H c) → c ≠ x := fun c r z => by
        subst z
        cases qq : H c with
        | none => rw [qq] at r; exact r
        | some u => rw [qq] at r mu; cases u <;> first | exact mu | exact r
      refine (ok b u q).stay (fun c v hc r => k c v ?_ r) (fun c r => by rw [upd_ne (nown c b r)]; exact r) (fun c xs r => by rw [upd_ne (ntup c xs r)]; exact r) ⟨fun c tg o kvs r => by rw [upd_ne (nkd c _ r fun z => z)]; exact r, fun c r => by rw [upd_ne (nmm c r)]; exact r, fun c y r => by rw [upd_ne (nkd c _ r fun z => z)]; exact r⟩
      rcases hc with rfl | hc | hc
      · exact hbe
      · rintro rfl
        rcases he with z | z
        · exact nown c b hc z
        · rw [hc] at z; cases z; exact hb rfl
      · rintro rfl
        rcases he with z | z
        · exact nmm c hc z
        · rw [z] at hc; exact hc
end
structure Un (fs ex : List Addr) (H H' : Hp) (h h' : Heap) : Prop where
  keep : ∀ b o, h.get? b = some o → H b = none → b ∉ fs → b ∉ ex → h'.get? b = some o
  slot : ∀ b o, h.get? b = some o → H b = none → b ∈ fs → b ∉ ex → ∃ sl, h'.get? b = some { o with slots := sl }
  free : ∀ b o, h.get? b = some o → H b = none → b ∉ ex → H' b = none
  there : ∀ b o, h.get? b = some o → b ∉ ex → ∃ o', h'.get? b = some o'
  tups : ∀ b xs, H b = some (.tup xs) → H' b = some (.tup xs)
  frzs : ∀ b o u, H b = some (.frz o u) → H' b = some (.frz o u)
  tbls : ∀ b ps, H b = some (.tbl ps) → ∃ more, H' b = some (.tbl (ps ++ more))
section
variable {fs fs' ex ex' : List Addr} {H H1 H2 : Hp} {h h1 h2 h' : Heap} {a x e : Addr} {o : HO}
theorem Un.any (u : Un fs ex H H1 h h1) {b : Addr} {ob : Obj} (q : h.get? b = some ob) (n : H b = none) (hx : b ∉ ex) : ∃ sl, h1.get? b = some { ob with slots := sl } := by
  by_cases hb : b ∈ fs
  · exact u.slot b ob q n hb hx
  · exact ⟨ob.slots, u.keep b ob q n hb hx⟩
theorem Un.kept (k : ∀ b u, h.get? b = some u → h'.get? b = some u) : Un fs ex H H h h' :=
  ⟨fun b ob q _ _ _ => k b ob q, fun b ob q _ _ _ => ⟨ob.slots, k b ob q⟩, fun _ _ _ n _ => n, fun b ob q _ => ⟨ob, k b ob q⟩, fun _ _ q => q, fun _ _ _ q => q, fun _ ps q => ⟨#[], by rw [q]; simp⟩⟩
theorem Un.refl : Un fs ex H H h h := Un.kept fun _ _ q => q
theorem Un.laid (k : ∀ b u, h.get? b = some u → h'.get? b = some u) (hp : h.objs.size ≤ a) (hn : H a = none) : Un fs ex H (upd H a o) h h' where
  keep := fun b u q _ _ _ => k b u q
  slot := fun b u q _ _ _ => ⟨u.slots, k b u q⟩
  free := fun b u q n _ => by rw [upd_ne (Nat.ne_of_lt (Nat.lt_of_lt_of_le (Heap.lt_size q) hp))]; exact n
  there := fun b u q _ => ⟨u, k b u q⟩
  tups := fun b xs q => by rw [upd_ne (ne_of_none q hn)]; exact q
  frzs := fun b u xs q => by rw [upd_ne (ne_of_none q hn)]; exact q
  tbls := fun b ps q => ⟨#[], by rw [upd_ne (ne_of_none q hn), q]; simp⟩
theorem Un.write (mu : Mut (H x)) (he : e = x ∨ H e = some (.own x)) (k : ∀ b u, b ≠ e → h.get? b = some u → h'.get? b = some u) (heo : ∃ u, h'.get? e = some u) : Un fs ex H (upd H x o) h h' := by
  have hx : ∀ b, H b = none → b ≠ x := fun b n z => by subst z; rw [n] at mu; exact mu
  have hb : ∀ b, H b = none → b ≠ e := fun b n z => by
    subst z
    rcases he with r | r
    · exact hx b n r
    · rw [n] at r; cases r
  have hm : ∀ b u, H b = some u → ¬ Mut (some u) → b ≠ x := fun b u q nm z => by subst z; rw [q] at mu; exact nm mu
  refine ⟨fun b u q n _ _ => k b u (hb b n) q, fun b u q n _ _ => ⟨u.slots, k b u (hb b n) q⟩, fun b u q n _ => by rw [upd_ne (hx b n)]; exact n, fun b u q _ => ?_,
    fun b xs q => by rw [upd_ne (hm b _ q fun z => z)]; exact q, fun b u xs q => by rw [upd_ne (hm b _ q fun z => z)]; exact q, fun b ps q => ⟨#[], by rw [upd_ne (hm b _ q fun z => z), q]; simp⟩⟩
  by_cases hbe : b = e
  · subst hbe; exact heo
  · exact ⟨u, k b u hbe q⟩
end
def trk (h : Heap) (H : Hp) : List Addr := (List.range h.objs.size).filter fun a => (H a).isSome
def hidT (h : Heap) (H : Hp) : Heap := PySem.W.hideAll h (trk h H)
theorem hidT_size (h : Heap) (H : Hp) : (hidT h H).objs.size = h.objs.size := PySem.W.hideAll_size _ _
theorem hidT_get {h : Heap} {H : Hp} {b : Addr} {o : Obj} (e : h.get? b = some o) (n : H b = none) : (hidT h H).get? b = some o :=
  PySem.W.hideAll_get _ e fun hm => by
    have q : (H b).isSome = true := (List.mem_filter.mp hm).2
    rw [n] at q; simp at q
theorem of_hidT {h : Heap} {H : Hp} {b : Addr} {o : Obj} (e : (hidT h H).get? b = some o) : h.get? b = some o ∧ H b = none := by
  have e' : h.get? b = some o := PySem.W.of_hideAll (trk h H) e
  refine ⟨e', ?_⟩
  cases q : H b with
  | none => rfl
  | some x =>
    have hm : b ∈ trk h H := List.mem_filter.mpr ⟨List.mem_range.mpr (Heap.lt_size e'), by simp [q]⟩
    have z : (hidT h H).get? b = none := PySem.W.hideAll_none (trk h H) hm
    rw [z] at e; cases e
def allNews (g h : Heap) (L : Addr) : List (Addr × Obj) := (List.range h.objs.size).filterMap fun a => if a = L ∨ (g.get? a).isSome = true then none else (h.get? a).map fun o => (a, o)
def rest (g h : Heap) (L d : Addr) : List (Addr × Obj) := (allNews g h L).filter fun p => decide (p.1 ≠ d)
end L2
namespace L2
open PySem PySem.Spec PyProof.Rows
structure Mod (K : PySem.W.Frag) (mg : Str → Option Value) (base : Heap) : Prop where
  kin : K.In base
  glob : base.Ns mainGlobals mg
  blt : ∃ mb, base.Ns builtinsNs mb ∧ ∀ x : Str, x ≠ "__name__" → mb x = bootBuiltins x
  nolimit : base.NoLimit
structure Cx where
  prog : Program
  w : World
  K : PySem.W.Frag
  mg : Str → Option Value
  base : Heap
  A : Around
  N : List Str
  s₀ : Shared
  H₀ : Hp
  env : Env
  outer : List Env
  stack : List Env
  ex : List Addr
  fn : Str → Bool
  calm : Bool
  pn : List (Addr × Obj)
  xe : Value → Shared → Prop
def frs (l : List Env) : List Addr := l.filterMap (·.frame)
abbrev Cx.fs (X : Cx) : List Addr := frs X.outer
def Vis (sc : Scope) (x : Str) : Prop := sc.names.lookup x = some .local ∨ sc.names.lookup x = some .cell ∨ sc.names.lookup x = some .free
def Loc (sc : Scope) (x : Str) : Prop := sc.names.lookup x = some .local ∨ sc.names.lookup x = some .cell
def Look (env : Env) (h : Heap) (m : Str → Option Value) (x : Str) (u : Value) : Prop :=
  (env.kindOf x = some .local ∧ m x = some u) ∨ ((env.kindOf x = some .cell ∨ env.kindOf x = some .free) ∧ ∃ c, env.cells.lookup x = some c ∧ h.IsCell c (some u))
structure Cx.Ok (X : Cx) : Prop where
  mod : Mod X.K X.mg X.base
  kind : X.env.scope.kind = .function
  glob : X.env.globals = mainGlobals
  blt : X.env.builtins = builtinsNs
  above : X.s₀.heap.objs.size ≤ X.env.locals
  inj : ∀ x y c, X.env.cells.lookup x = some c → X.env.cells.lookup y = some c → x = y
  has : ∀ x, (X.env.kindOf x = some .cell ∨ X.env.kindOf x = some .free) → ∃ c, X.env.cells.lookup x = some c
  cab : ∀ x c, X.fn x = true → X.env.cells.lookup x = some c → X.s₀.heap.objs.size ≤ c
  hd : X.calm = true → X.A.handled = none
  frames : X.A.frames = some X.stack
  stk : X.stack = X.outer ∨ (X.stack = X.env :: X.outer ∧ X.env.frame = some X.env.locals)
  exf : ∀ b ∈ X.ex, b ≠ X.env.locals ∧ ∀ x c, X.env.cells.lookup x = some c → c ≠ b
  bs : ∀ b o, X.base.get? b = some o → X.s₀.heap.get? b = some o ∧ X.H₀ b = none
  bsz : X.base.objs.size ≤ X.s₀.heap.objs.size
  noex : ∀ b o, X.base.get? b = some o → b ∉ X.ex
  exfs : ∀ b ∈ X.ex, b ∉ X.fs
  funs : X.s₀.heap.FunFrames X.base X.outer
  frf : ∀ b ∈ X.fs, X.H₀ b = none
structure Inv (X : Cx) (pins : List (Addr × Obj)) (σ : List (Option V)) (H : Hp) (s : Shared) : Prop where
  ok : X.Ok
  os : s.os = X.s₀.os
  bare : AllBare s.gens
  base : Un X.fs X.ex X.H₀ H X.s₀.heap s.heap
  loc : ∃ m, s.heap.Ns X.env.locals m ∧ ∀ (i : Nat) (x : Str) (v : V), X.N[i]? = some x → σ[i]? = some (some v) → Vis X.env.scope x → ∃ u, RelV v u ∧ Look X.env s.heap m x u
  cell : ∀ x c, X.env.cells.lookup x = some c → ∃ v, s.heap.IsCell c v
  free : H X.env.locals = none
  freeC : ∀ x c, X.env.cells.lookup x = some c → H c = none
  pin : ∀ p ∈ X.pn ++ pins, s.heap.get? p.1 = some p.2 ∧ H p.1 = none ∧ p.1 ≠ X.env.locals ∧ p.1 ∉ X.fs ∧ ∀ v, p.2.data ≠ .cell v
  hok : HOk X.prog X.w H s.heap
  len : σ.length = X.N.length
section
variable {X : Cx} {pins : List (Addr × Obj)} {σ : List (Option V)} {H H' : Hp} {s : Shared} {h' : Heap}
theorem Cx.Ok.nofr (ok : X.Ok) {b : Addr} {o : Obj} (e : X.base.get? b = some o) : b ∉ X.fs := fun hb => by
  have := (ok.funs.mem hb).1
  rw [e] at this; cases this
theorem Inv.bs (I : Inv X pins σ H s) : ∀ b o, X.base.get? b = some o → s.heap.get? b = some o ∧ H b = none := fun b o e =>
  ⟨I.base.keep b o (I.ok.bs b o e).1 (I.ok.bs b o e).2 (I.ok.nofr e) (I.ok.noex b o e), I.base.free b o (I.ok.bs b o e).1 (I.ok.bs b o e).2 (I.ok.noex b o e)⟩
theorem Inv.bk (I : Inv X pins σ H s) : ∀ b o, X.base.get? b = some o → s.heap.get? b = some o := fun b o e => (I.bs b o e).1
theorem Inv.mod (I : Inv X pins σ H s) : Mod X.K X.mg X.base := I.ok.mod
theorem Inv.kIn (I : Inv X pins σ H s) : X.K.In s.heap := I.ok.mod.kin.keeps I.bk
theorem Inv.lt (I : Inv X pins σ H s) : X.env.locals < s.heap.objs.size := let ⟨_, hn, _⟩ := I.loc; hn.lt
theorem Inv.sz (I : Inv X pins σ H s) : X.s₀.heap.objs.size ≤ s.heap.objs.size := Nat.le_trans I.ok.above (Nat.le_of_lt I.lt)
theorem Inv.nofs (I : Inv X pins σ H s) {a : Addr} (h : s.heap.objs.size ≤ a) : a ∉ X.fs := fun hb => by
  obtain ⟨_, o, ho, _⟩ := I.ok.funs.mem hb
  exact absurd (Nat.lt_of_lt_of_le (Heap.lt_size ho) (Nat.le_trans I.sz h)) (Nat.lt_irrefl _)
theorem Inv.cne (I : Inv X pins σ H s) : ∀ x c, X.env.cells.lookup x = some c → c ≠ X.env.locals := fun x c e z => by
  obtain ⟨v, o, ho, hd⟩ := I.cell x c e
  obtain ⟨m, ⟨o', es, ep, ho', hd', _⟩, _⟩ := I.loc
  rw [z, ho'] at ho; cases ho; rw [hd'] at hd; cases hd
theorem Inv.funs (I : Inv X pins σ H s) : s.heap.FunFrames X.base X.outer := by
  have all : ∀ (l : List Env), (∀ b ∈ frs l, b ∈ X.fs) → X.s₀.heap.FunFrames X.base l → s.heap.FunFrames X.base l := by
    intro l
    induction l with
    | nil => intro _ _; trivial
    | cons env r ih =>
      intro hs hl
      obtain ⟨hk, ⟨L, o, hf, hn, ho, hd⟩, hr⟩ := hl
      have hL : L ∈ X.fs := hs L (by unfold frs; rw [List.filterMap_cons, hf]; exact List.mem_cons_self)
      obtain ⟨sl, e⟩ := I.base.slot L o ho (I.ok.frf L hL) hL fun z => I.ok.exfs L z hL
      exact ⟨hk, ⟨L, _, hf, hn, e, hd⟩, ih (fun b hb => hs b (by unfold frs; rw [List.filterMap_cons, hf]; exact List.mem_cons_of_mem _ hb)) hr⟩
  exact all X.outer (fun _ hb => hb) I.ok.funs
theorem Inv.stack (I : Inv X pins σ H s) : s.heap.FunFrames X.base X.stack := by
  rcases I.ok.stk with e | ⟨e, hf⟩
  · rw [e]; exact I.funs
  · rw [e]
    obtain ⟨m, hn, _⟩ := I.loc
    refine .cons (by rw [I.ok.kind]; decide) hf hn ?_ I.funs
    exact Heap.get?_none_of_le (Nat.le_trans I.ok.bsz I.ok.above)
theorem Inv.stkSub (I : Inv X pins σ H s) : ∀ b ∈ frs X.stack, b ∈ X.env.locals :: X.fs := fun b hb => by
  rcases I.ok.stk with e | ⟨e, hf⟩
  · rw [e] at hb; exact List.mem_cons_of_mem _ hb
  · rw [e] at hb
    unfold frs at hb
    rw [List.filterMap_cons, hf] at hb
    exact hb
theorem Inv.stkFree (I : Inv X pins σ H s) : ∀ b ∈ frs X.stack, H b = none := fun b hb => by
  rcases List.mem_cons.mp (I.stkSub b hb) with e | hb
  · rw [e]; exact I.free
  · obtain ⟨_, o, ho, _⟩ := I.ok.funs.mem hb
    exact I.base.free b o ho (I.ok.frf b hb) fun z => I.ok.exfs b z hb
theorem Inv.step {g' : Array GenState} {t' : Nat} {d' : Drawn} {ch : List Addr} (I : Inv X pins σ H s) (hch : ∀ b ∈ ch, (b ∈ X.ex ∨ X.s₀.heap.objs.size ≤ b) ∧ b ≠ X.env.locals ∧ (∀ x c, X.env.cells.lookup x = some c → c ≠ b) ∧ ∀ p ∈ X.pn ++ pins, p.1 ≠ b) (keep : ∀ b o, b ≠ X.env.locals → b ∉ X.fs → b ∉ ch → s.heap.get? b = some o → H b = none → h'.get? b = some o) (slot : ∀ b o, b ≠ X.env.locals → b ∈ X.fs → b ∉ ch → s.heap.get? b = some o → H b = none → ∃ sl, h'.get? b = some { o with slots := sl }) (free : ∀ b o, b ∉ ch → s.heap.get? b = some o → H b = none → H' b = none) (there : ∀ b o, b ∉ ch → s.heap.get? b = some o → ∃ o', h'.get? b = some o') (tups : ∀ b xs, H b = some (.tup xs) → H' b = some (.tup xs)) (frzs : ∀ b o u, H b = some (.frz o u) → H' b = some (.frz o u)) (tbls : ∀ b ps, H b = some (.tbl ps) → ∃ more, H' b = some (.tbl (ps ++ more))) (ns : ∀ m, s.heap.Ns X.env.locals m → h'.Ns X.env.locals m) (hok : HOk X.prog X.w H' h') (hg : AllBare g') : Inv X pins σ H' { s with heap := h', gens := g', drawn := d', toks := t' } := by
  have neL : ∀ b o, X.s₀.heap.get? b = some o → b ≠ X.env.locals := fun b o e => Nat.ne_of_lt (Nat.lt_of_lt_of_le (Heap.lt_size e) I.ok.above)
  have neC : ∀ b o, X.s₀.heap.get? b = some o → b ∉ X.ex → b ∉ ch := fun b o e hx hb => by
    rcases (hch b hb).1 with z | z
    · exact hx z
    · exact absurd (Nat.lt_of_lt_of_le (Heap.lt_size e) z) (Nat.lt_irrefl _)
  have cellK : ∀ x c, X.env.cells.lookup x = some c → ∀ v, s.heap.IsCell c v → h'.IsCell c v := fun x c e v ⟨o, ho, hd⟩ => by
    have nch : c ∉ ch := fun z => (hch c z).2.2.1 x c e rfl
    by_cases hc : c ∈ X.fs
    · obtain ⟨sl, q⟩ := slot c o (I.cne x c e) hc nch ho (I.freeC x c e)
      exact ⟨_, q, hd⟩
    · exact ⟨o, keep c o (I.cne x c e) hc nch ho (I.freeC x c e), hd⟩
  refine ⟨I.ok, I.os, hg, ⟨fun b o e n hb hx => ?_, fun b o e n hb hx => ?_, fun b o e n hx => ?_, fun b o e hx => ?_, fun b xs e => tups b xs (I.base.tups b xs e), fun b o xs e => frzs b o xs (I.base.frzs b o xs e), fun b ps e => ?_⟩, ?_, fun x c e => ?_, ?_, fun x c e => ?_, fun p hp => ?_, hok, I.len⟩
  · exact keep b o (neL b o e) hb (neC b o e hx) (I.base.keep b o e n hb hx) (I.base.free b o e n hx)
  · obtain ⟨sl, e1⟩ := I.base.slot b o e n hb hx
    obtain ⟨sl', e2⟩ := slot b _ (neL b o e) hb (neC b o e hx) e1 (I.base.free b o e n hx)
    exact ⟨sl', e2⟩
  · obtain ⟨o', e1⟩ := I.base.there b o e hx
    exact free b o' (neC b o e hx) e1 (I.base.free b o e n hx)
  · obtain ⟨o', e1⟩ := I.base.there b o e hx
    exact there b o' (neC b o e hx) e1
  · obtain ⟨m1, e1⟩ := I.base.tbls b ps e
    obtain ⟨m2, e2⟩ := tbls b _ e1
    exact ⟨m1 ++ m2, by rw [e2, Array.append_assoc]⟩
  · obtain ⟨m, hn, hl⟩ := I.loc
    refine ⟨m, ns m hn, fun i x v e1 e2 e3 => ?_⟩
    obtain ⟨u, r, l⟩ := hl i x v e1 e2 e3
    refine ⟨u, r, ?_⟩
    rcases l with l | ⟨k, c, e, z⟩
    · exact .inl l
    · exact .inr ⟨k, c, e, cellK x c e _ z⟩
  · obtain ⟨v, z⟩ := I.cell x c e
    exact ⟨v, cellK x c e v z⟩
  · obtain ⟨m, ⟨o, _, _, ho, _⟩, _⟩ := I.loc
    exact free _ o (fun z => (hch _ z).2.1 rfl) ho I.free
  · obtain ⟨v, o, ho, hd⟩ := I.cell x c e
    exact free c o (fun z => (hch c z).2.2.1 x c e rfl) ho (I.freeC x c e)
  · obtain ⟨e, n, ne, nf, d⟩ := I.pin p hp
    have nch : p.1 ∉ ch := fun z => (hch p.1 z).2.2.2 p hp rfl
    exact ⟨keep p.1 p.2 ne nf nch e n, free p.1 p.2 nch e n, ne, nf, d⟩
theorem Inv.un {t' : Nat} (I : Inv X pins σ H s) (u : Un X.fs [] H H' s.heap h') (hok : HOk X.prog X.w H' h') : Inv X pins σ H' { s with heap := h', toks := t' } := by
  obtain ⟨m, ⟨o, es, ep, ho, r⟩, _⟩ := id I.loc
  obtain ⟨sl, hL⟩ := u.any ho I.free (by simp)
  exact I.step (g' := s.gens) (d' := s.drawn) (ch := []) (fun _ z => nomatch z) (fun b o _ hb _ e n => u.keep b o e n hb (by simp)) (fun b o _ hb _ e n => u.slot b o e n hb (by simp)) (fun b o _ e n => u.free b o e n (by simp)) (fun b o _ e => u.there b o e (by simp)) u.tups u.frzs u.tbls (fun m' hm => by
    obtain ⟨o', es', ep', ho', r'⟩ := hm
    rw [ho] at ho'; cases ho'
    exact ⟨_, es', ep', hL, r'⟩) hok I.bare
theorem Inv.call {g' : Array GenState} {t' : Nat} {d' : Drawn} {ch : List Addr} (I : Inv X pins σ H s) (u : Un (frs X.stack) ch H H' s.heap h') (hok : HOk X.prog X.w H' h') (hg : AllBare g') (hch : ∀ b ∈ ch, (b ∈ X.ex ∨ X.s₀.heap.objs.size ≤ b) ∧ b ≠ X.env.locals ∧ (∀ x c, X.env.cells.lookup x = some c → c ≠ b) ∧ ∀ p ∈ X.pn ++ pins, p.1 ≠ b) : Inv X pins σ H' { s with heap := h', gens := g', drawn := d', toks := t' } := by
  obtain ⟨m, ⟨o, es, ep, ho, r⟩, _⟩ := id I.loc
  obtain ⟨sl, hL⟩ := u.any ho I.free fun z => (hch _ z).2.1 rfl
  exact I.step (ch := ch) hch (fun b o hL hb hc e n => u.keep b o e n (fun z => (List.mem_cons.mp (I.stkSub b z)).elim hL hb) hc) (fun b o _ _ hc e n => u.any e n hc) (fun b o hc e n => u.free b o e n hc) (fun b o hc e => u.there b o e hc) u.tups u.frzs u.tbls (fun m' hm => by
    obtain ⟨o', es', ep', ho', r'⟩ := hm
    rw [ho] at ho'; cases ho'
    exact ⟨_, es', ep', hL, r'⟩) hok hg
theorem Inv.turned {t' : Nat} {it : Addr} (I : Inv X pins σ H s) (k : ∀ b o, b ≠ it → s.heap.get? b = some o → h'.get? b = some o) (hn : H it = none) (hL : it ≠ X.env.locals) (h1 : it ∈ X.ex ∨ X.s₀.heap.objs.size ≤ it) (h2 : ∀ x c, X.env.cells.lookup x = some c → c ≠ it) (h3 : ∀ p ∈ X.pn ++ pins, p.1 ≠ it) : Inv X pins σ H { s with heap := h', toks := t' } := by
  have nit : ∀ b u, H b = some u → b ≠ it := fun b u e z => by rw [z, hn] at e; cases e
  refine I.step (g' := s.gens) (d' := s.drawn) (ch := [it]) (fun b hb => ?_) (fun b o _ _ hc e _ => k b o (fun z => hc (by simp [z])) e) (fun b o _ _ hc e _ => ⟨o.slots, k b o (fun z => hc (by simp [z])) e⟩) (fun _ _ _ _ n => n)
    (fun b o hc e => ⟨o, k b o (fun z => hc (by simp [z])) e⟩) (fun _ _ e => e) (fun _ _ _ e => e) (fun b ps e => ⟨#[], by rw [e]; simp⟩) (fun m hm => ?_) (fun b u e => ?_) I.bare
  · have e : b = it := by simpa using hb
    subst e
    exact ⟨h1, hL, h2, h3⟩
  · obtain ⟨o, es, ep, ho, r⟩ := hm
    exact ⟨o, es, ep, k _ o (Ne.symm hL) ho, r⟩
  · refine (I.hok b u e).stay (fun c v hc q => k c v ?_ q) (fun _ q => q) (fun _ _ q => q) .refl
    rcases hc with z | z | z
    · rw [z]; exact nit b u e
    · exact nit c _ z
    · exact fun z' => by rw [z', hn] at z; exact z
theorem Inv.tok (I : Inv X pins σ H s) (t : Nat) : Inv X pins σ H { s with toks := t } := I.un (h' := s.heap) (t' := t) Un.refl I.hok
theorem Inv.kept {t' : Nat} (I : Inv X pins σ H s) (k : ∀ b u, s.heap.get? b = some u → h'.get? b = some u) : Inv X pins σ H { s with heap := h', toks := t' } := I.un (Un.kept k) (I.hok.kept k)
theorem Inv.laid {a : Addr} {o : HO} {t' : Nat} (I : Inv X pins σ H s) (k : ∀ b u, s.heap.get? b = some u → h'.get? b = some u) (hp : s.heap.objs.size ≤ a) (new : ObjOk X.prog X.w (upd H a o) h' a o) : Inv X pins σ (upd H a o) { s with heap := h', toks := t' } := I.un (Un.laid k hp (I.hok.fresh hp)) (I.hok.laid k hp new)
theorem Inv.write {x e : Addr} {o : HO} {t' : Nat} (I : Inv X pins σ H s) (mu : Mut (H x)) (he : e = x ∨ H e = some (.own x)) (k : ∀ b u, b ≠ e → s.heap.get? b = some u → h'.get? b = some u) (heo : ∃ u, h'.get? e = some u) (new : ObjOk X.prog X.w (upd H x o) h' x o) : Inv X pins σ (upd H x o) { s with heap := h', toks := t' } := I.un (Un.write mu he k heo) (I.hok.write mu he k heo new)
theorem Inv.pins_of {pins' : List (Addr × Obj)} (I : Inv X pins σ H s) (h : ∀ p ∈ pins', s.heap.get? p.1 = some p.2 ∧ H p.1 = none ∧ p.1 ≠ X.env.locals ∧ p.1 ∉ X.fs ∧ ∀ v, p.2.data ≠ .cell v) : Inv X pins' σ H s :=
  ⟨I.ok, I.os, I.bare, I.base, I.loc, I.cell, I.free, I.freeC, fun p hp => (List.mem_append.mp hp).elim (fun z => I.pin p (List.mem_append_left _ z)) (h p), I.hok, I.len⟩
theorem nodup_ix {N : List Str} (hN : N.Nodup) {i j : Nat} {x : Str} (a : N[i]? = some x) (b : N[j]? = some x) : i = j := by
  obtain ⟨h1, e1⟩ := List.getElem?_eq_some_iff.mp a
  obtain ⟨h2, e2⟩ := List.getElem?_eq_some_iff.mp b
  exact (List.getElem_inj hN).mp (e1.trans e2.symm)
theorem store_ok2 {M : Model} {A : Around} {E : Value → Shared → Prop} {i : Nat} {x : Str} {v : V} {u : Value} {Q : Unit → Shared → Prop} (I : Inv X pins σ H s) (hN : X.N.Nodup) (hi : X.N[i]? = some x) (hx : Loc X.env.scope x) (r : RelV v u) (h : ∀ s', Inv X pins (σ.set i (some v)) H s' → (∃ a, Heap.SameBut a s.heap s'.heap ∧ (a = X.env.locals ∨ X.env.cells.lookup x = some a)) → Q () s') (hf : X.fn x = true ∨ X.env.scope.names.lookup x = some .local := by first | exact .inl rfl | exact .inr rfl | assumption) : wpAny M A (storeName X.env x u) Q E s := by
  obtain ⟨m, hn, hl⟩ := id I.loc
  have hcls : (X.env.scope.kind == .class || (X.env.scope.kind == .module && X.env.locals != X.env.globals)) = false := by rw [I.ok.kind]; rfl
  have hiσ : i < σ.length := by rw [I.len]; exact (List.getElem?_eq_some_iff.mp hi).1
  have cne := I.cne
  have tracked : ∀ {a : Addr} {h' : Heap}, (∃ o, s.heap.get? a = some o ∧ H a = none) → Heap.SameBut a s.heap h' → HOk X.prog X.w H h' := fun {a h'} ha hs b ob e => by
    obtain ⟨_, _, hfree⟩ := ha
    refine (I.hok b ob e).stay (fun c w' hc q => (hs.2 c ?_).trans q) (fun _ q => q) (fun _ _ q => q) .refl
    rintro rfl
    rcases hc with rfl | hc | hc
    · rw [hfree] at e; cases e
    · rw [hfree] at hc; cases hc
    · rw [hfree] at hc; exact hc
  rcases hx with hk | hk
  · refine wpAny_storeName_local hk hn (fun h' hn' hs => ?_) hcls
    obtain ⟨oL, _, _, hoL, _⟩ := id hn
    refine h _ ⟨I.ok, I.os, I.bare, ⟨fun b o e n hb hx => ?_, fun b o e n hb hx => ?_, I.base.free, fun b o e hx => ?_, I.base.tups, I.base.frzs, I.base.tbls⟩, ⟨_, hn', fun j y v' e1 e2 e3 => ?_⟩, fun y c e => ?_, I.free, I.freeC, fun p hp => ?_, tracked ⟨oL, hoL, I.free⟩ hs, by simpa using I.len⟩ ⟨_, hs, .inl rfl⟩
    · exact (hs.2 b (Nat.ne_of_lt (Nat.lt_of_lt_of_le (Heap.lt_size e) I.ok.above))).trans (I.base.keep b o e n hb hx)
    · obtain ⟨sl, e1⟩ := I.base.slot b o e n hb hx
      exact ⟨sl, (hs.2 b (Nat.ne_of_lt (Nat.lt_of_lt_of_le (Heap.lt_size e) I.ok.above))).trans e1⟩
    · obtain ⟨o', e1⟩ := I.base.there b o e hx
      exact ⟨o', (hs.2 b (Nat.ne_of_lt (Nat.lt_of_lt_of_le (Heap.lt_size e) I.ok.above))).trans e1⟩
    · by_cases hj : j = i
      · subst hj
        rw [hi] at e1; cases e1
        rw [List.getElem?_set_self hiσ] at e2
        cases e2
        exact ⟨u, r, .inl ⟨hk, by simp⟩⟩
      · rw [List.getElem?_set_ne (Ne.symm hj)] at e2
        obtain ⟨u', r', q⟩ := hl j y v' e1 e2 e3
        refine ⟨u', r', ?_⟩
        rcases q with ⟨k, e⟩ | ⟨k, c, e, z⟩
        · refine .inl ⟨k, ?_⟩
          have : y ≠ x := fun e => hj (nodup_ix hN e1 (e ▸ hi))
          simp [this, e]
        · exact .inr ⟨k, c, e, z.sameBut hs (cne y c e)⟩
    · obtain ⟨w', z⟩ := I.cell y c e
      exact ⟨w', z.sameBut hs (cne y c e)⟩
    · obtain ⟨e, n, ne, nf, d⟩ := I.pin p hp
      exact ⟨(hs.2 p.1 ne).trans e, n, ne, nf, d⟩
  · have hfn : X.fn x = true := by
      rcases hf with z | z
      · exact z
      · rw [z] at hk; cases hk
    obtain ⟨c, hc⟩ := I.ok.has x (.inl hk)
    obtain ⟨w', z⟩ := I.cell x c hc
    refine wpAny_storeName_cell I.ok.kind hk hc z (fun h' hc' hs => ?_)
    obtain ⟨oc, hoc, hocd⟩ := id z
    refine h { s with heap := h' } ⟨I.ok, I.os, I.bare, ⟨fun b o e n hb hx => ?_, fun b o e n hb hx => ?_, I.base.free, fun b o e hx => ?_, I.base.tups, I.base.frzs, I.base.tbls⟩, ⟨m, hn.sameBut hs (Ne.symm (cne x c hc)), fun j y v' e1 e2 e3 => ?_⟩, fun y c' e => ?_, I.free, I.freeC, fun p hp => ?_, tracked ⟨oc, hoc, I.freeC x c hc⟩ hs, by simpa using I.len⟩ ⟨c, hs, .inr hc⟩
    · exact (hs.2 b (Nat.ne_of_lt (Nat.lt_of_lt_of_le (Heap.lt_size e) (I.ok.cab x c hfn hc)))).trans (I.base.keep b o e n hb hx)
    · obtain ⟨sl, e1⟩ := I.base.slot b o e n hb hx
      exact ⟨sl, (hs.2 b (Nat.ne_of_lt (Nat.lt_of_lt_of_le (Heap.lt_size e) (I.ok.cab x c hfn hc)))).trans e1⟩
    · obtain ⟨o', e1⟩ := I.base.there b o e hx
      exact ⟨o', (hs.2 b (Nat.ne_of_lt (Nat.lt_of_lt_of_le (Heap.lt_size e) (I.ok.cab x c hfn hc)))).trans e1⟩
    · by_cases hj : j = i
      · subst hj
        rw [hi] at e1; cases e1
        rw [List.getElem?_set_self hiσ] at e2
        cases e2
        exact ⟨u, r, .inr ⟨.inl hk, c, hc, hc'⟩⟩
      · rw [List.getElem?_set_ne (Ne.symm hj)] at e2
        obtain ⟨u', r', q⟩ := hl j y v' e1 e2 e3
        refine ⟨u', r', ?_⟩
        rcases q with q | ⟨k, c', e, z'⟩
        · exact .inl q
        · refine .inr ⟨k, c', e, z'.sameBut hs ?_⟩
          rintro rfl
          exact hj (nodup_ix hN e1 (I.ok.inj _ _ _ e hc ▸ hi))
    · by_cases hcc : c' = c
      · subst hcc; exact ⟨_, hc'⟩
      · obtain ⟨w2, z2⟩ := I.cell y c' e
        exact ⟨w2, z2.sameBut hs hcc⟩
    · obtain ⟨e, n, ne, nf, d⟩ := I.pin p hp
      refine ⟨(hs.2 p.1 ?_).trans e, n, ne, nf, d⟩
      intro q
      rw [q, hoc] at e
      have q' : oc = p.2 := Option.some.inj e
      exact d w' (by rw [← q']; exact hocd)
theorem store_ok {M : Model} {A : Around} {E : Value → Shared → Prop} {i : Nat} {x : Str} {v : V} {u : Value} {Q : Unit → Shared → Prop} (I : Inv X pins σ H s) (hN : X.N.Nodup) (hi : X.N[i]? = some x) (hx : Loc X.env.scope x) (r : RelV v u) (h : ∀ s', Inv X pins (σ.set i (some v)) H s' → Q () s') (hf : X.fn x = true ∨ X.env.scope.names.lookup x = some .local := by first | exact .inl rfl | exact .inr rfl | assumption) : wpAny M A (storeName X.env x u) Q E s :=
  store_ok2 I hN hi hx r (fun s' I' _ => h s' I') hf
theorem Inv.call' {s' : Shared} {ch : List Addr} (I : Inv X pins σ H s) (ho : s'.os = s.os) (u : Un (frs X.stack) ch H H' s.heap s'.heap) (hok : HOk X.prog X.w H' s'.heap) (hg : AllBare s'.gens) (hch : ∀ b ∈ ch, (b ∈ X.ex ∨ X.s₀.heap.objs.size ≤ b) ∧ b ≠ X.env.locals ∧ (∀ x c, X.env.cells.lookup x = some c → c ≠ b) ∧ ∀ p ∈ X.pn ++ pins, p.1 ≠ b) : Inv X pins σ H' s' := by
  obtain ⟨h', g', d', t', o'⟩ := s'
  have e : o' = s.os := ho
  subst e
  exact I.call (g' := g') (t' := t') (d' := d') u hok hg hch
end
abbrev XK := Value → Option Addr → Hp → Prop
abbrev St := List (Option V)
abbrev VK := V → Hp → Prop
abbrev TE := St → Hp → VK → Prop
abbrev TT := St → Hp → (Bool → Hp → Prop) → Prop
abbrev TA := St → Hp → (List V → Hp → Prop) → Prop
structure Ends where
  nx : St → Hp → Prop
  rt : VK
  bk : St → Hp → Prop := fun _ _ => False
  ct : St → Hp → Prop := fun _ _ => False
abbrev TS := Ends → St → Hp → Prop
def EP (X : Cx) (pins : List (Addr × Obj)) (σ : St) (Q : VK) (u : Value) (s' : Shared) : Prop := ∃ v H', Inv X pins σ H' s' ∧ RelV v u ∧ Q v H'
def TP (X : Cx) (pins : List (Addr × Obj)) (σ : St) (Q : Bool → Hp → Prop) (b : Bool) (s' : Shared) : Prop := ∃ H', Inv X pins σ H' s' ∧ Q b H'
def AP (X : Cx) (pins : List (Addr × Obj)) (σ : St) (Q : List V → Hp → Prop) (us : List Value) (s' : Shared) : Prop := ∃ vs H', Inv X pins σ H' s' ∧ Vals vs us ∧ Q vs H'
def SP (X : Cx) (pins : List (Addr × Obj)) (D : Ends) (f : Flow) (s' : Shared) : Prop :=
  match f with
  | .next => ∃ σ' H', Inv X pins σ' H' s' ∧ D.nx σ' H'
  | .brk => ∃ σ' H', Inv X pins σ' H' s' ∧ D.bk σ' H'
  | .cont => ∃ σ' H', Inv X pins σ' H' s' ∧ D.ct σ' H'
  | .ret u => ∃ v σ' H', Inv X pins σ' H' s' ∧ RelV v u ∧ D.rt v H'
def PE (X : Cx) (e : Expr) (t : TE) : Prop :=
  ∀ (pins : List (Addr × Obj)) (s : Shared) (σ : St) (H : Hp) (Q : VK), Inv X pins σ H s → t σ H Q → wpAny (model X.prog X.w) X.A (eval e X.env) (EP X pins σ Q) X.xe s
def PT (X : Cx) (e : Expr) (t : TT) : Prop :=
  ∀ (pins : List (Addr × Obj)) (s : Shared) (σ : St) (H : Hp) (Q : Bool → Hp → Prop), Inv X pins σ H s → t σ H Q → wpAny (model X.prog X.w) X.A (isTrue e X.env (eval e X.env)) (TP X pins σ Q) X.xe s
def PW (X : Cx) (e : Expr) (t : TT) : Prop :=
  ∀ (whole : Sem Value) (pins : List (Addr × Obj)) (s : Shared) (σ : St) (H : Hp) (Q : Bool → Hp → Prop), Inv X pins σ H s → t σ H Q → wpAny (model X.prog X.w) X.A (isTrue e X.env whole) (TP X pins σ Q) X.xe s
theorem PW.pt {X : Cx} {e : Expr} {t : TT} (h : PW X e t) : PT X e t := h _
def PA (X : Cx) (es : List Expr) (t : TA) : Prop :=
  ∀ (pos : Pos) (pins : List (Addr × Obj)) (s : Shared) (σ : St) (H : Hp) (Q : List V → Hp → Prop), Inv X pins σ H s → t σ H Q → wpAny (model X.prog X.w) X.A (spliced (backTo pos (starEach es X.env))) (AP X pins σ Q) X.xe s
def PS (X : Cx) (st : Stmt) (t : TS) : Prop :=
  ∀ (pins : List (Addr × Obj)) (s : Shared) (σ : St) (H : Hp) (D : Ends), Inv X pins σ H s → t D σ H → wpAny (model X.prog X.w) X.A (exec st X.env) (SP X pins D) X.xe s
def PSs (X : Cx) (st : List Stmt) (t : TS) : Prop :=
  ∀ (pins : List (Addr × Obj)) (s : Shared) (σ : St) (H : Hp) (D : Ends), Inv X pins σ H s → t D σ H → wpAny (model X.prog X.w) X.A (execs st X.env) (SP X pins D) X.xe s
theorem thn {α : Type} {t : Sem α} {Q Q' : α → Shared → Prop} {M : Model} {A : Around} {E : Value → Shared → Prop} {s : Shared} (h : wpAny M A t Q E s) (hQ : ∀ a s, Q a s → Q' a s) : wpAny M A t Q' E s := wpAny_mono h hQ fun _ _ x => x
end L2
namespace L2
open PySem PySem.Spec PyProof.Rows
section
variable {X : Cx}
def tVar (i : Nat) : TE := fun σ H Q => ∃ v, σ[i]? = some (some v) ∧ Q v H
def tC (v : V) : TE := fun _ H Q => Q v H
theorem pe_var {i : Nat} {x : Str} {pos : Pos} (hN : X.N[i]? = some x) (hv : Vis X.env.scope x) (hd : (x == ("__debug__" : Str)) = false := by decide) (hcd : (x == ("__classdict__" : Str)) = false := by decide) : PE X (.Name x pos) (tVar i) := by
  intro pins s σ H Q I h
  obtain ⟨v, e, h⟩ := h
  obtain ⟨m, hn, hl⟩ := I.loc
  obtain ⟨u, r, l⟩ := hl i x v hN e hv
  have fin : EP X pins σ Q u s := ⟨v, H, I, r, h⟩
  rcases l with ⟨hk, hm⟩ | ⟨hk, c, hc, hcell⟩
  · exact wpAny_Name (wpAny_loadName_local I.ok.kind hk hn hm fin) hd
  · rcases hk with hk | hk
    · exact wpAny_Name (wpAny_loadName_cell I.ok.kind hk hc hcell fin) hd
    · exact wpAny_Name (wpAny_loadName_free I.ok.kind hk hc hcell fin hcd) hd
theorem pe_int {i j pos} : PE X (.Constant (.int i) j pos) (tC (.int i)) := fun _ _ _ H _ I h => wpAny_Constant_int ⟨.int i, H, I.tok _, ⟨_, rfl⟩, h⟩
theorem pe_str {x j pos} : PE X (.Constant (.str x) j pos) (tC (.str x)) := fun _ _ _ H _ I h => Calls.Constant_str ⟨.str x, H, I.tok _, ⟨_, rfl⟩, h⟩
def Gl (X : Cx) (x : Str) : Prop := X.env.kindOf x = some .globalImplicit
theorem ld_glob {E : Value → Shared → Prop} {pins : List (Addr × Obj)} {s : Shared} {σ : St} {H : Hp} {x : Str} {u : Value} {pos : Pos} {Q : Value → Shared → Prop} (I : Inv X pins σ H s) (hg : Gl X x) (hm : X.mg x = some u) (h : Q u s) (hd : (x == ("__debug__" : Str)) = false := by decide) : wpAny (model X.prog X.w) X.A (eval (.Name x pos) X.env) Q E s :=
  Calls.Name_function_global I.ok.kind hg (Calls.loadGlobal_global (by rw [I.ok.glob]; exact I.mod.glob.keeps I.bk) hm h) hd
theorem ld_blt {E : Value → Shared → Prop} {pins : List (Addr × Obj)} {s : Shared} {σ : St} {H : Hp} {x : Str} {u : Value} {pos : Pos} {Q : Value → Shared → Prop} (I : Inv X pins σ H s) (hg : Gl X x) (hm : X.mg x = none) (hv : bootBuiltins x = some u) (h : Q u s) (hn : x ≠ "__name__" := by decide) (hd : (x == ("__debug__" : Str)) = false := by decide) : wpAny (model X.prog X.w) X.A (eval (.Name x pos) X.env) Q E s := by
  obtain ⟨mb, h1, h2⟩ := I.mod.blt
  exact Calls.Name_function_global I.ok.kind hg (Calls.loadGlobal_builtin (by rw [I.ok.glob]; exact I.mod.glob.keeps I.bk) hm (by rw [I.ok.blt]; exact h1.keeps I.bk) ((h2 x hn).trans hv) h) hd
theorem pe_glob {x : Str} {v : V} {u : Value} {pos : Pos} (hg : Gl X x) (hm : X.mg x = some u) (r : RelV v u) (hd : (x == ("__debug__" : Str)) = false := by decide) : PE X (.Name x pos) (tC v) :=
  fun _ _ _ H _ I h => ld_glob I hg hm ⟨v, H, I, r, h⟩ hd
theorem pe_bltn {x : Str} {v : V} {u : Value} {pos : Pos} (hg : Gl X x) (hm : X.mg x = none) (hv : bootBuiltins x = some u) (r : RelV v u) (hn : x ≠ "__name__" := by decide) (hd : (x == ("__debug__" : Str)) = false := by decide) : PE X (.Name x pos) (tC v) :=
  fun _ _ _ H _ I h => ld_blt I hg hm hv ⟨v, H, I, r, h⟩ hn hd
variable {a b : Expr} {ta tb : TE} {pos : Pos}
def PC (X : Cx) (op : CmpOp) (a b : Expr) (t : TE) : Prop :=
  ∀ (pins : List (Addr × Obj)) (s : Shared) (σ : St) (H : Hp) (Q : VK), Inv X pins σ H s → t σ H Q →
    wpAny (model X.prog X.w) X.A (eval a X.env) (fun v s₁ => wpAny (model X.prog X.w) X.A (eval b X.env) (fun u s₂ => wpAny (model X.prog X.w) X.A (compareOp op v u) (EP X pins σ Q) X.xe s₂) X.xe s₁) X.xe s
theorem nobehind (b : Expr) {op : CmpOp} (h : op ≠ .In) (h2 : op ≠ .NotIn) : behindInMarks op b = false := by
  have e1 : (op == CmpOp.In) = false := by cases op <;> first | rfl | exact absurd rfl h
  have e2 : (op == CmpOp.NotIn) = false := by cases op <;> first | rfl | exact absurd rfl h2
  cases b <;> simp [behindInMarks, e1, e2]
def tIsN (ta : TE) : TE := fun σ H Q => ta σ H fun x H1 => Q (.bl (decide (x = .non))) H1
theorem RelV.none_iff {x : V} {v : Value} (r : RelV x v) : (v == Value.none) = decide (x = .non) := by
  cases x with
  | non => cases r; rfl
  | bl _ => cases r; rfl
  | int _ => obtain ⟨t, rfl⟩ := r; rfl
  | str _ => obtain ⟨t, rfl⟩ := r; rfl
  | byt _ => obtain ⟨t, rfl⟩ := r; rfl
  | flt _ => obtain ⟨t, rfl⟩ := r; rfl
  | ref _ => cases r; rfl
  | ty _ => cases r; rfl
theorem pc_isN {j pos'} (ha : PE X a ta) : PC X .Is a (.Constant .none j pos') (tIsN ta) := by
  intro pins s σ H Q I h
  refine thn (ha pins s σ H _ I h) fun v s1 ⟨x, H1, I1, r1, q1⟩ => ?_
  exact Constant_none (is_none_gen ⟨.bl _, H1, I1, by rw [r1.none_iff]; rfl, q1⟩)
def tB (t : TE) : TT := fun σ H Q => t σ H fun x H1 => ∃ c, x = .bl c ∧ Q c H1
theorem pt_cmp {op : CmpOp} {t : TE} (h : PC X op a b t) (h1 : behindInMarks op b = false := by first | exact nobehind _ (by decide) (by decide) | rfl) : PT X (.Compare a [op] [b] pos) (tB t) := by
  intro pins s σ H Q I hw
  refine wpAny_isTrue_Compare1 (thn (h pins s σ H _ I hw) fun v s1 h1 => thn h1 fun u s2 h2 => thn h2 fun c s3 ⟨x, H1, I1, r1, q1⟩ => ?_) h1
  obtain ⟨d, rfl, q⟩ := q1
  cases r1
  exact wpAny_truthy_bool ⟨H1, I1, q⟩
theorem pt_val {e : Expr} {t : TE} (h : PE X e t) (he : ∀ whole, isTrue e X.env whole = (do let v ← whole; standAt e.pos; holding [v] (truthy v)) := by intro _; rfl) : PT X e (tB t) := by
  intro pins s σ H Q I hw
  refine isTrue_plain (thn (h pins s σ H _ I hw) fun v s1 ⟨x, H1, I1, r1, q1⟩ => ?_) (he _)
  obtain ⟨d, rfl, q⟩ := q1
  cases r1
  exact wpAny_truthy_bool ⟨H1, I1, q⟩
variable {tA tB' : TT} {rest : List Expr}
def tAnd (t u : TT) : TT := fun σ H Q => t σ H fun c H1 => if c = true then u σ H1 Q else Q false H1
def tOr (t u : TT) : TT := fun σ H Q => t σ H fun c H1 => if c = true then Q true H1 else u σ H1 Q
def tNot (t : TT) : TT := fun σ H Q => t σ H fun c H1 => Q (!c) H1
theorem pw_and1 (ha : PT X a tA) : PW X (.BoolOp .And [a] pos) tA := by
  intro wh pins s σ H Q I h
  refine isTrue_and (thn (ha pins s σ H Q I h) fun c s1 e => ?_)
  cases c with
  | true => exact isTrue_and_nil e
  | false => exact e
theorem pw_or1 (ha : PT X a tA) : PW X (.BoolOp .Or [a] pos) tA := by
  intro wh pins s σ H Q I h
  refine isTrue_or (thn (ha pins s σ H Q I h) fun c s1 e => ?_)
  cases c with
  | false => exact isTrue_or_nil e
  | true => exact e
theorem pw_and (ha : PT X a tA) (hb : PW X (.BoolOp .And (b :: rest) pos) tB') : PW X (.BoolOp .And (a :: b :: rest) pos) (tAnd tA tB') := by
  intro wh pins s σ H Q I h
  refine isTrue_and (thn (ha pins s σ H _ I h) fun c s1 ⟨H1, I1, q1⟩ => ?_)
  cases c with
  | true => exact hb wh pins s1 σ H1 Q I1 q1
  | false => exact ⟨H1, I1, q1⟩
theorem pw_or (ha : PT X a tA) (hb : PW X (.BoolOp .Or (b :: rest) pos) tB') : PW X (.BoolOp .Or (a :: b :: rest) pos) (tOr tA tB') := by
  intro wh pins s σ H Q I h
  refine isTrue_or (thn (ha pins s σ H _ I h) fun c s1 ⟨H1, I1, q1⟩ => ?_)
  cases c with
  | true => exact ⟨H1, I1, q1⟩
  | false => exact hb wh pins s1 σ H1 Q I1 q1
theorem pt_not (ha : PT X a tA) : PT X (.UnaryOp .Not a pos) (tNot tA) := by
  intro pins s σ H Q I h
  exact isTrue_not (ha pins s σ H (fun c H1 => Q (!c) H1) I h)
def tAndV (ta tb : TE) : TE := fun σ H Q => ta σ H fun x H1 => ∃ c, x = .bl c ∧ if c = true then tb σ H1 Q else Q (.bl false) H1
def tNotV (ta : TE) : TE := fun σ H Q => ta σ H fun x H1 => ∃ c, x = .bl c ∧ Q (.bl (!c)) H1
theorem pe_one {op} {t : TE} (h : PE X a t) : PE X (.BoolOp op [a] pos) t := fun pins s σ H Q I hw => BoolOp_one (h pins s σ H Q I hw)
theorem pe_and (ha : PE X a ta) (hb : PE X (.BoolOp .And (b :: rest) pos) tb) : PE X (.BoolOp .And (a :: b :: rest) pos) (tAndV ta tb) := by
  intro pins s σ H Q I h
  refine BoolOp_and (thn (ha pins s σ H _ I h) fun v s1 ⟨x, H1, I1, r1, q1⟩ => ?_)
  obtain ⟨c, rfl, q1⟩ := q1
  cases r1
  refine wpAny_truthy_bool ?_
  cases c with
  | true => exact hb pins s1 σ H1 Q I1 q1
  | false => exact ⟨.bl false, H1, I1, rfl, q1⟩
theorem pe_not (ha : PE X a ta) : PE X (.UnaryOp .Not a pos) (tNotV ta) := by
  intro pins s σ H Q I h
  refine UnaryOp_ (thn (ha pins s σ H _ I h) fun v s1 ⟨x, H1, I1, r1, q1⟩ => ?_)
  obtain ⟨c, rfl, q1⟩ := q1
  cases r1
  exact not_of (wpAny_truthy_bool ⟨.bl (!c), H1, I1, rfl, q1⟩)
def tIf (t : TT) (ta tb : TE) : TE := fun σ H Q => t σ H fun c H1 => if c = true then ta σ H1 Q else tb σ H1 Q
theorem pe_ifExp {c : Expr} (hc : PT X c tA) (ha : PE X a ta) (hb : PE X b tb) : PE X (.IfExp c a b pos) (tIf tA ta tb) := by
  intro pins s σ H Q I h
  refine wpAny_IfExp (thn (hc pins s σ H _ I h) fun d s1 ⟨H1, I1, q1⟩ => ?_)
  cases d with
  | true => exact ha pins s1 σ H1 Q I1 q1
  | false => exact hb pins s1 σ H1 Q I1 q1
end
end L2
namespace L2
open PySem PySem.Spec PyProof.Rows
def SqL (K : PySem.W.Frag) (H : Hp) (a : Addr) (xs : List V) : Prop :=
  Rd H a (.lst xs) ∨
    ∃ (o : Obj) (its : Array Value) (n : Nat), K.lookup a = some o ∧ o.cls = .type "list" ∧ o.dict = none ∧ o.data = .seq its n ∧ its.size ≤ sizeLine ∧ Vals xs its.toList
def SqT (K : PySem.W.Frag) (H : Hp) (a : Addr) (xs : List V) : Prop :=
  Rd H a (.tup xs) ∨
    ∃ (o : Obj) (its : Array Value) (n : Nat), K.lookup a = some o ∧ o.cls = .type "tuple" ∧ o.data = .seq its n ∧ its.size ≤ sizeLine ∧ Vals xs its.toList
def absV : Value → Option V
  | .none => some .non
  | .bool b => some (.bl b)
  | .int i _ => some (.int i)
  | .str x _ => some (.str x)
  | .bytes b _ => some (.byt b)
  | .float b _ => some (.flt b)
  | .ref a => some (.ref a)
  | .type n => some (.ty n)
  | _ => none
theorem RelV.abs {x : V} {u : Value} (r : RelV x u) : absV u = some x := by
  cases x with
  | non => cases r; rfl
  | bl _ => cases r; rfl
  | int _ => obtain ⟨t, rfl⟩ := r; rfl
  | str _ => obtain ⟨t, rfl⟩ := r; rfl
  | byt _ => obtain ⟨t, rfl⟩ := r; rfl
  | flt _ => obtain ⟨t, rfl⟩ := r; rfl
  | ref _ => cases r; rfl
  | ty _ => cases r; rfl
theorem RelV.inj {x y : V} {u : Value} (r : RelV x u) (q : RelV y u) : x = y := Option.some.inj (r.abs.symm.trans q.abs)
theorem Vals.inj : ∀ {xs ys : List V} {us : List Value}, Vals xs us → Vals ys us → xs = ys
  | _, _, _, .nil, .nil => rfl
  | _, _, _, .cons r t, .cons r' t' => by rw [r.inj r', Vals.inj t t']
section
variable {X : Cx} {pins : List (Addr × Obj)} {σ : St} {H : Hp} {s : Shared} {a : Addr} {xs ys : List V}
theorem SqL.of {K : PySem.W.Frag} (h : H a = some (.lst xs)) : SqL K H a xs := .inl (.inl h)
theorem SqT.of {K : PySem.W.Frag} (h : H a = some (.tup xs)) : SqT K H a xs := .inl (.inl h)
theorem Inv.list (I : Inv X pins σ H s) (h : SqL X.K H a xs) : ∃ its : List Value, Vals xs its ∧ PlainL s.heap a its.toArray ∧ xs.length ≤ sizeLine := by
  rcases h with h | ⟨o, its, n, hk, hc, hd, hs, hz, r⟩
  · obtain ⟨z, its, n, r, e⟩ := h.ok I.hok
    exact ⟨its, r, ⟨_, n, e, rfl, rfl, rfl⟩, z⟩
  · refine ⟨its.toList, r, ⟨o, n, I.kIn a o hk, hc, hd, by simpa using hs⟩, ?_⟩
    have e := r.length
    simp only [Array.length_toList] at e
    omega
theorem Inv.tuple (I : Inv X pins σ H s) (h : SqT X.K H a xs) : ∃ its : List Value, Vals xs its ∧ IsTup s.heap a its.toArray ∧ xs.length ≤ sizeLine := by
  rcases h with h | ⟨o, its, n, hk, hc, hs, hz, r⟩
  · obtain ⟨z, its, r, p⟩ := h.ok I.hok
    exact ⟨its, r, p, z⟩
  · refine ⟨its.toList, r, ⟨o, I.kIn a o hk, hc, n, by simpa using hs⟩, ?_⟩
    have e := r.length
    simp only [Array.length_toList] at e
    omega
theorem Inv.list_inj (I : Inv X pins σ H s) (h : SqL X.K H a xs) (h' : SqL X.K H a ys) : xs = ys := by
  obtain ⟨its, r, ⟨o, n, e, _, _, d⟩, _⟩ := I.list h
  obtain ⟨its', r', ⟨o', n', e', _, _, d'⟩, _⟩ := I.list h'
  rw [e] at e'; cases e'
  rw [d] at d'
  injection d' with d1 _
  have : its = its' := by simpa using congrArg Array.toList d1
  subst this
  exact r.inj r'
end
section
variable {X : Cx} {pins : List (Addr × Obj)} {σ : St} {H : Hp} {s : Shared} {E : Value → Shared → Prop}
end
section
variable {X : Cx} {st : Stmt} {rest : List Stmt} {t u : TS} {e : Expr} {te : TE} {pos : Pos}
def tNext : TS := fun D σ H => D.nx σ H
def tSeq (t u : TS) : TS := fun D σ H => t { D with nx := u D } σ H
theorem pss_nil : PSs X [] tNext := fun _ _ σ H _ I h => wpAny_execs_nil ⟨σ, H, I, h⟩
theorem pss_cons (h1 : PS X st t) (h2 : PSs X rest u) : PSs X (st :: rest) (tSeq t u) := by
  intro pins s σ H D I h
  refine wpAny_execs_cons (thn (h1 pins s σ H { D with nx := u D } I h) fun f s1 q => ?_)
  cases f with
  | next =>
    obtain ⟨σ', H', I', q⟩ := q
    exact h2 pins s1 σ' H' D I' q
  | ret v => exact q
  | brk => exact q
  | cont => exact q
theorem pss_one (h1 : PS X st t) : PSs X [st] t := by
  intro pins s σ H D I h
  refine wpAny_execs_cons (thn (h1 pins s σ H D I h) fun f s1 q => ?_)
  cases f with
  | next => exact wpAny_execs_nil q
  | ret v => exact q
  | brk => exact q
  | cont => exact q
theorem Inv.quiet {pins : List (Addr × Obj)} {σ : St} {H : Hp} {s : Shared} (I : Inv X pins σ H s) : interactive X.env = false := by simp [interactive, I.ok.kind]
def tDrop (te : TE) : TS := fun D σ H => te σ H fun _ H1 => D.nx σ H1
theorem ps_expr (he : PE X e te) (hs : swapsWith e none pos.line X.env = pure false := by rfl) : PS X (.Expr e pos) (tDrop te) := by
  intro pins s σ H D I h
  exact wpAny_Expr_any (thn (he pins s σ H _ I h) fun v s1 ⟨x, H1, I1, r1, q1⟩ => ⟨σ, H1, I1, q1⟩) I.quiet hs
def tRet (te : TE) : TS := fun D σ H => te σ H D.rt
theorem ps_ret (he : PE X e te) : PS X (.Return (some e) pos) (tRet te) := by
  intro pins s σ H D I h
  exact wpAny_Return_some (thn (he pins s σ H _ I h) fun v s1 ⟨x, H1, I1, r1, q1⟩ => ⟨x, σ, H1, I1, r1, q1⟩)
def tIfS (c : TT) (t u : TS) : TS := fun D σ H => c σ H fun b H1 => if b = true then t D σ H1 else u D σ H1
theorem ps_if {c : Expr} {a b : List Stmt} {tc : TT} (hc : PT X c tc) (ha : PSs X a t) (hb : PSs X b u) : PS X (.If c a b pos) (tIfS tc t u) := by
  intro pins s σ H D I h
  refine wpAny_If (thn (hc pins s σ H _ I h) fun d s1 ⟨H1, I1, q1⟩ => ?_)
  cases d with
  | true => exact ha pins s1 σ H1 D I1 q1
  | false => exact hb pins s1 σ H1 D I1 q1
def tNever : TS := fun _ _ _ => False
theorem pss_never {sts : List Stmt} : PSs X sts tNever := fun _ _ _ _ _ _ h => h.elim
end
abbrev TG := V → St → Hp → (St → Hp → Prop) → Prop
abbrev TGs := List V → St → Hp → (St → Hp → Prop) → Prop
def PG (X : Cx) (target : Expr) (t : TG) : Prop :=
  ∀ (pins : List (Addr × Obj)) (s : Shared) (σ : St) (H : Hp) (v : V) (u : Value) (Q : St → Hp → Prop), Inv X pins σ H s → RelV v u → t v σ H Q →
    wpAny (model X.prog X.w) X.A (assign target X.env u) (fun _ s' => ∃ σ' H', Inv X pins σ' H' s' ∧ Q σ' H') X.xe s
def PGs (X : Cx) (ts : List Expr) (t : TGs) : Prop :=
  ∀ (pins : List (Addr × Obj)) (s : Shared) (σ : St) (H : Hp) (vs : List V) (us : List Value) (Q : St → Hp → Prop), Inv X pins σ H s → Vals vs us → t vs σ H Q →
    wpAny (model X.prog X.w) X.A (assignInOrder ((assignEach ts X.env).map (·.2)) us) (fun _ s' => ∃ σ' H', Inv X pins σ' H' s' ∧ Q σ' H') X.xe s
section
variable {X : Cx} {pos : Pos}
def gName (i : Nat) : TG := fun v σ H Q => Q (σ.set i (some v)) H
theorem pg_name {i : Nat} {x : Str} (hN : X.N.Nodup) (hi : X.N[i]? = some x) (hx : Loc X.env.scope x) (hf : X.fn x = true ∨ X.env.scope.names.lookup x = some .local := by first | exact .inl rfl | exact .inr rfl | assumption) : PG X (.Name x pos) (gName i) := by
  intro pins s σ H v u Q I r h
  exact wpAny_assign_Name (store_ok I hN hi hx r (fun s' I' => ⟨_, H, I', h⟩) hf)
def gNil : TGs := fun vs σ H Q => vs = [] ∧ Q σ H
def gCons (t : TG) (u : TGs) : TGs := fun vs σ H Q => ∃ v r, vs = v :: r ∧ t v σ H fun σ' H' => u r σ' H' Q
theorem pgs_nil : PGs X [] gNil := by
  intro pins s σ H vs us Q I r h
  obtain ⟨e, h⟩ := h
  subst e
  cases r
  exact assignInOrder_nil ⟨σ, H, I, h⟩
theorem pgs_cons {e : Expr} {es : List Expr} {t : TG} {u : TGs} (h1 : PG X e t) (h2 : PGs X es u) (hs : (assignEach (e :: es) X.env).map (·.2) = assign e X.env :: (assignEach es X.env).map (·.2) := by rfl) : PGs X (e :: es) (gCons t u) := by
  intro pins s σ H vs us Q I r h
  obtain ⟨v, vr, e1, h⟩ := h
  subst e1
  cases r with
  | cons r rr =>
    rw [hs]
    refine assignInOrder_cons (thn (h1 pins s σ H _ _ _ I r h) fun _ s1 ⟨σ1, H1, I1, q1⟩ => ?_)
    exact h2 pins s1 σ1 H1 _ _ Q I1 rr q1
def gTup (K : PySem.W.Frag) (n : Nat) (t : TGs) : TG := fun v σ H Q => ∃ a xs, v = .ref a ∧ SqT K H a xs ∧ xs.length = n ∧ t xs σ H Q
theorem pg_tup {es : List Expr} {k : Nat} {t : TGs} {n : Nat} (hc : X.calm = true) (h : PGs X es t) (hn : (assignEach es X.env).length = n := by rfl) (hst : (assignEach es X.env).findIdx? (·.1) = none := by rfl) : PG X (.Tuple es k pos) (gTup X.K n t) := by
  intro pins s σ H v u Q I r hw
  obtain ⟨a, xs, e1, hq, hl, hw⟩ := hw
  subst e1
  cases r
  obtain ⟨its, rv, ht, hz⟩ := I.tuple hq
  refine assign_Tuple_tuple (I.ok.hd hc) ht (by simp [hn, ← hl, rv.length]) hst fun h' hx => ?_
  have I1 : Inv X pins σ H { s with heap := h' } := I.kept (t' := s.toks) fun b o e => hx b o (Nat.ne_of_lt (Heap.lt_size e)) e
  exact h pins _ σ H xs _ Q I1 (by simpa using rv) hw
def tAsg (te : TE) (g : TG) : TS := fun D σ H => te σ H fun x H1 => g x σ H1 D.nx
theorem ps_asg {tg e : Expr} {te : TE} {g : TG} (he : PE X e te) (hg : PG X tg g) (hs : swapsWithSole [tg] e pos.line X.env = pure false := by rfl) (hw : swappedStores [tg] e X.env = pure none := by rfl) (h1 : (assignEach [tg] X.env).map (·.2) = [assign tg X.env] := by rfl) : PS X (.Assign [tg] e pos) (tAsg te g) := by
  intro pins s σ H D I h
  refine wpAny_Assign_stores (thn (he pins s σ H _ I h) fun v s1 ⟨x, H1, I1, r1, q1⟩ => ?_) hs hw
  rw [h1]
  exact thn (hg pins s1 σ H1 x v _ I1 r1 q1) fun _ s2 q => q
theorem ps_set {i : Nat} {x : Str} {e : Expr} {te : TE} {pos' : Pos} (hN : X.N.Nodup) (hi : X.N[i]? = some x) (hx : Loc X.env.scope x) (he : PE X e te) (hs : swapsWith e (some (.Name x pos')) pos.line X.env = pure false := by rfl) (hf : X.fn x = true ∨ X.env.scope.names.lookup x = some .local := by first | exact .inl rfl | exact .inr rfl | assumption) : PS X (.Assign [.Name x pos'] e pos) (tAsg te (gName i)) := by
  intro pins s σ H D I h
  refine wpAny_Assign_Name (thn (he pins s σ H _ I h) fun v s1 ⟨y, H1, I1, r1, q1⟩ => ?_) hs
  exact store_ok I1 hN hi hx r1 (fun s2 I2 => ⟨_, H1, I2, q1⟩) hf
end
section
variable {X : Cx} {pos : Pos}
def tWhile (c : TT) (tb : TS) : TS := fun D σ H => ∃ W : Nat → St → Hp → Prop, (∃ m, W m σ H) ∧ ∀ m σ H, W m σ H →
  c σ H fun b H1 => if b = true then ∃ N : St → Hp → Prop, (∀ σ' H', N σ' H' → ∃ m', m' < m ∧ W m' σ' H') ∧ tb { D with nx := N, ct := N, bk := D.nx } σ H1 else D.nx σ H1
theorem ps_while {c : Expr} {body : List Stmt} {tc : TT} {tb : TS} (hp : PassesOwn (model X.prog X.w) X.A X.env X.xe) (hc : PT X c tc) (hb : PSs X body tb) : PS X (.While c body [] pos) (tWhile tc tb) := by
  intro pins s σ H D I h
  obtain ⟨W, ⟨m0, w0⟩, turn⟩ := h
  refine wpAny_While (codeAny_whileLoop (fun n s' => ∃ σ' H', Inv X pins σ' H' s' ∧ W n σ' H') ?_ m0 ⟨σ, H, I, w0⟩)
  rintro n s1 ⟨σ1, H1, I1, w1⟩
  refine wpAny_passesOwn hp (thn (hc pins s1 σ1 H1 _ I1 (turn n σ1 H1 w1)) fun b s2 ⟨H2, I2, q2⟩ => ?_)
  cases b with
  | true =>
    obtain ⟨N, hN, q2⟩ := q2
    rw [if_pos rfl]
    refine wpAny_passesOwn hp (thn (hb pins s2 σ1 H2 _ I2 q2) fun f s3 q3 => ?_)
    cases f with
    | next =>
      obtain ⟨σ3, H3, I3, n3⟩ := q3
      obtain ⟨m', hm, w3⟩ := hN σ3 H3 n3
      exact ⟨m', hm, σ3, H3, I3, w3⟩
    | cont =>
      obtain ⟨σ3, H3, I3, n3⟩ := q3
      obtain ⟨m', hm, w3⟩ := hN σ3 H3 n3
      exact ⟨m', hm, σ3, H3, I3, w3⟩
    | brk => exact q3
    | ret v => exact q3
  | false =>
    rw [if_neg Bool.false_ne_true]
    exact wpAny_execs_nil ⟨σ1, H2, I2, q2⟩
end
structure It where
  go : Nat → Hp → Prop
  yld : Nat → Hp → V → Hp → Prop
  stop : Nat → Hp → Prop
def FpOk (X : Cx) (pins : List (Addr × Obj)) (H : Hp) (b : Addr) : Prop :=
  H b = none ∧ b ≠ X.env.locals ∧ b ∉ X.fs ∧ (b ∈ X.ex ∨ X.s₀.heap.objs.size ≤ b) ∧ (∀ x c, X.env.cells.lookup x = some c → c ≠ b) ∧ ∀ p ∈ X.pn ++ pins, p.1 ≠ b
theorem Inv.fpOk {X : Cx} {pins : List (Addr × Obj)} {σ : St} {H H' : Hp} {s : Shared} {b : Addr} (I : Inv X pins σ H s) (hb : s.heap.objs.size ≤ b) (hn : H' b = none) : FpOk X pins H' b := by
  refine ⟨hn, Nat.ne_of_gt (Nat.lt_of_lt_of_le I.lt hb), I.nofs hb, .inr (Nat.le_trans I.sz hb), fun x c e z => ?_, fun p hp z => ?_⟩
  · obtain ⟨v, q⟩ := I.cell x c e
    exact absurd (Nat.lt_of_lt_of_le q.lt (by rw [z]; exact hb)) (Nat.lt_irrefl _)
  · exact absurd (Nat.lt_of_lt_of_le (Heap.lt_size (I.pin p hp).1) (by rw [z]; exact hb)) (Nat.lt_irrefl _)
structure Turn (P : Program) (w : World) (K : PySem.W.Frag) (tg : Expr) (J : It) (fp : List Addr) (it : Addr) (tn : Nat → Heap → Prop) : Prop where
  mem : it ∈ fp
  obj : ∀ i h, tn i h → ∀ b ∈ fp, ∃ o, h.get? b = some o ∧ ∀ v, o.data ≠ .cell v
  keep : ∀ i h h', tn i h → (∀ b ∈ fp, ∀ o, h.get? b = some o → h'.get? b = some o) → tn i h'
  item : ∀ (X : Cx), X.prog = P → X.w = w → X.K = K → X.calm = true → ∀ (i : Nat) (pins : List (Addr × Obj)) (s : Shared) (σ : St) (H : Hp) (E : Value → Shared → Prop), Inv X pins σ H s → (∀ b ∈ fp, FpOk X pins H b) → tn i s.heap → J.go i H →
    wpAny (model P w) X.A (pyNext (.ref it)) (fun r s1 => ∃ u, r = some u ∧
      wpAny (model P w) X.A (letOwnedTupleGo tg (.ref it) u) (fun _ s2 => ∃ x H', Inv X pins σ H' s2 ∧ RelV x u ∧ J.yld i H x H' ∧ tn (i + 1) s2.heap ∧ ∀ b ∈ fp, H' b = none) E s1) E s
  done : ∀ (X : Cx), X.prog = P → X.w = w → X.K = K → X.calm = true → ∀ (i : Nat) (pins : List (Addr × Obj)) (s : Shared) (σ : St) (H : Hp) (E : Value → Shared → Prop), Inv X pins σ H s → (∀ b ∈ fp, FpOk X pins H b) → tn i s.heap → J.stop i H →
    wpAny (model P w) X.A (pyNext (.ref it)) (fun r s1 => r = none ∧ Inv X pins σ H s1) E s
  self : ∀ (A : Around) (i : Nat) (s : Shared) (Q : Value → Shared → Prop) (E : Value → Shared → Prop), tn i s.heap → Q (.ref it) s → wpAny (model P w) A (pyIter (.ref it)) Q E s
abbrev TI := St → Hp → (It → Hp → Prop) → Prop
def PIE (X : Cx) (pins : List (Addr × Obj)) (σ : St) (tg : Expr) (R : It → Hp → Prop) (itv : Value) (s2 : Shared) : Prop :=
  ∃ (it : Addr) (fp : List Addr) (tn : Nat → Heap → Prop) (J : It) (H' : Hp), itv = .ref it ∧ Inv X pins σ H' s2 ∧ Turn X.prog X.w X.K tg J fp it tn ∧ tn 0 s2.heap ∧ (∀ b ∈ fp, FpOk X pins H' b) ∧ R J H'
def PI (X : Cx) (tg iter : Expr) (wi : TI) : Prop :=
  ∀ (pins : List (Addr × Obj)) (s : Shared) (σ : St) (H : Hp) (R : It → Hp → Prop), Inv X pins σ H s → wi σ H R →
    wpAny (model X.prog X.w) X.A (eval iter X.env) (fun v s1 => wpAny (model X.prog X.w) X.A (pyIter v) (PIE X pins σ tg R) X.xe s1) X.xe s
theorem go_of {M : Model} {A : Around} {E : Value → Shared → Prop} {s : Shared} {tg : Expr} {it : Addr} {u : Value} {o : Obj} {n : String} {vs : Array Value} {Q : Unit → Shared → Prop} (ho : s.heap.get? it = some o) (hc : o.cls = .type n) (hd : o.data = .fields vs) (hn : ["enumerate", "zip", "dict_itemiterator", "dict_reverseitemiterator", "odict_iterator", "itertools.zip_longest", "itertools.pairwise"].contains n = false) (hQ : Q () s) : wpAny M A (letOwnedTupleGo tg (.ref it) u) Q E s := by
  unfold letOwnedTupleGo
  cases tg <;> first
    | exact wpAny_pure hQ
    | (cases u <;> first
        | exact wpAny_pure hQ
        | (refine wpAny_bind (wpAny_load ho ?_)
           rw [hc, hd]
           show wpAny M A (if (["enumerate", "zip", "dict_itemiterator", "dict_reverseitemiterator", "odict_iterator", "itertools.zip_longest", "itertools.pairwise"].contains n && vs[0]? == some (rawInt _)) = true then _ else _) Q E s
           rw [if_neg (by intro h; rw [hn, Bool.false_and] at h; cases h)]
           exact wpAny_pure hQ))
def Itl (K : PySem.W.Frag) (a : Addr) : It :=
  ⟨fun i H => ∃ xs x, SqL K H a xs ∧ xs[i]? = some x, fun i H x H' => H' = H ∧ ∀ xs, SqL K H a xs → xs[i]? = some x, fun i H => ∃ xs, SqL K H a xs ∧ xs.length ≤ i⟩
def Itr (lo : Int) (n : Nat) : It := ⟨fun i _ => i < n, fun i H x H' => H' = H ∧ x = .int (lo + i), fun i _ => n ≤ i⟩
theorem turn_list {P : Program} {w : World} {K : PySem.W.Frag} {tg : Expr} (a it : Addr) : Turn P w K tg (Itl K a) [it] it (fun i h => h.IsListIter it a i) where
  mem := by simp
  obj := fun i h st b hb => by
    have e : b = it := by simpa using hb
    subst e
    obtain ⟨o, e, c, d⟩ := st
    exact ⟨o, e, fun v z => by rw [d] at z; cases z⟩
  keep := fun i h h' st k => st.at fun o e => k it (by simp) o e
  item := by
    intro X hP hw hK hc i pins s σ H E I hf st hg
    subst hP hw hK
    obtain ⟨xs, x, hq, hx⟩ := hg
    obtain ⟨its, rv, p, hz⟩ := I.list hq
    obtain ⟨u, hu, ru⟩ := rv.get hx
    obtain ⟨f0, f1, f2, f3, f4, f5⟩ := hf it (by simp)
    refine wpAny_pyNext_list_item st p.isList (x := u) (by simpa using hu) fun h' st' sb => ?_
    have I1 : Inv X pins σ H { s with heap := h' } := I.turned (t' := s.toks) (fun b o hb e => (sb.2 b hb).trans e) f0 f1 f3 f4 f5
    obtain ⟨o, e, c, d⟩ := id st'
    exact ⟨u, rfl, go_of (s := { s with heap := h' }) e c d (by decide) ⟨x, H, I1, ru, ⟨rfl, fun ys hy => by rw [I.list_inj hy hq]; exact hx⟩, st', fun b hb => (hf b hb).1⟩⟩
  done := by
    intro X hP hw hK hc i pins s σ H E I hf st hg
    subst hP hw hK
    obtain ⟨xs, hq, hx⟩ := hg
    obtain ⟨its, rv, p, hz⟩ := I.list hq
    obtain ⟨f0, f1, f2, f3, f4, f5⟩ := hf it (by simp)
    have hl := rv.length
    exact wpAny_pyNext_list_end (I.ok.hd hc) st p.isList (by simp; omega) fun h' eb => ⟨rfl, I.turned (t' := s.toks) (fun b o hb e => eb b o hb e) f0 f1 f3 f4 f5⟩
  self := fun _ _ _ _ _ st h => wpAny_pyIter_listiter st h
theorem turn_range {P : Program} {w : World} {K : PySem.W.Frag} {tg : Expr} (it : Addr) (lo : Int) (n : Nat) : Turn P w K tg (Itr lo n) [it] it (fun i h => IsRangeIter h it (lo + (i : Nat) * 1) ((n : Int) - (i : Nat)) 1) where
  mem := by simp
  obj := fun i h st b hb => by
    have e : b = it := by simpa using hb
    subst e
    exact ⟨_, st, fun v z => by
      have z' : Data.fields _ = Data.cell v := z
      cases z'⟩
  keep := fun i h h' st k => k it (by simp) _ st
  item := by
    intro X hP hw hK hc i pins s σ H E I hf st hg
    subst hP hw hK
    obtain ⟨f0, f1, f2, f3, f4, f5⟩ := hf it (by simp)
    have W := Walks.range (prog := X.prog) (w := X.w) (I.ok.hd hc) it lo 1 n
    refine W.item i s _ _ hg st fun v h' tk hv st' kk => ?_
    obtain ⟨t, rfl⟩ := hv
    have I1 : Inv X pins σ H { s with heap := h', toks := tk } := I.turned (fun b o hb e => kk b o (by simpa using hb) e) f0 f1 f3 f4 f5
    refine ⟨_, rfl, go_of (s := { s with heap := h', toks := tk }) (n := "range_iterator") st' rfl rfl (by decide) ⟨.int (lo + i), H, I1, ⟨t, ?_⟩, ⟨rfl, rfl⟩, st', fun b hb => (hf b hb).1⟩⟩
    rw [Int.mul_one]
  done := by
    intro X hP hw hK hc i pins s σ H E I hf st hg
    subst hP hw hK
    obtain ⟨f0, f1, f2, f3, f4, f5⟩ := hf it (by simp)
    exact wpAny_pyNext_range_end (I.ok.hd hc) st (by have : n ≤ i := hg; omega) fun h' eb => ⟨rfl, I.turned (t' := s.toks) (fun b o hb e => eb b o hb e) f0 f1 f3 f4 f5⟩
  self := fun _ _ _ _ _ st h => wpAny_pyIter_rangeiter st h
end L2
namespace L2
open PySem PySem.Spec PyProof.Rows
section
variable {X : Cx} {tg : Expr}
def iList (K : PySem.W.Frag) (tl : TE) : TI := fun σ H R => tl σ H fun x H1 => ∃ a, x = .ref a ∧ (∃ xs, SqL K H1 a xs) ∧ R (Itl K a) H1
theorem pi_list {l : Expr} {tl : TE} (hl : PE X l tl) : PI X tg l (iList X.K tl) := by
  intro pins s σ H R I h
  refine thn (hl pins s σ H _ I h) fun v s1 ⟨x, H1, I1, r1, q1⟩ => ?_
  obtain ⟨a, e, ⟨xs, hq⟩, q⟩ := q1
  subst e
  cases r1
  obtain ⟨its, rv, p, hz⟩ := I1.list hq
  refine wpAny_pyIter_list p.isList ?_
  refine ⟨s1.heap.objs.size, [s1.heap.objs.size], _, _, H1, rfl, I1.kept (t' := s1.toks) fun b o e => Heap.get?_push_of_some _ e, turn_list a _, ⟨_, Heap.get?_push_size _ rfl, rfl, rfl⟩, fun b hb => ?_, q⟩
  have e : b = s1.heap.objs.size := by simpa using hb
  subst e
  exact I1.fpOk (Nat.le_refl _) (I1.hok.fresh (Nat.le_refl _))
theorem range_it {pins : List (Addr × Obj)} {σ : St} {H : Hp} {s : Shared} {R : It → Hp → Prop} {E : Value → Shared → Prop} {lo hi : Int} {t u v : Tok} {tk : Nat} (I : Inv X pins σ H s) (h1 : -(2 ^ 62) ≤ lo) (h2 : lo < 2 ^ 62) (h3 : -(2 ^ 62) ≤ hi) (h4 : hi < 2 ^ 62) (q : R (Itr lo (hi - lo).toNat) H) : wpAny (model X.prog X.w) X.A (pyIter (.ref s.heap.objs.size)) (PIE X pins σ tg R) E { s with heap := s.heap.push { cls := .type "range", data := .fields #[.int lo t, .int hi u, .int 1 v] }, toks := tk } := by
  refine wpAny_pyIter_range (IsRange.new ..) (small_one h1 h2 h3 h4) ?_
  have I1 : Inv X pins σ H { s with heap := s.heap.push { cls := .type "range", data := .fields #[.int lo t, .int hi u, .int 1 v] }, toks := tk } := I.kept fun b o e => Heap.get?_push_of_some _ e
  refine ⟨(s.heap.push { cls := .type "range", data := .fields #[.int lo t, .int hi u, .int 1 v] }).objs.size, [(s.heap.push { cls := .type "range", data := .fields #[.int lo t, .int hi u, .int 1 v] }).objs.size], _, _, H, rfl,
    I1.kept (t' := tk) fun b o e => Heap.get?_push_of_some _ e, turn_range _ lo (hi - lo).toNat, ?_, fun b hb => ?_, q⟩
  · have e1 : lo + ((0 : Nat) : Int) * 1 = lo := by simp
    have e2 : (((hi - lo).toNat : Nat) : Int) - ((0 : Nat) : Int) = Builtin.Range.rangeSize lo hi 1 := by rw [rangeSize_one]; split <;> omega
    show IsRangeIter _ _ (lo + ((0 : Nat) : Int) * 1) ((((hi - lo).toNat : Nat) : Int) - ((0 : Nat) : Int)) 1
    rw [e1, e2]
    exact Heap.get?_push_size _ rfl
  · have e : b = (s.heap.push { cls := .type "range", data := .fields #[.int lo t, .int hi u, .int 1 v] }).objs.size := by simpa using hb
    subst e
    exact I1.fpOk (Nat.le_refl _) (I1.hok.fresh (Nat.le_refl _))
def iRng1 (ta : TA) : TI := fun σ H R => ta σ H fun vs H1 => ∃ j : Int, vs = [.int j] ∧ -(2 ^ 62) ≤ j ∧ j < 2 ^ 62 ∧ R (Itr 0 j.toNat) H1
def iRng2 (ta : TA) : TI := fun σ H R => ta σ H fun vs H1 => ∃ i j : Int, vs = [.int i, .int j] ∧ (-(2 ^ 62) ≤ i ∧ i < 2 ^ 62 ∧ -(2 ^ 62) ≤ j ∧ j < 2 ^ 62) ∧ R (Itr i (j - i).toNat) H1
theorem pi_range1 {a : Expr} {ta : TA} {p pos : Pos} (hg : Gl X "range") (hm : X.mg "range" = none) (ha : PA X [a] ta) (hs : starEach [a] X.env = [(false, eval a X.env)] := by rfl) : PI X tg (.Call (.Name "range" p) [a] [] pos) (iRng1 ta) := by
  intro pins s σ H R I h
  refine Call_ (ld_blt I hg hm boot_range (PyProof.Rows.callWith_type1 (thn (ha pos pins s σ H _ I h) fun us s1 ⟨vs, H1, I1, r1, q1⟩ => ?_) hs rfl))
  obtain ⟨j, e, q1, q2, q⟩ := q1
  subst e
  cases r1 with
  | cons r rr =>
    cases rr
    obtain ⟨t, rfl⟩ := r
    exact call_range_1 (range_it I1 (by omega) (by omega) q1 q2 (by simpa using q))
theorem pi_range2 {a b : Expr} {ta : TA} {p pos : Pos} (hg : Gl X "range") (hm : X.mg "range" = none) (ha : PA X [a, b] ta) (hs : starEach [a, b] X.env = [(false, eval a X.env), (false, eval b X.env)] := by rfl) (hs2 : starEach [b] X.env = [(false, eval b X.env)] := by rfl) : PI X tg (.Call (.Name "range" p) [a, b] [] pos) (iRng2 ta) := by
  intro pins s σ H R I h
  refine Call_ (ld_blt I hg hm boot_range (PyProof.Rows.callWith_type1 (thn (ha pos pins s σ H _ I h) fun us s1 ⟨vs, H1, I1, r1, q1⟩ => ?_) (by rw [hs, hs2]) (by rw [hs2]; rfl)))
  obtain ⟨i, j, e, ⟨q1, q2, q3, q4⟩, q⟩ := q1
  subst e
  cases r1 with
  | cons r rr =>
    cases rr with
    | cons r' rr =>
      cases rr
      obtain ⟨t, rfl⟩ := r
      obtain ⟨t', rfl⟩ := r'
      exact call_range_2 (range_it I1 q1 q2 q3 q4 q)
def tFor (wi : TI) (g : TG) (tb : TS) : TS := fun D σ H => wi σ H fun J H1 => ∃ W : Nat → Nat → St → Hp → Prop, (∃ m, W 0 m σ H1) ∧ ∀ i m σ H, W i m σ H →
  (J.stop i H ∧ D.nx σ H) ∨ (J.go i H ∧ ∃ N : St → Hp → Prop, (∀ σ' H', N σ' H' → ∃ m', m' < m ∧ W (i + 1) m' σ' H') ∧ ∀ x H', J.yld i H x H' → g x σ H' fun σ2 H2 => tb { D with nx := N, ct := N, bk := D.nx } σ2 H2)
def pinsAt (fp : List Addr) (h : Heap) : List (Addr × Obj) := fp.filterMap fun b => (h.get? b).map fun o => (b, o)
theorem mem_pinsAt {fp : List Addr} {h : Heap} {b : Addr} {o : Obj} (hb : b ∈ fp) (e : h.get? b = some o) : (b, o) ∈ pinsAt fp h := List.mem_filterMap.mpr ⟨b, hb, by rw [e]; rfl⟩
theorem of_pinsAt {fp : List Addr} {h : Heap} {p : Addr × Obj} (hp : p ∈ pinsAt fp h) : p.1 ∈ fp ∧ h.get? p.1 = some p.2 := by
  obtain ⟨b, hb, e⟩ := List.mem_filterMap.mp hp
  cases q : h.get? b with
  | none => rw [q] at e; cases e
  | some o =>
    rw [q] at e
    have e' : (b, o) = p := Option.some.inj e
    subst e'
    exact ⟨hb, q⟩
theorem Inv.pinned {pins : List (Addr × Obj)} {σ : St} {H : Hp} {s : Shared} {fp : List Addr} (I : Inv X pins σ H s) (hf : ∀ b ∈ fp, FpOk X pins H b) (ho : ∀ b ∈ fp, ∃ o, s.heap.get? b = some o ∧ ∀ v, o.data ≠ .cell v) : Inv X (pins ++ pinsAt fp s.heap) σ H s :=
  I.pins_of fun p hp => (List.mem_append.mp hp).elim (fun z => I.pin p (List.mem_append_right _ z)) fun z => by
    obtain ⟨hb, e⟩ := of_pinsAt z
    obtain ⟨f0, f1, f2, _⟩ := hf p.1 hb
    obtain ⟨o, e', d⟩ := ho p.1 hb
    rw [e] at e'; cases e'
    exact ⟨e, f0, f1, f2, d⟩
theorem Inv.unpinned {pins pl : List (Addr × Obj)} {σ : St} {H : Hp} {s : Shared} (I : Inv X (pins ++ pl) σ H s) : Inv X pins σ H s := I.pins_of fun p hp => I.pin p (List.mem_append_right _ (List.mem_append_left _ hp))
theorem ps_for {iter : Expr} {body : List Stmt} {wi : TI} {g : TG} {tb : TS} {pos : Pos} (hp : PassesOwn (model X.prog X.w) X.A X.env X.xe) (hc : X.calm = true) (hi : PI X tg iter wi) (hg : PG X tg g) (hb : PSs X body tb) (hs : ∀ x, foldedSetIterable iter X.env x = pure x := by intro _; rfl) : PS X (.For tg iter body [] pos) (tFor wi g tb) := by
  intro pins s σ H D I h
  refine wpAny_For (thn (hi pins s σ H _ I h) fun v s1 h1 => thn h1 fun itv s2 h2 => ?_) hs
  obtain ⟨it, fp, tn, J, H2, e, I2, T, st2, f2, W, ⟨m0, w0⟩, turn⟩ := h2
  subst e
  have stat : ∀ {H' : Hp}, (∀ b ∈ fp, H' b = none) → ∀ b ∈ fp, FpOk X pins H' b := fun hn b hb => ⟨hn b hb, (f2 b hb).2⟩
  refine codeAny_forLoop_any (fun n s' => ∃ i σ' H', Inv X pins σ' H' s' ∧ tn i s'.heap ∧ (∀ b ∈ fp, H' b = none) ∧ W i n σ' H') ?_ m0 ⟨0, σ, H2, I2, st2, fun b hb => (f2 b hb).1, w0⟩
  rintro n s3 ⟨i, σ3, H3, I3, st3, fr3, w3⟩
  rcases turn i n σ3 H3 w3 with ⟨stop, qn⟩ | ⟨go, N, hN, step⟩
  · refine wpAny_passesOwn hp (thn (T.done X rfl rfl rfl hc i pins s3 σ3 H3 X.xe I3 (stat fr3) st3 stop) fun r s4 ⟨hr, I4⟩ => ?_)
    subst hr
    exact wpAny_execs_nil ⟨σ3, H3, I4, qn⟩
  · refine wpAny_passesOwn hp (thn (T.item X rfl rfl rfl hc i pins s3 σ3 H3 X.xe I3 (stat fr3) st3 go) fun r s4 ⟨u, hr, h4⟩ => ?_)
    subst hr
    refine wpAny_passesOwn hp (thn h4 fun _ s5 ⟨x, H5, I5, r5, y5, st5, fr5⟩ => ?_)
    have I5' := I5.pinned (stat fr5) (T.obj _ _ st5)
    refine wpAny_passesOwn hp (thn (hg _ s5 σ3 H5 x u _ I5' r5 (step x H5 y5)) fun _ s6 ⟨σ6, H6, I6, q6⟩ => ?_)
    refine wpAny_passesOwn hp (thn (hb _ s6 σ6 H6 _ I6 q6) fun f s7 q7 => ?_)
    have again : ∀ {σ7 : St} {H7 : Hp}, Inv X (pins ++ pinsAt fp s5.heap) σ7 H7 s7 → N σ7 H7 → ∃ m, m < n ∧ ∃ i σ' H', Inv X pins σ' H' s7 ∧ tn i s7.heap ∧ (∀ b ∈ fp, H' b = none) ∧ W i m σ' H' := fun {σ7 H7} I7 n7 => by
      obtain ⟨m', hm, w7⟩ := hN σ7 H7 n7
      refine ⟨m', hm, i + 1, σ7, H7, I7.unpinned, T.keep _ _ _ st5 fun b hb o e => (I7.pin (b, o) (List.mem_append_right _ (List.mem_append_right _ (mem_pinsAt hb e)))).1, fun b hb => ?_, w7⟩
      obtain ⟨o, e, d⟩ := T.obj _ _ st5 b hb
      exact (I7.pin (b, o) (List.mem_append_right _ (List.mem_append_right _ (mem_pinsAt hb e)))).2.1
    cases f with
    | next => obtain ⟨σ7, H7, I7, n7⟩ := q7; exact again I7 n7
    | cont => obtain ⟨σ7, H7, I7, n7⟩ := q7; exact again I7 n7
    | brk => obtain ⟨σ7, H7, I7, q7⟩ := q7; exact ⟨σ7, H7, I7.unpinned, q7⟩
    | ret v => obtain ⟨x7, σ7, H7, I7, r7, q7⟩ := q7; exact ⟨x7, σ7, H7, I7.unpinned, r7, q7⟩
end
theorem for_list {K : PySem.W.Frag} {a : Addr} {xs : List V} {g : TG} {tb : TS} {D : Ends} {σ : St} {H : Hp} (Pv : Nat → St → Hp → Prop) (h0 : Pv 0 σ H) (hl : ∀ i σ H, i ≤ xs.length → Pv i σ H → SqL K H a xs) (hs : ∀ i x σ H, xs[i]? = some x → Pv i σ H → g x σ H fun σ2 H2 => tb { D with nx := Pv (i + 1), ct := Pv (i + 1), bk := D.nx } σ2 H2) (hd : ∀ σ H, Pv xs.length σ H → D.nx σ H) : ∃ W : Nat → Nat → St → Hp → Prop, (∃ m, W 0 m σ H) ∧ ∀ i m σ H, W i m σ H → ((Itl K a).stop i H ∧ D.nx σ H) ∨ ((Itl K a).go i H ∧ ∃ N : St → Hp → Prop, (∀ σ' H', N σ' H' → ∃ m', m' < m ∧ W (i + 1) m' σ' H') ∧ ∀ x H', (Itl K a).yld i H x H' → g x σ H' fun σ2 H2 => tb { D with nx := N, ct := N, bk := D.nx } σ2 H2) := by
  refine ⟨fun i m σ H => m = xs.length - i ∧ i ≤ xs.length ∧ Pv i σ H, ⟨xs.length, by simp, Nat.zero_le _, h0⟩, ?_⟩
  rintro i m σ H ⟨rfl, hi, p⟩
  have q := hl i σ H hi p
  by_cases hlt : i < xs.length
  · refine .inr ⟨⟨xs, xs[i], q, by simp [hlt]⟩, Pv (i + 1), fun σ' H' p' => ⟨xs.length - (i + 1), by omega, rfl, hlt, p'⟩, fun x H' y => ?_⟩
    obtain ⟨e, y⟩ := y
    subst e
    exact hs i x σ _ (y xs q) p
  · have e : i = xs.length := by omega
    subst e
    exact .inl ⟨⟨xs, q, Nat.le_refl _⟩, hd σ H p⟩
theorem for_range {lo : Int} {n : Nat} {g : TG} {tb : TS} {D : Ends} {σ : St} {H : Hp} (Pv : Nat → St → Hp → Prop) (h0 : Pv 0 σ H) (hs : ∀ i σ H, i < n → Pv i σ H → g (.int (lo + i)) σ H fun σ2 H2 => tb { D with nx := Pv (i + 1), ct := Pv (i + 1), bk := D.nx } σ2 H2) (hd : ∀ σ H, Pv n σ H → D.nx σ H) : ∃ W : Nat → Nat → St → Hp → Prop, (∃ m, W 0 m σ H) ∧ ∀ i m σ H, W i m σ H → ((Itr lo n).stop i H ∧ D.nx σ H) ∨ ((Itr lo n).go i H ∧ ∃ N : St → Hp → Prop, (∀ σ' H', N σ' H' → ∃ m', m' < m ∧ W (i + 1) m' σ' H') ∧ ∀ x H', (Itr lo n).yld i H x H' → g x σ H' fun σ2 H2 => tb { D with nx := N, ct := N, bk := D.nx } σ2 H2) := by
  refine ⟨fun i m σ H => m = n - i ∧ i ≤ n ∧ Pv i σ H, ⟨n, by simp, Nat.zero_le _, h0⟩, ?_⟩
  rintro i m σ H ⟨rfl, hi, p⟩
  by_cases hlt : i < n
  · refine .inr ⟨hlt, Pv (i + 1), fun σ' H' p' => ⟨n - (i + 1), by omega, rfl, hlt, p'⟩, fun x H' y => ?_⟩
    obtain ⟨e, y⟩ := y
    subst e y
    exact hs i σ _ hlt p
  · have e : i = n := by omega
    subst e
    exact .inl ⟨Nat.le_refl _, hd σ H p⟩
end L2
namespace L2
open PySem PySem.Spec PyProof.Rows
abbrev R2 := V → V → Hp → VK → Prop
def OpR (X : Cx) (f : Value → Value → Sem Value) (r : R2) : Prop :=
  ∀ (pins : List (Addr × Obj)) (s : Shared) (σ : St) (H : Hp) (x y : V) (v u : Value) (Q : VK), Inv X pins σ H s → RelV x v → RelV y u → r x y H Q →
    wpAny (model X.prog X.w) X.A (f v u) (EP X pins σ Q) X.xe s
def UnR (X : Cx) (f : Value → Sem Value) (r : V → Hp → VK → Prop) : Prop :=
  ∀ (pins : List (Addr × Obj)) (s : Shared) (σ : St) (H : Hp) (x : V) (v : Value) (Q : VK), Inv X pins σ H s → RelV x v → r x H Q →
    wpAny (model X.prog X.w) X.A (f v) (EP X pins σ Q) X.xe s
def CallR (X : Cx) (f : Value) (r : List V → Hp → VK → Prop) : Prop :=
  ∀ (pins : List (Addr × Obj)) (s : Shared) (σ : St) (H : Hp) (xs : List V) (us : List Value) (Q : VK), Inv X pins σ H s → Vals xs us → r xs H Q →
    wpAny (model X.prog X.w) X.A (call f us) (EP X pins σ Q) X.xe s
def tOp (r : R2) (ta tb : TE) : TE := fun σ H Q => ta σ H fun x H1 => tb σ H1 fun y H2 => r x y H2 Q
def tUn (r : V → Hp → VK → Prop) (ta : TE) : TE := fun σ H Q => ta σ H fun x H1 => r x H1 Q
def rI (C : Int → Int → Prop) (g : Int → Int → V) : R2 := fun x y H Q => ∃ i j, x = .int i ∧ y = .int j ∧ C i j ∧ Q (g i j) H
def rI0 (g : Int → Int → V) : R2 := fun x y H Q => ∃ i j, x = .int i ∧ y = .int j ∧ Q (g i j) H
def rU (g : Int → V) : V → Hp → VK → Prop := fun x H Q => ∃ i, x = .int i ∧ Q (g i) H
section
variable {X : Cx} {a b c : Expr} {ta tb tc : TE} {pos : Pos}
theorem binT (ha : PE X a ta) (hb : PE X b tb) {pins : List (Addr × Obj)} {s : Shared} {σ : St} {H : Hp} {R : V → V → Hp → Prop} (I : Inv X pins σ H s) (h : ta σ H fun x H1 => tb σ H1 fun y H2 => R x y H2) {Q : Value → Shared → Prop} {f : Value → Value → Sem Value} (hf : ∀ v u s2 x y H2, Inv X pins σ H2 s2 → RelV x v → RelV y u → R x y H2 → wpAny (model X.prog X.w) X.A (f v u) Q X.xe s2) : wpAny (model X.prog X.w) X.A (eval a X.env) (fun v s₁ => wpAny (model X.prog X.w) X.A (eval b X.env) (fun u s₂ => wpAny (model X.prog X.w) X.A (f v u) Q X.xe s₂) X.xe s₁) X.xe s := by
  refine thn (ha pins s σ H _ I h) fun v s1 ⟨x, H1, I1, r1, q1⟩ => ?_
  refine thn (hb pins s1 σ H1 _ I1 q1) fun u s2 ⟨y, H2, I2, r2, q2⟩ => ?_
  exact hf v u s2 x y H2 I2 r1 r2 q2
theorem pe_op {op : Operator} {r : R2} (ho : OpR X (binaryOp op) r) (ha : PE X a ta) (hb : PE X b tb) : PE X (.BinOp a op b pos) (tOp r ta tb) := by
  intro pins s σ H Q I h
  exact wpAny_BinOp (binT ha hb I h fun v u s2 x y H2 I2 rx ry q => ho pins s2 σ H2 x y v u Q I2 rx ry q)
theorem pe_un {op : UnaryOp} {r : V → Hp → VK → Prop} (ho : UnR X (unaryOp op) r) (ha : PE X a ta) : PE X (.UnaryOp op a pos) (tUn r ta) := by
  intro pins s σ H Q I h
  exact UnaryOp_ (thn (ha pins s σ H _ I h) fun v s1 ⟨x, H1, I1, r1, q1⟩ => ho pins s1 σ H1 x v Q I1 r1 q1)
theorem opI {f : Value → Value → Sem Value} {C : Int → Int → Prop} {g : Int → Int → Int} (rule : ∀ (i j : Int) (t u : Tok) (s : Shared) (Q : Value → Shared → Prop) (E : Value → Shared → Prop), C i j → Q (.int (g i j) s.toks) { s with toks := s.toks + 1 } → wpAny (model X.prog X.w) X.A (f (.int i t) (.int j u)) Q E s) : OpR X f (rI C fun i j => .int (g i j)) := by
  intro pins s σ H x y v u Q I rx ry h
  obtain ⟨i, j, rfl, rfl, hc, q⟩ := h
  obtain ⟨t, rfl⟩ := rx
  obtain ⟨t', rfl⟩ := ry
  exact rule i j t t' s _ _ hc ⟨.int (g i j), H, I.tok _, ⟨_, rfl⟩, q⟩
theorem opI0 {f : Value → Value → Sem Value} {g : Int → Int → Int} (rule : ∀ (i j : Int) (t u : Tok) (s : Shared) (Q : Value → Shared → Prop) (E : Value → Shared → Prop), Q (.int (g i j) s.toks) { s with toks := s.toks + 1 } → wpAny (model X.prog X.w) X.A (f (.int i t) (.int j u)) Q E s) : OpR X f (rI0 fun i j => .int (g i j)) := by
  intro pins s σ H x y v u Q I rx ry h
  obtain ⟨i, j, rfl, rfl, q⟩ := h
  obtain ⟨t, rfl⟩ := rx
  obtain ⟨t', rfl⟩ := ry
  exact rule i j t t' s _ _ ⟨.int (g i j), H, I.tok _, ⟨_, rfl⟩, q⟩
theorem opB0 {f : Value → Value → Sem Value} {g : Int → Int → Bool} (rule : ∀ (i j : Int) (t u : Tok) (s : Shared) (Q : Value → Shared → Prop) (E : Value → Shared → Prop), Q (.bool (g i j)) s → wpAny (model X.prog X.w) X.A (f (.int i t) (.int j u)) Q E s) : OpR X f (rI0 fun i j => .bl (g i j)) := by
  intro pins s σ H x y v u Q I rx ry h
  obtain ⟨i, j, rfl, rfl, q⟩ := h
  obtain ⟨t, rfl⟩ := rx
  obtain ⟨t', rfl⟩ := ry
  exact rule i j t t' s _ _ ⟨.bl (g i j), H, I, rfl, q⟩
def CPow (i j : Int) : Prop := 0 ≤ j ∧ j ≤ 1000000 ∧ i.natAbs < 2 ^ 64
def CMul (i j : Int) : Prop := (-(2 ^ 64) < i ∧ i < 2 ^ 64) ∨ (-(2 ^ 64) < j ∧ j < 2 ^ 64)
theorem CMul.ok {i j : Int} (h : CMul i j) : IntMulOk i j := by
  rcases h with ⟨h1, h2⟩ | ⟨h1, h2⟩
  · exact .of_left (intBits_le_64 h1 h2)
  · exact .of_right (intBits_le_64 h1 h2)
theorem op_add : OpR X (binaryOp .Add) (rI0 fun i j => .int (i + j)) := opI0 fun _ _ _ _ _ _ _ q => add_int q
theorem op_sub : OpR X (binaryOp .Sub) (rI0 fun i j => .int (i - j)) := opI0 fun _ _ _ _ _ _ _ q => sub_int q
theorem op_mod : OpR X (binaryOp .Mod) (rI (fun _ j => 0 < j) fun i j => .int (i % j)) := opI fun i j _ _ _ _ _ hc q => by
  have h1 : (0 : Int) < j := hc
  exact mod_int' (by omega) (by rw [Int.fmod_eq_emod_of_nonneg i (by omega)]; exact q)
theorem op_pow : OpR X (binaryOp .Pow) (rI CPow fun i j => .int (i ^ j.toNat)) := opI fun _ _ _ _ _ _ _ hc q => pow_int_small hc.1 hc.2.1 hc.2.2 q
theorem unI {f : Value → Sem Value} {g : Int → Int} (rule : ∀ (i : Int) (t : Tok) (s : Shared) (Q : Value → Shared → Prop) (E : Value → Shared → Prop), Q (.int (g i) s.toks) { s with toks := s.toks + 1 } → wpAny (model X.prog X.w) X.A (f (.int i t)) Q E s) : UnR X f (rU fun i => .int (g i)) := by
  intro pins s σ H x v Q I rx h
  obtain ⟨i, rfl, q⟩ := h
  obtain ⟨t, rfl⟩ := rx
  exact rule i t s _ _ ⟨.int (g i), H, I.tok _, ⟨_, rfl⟩, q⟩
theorem un_neg : UnR X (unaryOp .USub) (rU fun i => .int (-i)) := unI fun _ _ _ _ _ q => neg_int q
end
def scal : V → V → Bool
  | .non, .non => true | .non, .int _ => true | .int _, .non => true | .non, .bl _ => true | .bl _, .non => true | .non, .str _ => true | .str _, .non => true
  | .int _, .int _ => true | .bl _, .bl _ => true | .str _, .str _ => true | .byt _, .byt _ => true
  | .int _, .str _ => true | .str _, .int _ => true | .bl _, .str _ => true | .str _, .bl _ => true
  | _, _ => false
def rEq : R2 := fun x y H Q => scal x y = true ∧ Q (.bl (decide (x = y))) H
def rNe : R2 := fun x y H Q => scal x y = true ∧ Q (.bl (!decide (x = y))) H
theorem dec_int {i j : Int} : decide (V.int i = V.int j) = (i == j) := by
  rw [Bool.eq_iff_iff]
  simp
theorem dec_bl {i j : Bool} : decide (V.bl i = V.bl j) = (i == j) := by
  rw [Bool.eq_iff_iff]
  simp
theorem dec_str {i j : Str} : decide (V.str i = V.str j) = (i == j) := by
  rw [Bool.eq_iff_iff]
  simp
theorem dec_byt {i j : Array UInt8} : decide (V.byt i = V.byt j) = (i.toList == j.toList) := by
  rw [Bool.eq_iff_iff]
  cases i
  cases j
  simp
section
variable {X : Cx} {a b c : Expr} {ta tb tc : TE} {pos : Pos}
theorem fin_bl {pins : List (Addr × Obj)} {σ : St} {H : Hp} {s : Shared} {Q : VK} {k k' : Bool} (I : Inv X pins σ H s) (q : Q (.bl k) H) (e : k = k') : EP X pins σ Q (.bool k') s := by
  subst e
  exact ⟨.bl k, H, I, rfl, q⟩
theorem op_eq : OpR X (compareOp .Eq) rEq := by
  intro pins s σ H x y v u Q I rx ry h
  obtain ⟨hs, q⟩ := h
  cases x with
  | non =>
    cases rx
    cases y with
    | non => cases ry; exact PySem.EqNone.eq_none_none (fin_bl I q (by simp))
    | bl j => cases ry; exact PySem.EqNone.eq_none_bool (fin_bl I q (by simp))
    | int j => obtain ⟨t', rfl⟩ := ry; exact PySem.EqNone.eq_none_int (fin_bl I q (by simp))
    | str j => obtain ⟨t', rfl⟩ := ry; exact PySem.EqNone.eq_none_str (fin_bl I q (by simp))
    | _ => exact absurd (show false = true from hs) Bool.false_ne_true
  | bl i =>
    cases rx
    cases y with
    | non => cases ry; exact PySem.EqNone.eq_bool_none (fin_bl I q (by simp))
    | bl j => cases ry; exact eq_bool (fin_bl I q dec_bl)
    | str j => obtain ⟨t', rfl⟩ := ry; exact PySem.EqMixed.eq_bool_str (fin_bl I q (by simp))
    | _ => exact absurd (show false = true from hs) Bool.false_ne_true
  | int i =>
    obtain ⟨t, rfl⟩ := rx
    cases y with
    | non => cases ry; exact PySem.EqNone.eq_int_none (fin_bl I q (by simp))
    | int j => obtain ⟨t', rfl⟩ := ry; exact eq_int (fin_bl I q dec_int)
    | str j => obtain ⟨t', rfl⟩ := ry; exact PySem.EqMixed.eq_int_str (fin_bl I q (by simp))
    | _ => exact absurd (show false = true from hs) Bool.false_ne_true
  | str i =>
    obtain ⟨t, rfl⟩ := rx
    cases y with
    | non => cases ry; exact PySem.EqNone.eq_str_none (fin_bl I q (by simp))
    | bl j => cases ry; exact PySem.EqMixed.eq_str_bool (fin_bl I q (by simp))
    | int j => obtain ⟨t', rfl⟩ := ry; exact PySem.EqMixed.eq_str_int (fin_bl I q (by simp))
    | str j => obtain ⟨t', rfl⟩ := ry; exact eq_str (fin_bl I q dec_str)
    | _ => exact absurd (show false = true from hs) Bool.false_ne_true
  | byt i =>
    obtain ⟨t, rfl⟩ := rx
    cases y with
    | byt j => obtain ⟨t', rfl⟩ := ry; exact PySem.W.eq_bytes (fin_bl I q dec_byt)
    | _ => exact absurd (show false = true from hs) Bool.false_ne_true
  | _ => cases y <;> exact absurd (show false = true from hs) Bool.false_ne_true
theorem op_ne : OpR X (compareOp .NotEq) rNe := by
  intro pins s σ H x y v u Q I rx ry h
  obtain ⟨hs, q⟩ := h
  cases x with
  | non =>
    cases rx
    cases y with
    | non => cases ry; exact PySem.EqNone.ne_none_none (fin_bl I q (by simp))
    | bl j => cases ry; exact PySem.EqNone.ne_none_bool (fin_bl I q (by simp))
    | int j => obtain ⟨t', rfl⟩ := ry; exact PySem.EqNone.ne_none_int (fin_bl I q (by simp))
    | str j => obtain ⟨t', rfl⟩ := ry; exact PySem.EqNone.ne_none_str (fin_bl I q (by simp))
    | _ => exact absurd (show false = true from hs) Bool.false_ne_true
  | bl i =>
    cases rx
    cases y with
    | non => cases ry; exact PySem.EqNone.ne_bool_none (fin_bl I q (by simp))
    | bl j => cases ry; exact ne_bool (fin_bl I q (congrArg not dec_bl))
    | str j => obtain ⟨t', rfl⟩ := ry; exact PySem.EqMixed.ne_bool_str (fin_bl I q (by simp))
    | _ => exact absurd (show false = true from hs) Bool.false_ne_true
  | int i =>
    obtain ⟨t, rfl⟩ := rx
    cases y with
    | non => cases ry; exact PySem.EqNone.ne_int_none (fin_bl I q (by simp))
    | int j => obtain ⟨t', rfl⟩ := ry; exact ne_int (fin_bl I q (congrArg not dec_int))
    | str j => obtain ⟨t', rfl⟩ := ry; exact PySem.EqMixed.ne_int_str (fin_bl I q (by simp))
    | _ => exact absurd (show false = true from hs) Bool.false_ne_true
  | str i =>
    obtain ⟨t, rfl⟩ := rx
    cases y with
    | non => cases ry; exact PySem.EqNone.ne_str_none (fin_bl I q (by simp))
    | bl j => cases ry; exact PySem.EqMixed.ne_str_bool (fin_bl I q (by simp))
    | int j => obtain ⟨t', rfl⟩ := ry; exact PySem.EqMixed.ne_str_int (fin_bl I q (by simp))
    | str j => obtain ⟨t', rfl⟩ := ry; exact ne_str (fin_bl I q (congrArg not dec_str))
    | _ => exact absurd (show false = true from hs) Bool.false_ne_true
  | byt i =>
    obtain ⟨t, rfl⟩ := rx
    cases y with
    | byt j => obtain ⟨t', rfl⟩ := ry; exact PySem.W.ne_bytes (fin_bl I q (congrArg not dec_byt))
    | _ => exact absurd (show false = true from hs) Bool.false_ne_true
  | _ => cases y <;> exact absurd (show false = true from hs) Bool.false_ne_true
theorem op_lt : OpR X (compareOp .Lt) (rI0 fun i j => .bl (decide (i < j))) := opB0 fun _ _ _ _ _ _ _ q => lt_int q
theorem op_le : OpR X (compareOp .LtE) (rI0 fun i j => .bl (decide (i ≤ j))) := opB0 fun _ _ _ _ _ _ _ q => le_int q
theorem op_gt : OpR X (compareOp .Gt) (rI0 fun i j => .bl (decide (j < i))) := opB0 fun _ _ _ _ _ _ _ q => gt_int q
theorem op_ge : OpR X (compareOp .GtE) (rI0 fun i j => .bl (decide (j ≤ i))) := opB0 fun _ _ _ _ _ _ _ q => ge_int q
theorem nomark (b : Expr) {op : CmpOp} (h : op ≠ .In := by decide) (h2 : op ≠ .NotIn := by decide) : behindInMarks op b = false := by
  have e1 : (op == CmpOp.In) = false := by cases op <;> first | rfl | exact absurd rfl h
  have e2 : (op == CmpOp.NotIn) = false := by cases op <;> first | rfl | exact absurd rfl h2
  cases b <;> simp [behindInMarks, e1, e2]
theorem pe_cmpR {op : CmpOp} {r : R2} (ho : OpR X (compareOp op) r) (ha : PE X a ta) (hb : PE X b tb) (hm : behindInMarks op b = false) : PE X (.Compare a [op] [b] pos) (tOp r ta tb) := by
  intro pins s σ H Q I h
  exact wpAny_Compare1 (binT ha hb I h fun v u s2 x y H2 I2 rx ry q => ho pins s2 σ H2 x y v u Q I2 rx ry q) hm
def tTest (t : TE) : TT := fun σ H Q => t σ H fun x H' => ∃ k, x = .bl k ∧ Q k H'
theorem pt_cmpR {op : CmpOp} {r : R2} (ho : OpR X (compareOp op) r) (ha : PE X a ta) (hb : PE X b tb) (hm : behindInMarks op b = false) : PT X (.Compare a [op] [b] pos) (tTest (tOp r ta tb)) := by
  intro pins s σ H Q I h
  refine wpAny_isTrue_Compare1 (thn (ha pins s σ H _ I h) fun v s1 ⟨x, H1, I1, r1, q1⟩ => thn (hb pins s1 σ H1 _ I1 q1) fun u s2 ⟨y, H2, I2, r2, q2⟩ =>
    thn (ho pins s2 σ H2 x y v u _ I2 r1 r2 q2) fun c s3 ⟨z, H3, I3, r3, k, e, q3⟩ => ?_) hm
  subst e
  cases r3
  exact wpAny_truthy_bool ⟨H3, I3, q3⟩
def tChain (r r' : R2) (ta tb tc : TE) : TE := fun σ H Q => ta σ H fun x H1 => tb σ H1 fun y H2 => r x y H2 fun z H3 => ∃ k, z = .bl k ∧
  (if k = true then tc σ H3 fun w' H4 => r' y w' H4 Q else Q (.bl false) H3)
theorem pe_chain {op op' : CmpOp} {r r' : R2} (ho : OpR X (compareOp op) r) (ho' : OpR X (compareOp op') r') (ha : PE X a ta) (hb : PE X b tb) (hc : PE X c tc) (hm : lastMarks [op, op'] [b, c] = false := by with_unfolding_all rfl) : PE X (.Compare a [op, op'] [b, c] pos) (tChain r r' ta tb tc) := by
  intro pins s σ H Q I h
  refine Compare_chain (thn (ha pins s σ H _ I h) fun v s1 ⟨x, H1, I1, r1, q1⟩ => chain_link (thn (hb pins s1 σ H1 _ I1 q1) fun u s2 ⟨y, H2, I2, r2, q2⟩ =>
    thn (ho pins s2 σ H2 x y v u _ I2 r1 r2 q2) fun d s3 ⟨z, H3, I3, r3, k, e, q3⟩ => ?_)) hm
  subst e
  cases r3
  refine wpAny_truthy_bool ?_
  cases k with
  | false => exact ite_ff ⟨.bl false, H3, I3, rfl, q3⟩
  | true => exact ite_tt (chain_last (thn (hc pins s3 σ H3 _ I3 q3) fun w' s4 ⟨z', H4, I4, r4, q4⟩ => ho' pins s4 σ H4 y z' u w' Q I4 r2 r4 q4))
theorem line63 : (sizeLine : Nat) < 2 ^ 63 := by rw [sizeLine_eq]; decide
theorem op_add_str : OpR X (binaryOp .Add) (fun x y H Q => ∃ i j, x = .str i ∧ y = .str j ∧ i.length + j.length ≤ sizeLine ∧ Q (.str (i ++ j)) H) := by
  intro pins s σ H x y v u Q I rx ry h
  obtain ⟨i, j, rfl, rfl, hz, q⟩ := h
  obtain ⟨t, rfl⟩ := rx
  obtain ⟨t', rfl⟩ := ry
  exact add_str (fun t' tk => ⟨.str (i ++ j), H, I.tok _, ⟨_, rfl⟩, q⟩) hz
theorem vals1 {x : V} {us : List Value} (r : Vals [x] us) : ∃ u, us = [u] ∧ RelV x u := by
  cases r with
  | cons r1 r2 => cases r2; exact ⟨_, rfl, r1⟩
end
end L2
namespace L2
open PySem PySem.Spec PyProof.Rows
structure ObjM (h : Heap) (x dx C : Addr) (mA : Str → Option Value) : Prop where
  obj : h.get? x = some (PySem.W.instObj C dx)
  ns : h.Ns1 dx mA
  ne : dx ≠ x
theorem lookIn_ns {h : Heap} {dx : Addr} {mA : Str → Option Value} (n : h.Ns1 dx mA) : ∃ od, h.get? dx = some od ∧ ∀ name, PySem.W.lookIn name od = some (mA name) := by
  obtain ⟨o, es, ep, ho, hd, hk, _, hm⟩ := n
  refine ⟨o, ho, fun name => ?_⟩
  have e := hm name
  unfold nsFind findBy at e
  rw [← Array.find?_toList] at e
  unfold PySem.W.lookIn
  rw [hd]
  dsimp only
  split
  · rename_i y q
    rw [q] at e
    exact congrArg some e
  · rename_i q
    rw [q] at e
    have a : es.toList.any (·.refKey) = false := by
      rw [List.any_eq_false]
      intro y hy
      obtain ⟨z, t, hkey⟩ := hk y (Array.mem_toList_iff.mp hy)
      simp [DictEntry.refKey, hkey]
    have a' : ¬ es.toList.any (·.refKey) = true := by rw [a]; exact Bool.false_ne_true
    rw [if_neg a']
    exact congrArg some e
theorem ObjM.look {h : Heap} {x dx C : Addr} {mA : Str → Option Value} (I : ObjM h x dx C mA) : ∃ od, PySem.W.InstAt h x (PySem.W.instObj C dx) C (some od) ∧ ∀ name, PySem.W.lookIn name od = some (mA name) :=
  let ⟨od, ho, hl⟩ := lookIn_ns I.ns
  ⟨od, ⟨I.obj, rfl, rfl, ho⟩, hl⟩
section
variable {prog : Program} {w : World} {A : Around} {E : Value → Shared → Prop} {s : Shared} {K : PySem.W.Frag} {x dx C f : Addr} {mA : Str → Option Value} {name : Str} {v : Value}
theorem get_map {expr : Bool} {Q : Value → Shared → Prop} (X : K.In s.heap) (I : ObjM s.heap x dx C mA) (hg : PySem.W.plainGet K C name = true) (hh : PySem.W.hasDictIn K C = true) (ha : PySem.W.findIn K (.ref C) name = some none) (hv : mA name = some v) (hv' : PySem.W.handedIn v = true) (h : Q v { s with toks := s.toks + 1 }) : wpAny (model prog w) A (getAttr (.ref x) name expr) Q E s := by
  obtain ⟨od, J, hl⟩ := I.look
  exact PySem.W.get_value X J (PySem.W.plainGet_of hg).1 (PySem.W.findObj_own hh ha rfl (by rw [hl, hv])) hv' h
theorem get_meth {pl : Sem Bool} {Q : Value × List Value → Shared → Prop} (X : K.In s.heap) (I : ObjM s.heap x dx C mA) (hg : PySem.W.plainGet K C name = true) (hf : PySem.W.findIn K (.ref C) name = some (some (.ref f))) (ht : PySem.W.isFn K (.ref f) = true) (hv : mA name = none) (h : Q (.ref f, [.ref x]) s) : wpAny (model prog w) A (getMethod (.ref x) name pl) Q E s := by
  obtain ⟨od, J, hl⟩ := I.look
  exact PySem.W.method_fn X J (PySem.W.plainGet_of hg).1 (PySem.W.plainGet_of hg).2 hf (beq_iff_eq.mp ht) (by show (PySem.W.lookIn name od).map (·.isSome) = some false; rw [hl, hv]; rfl) h
theorem set_map {ns : List Str} {Q : Unit → Shared → Prop} (X : K.In s.heap) (I : ObjM s.heap x dx C mA)
    (hs : PySem.W.findIn K (.ref C) "__setattr__" = some (some (.builtin "object.__setattr__"))) (hp : PySem.W.plainOver K C = true) (ht : PySem.W.takerIn K C name = some none) (hh : PySem.W.hasDictIn K C = true)
    (hw : PySem.Within mA ns) (hsz : ns.length ≤ sizeLine)
    (h : ∀ h', ObjM h' x dx C (fun y => if y = name then some v else mA y) → Heap.SameBut dx s.heap h' → Q () { s with heap := h', toks := s.toks + 2 }) :
    wpAny (model prog w) A (setAttr (.ref x) name v) Q E s := by
  obtain ⟨od, J, hl⟩ := I.look
  refine PySem.W.set_plain X J hs (PySem.W.osa_open (s := { s with toks := s.toks + 1 }) (r := none) X J hp ht fun b => ?_)
  obtain ⟨cd, hc, hd'⟩ := PySem.W.any_some hh
  have hx : s.heap.get? x = some ⟨.ref C, some dx, .plain, #[]⟩ := I.obj
  refine wpAny_bind (wpAny_pure (wpAny_bind (wpAny_bind (wpAny_loadPart hx (wpAny_bind (PySem.W.Looks.here (s := { s with toks := s.toks + 1 }) (PySem.W.looks_clsIn X hc) ?_))))))
  rw [hd']
  refine wpAny_pure (a := some dx) (wpAny_bind (wpAny_pure (wpAny_bind ?_)))
  refine wpAny_nsSet1 (s := { s with toks := s.toks + 1 }) I.ns fun h' hn2 hs2 => ?_
  obtain ⟨oD, esD, epD, hoD, hdD, hcD⟩ := hn2.count (PySem.Within.cons name v hw)
  refine wpAny_bind (wpAny_lookBehind hoD (by rw [hdD]; exact pastItsLine_dict (Nat.le_trans hcD (by rw [List.length_cons]; omega))) ?_)
  exact wpAny_pure (h _ ⟨(hs2.2 _ (Ne.symm I.ne)).trans I.obj, hn2, I.ne⟩ hs2)
theorem make_map {R : Result → Shared → Prop} {vs : List Value} {kw : List (Str × Value)} (X : K.In s.heap) (hm : PySem.W.makesIn K C = true) (hi : PySem.W.findIn K (.ref C) "__init__" = some (some (.ref f))) (hf : PySem.W.typeIn K (.ref f) = some (.type "function")) (h : codeAny (model prog w) (A.under (.builtin "type.__call__" ⟨.ref C :: vs, kw⟩)) (.call (.ref f) ⟨.ref (s.heap.objs.size + 1) :: vs, kw⟩) (PySem.W.InitBack (s.heap.objs.size + 1) R) { s with heap := (s.heap.push PySem.W.emptyDict).push (PySem.W.instObj C s.heap.objs.size) }) : codeAny (model prog w) A (.call (.ref C) ⟨vs, kw⟩) R s := by
  obtain ⟨hh, g, d, t, os⟩ := s
  exact PySem.W.make_core (PySem.W.makes_of X hm) (PySem.W.looks_findIn X hi) (fun self => PySem.W.bind_fn X self hf) (.inl rfl) h
theorem make_map0 {R : Result → Shared → Prop} (X : K.In s.heap) (hm : PySem.W.makesIn K C = true) (hi : PySem.W.findIn K (.ref C) "__init__" = some (some (.builtin "object.__init__"))) (hb : ∀ self, PySem.W.Looks (model prog w) s.heap (bindSpecial (.builtin "object.__init__") self) (.builtin "object.__init__", [self])) (h : codeAny (model prog w) (A.under (.builtin "type.__call__" ⟨[.ref C], []⟩)) (.call (.builtin "object.__init__") ⟨[.ref (s.heap.objs.size + 1)], []⟩) (PySem.W.InitBack (s.heap.objs.size + 1) R) { s with heap := (s.heap.push PySem.W.emptyDict).push (PySem.W.instObj C s.heap.objs.size) }) : codeAny (model prog w) A (.call (.ref C) ⟨[], []⟩) R s := by
  obtain ⟨hh, g, d, t, os⟩ := s
  exact PySem.W.make_core (PySem.W.makes_of X hm) (PySem.W.looks_findIn X hi) hb (.inr ⟨rfl, rfl⟩) h
end
def putF (f : Str) (v : V) : List (Str × V) → List (Str × V)
  | [] => [(f, v)]
  | (g, x) :: r => if g = f then (g, v) :: r else (g, x) :: putF f v r
theorem lookup_putF (f g : Str) (v : V) : ∀ fs : List (Str × V), (putF f v fs).lookup g = if g = f then some v else fs.lookup g
  | [] => by
    show List.lookup g [(f, v)] = _
    by_cases h : g = f
    · have hb : (g == f) = true := beq_iff_eq.mpr h
      simp only [List.lookup, hb, if_pos h]
    · have hb : (g == f) = false := beq_eq_false_iff_ne.mpr h
      simp only [List.lookup, hb, if_neg h]
  | (k, x) :: r => by
    have ih := lookup_putF f g v r
    rw [show putF f v ((k, x) :: r) = (if k = f then (k, v) :: r else (k, x) :: putF f v r) from rfl]
    by_cases hk : k = f
    · rw [if_pos hk]
      by_cases h : g = k
      · have hb : (g == k) = true := beq_iff_eq.mpr h
        simp only [List.lookup, hb, if_pos (h.trans hk)]
      · have hb : (g == k) = false := beq_eq_false_iff_ne.mpr h
        simp only [List.lookup, hb, if_neg (fun e : g = f => h (e.trans hk.symm))]
    · rw [if_neg hk]
      by_cases h : g = k
      · have hb : (g == k) = true := beq_iff_eq.mpr h
        simp only [List.lookup, hb, if_neg (fun e : g = f => hk (h.symm.trans e))]
      · have hb : (g == k) = false := beq_eq_false_iff_ne.mpr h
        simp only [List.lookup, hb]
        exact ih
theorem keys_putF (f : Str) (v : V) : ∀ fs : List (Str × V), f ∈ (putF f v fs).map (·.1) ∧ ∀ g, g ∈ fs.map (·.1) → g ∈ (putF f v fs).map (·.1)
  | [] => ⟨by simp [putF], fun g h => by simp at h⟩
  | (k, x) :: r => by
    obtain ⟨i1, i2⟩ := keys_putF f v r
    rw [show putF f v ((k, x) :: r) = (if k = f then (k, v) :: r else (k, x) :: putF f v r) from rfl]
    by_cases hk : k = f
    · rw [if_pos hk]
      subst hk
      exact ⟨by simp, fun g h => by simpa using h⟩
    · rw [if_neg hk]
      refine ⟨?_, fun g h => ?_⟩
      · rw [List.map_cons]
        exact List.mem_cons_of_mem _ i1
      · rw [List.map_cons] at h ⊢
        rcases List.mem_cons.mp h with e | e
        · exact List.mem_cons.mpr (.inl e)
        · exact List.mem_cons_of_mem _ (i2 g e)
theorem length_putF (f : Str) (v : V) : ∀ fs : List (Str × V), (putF f v fs).length ≤ fs.length + 1
  | [] => by simp [putF]
  | (k, x) :: r => by
    have ih := length_putF f v r
    rw [show putF f v ((k, x) :: r) = (if k = f then (k, v) :: r else (k, x) :: putF f v r) from rfl]
    by_cases hk : k = f
    · rw [if_pos hk, List.length_cons, List.length_cons]; omega
    · rw [if_neg hk, List.length_cons, List.length_cons]; omega
theorem RelO.some_of {v : V} {o : Option Value} (r : RelO (some v) o) : ∃ u, o = some u ∧ RelV v u := by
  cases o with
  | none => exact (show False from r).elim
  | some u => exact ⟨u, rfl, r⟩
theorem RelO.none_of {o : Option Value} (r : RelO none o) : o = none := by
  cases o with
  | none => rfl
  | some u => exact (show False from r).elim
theorem handed_of {v : V} {u : Value} (r : RelV v u) : PySem.W.handedIn u = true := by
  cases v with
  | non => cases (show u = Value.none from r); rfl
  | bl b => cases (show u = Value.bool b from r); rfl
  | int i => obtain ⟨t, e⟩ := (show ∃ t, u = Value.int i t from r); cases e; rfl
  | str x => obtain ⟨t, e⟩ := (show ∃ t, u = Value.str x t from r); cases e; rfl
  | byt b => obtain ⟨t, e⟩ := (show ∃ t, u = Value.bytes b t from r); cases e; rfl
  | flt b => obtain ⟨t, e⟩ := (show ∃ t, u = Value.float b t from r); cases e; rfl
  | ref a => cases (show u = Value.ref a from r); rfl
  | ty n => cases (show u = Value.type n from r); rfl
section
variable {P : Program} {w : World} {H H' : Hp} {h h' : Heap} {a C dx : Addr} {fs fs' : List (Str × V)}
theorem ins_get (hok : HOk P w H h) (e : H a = some (.ins C dx fs)) : ∃ mA, ObjM h a dx C mA ∧ (∀ f, RelO (fs.lookup f) (mA f)) ∧ PySem.Within mA (fs.map (·.1)) ∧ fs.length ≤ 1000 ∧ H dx = some (.own a) := by
  obtain ⟨d, z, ne, ob, mA, n, r, q⟩ := (show ObjOk P w H h a (.ins C dx fs) from hok a _ e)
  exact ⟨mA, ⟨ob, n, ne⟩, r, q, z, d⟩
end
structure Cls (K : PySem.W.Frag) (C : Addr) : Prop where
  pg : PySem.W.plainGet K C Str.empty = true
  hd : PySem.W.hasDictIn K C = true
  po : PySem.W.plainOver K C = true
  sa : PySem.W.findIn K (.ref C) "__setattr__" = some (some (.builtin "object.__setattr__"))
theorem Cls.get {K : PySem.W.Frag} {C : Addr} (c : Cls K C) (f : Str) : PySem.W.plainGet K C f = true := c.pg
def NoAttr (K : PySem.W.Frag) (C : Addr) (f : Str) : Prop := PySem.W.findIn K (.ref C) f = some none
theorem NoAttr.taker {K : PySem.W.Frag} {C : Addr} {f : Str} (n : NoAttr K C f) : PySem.W.takerIn K C f = some none := by
  unfold PySem.W.takerIn
  rw [show PySem.W.findIn K (.ref C) f = some none from n]
  rfl
structure Con (K : PySem.W.Frag) (C : Addr) (f : Str) (v : V) (u : Value) : Prop where
  at_ : PySem.W.findIn K (.ref C) f = some (some u)
  rel : RelV v u
  get : PySem.W.specialIn K u "__get__" = some none
  cp : PySem.W.copiedNames.contains f = false
structure Meth (K : PySem.W.Frag) (C : Addr) (m : Str) (f : Addr) : Prop where
  at_ : PySem.W.findIn K (.ref C) m = some (some (.ref f))
  fn : PySem.W.isFn K (.ref f) = true
  kp : PySem.W.keepIn K (.ref f) = true
section
variable {X : Cx} {pins : List (Addr × Obj)} {σ : St} {H : Hp} {s : Shared} {a C dx : Addr} {fs : List (Str × V)} {f : Str} {v : V} {A : Around} {E : Value → Shared → Prop}
theorem getattr_ok {b : Bool} {Q : Value → Shared → Prop} (I : Inv X pins σ H s) (e : H a = some (.ins C dx fs)) (c : Cls X.K C) (n : NoAttr X.K C f) (l : fs.lookup f = some v) (h : ∀ u s', Inv X pins σ H s' → RelV v u → Q u s') : wpAny (model X.prog X.w) A (getAttr (.ref a) f b) Q E s := by
  obtain ⟨mA, O, r, _, _, _⟩ := ins_get I.hok e
  obtain ⟨u, hu, ru⟩ := RelO.some_of (v := v) (o := mA f) (by rw [← l]; exact r f)
  exact get_map I.kIn O (c.get f) c.hd n hu (handed_of ru) (h u _ (I.tok _) ru)
theorem getmeth_ok {m : Str} {g : Addr} {pl : Sem Bool} {Q : Value × List Value → Shared → Prop} (I : Inv X pins σ H s) (e : H a = some (.ins C dx fs)) (c : Cls X.K C) (k : Meth X.K C m g) (l : fs.lookup m = none) (h : Q (.ref g, [.ref a]) s) : wpAny (model X.prog X.w) A (getMethod (.ref a) m pl) Q E s := by
  obtain ⟨mA, O, r, _, _, _⟩ := ins_get I.hok e
  have hn : mA m = none := RelO.none_of (by rw [← l]; exact r m)
  exact get_meth I.kIn O (c.get m) k.at_ k.fn hn h
theorem setattr_ok {y : V} {u : Value} {Q : Unit → Shared → Prop} (I : Inv X pins σ H s) (e : H a = some (.ins C dx fs)) (c : Cls X.K C) (n : NoAttr X.K C f) (hl : fs.length < 1000) (ry : RelV y u) (h : ∀ s', Inv X pins σ (upd H a (.ins C dx (putF f y fs))) s' → Q () s') : wpAny (model X.prog X.w) A (setAttr (.ref a) f u) Q E s := by
  obtain ⟨mA, O, r, wi, _, ho⟩ := ins_get I.hok e
  have hz : (fs.map (·.1)).length ≤ sizeLine := by rw [List.length_map, sizeLine_eq]; omega
  refine set_map I.kIn O c.sa c.po n.taker c.hd wi hz fun h' O' sb => h _ ?_
  have hd : ∃ o, h'.get? dx = some o := let ⟨o, _, _, e', _⟩ := O'.ns; ⟨o, e'⟩
  refine I.write (x := a) (e := dx) (by rw [e]; exact True.intro) (.inr ho) (fun b q hb z => (sb.2 b hb).trans z) hd ?_
  refine ⟨by rw [upd_ne O.ne]; exact ho, ?_, O.ne, O'.obj, _, O'.ns, fun g => ?_, fun g hg => ?_⟩
  · have := length_putF f y fs; omega
  · show RelO ((putF f y fs).lookup g) (if g = f then some u else mA g)
    rw [lookup_putF]
    by_cases q : g = f
    · rw [if_pos q, if_pos q]; exact ry
    · rw [if_neg q, if_neg q]; exact r g
  · by_cases q : g = f
    · rw [q]; exact (keys_putF f y fs).1
    · refine (keys_putF f y fs).2 g (wi g fun z => hg ?_)
      show (if g = f then some u else mA g) = none
      rw [if_neg q]; exact z
theorem Inv.made (I : Inv X pins σ H s) : Inv X pins σ (upd (upd H s.heap.objs.size (.own (s.heap.objs.size + 1))) (s.heap.objs.size + 1) (.ins C s.heap.objs.size [])) { s with heap := (s.heap.push PySem.W.emptyDict).push (PySem.W.instObj C s.heap.objs.size) } := by
  have e1 : (s.heap.push PySem.W.emptyDict).get? s.heap.objs.size = some PySem.W.emptyDict := Heap.get?_push_size s.heap rfl
  have e2 : ((s.heap.push PySem.W.emptyDict).push (PySem.W.instObj C s.heap.objs.size)).get? (s.heap.objs.size + 1) = some (PySem.W.instObj C s.heap.objs.size) := by
    have := Heap.get?_push_size (s.heap.push PySem.W.emptyDict) (o := PySem.W.instObj C s.heap.objs.size) rfl
    rwa [Heap.size_push] at this
  have e3 : (s.heap.push PySem.W.emptyDict).Ns s.heap.objs.size (fun _ => none) := ⟨PySem.W.emptyDict, #[], _, e1, rfl, (fun e he => absurd he (by simp)), fun _ => rfl⟩
  have I1 := I.laid (a := s.heap.objs.size) (o := .own (s.heap.objs.size + 1)) (h' := s.heap.push PySem.W.emptyDict) (t' := s.toks) (fun b u q => Heap.get?_push_of_some _ q) (Nat.le_refl _) ⟨_, e1⟩
  refine I1.laid (a := s.heap.objs.size + 1) (o := .ins C s.heap.objs.size []) (t' := s.toks) (fun b u q => Heap.get?_push_of_some _ q) (Nat.le_of_eq (Heap.size_push _ _)) ?_
  have ne : s.heap.objs.size ≠ s.heap.objs.size + 1 := Nat.ne_of_lt (Nat.lt_succ_self _)
  refine ⟨by rw [upd_ne ne, upd_same], Nat.zero_le _, ne, e2, fun _ => none, (Heap.Ns1.of_empty e3).at fun o q => Heap.get?_push_of_some _ q, fun _ => True.intro, fun y hy => absurd rfl hy⟩
theorem attr_of {prog : Program} {w : World} {env : Env} {e : Expr} {f : Str} {pos : Pos} {s : Shared} {Q : Value → Shared → Prop} (hb : attributeBase e f env (eval e env) = eval e env) (h : wpAny (model prog w) A (eval e env) (fun o s₁ => wpAny (model prog w) A (getAttr o f true) Q E s₁) E s) : wpAny (model prog w) A (eval (.Attribute e f pos) env) Q E s :=
  Attribute_any_ h (by rw [arm_eval_Attribute, hb])
end
def tFld (K : PySem.W.Frag) (ta : TE) (f : Str) : TE := fun σ H Q => ta σ H fun x H1 => ∃ a C dx fs v, x = .ref a ∧ H1 a = some (.ins C dx fs) ∧ Cls K C ∧ NoAttr K C f ∧ fs.lookup f = some v ∧ Q v H1
def sFld (K : PySem.W.Frag) (ta tv : TE) (f : Str) : TS := fun D σ H => tv σ H fun y H1 => ta σ H1 fun x H2 => ∃ a C dx fs, x = .ref a ∧ H2 a = some (.ins C dx fs) ∧ Cls K C ∧ NoAttr K C f ∧ fs.length < 1000 ∧
  D.nx σ (upd H2 a (.ins C dx (putF f y fs)))
section
variable {X : Cx} {o e value : Expr} {f : Str} {pos pos' tpos : Pos} {ta tv : TE}
theorem pe_fld (he : PE X e ta) (hb : attributeBase e f X.env (eval e X.env) = eval e X.env) : PE X (.Attribute e f pos) (tFld X.K ta f) := by
  intro pins s σ H Q I h
  refine attr_of hb (thn (he pins s σ H _ I h) fun u s1 ⟨x, H1, I1, rx, a, C, dx, fs, v, ex, ea, c, n, l, q⟩ => ?_)
  subst ex
  obtain rfl : u = Value.ref a := rx
  exact getattr_ok I1 ea c n l fun u' s2 I2 ru => ⟨v, H1, I2, ru, q⟩
theorem ps_fld (ha : PE X o ta) (hv : PE X value tv) (hs : swapsWith value (some (.Attribute o f pos')) pos.line X.env = pure false) : PS X (.Assign [.Attribute o f pos'] value pos) (sFld X.K ta tv f) := by
  intro pins s σ H D I h
  refine plainObj_wpAny_Assign_Attribute (thn (hv pins s σ H _ I h) fun u s1 ⟨y, H1, I1, ry, q⟩ => thn (ha pins s1 σ H1 _ I1 q) fun ov s2 ⟨x, H2, I2, rx, a, C, dx, fs, ex, ea, c, n, l, q2⟩ => ?_) hs
  subst ex
  obtain rfl : ov = Value.ref a := rx
  exact setattr_ok I2 ea c n l ry fun s3 I3 => ⟨σ, _, I3, q2⟩
end
section
variable {X : Cx} {pins : List (Addr × Obj)} {σ : St} {H : Hp} {s : Shared} {A : Around} {E : Value → Shared → Prop} {Q : Value → Shared → Prop} {c : Value} {b : Bool}
inductive TyOf (K : PySem.W.Frag) (H : Hp) : V → Value → Prop where
  | non : TyOf K H .non (.type "NoneType")
  | bl (x : Bool) : TyOf K H (.bl x) (.type "bool")
  | int (i : Int) : TyOf K H (.int i) (.type "int")
  | str (x : Str) : TyOf K H (.str x) (.type "str")
  | flt (x : UInt64) : TyOf K H (.flt x) (.type "float")
  | lst {a : Addr} {xs : List V} (e : H a = some (.lst xs)) : TyOf K H (.ref a) (.type "list")
  | frz {a : Addr} {o : Obj} {xs : List V} (e : H a = some (.frz o (.lst xs))) : TyOf K H (.ref a) (.type "list")
  | tup {a : Addr} {xs : List V} (e : H a = some (.tup xs)) : TyOf K H (.ref a) (.type "tuple")
  | dK {a : Addr} {kvs : List (Key × V)} (e : H a = some (.dK kvs)) : TyOf K H (.ref a) (.type "dict")
  | dT {a : Addr} {kvs : List (List Key × V)} (e : H a = some (.dT kvs)) : TyOf K H (.ref a) (.type "dict")
  | ins {a C dx : Addr} {fs : List (Str × V)} (e : H a = some (.ins C dx fs)) (cl : Cls K C) (ha : PySem.W.findIn K (.ref C) "__class__" = some (some (.builtin "object.__class__")))
      (hn : PySem.W.specialIn K (.builtin "object.__class__") "__get__" = some (some (.builtin "getset_descriptor.__get__"))) (htk : PySem.W.takesIn K (.builtin "object.__class__") = some true)
      (hm : PySem.W.mroIn K C (.type "object") = some true) : TyOf K H (.ref a) (.ref C)
theorem isinst_ok {x : V} {u t : Value} (I : Inv X pins σ H s) (rx : RelV x u) (ty : TyOf X.K H x t) (e : PySem.W.kitOne X.K t c = some b) (h : ∀ tk, Q (.bool b) { s with toks := tk }) : wpAny (model X.prog X.w) A (call (.builtin "isinstance") [u, c]) Q E s := by
  cases ty with
  | non => cases (show u = Value.none from rx); exact PySem.W.kia_one PySem.W.kitx_none I.kIn True.intro e (fun z => nomatch z) h
  | bl y => cases (show u = Value.bool y from rx); exact PySem.W.kia_one PySem.W.kitx_bool I.kIn True.intro e (fun z => nomatch z) h
  | int i => obtain ⟨t, q⟩ := (show ∃ t, u = Value.int i t from rx); cases q; exact PySem.W.kia_one PySem.W.kitx_int I.kIn True.intro e (fun z => nomatch z) h
  | str y => obtain ⟨t, q⟩ := (show ∃ t, u = Value.str y t from rx); cases q; exact PySem.W.kia_one PySem.W.kitx_str I.kIn True.intro e (fun z => nomatch z) h
  | flt y => obtain ⟨t, q⟩ := (show ∃ t, u = Value.float y t from rx); cases q; exact PySem.W.kia_one PySem.W.kitx_float I.kIn True.intro e (fun z => nomatch z) h
  | @lst a xs ea =>
    cases (show u = Value.ref a from rx)
    obtain ⟨_, _, n, _, h1⟩ := (show ObjOk X.prog X.w H s.heap a (.lst xs) from I.hok a _ ea)
    exact PySem.W.kia_one PySem.W.kitx_list I.kIn ⟨_, h1, rfl⟩ e (fun z => nomatch z) h
  | @frz a ob xs ea =>
    cases (show u = Value.ref a from rx)
    obtain ⟨_, _, _, n, _, h1⟩ := (show ObjOk X.prog X.w H s.heap a (.frz ob (.lst xs)) from I.hok a _ ea)
    exact PySem.W.kia_one PySem.W.kitx_list I.kIn ⟨_, h1, rfl⟩ e (fun z => nomatch z) h
  | @tup a xs ea =>
    cases (show u = Value.ref a from rx)
    obtain ⟨_, _, _, p⟩ := (show ObjOk X.prog X.w H s.heap a (.tup xs) from I.hok a _ ea)
    obtain ⟨o, h1, h2, _⟩ := p
    exact PySem.W.kia_one PySem.W.kitx_tuple I.kIn ⟨o, h1, h2⟩ e (fun z => nomatch z) h
  | @dK a kvs ea =>
    cases (show u = Value.ref a from rx)
    obtain ⟨_, _, vs, _, p⟩ := (show ObjOk X.prog X.w H s.heap a (.dK kvs) from I.hok a _ ea)
    obtain ⟨o, es, ep, h1, h2, _⟩ := p
    exact PySem.W.kia_one PySem.W.kitx_dict I.kIn ⟨o, h1, h2.1⟩ e (fun z => nomatch z) h
  | @dT a kvs ea =>
    cases (show u = Value.ref a from rx)
    obtain ⟨_, _, xs, _, o, es, ep, h1, h2, _⟩ := (show ObjOk X.prog X.w H s.heap a (.dT kvs) from I.hok a _ ea)
    exact PySem.W.kia_one PySem.W.kitx_dict I.kIn ⟨o, h1, h2.1⟩ e (fun z => nomatch z) h
  | @ins a C dx fs ea cl ha hn htk hm =>
    cases (show u = Value.ref a from rx)
    obtain ⟨mA, O, _⟩ := ins_get I.hok ea
    obtain ⟨od, J, _⟩ := O.look
    exact PySem.W.kia_one (PySem.W.kitx_own (cl.get _) cl.hd ha hn htk hm) I.kIn J e (fun z => nomatch z) h
end
end L2
namespace L2
open PySem PySem.Spec PyProof.Rows
structure Room (k : Nat) (A : Around) : Prop where
  hd : A.handled = none
  dp : A.depth + 3 * k + 5 < recursionLimit
  un : A.units + 16 * k + 200 < cLine
theorem Room.mono {j k : Nat} {A : Around} (r : Room k A) (h : j ≤ k) : Room j A := ⟨r.hd, by have := r.dp; omega, by have := r.un; omega⟩
theorem Room.deeper {k : Nat} {A : Around} (r : Room (k + 1) A) (env : Env) : Room k (A.deeper env) :=
  ⟨r.hd, by have := r.dp; show A.depth + 1 + 3 * k + 5 < _; omega, by have := r.un; show A.units + 3 + 16 * k + 200 < _; omega⟩
theorem make_depth {A : Around} {C : Addr} {us : List Value} {kw : List (Str × Value)} : (A.under (.builtin "type.__call__" ⟨.ref C :: us, kw⟩)).depth = A.depth + 1 := by
  first | rfl | simp [Around.under, Code.weight, Code.isCreation, Code.isGuard, Code.isCaller, Code.frames, Code.isFrame, guardIds]
theorem make_units {A : Around} {C : Addr} {us : List Value} {kw : List (Str × Value)} : (A.under (.builtin "type.__call__" ⟨.ref C :: us, kw⟩)).units = A.units + 1 := by
  first | rfl | simp [Around.under, Code.cUnits, Code.frames, Code.isFrame]
theorem Room.make {k : Nat} {A : Around} (r : Room (k + 1) A) (C : Addr) (us : List Value) (kw : List (Str × Value)) : Room k (A.under (.builtin "type.__call__" ⟨.ref C :: us, kw⟩)) :=
  ⟨r.hd, by have := r.dp; rw [make_depth]; omega, by have := r.un; rw [make_units]; omega⟩
theorem Room.depth {k : Nat} {A : Around} (r : Room k A) : A.depth < recursionLimit := by have := r.dp; omega
theorem Room.units {k : Nat} {A : Around} (r : Room k A) : A.units + 64 < cLine := by have := r.un; omega
def tNil : TA := fun _ H Q => Q [] H
def tCons (ta : TE) (tr : TA) : TA := fun σ H Q => ta σ H fun x H1 => tr σ H1 fun xs H2 => Q (x :: xs) H2
section
variable {X : Cx} {e : Expr} {es : List Expr} {te : TE} {t : TA} {pos : Pos}
theorem pa_nil : PA X [] tNil := fun _ _ _ _ H Q I h => Calls.spliced_nil ⟨[], H, I, .nil, h⟩
theorem pa_cons (ha : PE X e te) (hr : PA X es t) (hs : starEach (e :: es) X.env = (false, eval e X.env) :: starEach es X.env := by rfl) : PA X (e :: es) (tCons te t) := by
  intro pos pins s σ H Q I h
  rw [hs]
  show wpAny _ _ (spliced ((false, eval e X.env) :: backTo pos (starEach es X.env))) _ _ s
  refine Calls.spliced_cons (thn (ha pins s σ H _ I h) fun u s1 ⟨x, H1, I1, r1, q1⟩ => ?_)
  exact thn (hr pos pins s1 σ H1 _ I1 q1) fun us s2 ⟨xs, H2, I2, r2, q2⟩ => ⟨x :: xs, H2, I2, .cons r1 r2, q2⟩
def tTup (t : TA) : TE := fun σ H Q => t σ H fun xs H1 => xs.length ≤ sizeLine ∧ ∀ p, H1 p = none → Q (.ref p) (upd H1 p (.tup xs))
def tLst (t : TA) : TE := fun σ H Q => t σ H fun xs H1 => xs.length ≤ sizeLine ∧ ∀ p, H1 p = none → Q (.ref p) (upd H1 p (.lst xs))
theorem pe_tup {x1} (h : PA X es t) : PE X (.Tuple es x1 pos) (tTup t) := by
  intro pins s σ H Q I hq
  refine wpAny_Tuple_spliced (thn (h pos pins s σ H _ I hq) fun us s1 ⟨xs, H1, I1, r, z, q⟩ => ⟨by rw [← r.length]; exact z, ?_⟩)
  have hf : H1 s1.heap.objs.size = none := I1.hok.fresh (Nat.le_refl _)
  refine ⟨.ref s1.heap.objs.size, upd H1 s1.heap.objs.size (.tup xs), I1.laid (t' := s1.toks) (fun b u e => Heap.get?_push_of_some _ e) (Nat.le_refl _) ?_, rfl, q _ hf⟩
  exact ⟨z, us, r, ⟨_, Heap.get?_push_size _ rfl, rfl, _, rfl⟩⟩
theorem pe_lst (h : PA X es t) : PE X (.List es pos) (tLst t) := by
  intro pins s σ H Q I hq
  refine wpAny_List_spliced (thn (h pos pins s σ H _ I hq) fun us s1 ⟨xs, H1, I1, r, z, q⟩ => ⟨by rw [← r.length]; exact z, ?_⟩)
  have hf : H1 s1.heap.objs.size = none := I1.hok.fresh (Nat.le_refl _)
  refine ⟨.ref s1.heap.objs.size, upd H1 s1.heap.objs.size (.lst xs), I1.laid (t' := s1.toks) (fun b u e => Heap.get?_push_of_some _ e) (Nat.le_refl _) ?_, rfl, q _ hf⟩
  exact ⟨z, us, 0, r, Heap.get?_push_size _ rfl⟩
end
abbrev Sp := List V → Hp → VK → XK → Prop
abbrev CXT := List Env → Hp → Shared → XK → Value → Shared → Prop
structure Env0 (P : Program) (w : World) (K : PySem.W.Frag) (mg : Str → Option Value) (base : Heap) (A : Around) (outer : List Env) (s : Shared) (H : Hp) : Prop where
  frames : A.frames = some outer
  mod : Mod K mg base
  bs : ∀ b o, base.get? b = some o → s.heap.get? b = some o ∧ H b = none
  bsz : base.objs.size ≤ s.heap.objs.size
  funs : s.heap.FunFrames base outer
  frf : ∀ b ∈ frs outer, H b = none
  hok : HOk P w H s.heap
  bare : AllBare s.gens
def CE (outer : List Env) (P : Program) (w : World) (H : Hp) (s : Shared) (Q : VK) (u : Value) (s' : Shared) : Prop :=
  ∃ v H', s'.os = s.os ∧ AllBare s'.gens ∧ Un (frs outer) [] H H' s.heap s'.heap ∧ HOk P w H' s'.heap ∧ RelV v u ∧ Q v H'
def CR (CX : CXT) (outer : List Env) (P : Program) (w : World) (H : Hp) (s : Shared) (Q : VK) (E : XK) (r : Result) (s' : Shared) : Prop :=
  match r with
  | .ok (.ret u) => CE outer P w H s Q u s'
  | .ok _ => False
  | .error e => CX outer H s E e s'
structure FnOk (P : Program) (w : World) (K : PySem.W.Frag) (mg : Str → Option Value) (base : Heap) (CX : CXT) (k : Nat) (f : Addr) (fd : FuncData) (ps : List Str) (sp : Sp) : Prop where
  len : ∀ vs H Q E, sp vs H Q E → vs.length = ps.length
  run : ∀ (A : Around) (outer : List Env) (s : Shared) (H : Hp) (args : Args) (us : List Value) (vs : List V) (Q : VK) (E : XK), Room k A → Env0 P w K mg base A outer s H → BindsTo s fd args (ps.zip us) → Vals vs us → sp vs H Q E →
    codeAny (model P w) A (.call (.ref f) args) (CR CX outer P w H s Q E) s
theorem Env0.make {P : Program} {w : World} {K : PySem.W.Frag} {mg : Str → Option Value} {base : Heap} {A : Around} {outer : List Env} {s : Shared} {H : Hp} (e : Env0 P w K mg base A outer s H) (C : Addr) (us : List Value) (kw : List (Str × Value)) : Env0 P w K mg base (A.under (.builtin "type.__call__" ⟨.ref C :: us, kw⟩)) outer s H := ⟨by first | exact e.frames | (simpa [Around.under, Code.envs, Code.isFrame, pushEnvs] using e.frames), e.mod, e.bs, e.bsz, e.funs, e.frf, e.hok, e.bare⟩
section
variable {X : Cx} {pins : List (Addr × Obj)} {σ : St} {H : Hp} {s s' : Shared}
theorem Inv.env0 (I : Inv X pins σ H s) : Env0 X.prog X.w X.K X.mg X.base X.A X.stack s H :=
  ⟨I.ok.frames, I.ok.mod, I.bs, Nat.le_trans I.ok.bsz I.sz, I.stack, I.stkFree, I.hok, I.bare⟩
theorem Inv.after {Q : VK} {u : Value} (I : Inv X pins σ H s) (h : CE X.stack X.prog X.w H s Q u s') : EP X pins σ Q u s' := by
  obtain ⟨v, H', os, bare, un, hok, r, q⟩ := h
  obtain ⟨hh, g, d, t, os'⟩ := s'
  obtain rfl : os' = s.os := os
  exact ⟨v, H', I.call (h' := hh) (g' := g) (d' := d) (t' := t) (ch := []) un hok bare (fun b z => absurd z (by simp)), r, q⟩
end
def tCall (sp : Sp) (dvs : List V) (E : XK) (t : TA) : TE := fun σ H Q => t σ H fun vs H1 => sp (vs ++ dvs) H1 Q E
def tMeth (C : Addr) (m : Str) (sp : Sp) (dvs : List V) (E : XK) (ta : TE) (t : TA) : TE := fun σ H Q => ta σ H fun x H1 => ∃ a dx fs, x = .ref a ∧ H1 a = some (.ins C dx fs) ∧ fs.lookup m = none ∧
  t σ H1 fun vs H2 => sp (x :: (vs ++ dvs)) H2 Q E
def tMake (C : Addr) (sp : Sp) (dvs : List V) (E : XK) (t : TA) : TE := fun σ H Q => t σ H fun vs H1 => ∀ x dx, H1 x = none → H1 dx = none → dx ≠ x →
  sp (.ref x :: (vs ++ dvs)) (upd (upd H1 dx (.own x)) x (.ins C dx [])) (fun v H2 => v = .non ∧ Q (.ref x) H2) E
def Binds (K : PySem.W.Frag) (fd : FuncData) (ps : List Str) (ds : List Value) : Prop :=
  ∀ (s : Shared) (us : List Value), K.In s.heap → (us ++ ds).length = ps.length → BindsTo s fd ⟨us, []⟩ (ps.zip (us ++ ds))
theorem Binds.all {K : PySem.W.Frag} {fd : FuncData} {ps : List Str} (h : ∀ us : List Value, us.length = ps.length → bindArgs fd ⟨us, []⟩ = pure (ps.zip us)) : Binds K fd ps [] := fun s us _ hl => by
  rw [List.append_nil] at hl ⊢
  exact .of_eq (h us hl)
def Passes (CX : CXT) (X : Cx) (E : XK) : Prop := ∀ (pins : List (Addr × Obj)) (σ : St) (H : Hp) (s : Shared) (e : Value) (s' : Shared), Inv X pins σ H s → CX X.stack H s E e s' → X.xe e s'
section
variable {X : Cx} {CX : CXT} {k : Nat} {f C : Addr} {fd : FuncData} {ps : List Str} {sp : Sp} {dvs : List V} {ds : List Value} {E : XK} {x m : Str} {p pos apos : Pos} {e o : Expr} {es : List Expr} {ta : TE} {t : TA}
theorem run_fn {pins : List (Addr × Obj)} {σ : St} {H : Hp} {s : Shared} {Q : VK} {us : List Value} {vs : List V} (F : FnOk X.prog X.w X.K X.mg X.base CX k f fd ps sp) (hr : Room k X.A) (hb : Binds X.K fd ps ds) (hd : Vals dvs ds) (hx : Passes CX X E) (I : Inv X pins σ H s) (r : Vals vs us) (h : sp (vs ++ dvs) H Q E) : wpAny (model X.prog X.w) X.A (call (.ref f) us) (EP X pins σ Q) X.xe s := by
  have r2 : Vals (vs ++ dvs) (us ++ ds) := r.append hd
  have hl : (us ++ ds).length = ps.length := by rw [← r2.length]; exact F.len _ _ _ _ h
  refine wpAny_call (codeAny_mono (F.run X.A X.stack s H ⟨us, []⟩ (us ++ ds) (vs ++ dvs) Q E hr I.env0 (hb s us I.kIn hl) r2 h) fun r s' hq => ?_)
  cases r with
  | error e => exact hx pins σ H s e s' I hq
  | ok fl =>
    cases fl with
    | ret u => exact I.after hq
    | next => exact False.elim hq
    | brk => exact False.elim hq
    | cont => exact False.elim hq
theorem pe_call (F : FnOk X.prog X.w X.K X.mg X.base CX k f fd ps sp) (hr : Room k X.A) (hg : Gl X x) (hm : X.mg x = some (.ref f)) (hk : PySem.W.keepIn X.K (.ref f) = true) (hb : Binds X.K fd ps ds) (hd : Vals dvs ds) (hx : Passes CX X E) (ha : PA X (e :: es) t) (hdb : (x == ("__debug__" : Str)) = false := by decide) (he : starEach (e :: es) X.env = (false, eval e X.env) :: starEach es X.env := by rfl) (hpl : (backTo pos (starEach es X.env)).any (·.1) = false := by rfl) : PE X (.Call (.Name x p) (e :: es) [] pos) (tCall sp dvs E t) := by
  intro pins s σ H Q I h
  refine wpAny_Call_Name_kw (ld_glob I hg hm ?_ hdb)
  refine PySem.W.callWith_K (h₀ := X.base) I.ok.mod.kin hk (thn (ha pos pins s σ H _ I h) fun us s1 ⟨vs, H1, I1, r, q⟩ => ⟨I1.kIn, ?_⟩) he hpl
  exact run_fn F hr hb hd hx I1 r q
theorem pe_meth {pl : Sem Bool} (he : PE X o ta) (c : Cls X.K C) (hm : Meth X.K C m f) (F : FnOk X.prog X.w X.K X.mg X.base CX k f fd ps sp) (hr : Room k X.A) (hb : Binds X.K fd ps ds) (hd : Vals dvs ds) (hx : Passes CX X E) (ha : PA X (e :: es) t)
    (hst : starEach (e :: es) X.env = (false, eval e X.env) :: starEach es X.env := by rfl) (hpl : (backTo pos (starEach es X.env)).any (·.1) = false := by rfl)
    (ht : eval (.Call (.Attribute o m apos) (e :: es) [] pos) X.env = (do
      let ov ← eval o X.env
      standAt apos.atName
      let (f, first) ← holding [ov] (getMethod ov m pl)
      callWith pos f first (backTo pos (starEach (e :: es) X.env)) (backToKw pos (keywordEach [] X.env))) := by rfl) :
    PE X (.Call (.Attribute o m apos) (e :: es) [] pos) (tMeth C m sp dvs E ta t) := by
  intro pins s σ H Q I h
  refine PySem.W.methodCall_KW (pl := pl) (thn (he pins s σ H _ I h) fun u s1 ⟨x, H1, I1, rx, a, dx, fs, ex, ea, l, q⟩ => ?_) ht
  subst ex
  obtain rfl : u = Value.ref a := rx
  refine getmeth_ok I1 ea c hm l ?_
  refine PySem.W.callWith_K (first := [.ref a]) (h₀ := X.base) I.ok.mod.kin hm.kp (thn (ha pos pins s1 σ H1 _ I1 q) fun us s2 ⟨vs, H2, I2, r, q2⟩ => ⟨I2.kIn, ?_⟩) hst hpl
  exact run_fn (us := .ref a :: us) (vs := .ref a :: vs) F hr hb hd hx I2 (.cons rfl r) q2
theorem pe_meth0 {pl : Sem Bool} (he : PE X o ta) (c : Cls X.K C) (hm : Meth X.K C m f) (F : FnOk X.prog X.w X.K X.mg X.base CX k f fd ps sp) (hr : Room k X.A) (hb : Binds X.K fd ps ds) (hd : Vals dvs ds) (hx : Passes CX X E)
    (ht : eval (.Call (.Attribute o m apos) [] [] pos) X.env = (do
      let ov ← eval o X.env
      standAt apos.atName
      let (f, first) ← holding [ov] (getMethod ov m pl)
      callWith pos f first (backTo pos (starEach [] X.env)) (backToKw pos (keywordEach [] X.env))) := by rfl) :
    PE X (.Call (.Attribute o m apos) [] [] pos) (tMeth C m sp dvs E ta tNil) := by
  intro pins s σ H Q I h
  refine PySem.W.methodCall_KW (pl := pl) (thn (he pins s σ H _ I h) fun u s1 ⟨x, H1, I1, rx, a, dx, fs, ex, ea, l, q⟩ => ?_) ht
  subst ex
  obtain rfl : u = Value.ref a := rx
  refine getmeth_ok I1 ea c hm l ?_
  exact PySem.W.callWith_K0 (first := [.ref a]) I1.kIn hm.kp (run_fn (us := [.ref a]) (vs := [.ref a]) F hr hb hd hx I1 (.cons rfl .nil) q)
structure Mk (K : PySem.W.Frag) (C f : Addr) : Prop where
  makes : PySem.W.makesIn K C = true
  init : PySem.W.findIn K (.ref C) "__init__" = some (some (.ref f))
  fn : PySem.W.isFn K (.ref f) = true
  kp : PySem.W.keepIn K (.ref C) = true
theorem run_make {pins : List (Addr × Obj)} {σ : St} {H : Hp} {s : Shared} {Q : VK} {us : List Value} {vs : List V} (M : Mk X.K C f) (F : FnOk X.prog X.w X.K X.mg X.base CX k f fd ps sp) (hr : Room (k + 1) X.A) (hb : Binds X.K fd ps ds) (hd : Vals dvs ds) (hx : Passes CX X E) (I : Inv X pins σ H s) (r : Vals vs us) (h : ∀ x dx, H x = none → H dx = none → dx ≠ x → sp (.ref x :: (vs ++ dvs)) (upd (upd H dx (.own x)) x (.ins C dx [])) (fun v H2 => v = .non ∧ Q (.ref x) H2) E) : wpAny (model X.prog X.w) X.A (call (.ref C) us) (EP X pins σ Q) X.xe s := by
  have hq := h (s.heap.objs.size + 1) s.heap.objs.size (I.hok.fresh (Nat.le_succ _)) (I.hok.fresh (Nat.le_refl _)) (Nat.ne_of_lt (Nat.lt_succ_self _))
  have I2 := Inv.made (C := C) I
  have r2 : Vals (V.ref (s.heap.objs.size + 1) :: (vs ++ dvs)) (Value.ref (s.heap.objs.size + 1) :: (us ++ ds)) := .cons rfl (r.append hd)
  have hl : (Value.ref (s.heap.objs.size + 1) :: us ++ ds).length = ps.length := by
    have e := r2.length
    rw [F.len _ _ _ _ hq] at e
    exact e.symm
  refine wpAny_call (make_map (f := f) I.kIn M.makes M.init (beq_iff_eq.mp M.fn) (codeAny_mono (F.run _ X.stack _ _ ⟨Value.ref (s.heap.objs.size + 1) :: us, []⟩ (Value.ref (s.heap.objs.size + 1) :: (us ++ ds)) _ _ E (hr.make C us [])
    (I2.env0.make C us []) (hb _ (Value.ref (s.heap.objs.size + 1) :: us) I2.kIn hl) r2 hq) fun r s' hq' => ?_))
  cases r with
  | error e => exact hx pins σ _ _ e s' I2 hq'
  | ok fl =>
    cases fl with
    | ret u =>
      obtain ⟨v, H', I3, rv, ev, q3⟩ := I2.after hq'
      subst ev
      exact ⟨rv, ⟨V.ref (s.heap.objs.size + 1), H', I3, rfl, q3⟩⟩
    | next => exact False.elim hq'
    | brk => exact False.elim hq'
    | cont => exact False.elim hq'
theorem pe_make (M : Mk X.K C f) (F : FnOk X.prog X.w X.K X.mg X.base CX k f fd ps sp) (hr : Room (k + 1) X.A) (hg : Gl X x) (hm : X.mg x = some (.ref C)) (hb : Binds X.K fd ps ds) (hd : Vals dvs ds) (hx : Passes CX X E) (ha : PA X (e :: es) t) (hdb : (x == ("__debug__" : Str)) = false := by decide) (he : starEach (e :: es) X.env = (false, eval e X.env) :: starEach es X.env := by rfl) (hpl : (backTo pos (starEach es X.env)).any (·.1) = false := by rfl) : PE X (.Call (.Name x p) (e :: es) [] pos) (tMake C sp dvs E t) := by
  intro pins s σ H Q I h
  refine wpAny_Call_Name_kw (ld_glob I hg hm ?_ hdb)
  refine PySem.W.callWith_K (h₀ := X.base) I.ok.mod.kin M.kp (thn (ha pos pins s σ H _ I h) fun us s1 ⟨vs, H1, I1, r, q⟩ => ⟨I1.kIn, ?_⟩) he hpl
  exact run_make M F hr hb hd hx I1 r q
end
def PK (X : Cx) (kws : List Keyword) (t : TA) : Prop :=
  ∀ (pos : Pos) (pins : List (Addr × Obj)) (s : Shared) (σ : St) (H : Hp) (Q : List V → Hp → Prop), Inv X pins σ H s → t σ H Q → wpAny (model X.prog X.w) X.A (evalAll ((backToKw pos (keywordEach kws X.env)).map (·.2))) (AP X pins σ Q) X.xe s
section
variable {X : Cx} {CX : CXT} {k : Nat} {f C : Addr} {fd : FuncData} {ps ks : List Str} {sp : Sp} {E : XK} {x m : Str} {p pos apos kpos : Pos} {e o : Expr} {es : List Expr} {kws : List Keyword} {te ta : TE} {t tk : TA} {nm : Option Str}
theorem pk_nil : PK X [] tNil := fun _ _ _ _ H Q I h => wpAny_evalAll_nil ⟨[], H, I, .nil, h⟩
theorem pk_cons (ha : PE X e te) (hr : PK X kws t) : PK X (⟨nm, e, kpos⟩ :: kws) (tCons te t) := by
  intro pos pins s σ H Q I h
  show wpAny _ _ (evalAll ((do let v ← eval e X.env; standAt pos; pure v) :: (backToKw pos (keywordEach kws X.env)).map (·.2))) _ _ s
  refine wpAny_evalAll_cons (wpAny_bind (thn (ha pins s σ H _ I h) fun u s1 ⟨x, H1, I1, r1, q1⟩ => wpAny_bind (wpAny_standAt (wpAny_pure ?_))))
  exact thn (hr pos pins s1 σ H1 _ I1 q1) fun us s2 ⟨xs, H2, I2, r2, q2⟩ => ⟨x :: xs, H2, I2, .cons r1 r2, q2⟩
structure KBinds (K : PySem.W.Frag) (fd : FuncData) (ps ks : List Str) (g : List Value → List Value → List Value) (gV : List V → List V → List V) : Prop where
  to : ∀ (s : Shared) (us ws : List Value), K.In s.heap → (g us ws).length = ps.length → BindsTo s fd ⟨us, ks.zip ws⟩ (ps.zip (g us ws))
  rel : ∀ {vs : List V} {us : List Value} {zs : List V} {ws : List Value}, Vals vs us → Vals zs ws → Vals (gV vs zs) (g us ws)
variable {g : List Value → List Value → List Value} {gV : List V → List V → List V}
end
structure FnScope (N P : List Str) (sc : Scope) : Prop where
  kind : sc.kind = .function
  co : sc.isCoroutine = false
  gen : sc.isGenerator = false
  nd : N.Nodup
  pre : N.take P.length = P
  par : ∀ x ∈ P, sc.names.lookup x = some .local ∨ sc.names.lookup x = some .cell
  nofree : ∀ y ∈ sc.names, y.2 ≠ .free
theorem bindL_out {kindOf : Str → Option NameKind} {x : Str} : ∀ {binds : List (Str × Value)} {m : Str → Option Value}, (∀ v, (x, v) ∉ binds) → bindL kindOf binds m x = m x
  | [], _, _ => rfl
  | (n, v) :: r, m, h => by
    unfold bindL
    rw [bindL_out fun w hw => h w (List.mem_cons_of_mem _ hw)]
    split
    · have : x ≠ n := by rintro rfl; exact h v List.mem_cons_self
      simp [this]
    · rfl
theorem bindC_out {kindOf : Str → Option NameKind} {x : Str} : ∀ {binds : List (Str × Value)} {m : Str → Option Value}, (∀ v, (x, v) ∉ binds) → bindC kindOf binds m x = m x
  | [], _, _ => rfl
  | (n, v) :: r, m, h => by
    unfold bindC
    rw [bindC_out fun w hw => h w (List.mem_cons_of_mem _ hw)]
    split
    · rfl
    · have : x ≠ n := by rintro rfl; exact h v List.mem_cons_self
      simp [this]
theorem bindL_get {kindOf : Str → Option NameKind} {x : Str} {v : Value} : ∀ {P : List Str} {vs : List Value} {i : Nat} {m : Str → Option Value}, P.Nodup → P[i]? = some x → vs[i]? = some v → kindOf x = some .local → bindL kindOf (P.zip vs) m x = some v
  | [], _, _, _, _, h, _, _ => by simp at h
  | _ :: _, [], _, _, _, _, h, _ => by simp at h
  | p :: P, w :: vs, 0, m, nd, h1, h2, hk => by
    simp at h1 h2; subst h1; subst h2
    show bindL kindOf ((p, w) :: P.zip vs) m p = _
    unfold bindL
    rw [bindL_out fun v hv => (List.nodup_cons.mp nd).1 (List.of_mem_zip hv).1, if_pos hk]
    simp
  | p :: P, w :: vs, i + 1, m, nd, h1, h2, hk => by
    show bindL kindOf ((p, w) :: P.zip vs) m x = _
    unfold bindL
    exact bindL_get (i := i) (List.nodup_cons.mp nd).2 (by simpa using h1) (by simpa using h2) hk
theorem bindC_get {kindOf : Str → Option NameKind} {x : Str} {v : Value} : ∀ {P : List Str} {vs : List Value} {i : Nat} {m : Str → Option Value}, P.Nodup → P[i]? = some x → vs[i]? = some v → kindOf x ≠ some .local → bindC kindOf (P.zip vs) m x = some v
  | [], _, _, _, _, h, _, _ => by simp at h
  | _ :: _, [], _, _, _, _, h, _ => by simp at h
  | p :: P, w :: vs, 0, m, nd, h1, h2, hk => by
    simp at h1 h2; subst h1; subst h2
    show bindC kindOf ((p, w) :: P.zip vs) m p = _
    unfold bindC
    rw [bindC_out fun v hv => (List.nodup_cons.mp nd).1 (List.of_mem_zip hv).1, if_neg hk]
    simp
  | p :: P, w :: vs, i + 1, m, nd, h1, h2, hk => by
    show bindC kindOf ((p, w) :: P.zip vs) m x = _
    unfold bindC
    exact bindC_get (i := i) (List.nodup_cons.mp nd).2 (by simpa using h1) (by simpa using h2) hk
def start (N : List Str) (vs : List V) : St := vs.map some ++ List.replicate (N.length - vs.length) none
def cxOf (CX : CXT) (P : Program) (w : World) (K : PySem.W.Frag) (mg : Str → Option Value) (base : Heap) (N : List Str) (qual : Str) (scope : Scope) (f : Addr) (cd : Value) (A : Around) (outer : List Env) (s : Shared) (H : Hp) (E : XK) : Cx where
  prog := P
  w := w
  K := K
  mg := mg
  base := base
  A := A.deeper (envOfC qual scope s.heap.objs.size f cd)
  N := N
  s₀ := s
  H₀ := H
  env := envOfC qual scope s.heap.objs.size f cd
  outer := outer
  stack := envOfC qual scope s.heap.objs.size f cd :: outer
  ex := []
  calm := true
  fn := fun _ => true
  pn := []
  xe := fun e s' => wpAny (model P w) (A.deeper (envOfC qual scope s.heap.objs.size f cd)) (leaving (envOfC qual scope s.heap.objs.size f cd) e) (fun _ s'' => CX outer H s E e s'') (fun e' s'' => CX outer H s E e' s'') s'
theorem cell_has {sc : Scope} {n : Nat} {x : Str} (h : sc.names.lookup x = some .cell) : ∃ c, (cellsFrom n sc.names []).lookup x = some c := by
  have q := PySem.W.cellsFrom_some sc.names n [] (.inl h)
  exact Option.isSome_iff_exists.mp q
theorem inv_start {CX : CXT} {P : Program} {w : World} {K : PySem.W.Frag} {mg : Str → Option Value} {base : Heap} {N ps : List Str} {qual : Str} {scope : Scope} {f : Addr} {cd : Value} {A : Around} {outer : List Env} {s s1 : Shared} {H : Hp} {E : XK} {us : List Value} {vs : List V} (S : FnScope N ps scope) (hd : A.handled = none) (e0 : Env0 P w K mg base A outer s H) (hl : vs.length = ps.length) (r : Vals vs us) (x : InCallC s s.heap.objs.size (bindL (envOfC qual scope s.heap.objs.size f cd).kindOf (ps.zip us) fun _ => none) (cellsFrom (s.heap.objs.size + 1) scope.names []) (bindC (envOfC qual scope s.heap.objs.size f cd).kindOf (ps.zip us) fun _ => none) s1) : Inv (cxOf CX P w K mg base N qual scope f cd A outer s H E) [] (start N vs) H s1 := by
  have hpl : ps.length ≤ N.length := by have := congrArg List.length S.pre; rw [List.length_take] at this; omega
  obtain ⟨h1, tk, rfl, hk⟩ := x.done
  have noA : ∀ b : Addr, b ∉ (cxOf CX P w K mg base N qual scope f cd A outer s H E).ex := fun b z => absurd (show b ∈ ([] : List Addr) from z) (by simp)
  refine ⟨⟨e0.mod, S.kind, rfl, rfl, Nat.le_refl _, fun y z c h1 h2 => ?_, fun y hy => ?_, fun y c _ h => ?_, fun _ => hd, Around.frames_deeper e0.frames, .inr ⟨rfl, rfl⟩, fun b z => absurd z (noA b), e0.bs, e0.bsz, fun b _ _ => noA b, fun b z => absurd z (noA b), e0.funs, e0.frf⟩,
    rfl, e0.bare, Un.kept hk, ⟨_, x.toInCall.ns, fun i y v h1 h2 h3 => ?_⟩, fun y c h => ⟨_, x.cell y c h⟩, e0.hok.fresh (Nat.le_refl _), fun y c h => ?_, fun p hp => absurd (show p ∈ ([] : List (Addr × Obj)) from hp) (by simp), e0.hok.kept hk, ?_⟩
  · exact name_of_addr x.apart (PySem.mem_of_lookup h1) (PySem.mem_of_lookup h2)
  · have hy : scope.names.lookup y = some .cell ∨ scope.names.lookup y = some .free := hy
    rcases hy with hy | hy
    · exact cell_has hy
    · exact absurd rfl (S.nofree _ (PySem.mem_of_lookup hy))
  · exact Nat.le_of_lt (x.above y c (PySem.mem_of_lookup h))
  · have hi : i < vs.length := by
      unfold start at h2
      by_cases hi : i < vs.length
      · exact hi
      · rw [List.getElem?_append_right (by simpa using hi)] at h2
        rw [List.getElem?_replicate] at h2
        split at h2 <;> cases h2
    have ha : vs[i]? = some v := by
      unfold start at h2
      rw [List.getElem?_append_left (by simpa using hi), List.getElem?_map] at h2
      cases e : vs[i]? with
      | none => rw [e] at h2; cases h2
      | some a => rw [e] at h2; cases h2; rfl
    obtain ⟨u, hu, rv⟩ := r.get ha
    have hp : ps[i]? = some y := by
      rw [← S.pre, List.getElem?_take_of_lt (by omega)]; exact h1
    have ndP : ps.Nodup := by rw [← S.pre]; exact S.nd.sublist (List.take_sublist _ _)
    refine ⟨u, rv, ?_⟩
    rcases S.par y (List.mem_of_getElem? hp) with k | k
    · exact .inl ⟨k, bindL_get ndP hp hu k⟩
    · obtain ⟨c, e⟩ := cell_has (n := s.heap.objs.size + 1) k
      refine .inr ⟨.inl k, c, e, ?_⟩
      have q := x.cell y c e
      rw [bindC_get ndP hp hu (by show scope.names.lookup y ≠ _; rw [k]; decide)] at q
      exact q
  · exact e0.hok.fresh (Nat.le_of_lt (x.above y c (PySem.mem_of_lookup h)))
  · unfold start
    show _ = N.length
    rw [List.length_append, List.length_map, List.length_replicate]
    omega
theorem fn_of {CX : CXT} {P : Program} {w : World} {K : PySem.W.Frag} {mg : Str → Option Value} {base : Heap} {k : Nat} {f : Addr} {name qual : Str} {params : Arguments} {body : List Stmt} {scope : Scope} {dV kV doc pm cdv ct oc : Value} {an od : Option Addr} {osl : Array (Option Value)} {N ps : List Str} {sp : Sp} (lk : K.lookup f = some ⟨oc, od, .func (PySem.W.fnOf name qual params body scope dV kV doc pm an cdv ct), osl⟩) (hcd : PySem.W.codeIn K cdv qual = true) (S : FnScope N ps scope) (len : ∀ vs H Q E, sp vs H Q E → vs.length = ps.length) (hbody : ∀ (A : Around) (outer : List Env) (s : Shared) (H : Hp) (vs : List V) (Q : VK) (E : XK), Room k (A.deeper (envOfC qual scope s.heap.objs.size f cdv)) → sp vs H Q E → ∃ t, PSs (cxOf CX P w K mg base N qual scope f cdv A outer s H E) body t ∧ t { nx := fun _ H' => Q .non H', rt := Q } (start N vs) H) : FnOk P w K mg base CX (k + 1) f (PySem.W.fnOf name qual params body scope dV kV doc pm an cdv ct) ps sp := by
  refine ⟨len, fun A outer s H args us vs Q E hr e0 hb r hsp => ?_⟩
  have hl := len _ _ _ _ hsp
  have KX : K.In s.heap := e0.mod.kin.keeps fun b o e => (e0.bs b o e).1
  have lim : s.heap.NoLimit := e0.mod.nolimit.keeps fun b o e => (e0.bs b o e).1
  have hkind : ∀ y ∈ ps.zip us, scope.names.lookup y.1 = some .local ∨ (scope.names.lookup y.1 = some .cell ∧ ((cellsFrom (s.heap.objs.size + 1) scope.names []).lookup y.1).isSome = true) := fun ⟨n, v⟩ hy => by
    rcases S.par n (List.of_mem_zip hy).1 with q | q
    · exact .inl q
    · exact .inr ⟨q, PySem.W.cellsFrom_some _ _ _ (.inl q)⟩
  refine codeAny_call_function hr.depth (KX _ _ lk) rfl S.co S.gen rfl (PySem.W.codeRec_of KX hcd) (hb _ _ _ _ ?_)
  refine wpAny_newFunctionEnv_cells S.kind hkind fun env he s1 x => ?_
  subst he
  refine ⟨lim.keeps x.toInCall.keep, codeAny_func ?_⟩
  obtain ⟨t, ht, hq⟩ := hbody A outer s H vs Q E (hr.deeper _) hsp
  have I : Inv (cxOf CX P w K mg base N qual scope f cdv A outer s H E) [] (start N vs) H s1 := inv_start S hr.hd e0 hl r x
  refine wpAny_mono (ht [] s1 (start N vs) H _ I hq) (fun fl s' hs => ?_) fun e s' hs => hs
  have fin : ∀ {σ' : St} {H' : Hp} {v : V} {u : Value}, Inv (cxOf CX P w K mg base N qual scope f cdv A outer s H E) [] σ' H' s' → RelV v u → Q v H' → CE outer P w H s Q u s' :=
    fun {σ' H' v u} J rv q => ⟨v, H', J.os, J.bare, J.base, J.hok, rv, q⟩
  cases fl with
  | ret u =>
    obtain ⟨v, σ', H', J, rv, q⟩ := hs
    exact fin J rv q
  | next =>
    obtain ⟨σ', H', J, q⟩ := hs
    exact fin (v := V.non) (u := Value.none) J rfl q
  | brk =>
    obtain ⟨_, _, _, q⟩ := hs
    exact False.elim q
  | cont =>
    obtain ⟨_, _, _, q⟩ := hs
    exact False.elim q
end L2
namespace L2
open PySem PySem.Spec PyProof.Rows
section
variable {X : Cx} {x : Str} {p pos : Pos} {e : Expr} {es : List Expr} {t : TA} {id T : String} {r : List V → Hp → VK → Prop}
def tCB (r : List V → Hp → VK → Prop) (t : TA) : TE := fun σ H Q => t σ H fun vs H1 => r vs H1 Q
theorem pe_callB (hc : CallR X (.builtin id) r) (hg : Gl X x) (hm : X.mg x = none) (hv : bootBuiltins x = some (.builtin id)) (ha : PA X (e :: es) t) (hn : x ≠ "__name__" := by decide) (hdb : (x == ("__debug__" : Str)) = false := by decide) (he : starEach (e :: es) X.env = (false, eval e X.env) :: starEach es X.env := by rfl) (hpl : (backTo pos (starEach es X.env)).any (·.1) = false := by rfl) : PE X (.Call (.Name x p) (e :: es) [] pos) (tCB r t) := by
  intro pins s σ H Q I h
  refine wpAny_Call_Name_kw (ld_blt I hg hm hv ?_ hn hdb)
  exact PyProof.Rows.callWith_builtin1 (thn (ha pos pins s σ H _ I h) fun us s1 ⟨vs, H1, I1, r1, q1⟩ => hc pins s1 σ H1 vs us Q I1 r1 q1) he hpl
theorem pe_callTy (hc : CallR X (.type T) r) (hg : Gl X x) (hm : X.mg x = none) (hv : bootBuiltins x = some (.type T)) (ha : PA X (e :: es) t) (hn : x ≠ "__name__" := by decide) (hdb : (x == ("__debug__" : Str)) = false := by decide) (he : starEach (e :: es) X.env = (false, eval e X.env) :: starEach es X.env := by rfl) (hpl : (backTo pos (starEach es X.env)).any (·.1) = false := by rfl) : PE X (.Call (.Name x p) (e :: es) [] pos) (tCB r t) := by
  intro pins s σ H Q I h
  refine wpAny_Call_Name_kw (ld_blt I hg hm hv ?_ hn hdb)
  exact PyProof.Rows.callWith_type1 (thn (ha pos pins s σ H _ I h) fun us s1 ⟨vs, H1, I1, r1, q1⟩ => hc pins s1 σ H1 vs us Q I1 r1 q1) he hpl
end
end L2
namespace HT
open PySem PyProof.Rows
section
open PySem.SeqAt
open PySem.AutoSeq1 (wpAny_loadPart')
open PySem.MeetsSeq PySem.MeetsSeq2 PySem.MeetsSeq3
end
section
variable {prog : Program} {w : World} {A : Around} {E : Value → Shared → Prop} {s : Shared}
def sIx (n d : Nat) : Option Int → Nat
  | none => d
  | some v => if v < 0 then (v + (n : Int)).toNat else min v.toNat n
theorem sIx_none (n d : Nat) : sIx n d none = d := rfl
theorem sIx_nat (n d k : Nat) : sIx n d (some (k : Int)) = min k n := by
  show (if (k : Int) < 0 then ((k : Int) + (n : Int)).toNat else min (k : Int).toNat n) = min k n
  rw [if_neg (by omega), Int.toNat_natCast]
end
end HT
namespace L2
open PySem PySem.Spec PyProof.Rows
abbrev TO := St → Hp → (Option Int → Hp → Prop) → Prop
def PO (X : Cx) (e : Option Expr) (t : TO) : Prop :=
  ∀ (pins : List (Addr × Obj)) (s : Shared) (σ : St) (H : Hp) (Q : Option Int → Hp → Prop), Inv X pins σ H s → t σ H Q →
    wpAny (model X.prog X.w) X.A (evalPart e X.env) (fun u s' => ∃ o H', Inv X pins σ H' s' ∧ IsPart u o ∧ Q o H') X.xe s
def tNoPart : TO := fun _ H Q => Q none H
def tPart (t : TE) : TO := fun σ H Q => t σ H fun x H1 => ∃ i, x = .int i ∧ Q (some i) H1
section
variable {X : Cx} {e : Expr} {te : TE} {lo hi : Option Expr} {tl th : TO} {pos p2 : Pos}
theorem po_none : PO X none tNoPart := by
  intro pins s σ H Q I h
  rw [evalPart_none]
  exact wpAny_pure ⟨none, H, I, .none, h⟩
theorem po_some (h : PE X e te) : PO X (some e) (tPart te) := by
  intro pins s σ H Q I hw
  rw [evalPart_some]
  refine thn (h pins s σ H _ I hw) fun u s1 ⟨x, H1, I1, r1, q1⟩ => ?_
  obtain ⟨i, rfl, q⟩ := q1
  obtain ⟨t, rfl⟩ := r1
  exact ⟨some i, H1, I1, .int i t, q⟩
def SlR (X : Cx) (r : V → Option Int → Option Int → Hp → VK → Prop) : Prop :=
  ∀ (pins : List (Addr × Obj)) (s : Shared) (σ : St) (H : Hp) (x : V) (v vl vu : Value) (lo hi : Option Int) (sl : Addr) (Q : VK), Inv X pins σ H s → RelV x v → s.heap.IsSliceOf sl vl vu .none → IsPart vl lo → IsPart vu hi → r x lo hi H Q →
    ∃ T id, typeLookup (.type T) "__getitem__" = pure (some (.builtin id)) ∧ s.TypeIs v T ∧ wpAny (model X.prog X.w) X.A (getItem v (.ref sl)) (EP X pins σ Q) X.xe s
def tSl (r : V → Option Int → Option Int → Hp → VK → Prop) (te : TE) (tl th : TO) : TE := fun σ H Q => te σ H fun x H1 => tl σ H1 fun l H2 => th σ H2 fun u H3 => r x l u H3 Q
theorem pe_slice {r : V → Option Int → Option Int → Hp → VK → Prop} (hr : SlR X r) (he : PE X e te) (hl : PO X lo tl) (hu : PO X hi th) : PE X (.Subscript e (.Slice lo hi none p2) pos) (tSl r te tl th) := by
  intro pins s σ H Q I h
  refine Subscript_ (thn (he pins s σ H _ I h) fun v s1 ⟨x, H1, I1, r1, q1⟩ => ?_)
  refine wpAny_Slice (thn (hl pins s1 σ H1 _ I1 q1) fun vl s2 ⟨l, H2, I2, pl, q2⟩ => thn (hu pins s2 σ H2 _ I2 q2) fun vu s3 ⟨u, H3, I3, pu, q3⟩ => ?_)
  rw [evalPart_none]
  refine wpAny_pure ?_
  have I4 : Inv X pins σ H3 { s3 with heap := s3.heap.push { cls := .type "slice", data := .fields #[vl, vu, .none] } } := I3.kept (t' := s3.toks) fun b ob q => Heap.get?_push_of_some _ q
  obtain ⟨T, id, hT, ht, hg⟩ := hr pins { s3 with heap := s3.heap.push { cls := .type "slice", data := .fields #[vl, vu, .none] } } σ H3 x v vl vu l u s3.heap.objs.size Q I4 r1 (Heap.IsSliceOf.new ..) pl pu q3
  show wpAny (model X.prog X.w) X.A (subscriptTail e (.Slice lo hi none p2) v (.ref s3.heap.objs.size)) (EP X pins σ Q) X.xe { s3 with heap := s3.heap.push { cls := .type "slice", data := .fields #[vl, vu, .none] } }
  exact tail_any (ops := [.ref s3.heap.objs.size, v]) ht hT hg (by with_unfolding_all rfl)
def cutV (xs : List V) (lo hi : Option Int) : List V := (xs.drop (HT.sIx xs.length 0 lo)).take (HT.sIx xs.length xs.length hi - HT.sIx xs.length 0 lo)
theorem cutV_length (xs : List V) (lo hi : Option Int) : (cutV xs lo hi).length ≤ xs.length := by
  unfold cutV
  rw [List.length_take, List.length_drop]
  omega
theorem call_tupleT : CallR X (.type "tuple") (fun xs H Q => ∃ a ys, xs = [.ref a] ∧ SqT X.K H a ys ∧ Q (.ref a) H) := by
  intro pins s σ H xs us Q I r h
  obtain ⟨a, ys, rfl, ha, q⟩ := h
  obtain ⟨u, rfl, ru⟩ := vals1 r
  cases ru
  obtain ⟨its, _, p1, _⟩ := I.tuple ha
  exact call_tuple_same (items := its.toArray) p1 ⟨.ref a, H, I, rfl, q⟩
end
end L2
namespace L2
open PySem PySem.Spec PyProof.Rows
def ixN (n : Nat) (i : Int) : Option Nat := if 0 ≤ i then (if i < n then some i.toNat else none) else if -(n : Int) ≤ i then some (i + n).toNat else none
def atI {α : Type} (xs : List α) (i : Int) : Option α := (ixN xs.length i).bind fun j => xs[j]?
theorem ixN_seq {n : Nat} {i : Int} {j : Nat} (h : ixN n i = some j) : seqIndex? i n = some j ∧ j < n ∧ -(n : Int) ≤ i ∧ i < n := by
  unfold ixN at h
  by_cases h0 : 0 ≤ i
  · rw [if_pos h0] at h
    by_cases h1 : i < n
    · rw [if_pos h1] at h
      have e : i.toNat = j := Option.some.inj h
      exact ⟨by rw [seqIndex_of h0 h1, e], by omega, by omega, h1⟩
    · rw [if_neg h1] at h; cases h
  · rw [if_neg h0] at h
    by_cases h1 : -(n : Int) ≤ i
    · rw [if_pos h1] at h
      have e : (i + n).toNat = j := Option.some.inj h
      exact ⟨by rw [seqIndex_neg (by omega) h1, e], by omega, h1, by omega⟩
    · rw [if_neg h1] at h; cases h
theorem atI_get {α : Type} {xs : List α} {i : Int} {v : α} (h : atI xs i = some v) : ∃ j, seqIndex? i xs.length = some j ∧ xs[j]? = some v ∧ j < xs.length ∧ -(xs.length : Int) ≤ i ∧ i < xs.length := by
  unfold atI at h
  cases e : ixN xs.length i with
  | none => rw [e] at h; cases h
  | some j =>
    rw [e] at h
    obtain ⟨h1, h2, h3, h4⟩ := ixN_seq e
    exact ⟨j, h1, h, h2, h3, h4⟩
theorem atI_nat {α : Type} {xs : List α} {j : Nat} {v : α} (h : xs[j]? = some v) : atI xs (j : Int) = some v := by
  have hj : j < xs.length := (List.getElem?_eq_some_iff.mp h).1
  have e : ixN xs.length (j : Int) = some j := by
    unfold ixN
    rw [if_pos (by omega), if_pos (by omega)]; simp
  unfold atI; rw [e]; exact h
def PlainIx (b : Expr) : Prop := ∀ o i, subscripted b false o i = operate [o, i] (getItem o i)
def IxR (X : Cx) (r : R2) : Prop :=
  ∀ (value slice : Expr) (pins : List (Addr × Obj)) (s : Shared) (σ : St) (H : Hp) (x y : V) (v u : Value) (Q : VK), Inv X pins σ H s → RelV x v → RelV y u → r x y H Q →
    subscripted slice false v u = operate [v, u] (getItem v u) → wpAny (model X.prog X.w) X.A (subscriptTail value slice v u) (EP X pins σ Q) X.xe s
def MtR (X : Cx) (id : String) (r : V → List V → Hp → VK → Prop) : Prop :=
  ∀ (pins : List (Addr × Obj)) (s : Shared) (σ : St) (H : Hp) (x : V) (xs : List V) (v : Value) (us : List Value) (Q : VK), Inv X pins σ H s → RelV x v → Vals xs us → r x xs H Q →
    wpAny (model X.prog X.w) X.A (call (.builtin id) (v :: us)) (EP X pins σ Q) X.xe s
section
variable {X : Cx} {a b : Expr} {ta tb : TE} {pos : Pos}
theorem pe_ix {r : R2} (hr : IxR X r) (ha : PE X a ta) (hb : PE X b tb) (hs : PlainIx b) : PE X (.Subscript a b pos) (tOp r ta tb) := by
  intro pins s σ H Q I h
  exact Subscript_ (binT ha hb I h fun v u s2 x y H2 I2 rx ry q => hr a b pins s2 σ H2 x y v u Q I2 rx ry q (hs _ _))
def rIxL (K : PySem.W.Frag) : R2 := fun x y H Q => ∃ p xs i v, x = .ref p ∧ y = .int i ∧ SqL K H p xs ∧ atI xs i = some v ∧ Q v H
def rIxT (K : PySem.W.Frag) : R2 := fun x y H Q => ∃ p xs i v, x = .ref p ∧ y = .int i ∧ SqT K H p xs ∧ atI xs i = some v ∧ Q v H
def rIxS : R2 := fun x y H Q => ∃ z i c, x = .str z ∧ y = .int i ∧ z.length ≤ sizeLine ∧ atI z.cps.toList i = some c ∧ Q (.str ⟨#[c]⟩) H
theorem ix_list : IxR X (rIxL X.K) := by
  intro value slice pins s σ H x y v u Q I rx ry h hs
  obtain ⟨p, xs, i, z, rfl, rfl, hq, he, q⟩ := h
  cases rx
  obtain ⟨t, rfl⟩ := ry
  obtain ⟨its, r, pl, hz⟩ := I.list hq
  obtain ⟨j, h1, h2, h3, h4, h5⟩ := atI_get he
  obtain ⟨w, ew, rw'⟩ := r.get h2
  have hl := r.length
  have hn := line63
  have fin : EP X pins σ Q w s := ⟨z, H, I, rw', q⟩
  by_cases h0 : 0 ≤ i
  · have hj : i.toNat = j := by
      rw [seqIndex_of h0 h5] at h1
      exact Option.some.inj h1
    exact item_listR pl.isList h0 (by omega) (by rw [hj]; simpa using ew) fin hs
  · have hj : (i + (its.toArray.size : Int)).toNat = j := by
      rw [seqIndex_neg (by omega) h4] at h1
      rw [List.size_toArray, ← hl]
      exact Option.some.inj h1
    exact subscriptTail_builtinR (x := w) pl.isList.typeIs slot_list_getitem.lookup
      (wpAny_getItem_list_neg (Q := fun r s' => r = w ∧ EP X pins σ Q r s') pl.isList (by omega) (by rw [List.size_toArray] <;> omega) (by omega) (by rw [hj]; simpa using ew) ⟨rfl, fin⟩) hs
theorem ix_tup : IxR X (rIxT X.K) := by
  intro value slice pins s σ H x y v u Q I rx ry h hs
  obtain ⟨p, xs, i, z, rfl, rfl, hq, he, q⟩ := h
  cases rx
  obtain ⟨t, rfl⟩ := ry
  obtain ⟨its, r, pl, hz⟩ := I.tuple hq
  obtain ⟨j, h1, h2, h3, h4, h5⟩ := atI_get he
  obtain ⟨w, ew, rw'⟩ := r.get h2
  have hl := r.length
  have hn := line63
  have fin : EP X pins σ Q w s := ⟨z, H, I, rw', q⟩
  exact subscriptTail_builtinR (x := w) pl.typeIs slot_tuple_getitem.lookup
    (getItem_tuple (j := j) (Q := fun r s' => r = w ∧ EP X pins σ Q r s') pl (by omega) (by omega) (by rw [List.size_toArray, ← hl]; exact h1) (by simpa using ew) ⟨rfl, fin⟩) hs
theorem ix_str : IxR X rIxS := by
  intro value slice pins s σ H x y v u Q I rx ry h hs
  obtain ⟨z, i, c, rfl, rfl, hz, he, q⟩ := h
  obtain ⟨t, rfl⟩ := rx
  obtain ⟨t', rfl⟩ := ry
  obtain ⟨j, h1, h2, h3, h4, h5⟩ := atI_get he
  have hl : z.cps.toList.length = z.length := by simp [Str.length]
  rw [hl] at h1 h4 h5
  have hn := line63
  exact tail_any (typeIs_str s z t) slot_str_getitem.lookup (getItem_str (c := c) (by
    have e1 : decide (i < -(2 ^ 63 : Int)) = false := decide_eq_false (by omega)
    have e2 : decide (i ≥ 2 ^ 63) = false := decide_eq_false (by omega)
    rw [e1, e2, Bool.or_false]) (by rw [h1]; simpa using h2) ⟨.str ⟨#[c]⟩, H, I.tok _, ⟨_, rfl⟩, q⟩) hs
theorem slice_bounds (lo hi : Option Int) (n : Nat) : (sliceBounds lo hi none n).1 = ((HT.sIx n 0 lo : Nat) : Int) ∧ (sliceBounds lo hi none n).2.1 = ((HT.sIx n n hi : Nat) : Int) ∧ (sliceBounds lo hi none n).2.2 = 1 := by
  refine ⟨?_, ?_, rfl⟩
  · cases lo with
    | none => simp [sliceBounds, HT.sIx]
    | some i =>
      simp only [sliceBounds, HT.sIx, Option.getD_none, show (1 : Int) > 0 by decide, if_true]
      by_cases h : i < 0
      · simp only [h, if_true] <;> omega
      · simp only [h, if_false] <;> omega
  · cases hi with
    | none => simp [sliceBounds, HT.sIx]
    | some i =>
      simp only [sliceBounds, HT.sIx, Option.getD_none, show (1 : Int) > 0 by decide, if_true]
      by_cases h : i < 0
      · simp only [h, if_true] <;> omega
      · simp only [h, if_false] <;> omega
theorem slicePick_cut (its : List Value) (lo hi : Option Int) : slicePick its.toArray lo hi none = ((its.drop (HT.sIx its.length 0 lo)).take (HT.sIx its.length its.length hi - HT.sIx its.length 0 lo)).toArray := by
  obtain ⟨h1, h2, h3⟩ := slice_bounds lo hi its.toArray.size
  unfold slicePick
  rw [h1, h2, h3]
  simp only [sliceRange_one, pick_run, List.size_toArray] <;> rfl
def rSlL (K : PySem.W.Frag) : V → Option Int → Option Int → Hp → VK → Prop := fun x lo hi H Q => ∃ a xs, x = .ref a ∧ SqL K H a xs ∧ ∀ p, H p = none → Q (.ref p) (upd H p (.lst (cutV xs lo hi)))
theorem sl_list : SlR X (rSlL X.K) := by
  intro pins s σ H x v vl vu lo hi sl Q I rx hs pl pu h
  obtain ⟨a, xs, rfl, hx, q⟩ := h
  cases rx
  obtain ⟨its, r, ht, hz⟩ := I.list hx
  have hlen := r.length
  refine ⟨"list", _, slot_list_getitem.lookup, ht.isList.typeIs, ?_⟩
  refine wpAny_getItem_list_slice ht.isList hs pl pu .none (by simp) ?_ (by rw [List.size_toArray] <;> omega)
  rw [slicePick_cut, ← hlen]
  refine ⟨.ref s.heap.objs.size, _, I.laid (t' := s.toks) (o := .lst (cutV xs lo hi)) (fun b ob q => Heap.get?_push_of_some _ q) (Nat.le_refl _) ?_, rfl, q _ (I.hok.fresh (Nat.le_refl _))⟩
  exact ⟨Nat.le_trans (cutV_length xs lo hi) hz, _, 0, (r.drop (HT.sIx xs.length 0 lo)).take (HT.sIx xs.length xs.length hi - HT.sIx xs.length 0 lo), Heap.get?_push_size _ rfl⟩
def flatV : V → Bool
  | .non => true
  | .bl _ => true
  | .int _ => true
  | .str _ => true
  | _ => false
def eqV : V → V → Bool
  | .non, .non => true
  | .bl a, .bl b => a == b
  | .bl a, .int b => (if a then 1 else 0) == b
  | .int a, .bl b => a == (if b then 1 else 0)
  | .int a, .int b => a == b
  | .str a, .str b => a == b
  | _, _ => false
theorem eqAt_V {A : Around} {s : Shared} {y x : V} {u v : Value} (ry : RelV y u) (rx : RelV x v) (fy : flatV y = true) (fx : flatV x = true) : SeqAt.EqAt A s u v (eqV y x) := by
  cases y with
  | non =>
    cases ry
    cases x with
    | non => cases rx; exact SeqAt.EqAt.same _
    | bl b => cases rx; exact SeqAt.EqAt.none_bool b
    | int b => obtain ⟨t, rfl⟩ := rx; exact SeqAt.EqAt.none_int b t
    | str b => obtain ⟨t, rfl⟩ := rx; exact SeqAt.EqAt.none_str b t
    | _ => exact absurd (show false = true from fx) Bool.false_ne_true
  | bl a =>
    cases ry
    cases x with
    | non => cases rx; exact SeqAt.EqAt.bool_none a
    | bl b => cases rx; exact SeqAt.EqAt.bool_bool a b
    | int b => obtain ⟨t, rfl⟩ := rx; exact SeqAt.EqAt.bool_int a b t
    | str b => obtain ⟨t, rfl⟩ := rx; exact SeqAt.EqAt.bool_str a b t
    | _ => exact absurd (show false = true from fx) Bool.false_ne_true
  | int a =>
    obtain ⟨t', rfl⟩ := ry
    cases x with
    | non => cases rx; exact SeqAt.EqAt.int_none a t'
    | bl b => cases rx; exact SeqAt.EqAt.int_bool a t' b
    | int b => obtain ⟨t, rfl⟩ := rx; exact SeqAt.EqAt.int_int a t' b t
    | str b => obtain ⟨t, rfl⟩ := rx; exact SeqAt.EqAt.int_str a t' b t
    | _ => exact absurd (show false = true from fx) Bool.false_ne_true
  | str a =>
    obtain ⟨t', rfl⟩ := ry
    cases x with
    | non => cases rx; exact SeqAt.EqAt.str_none a t'
    | bl b => cases rx; exact SeqAt.EqAt.str_bool a t' b
    | int b => obtain ⟨t, rfl⟩ := rx; exact SeqAt.EqAt.str_int a t' b t
    | str b => obtain ⟨t, rfl⟩ := rx; exact SeqAt.EqAt.str_str a t' b t
    | _ => exact absurd (show false = true from fx) Bool.false_ne_true
  | _ => exact absurd (show false = true from fy) Bool.false_ne_true
def eqU (x : V) (u : Value) : Bool := match u with
  | .none => eqV .non x
  | .bool b => eqV (.bl b) x
  | .int i _ => eqV (.int i) x
  | .str z _ => eqV (.str z) x
  | _ => false
theorem eqU_of {x y : V} {u : Value} (r : RelV y u) (f : flatV y = true) : eqU x u = eqV y x := by
  cases y with
  | non => cases r; rfl
  | bl b => cases r; rfl
  | int i => obtain ⟨t, rfl⟩ := r; rfl
  | str z => obtain ⟨t, rfl⟩ := r; rfl
  | _ => exact absurd (show false = true from f) Bool.false_ne_true
theorem any_eqU {x : V} : ∀ {xs : List V} {us : List Value}, Vals xs us → xs.all flatV = true → us.any (eqU x) = xs.any fun y => eqV y x
  | _, _, .nil, _ => rfl
  | y :: xs, u :: us, .cons r t, f => by
    rw [List.all_cons, Bool.and_eq_true] at f
    rw [List.any_cons, List.any_cons, eqU_of r f.1, any_eqU t f.2]
theorem mem_eqAt {A : Around} {s : Shared} {x : V} {v : Value} (rx : RelV x v) (fx : flatV x = true) : ∀ {xs : List V} {us : List Value}, Vals xs us → xs.all flatV = true → ∀ u ∈ us, SeqAt.EqAt A s u v (eqU x u)
  | _, _, .nil, _ => fun u hu => by cases hu
  | y :: xs, u :: us, .cons r t, f => fun u' hu => by
    rw [List.all_cons, Bool.and_eq_true] at f
    rcases List.mem_cons.mp hu with rfl | hu
    · rw [eqU_of r f.1]; exact eqAt_V r rx f.1 fx
    · exact mem_eqAt rx fx t f.2 u' hu
def inV (x : V) (xs : List V) : Bool := xs.any fun y => eqV y x
def rIn (K : PySem.W.Frag) (neg : Bool) : R2 := fun x y H Q => ∃ p xs, y = .ref p ∧ (SqL K H p xs ∨ SqT K H p xs) ∧ flatV x = true ∧ xs.all flatV = true ∧ Q (.bl (if neg then !inV x xs else inV x xs)) H
theorem op_in_seq : OpR X (compareOp .In) (rIn X.K false) := by
  intro pins s σ H x y v u Q I rx ry h
  obtain ⟨p, xs, rfl, hq, fx, fs, q⟩ := h
  cases ry
  rcases hq with hq | hq
  · obtain ⟨its, r, pl, hz⟩ := I.list hq
    refine SeqAt.in_listAt (eqU x) pl.isList (fun w hw => mem_eqAt rx fx r fs w (by simpa using hw)) ⟨.bl _, H, I, rfl, ?_⟩
    rw [show its.toArray.any (eqU x) = its.any (eqU x) by simp, any_eqU r fs]
    exact q
  · obtain ⟨its, r, pl, hz⟩ := I.tuple hq
    refine SeqAt.in_tupleAt (eqU x) pl (fun w hw => mem_eqAt rx fx r fs w (by simpa using hw)) ⟨.bl _, H, I, rfl, ?_⟩
    rw [show its.toArray.any (eqU x) = its.any (eqU x) by simp, any_eqU r fs]
    exact q
theorem op_notIn_seq : OpR X (compareOp .NotIn) (rIn X.K true) := by
  intro pins s σ H x y v u Q I rx ry h
  obtain ⟨p, xs, rfl, hq, fx, fs, q⟩ := h
  cases ry
  rcases hq with hq | hq
  · obtain ⟨its, r, pl, hz⟩ := I.list hq
    refine SeqAt.notIn_listAt (eqU x) pl.isList (fun w hw => mem_eqAt rx fx r fs w (by simpa using hw)) ⟨.bl _, H, I, rfl, ?_⟩
    rw [show its.toArray.any (eqU x) = its.any (eqU x) by simp, any_eqU r fs]
    exact q
  · obtain ⟨its, r, pl, hz⟩ := I.tuple hq
    refine SeqAt.notIn_tupleAt (eqU x) pl (fun w hw => mem_eqAt rx fx r fs w (by simpa using hw)) ⟨.bl _, H, I, rfl, ?_⟩
    rw [show its.toArray.any (eqU x) = its.any (eqU x) by simp, any_eqU r fs]
    exact q
theorem call_len_seq : CallR X (.builtin "len") (fun xs H Q => ∃ p ys, xs = [.ref p] ∧ (SqL X.K H p ys ∨ SqT X.K H p ys) ∧ Q (.int ys.length) H) := by
  intro pins s σ H xs us Q I r h
  obtain ⟨p, ys, rfl, hq, q⟩ := h
  obtain ⟨u, rfl, rx⟩ := vals1 r
  cases rx
  have hn := line63
  rcases hq with hq | hq
  · obtain ⟨its, r', pl, hz⟩ := I.list hq
    have hlen := r'.length
    exact Calls.call_len_list pl.isList (by simp only [List.size_toArray] <;> omega) ⟨.int ys.length, H, I.tok _, ⟨s.toks + 1, by rw [List.size_toArray, hlen]⟩, q⟩
  · obtain ⟨its, r', pl, hz⟩ := I.tuple hq
    have hlen := r'.length
    exact len_tuple pl (by simp only [List.size_toArray] <;> omega) ⟨.int ys.length, H, I.tok _, ⟨s.toks + 1, by rw [List.size_toArray, hlen]⟩, q⟩
theorem call_len_str : CallR X (.builtin "len") (fun xs H Q => ∃ z, xs = [.str z] ∧ z.length ≤ sizeLine ∧ Q (.int z.length) H) := by
  intro pins s σ H xs us Q I r h
  obtain ⟨z, rfl, hz, q⟩ := h
  obtain ⟨u, rfl, t, rfl⟩ := vals1 r
  have hn := line63
  exact len_str (by omega) ⟨.int z.length, H, I.tok _, ⟨_, rfl⟩, q⟩
theorem call_list_of : CallR X (.type "list") (fun xs H Q => ∃ p ys, xs = [.ref p] ∧ (SqL X.K H p ys ∨ SqT X.K H p ys) ∧ ∀ l, H l = none → Q (.ref l) (upd H l (.lst ys))) := by
  intro pins s σ H xs us Q I r h
  obtain ⟨p, ys, rfl, hq, q⟩ := h
  obtain ⟨u, rfl, rx⟩ := vals1 r
  cases rx
  have fin : ∀ (its : List Value), Vals ys its → ys.length ≤ sizeLine → ∀ (h' : Heap) (c' : Nat), (∀ b o', s.heap.get? b = some o' → h'.get? b = some o') →
      h'.get? s.heap.objs.size = some { cls := .type "list", dict := none, data := .seq its.toArray c', slots := #[] } → EP X pins σ Q (.ref s.heap.objs.size) { s with heap := h' } := fun its r' hz h' c' kp e =>
    ⟨.ref s.heap.objs.size, _, I.laid (t' := s.toks) kp (Nat.le_refl _) (show ObjOk X.prog X.w _ h' _ (.lst ys) from ⟨hz, its, c', r', e⟩), rfl, q _ (I.hok.fresh (Nat.le_refl _))⟩
  rcases hq with hq | hq
  · obtain ⟨its, r', pl, hz⟩ := I.list hq
    have hlen := r'.length
    obtain ⟨o, ho, hc, n, hd⟩ := pl.isList
    exact call_list_seq p (.inl rfl) ho hc hd (fun h' c' kp e => fin its r' hz h' c' kp e) (by simp only [List.size_toArray] <;> omega)
  · obtain ⟨its, r', pl, hz⟩ := I.tuple hq
    have hlen := r'.length
    obtain ⟨o, ho, hc, n, hd⟩ := pl
    exact call_list_seq p (.inr rfl) ho hc hd (fun h' c' kp e => fin its r' hz h' c' kp e) (by simp only [List.size_toArray] <;> omega)
def tyV (K : PySem.W.Frag) (T : String) (x : V) (H : Hp) : Prop := match x with
  | .str _ => T = "str"
  | .int _ => T = "int"
  | .ref p => (T = "list" ∧ ∃ xs, SqL K H p xs) ∨ (T = "tuple" ∧ ∃ o, K.lookup p = some o ∧ o.cls = .type "tuple" ∧ o.dict = none) ∨
      (T = "dict" ∧ ((∃ kvs, H p = some (.dK kvs)) ∨ (∃ kvs, H p = some (.dT kvs)) ∨ ∃ tg o kvs, H p = some (.kd tg o kvs))) ∨ (T = "set" ∧ ∃ S n, H p = some (.set S n)) ∨
      (T = "list" ∧ ∃ (a : Addr) (ls : MLs) (ns : List Nat) (j : Nat) (f : Nat → List (Key × FD)) (N : Nat), H a = some (.memoX ls ns) ∧ ls[j]? = some (p, f) ∧ ns[j]? = some N)
  | _ => False
theorem tyV_is {pins : List (Addr × Obj)} {σ : St} {H : Hp} {s : Shared} {T : String} {x : V} {v : Value} (I : Inv X pins σ H s) (r : RelV x v) (ty : tyV X.K T x H) : s.TypeIs v T ∧ ∀ a, v = .ref a → ∃ ob, s.heap.get? a = some ob ∧ ob.dict = none := by
  cases x with
  | str z =>
    obtain ⟨t, rfl⟩ := r
    cases (show T = "str" from ty)
    exact ⟨typeIs_str s z t, fun _ e => nomatch e⟩
  | int i =>
    obtain ⟨t, rfl⟩ := r
    cases (show T = "int" from ty)
    exact ⟨typeIs_int s i t, fun _ e => nomatch e⟩
  | ref p =>
    cases r
    rcases ty with ⟨rfl, xs, hq⟩ | ⟨rfl, o, hk, hc, hd⟩ | ⟨rfl, hk⟩ | ⟨rfl, S, n, hk⟩ | ⟨rfl, a, ls, ns, j, f, N, h1, h2, h3⟩
    · obtain ⟨its, _, pl, _⟩ := I.list hq
      refine ⟨pl.isList.typeIs, fun a e => ?_⟩
      cases e
      obtain ⟨o, n, e, c, hd, _⟩ := pl
      exact ⟨o, e, hd⟩
    · refine ⟨⟨o, I.kIn p o hk, hc⟩, fun a e => ?_⟩
      cases e
      exact ⟨o, I.kIn _ o hk, hd⟩
    · have z : ∃ o, s.heap.get? p = some o ∧ o.ExactDict := by
        rcases hk with ⟨kvs, hk⟩ | ⟨kvs, hk⟩ | ⟨tg, ob, kvs, hk⟩
        · obtain ⟨_, _, _, _, o, _, _, e, ex, _⟩ := I.hok p _ hk
          exact ⟨o, e, ex⟩
        · obtain ⟨_, _, _, _, o, _, _, e, ex, _⟩ := I.hok p _ hk
          exact ⟨o, e, ex⟩
        · obtain ⟨_, ⟨_, _, _, _, o, _, _, e, ex, _⟩, _⟩ := I.hok p _ hk
          exact ⟨o, e, ex⟩
      obtain ⟨o, e, ex⟩ := z
      refine ⟨⟨o, e, ex.1⟩, fun a e2 => ?_⟩
      cases e2
      exact ⟨o, e, ex.2.1⟩
    · obtain ⟨o, _, _, _, e, ex, _⟩ := I.hok p _ hk
      refine ⟨⟨o, e, ex.1⟩, fun a e2 => ?_⟩
      cases e2
      exact ⟨o, e, ex.2.1⟩
    · obtain ⟨_, _, _, _, _, _, h6⟩ := (show ObjOk X.prog X.w H s.heap a (.memoX ls ns) from I.hok a _ h1)
      obtain ⟨its, c, e1, e2, e3⟩ := h6 j p f N h2 h3
      refine ⟨⟨_, e1, rfl⟩, fun a' e4 => ?_⟩
      cases e4
      exact ⟨_, e1, rfl⟩
  | _ => exact False.elim ty
def tBM0 (K : PySem.W.Frag) (T : String) (r : V → List V → Hp → VK → Prop) (to : TE) : TE := fun σ H Q => to σ H fun x H1 => tyV K T x H1 ∧ r x [] H1 Q
def tBM (K : PySem.W.Frag) (T : String) (r : V → List V → Hp → VK → Prop) (to : TE) (t : TA) : TE := fun σ H Q => to σ H fun x H1 => tyV K T x H1 ∧ t σ H1 fun xs H2 => r x xs H2 Q
variable {o e : Expr} {es : List Expr} {to : TE} {t : TA} {name : Str} {apos cpos : Pos} {T id : String} {r : V → List V → Hp → VK → Prop}
theorem pe_bm0 (pa : PlainAttrs T) (slot : Slot T name id) (hty : typeOf (.builtin id) = pure (.type "method_descriptor")) (hm : MtR X id r) (ho : PE X o to) (hbase : attributeBase o name X.env (eval o X.env) = eval o X.env := by rfl) (hline : (apos.endLine == cpos.line) = true := by rfl) : PE X (.Call (.Attribute o name apos) [] [] cpos) (tBM0 X.K T r to) := by
  intro pins s σ H Q I h
  refine wpAny_Call_method0_late hbase hline (thn (ho pins s σ H _ I h) fun v s1 ⟨x, H1, I1, r1, ty, q1⟩ => ?_)
  obtain ⟨h1, h2⟩ := tyV_is I1 r1 ty
  exact ⟨T, id, pa, slot, hty, h1, h2, Calls.callWith_builtin rfl (PySem.evalArgs_none (hm pins s1 σ H1 x [] v [] Q I1 r1 .nil q1))⟩
theorem pe_bm (pa : PlainAttrs T) (slot : Slot T name id) (hty : typeOf (.builtin id) = pure (.type "method_descriptor")) (hm : MtR X id r) (ho : PE X o to) (ha : PA X (e :: es) t)
    (hbase : attributeBase o name X.env (eval o X.env) = eval o X.env := by rfl)
    (hfew : ((backTo cpos (starEach (e :: es) X.env)).all (fun x => !x.1) && (backToKw cpos (keywordEach [] X.env)).all (fun x => x.1.isSome)
      && decide ((e :: es).length + ([] : List Keyword).length + (if ([] : List Keyword).isEmpty then 0 else 1) < 30)) = true := by rfl)
    (hline : (apos.endLine == cpos.line) = true := by rfl) (hs : starEach (e :: es) X.env = (false, eval e X.env) :: starEach es X.env := by rfl) (hplain : (backTo cpos (starEach es X.env)).any (·.1) = false := by rfl) :
    PE X (.Call (.Attribute o name apos) (e :: es) [] cpos) (tBM X.K T r to t) := by
  intro pins s σ H Q I h
  refine wpAny_Call_method_late hbase hfew hline rfl (thn (ho pins s σ H _ I h) fun v s1 ⟨x, H1, I1, r1, ty, q1⟩ => ?_)
  obtain ⟨h1, h2⟩ := tyV_is I1 r1 ty
  refine ⟨T, id, pa, slot, hty, h1, h2, ?_⟩
  have hA := ha cpos pins s1 σ H1 _ I1 q1
  rw [hs] at hA ⊢
  refine Calls.callWith_builtin (by show (false || (backTo cpos (starEach es X.env)).any (·.1)) = false; rw [hplain] <;> rfl) (Calls.evalArgs_plain ?_)
  exact thn hA fun us s2 ⟨vs, H2, I2, r2, q2⟩ => hm pins s2 σ H2 x vs v us Q I2 r1 r2 q2
end
end L2
namespace L2
open PySem PySem.Spec PyProof.Rows
def MtM (X : Cx) (id : String) (r : V → List V → Hp → VK → Prop) : Prop :=
  ∀ (pins : List (Addr × Obj)) (s : Shared) (σ : St) (H : Hp) (x : V) (xs : List V) (v : Value) (us : List Value) (Q : VK), Inv X pins σ H s → RelV x v → Vals xs us → r x xs H Q →
    wpAny (model X.prog X.w) X.A (call (.builtin id) (v :: us)) (EP X pins σ Q) X.xe s
theorem Vals.one : ∀ {x : V} {us : List Value}, Vals [x] us → ∃ u, us = [u] ∧ RelV x u
  | _, _, .cons r .nil => ⟨_, rfl, r⟩
section
variable {X : Cx} {pins : List (Addr × Obj)} {σ : St} {H : Hp} {s : Shared} {l b : Addr} {xs ys zs : List V}
theorem Inv.lset {its its' : List Value} {n : Nat} {f : Array Value → Array Value} {t' : Nat} (I : Inv X pins σ H s) (hH : H l = some (.lst xs)) (e : s.heap.get? l = some { cls := .type "list", data := .seq its.toArray n }) (hf : f its.toArray = its'.toArray) (hv : Vals ys its') (hz : ys.length ≤ sizeLine) : Inv X pins σ (upd H l (.lst ys)) { s with heap := s.heap.update l (Obj.mapSeq f), toks := t' } := by
  have q := PySem.IsL.update e f
  rw [hf] at q
  refine I.write (x := l) (e := l) (by rw [hH]; exact trivial) (.inl rfl) (fun b' u hb hu => (Heap.get?_update_other s.heap (Obj.mapSeq f) (Ne.symm hb)).trans hu) ⟨_, q⟩ ?_
  exact ⟨hz, its', _, hv, q⟩
theorem Inv.lnew {its : List Value} {t' : Nat} (I : Inv X pins σ H s) (hv : Vals ys its) (hz : ys.length ≤ sizeLine) : Inv X pins σ (upd H s.heap.objs.size (.lst ys)) { s with heap := s.heap.push { cls := .type "list", data := .seq its.toArray }, toks := t' } :=
  I.laid (fun _ _ q => Heap.get?_push_of_some _ q) (Nat.le_refl _) ⟨hz, its, 0, hv, Heap.get?_push_size _ rfl⟩
theorem Inv.fresh (I : Inv X pins σ H s) : H s.heap.objs.size = none := I.hok.fresh (Nat.le_refl _)
theorem Inv.lstM (I : Inv X pins σ H s) (hH : H l = some (.lst xs)) : xs.length ≤ sizeLine ∧ ∃ (its : List Value) (n : Nat), Vals xs its ∧ xs.length = its.length ∧ s.heap.get? l = some { cls := .type "list", data := .seq its.toArray n } := by
  obtain ⟨z, its, n, r, e⟩ := I.hok l _ hH
  exact ⟨z, its, n, r, r.length, e⟩
end
section
variable {X : Cx}
def rAppend : V → List V → Hp → VK → Prop := fun x vs H Q => ∃ l xs y, x = .ref l ∧ vs = [y] ∧ H l = some (.lst xs) ∧ xs.length < sizeLine ∧ Q .non (upd H l (.lst (xs ++ [y])))
theorem mt_append : MtM X "list.append" rAppend := by
  intro pins s σ H x vs v us Q I rx rv h
  obtain ⟨l, xs, y, rfl, rfl, hH, hz, q⟩ := h
  cases rx
  obtain ⟨u, rfl, ru⟩ := rv.one
  obtain ⟨z, its, n, r, hl, e⟩ := I.lstM hH
  refine call_meets F.slot_list_append ⟨_, e, rfl⟩ F.entry_list_append (F.args_list_append_2 _ _) (PySem.list_append l its.toArray n u (by rw [List.size_toArray]; omega)) ⟨e, ?_⟩
  refine ⟨.non, _, I.lset (its' := its ++ [u]) hH e (by simp) (r.append (.cons ru .nil)) ?_, rfl, q⟩
  rw [List.length_append, List.length_singleton]
  omega
def rCat : R2 := fun x y H Q => ∃ l b xs zs, x = .ref l ∧ y = .ref b ∧ H l = some (.lst xs) ∧ H b = some (.lst zs) ∧ xs.length + zs.length ≤ sizeLine ∧ ∀ p, H p = none → Q (.ref p) (upd H p (.lst (xs ++ zs)))
theorem op_cat : OpR X (binaryOp .Add) rCat := by
  intro pins s σ H x y v u Q I rx ry h
  obtain ⟨l, b, xs, zs, rfl, rfl, hH, hB, hz, q⟩ := h
  cases rx
  cases ry
  obtain ⟨z, its, n, r, hl, e⟩ := I.lstM hH
  obtain ⟨z2, its2, n2, r2, hl2, e2⟩ := I.lstM hB
  refine PySem.P.add_list e e2 ?_ (by rw [List.size_toArray, List.size_toArray]; omega)
  have ea : its.toArray ++ its2.toArray = (its ++ its2).toArray := by simp
  rw [ea]
  exact ⟨.ref _, _, I.lnew (t' := s.toks) (r.append r2) (by rw [List.length_append]; omega), rfl, q _ I.fresh⟩
end
section
variable {prog : Program} {w : World} {A : Around} {E : Value → Shared → Prop} {s : Shared}
end
section
variable {X : Cx}
end
end L2
namespace L2
open PySem PySem.Spec PyProof.Rows
section
variable {κ : Type} [DecidableEq κ]
def valV (kvs : List (κ × V)) (k : κ) : Option V := (kvs.find? fun kv => decide (kv.1 = k)).map (·.2)
def putK (kvs : List (κ × V)) (k : κ) (v : V) : List (κ × V) :=
  if (kvs.any fun kv => decide (kv.1 = k)) = true then kvs.map (fun kv => if kv.1 = k then (kv.1, v) else kv) else kvs ++ [(k, v)]
theorem valV_pos {p : κ × V} {r : List (κ × V)} {k : κ} (e : p.1 = k) : valV (p :: r) k = some p.2 := by simp [valV, List.find?_cons, e]
theorem valV_neg {p : κ × V} {r : List (κ × V)} {k : κ} (e : ¬ p.1 = k) : valV (p :: r) k = valV r k := by simp [valV, List.find?_cons, e]
theorem valV_any (k : κ) : ∀ kvs : List (κ × V), (kvs.any fun kv => decide (kv.1 = k)) = (valV kvs k).isSome
  | [] => rfl
  | p :: r => by
    rw [List.any_cons]
    by_cases e : p.1 = k
    · simp only [valV_pos e, decide_eq_true e, Bool.true_or, Option.isSome_some]
    · rw [valV_neg e, decide_eq_false e, Bool.false_or]; exact valV_any k r
theorem length_putK (kvs : List (κ × V)) (k : κ) (v : V) : (putK kvs k v).length ≤ kvs.length + 1 := by
  unfold putK
  split
  · rw [List.length_map]; omega
  · rw [List.length_append, List.length_cons, List.length_nil]; omega
theorem RelO.isSome_eq {o : Option V} {u : Option Value} (r : RelO o u) : o.isSome = u.isSome := by
  cases o with
  | none => cases u with
    | none => rfl
    | some _ => exact (show False from r).elim
  | some _ => cases u with
    | none => exact (show False from r).elim
    | some _ => rfl
theorem KV.val {kvs : List (κ × V)} {vs : List (κ × Value)} (r : KV kvs vs) (k : κ) : RelO (valV kvs k) (valueAt vs k) := by
  unfold KV at r
  induction r with
  | nil => exact True.intro
  | @cons p q ps qs h t ih =>
    obtain ⟨h1, h2⟩ := h
    by_cases e : p.1 = k
    · have e' : q.1 = k := h1.symm.trans e
      have b : valueAt (q :: qs) k = some q.2 := by simp [valueAt, List.find?_cons, e']
      rw [valV_pos e, b]; exact h2
    · have e' : ¬ q.1 = k := fun z => e (h1.trans z)
      have b : valueAt (q :: qs) k = valueAt qs k := by simp [valueAt, List.find?_cons, e']
      rw [valV_neg e, b]; exact ih
theorem KV.any {kvs : List (κ × V)} {vs : List (κ × Value)} (r : KV kvs vs) (k : κ) : (kvs.any fun kv => decide (kv.1 = k)) = vs.any fun kv => decide (kv.1 = k) := by
  unfold KV at r
  induction r with
  | nil => rfl
  | cons h t ih => rw [List.any_cons, List.any_cons, ih, h.1]
theorem KV.repl {kvs : List (κ × V)} {vs : List (κ × Value)} (r : KV kvs vs) (k : κ) {y : V} {u : Value} (ry : RelV y u) : KV (kvs.map fun kv => if kv.1 = k then (kv.1, y) else kv) (vs.map fun kv => if kv.1 = k then (kv.1, u) else kv) := by
  unfold KV at r ⊢
  induction r with
  | nil => exact .nil
  | @cons p q ps qs h t ih =>
    rw [List.map_cons, List.map_cons]
    refine .cons ?_ ih
    obtain ⟨h1, h2⟩ := h
    by_cases e : p.1 = k
    · rw [if_pos e, if_pos (h1.symm.trans e)]; exact ⟨h1, ry⟩
    · rw [if_neg e, if_neg (fun z => e (h1.trans z))]; exact ⟨h1, h2⟩
theorem KV.put {kvs : List (κ × V)} {vs : List (κ × Value)} (r : KV kvs vs) (k : κ) {y : V} {u : Value} (ry : RelV y u) : KV (putK kvs k y) (stored vs k u) := by
  unfold putK stored
  rw [r.any k]
  by_cases e : (vs.any fun kv => decide (kv.1 = k)) = true
  · rw [if_pos e, if_pos e]; exact r.repl k ry
  · rw [if_neg e, if_neg e]; exact Paired.snoc r ⟨rfl, ry⟩
theorem KV.length {kvs : List (κ × V)} {vs : List (κ × Value)} (r : KV kvs vs) : kvs.length = vs.length := Paired.length r
end
theorem kV_is {P : Program} {w : World} {k : Key} {u : Value} (r : RelV (kV k) u) : (mixKind P w).is k u = true := by
  cases k with
  | inl i => obtain ⟨t, e⟩ := (show ∃ t, u = Value.int i t from r); subst e; exact mixKind_int P w i t
  | inr x => obtain ⟨t, e⟩ := (show ∃ t, u = Value.str x t from r); subst e; exact mixKind_str P w x t
theorem items_are {P : Program} {w : World} : ∀ {ks : List Key} {us : List Value}, Vals (ks.map kV) us → ItemsAre (mixKind P w) ks us
  | [], _, r => by rw [List.map_nil] at r; cases r; exact .nil
  | k :: ks, _, r => by
    rw [List.map_cons] at r
    cases r with
    | cons h t => exact .cons (kV_is h) (items_are t)
abbrev KT (H : Hp) : List (List Key × V) → List (List Key × Addr × Value) → Prop := Paired fun p q => p.1 = q.1 ∧ H q.2.1 = some (.tup (p.1.map kV)) ∧ RelV p.2 q.2.2
theorem KT.val {H : Hp} {kvs : List (List Key × V)} {xs : List (List Key × Addr × Value)} (r : KT H kvs xs) (k : List Key) : RelO (valV kvs k) ((atKey xs k).map (·.2)) := by
  induction r with
  | nil => exact True.intro
  | @cons p q ps qs h t ih =>
    obtain ⟨h1, _, h2⟩ := h
    by_cases e : p.1 = k
    · have e' : q.1 = k := h1.symm.trans e
      have b : atKey (q :: qs) k = some q.2 := by simp [atKey, List.find?_cons, e']
      rw [valV_pos e, b]; exact h2
    · have e' : ¬ q.1 = k := fun z => e (h1.trans z)
      have b : atKey (q :: qs) k = atKey qs k := by simp [atKey, List.find?_cons, e']
      rw [valV_neg e, b]; exact ih
theorem KT.repl {H : Hp} {kvs : List (List Key × V)} {xs : List (List Key × Addr × Value)} (r : KT H kvs xs) (k : List Key) {y : V} {u : Value} (ry : RelV y u) : KT H (kvs.map fun kv => if kv.1 = k then (kv.1, y) else kv) (xs.map (putAt k u)) := by
  induction r with
  | nil => exact .nil
  | @cons p q ps qs h t ih =>
    rw [List.map_cons, List.map_cons]
    refine .cons ?_ ih
    obtain ⟨h1, h2, h3⟩ := h
    unfold putAt
    by_cases e : p.1 = k
    · rw [if_pos e, if_pos (h1.symm.trans e)]; exact ⟨h1, h2, ry⟩
    · rw [if_neg e, if_neg (fun z => e (h1.trans z))]; exact ⟨h1, h2, h3⟩
theorem KT.put {H : Hp} {kvs : List (List Key × V)} {xs : List (List Key × Addr × Value)} (r : KT H kvs xs) (k : List Key) {b : Addr} {y : V} {u : Value} (hb : H b = some (.tup (k.map kV))) (ry : RelV y u) : KT H (putK kvs k y) (storedH xs k b u) := by
  have e : (kvs.any fun kv => decide (kv.1 = k)) = (atKey xs k).isSome := by
    rw [valV_any, (r.val k).isSome_eq, Option.isSome_map]
  unfold putK storedH
  rw [e]
  by_cases q : (atKey xs k).isSome = true
  · rw [if_pos q, if_pos q]; exact r.repl k ry
  · rw [if_neg q, if_neg q]; exact Paired.snoc r ⟨rfl, hb, ry⟩
theorem KT.keeps {H H' : Hp} {kvs : List (List Key × V)} {xs : List (List Key × Addr × Value)} (r : KT H kvs xs) (ht : ∀ b ys, H b = some (.tup ys) → H' b = some (.tup ys)) : KT H' kvs xs :=
  Paired.mapP r fun _ _ z => ⟨z.1, ht _ _ z.2.1, z.2.2⟩
section
variable {P : Program} {w : World} {H : Hp} {h : Heap} {a : Addr}
theorem rd_of {u : HO} (ok : HOk P w H h) (e : Rd H a u) : ObjOk P w H h a u := e.ok ok
theorem dk_rd {kvs : List (Key × V)} (ok : HOk P w H h) (e : Rd H a (.dK kvs)) : kvs.length ≤ sizeLine ∧ (a == sysModules) = false ∧ ∃ vs, KV kvs vs ∧ h.DictOf (mixKind P w) a vs :=
  show ObjOk P w H h a (.dK kvs) from rd_of ok e
theorem dk_of {kvs : List (Key × V)} (ok : HOk P w H h) (e : H a = some (.dK kvs)) : kvs.length ≤ sizeLine ∧ (a == sysModules) = false ∧ ∃ vs, KV kvs vs ∧ h.DictOf (mixKind P w) a vs := dk_rd ok (.inl e)
theorem key_of {ks : List Key} (ok : HOk P w H h) (e : H a = some (.tup (ks.map kV))) : (tupleKind (mixKind P w)).is h ks a := by
  obtain ⟨_, its, r, o, h1, h2, n, h3⟩ := (show ObjOk P w H h a (.tup (ks.map kV)) from ok a _ e)
  exact ⟨o, its.toArray, n, h1, h2, h3, by simpa using items_are r⟩
theorem dt_rd {kvs : List (List Key × V)} (ok : HOk P w H h) (e : Rd H a (.dT kvs)) : kvs.length ≤ sizeLine ∧ (a == sysModules) = false ∧ ∃ xs, KT H kvs xs ∧ h.DictOfH (tupleKind (mixKind P w)) a xs := by
  obtain ⟨z, y, xs, r, o, es, ep, h1, h2, h3, h4, h5⟩ := (show ObjOk P w H h a (.dT kvs) from rd_of ok e)
  refine ⟨z, y, xs, r, o, es, ep, h1, h2, h3, h4, fun x hx => ?_, h5⟩
  have all : ∀ {l : List (List Key × V)} {m : List (List Key × Addr × Value)}, KT H l m → ∀ x ∈ m, (tupleKind (mixKind P w)).is h x.1 x.2.1 := by
    intro l m q
    induction q with
    | nil => intro x hx; exact nomatch hx
    | @cons p q ps qs hq t ih =>
      intro x hx
      rcases List.mem_cons.mp hx with e | hx
      · subst e
        exact key_of ok (by rw [← hq.1]; exact hq.2.1)
      · exact ih x hx
  exact all r x hx
theorem dt_of {kvs : List (List Key × V)} (ok : HOk P w H h) (e : H a = some (.dT kvs)) : kvs.length ≤ sizeLine ∧ (a == sysModules) = false ∧ ∃ xs, KT H kvs xs ∧ h.DictOfH (tupleKind (mixKind P w)) a xs := dt_rd ok (.inl e)
end
def DGet (H : Hp) (a : Addr) (y : V) (r : Option V) : Prop :=
  (∃ kvs k, Rd H a (.dK kvs) ∧ y = kV k ∧ r = valV kvs k) ∨ ∃ kvs k b, Rd H a (.dT kvs) ∧ y = .ref b ∧ H b = some (.tup (k.map kV)) ∧ r = valV kvs k
def DPut (H : Hp) (a : Addr) (y v : V) (H' : Hp) : Prop :=
  (∃ kvs k, H a = some (.dK kvs) ∧ y = kV k ∧ kvs.length < sizeLine ∧ H' = upd H a (.dK (putK kvs k v))) ∨
  ∃ kvs k b, H a = some (.dT kvs) ∧ y = .ref b ∧ H b = some (.tup (k.map kV)) ∧ kvs.length < sizeLine ∧ H' = upd H a (.dT (putK kvs k v))
theorem DGet.k {H : Hp} {a : Addr} {kvs : List (Key × V)} {k : Key} (e : H a = some (.dK kvs)) : DGet H a (kV k) (valV kvs k) := .inl ⟨kvs, k, .inl e, rfl, rfl⟩
theorem DPut.k {H : Hp} {a : Addr} {kvs : List (Key × V)} {k : Key} {v : V} (e : H a = some (.dK kvs)) (hl : kvs.length < sizeLine) : DPut H a (kV k) v (upd H a (.dK (putK kvs k v))) := .inl ⟨kvs, k, e, rfl, hl, rfl⟩
section
variable {X : Cx} {pins : List (Addr × Obj)} {σ : St} {H : Hp} {s : Shared} {a : Addr} {y v : V} {u r : Value} {o : Option V} {A : Around} {E : Value → Shared → Prop}
theorem Inv.big (I : Inv X pins σ H s) : sysModules < s.heap.objs.size := by
  have h : mainGlobals < s.heap.objs.size := (I.mod.glob.keeps I.bk).lt
  exact Nat.lt_trans (by decide) h
theorem d_getItem {Q : Value → Shared → Prop} (hu : A.units + 1 < cLine) (I : Inv X pins σ H s) (g : DGet H a y (some v)) (ry : RelV y u) (h : ∀ w' s', Inv X pins σ H s' → RelV v w' → Q w' s') : wpAny (model X.prog X.w) A (getItem (.ref a) u) Q E s := by
  rcases g with ⟨kvs, k, e, ey, l⟩ | ⟨kvs, k, b, e, ey, eb, l⟩
  · subst ey
    obtain ⟨z, hd, vs, rel, dd⟩ := dk_rd I.hok e
    obtain ⟨w', hw, rw'⟩ := RelO.some_of (v := v) (o := valueAt vs k) (by rw [l]; exact rel.val k)
    exact wpAny_getItem_of (kV_is ry) dd.mapOf hw (h w' _ (I.tok _) rw')
  · subst ey
    cases (show u = Value.ref b from ry)
    obtain ⟨z, hd, xs, rel, dd⟩ := dt_rd I.hok e
    obtain ⟨w', hw, rw'⟩ := RelO.some_of (v := v) (o := (atKey xs k).map (·.2)) (by rw [l]; exact rel.val k)
    obtain ⟨p, hp, hp2⟩ := Option.map_eq_some_iff.mp hw
    refine wpAny_getItem_heap (tupleKind_room_in1 hu) (key_of I.hok eb) dd hp ?_
    rw [hp2]
    exact h w' _ (I.tok _) rw'
theorem d_notIn {Q : Value → Shared → Prop} (hu : A.units + 1 < cLine) (I : Inv X pins σ H s) (g : DGet H a y o) (ry : RelV y u) (h : ∀ s', Inv X pins σ H s' → Q (.bool (!o.isSome)) s') : wpAny (model X.prog X.w) A (compareOp .NotIn u (.ref a)) Q E s := by
  rcases g with ⟨kvs, k, e, ey, l⟩ | ⟨kvs, k, b, e, ey, eb, l⟩
  · subst ey
    obtain ⟨z, hd, vs, rel, dd⟩ := dk_rd I.hok e
    refine wpAny_notIn_of (kV_is ry) hd dd.mapOf ?_
    rw [← (rel.val k).isSome_eq, ← l]
    exact h _ (I.tok _)
  · subst ey
    cases (show u = Value.ref b from ry)
    obtain ⟨z, hd, xs, rel, dd⟩ := dt_rd I.hok e
    refine wpAny_notIn_heap (tupleKind_room_in1 hu) (key_of I.hok eb) hd dd ?_
    have q := (rel.val k).isSome_eq
    rw [Option.isSome_map] at q
    rw [← q, ← l]
    exact h _ (I.tok _)
theorem d_write {h' : Heap} {t' : Nat} {ob : HO} (I : Inv X pins σ H s) (mu : Mut (H a)) (hs : Heap.SameBut a s.heap h') (he : ∃ q, h'.get? a = some q) (new : ObjOk X.prog X.w (upd H a ob) h' a ob) : Inv X pins σ (upd H a ob) { s with heap := h', toks := t' } :=
  I.write (x := a) (e := a) mu (.inl rfl) (fun b q hb z => (hs.2 b hb).trans z) he new
theorem dk_new {P : Program} {w : World} {H' : Hp} {h' : Heap} {kvs : List (Key × V)} {vs : List (Key × Value)} (z : kvs.length ≤ sizeLine) (hd : (a == sysModules) = false) (rel : KV kvs vs) (dd : h'.DictOf (mixKind P w) a vs) : ObjOk P w H' h' a (.dK kvs) := ⟨z, hd, vs, rel, dd⟩
theorem d_setItem {H' : Hp} {Q : Unit → Shared → Prop} (hu : A.units + 1 < cLine) (I : Inv X pins σ H s) (g : DPut H a y v H') (ry : RelV y u) (rv : RelV v r) (h : ∀ s', Inv X pins σ H' s' → Q () s') : wpAny (model X.prog X.w) A (setItem (.ref a) u r) Q E s := by
  rcases g with ⟨kvs, k, e, ey, l, eH⟩ | ⟨kvs, k, b, e, ey, eb, l, eH⟩
  · subst ey eH
    obtain ⟨z, hd, vs, rel, dd⟩ := dk_of I.hok e
    have hz : vs.length ≤ sizeLine := by rw [← rel.length]; exact z
    have hl : (putK kvs k v).length ≤ sizeLine := by have := length_putK kvs k v; omega
    refine wpAny_setItem_pairs (hsz := hz) (kV_is ry) dd fun h' dd' hs => h _ ?_
    have he : ∃ q, h'.get? a = some q := let ⟨q, _, _, hq, _⟩ := dd'; ⟨q, hq⟩
    exact d_write I (by rw [e]; exact True.intro) hs he (dk_new hl hd (rel.put k rv) dd')
  · subst ey eH
    cases (show u = Value.ref b from ry)
    obtain ⟨z, hd, xs, rel, dd⟩ := dt_of I.hok e
    have hz : xs.length ≤ sizeLine := by rw [← Paired.length rel]; exact z
    have hl : (putK kvs k v).length ≤ sizeLine := by have := length_putK kvs k v; omega
    refine wpAny_setItem_heap (hsz := hz) (tupleKind_room_in1 hu) (key_of I.hok eb) dd fun h' dd' hs => h _ ?_
    obtain ⟨q, es, ep, hq, h2, h3, h4, _, h5⟩ := dd'
    refine d_write I (by rw [e]; exact True.intro) hs ⟨q, hq⟩ ⟨hl, hd, _, (rel.put k eb rv).keeps fun c ys ec => ?_, q, es, ep, hq, h2, h3, h4, h5⟩
    rw [upd_ne (ne_of ec e (fun z => nomatch z))]
    exact ec
end
section
variable {X : Cx} {pins : List (Addr × Obj)} {σ : St} {H : Hp} {s : Shared} {a : Addr} {kvs : List (Key × V)} {k : Key} {u : Value} {A : Around} {E : Value → Shared → Prop}
theorem d_len {Q : Value → Shared → Prop} (I : Inv X pins σ H s) (e : Rd H a (.dK kvs)) (h : ∀ t s', Inv X pins σ H s' → Q (.int kvs.length t) s') : wpAny (model X.prog X.w) A (call (.builtin "len") [.ref a]) Q E s := by
  obtain ⟨z, hd, vs, rel, dd⟩ := dk_rd I.hok e
  refine call_len_dict hd dd (by rw [← rel.length]; rw [sizeLine_eq] at z; omega) ?_
  rw [← rel.length]
  exact h _ _ (I.tok _)
end
def NoSl (i : Expr) : Prop := ∀ ov iv, subscripted i false ov iv = operate [ov, iv] (getItem ov iv)
theorem subD_of {prog : Program} {w : World} {A : Around} {E : Value → Shared → Prop} {s : Shared} {env : Env} {value slice : Expr} {pos : Pos} {T id : String} {Q : Value → Shared → Prop} (hl : typeLookup (.type T) "__getitem__" = pure (some (.builtin id))) (hs : NoSl slice) (h : wpAny (model prog w) A (eval value env) (fun o s₁ => wpAny (model prog w) A (eval slice env) (fun i s₂ => s₂.TypeIs o T ∧ wpAny (model prog w) A (getItem o i) Q E s₂) E s₁) E s) : wpAny (model prog w) A (eval (.Subscript value slice pos) env) Q E s := by
  refine Subscript_ (wpAny_mono h (fun o s₁ h₁ => wpAny_mono h₁ (fun i s₂ h₂ => ?_) fun _ _ x => x) fun _ _ x => x)
  obtain ⟨hT, h₂⟩ := h₂
  unfold subscriptTail
  refine wpAny_bind ?_
  rw [getitemInPython_of_ne hT.not_modules]
  refine wpAny_bind (wpAny_specialOf hT hl ?_)
  have fin : wpAny (model prog w) A (subscripted slice false o i) (fun r s₃ => wpAny (model prog w) A (letTemporaryGo value o r >>= fun _ => pure r) Q E s₃) E s₂ := by
    rw [hs o i]
    exact wpAny_operating (wpAny_mono h₂ (fun r s₃ h₃ => wpAny_bind (wpAny_letTemporaryGo (wpAny_pure h₃))) fun _ _ x => x)
  first
    | exact wpAny_pure (wpAny_bind fin)
    | exact wpAny_bind (wpAny_pure (wpAny_bind fin))
    | exact wpAny_bind fin
theorem dict_typeIs {X : Cx} {pins : List (Addr × Obj)} {σ : St} {H : Hp} {s : Shared} {a : Addr} {y : V} {o : Option V} (I : Inv X pins σ H s) (g : DGet H a y o) : s.TypeIs (.ref a) "dict" := by
  rcases g with ⟨kvs, k, e, _, _⟩ | ⟨kvs, k, b, e, _, _, _⟩
  · obtain ⟨_, _, vs, _, dd⟩ := dk_rd I.hok e
    exact dd.typeIs
  · obtain ⟨_, _, xs, _, dd⟩ := dt_rd I.hok e
    exact dd.typeIs
def tDGet (td ty : TE) : TE := fun σ H Q => td σ H fun x H1 => ty σ H1 fun y H2 => ∃ a v, x = .ref a ∧ DGet H2 a y (some v) ∧ Q v H2
def tDIn (ty td : TE) : TE := fun σ H Q => ty σ H fun y H1 => td σ H1 fun x H2 => ∃ a o, x = .ref a ∧ DGet H2 a y o ∧ Q (.bl o.isSome) H2
def tDNotIn (ty td : TE) : TE := fun σ H Q => ty σ H fun y H1 => td σ H1 fun x H2 => ∃ a o, x = .ref a ∧ DGet H2 a y o ∧ Q (.bl (!o.isSome)) H2
def sDPut (td ty tv : TE) : TS := fun D σ H => tv σ H fun v H1 => td σ H1 fun x H2 => ty σ H2 fun y H3 => ∃ a H4, x = .ref a ∧ DPut H3 a y v H4 ∧ D.nx σ H4
section
variable {X : Cx} {o i e value : Expr} {pos pos' tpos : Pos} {td ty tv : TE}
theorem pe_dget (hu : X.A.units + 1 < cLine) (ho : PE X o td) (hi : PE X i ty) (hs : NoSl i) : PE X (.Subscript o i pos) (tDGet td ty) := by
  intro pins s σ H Q I h
  refine subD_of PySem.F.slot_dict_getitem.lookup hs (thn (ho pins s σ H _ I h) fun u s1 ⟨x, H1, I1, rx, q1⟩ => thn (hi pins s1 σ H1 _ I1 q1) fun iv s2 ⟨y, H2, I2, ry, a, v, ex, g, q2⟩ => ?_)
  subst ex
  obtain rfl : u = Value.ref a := rx
  exact ⟨dict_typeIs I2 g, d_getItem hu I2 g ry fun w' s3 I3 rw' => ⟨v, H2, I3, rw', q2⟩⟩
theorem pc_dnotin (hu : X.A.units + 1 < cLine) (hi : PE X i ty) (ho : PE X o td) : PC X .NotIn i o (tDNotIn ty td) := by
  intro pins s σ H Q I h
  refine thn (hi pins s σ H _ I h) fun iv s1 ⟨y, H1, I1, ry, q1⟩ => thn (ho pins s1 σ H1 _ I1 q1) fun u s2 ⟨x, H2, I2, rx, a, ov, ex, g, q2⟩ => ?_
  subst ex
  obtain rfl : u = Value.ref a := rx
  exact d_notIn hu I2 g ry fun s3 I3 => ⟨.bl (!ov.isSome), H2, I3, rfl, q2⟩
theorem ps_dput (hu : X.A.units + 1 < cLine) (ho : PE X o td) (hi : PE X i ty) (hv : PE X value tv) (hs : swapsWith value (some (.Subscript o i pos')) pos.line X.env = pure false) : PS X (.Assign [.Subscript o i pos'] value pos) (sDPut td ty tv) := by
  intro pins s σ H D I h
  refine wpAny_Assign_Subscript (thn (hv pins s σ H _ I h) fun r s1 ⟨v, H1, I1, rv, q1⟩ => thn (ho pins s1 σ H1 _ I1 q1) fun u s2 ⟨x, H2, I2, rx, q2⟩ => thn (hi pins s2 σ H2 _ I2 q2) fun iv s3 ⟨y, H3, I3, ry, a, H4, ex, g, q3⟩ => ?_) hs
  subst ex
  obtain rfl : u = Value.ref a := rx
  exact d_setItem hu I3 g ry rv fun s4 I4 => ⟨σ, H4, I4, q3⟩
end
theorem dk_empty {P : Program} {w : World} {H : Hp} (h : Heap) (hb : sysModules < h.objs.size) : ObjOk P w H (h.push { cls := .type "dict", data := .dict #[] }) h.objs.size (.dK []) :=
  ⟨Nat.zero_le _, beq_eq_false_iff_ne.mpr (Ne.symm (Nat.ne_of_lt hb)), [], .nil, Heap.DictOf.new h⟩
def tDNewK : TE := fun _ H Q => ∀ p, H p = none → Q (.ref p) (upd H p (.dK []))
section
variable {X : Cx} {pos : Pos}
theorem pe_dnewK : PE X (.Dict [] [] pos) tDNewK := fun pins s σ H Q I h =>
  wpAny_Dict_empty ⟨.ref s.heap.objs.size, _, I.laid (a := s.heap.objs.size) (o := .dK []) (t' := s.toks) (fun _ _ q => Heap.get?_push_of_some _ q) (Nat.le_refl _) (dk_empty s.heap I.big), rfl, h _ (I.hok.fresh (Nat.le_refl _))⟩
end
structure M1 (X : Cx) (o : Expr) (m : Str) (apos : Pos) (e : Expr) (cpos : Pos) : Prop where
  base : attributeBase o m X.env (eval o X.env) = eval o X.env
  few : ((backTo cpos (starEach [e] X.env)).all (fun x => !x.1) && (backToKw cpos (keywordEach [] X.env)).all (fun x => x.1.isSome)
    && decide (([e] : List Expr).length + ([] : List Keyword).length + (if ([] : List Keyword).isEmpty then 0 else 1) < 30)) = true
  line : (apos.endLine == cpos.line) = true
  trees : backTo cpos (starEach [e] X.env) = [(false, eval e X.env)]
structure M2 (X : Cx) (o : Expr) (m : Str) (apos : Pos) (e f : Expr) (cpos : Pos) : Prop where
  base : attributeBase o m X.env (eval o X.env) = eval o X.env
  few : ((backTo cpos (starEach [e, f] X.env)).all (fun x => !x.1) && (backToKw cpos (keywordEach [] X.env)).all (fun x => x.1.isSome)
    && decide (([e, f] : List Expr).length + ([] : List Keyword).length + (if ([] : List Keyword).isEmpty then 0 else 1) < 30)) = true
  line : (apos.endLine == cpos.line) = true
  trees : backTo cpos (starEach [e, f] X.env) = [(false, eval e X.env), (false, eval f X.env)]
section
variable {X : Cx} {pins : List (Addr × Obj)} {σ : St} {H : Hp} {s : Shared} {a : Addr} {y d : V} {u r : Value} {o : Option V} {A : Around} {E : Value → Shared → Prop}
end
section
variable {X : Cx} {o e f : Expr} {apos cpos : Pos} {td ty tx : TE}
end
section
variable {X : Cx} {pins : List (Addr × Obj)} {σ : St} {H : Hp} {s : Shared} {a : Addr} {kvs : List (Key × V)} {A : Around} {E : Value → Shared → Prop}
end
section
variable {X : Cx} {pins : List (Addr × Obj)} {σ : St} {H : Hp} {s : Shared} {a : Addr} {y : V} {u : Value} {A : Around} {E : Value → Shared → Prop}
end
end L2
namespace Att
open PySem PySem.W PySem.Calls PyProof.Rows
theorem ints_of_wellAll {P : Params} {h : Heap} : ∀ (ns : List Int) (vs : List Value), WellAll P h vs (ns.map WData.int) → IntsAre vs ns := by
  intro ns
  induction ns with
  | nil =>
    intro vs w
    rw [List.map_nil] at w
    cases w
    exact .nil
  | cons n ns ih =>
    intro vs w
    rw [List.map_cons] at w
    cases w with
    | cons a b =>
      cases a
      exact .cons _ _ (ih _ b)
theorem script_of {l : OpenLaw} {n : Nat} (hn : l.most = some n) {P : Params} {h : Heap} {args : List WData} {vals : List Value} (hpre : l.row.toRowW.claim.pre args = true) (hwl : WellAll P h vals args) : ∃ a vs ns, vals = [Value.ref a] ∧ args = [WData.list (ns.map WData.int)] ∧ h.get? a = some { cls := .type "list", data := .seq vs.toArray } ∧ IntsAre vs ns ∧ ns.length ≤ n := by
  have hsh : WShape.hasAll [] args [.list .int] = true := (pre_splitW hpre).1
  have hc : l.pre.holds [] { args := args } = true := (pre_splitW hpre).2
  obtain ⟨d, r, rfl, h1, h2⟩ := hasAllW_cons hsh
  obtain rfl := hasAllW_nil h2
  obtain ⟨xs, rfl, h3⟩ := hasW_list h1
  obtain ⟨ns, rfl⟩ := items_int h3
  have hlen : ns.length ≤ n := by
    unfold OpenLaw.pre at hc
    have h4 : (WTm.not (.lt (.lit (.int (n : Int))) (.len (.arg 0)))).holds [] { args := [.list (ns.map .int)] } = true := by
      have h4 := (holds_andW hc).1
      rw [hn] at h4
      exact h4
    have h5 := condW_of h4 (w_not (w_lt w_lit (w_len_list (w_arg rfl))))
    rw [List.length_map] at h5
    refine Nat.le_of_not_lt fun q => ?_
    have q' : (n : Int) < ((ns.length : Nat) : Int) := by omega
    first
      | (rw [decide_eq_true q'] at h5; exact absurd h5 (by decide))
      | (simp at h5; omega)
  cases hwl with
  | cons w1 w2 =>
    cases w2
    cases w1 with
    | list ho hall => exact ⟨_, _, ns, rfl, rfl, ho, ints_of_wellAll ns _ hall, hlen⟩
theorem post_true (l : OpenLaw) (args : List WData) : l.row.toRowW.claim.post args (.bool true) args = true :=
  postW_of (r := l.row.toRowW) (X := (true == true))
    (show WShape.has [] (.bool true) .bool = true by first | rfl | decide | simp [WShape.has, WShape.arms, WShape.armsAll])
    (show (WTm.eq .res (.lit (.bool true))).value [] { args := args, res := some (.bool true), after := args } = some (.bool (true == true)) from w_eq_bool (w_res rfl) w_lit) rfl
theorem attach_call {l : OpenLaw} {n : Nat} {q : Program} {loose : List Str} {XP : (Str → Option Value) → Heap → Prop} {YP : World → Heap → Prop} {d : DefRec} (hn : l.most = some n) (hdf : d.params.defaults = []) (call : ∀ (w : World) (s₀ s₁ : Shared) (mg mb : Str → Option Value) (fa : Addr) (o : Obj) (pm cd doc : Value) (a : Addr) (vs : List Value) (ns : List Int), Ground q loose [] XP w s₀ mg mb s₁.heap → YP w s₁.heap → s₁.heap.get? fa = some o → o.data = .func (docDef d.name d.params d.body d.scope pm cd doc) → s₁.heap.CodeRec cd d.name → mg d.name = some (.ref fa) → s₁.heap.get? a = some { cls := .type "list", data := .seq vs.toArray } → IntsAre vs ns → ns.length ≤ n → s₁.gens = #[] → codeAny (model l.prog w) callerA (.call (.ref fa) ⟨[.ref a], []⟩) (fun r s' => r = .ok (.ret (.bool true)) ∧ OldK s₁.heap s'.heap ∧ s'.os = s₁.os ∧ AllBare s'.gens) s₁) : WalkO q loose XP YP l.row.toRowW d [] (fun f vs => PySem.call f vs) := by
  intro w s₀ s₁ mg mb G Y fa o pm cd doc dV kV ho hd hcd hD hmg hg args vals as hpre hlay hrd hwl hlo
  obtain rfl : dV = .none := Dflts.none hD hdf
  obtain rfl : kV = .none := Dflts.noKw hD
  obtain ⟨a, vs, ns, rfl, rfl, hobj, hints, hlen⟩ := script_of hn hpre hwl
  refine enter_call (codeAny_mono (call w s₀ s₁ mg mb fa o pm cd doc a vs ns G Y ho (fd_plain hd) hcd hmg hobj hints hlen hg) fun r s' hq => ?_)
  obtain ⟨rfl, h2, h3, h4⟩ := hq
  exact ⟨.inl ⟨.bool true, .bool true, [], rfl, fun _ => rfl, .bool true, post_true l _, fun _ => ⟨List.Pairwise.nil, fun _ hm => (nomatch hm)⟩⟩, h2, h3, h4⟩
section
variable {prog : Program} {w : World} {A : Around} {E : Value → Shared → Prop} {s : Shared} {K : Frag}
end
end Att
namespace L2
open PySem PySem.Spec PyProof.Rows
theorem vals_ints : ∀ {vs : List Value} {ns : List Int}, IntsAre vs ns → Vals (ns.map V.int) vs
  | _, _, .nil => .nil
  | _, _, .cons n t h => .cons ⟨t, rfl⟩ (vals_ints h)
def Only (H : Hp) : Prop := ∀ b, H b = none ∨ ∃ o xs, H b = some (.frz o (.lst xs))
theorem law_call {P : Program} {w : World} {K : PySem.W.Frag} {mg mb : Str → Option Value} {CX : CXT} {k : Nat} {fa a : Addr} {fd : FuncData} {x : Str} {sp : Sp} {s₁ : Shared} {vs : List Value} {ns : List Int} (KX : K.In s₁.heap) (hns : s₁.heap.Ns mainGlobals mg) (hb : s₁.heap.Ns builtinsNs mb) (hbb : ∀ x : Str, x ≠ "__name__" → mb x = bootBuiltins x) (hlim : s₁.heap.NoLimit) (hg : s₁.gens = #[]) (ha : s₁.heap.get? a = some { cls := .type "list", data := .seq vs.toArray }) (hi : IntsAre vs ns) (hl : ns.length ≤ sizeLine) (hr : Room k callerA) (F : ∀ base : Heap, K.In base → base.Ns mainGlobals mg → FnOk P w K mg base CX k fa fd [x] sp) (hbind : ∀ (s : Shared) (u : Value), BindsTo s fd ⟨[u], []⟩ [(x, u)]) (hsp : ∀ H : Hp, Only H → SqL K H a (ns.map V.int) → sp [.ref a] H (fun v _ => v = .bl true) fun _ _ _ => False) (hCX : ∀ H e s', CX [] H s₁ (fun _ _ _ => False) e s' → False) : codeAny (model P w) callerA (.call (.ref fa) ⟨[.ref a], []⟩) (fun r s' => r = .ok (.ret (.bool true)) ∧ OldK s₁.heap s'.heap ∧ s'.os = s₁.os ∧ AllBare s'.gens) s₁ := by
  have rv := vals_ints hi
  have lenV := hi.length
  have core : ∀ H : Hp, Only H → SqL K H a (ns.map V.int) → HOk P w H s₁.heap → (∀ b, H b ≠ none → b = a) → (H a ≠ none → K.lookup a = none) →
      codeAny (model P w) callerA (.call (.ref fa) ⟨[.ref a], []⟩) (fun r s' => r = .ok (.ret (.bool true)) ∧ OldK s₁.heap s'.heap ∧ s'.os = s₁.os ∧ AllBare s'.gens) s₁ := by
    intro H hO hS hok hA hK
    have base_of : ∀ {b : Addr} {o : Obj}, s₁.heap.get? b = some o → H b = none → (hidT s₁.heap H).get? b = some o := fun e n => hidT_get e n
    have noA : ∀ {b : Addr} {o : Obj} {es : Array DictEntry} {ep : Nat}, s₁.heap.get? b = some o → o.data = .dict es ep → H b = none := fun {b o es ep} e d => by
      cases q : H b with
      | none => rfl
      | some u =>
        have e' : b = a := hA b (by rw [q]; simp)
        subst e'
        rw [ha] at e; cases e
        have d' : Data.seq vs.toArray _ = Data.dict es ep := d
        cases d'
    have nsK : ∀ {b : Addr} {m : Str → Option Value}, s₁.heap.Ns b m → (hidT s₁.heap H).Ns b m := fun {b m} ⟨o, es, ep, e, d, r⟩ => ⟨o, es, ep, base_of e (noA e d), d, r⟩
    have hKb : K.In (hidT s₁.heap H) := fun b o e => base_of (KX b o e) (by
      cases q : H b with
      | none => rfl
      | some u =>
        have e' : b = a := hA b (by rw [q]; simp)
        subst e'
        rw [hK (by rw [q]; simp)] at e; cases e)
    have hM : Mod K mg (hidT s₁.heap H) := ⟨hKb, nsK hns, ⟨mb, nsK hb, hbb⟩, let ⟨mc, h1, h2⟩ := hlim; ⟨mc, nsK h1, h2⟩⟩
    have e0 : Env0 P w K mg (hidT s₁.heap H) callerA [] s₁ H := ⟨rfl, hM, fun b o e => of_hidT e, Nat.le_of_eq (hidT_size _ _), trivial, fun b hb => absurd (show b ∈ ([] : List Addr) from hb) (by simp), hok, .of_eq hg⟩
    refine codeAny_mono ((F _ hKb (nsK hns)).run callerA [] s₁ H ⟨[.ref a], []⟩ [.ref a] [.ref a] _ _ hr e0 (hbind s₁ (.ref a)) (.cons rfl .nil) (hsp H hO hS)) fun r s' h => ?_
    cases r with
    | error e => exact (hCX H e s' h).elim
    | ok fl =>
      cases fl with
      | next => exact False.elim h
      | brk => exact False.elim h
      | cont => exact False.elim h
      | ret u =>
        obtain ⟨v, H', os, bare, un, hok', r', q⟩ := h
        have q' : v = .bl true := q
        subst q'
        obtain rfl : u = Value.bool true := r'
        refine ⟨rfl, OldK.of_keep fun b o e => ?_, os, bare⟩
        cases q : H b with
        | none => exact un.keep b o e q (by intro z; exact absurd (show b ∈ ([] : List Addr) from z) (by simp)) (by simp)
        | some u =>
          rcases hO b with z | ⟨ob, xs, z⟩
          · rw [q] at z; cases z
          · have z2 := un.frzs b ob _ z
            obtain ⟨e1, _⟩ := hok b _ z
            obtain ⟨e2, _⟩ := hok' b _ z2
            rw [e] at e1; cases e1
            exact e2
  cases hk : K.lookup a with
  | some o =>
    have e := KX a o hk
    rw [ha] at e
    cases e
    refine core (fun _ => none) (fun _ => .inl rfl) (.inr ⟨_, vs.toArray, _, hk, rfl, rfl, rfl, by rw [List.size_toArray, lenV]; exact hl, by simpa using rv⟩) (fun b u z => by have z' : (none : Option HO) = some u := z; cases z') (fun b z => absurd rfl z) fun z => absurd rfl z
  | none =>
    refine core (fun b => if b = a then some (.frz { cls := .type "list", data := .seq vs.toArray } (.lst (ns.map V.int))) else none) (fun b => ?_) (.inl (.inr (.inl ⟨{ cls := .type "list", data := .seq vs.toArray }, if_pos rfl⟩))) (fun b u z => ?_) (fun b z => ?_) fun _ => hk
    · by_cases hb : b = a
      · exact .inr ⟨_, _, if_pos hb⟩
      · exact .inl (if_neg hb)
    · by_cases hb : b = a
      · have z' := (if_pos hb).symm.trans z
        cases z'
        subst hb
        exact ⟨ha, by rw [List.length_map]; exact hl, vs, _, rv, ha⟩
      · have z' := (if_neg hb).symm.trans z
        cases z'
    · by_cases hb : b = a
      · exact hb
      · exact absurd (if_neg hb) z
end L2
namespace L2
open PySem PySem.Spec PyProof.Rows
abbrev KOf {K : PySem.W.Frag} {h : Heap} (_ : K.In h) : PySem.W.Frag := K
theorem walk_of {l : PySem.W.OpenLaw} {n k : Nat} {q : Program} {loose : List Str} {XP : (Str → Option Value) → Heap → Prop} {YP : World → Heap → Prop} {d : DefRec} {K : Params → PySem.W.Frag} {CX : World → CXT} {sp : World → Sp} {x : Str} (hn : l.most = some n) (hn2 : n ≤ sizeLine) (hdf : d.params.defaults = []) (hr : Room k callerA) (hY : ∀ (w : World) (h : Heap), YP w h → (K w.params).In h) (F : ∀ (w : World) (mg : Str → Option Value) (fa : Addr) (h : Heap), (K w.params).In h → h.Ns mainGlobals mg → mg d.name = some (.ref fa) → ∃ fd : FuncData, (∀ (s : Shared) (u : Value), BindsTo s fd ⟨[u], []⟩ [(x, u)]) ∧ ∀ base : Heap, (K w.params).In base → base.Ns mainGlobals mg → FnOk l.prog w (K w.params) mg base (CX w) k fa fd [x] (sp w)) (hsp : ∀ (w : World) (H : Hp) (a : Addr) (ns : List Int), ns.length ≤ n → Only H → SqL (K w.params) H a (ns.map V.int) → sp w [.ref a] H (fun v _ => v = .bl true) fun _ _ _ => False) (hCX : ∀ (w : World) (H : Hp) (s : Shared) (e : Value) (s' : Shared), CX w [] H s (fun _ _ _ => False) e s' → False) : PySem.W.WalkO q loose XP YP l.row.toRowW d [] (fun f vs => PySem.call f vs) := by
  refine Att.attach_call hn hdf fun w s₀ s₁ mg mb fa o pm cd doc a vs ns G Y ho hd hcd hmg hobj hints hlen hg => ?_
  have KX := hY w _ Y
  obtain ⟨fd, hb, hF⟩ := F w mg fa _ KX G.T.g hmg
  exact law_call KX G.T.g G.T.b G.T.builtins G.T.nolimit hg hobj hints (Nat.le_trans hlen hn2) hr hF hb (fun H hO hS => hsp w H a ns hlen hO hS) fun H e s' => hCX w H s₁ e s'
theorem walk_ofK {l : PySem.W.OpenLaw} {n k : Nat} {q : Program} {loose : List Str} {XP : (Str → Option Value) → Heap → Prop} {YP : World → Heap → Prop} {d : DefRec} {K : Params → PySem.W.Frag} {CX : CXT} {sp : PySem.W.Frag → Sp} {x : Str} (hn : l.most = some n) (hn2 : n ≤ sizeLine) (hdf : d.params.defaults = []) (hr : Room k callerA) (hY : ∀ (w : World) (h : Heap), YP w h → (K w.params).In h) (F : ∀ (w : World) (mg : Str → Option Value) (fa : Addr) (h : Heap), (K w.params).In h → h.Ns mainGlobals mg → mg d.name = some (.ref fa) → ∃ fd : FuncData, (∀ (s : Shared) (u : Value), BindsTo s fd ⟨[u], []⟩ [(x, u)]) ∧ ∀ base : Heap, (K w.params).In base → base.Ns mainGlobals mg → FnOk l.prog w (K w.params) mg base CX k fa fd [x] (sp (K w.params))) (hsp : ∀ (K : PySem.W.Frag) (H : Hp) (a : Addr) (ns : List Int), ns.length ≤ n → Only H → SqL K H a (ns.map V.int) → sp K [.ref a] H (fun v _ => v = .bl true) fun _ _ _ => False) (hCX : ∀ (H : Hp) (s : Shared) (e : Value) (s' : Shared), CX [] H s (fun _ _ _ => False) e s' → False) : PySem.W.WalkO q loose XP YP l.row.toRowW d [] (fun f vs => PySem.call f vs) :=
  walk_of (K := K) (CX := fun _ => CX) (sp := fun w => sp (K w.params)) hn hn2 hdf hr hY F (fun w H a ns h1 h2 h3 => hsp (K w.params) H a ns h1 h2 h3) fun _ H s e s' => hCX H s e s'
end L2
namespace L2
open PySem PySem.Spec PyProof.Rows
def inClass (s : Stmt) (j : Nat) : Stmt := match s with
  | .ClassDef _ _ _ body _ _ _ _ _ _ _ => body.getD j (.Pass ⟨0, 0, 0, 0⟩)
  | _ => .Pass ⟨0, 0, 0, 0⟩
def defArgs (s : Stmt) : Arguments := match s with
  | .FunctionDef _ a _ _ _ _ _ _ _ _ => a
  | _ => { posonlyargs := [], args := [], vararg := none, kwonlyargs := [], kw_defaults := [], kwarg := none, defaults := [] }
def defBody (s : Stmt) : List Stmt := match s with
  | .FunctionDef _ _ b _ _ _ _ _ _ _ => b
  | _ => []
def defScope (s : Stmt) : Scope := match s with
  | .FunctionDef _ _ _ _ _ _ sc _ _ _ => sc
  | _ => { kind := .function, names := [], isGenerator := false, isCoroutine := false }
abbrev CX0 : CXT := fun _ _ _ _ _ _ => False
abbrev E0 : XK := fun _ _ _ => False
structure Fun (K : PySem.W.Frag) (x qual : Str) (st : Stmt) (f : Addr) (fd : FuncData) : Prop where
  ex : ∃ (oc : Value) (od : Option Addr) (kV doc pm : Value) (an : Option Addr) (cdv ct : Value) (osl : Array (Option Value)),
    fd = PySem.W.fnOf x qual (defArgs st) (defBody st) (defScope st) .none kV doc pm an cdv ct ∧ K.lookup f = some ⟨oc, od, .func fd, osl⟩ ∧ PySem.W.codeIn K cdv qual = true
  kp : PySem.W.keepIn K (.ref f) = true
section
variable {P : Program} {w : World} {K : PySem.W.Frag} {mg : Str → Option Value} {base : Heap}
theorem Fun.binds {x qual : Str} {st : Stmt} {f : Addr} {fd : FuncData} {ps : List Str} (F : Fun K x qual st f fd) (h : ∀ (kV doc pm : Value) (an : Option Addr) (cdv ct : Value) (us : List Value), us.length = ps.length → bindArgs (PySem.W.fnOf x qual (defArgs st) (defBody st) (defScope st) .none kV doc pm an cdv ct) ⟨us, []⟩ = pure (ps.zip us)) : Binds K fd ps [] := by
  obtain ⟨oc, od, kV, doc, pm, an, cdv, ct, osl, rfl, lk, hcd⟩ := F.ex
  exact .all (h kV doc pm an cdv ct)
theorem fun_mk {x qual : Str} {st : Stmt} {f : Addr} {oc : Value} {od an : Option Addr} {osl : Array (Option Value)} {kV doc pm cdv ct : Value} (l : K.lookup f = some ⟨oc, od, .func (PySem.W.fnOf x qual (defArgs st) (defBody st) (defScope st) .none kV doc pm an cdv ct), osl⟩) (c : PySem.W.codeIn K cdv qual = true) (k : PySem.W.keepIn K (.ref f) = true) : Fun K x qual st f (PySem.W.fnOf x qual (defArgs st) (defBody st) (defScope st) .none kV doc pm an cdv ct) := ⟨⟨oc, od, kV, doc, pm, an, cdv, ct, osl, rfl, l, c⟩, k⟩
end
section
variable {X : Cx}
end
theorem iteF {A B : Prop} (h : B) : if false = true then A else B := by
  rw [if_neg Bool.false_ne_true]
  exact h
theorem iteT {A B : Prop} (h : A) : if true = true then A else B := by
  rw [if_pos rfl]
  exact h
def Same (H H' : Hp) : Prop := ∀ b o, H b = some o → H' b = some o
theorem Same.refl (H : Hp) : Same H H := fun _ _ h => h
theorem Same.trans {H H1 H2 : Hp} (a : Same H H1) (b : Same H1 H2) : Same H H2 := fun c o h => b c o (a c o h)
theorem Same.free {H H' : Hp} (e : Same H H') {l : Addr} (h : H' l = Option.none) : H l = Option.none := by
  cases q : H l with
  | none => rfl
  | some o =>
    rw [e l o q] at h
    cases h
theorem Same.seq {K : PySem.W.Frag} {H H' : Hp} {a : Addr} {xs : List V} (e : Same H H') (h : SqL K H a xs) : SqL K H' a xs := by
  rcases h with (h | ⟨o, h⟩ | ⟨_, _, _, _, h⟩) | h
  · exact .inl (.inl (e _ _ h))
  · exact .inl (.inr (.inl ⟨o, e _ _ h⟩))
  · cases h
  · exact .inr h
section
variable {κ : Type} [DecidableEq κ]
end
end L2
set_option maxHeartbeats 4000000
namespace Sg
open PySem PySem.Spec PyProof.Rows L2 PySem.Builtin PySem.Builtin.Getset_descriptor
def IsOf (h : Heap) (x D : Addr) : Prop := ∃ ox, h.get? x = some ox ∧ ox.cls = .ref D
theorem IsOf.ty {M : Model} {h : Heap} {x D : Addr} (I : IsOf h x D) : PySem.W.Looks M h (typeOf (.ref x)) (.ref D) := by
  obtain ⟨ox, h1, h2⟩ := I
  rw [← h2]
  exact (PySem.W.Looks.ld h1).andThen .now
theorem exc_by {prog : Program} {w : World} {A : Around} {E : Value → Shared → Prop} {K : PySem.W.Frag} {s : Shared} {x D : Addr} {name : Str} {tk : Tok} {fill expr : Bool} {Q : Value → Shared → Prop} {r : Builtin.ObjectAttr.Found} (X : K.In s.heap) (I : IsOf s.heap x D)
    (hga : PySem.W.findIn K (.ref D) "__getattribute__" = some (some (.builtin "BaseException.__getattribute__"))) (hgt : PySem.W.findIn K (.ref D) "__getattr__" = some none) (hbe : PySem.W.mroIn K D (.type "BaseException") = some true)
    (hf : PySem.W.Looks (model prog w) s.heap (Builtin.ObjectAttr.find (.ref x) (.ref D) name) r)
    (h : match r with
      | .bind g a => wpAny (model prog w) A.in1 (call g [a, .ref x, .ref D]) (fun v s' => wpAny (model prog w) A (handedOut v) Q E s') (fun _ _ => False) s
      | .value v => wpAny (model prog w) A (handedOut v) Q E s
      | .missing => False) :
    wpAny (model prog w) A (getAttrBy (.ref x) (.str name tk) fill expr) Q E s := by
  obtain ⟨hh, gg, d, t, os⟩ := s
  have L0 := I.ty (M := model prog w)
  have L1 := PySem.W.looks_findIn (M := model prog w) X hga
  have L2' := PySem.W.looks_findIn (M := model prog w) X hgt
  have L4 := PySem.W.looks_mroIn (M := model prog w) X hbe
  have f3 := PySem.F.excAttr_ValueError.ga.bind (.ref x)
  unfold getAttrBy
  refine wpAny_holding (wpAny_bind (L0.at (wpAny_bind (L1.at ?_))))
  have hx2 : (Value.builtin "BaseException.__getattribute__" == Value.builtin "object.__getattribute__") = false := by
    decide +kernel
  simp only [hx2, Bool.and_false, Bool.false_eq_true, if_false]
  unfold getAttrByItsOwn hookBefore
  refine wpAny_bind (L2'.at ?_)
  refine wpAny_bind (wpAny_attempt (wpAny_holding ?_))
  unfold callGetattribute boundAndCalled
  have hx0 : (expr && onTheHeap (Value.builtin "BaseException.__getattribute__")) = false := by
    cases expr <;> rfl
  rw [hx0, f3]
  simp only [Bool.false_eq_true, if_false]
  refine wpAny_bind (wpAny_pure ?_)
  have hbi : PySem.W.Looks (model prog w) hh (isInstance (.ref x) (.type "BaseException")) true := L0.andThen L4
  refine wpAny_call (codeAny_call_builtin PySem.F.excAttr_ValueError.ga.plain PySem.F.entry_bexc_ga (@PySem.W.check_slot (model prog w) _ _ _ "BaseException.__getattribute__" "BaseException" "__getattribute__" (.ref x) [.str name tk] [] _ (by decide +kernel) (by decide +kernel) hbi (PySem.F.args_bexc_ga _ _) ?_))
  unfold Builtin.«object.__getattribute__»
  refine wpAny_bind (wpAny_pure ?_)
  show wpAny (model prog w) A.in1 (Builtin.ObjectAttr.attrName (.str name tk) >>= _) _ _ _
  unfold Builtin.ObjectAttr.attrName
  refine wpAny_bind (wpAny_pure (wpAny_bind (L0.at (wpAny_bind (hf.at ?_)))))
  cases r with
  | bind g a =>
    show wpAny (model prog w) A.in1 (Builtin.ObjectAttr.bindTo g a (.ref x) (.ref D)) _ _ _
    unfold Builtin.ObjectAttr.bindTo
    show wpAny (model prog w) A.in1 (holding [a] (call g [a, .ref x, .ref D]) >>= ret) _ _ _
    exact wpAny_bind (wpAny_holding (wpAny_mono h (fun v s' z => wpAny_pure z) fun _ _ z => z.elim))
  | value v =>
    show wpAny (model prog w) A.in1 (ret v) _ _ _
    exact wpAny_pure h
  | missing => exact h.elim
theorem cls_get {prog : Program} {w : World} {A : Around} {K : PySem.W.Frag} {s : Shared} {x D : Addr} {tp : Value} {R : Result → Shared → Prop} (X : K.In s.heap) (I : IsOf s.heap x D) (hm : PySem.W.mroIn K D (.type "object") = some true) (hR : R (.ok (.ret (.ref D))) s) : codeAny (model prog w) A (.call (.builtin "getset_descriptor.__get__") ⟨[.builtin "object.__class__", .ref x, tp], []⟩) R s := by
  obtain ⟨hh, g, dr, t, os⟩ := s
  have L0 := I.ty (M := model prog w)
  have L1 := PySem.W.looks_mroIn (M := model prog w) X hm
  have pl := PySem.W.KF.slot_gs.plain
  have ent := PySem.W.KF.entry_gs
  refine codeAny_call_builtin pl ent (PySem.W.KF.slot_gs.check _ _ _ _ _ _ _ _ PySem.W.KF.type_class (PySem.W.KF.args_gs _ _ _) ?_)
  unfold Builtin.«getset_descriptor.__get__» descrGet
  rw [PySem.W.dga_obj]
  refine wpAny_bind (wpAny_pure ?_)
  unfold descrGetter descrCheckInstance descrNameAndClass isInstance
  simp only [PySem.W.KF.owner_class]
  repeat lk
  refine ⟨Code.quiet_builtin _ (by decide +kernel), codeAny_builtin PySem.W.KF.entry_class ?_⟩
  unfold Builtin.«object.__class__» shownTypeOf
  repeat lk
  exact hR
structure TyX (K : PySem.W.Frag) (C : Addr) : Prop where
  hc : (PySem.W.clsIn K C).isSome = true
  ga : PySem.W.findIn K (.ref C) "__getattribute__" = some (some (.builtin "BaseException.__getattribute__"))
  gt : PySem.W.findIn K (.ref C) "__getattr__" = some none
  be : PySem.W.mroIn K C (.type "BaseException") = some true
  ha : PySem.W.findIn K (.ref C) "__class__" = some (some (.builtin "object.__class__"))
  hn : PySem.W.specialIn K (.builtin "object.__class__") "__get__" = some (some (.builtin "getset_descriptor.__get__"))
  htk : PySem.W.takesIn K (.builtin "object.__class__") = some true
  hm : PySem.W.mroIn K C (.type "object") = some true
theorem find_cls {M : Model} {K : PySem.W.Frag} {h : Heap} {x C : Addr} (X : K.In h) (T : TyX K C) : PySem.W.Looks M h (Builtin.ObjectAttr.find (.ref x) (.ref C) "__class__") (.bind (.builtin "getset_descriptor.__get__") (.builtin "object.__class__")) := by
  refine (PySem.W.looks_findIn X T.ha).andThen ?_
  refine (PySem.W.looks_specialIn X T.hn : PySem.W.Looks M h (Builtin.ObjectAttr.getOf (some (.builtin "object.__class__"))) _).andThen ?_
  refine ((PySem.W.looks_takesIn X T.htk).andThen .now : PySem.W.Looks M h (Builtin.ObjectAttr.dataDescriptor? (some (.builtin "object.__class__")) (some (.builtin "getset_descriptor.__get__"))) (some (.builtin "getset_descriptor.__get__", .builtin "object.__class__"))).andThen ?_
  exact PySem.W.Looks.tag .now
theorem kitx_exc {K : PySem.W.Frag} {x D : Addr} (T : TyX K D) : PySem.W.KitX K (.ref x) (.ref D) (fun h => IsOf h x D) where
  ty := fun _ _ _ I => I.ty
  it := fun M h X _ => by
    obtain ⟨cdD, hcD⟩ := Option.isSome_iff_exists.mp T.hc
    unfold PySem.W.clsIn at hcD
    split at hcD
    · rename_i u1 u2 u3 u4 hlk
      intro A' Q' E' s' k q
      unfold isType loadHead
      exact wpAny_bind (wpAny_loadPart (k _ _ (X _ _ hlk)) (wpAny_pure q))
    · cases hcD
  ne := fun h tp dd its n sl X htp => by
    obtain ⟨cdD, hcD⟩ := Option.isSome_iff_exists.mp T.hc
    refine Bool.eq_false_iff.mpr fun q => ?_
    have e : D = tp := Value.ref.inj (beq_iff_eq.mp q)
    subst e
    unfold PySem.W.clsIn at hcD
    split at hcD
    · rename_i u1 u2 u3 u4 hlk
      have z := (X _ _ hlk).symm.trans htp
      cases z
    · cases hcD
  ca := fun {prog w A E Q s} X I k => by
    unfold getAttr? getAttrBy?
    refine wpAny_bind (wpAny_mkText (wpAny_bind (wpAny_attempt ?_)))
    refine exc_by (s := { s with toks := s.toks + 1 }) X I T.ga T.gt T.be (find_cls X T) ?_
    refine wpAny_call (cls_get (s := { s with toks := s.toks + 1 }) X I T.hm ?_)
    exact PySem.W.handed_on rfl (wpAny_pure k)
end Sg
namespace Sg
open PySem PySem.Spec PyProof.Rows L2
abbrev St := L2.St
def IsOfD (h : Heap) (x C dx : Addr) : Prop := ∃ ox, h.get? x = some ox ∧ ox.cls = .ref C ∧ ox.dict = some dx ∧ ∃ vs, ox.data = .fields vs
theorem IsOfD.of {h : Heap} {x C dx : Addr} (I : IsOfD h x C dx) : IsOf h x C := let ⟨ox, h1, h2, _⟩ := I; ⟨ox, h1, h2⟩
inductive Dt where
  | non
  | bl (b : Bool)
  | int (i : Int)
  | str (x : Str)
  | tup (ds : List Dt)
  | lst (ds : List Dt)
  | scr (ns : List Int)
  | dic (kvs : List (Key × Dt))
  | obj (C : Addr) (fs : List (Str × Dt))
  | ty (n : String)
  | cls (C : Addr)
  | xo (C : Addr)
  | dicF (kvs : List (Key × Dt))
  | xof (C : Addr) (fs : List (Str × Dt))
  | dicK (kvs : List (Key × Dt))
  | memo (a : Addr) (ls : MLs) (j n : Nat)
  | memoY (a : Addr) (ls : MLs) (j n : Nat)
  | kno (a : Addr) (ls : MLs) (n : Nat)
  | gro (C : Addr) (fs : List (Str × Dt)) (gs : List (Nat → List (Key × FD))) (nm : List Str) (n : Nat)
def grF (fs : List (Str × Dt)) (nm : List Str) (a : Addr) (ls : MLs) (n : Nat) : List (Str × Dt) := fs ++ (List.range nm.length).map fun j => (nm.getD j "", .memo a ls j n)
def Known (H : Hp) (p : Addr) (f : Nat → List (Key × FD)) (n : Nat) : Prop := ∀ i, i < n → ∃ q o kvs, H q = some (.kd (some (p, i)) o kvs) ∧ FzK H kvs (f i)
def MemoAt (H : Hp) (a : Addr) (ls : MLs) : Prop := H a = some (.memo ls) ∨ ∃ ns, H a = some (.memoX ls ns)
theorem Known.mono {H H' : Hp} {p : Addr} {f : Nat → List (Key × FD)} {n : Nat} (e : ∀ b u, H b = some u → H' b = some u) (h : Known H p f n) : Known H' p f n := fun i hi => let ⟨q, o, kvs, h1, h2⟩ := h i hi; ⟨q, o, kvs, e _ _ h1, h2.kp (.of e)⟩
theorem MemoAt.mono {H H' : Hp} {a : Addr} {ls : MLs} (e : ∀ b u, H b = some u → H' b = some u) (h : MemoAt H a ls) : MemoAt H' a ls := h.imp (e _ _) fun ⟨ns, z⟩ => ⟨ns, e _ _ z⟩
mutual
inductive Rep (K : PySem.W.Frag) (H : Hp) : V → Dt → Prop
  | non : Rep K H .non .non
  | bl (b : Bool) : Rep K H (.bl b) (.bl b)
  | int (i : Int) : Rep K H (.int i) (.int i)
  | str (x : Str) : Rep K H (.str x) (.str x)
  | tup {a : Addr} {vs : List V} {ds : List Dt} : SqT K H a vs → Reps K H vs ds → Rep K H (.ref a) (.tup ds)
  | lst {a : Addr} {vs : List V} {ds : List Dt} : H a = some (.lst vs) → Reps K H vs ds → Rep K H (.ref a) (.lst ds)
  | scr {a : Addr} {ns : List Int} : SqL K H a (ns.map V.int) → Rep K H (.ref a) (.scr ns)
  | dic {a : Addr} {kvs : List (Key × V)} {kds : List (Key × Dt)} : H a = some (.dK kvs) → RepK K H kvs kds → Rep K H (.ref a) (.dic kds)
  | obj {a C dx : Addr} {fs : List (Str × V)} {ds : List (Str × Dt)} : H a = some (.ins C dx fs) → RepF K H fs ds → Rep K H (.ref a) (.obj C ds)
  | ty (n : String) : Rep K H (.ty n) (.ty n)
  | cls (C : Addr) : Rep K H (.ref C) (.cls C)
  | xo {a C : Addr} {ph : Heap → Prop} : H a = some (.ext ph) → (∀ h, ph h → IsOf h a C) → Rep K H (.ref a) (.xo C)
  | dicF {a : Addr} {ob : Obj} {kvs : List (Key × V)} {kds : List (Key × Dt)} : H a = some (.frz ob (.dK kvs)) → RepK K H kvs kds → Rep K H (.ref a) (.dicF kds)
  | xof {a C dx : Addr} {ph : Heap → Prop} {fs : List (Str × V)} {ds : List (Str × Dt)} : H a = some (.ext ph) → (∀ h, ph h → IsOfD h a C dx) → H dx = some (.xd fs) → RepF K H fs ds → Rep K H (.ref a) (.xof C ds)
  | dicK {a : Addr} {tg : Option (Addr × Nat)} {ob : Obj} {kvs : List (Key × V)} {kds : List (Key × Dt)} : H a = some (.kd tg ob kvs) → RepK K H kvs kds → Rep K H (.ref a) (.dicK kds)
  | memo {a p : Addr} {ls : MLs} {j n : Nat} {f : Nat → List (Key × FD)} : ls[j]? = some (p, f) → H a = some (.memo ls) → (p = a ∨ H p = some (.part a)) → Known H p f n → Rep K H (.ref p) (.memo a ls j n)
  | memoY {a p : Addr} {ls : MLs} {j n : Nat} {f : Nat → List (Key × FD)} : ls[j]? = some (p, f) → MemoAt H a ls → (p = a ∨ H p = some (.part a)) → Known H p f n → Rep K H (.ref p) (.memoY a ls j n)
  | kno {a : Addr} {ls : MLs} {n : Nat} : (∀ (j : Nat) (p : Addr) (f : Nat → List (Key × FD)), ls[j]? = some (p, f) → Known H p f n) → Rep K H .non (.kno a ls n)
  | gro {s a C dx : Addr} {fv : List (Str × V)} {fs : List (Str × Dt)} {gs : List (Nat → List (Key × FD))} {nm : List Str} {n : Nat} {ls : MLs} : ls.map (·.2) = gs → H s = some (.ins C dx fv) → RepF K H fv (grF fs nm a ls n) → Rep K H (.ref s) (.gro C fs gs nm n)
inductive Reps (K : PySem.W.Frag) (H : Hp) : List V → List Dt → Prop
  | nil : Reps K H [] []
  | cons {v : V} {d : Dt} {vs : List V} {ds : List Dt} : Rep K H v d → Reps K H vs ds → Reps K H (v :: vs) (d :: ds)
inductive RepK (K : PySem.W.Frag) (H : Hp) : List (Key × V) → List (Key × Dt) → Prop
  | nil : RepK K H [] []
  | cons {k : Key} {v : V} {d : Dt} {vs : List (Key × V)} {ds : List (Key × Dt)} : Rep K H v d → RepK K H vs ds → RepK K H ((k, v) :: vs) ((k, d) :: ds)
inductive RepF (K : PySem.W.Frag) (H : Hp) : List (Str × V) → List (Str × Dt) → Prop
  | nil : RepF K H [] []
  | cons {k : Str} {v : V} {d : Dt} {vs : List (Str × V)} {ds : List (Str × Dt)} : Rep K H v d → RepF K H vs ds → RepF K H ((k, v) :: vs) ((k, d) :: ds)
end
theorem Rd_same {H H' : Hp} {a : Addr} {u : HO} (e : Same H H') (h : Rd H a u) : Rd H' a u := by
  rcases h with h | ⟨o, h⟩ | ⟨tg, o, kvs, h, z⟩
  · exact .inl (e _ _ h)
  · exact .inr (.inl ⟨o, e _ _ h⟩)
  · exact .inr (.inr ⟨tg, o, kvs, e _ _ h, z⟩)
theorem SqT_same {K : PySem.W.Frag} {H H' : Hp} {a : Addr} {xs : List V} (e : Same H H') (h : SqT K H a xs) : SqT K H' a xs := by
  rcases h with h | h
  · exact .inl (Rd_same e h)
  · exact .inr h
mutual
theorem Rep.mono {K : PySem.W.Frag} {H H' : Hp} (e : Same H H') : ∀ {v : V} {d : Dt}, Rep K H v d → Rep K H' v d
  | _, _, .non => .non
  | _, _, .bl b => .bl b
  | _, _, .int i => .int i
  | _, _, .str x => .str x
  | _, _, .tup h r => .tup (SqT_same e h) (Reps.mono e r)
  | _, _, .lst h r => .lst (e _ _ h) (Reps.mono e r)
  | _, _, .scr h => .scr (e.seq h)
  | _, _, .dic h r => .dic (e _ _ h) (RepK.mono e r)
  | _, _, .obj h r => .obj (e _ _ h) (RepF.mono e r)
  | _, _, .ty n => .ty n
  | _, _, .cls C => .cls C
  | _, _, .xo h r => .xo (e _ _ h) r
  | _, _, .dicF h r => .dicF (e _ _ h) (RepK.mono e r)
  | _, _, .xof h q g r => .xof (e _ _ h) q (e _ _ g) (RepF.mono e r)
  | _, _, .dicK h r => .dicK (e _ _ h) (RepK.mono e r)
  | _, _, .memo h1 h2 h3 h4 => .memo h1 (e _ _ h2) (h3.imp id fun z => e _ _ z) (h4.mono e)
  | _, _, .memoY h1 h2 h3 h4 => .memoY h1 (h2.mono e) (h3.imp id fun z => e _ _ z) (h4.mono e)
  | _, _, .kno h => .kno fun j p f z => (h j p f z).mono e
  | _, _, .gro h1 h2 h3 => .gro h1 (e _ _ h2) (RepF.mono e h3)
theorem Reps.mono {K : PySem.W.Frag} {H H' : Hp} (e : Same H H') : ∀ {v : List V} {d : List Dt}, Reps K H v d → Reps K H' v d
  | _, _, .nil => .nil
  | _, _, .cons h r => .cons (Rep.mono e h) (Reps.mono e r)
theorem RepK.mono {K : PySem.W.Frag} {H H' : Hp} (e : Same H H') : ∀ {v : List (Key × V)} {d : List (Key × Dt)}, RepK K H v d → RepK K H' v d
  | _, _, .nil => .nil
  | _, _, .cons h r => .cons (Rep.mono e h) (RepK.mono e r)
theorem RepF.mono {K : PySem.W.Frag} {H H' : Hp} (e : Same H H') : ∀ {v : List (Str × V)} {d : List (Str × Dt)}, RepF K H v d → RepF K H' v d
  | _, _, .nil => .nil
  | _, _, .cons h r => .cons (Rep.mono e h) (RepF.mono e r)
end
theorem Reps.length {K : PySem.W.Frag} {H : Hp} : ∀ {v : List V} {d : List Dt}, Reps K H v d → v.length = d.length
  | _, _, .nil => rfl
  | _, _, .cons _ r => congrArg (· + 1) (Reps.length r)
theorem Reps.get {K : PySem.W.Frag} {H : Hp} : ∀ {v : List V} {d : List Dt} {i : Nat} {x : Dt}, Reps K H v d → d[i]? = some x → ∃ y, v[i]? = some y ∧ Rep K H y x
  | _, _, _, _, .nil, e => by simp at e
  | _, _, 0, _, .cons h _, e => by simp at e; subst e; exact ⟨_, rfl, h⟩
  | _, _, i + 1, x, .cons _ r, e => by
    obtain ⟨y, h1, h2⟩ := Reps.get (i := i) (x := x) r (by simpa using e)
    exact ⟨y, by simpa using h1, h2⟩
theorem Reps.get' {K : PySem.W.Frag} {H : Hp} {v : List V} {d : List Dt} {i : Nat} {y : V} (r : Reps K H v d) (e : v[i]? = some y) : ∃ x, d[i]? = some x ∧ Rep K H y x := by
  have hi : i < v.length := (List.getElem?_eq_some_iff.mp e).1
  have hi' : i < d.length := by rw [← r.length]; exact hi
  obtain ⟨z, h1, h2⟩ := r.get (List.getElem?_eq_getElem hi')
  rw [e] at h1; cases h1
  exact ⟨_, List.getElem?_eq_getElem hi', h2⟩
theorem Reps.append {K : PySem.W.Frag} {H : Hp} : ∀ {v : List V} {d : List Dt} {v' : List V} {d' : List Dt}, Reps K H v d → Reps K H v' d' → Reps K H (v ++ v') (d ++ d')
  | _, _, _, _, .nil, s => s
  | _, _, _, _, .cons h r, s => .cons h (Reps.append r s)
theorem Reps.take {K : PySem.W.Frag} {H : Hp} : ∀ {v : List V} {d : List Dt} (n : Nat), Reps K H v d → Reps K H (v.take n) (d.take n)
  | _, _, 0, _ => .nil
  | _, _, _ + 1, .nil => .nil
  | _, _, n + 1, .cons h r => .cons h (Reps.take n r)
theorem Reps.drop {K : PySem.W.Frag} {H : Hp} : ∀ {v : List V} {d : List Dt} (n : Nat), Reps K H v d → Reps K H (v.drop n) (d.drop n)
  | _, _, 0, r => r
  | _, _, _ + 1, .nil => .nil
  | _, _, n + 1, .cons _ r => Reps.drop n r
theorem RepF.lookup {K : PySem.W.Frag} {H : Hp} {f : Str} : ∀ {v : List (Str × V)} {d : List (Str × Dt)} {x : Dt}, RepF K H v d → d.lookup f = some x → ∃ y, v.lookup f = some y ∧ Rep K H y x
  | _, _, _, .nil, e => by simp at e
  | (k, v) :: r, (_, d) :: s, x, .cons h t, e => by
    rw [List.lookup_cons] at e ⊢
    cases q : (f == k) with
    | true => rw [q] at e; cases e; exact ⟨v, rfl, h⟩
    | false => rw [q] at e; exact RepF.lookup t e
theorem RepF.none_of {K : PySem.W.Frag} {H : Hp} {f : Str} : ∀ {v : List (Str × V)} {d : List (Str × Dt)}, RepF K H v d → d.lookup f = none → v.lookup f = none
  | _, _, .nil, _ => rfl
  | (k, v) :: r, (_, d) :: s, .cons h t, e => by
    rw [List.lookup_cons] at e ⊢
    cases q : (f == k) with
    | true => rw [q] at e; cases e
    | false => rw [q] at e; exact RepF.none_of t e
theorem RepF.length {K : PySem.W.Frag} {H : Hp} : ∀ {v : List (Str × V)} {d : List (Str × Dt)}, RepF K H v d → v.length = d.length
  | _, _, .nil => rfl
  | _, _, .cons _ r => congrArg (· + 1) (RepF.length r)
theorem RepK.length {K : PySem.W.Frag} {H : Hp} : ∀ {v : List (Key × V)} {d : List (Key × Dt)}, RepK K H v d → v.length = d.length
  | _, _, .nil => rfl
  | _, _, .cons _ r => congrArg (· + 1) (RepK.length r)
def Kept : HO → Prop
  | .kd _ _ _ => True
  | _ => False
structure Grow (Hf H Hf' H' : Hp) : Prop where
  big : Same H H'
  frz : Same Hf Hf'
  sub : Same Hf' H'
  new : ∀ a o, Hf' a = some o → (∃ o, Hf a = some o) ∨ H a = Option.none ∨ Kept o
theorem Grow.refl {Hf H : Hp} (s : Same Hf H) : Grow Hf H Hf H := ⟨Same.refl _, Same.refl _, s, fun a o h => .inl ⟨o, h⟩⟩
theorem Grow.trans {Hf H Hf1 H1 Hf2 H2 : Hp} (a : Grow Hf H Hf1 H1) (b : Grow Hf1 H1 Hf2 H2) : Grow Hf H Hf2 H2 :=
  ⟨a.big.trans b.big, a.frz.trans b.frz, b.sub, fun x o h => by
    rcases b.new x o h with ⟨o', h'⟩ | h' | h'
    · have e := b.frz _ _ h'
      rw [h] at e; cases e
      exact a.new x o h'
    · exact .inr (.inl (a.big.free h'))
    · exact .inr (.inr h')⟩
theorem Grow.notNew {Hf H Hf' H' : Hp} (g : Grow Hf H Hf' H') {a : Addr} {u o : HO} (h : H a = some u) (nk : ¬ Kept u) (q : Hf' a = some o) : ∃ o, Hf a = some o := by
  rcases g.new a o q with z | z | z
  · exact z
  · rw [h] at z; cases z
  · have e := g.big _ _ h
    rw [g.sub _ _ q] at e; cases e
    exact absurd z nk
theorem same_upd {H : Hp} {p : Addr} {o : HO} (n : H p = Option.none) : Same H (upd H p o) := fun b u e => by
  rw [upd_ne (ne_of_none e n)]; exact e
theorem same_upd2 {Hf H : Hp} {p : Addr} {o : HO} (s : Same Hf H) : Same (upd Hf p o) (upd H p o) := fun b u e => by
  by_cases hb : b = p
  · subst hb; rw [upd_same] at e ⊢; exact e
  · rw [upd_ne hb] at e ⊢; exact s _ _ e
theorem same_updO {Hf H : Hp} {p : Addr} {o : HO} (s : Same Hf H) (n : Hf p = Option.none) : Same Hf (upd H p o) := fun b u e => by
  rw [upd_ne (ne_of_none e n)]; exact s _ _ e
theorem Grow.alloc {Hf H : Hp} {p : Addr} {o : HO} (s : Same Hf H) (n : H p = Option.none) : Grow Hf H (upd Hf p o) (upd H p o) :=
  ⟨same_upd n, same_upd (s.free n), same_upd2 s, fun a u h => by
    by_cases hb : a = p
    · subst hb; exact .inr (.inl n)
    · rw [upd_ne hb] at h; exact .inl ⟨u, h⟩⟩
theorem Grow.allocO {Hf H : Hp} {p : Addr} {o : HO} (s : Same Hf H) (n : H p = Option.none) : Grow Hf H Hf (upd H p o) :=
  ⟨same_upd n, Same.refl _, same_updO s (s.free n), fun a u h => .inl ⟨u, h⟩⟩
inductive Own where
  | lst (ds : List Dt)
  | dic (kds : List (Key × Dt))
  | obj (C : Addr) (fs : List (Str × Dt))
  | slf (x : Addr) (C : Addr) (fs : List (Str × Dt))
  | objG (C : Addr) (fs : List (Str × Dt)) (gs : List (Nat → List (Key × FD))) (nm : List Str) (n : Nat)
  | slfG (x : Addr) (C : Addr) (fs : List (Str × Dt)) (gs : List (Nat → List (Key × FD))) (nm : List Str) (n : Nat)
inductive Slot where
  | unk
  | val (d : Dt)
  | own (o : Own)
def OwnAt (K : PySem.W.Frag) (Hf H : Hp) (a : Addr) : Own → Prop
  | .lst ds => ∃ vs, H a = some (.lst vs) ∧ Reps K Hf vs ds
  | .dic kds => ∃ kvs, H a = some (.dK kvs) ∧ RepK K Hf kvs kds
  | .obj C ds => ∃ dx fs, H a = some (.ins C dx fs) ∧ RepF K Hf fs ds
  | .slf x C ds => a = x ∧ ∃ dx fs, H a = some (.ins C dx fs) ∧ RepF K Hf fs ds
  | .objG C ds gs nm n => ∃ dx fs b ls, (ls : MLs).map (·.2) = gs ∧ H a = some (.ins C dx fs) ∧ RepF K Hf fs (grF ds nm b ls n)
  | .slfG x C ds gs nm n => a = x ∧ ∃ dx fs b ls, (ls : MLs).map (·.2) = gs ∧ H a = some (.ins C dx fs) ∧ RepF K Hf fs (grF ds nm b ls n)
theorem OwnAt.someN {K : PySem.W.Frag} {Hf H : Hp} {a : Addr} : ∀ {o : Own}, OwnAt K Hf H a o → ∃ u, H a = some u ∧ ¬ Kept u
  | .lst _, ⟨_, h, _⟩ => ⟨_, h, fun z => z⟩
  | .dic _, ⟨_, h, _⟩ => ⟨_, h, fun z => z⟩
  | .obj _ _, ⟨_, _, h, _⟩ => ⟨_, h, fun z => z⟩
  | .slf _ _ _, ⟨_, _, _, h, _⟩ => ⟨_, h, fun z => z⟩
  | .objG _ _ _ _ _, ⟨_, _, _, _, _, h, _⟩ => ⟨_, h, fun z => z⟩
  | .slfG _ _ _ _ _ _, ⟨_, _, _, _, _, _, h, _⟩ => ⟨_, h, fun z => z⟩
theorem OwnAt.some {K : PySem.W.Frag} {Hf H : Hp} {a : Addr} : ∀ {o : Own}, OwnAt K Hf H a o → ∃ u, H a = some u
  | .lst _, ⟨_, h, _⟩ => ⟨_, h⟩
  | .dic _, ⟨_, h, _⟩ => ⟨_, h⟩
  | .obj _ _, ⟨_, _, h, _⟩ => ⟨_, h⟩
  | .slf _ _ _, ⟨_, _, _, h, _⟩ => ⟨_, h⟩
  | .objG _ _ _ _ _, ⟨_, _, _, _, _, h, _⟩ => ⟨_, h⟩
  | .slfG _ _ _ _ _ _, ⟨_, _, _, _, _, _, h, _⟩ => ⟨_, h⟩
theorem OwnAt.grow {K : PySem.W.Frag} {Hf H Hf' H' : Hp} {a : Addr} (e : H' a = H a) (f : Same Hf Hf') : ∀ {o : Own}, OwnAt K Hf H a o → OwnAt K Hf' H' a o
  | .lst _, ⟨vs, h, r⟩ => ⟨vs, by rw [e]; exact h, r.mono f⟩
  | .dic _, ⟨vs, h, r⟩ => ⟨vs, by rw [e]; exact h, r.mono f⟩
  | .obj _ _, ⟨dx, fs, h, r⟩ => ⟨dx, fs, by rw [e]; exact h, r.mono f⟩
  | .slf _ _ _, ⟨q, dx, fs, h, r⟩ => ⟨q, dx, fs, by rw [e]; exact h, r.mono f⟩
  | .objG _ _ _ _ _, ⟨dx, fs, b, ls, q, h, r⟩ => ⟨dx, fs, b, ls, q, by rw [e]; exact h, r.mono f⟩
  | .slfG _ _ _ _ _ _, ⟨q0, dx, fs, b, ls, q, h, r⟩ => ⟨q0, dx, fs, b, ls, q, by rw [e]; exact h, r.mono f⟩
structure Gr where
  Hf : Hp
  H : Hp
structure Stt (K : PySem.W.Frag) (G : Gr) (st : L2.St) (Hf H : Hp) (dl : List Slot) : Prop where
  gr : Grow G.Hf G.H Hf H
  len : st.length = dl.length
  val : ∀ (i : Nat) d, dl[i]? = some (.val d) → ∃ v, st[i]? = some (some v) ∧ Rep K Hf v d
  own : ∀ (i : Nat) o, dl[i]? = some (.own o) → ∃ a, st[i]? = some (some (.ref a)) ∧ Hf a = Option.none ∧ G.H a = Option.none ∧ OwnAt K Hf H a o
  dis : ∀ (i j : Nat) o o' a, dl[i]? = some (.own o) → dl[j]? = some (.own o') → st[i]? = some (some (.ref a)) → st[j]? = some (some (.ref a)) → i = j
section
variable {K : PySem.W.Frag} {G : Gr} {st : L2.St} {Hf H Hf' H' : Hp} {dl dl' : List Slot}
theorem Stt.sub (S : Stt K G st Hf H dl) : Same Hf H := S.gr.sub
theorem Stt.grow (S : Stt K G st Hf H dl) (g : Grow Hf H Hf' H') : Stt K G st Hf' H' dl := by
  refine ⟨S.gr.trans g, S.len, fun i d h => let ⟨v, h1, h2⟩ := S.val i d h; ⟨v, h1, h2.mono g.frz⟩, fun i o h => ?_, S.dis⟩
  obtain ⟨a, h1, h2, h3, h4⟩ := S.own i o h
  obtain ⟨u, hu, nk⟩ := h4.someN
  refine ⟨a, h1, ?_, h3, h4.grow (by rw [hu]; exact g.big _ _ hu) g.frz⟩
  cases q : Hf' a with
  | none => rfl
  | some u' =>
    obtain ⟨o', z⟩ := g.notNew hu nk q
    rw [h2] at z; cases z
theorem Stt.set (S : Stt K G st Hf H dl) {i : Nat} {v : V} {d : Dt} (r : Rep K Hf v d) : Stt K G (st.set i (some v)) Hf H (dl.set i (.val d)) := by
  have ln := S.len
  refine ⟨S.gr, by simp [S.len], fun j x h => ?_, fun j o h => ?_, fun j k o o' a h1 h2 h3 h4 => ?_⟩
  · by_cases e : i = j
    · subst e
      by_cases hl : i < dl.length
      · rw [List.getElem?_set_self hl] at h; cases h
        exact ⟨v, List.getElem?_set_self (by omega), r⟩
      · rw [List.getElem?_eq_none (by simp; omega)] at h; cases h
    · rw [List.getElem?_set_ne e] at h ⊢; exact S.val j x h
  · by_cases e : i = j
    · subst e
      by_cases hl : i < dl.length
      · rw [List.getElem?_set_self hl] at h; cases h
      · rw [List.getElem?_eq_none (by simp; omega)] at h; cases h
    · rw [List.getElem?_set_ne e] at h ⊢; exact S.own j o h
  · have nj : i ≠ j := fun e => by
      subst e
      by_cases hl : i < dl.length
      · rw [List.getElem?_set_self hl] at h1; cases h1
      · rw [List.getElem?_eq_none (by simp; omega)] at h1; cases h1
    have nk : i ≠ k := fun e => by
      subst e
      by_cases hl : i < dl.length
      · rw [List.getElem?_set_self hl] at h2; cases h2
      · rw [List.getElem?_eq_none (by simp; omega)] at h2; cases h2
    rw [List.getElem?_set_ne nj] at h1 h3
    rw [List.getElem?_set_ne nk] at h2 h4
    exact S.dis j k o o' a h1 h2 h3 h4
theorem Stt.updO (S : Stt K G st Hf H dl) {i : Nat} {p : Addr} {o : HO} {w w' : Own} (hi : dl[i]? = some (.own w)) (hp : st[i]? = some (some (.ref p))) (r : OwnAt K Hf (upd H p o) p w') : Stt K G st Hf (upd H p o) (dl.set i (.own w')) := by
  have ln := S.len
  obtain ⟨p', q1, q2, q3, q4⟩ := S.own i w hi
  rw [hp] at q1; cases q1
  have hl : i < dl.length := (List.getElem?_eq_some_iff.mp hi).1
  have g : Grow G.Hf G.H Hf (upd H p o) := ⟨fun b u e => by rw [upd_ne (ne_of_none e q3)]; exact S.gr.big _ _ e, S.gr.frz, same_updO S.sub q2, S.gr.new⟩
  refine ⟨g, by simp [S.len], fun j x h => ?_, fun j o' h => ?_, fun j k o1 o2 a h1 h2 h3 h4 => ?_⟩
  · by_cases e : i = j
    · subst e; rw [List.getElem?_set_self hl] at h; cases h
    · rw [List.getElem?_set_ne e] at h; exact S.val j x h
  · by_cases e : i = j
    · subst e; rw [List.getElem?_set_self hl] at h; cases h
      exact ⟨p, hp, q2, q3, r⟩
    · rw [List.getElem?_set_ne e] at h
      obtain ⟨a, z1, z2, z3, z4⟩ := S.own j o' h
      have : a ≠ p := fun q => by subst q; exact e (S.dis i j _ _ _ hi h hp z1)
      exact ⟨a, z1, z2, z3, z4.grow (upd_ne this) (Same.refl _)⟩
  · have tr : ∀ (j : Nat) o', (dl.set i (.own w'))[j]? = some (.own o') → ∃ o'', dl[j]? = some (.own o'') := fun j o' h => by
      by_cases e : i = j
      · subst e; exact ⟨_, hi⟩
      · rw [List.getElem?_set_ne e] at h; exact ⟨_, h⟩
    obtain ⟨_, t1⟩ := tr j o1 h1
    obtain ⟨_, t2⟩ := tr k o2 h2
    exact S.dis j k _ _ a t1 t2 h3 h4
def Le (dl dl' : List Slot) : Prop := dl.length = dl'.length ∧ ∀ (i : Nat) s, dl[i]? = some s → s ≠ .unk → dl'[i]? = some s
theorem Le.refl (dl : List Slot) : Le dl dl := ⟨rfl, fun _ _ h _ => h⟩
theorem Stt.weak (S : Stt K G st Hf H dl') (l : Le dl dl') : Stt K G st Hf H dl :=
  ⟨S.gr, by rw [S.len, l.1], fun i d h => S.val i d (l.2 i _ h (by intro z; cases z)), fun i o h => S.own i o (l.2 i _ h (by intro z; cases z)),
   fun i j o o' a h1 h2 => S.dis i j o o' a (l.2 i _ h1 (by intro z; cases z)) (l.2 j _ h2 (by intro z; cases z))⟩
def leb : List Slot → List Slot → Prop
  | [], [] => True
  | .unk :: r, _ :: s => leb r s
  | x :: r, y :: s => x = y ∧ leb r s
  | _, _ => False
theorem Le.of : ∀ {dl dl' : List Slot}, leb dl dl' → Le dl dl'
  | [], [], _ => Le.refl _
  | .unk :: r, y :: s, h => by
    have q := Le.of (dl := r) (dl' := s) h
    refine ⟨congrArg (· + 1) q.1, fun i x e n => ?_⟩
    cases i with
    | zero => simp at e; exact absurd e.symm n
    | succ i => exact q.2 i x (by simpa using e) n
  | .val d :: r, y :: s, h => by
    obtain ⟨h1, h2⟩ := (show Slot.val d = y ∧ leb r s from h)
    subst h1
    have q := Le.of h2
    refine ⟨congrArg (· + 1) q.1, fun i x e n => ?_⟩
    cases i with
    | zero => exact e
    | succ i => exact q.2 i x (by simpa using e) n
  | .own d :: r, y :: s, h => by
    obtain ⟨h1, h2⟩ := (show Slot.own d = y ∧ leb r s from h)
    subst h1
    have q := Le.of h2
    refine ⟨congrArg (· + 1) q.1, fun i x e n => ?_⟩
    cases i with
    | zero => exact e
    | succ i => exact q.2 i x (by simpa using e) n
end
def tD (K : PySem.W.Frag) (G : Gr) (dl : List Slot) (d : Dt) : TE := fun st H Q => ∃ Hf, Stt K G st Hf H dl ∧ ∀ v Hf' H', Grow Hf H Hf' H' → Rep K Hf' v d → Q v H'
def tDs (K : PySem.W.Frag) (G : Gr) (dl : List Slot) (ds : List Dt) : TA := fun st H Q => ∃ Hf, Stt K G st Hf H dl ∧ ∀ vs Hf' H', Grow Hf H Hf' H' → Reps K Hf' vs ds → Q vs H'
def tDB (K : PySem.W.Frag) (G : Gr) (dl : List Slot) (b : Bool) : TT := fun st H Q => ∃ Hf, Stt K G st Hf H dl ∧ ∀ Hf' H', Grow Hf H Hf' H' → Q b H'
abbrev EE (X : Cx) (G : Gr) (dl : List Slot) (e : Expr) (d : Dt) : Prop := PE X e (tD X.K G dl d)
abbrev EA (X : Cx) (G : Gr) (dl : List Slot) (es : List Expr) (ds : List Dt) : Prop := PA X es (tDs X.K G dl ds)
abbrev EB (X : Cx) (G : Gr) (dl : List Slot) (e : Expr) (b : Bool) : Prop := PT X e (tDB X.K G dl b)
def ExcAt (K : PySem.W.Frag) (Hf : Hp) (od : Option Addr) (fs : List (Str × Dt)) : Prop := match od with
  | none => fs = []
  | some dx => ∃ fv, Hf dx = some (.xd fv) ∧ RepF K Hf fv fs
inductive Out where
  | nx (dl : List Slot)
  | rt (d : Dt)
  | ro (w : Own)
  | bk (dl : List Slot)
  | ct (dl : List Slot)
  | ex (c : Value) (fs : List (Str × Dt))
  | raw (R : L2.St → Hp → Prop)
def OutK (K : PySem.W.Frag) (G : Gr) (E : XK) (D : Ends) (Hf : Hp) : Out → Prop
  | .nx dl => ∀ st Hf' H, Same Hf Hf' → Stt K G st Hf' H dl → D.nx st H
  | .bk dl => ∀ st Hf' H, Same Hf Hf' → Stt K G st Hf' H dl → D.bk st H
  | .ct dl => ∀ st Hf' H, Same Hf Hf' → Stt K G st Hf' H dl → D.ct st H
  | .rt d => ∀ v Hf' H, Grow G.Hf G.H Hf' H → Rep K Hf' v d → D.rt v H
  | .ro o => ∀ p Hf' H, Grow G.Hf G.H Hf' H → G.H p = none → Hf' p = none → OwnAt K Hf' H p o → D.rt (.ref p) H
  | .ex c fs => ∀ od Hf' H, Grow G.Hf G.H Hf' H → ExcAt K Hf' od fs → E c od H
  | .raw R => ∀ st H, R st H → D.nx st H
theorem OutK.mono {K : PySem.W.Frag} {G : Gr} {E : XK} {D : Ends} {Hf Hf1 : Hp} (s : Same Hf Hf1) : ∀ {o : Out}, OutK K G E D Hf o → OutK K G E D Hf1 o
  | .nx _, k => fun st Hf' H s' S => k st Hf' H (s.trans s') S
  | .bk _, k => fun st Hf' H s' S => k st Hf' H (s.trans s') S
  | .ct _, k => fun st Hf' H s' S => k st Hf' H (s.trans s') S
  | .rt _, k => k
  | .ro _, k => k
  | .ex _ _, k => k
  | .raw _, k => k
def tO (K : PySem.W.Frag) (G : Gr) (E : XK) (dl : List Slot) (o : Out) : TS := fun D st H => ∃ Hf, Stt K G st Hf H dl ∧ OutK K G E D Hf o
abbrev ES (X : Cx) (G : Gr) (E : XK) (dl : List Slot) (s : Stmt) (o : Out) : Prop := PS X s (tO X.K G E dl o)
abbrev ESs (X : Cx) (G : Gr) (E : XK) (dl : List Slot) (s : List Stmt) (o : Out) : Prop := PSs X s (tO X.K G E dl o)
theorem peI {X : Cx} {e : Expr} {t t' : TE} (h : PE X e t) (i : ∀ st H Q, t' st H Q → t st H Q) : PE X e t' := fun pins s st H Q I q => h pins s st H Q I (i st H Q q)
theorem ptI {X : Cx} {e : Expr} {t t' : TT} (h : PT X e t) (i : ∀ st H Q, t' st H Q → t st H Q) : PT X e t' := fun pins s st H Q I q => h pins s st H Q I (i st H Q q)
theorem paI {X : Cx} {e : List Expr} {t t' : TA} (h : PA X e t) (i : ∀ st H Q, t' st H Q → t st H Q) : PA X e t' := fun pos pins s st H Q I q => h pos pins s st H Q I (i st H Q q)
theorem psI {X : Cx} {e : Stmt} {t t' : TS} (h : PS X e t) (i : ∀ D st H, t' D st H → t D st H) : PS X e t' := fun pins s st H D I q => h pins s st H D I (i D st H q)
theorem pssI {X : Cx} {e : List Stmt} {t t' : TS} (h : PSs X e t) (i : ∀ D st H, t' D st H → t D st H) : PSs X e t' := fun pins s st H D I q => h pins s st H D I (i D st H q)
section
variable {X : Cx} {G : Gr} {E : XK} {dl dl1 dl2 : List Slot} {a b c e : Expr} {es : List Expr} {i j : Int} {d d1 d2 : Dt} {ds : List Dt} {pos : Pos} {o o' : Out} {x y : Str} {u v : Bool}
theorem ee_var (n : Nat) {x : Str} {pos : Pos} (hd : dl[n]? = some (.val d) := by rfl) (hN : X.N[n]? = some x := by rfl) (hv : Vis X.env.scope x := by first | exact Or.inl rfl | exact Or.inr (Or.inl rfl) | exact Or.inr (Or.inr rfl)) (hb : (x == ("__debug__" : Str)) = false := by decide) (hcd : (x == ("__classdict__" : Str)) = false := by decide) : EE X G dl (.Name x pos) d :=
  peI (pe_var hN hv hb hcd) fun st H Q ⟨Hf, S, k⟩ => let ⟨v, h1, h2⟩ := S.val n d hd; ⟨v, h1, k v Hf H (.refl S.sub) h2⟩
theorem ee_int {z : Int} {j pos} : EE X G dl (.Constant (.int z) j pos) (.int z) := peI pe_int fun st H Q ⟨Hf, S, k⟩ => k _ Hf H (.refl S.sub) (.int z)
theorem ee_str {z : Str} {j pos} : EE X G dl (.Constant (.str z) j pos) (.str z) := peI pe_str fun st H Q ⟨Hf, S, k⟩ => k _ Hf H (.refl S.sub) (.str z)
def R2D (K : PySem.W.Frag) (r : R2) (d1 d2 d : Dt) : Prop := ∀ v w Hf H Q, Same Hf H → Rep K Hf v d1 → Rep K Hf w d2 → (∀ u Hf' H', Grow Hf H Hf' H' → Rep K Hf' u d → Q u H') → r v w H Q
theorem tOp_D {r : R2} (h : R2D X.K r d1 d2 d) : ∀ st H Q, tD X.K G dl d st H Q → tOp r (tD X.K G dl d1) (tD X.K G dl d2) st H Q := fun st H Q ⟨Hf, S, k⟩ =>
  ⟨Hf, S, fun v Hf1 H1 g1 r1 => ⟨Hf1, S.grow g1, fun w Hf2 H2 g2 r2 => h v w Hf2 H2 Q g2.sub (r1.mono g2.frz) r2 fun u Hf3 H3 g3 r3 => k u Hf3 H3 ((g1.trans g2).trans g3) r3⟩⟩
theorem ee_op {op : Operator} {r : R2} (ho : OpR X (binaryOp op) r) (h : R2D X.K r d1 d2 d) (ha : EE X G dl a d1) (hb : EE X G dl b d2) : EE X G dl (.BinOp a op b pos) d := peI (pe_op ho ha hb) (tOp_D h)
theorem ee_cmp {op : CmpOp} {r : R2} (ho : OpR X (compareOp op) r) (h : R2D X.K r d1 d2 d) (hm : behindInMarks op b = false) (ha : EE X G dl a d1) (hb : EE X G dl b d2) : EE X G dl (.Compare a [op] [b] pos) d := peI (pe_cmpR ho ha hb hm) (tOp_D h)
theorem eb_cmp {op : CmpOp} {r : R2} (ho : OpR X (compareOp op) r) (h : R2D X.K r d1 d2 (.bl u)) (hm : behindInMarks op b = false) (ha : EE X G dl a d1) (hb : EE X G dl b d2) : EB X G dl (.Compare a [op] [b] pos) u :=
  ptI (pt_cmpR ho ha hb hm) fun st H Q ⟨Hf, S, k⟩ => tOp_D h st H _ ⟨Hf, S, fun v Hf' H' g r => by cases r; exact ⟨u, rfl, k Hf' H' g⟩⟩
theorem r2_I0 {K : PySem.W.Frag} {g : Int → Int → V} {g' : Int → Int → Dt} (h : ∀ K H i j, Rep K H (g i j) (g' i j)) : R2D K (rI0 g) (.int i) (.int j) (g' i j) := fun v w Hf H Q s r1 r2 k => by
  cases r1; cases r2; exact ⟨i, j, rfl, rfl, k _ Hf H (.refl s) (h _ _ _ _)⟩
theorem r2_I {K : PySem.W.Frag} {C : Int → Int → Prop} {g : Int → Int → V} {g' : Int → Int → Dt} (h : ∀ K H i j, Rep K H (g i j) (g' i j)) (hc : C i j) : R2D K (rI C g) (.int i) (.int j) (g' i j) := fun v w Hf H Q s r1 r2 k => by
  cases r1; cases r2; exact ⟨i, j, rfl, rfl, hc, k _ Hf H (.refl s) (h _ _ _ _)⟩
theorem ee_add (ha : EE X G dl a (.int i)) (hb : EE X G dl b (.int j)) : EE X G dl (.BinOp a .Add b pos) (.int (i + j)) := ee_op op_add (r2_I0 (g' := fun i j => .int (i + j)) fun _ _ _ _ => .int _) ha hb
theorem ee_sub (ha : EE X G dl a (.int i)) (hb : EE X G dl b (.int j)) : EE X G dl (.BinOp a .Sub b pos) (.int (i - j)) := ee_op op_sub (r2_I0 (g' := fun i j => .int (i - j)) fun _ _ _ _ => .int _) ha hb
theorem op_mulB : OpR X (binaryOp .Mult) (rI IntMulOk fun i j => .int (i * j)) := opI fun _ _ _ _ _ _ _ hc q => mul_int q hc
theorem ee_mul (ha : EE X G dl a (.int i)) (hb : EE X G dl b (.int j)) (hc : IntMulOk i j) : EE X G dl (.BinOp a .Mult b pos) (.int (i * j)) := ee_op op_mulB (r2_I (g' := fun i j => .int (i * j)) (fun _ _ _ _ => .int _) hc) ha hb
theorem op_fdivB : OpR X (binaryOp .FloorDiv) (rI (fun _ j => 0 < j ∧ j.natAbs.log2 < 9000) fun i j => .int (i / j)) := opI fun i j _ _ _ _ _ hc q => by
  refine floordiv_int (Int.ne_of_gt hc.1) ?_ (.inl (PyProof.noPylong_of_log2 hc.2))
  rw [Int.fdiv_eq_ediv_of_nonneg _ (Int.le_of_lt hc.1)]
  exact q
theorem ee_fdiv (ha : EE X G dl a (.int i)) (hb : EE X G dl b (.int j)) (hc : 0 < j ∧ j.natAbs.log2 < 9000) : EE X G dl (.BinOp a .FloorDiv b pos) (.int (i / j)) := ee_op op_fdivB (r2_I (g' := fun i j => .int (i / j)) (fun _ _ _ _ => .int _) hc) ha hb
theorem ee_mod (ha : EE X G dl a (.int i)) (hb : EE X G dl b (.int j)) (hc : 0 < j) : EE X G dl (.BinOp a .Mod b pos) (.int (i % j)) := ee_op op_mod (r2_I (g' := fun i j => .int (i % j)) (fun _ _ _ _ => .int _) hc) ha hb
theorem ee_pow (ha : EE X G dl a (.int i)) (hb : EE X G dl b (.int j)) (hc : CPow i j) : EE X G dl (.BinOp a .Pow b pos) (.int (i ^ j.toNat)) := ee_op op_pow (r2_I (g' := fun i j => .int (i ^ j.toNat)) (fun _ _ _ _ => .int _) hc) ha hb
theorem r2_cat {K : PySem.W.Frag} (h : x.length + y.length ≤ sizeLine) : R2D K (fun a b H Q => ∃ i j, a = .str i ∧ b = .str j ∧ i.length + j.length ≤ sizeLine ∧ Q (.str (i ++ j)) H) (.str x) (.str y) (.str (x ++ y)) := fun v w Hf H Q s r1 r2 k => by
  cases r1; cases r2; exact ⟨x, y, rfl, rfl, h, k _ Hf H (.refl s) (.str _)⟩
theorem ee_cat (ha : EE X G dl a (.str x)) (hb : EE X G dl b (.str y)) (h : x.length + y.length ≤ sizeLine) : EE X G dl (.BinOp a .Add b pos) (.str (x ++ y)) := ee_op op_add_str (r2_cat h) ha hb
theorem ee_neg (ha : EE X G dl a (.int i)) : EE X G dl (.UnaryOp .USub a pos) (.int (-i)) :=
  peI (pe_un un_neg ha) fun st H Q ⟨Hf, S, k⟩ => ⟨Hf, S, fun v Hf1 H1 g1 r1 => by cases r1; exact ⟨i, rfl, k _ Hf1 H1 g1 (.int _)⟩⟩
theorem eb_of (h : EE X G dl e (.bl u)) (he : ∀ whole, isTrue e X.env whole = (do let v ← whole; standAt e.pos; holding [v] (truthy v)) := by intro _; rfl) : EB X G dl e u :=
  ptI (pt_val h he) fun st H Q ⟨Hf, S, k⟩ => ⟨Hf, S, fun v Hf1 H1 g1 r1 => by cases r1; exact ⟨u, rfl, k Hf1 H1 g1⟩⟩
end
end Sg
namespace Sg
open PySem PySem.Spec PyProof.Rows L2
section
variable {X : Cx} {G : Gr} {E : XK} {dl dl1 dl2 : List Slot} {a b c e : Expr} {es : List Expr} {i j : Int} {d d1 d2 : Dt} {ds : List Dt} {pos : Pos} {o o' : Out} {x y : Str} {u v : Bool} {rest : List Expr} {sts sts' : List Stmt} {s : Stmt}
theorem pe_nev : PE X e fun _ _ _ => False := fun _ _ _ _ _ _ h => h.elim
theorem pw_nev : PW X e fun _ _ _ => False := fun _ _ _ _ _ _ _ h => h.elim
abbrev EW (X : Cx) (G : Gr) (dl : List Slot) (e : Expr) (b : Bool) : Prop := PW X e (tDB X.K G dl b)
theorem pwI {e : Expr} {t t' : TT} (h : PW X e t) (i : ∀ st H Q, t' st H Q → t st H Q) : PW X e t' := fun wh pins s st H Q I q => h wh pins s st H Q I (i st H Q q)
theorem ew_and1 (ha : EB X G dl a u) : EW X G dl (.BoolOp .And [a] pos) u := pw_and1 ha
theorem ew_or1 (ha : EB X G dl a u) : EW X G dl (.BoolOp .Or [a] pos) u := pw_or1 ha
theorem ew_and (ha : EB X G dl a u) (hb : u = true → EW X G dl (.BoolOp .And (b :: rest) pos) v) : EW X G dl (.BoolOp .And (a :: b :: rest) pos) (u && v) := by
  cases u with
  | true => exact pwI (pw_and ha (hb rfl)) fun st H Q ⟨Hf, S, k⟩ => ⟨Hf, S, fun Hf1 H1 g1 => iteT ⟨Hf1, S.grow g1, fun Hf2 H2 g2 => k Hf2 H2 (g1.trans g2)⟩⟩
  | false => exact pwI (pw_and ha pw_nev) fun st H Q ⟨Hf, S, k⟩ => ⟨Hf, S, fun Hf1 H1 g1 => iteF (k Hf1 H1 g1)⟩
theorem ew_or (ha : EB X G dl a u) (hb : u = false → EW X G dl (.BoolOp .Or (b :: rest) pos) v) : EW X G dl (.BoolOp .Or (a :: b :: rest) pos) (u || v) := by
  cases u with
  | false => exact pwI (pw_or ha (hb rfl)) fun st H Q ⟨Hf, S, k⟩ => ⟨Hf, S, fun Hf1 H1 g1 => iteF ⟨Hf1, S.grow g1, fun Hf2 H2 g2 => k Hf2 H2 (g1.trans g2)⟩⟩
  | true => exact pwI (pw_or ha pw_nev) fun st H Q ⟨Hf, S, k⟩ => ⟨Hf, S, fun Hf1 H1 g1 => iteT (k Hf1 H1 g1)⟩
theorem eb_w (h : EW X G dl e u) : EB X G dl e u := h.pt
theorem eb_not (ha : EB X G dl a u) : EB X G dl (.UnaryOp .Not a pos) (!u) := ptI (pt_not ha) fun st H Q ⟨Hf, S, k⟩ => ⟨Hf, S, fun Hf1 H1 g1 => k Hf1 H1 g1⟩
theorem ee_and1 (ha : EE X G dl a (.bl u)) : EE X G dl (.BoolOp .And [a] pos) (.bl u) := pe_one ha
theorem ee_and (ha : EE X G dl a (.bl u)) (hb : u = true → EE X G dl (.BoolOp .And (b :: rest) pos) (.bl v)) : EE X G dl (.BoolOp .And (a :: b :: rest) pos) (.bl (u && v)) := by
  cases u with
  | true => exact peI (pe_and ha (hb rfl)) fun st H Q ⟨Hf, S, k⟩ => ⟨Hf, S, fun w Hf1 H1 g1 r1 => by cases r1; exact ⟨true, rfl, iteT ⟨Hf1, S.grow g1, fun w Hf2 H2 g2 r2 => k w Hf2 H2 (g1.trans g2) r2⟩⟩⟩
  | false => exact peI (pe_and ha pe_nev) fun st H Q ⟨Hf, S, k⟩ => ⟨Hf, S, fun w Hf1 H1 g1 r1 => by cases r1; exact ⟨false, rfl, iteF (k _ Hf1 H1 g1 (.bl _))⟩⟩
theorem ee_not (ha : EE X G dl a (.bl u)) : EE X G dl (.UnaryOp .Not a pos) (.bl (!u)) := peI (pe_not ha) fun st H Q ⟨Hf, S, k⟩ => ⟨Hf, S, fun w Hf1 H1 g1 r1 => by cases r1; exact ⟨u, rfl, k _ Hf1 H1 g1 (.bl _)⟩⟩
theorem eb_to (h : EB X G dl e u) (q : u = v) : EB X G dl e v := by subst q; exact h
theorem ee_to (h : EE X G dl e d) (q : d = d1) : EE X G dl e d1 := by subst q; exact h
theorem ee_ifE (hc : EB X G dl c u) (ha : u = true → EE X G dl a d) (hb : u = false → EE X G dl b d) : EE X G dl (.IfExp c a b pos) d := by
  cases u with
  | true => exact peI (pe_ifExp hc (ha rfl) pe_nev) fun st H Q ⟨Hf, S, k⟩ => ⟨Hf, S, fun Hf1 H1 g1 => iteT ⟨Hf1, S.grow g1, fun w Hf2 H2 g2 r2 => k w Hf2 H2 (g1.trans g2) r2⟩⟩
  | false => exact peI (pe_ifExp hc pe_nev (hb rfl)) fun st H Q ⟨Hf, S, k⟩ => ⟨Hf, S, fun Hf1 H1 g1 => iteF ⟨Hf1, S.grow g1, fun w Hf2 H2 g2 r2 => k w Hf2 H2 (g1.trans g2) r2⟩⟩
theorem ea_nil : EA X G dl [] [] := paI pa_nil fun st H Q ⟨Hf, S, k⟩ => k [] Hf H (.refl S.sub) .nil
theorem ea_cons (ha : EE X G dl e d) (hr : EA X G dl es ds) (hs : starEach (e :: es) X.env = (false, eval e X.env) :: starEach es X.env := by rfl) : EA X G dl (e :: es) (d :: ds) :=
  paI (pa_cons ha hr hs) fun st H Q ⟨Hf, S, k⟩ => ⟨Hf, S, fun v Hf1 H1 g1 r1 => ⟨Hf1, S.grow g1, fun vs Hf2 H2 g2 r2 => k _ Hf2 H2 (g1.trans g2) (.cons (r1.mono g2.frz) r2)⟩⟩
theorem ee_tup {x1} (h : EA X G dl es ds) (hl : ds.length ≤ sizeLine := by decide) : EE X G dl (.Tuple es x1 pos) (.tup ds) :=
  peI (pe_tup h) fun st H Q ⟨Hf, S, k⟩ => ⟨Hf, S, fun vs Hf1 H1 g1 r1 => ⟨by rw [r1.length]; exact hl, fun p hp => k _ (upd Hf1 p (.tup vs)) _ (g1.trans (.alloc g1.sub hp)) (.tup (.of upd_same) (r1.mono (same_upd (g1.sub.free hp))))⟩⟩
theorem ee_lst (h : EA X G dl es ds) (hl : ds.length ≤ sizeLine := by decide) : EE X G dl (.List es pos) (.lst ds) :=
  peI (pe_lst h) fun st H Q ⟨Hf, S, k⟩ => ⟨Hf, S, fun vs Hf1 H1 g1 r1 => ⟨by rw [r1.length]; exact hl, fun p hp => k _ (upd Hf1 p (.lst vs)) _ (g1.trans (.alloc g1.sub hp)) (.lst upd_same (r1.mono (same_upd (g1.sub.free hp))))⟩⟩
theorem Reps.atI {K : PySem.W.Frag} {H : Hp} {vs : List V} {ds : List Dt} {i : Int} {d : Dt} (r : Reps K H vs ds) (h : L2.atI ds i = some d) : ∃ v, L2.atI vs i = some v ∧ Rep K H v d := by
  unfold L2.atI at h ⊢
  rw [r.length]
  cases q : ixN ds.length i with
  | none => rw [q] at h; cases h
  | some n =>
    rw [q] at h
    exact r.get h
theorem ee_ixT (ha : EE X G dl a (.tup ds)) (hb : EE X G dl b (.int i)) (h : atI ds i = some d) (hs : PlainIx b := by intro _ _; rfl) : EE X G dl (.Subscript a b pos) d :=
  peI (pe_ix ix_tup ha hb hs) (tOp_D fun v w Hf H Q s r1 r2 k => by
    cases r1 with
    | tup q r =>
      cases r2
      obtain ⟨v, h1, h2⟩ := r.atI h
      exact ⟨_, _, i, v, rfl, rfl, SqT_same s q, h1, k v Hf H (.refl s) h2⟩)
theorem ee_ixL (ha : EE X G dl a (.lst ds)) (hb : EE X G dl b (.int i)) (h : atI ds i = some d) (hs : PlainIx b := by intro _ _; rfl) : EE X G dl (.Subscript a b pos) d :=
  peI (pe_ix ix_list ha hb hs) (tOp_D fun v w Hf H Q s r1 r2 k => by
    cases r1 with
    | lst q r =>
      cases r2
      obtain ⟨v, h1, h2⟩ := r.atI h
      exact ⟨_, _, i, v, rfl, rfl, .of (s _ _ q), h1, k v Hf H (.refl s) h2⟩)
theorem ee_ixC {ns : List Int} {z : Int} (ha : EE X G dl a (.scr ns)) (hb : EE X G dl b (.int i)) (h : atI ns i = some z) (hs : PlainIx b := by intro _ _; rfl) : EE X G dl (.Subscript a b pos) (.int z) :=
  peI (pe_ix ix_list ha hb hs) (tOp_D fun v w Hf H Q s r1 r2 k => by
    cases r1 with
    | scr q =>
      cases r2
      have h' : L2.atI (ns.map V.int) i = some (.int z) := by
        unfold L2.atI at h ⊢
        rw [List.length_map]
        cases q2 : ixN ns.length i with
        | none => rw [q2] at h; cases h
        | some n =>
          rw [q2] at h
          show (ns.map V.int)[n]? = _
          rw [List.getElem?_map, show ns[n]? = some z from h]; rfl
      exact ⟨_, _, i, _, rfl, rfl, s.seq q, h', k _ Hf H (.refl s) (.int z)⟩)
theorem ee_ixS {z : Nat} (ha : EE X G dl a (.str x)) (hb : EE X G dl b (.int i)) (h : atI x.cps.toList i = some z) (hl : x.length ≤ sizeLine) (hs : PlainIx b := by intro _ _; rfl) : EE X G dl (.Subscript a b pos) (.str ⟨#[z]⟩) :=
  peI (pe_ix ix_str ha hb hs) (tOp_D fun v w Hf H Q s r1 r2 k => by
    cases r1; cases r2
    exact ⟨x, i, z, rfl, rfl, hl, h, k _ Hf H (.refl s) (.str _)⟩)
theorem es_nil : ESs X G E dl [] (.nx dl) := pssI pss_nil fun D st H ⟨Hf, S, k⟩ => k st Hf H (Same.refl _) S
theorem es_cons (h1 : ES X G E dl s (.nx dl1)) (h2 : ESs X G E dl1 sts o) : ESs X G E dl (s :: sts) o :=
  pssI (pss_cons h1 h2) fun D st H ⟨Hf, S, k⟩ => ⟨Hf, S, fun st' Hf' H' s' S' => ⟨Hf', S', k.mono s'⟩⟩
theorem es_one (h1 : ES X G E dl s o) : ESs X G E dl [s] o := pss_one h1
theorem OutK.stop {K : PySem.W.Frag} {D D' : Ends} {Hf : Hp} (h : (∀ dl, o ≠ .nx dl) ∧ ∀ R, o ≠ .raw R) (hr : D'.rt = D.rt) (hb : D'.bk = D.bk) (hc : D'.ct = D.ct) (k : OutK K G E D Hf o) : OutK K G E D' Hf o := by
  cases o with
  | nx dl => exact absurd rfl (h.1 dl)
  | raw R => exact absurd rfl (h.2 R)
  | rt d => show ∀ v Hf H, _ → _ → D'.rt v H; rw [hr]; exact k
  | ro d => show ∀ v Hf H, _ → _ → _ → _ → D'.rt _ H; rw [hr]; exact k
  | bk d => show ∀ v Hf H, _ → _ → D'.bk v H; rw [hb]; exact k
  | ct d => show ∀ v Hf H, _ → _ → D'.ct v H; rw [hc]; exact k
  | ex c fs => exact k
theorem es_stop (h1 : ES X G E dl s o) (h : (∀ dl, o ≠ .nx dl) ∧ (∀ R, o ≠ .raw R) := by exact ⟨(fun _ z => nomatch z), (fun _ z => nomatch z)⟩) : ESs X G E dl (s :: sts) o :=
  pssI (pss_cons h1 (pss_never (sts := sts))) fun D st H ⟨Hf, S, k⟩ => ⟨Hf, S, OutK.stop (D := D) h rfl rfl rfl k⟩
theorem ess_pre (h1 : ESs X G E dl1 sts o) (l : Le dl1 dl) : ESs X G E dl sts o := pssI h1 fun D st H ⟨Hf, S, k⟩ => ⟨Hf, S.weak l, k⟩
theorem es_if (hc : EB X G dl c u) (h1 : u = true → ESs X G E dl sts o) (h2 : u = false → ESs X G E dl sts' o) : ES X G E dl (.If c sts sts' pos) o := by
  cases u with
  | true => exact psI (ps_if hc (h1 rfl) (pss_never (sts := sts'))) fun D st H ⟨Hf, S, k⟩ => ⟨Hf, S, fun Hf1 H1 g1 => iteT ⟨Hf1, S.grow g1, k.mono g1.frz⟩⟩
  | false => exact psI (ps_if hc (pss_never (sts := sts)) (h2 rfl)) fun D st H ⟨Hf, S, k⟩ => ⟨Hf, S, fun Hf1 H1 g1 => iteF ⟨Hf1, S.grow g1, k.mono g1.frz⟩⟩
theorem es_ret (h : EE X G dl e d) : ES X G E dl (.Return (some e) pos) (.rt d) := psI (ps_ret h) fun D st H ⟨Hf, S, k⟩ => ⟨Hf, S, fun v Hf1 H1 g1 r1 => k v Hf1 H1 (S.gr.trans g1) r1⟩
theorem es_expr (h : EE X G dl e d) (hs : swapsWith e none pos.line X.env = pure false := by rfl) : ES X G E dl (.Expr e pos) (.nx dl) :=
  psI (ps_expr h hs) fun D st H ⟨Hf, S, k⟩ => ⟨Hf, S, fun v Hf1 H1 g1 r1 => k st Hf1 H1 g1.frz (S.grow g1)⟩
theorem es_set (n : Nat) {x : Str} {pos' : Pos} (hN : X.N.Nodup) (he : EE X G dl e d) (hi : X.N[n]? = some x := by rfl) (hx : Loc X.env.scope x := by first | exact Or.inl rfl | exact Or.inr rfl) (hs : swapsWith e (some (.Name x pos')) pos.line X.env = pure false := by rfl) (hf : X.fn x = true ∨ X.env.scope.names.lookup x = some .local := by first | exact .inl rfl | exact .inr rfl | assumption) : ES X G E dl (.Assign [.Name x pos'] e pos) (.nx (dl.set n (.val d))) :=
  psI (ps_set hN hi hx he hs hf) fun D st H ⟨Hf, S, k⟩ => ⟨Hf, S, fun v Hf1 H1 g1 r1 => k _ Hf1 H1 g1.frz ((S.grow g1).set r1)⟩
inductive Ends1 (X : Cx) (G : Gr) (E : XK) (body : List Stmt) (S : Nat → List Slot) (pre : Nat → List Slot) (n m : Nat) : Out → Prop
  | all (h : m = n) : Ends1 X G E body S pre n m (.nx (S n))
  | rt {d : Dt} (h : m < n) (hb : ESs X G E (pre m) body (.rt d)) : Ends1 X G E body S pre n m (.rt d)
  | ro {d : Own} (h : m < n) (hb : ESs X G E (pre m) body (.ro d)) : Ends1 X G E body S pre n m (.ro d)
  | bk {dl' : List Slot} (h : m < n) (hb : ESs X G E (pre m) body (.bk dl')) : Ends1 X G E body S pre n m (.nx dl')
  | ex {c : Value} {fs : List (Str × Dt)} (h : m < n) (hb : ESs X G E (pre m) body (.ex c fs)) : Ends1 X G E body S pre n m (.ex c fs)
inductive Goes (X : Cx) (G : Gr) (E : XK) (body : List Stmt) (pre post : List Slot) : Prop
  | nx {dl' : List Slot} (hb : ESs X G E pre body (.nx dl')) (l : Le post dl')
  | ct {dl' : List Slot} (hb : ESs X G E pre body (.ct dl')) (l : Le post dl')
def tTurn (X : Cx) (G : Gr) (E : XK) (body : List Stmt) : TS := fun D st H => ∃ pre o, ESs X G E pre body o ∧ tO X.K G E pre o D st H
theorem pss_turn {body : List Stmt} : PSs X body (tTurn X G E body) := fun pins s st H D J ⟨pre, o, h, q⟩ => h pins s st H D J q
theorem turn_goes {body : List Stmt} {pre post : List Slot} {D : Ends} {st : L2.St} {Hf H : Hp} (g : Goes X G E body pre post) (S : Stt X.K G st Hf H pre) (hn : ∀ st Hf' H, Same Hf Hf' → Stt X.K G st Hf' H post → D.nx st H) (hc : ∀ st Hf' H, Same Hf Hf' → Stt X.K G st Hf' H post → D.ct st H) : tTurn X G E body D st H := by
  cases g with
  | nx hb l => exact ⟨_, _, hb, Hf, S, fun st' Hf' H' s' S' => hn st' Hf' H' s' (S'.weak l)⟩
  | ct hb l => exact ⟨_, _, hb, Hf, S, fun st' Hf' H' s' S' => hc st' Hf' H' s' (S'.weak l)⟩
theorem turn_ends {body : List Stmt} {S pre : Nat → List Slot} {n m : Nat} {D D' : Ends} {st : L2.St} {Hf H : Hp} (e : Ends1 X G E body S pre n m o) (hm : m < n) (S' : Stt X.K G st Hf H (pre m)) (k : OutK X.K G E D Hf o) (hr : D'.rt = D.rt) (hb' : D'.bk = D.nx) : tTurn X G E body D' st H := by
  cases e with
  | all h => omega
  | rt h hb => exact ⟨_, _, hb, Hf, S', by show ∀ v Hf H, _ → _ → D'.rt v H; rw [hr]; exact k⟩
  | ro h hb => exact ⟨_, _, hb, Hf, S', by show ∀ v Hf H, _ → _ → _ → _ → D'.rt _ H; rw [hr]; exact k⟩
  | bk h hb => exact ⟨_, _, hb, Hf, S', by show ∀ v Hf H, _ → _ → D'.bk v H; rw [hb']; exact k⟩
  | ex h hb => exact ⟨_, _, hb, Hf, S', k⟩
theorem es_range (nN : Nat) {x : Str} {px : Pos} {body : List Stmt} {lo : Int} {n m : Nat} (S : Nat → List Slot) (hN : X.N.Nodup) (hcalm : X.calm = true) (hp : PassesOwn (model X.prog X.w) X.A X.env X.xe) {wi : TI} {iter : Expr} (hI : PI X (.Name x px) iter wi) (hw : ∀ st Hf H R, Stt X.K G st Hf H dl → (∀ Hf' H', Grow Hf H Hf' H' → R (Itr lo n) H') → wi st H R) (h0 : Le (S 0) dl) (hmn : m ≤ n) (hb : ∀ k, k < m → Goes X G E body ((S k).set nN (.val (.int (lo + k)))) (S (k + 1))) (he : Ends1 X G E body S (fun k => (S k).set nN (.val (.int (lo + k)))) n m o) (hi : X.N[nN]? = some x := by rfl) (hx : Loc X.env.scope x := by first | exact Or.inl rfl | exact Or.inr rfl) (hf : X.fn x = true ∨ X.env.scope.names.lookup x = some .local := by first | exact .inl rfl | exact .inr rfl | assumption) (hs : ∀ x, foldedSetIterable iter X.env x = pure x := by intro _; rfl) : ES X G E dl (.For (.Name x px) iter body [] pos) o := by
  refine psI (ps_for hp hcalm hI (pg_name hN hi hx hf) (pss_turn (G := G) (E := E)) hs) fun D st H ⟨Hf, S0, k⟩ => hw st Hf H _ S0 fun Hf' H' g => ?_
  refine for_range (lo := lo) (n := n) (fun j st H => j ≤ m ∧ ∃ Hf1, Same Hf Hf1 ∧ Stt X.K G st Hf1 H (S j)) ⟨Nat.zero_le _, Hf', g.frz, (S0.grow g).weak h0⟩ (fun j st H hj ⟨hjm, Hf1, s1, Sj⟩ => ?_) (fun st H ⟨hnm, Hf1, s1, Sn⟩ => ?_)
  · have Sp : Stt X.K G (st.set nN (some (.int (lo + j)))) Hf1 H ((S j).set nN (.val (.int (lo + j)))) := Sj.set (.int _)
    by_cases hlt : j < m
    · exact turn_goes (hb j hlt) Sp (fun st Hf2 H s2 S' => ⟨hlt, Hf2, s1.trans s2, S'⟩) (fun st Hf2 H s2 S' => ⟨hlt, Hf2, s1.trans s2, S'⟩)
    · have e : j = m := by omega
      subst e
      exact turn_ends he hj Sp (k.mono s1) rfl rfl
  · have e : m = n := by omega
    subst e
    cases he with
    | all _ => exact k st Hf1 H s1 Sn
    | rt h _ => omega
    | ro h _ => omega
    | bk h _ => omega
    | ex h _ => omega
theorem es_range1 (nN : Nat) {x : Str} {p px pc : Pos} {body : List Stmt} {n : Int} {m : Nat} (S : Nat → List Slot) (hN : X.N.Nodup) (hcalm : X.calm = true) (hp : PassesOwn (model X.prog X.w) X.A X.env X.xe) (hm0 : X.mg "range" = none) (ha : EA X G dl [a] [.int n]) (hn : -(2 ^ 62) ≤ n ∧ n < 2 ^ 62) (h0 : Le (S 0) dl) (hmn : m ≤ n.toNat) (hb : ∀ k : Nat, k < m → Goes X G E body ((S k).set nN (.val (.int k))) (S (k + 1))) (he : Ends1 X G E body S (fun k => (S k).set nN (.val (.int k))) n.toNat m o) (hg : Gl X "range" := by rfl) (hi : X.N[nN]? = some x := by rfl) (hx : Loc X.env.scope x := by first | exact Or.inl rfl | exact Or.inr rfl) (hf : X.fn x = true ∨ X.env.scope.names.lookup x = some .local := by first | exact .inl rfl | exact .inr rfl | assumption) (hs1 : starEach [a] X.env = [(false, eval a X.env)] := by rfl) (hs : ∀ z, foldedSetIterable (.Call (.Name "range" p) [a] [] pc) X.env z = pure z := by intro _; rfl) : ES X G E dl (.For (.Name x px) (.Call (.Name "range" p) [a] [] pc) body [] pos) o := by
  have ez : ∀ k : Nat, (0 : Int) + k = k := fun k => Int.zero_add _
  have eS : (fun k : Nat => (S k).set nN (.val (.int ((0 : Int) + k)))) = fun k : Nat => (S k).set nN (.val (.int k)) := by funext k; rw [ez]
  refine es_range nN (lo := 0) (n := n.toNat) (m := m) S hN hcalm hp (pi_range1 hg hm0 ha hs1) (fun st Hf H R S0 h => ⟨Hf, S0, fun vs Hf1 H1 g1 r1 => ?_⟩) h0 hmn (fun k hk => by rw [ez]; exact hb k hk) (by rw [eS]; exact he) hi hx hf hs
  cases r1 with
  | cons r t => cases t; cases r; exact ⟨n, rfl, hn.1, hn.2, h Hf1 H1 g1⟩
inductive Res where
  | ret (d : Dt)
  | own (w : Own)
  | exc (c : Value) (fs : List (Str × Dt))
def ResK (K : PySem.W.Frag) (Hf H : Hp) (Q : VK) (E : XK) : Res → Prop
  | .ret d => ∀ v Hf' H', Grow Hf H Hf' H' → Rep K Hf' v d → Q v H'
  | .own w => ∀ p Hf' H', Grow Hf H Hf' H' → H p = none → Hf' p = none → OwnAt K Hf' H' p w → Q (.ref p) H'
  | .exc c fs => ∀ od Hf' H', Grow Hf H Hf' H' → ExcAt K Hf' od fs → E c od H'
def spR (K : PySem.W.Frag) (n : Nat) (R : List Dt → Res → Prop) : Sp := fun vs H Q E => ∃ Hf ds r, Same Hf H ∧ Reps K Hf vs ds ∧ ds.length = n ∧ R ds r ∧ ResK K Hf H Q E r
def NoX (CX : CXT) : Prop := ∀ outer H s e s', CX outer H s E0 e s' → False
theorem nox0 : NoX CX0 := fun _ _ _ _ _ h => h
theorem NoX.passes {CX : CXT} (n : NoX CX) : Passes CX X E0 := fun _ _ _ _ _ _ _ h => (n _ _ _ _ _ h).elim
def slots (N : List Str) (ds : List Dt) : List Slot := ds.map Slot.val ++ List.replicate (N.length - ds.length) .unk
theorem stt_start {K : PySem.W.Frag} {N : List Str} {Hf H : Hp} {vs : List V} {ds : List Dt} (s : Same Hf H) (r : Reps K Hf vs ds) : Stt K ⟨Hf, H⟩ (start N vs) Hf H (slots N ds) := by
  have hl := r.length
  have nown : ∀ (i : Nat) o, (slots N ds)[i]? ≠ some (.own o) := fun i o h => by
    unfold slots at h
    by_cases hi : i < ds.length
    · rw [List.getElem?_append_left (by simpa using hi), List.getElem?_map] at h
      cases e : ds[i]? with
      | none => rw [e] at h; cases h
      | some a => rw [e] at h; cases h
    · rw [List.getElem?_append_right (by simpa using hi), List.getElem?_replicate] at h
      split at h <;> cases h
  refine ⟨.refl s, ?_, fun i d h => ?_, fun i o h => absurd h (nown i o), fun i j o o' a h => absurd h (nown i o)⟩
  · unfold L2.start slots
    simp [hl]
  · unfold slots at h
    by_cases hi : i < ds.length
    · rw [List.getElem?_append_left (by simpa using hi), List.getElem?_map] at h
      cases e : ds[i]? with
      | none => rw [e] at h; cases h
      | some a =>
        rw [e] at h; cases h
        obtain ⟨v, h1, h2⟩ := r.get e
        refine ⟨v, ?_, h2⟩
        unfold L2.start
        rw [List.getElem?_append_left (by simp; omega), List.getElem?_map, h1]; rfl
    · rw [List.getElem?_append_right (by simpa using hi), List.getElem?_replicate] at h
      split at h <;> cases h
inductive Comes : Out → Res → Prop
  | rt (d : Dt) : Comes (.rt d) (.ret d)
  | ro (d : Own) : Comes (.ro d) (.own d)
  | nx (dl : List Slot) : Comes (.nx dl) (.ret .non)
  | kn {dl : List Slot} {d : Dt} (h : ∀ K G st Hf H, Stt K G st Hf H dl → Rep K Hf .non d) : Comes (.nx dl) (.ret d)
  | ex (c : Value) (fs : List (Str × Dt)) : Comes (.ex c fs) (.exc c fs)
theorem Comes.ends {K : PySem.W.Frag} {Hf H : Hp} {Q : VK} {o : Out} {r : Res} (h : Comes o r) (k : ResK K Hf H Q E r) : OutK K ⟨Hf, H⟩ E { nx := fun _ H' => Q .non H', rt := Q } Hf o := by
  cases h with
  | rt d => exact k
  | ro d => exact k
  | nx dl => exact fun st Hf' H' s' S => k _ Hf' H' S.gr .non
  | kn h => exact fun st Hf' H' s' S => k _ Hf' H' S.gr (h _ _ _ _ _ S)
  | ex c fs => exact k
theorem fnR {P : Program} {w : World} {K : PySem.W.Frag} {mg : Str → Option Value} {base : Heap} {CX : CXT} {x qual : Str} {st : Stmt} {f : Addr} {fd : FuncData} {N ps : List Str} {k n : Nat} {R : List Dt → Res → Prop} (F : Fun K x qual st f fd) (S : FnScope N ps (defScope st)) (hn : ps.length = n) (hbody : ∀ (cdv : Value) (A : Around) (outer : List Env) (s : Shared) (H : Hp) (E : XK) (G : Gr) (ds : List Dt) (r : Res), Room k (A.deeper (envOfC qual (defScope st) s.heap.objs.size f cdv)) → ds.length = n → R ds r → ∃ o, Comes o r ∧ ESs (cxOf CX P w K mg base N qual (defScope st) f cdv A outer s H E) G E (slots N ds) (defBody st) o) : FnOk P w K mg base CX (k + 1) f fd ps (spR K n R) := by
  obtain ⟨oc, od, kV, doc, pm, an, cdv, ct, osl, rfl, lk, hcd⟩ := F.ex
  refine fn_of lk hcd S (fun vs H Q E ⟨Hf, ds, r, s, rp, hl, _⟩ => by rw [rp.length, hl, hn]) fun A outer s H vs Q E hr ⟨Hf, ds, r, sm, rp, hl, hR, hk⟩ => ?_
  obtain ⟨o, hc, hb⟩ := hbody cdv A outer s H E ⟨Hf, H⟩ ds r hr hl hR
  exact ⟨_, hb, Hf, stt_start sm rp, hc.ends hk⟩
section
variable {CX : CXT} {k n : Nat} {f C : Addr} {fd : FuncData} {ps : List Str} {R : List Dt → Res → Prop} {m : Str} {p apos : Pos} {ob : Expr} {dvs : List Dt} {vds : List V} {dsv : List Value} {fs : List (Str × Dt)}
theorem ee_call (F : FnOk X.prog X.w X.K X.mg X.base CX k f fd ps (spR X.K n R)) (nx : NoX CX) (hr : Room k X.A) (hm : X.mg x = some (.ref f)) (hk : PySem.W.keepIn X.K (.ref f) = true) (hb : Binds X.K fd ps dsv) (hd : Vals vds dsv) (hdd : ∀ H, Reps X.K H vds dvs) (ha : EA X G dl (e :: es) ds) (hl : (ds ++ dvs).length = n) (h : R (ds ++ dvs) (.ret d)) (hg : Gl X x := by rfl) (hdb : (x == ("__debug__" : Str)) = false := by decide) (he : starEach (e :: es) X.env = (false, eval e X.env) :: starEach es X.env := by rfl) (hpl : (backTo pos (starEach es X.env)).any (·.1) = false := by rfl) : EE X G dl (.Call (.Name x p) (e :: es) [] pos) d :=
  peI (pe_call (E := E0) F hr hg hm hk hb hd nx.passes ha hdb he hpl) fun st H Q ⟨Hf, S, k⟩ => ⟨Hf, S, fun vs Hf1 H1 g1 r1 => ⟨Hf1, ds ++ dvs, .ret d, g1.sub, r1.append (hdd _), hl, h, fun v Hf2 H2 g2 r2 => k v Hf2 H2 (g1.trans g2) r2⟩⟩
theorem ee_meth {pl : Sem Bool} (he : EE X G dl ob (.obj C fs)) (c : Cls X.K C) (hm : Meth X.K C m f) (F : FnOk X.prog X.w X.K X.mg X.base CX k f fd ps (spR X.K n R)) (nx : NoX CX) (hr : Room k X.A) (hb : Binds X.K fd ps dsv) (hd : Vals vds dsv) (hdd : ∀ H, Reps X.K H vds dvs)
    (ha : EA X G dl (e :: es) ds) (hl : (.obj C fs :: (ds ++ dvs)).length = n) (h : R (.obj C fs :: (ds ++ dvs)) (.ret d)) (hno : fs.lookup m = none)
    (hst : starEach (e :: es) X.env = (false, eval e X.env) :: starEach es X.env := by rfl) (hpl : (backTo pos (starEach es X.env)).any (·.1) = false := by rfl)
    (ht : eval (.Call (.Attribute ob m apos) (e :: es) [] pos) X.env = (do
      let ov ← eval ob X.env
      standAt apos.atName
      let (f, first) ← holding [ov] (getMethod ov m pl)
      callWith pos f first (backTo pos (starEach (e :: es) X.env)) (backToKw pos (keywordEach [] X.env))) := by rfl) : EE X G dl (.Call (.Attribute ob m apos) (e :: es) [] pos) d :=
  peI (pe_meth (pl := pl) (E := E0) he c hm F hr hb hd nx.passes ha hst hpl ht) fun st H Q ⟨Hf, S, k⟩ => ⟨Hf, S, fun v Hf1 H1 g1 r1 => by
    cases r1 with
    | @obj a _ dx fv _ q r =>
      exact ⟨a, dx, fv, rfl, g1.sub _ _ q, r.none_of hno, Hf1, S.grow g1, fun vs Hf2 H2 g2 r2 => ⟨Hf2, _, .ret d, g2.sub, .cons (.obj (g2.frz _ _ q) (r.mono g2.frz)) (r2.append (hdd _)), hl, h, fun v Hf3 H3 g3 r3 => k v Hf3 H3 ((g1.trans g2).trans g3) r3⟩⟩⟩
theorem ee_meth0 {pl : Sem Bool} (he : EE X G dl ob (.obj C fs)) (c : Cls X.K C) (hm : Meth X.K C m f) (F : FnOk X.prog X.w X.K X.mg X.base CX k f fd ps (spR X.K n R)) (nx : NoX CX) (hr : Room k X.A) (hb : Binds X.K fd ps dsv) (hd : Vals vds dsv) (hdd : ∀ H, Reps X.K H vds dvs)
    (hl : (Dt.obj C fs :: dvs).length = n) (h : R (.obj C fs :: dvs) (.ret d)) (hno : fs.lookup m = none)
    (ht : eval (.Call (.Attribute ob m apos) [] [] pos) X.env = (do
      let ov ← eval ob X.env
      standAt apos.atName
      let (f, first) ← holding [ov] (getMethod ov m pl)
      callWith pos f first (backTo pos (starEach [] X.env)) (backToKw pos (keywordEach [] X.env))) := by rfl) : EE X G dl (.Call (.Attribute ob m apos) [] [] pos) d :=
  peI (pe_meth0 (pl := pl) (E := E0) he c hm F hr hb hd nx.passes ht) fun st H Q ⟨Hf, S, k⟩ => ⟨Hf, S, fun v Hf1 H1 g1 r1 => by
    cases r1 with
    | @obj a _ dx fv _ q r =>
      exact ⟨a, dx, fv, rfl, g1.sub _ _ q, r.none_of hno, Hf1, _, .ret d, g1.sub, .cons (.obj q r) (hdd _), hl, h, fun v Hf3 H3 g3 r3 => k v Hf3 H3 (g1.trans g3) r3⟩⟩
end
end
end Sg
namespace Sg
open PySem PySem.Spec PyProof.Rows L2
section
variable {X : Cx} {G : Gr} {E : XK} {dl dl1 dl2 : List Slot} {a b c e : Expr} {es : List Expr} {i j : Int} {d d1 d2 : Dt} {ds : List Dt} {pos p p' : Pos} {o o' : Out} {x y f : Str} {u v : Bool} {rest : List Expr} {sts sts' : List Stmt} {s : Stmt} {C : Addr} {fs : List (Str × Dt)}
theorem ee_ty {T : String} (hm : X.mg x = none) (hv : bootBuiltins x = some (.type T)) (hg : Gl X x := by rfl) (hn : x ≠ "__name__" := by decide) (hd : (x == ("__debug__" : Str)) = false := by decide) : EE X G dl (.Name x pos) (.ty T) :=
  peI (pe_bltn (v := .ty T) hg hm hv rfl hn hd) fun st H Q ⟨Hf, S, k⟩ => k _ Hf H (.refl S.sub) (.ty T)
theorem ee_glob {w : V} {z : Value} (hm : X.mg x = some z) (r : RelV w z) (hr : ∀ H, Rep X.K H w d) (hg : Gl X x := by rfl) (hd : (x == ("__debug__" : Str)) = false := by decide) : EE X G dl (.Name x pos) d :=
  peI (pe_glob hg hm r hd) fun st H Q ⟨Hf, S, k⟩ => k _ Hf H (.refl S.sub) (hr _)
theorem boot_int : bootBuiltins "int" = some (.type "int") := by decide +kernel
theorem boot_bool : bootBuiltins "bool" = some (.type "bool") := by decide +kernel
theorem boot_list : bootBuiltins "list" = some (.type "list") := by decide +kernel
theorem boot_dict : bootBuiltins "dict" = some (.type "dict") := by decide +kernel
structure Mk0 (K : PySem.W.Frag) (C : Addr) : Prop where
  makes : PySem.W.makesIn K C = true
  init : PySem.W.findIn K (.ref C) "__init__" = some (some (.builtin "object.__init__"))
  kp : PySem.W.keepIn K (.ref C) = true
theorem run_make0 {pins : List (Addr × Obj)} {st : L2.St} {H : Hp} {s : Shared} {Q : VK} (M : Mk0 X.K C) (I : L2.Inv X pins st H s) (h : ∀ x dx, H x = none → H dx = none → dx ≠ x → Q (.ref x) (upd (upd H dx (.own x)) x (.ins C dx []))) : wpAny (model X.prog X.w) X.A (call (.ref C) []) (EP X pins st Q) X.xe s := by
  have hq := h (s.heap.objs.size + 1) s.heap.objs.size (I.hok.fresh (Nat.le_succ _)) (I.hok.fresh (Nat.le_refl _)) (Nat.ne_of_lt (Nat.lt_succ_self _))
  have I2 := L2.Inv.made (C := C) I
  refine wpAny_call (make_map0 (s := s) I.kIn M.makes M.init (fun self => PySem.W.Looks.of_pure (PySem.W.oi_bind self)) ?_)
  obtain ⟨hh, g, d, t, os⟩ := s
  have Y := PySem.W.makes_of (M := model X.prog X.w) I.kIn M.makes
  have t1 : PySem.W.Looks (model X.prog X.w) ((hh.push PySem.W.emptyDict).push (PySem.W.instObj C hh.objs.size)) (typeOf (.ref (hh.objs.size + 1))) (.ref C) := by
    have e2 := Heap.get?_push_size (hh.push PySem.W.emptyDict) (o := PySem.W.instObj C hh.objs.size) rfl
    rw [Heap.size_push] at e2
    exact (PySem.W.Looks.ld e2).andThen .now
  have t2 : PySem.W.Looks (model X.prog X.w) ((hh.push PySem.W.emptyDict).push (PySem.W.instObj C hh.objs.size)) (isInstance (.ref (hh.objs.size + 1)) (.type "object")) true := t1.andThen (Y.top.keeps fun b o e => Heap.get?_push_of_some _ (Heap.get?_push_of_some _ e))
  refine codeAny_call_builtin PySem.W.oi_plain PySem.W.entry_oi (@PySem.W.check_slot (model X.prog X.w) _ _ _ "object.__init__" "object" "__init__" (.ref (hh.objs.size + 1)) [] [] _ PySem.W.oi_kind PySem.W.oi_split t2 (PySem.W.oi_args (.ref (hh.objs.size + 1))) ?_)
  rw [PySem.W.oi_run]
  exact wpAny_pure (And.intro rfl ⟨V.ref (hh.objs.size + 1), _, I2, rfl, hq⟩)
theorem ee_make0 (M : Mk0 X.K C) (hm : X.mg x = some (.ref C)) (hg : Gl X x := by rfl) (hdb : (x == ("__debug__" : Str)) = false := by decide) : EE X G dl (.Call (.Name x p) [] [] pos) (.obj C []) := by
  intro pins s st H Q I ⟨Hf, S, k⟩
  refine wpAny_Call_Name_kw (ld_glob I hg hm ?_ hdb)
  refine PySem.W.callWith_K0 I.kIn M.kp (run_make0 M I fun x dx hx hdx ne => ?_)
  have hx' : (upd H dx (.own x)) x = none := by rw [upd_ne (Ne.symm ne)]; exact hx
  have g1 : Grow Hf H Hf (upd H dx (.own x)) := .allocO S.sub hdx
  have g2 := Grow.alloc (o := .ins C dx []) g1.sub hx'
  exact k _ _ _ (g1.trans g2) (.obj upd_same .nil)
theorem ee_fld (he : EE X G dl e (.obj C fs)) (c : Cls X.K C) (n : NoAttr X.K C f) (h : fs.lookup f = some d) (hb : attributeBase e f X.env (eval e X.env) = eval e X.env := by rfl) : EE X G dl (.Attribute e f pos) d :=
  peI (pe_fld he hb) fun st H Q ⟨Hf, S, k⟩ => ⟨Hf, S, fun v Hf1 H1 g1 r1 => by
    cases r1 with
    | @obj a _ dx fv _ q r =>
      obtain ⟨y, h1, h2⟩ := r.lookup h
      exact ⟨a, C, dx, fv, y, rfl, g1.sub _ _ q, c, n, h1, k y Hf1 H1 g1 h2⟩⟩
theorem ee_lenL (hm : X.mg "len" = none) (ha : EE X G dl a (.lst ds)) (hg : Gl X "len" := by rfl) (he : starEach [a] X.env = [(false, eval a X.env)] := by rfl) : EE X G dl (.Call (.Name "len" p) [a] [] pos) (.int ds.length) :=
  peI (pe_callB call_len_seq hg hm PySem.boot_len (ea_cons ha ea_nil he) (he := he)) fun st H Q ⟨Hf, S, k⟩ => ⟨Hf, S, fun vs Hf1 H1 g1 r1 => by
    cases r1 with
    | cons r t => cases t; cases r with
      | @lst q vs _ z w => exact ⟨q, vs, rfl, .inl (.of (g1.sub _ _ z)), by rw [w.length]; exact k _ Hf1 H1 g1 (.int _)⟩⟩
theorem ee_lenC {ns : List Int} (hm : X.mg "len" = none) (ha : EE X G dl a (.scr ns)) (hg : Gl X "len" := by rfl) (he : starEach [a] X.env = [(false, eval a X.env)] := by rfl) : EE X G dl (.Call (.Name "len" p) [a] [] pos) (.int ns.length) :=
  peI (pe_callB call_len_seq hg hm PySem.boot_len (ea_cons ha ea_nil he) (he := he)) fun st H Q ⟨Hf, S, k⟩ => ⟨Hf, S, fun vs Hf1 H1 g1 r1 => by
    cases r1 with
    | cons r t => cases t; cases r with
      | @scr q _ z => exact ⟨q, _, rfl, .inl (g1.sub.seq z), by rw [List.length_map]; exact k _ Hf1 H1 g1 (.int _)⟩⟩
theorem ee_lenS (hm : X.mg "len" = none) (ha : EE X G dl a (.str x)) (hl : x.length ≤ sizeLine) (hg : Gl X "len" := by rfl) (he : starEach [a] X.env = [(false, eval a X.env)] := by rfl) : EE X G dl (.Call (.Name "len" p) [a] [] pos) (.int x.length) :=
  peI (pe_callB call_len_str hg hm PySem.boot_len (ea_cons ha ea_nil he) (he := he)) fun st H Q ⟨Hf, S, k⟩ => ⟨Hf, S, fun vs Hf1 H1 g1 r1 => by
    cases r1 with
    | cons r t => cases t; cases r; exact ⟨x, rfl, hl, k _ Hf1 H1 g1 (.int _)⟩⟩
def tyD : Dt → Value
  | .non => .type "NoneType"
  | .bl _ => .type "bool"
  | .int _ => .type "int"
  | .str _ => .type "str"
  | .tup _ => .type "tuple"
  | .lst _ => .type "list"
  | .scr _ => .type "list"
  | .dic _ => .type "dict"
  | .obj C _ => .ref C
  | .ty _ => .type "type"
  | .cls _ => .type "type"
  | .xo C => .ref C
  | .dicF _ => .type "dict"
  | .xof C _ => .ref C
  | .dicK _ => .type "dict"
  | .memo _ _ _ _ => .type "list"
  | .memoY _ _ _ _ => .type "list"
  | .kno _ _ _ => .type "NoneType"
  | .gro C _ _ _ _ => .ref C
structure TyC (K : PySem.W.Frag) (C : Addr) : Prop where
  cl : Cls K C
  ha : PySem.W.findIn K (.ref C) "__class__" = some (some (.builtin "object.__class__"))
  hn : PySem.W.specialIn K (.builtin "object.__class__") "__get__" = some (some (.builtin "getset_descriptor.__get__"))
  htk : PySem.W.takesIn K (.builtin "object.__class__") = some true
  hm : PySem.W.mroIn K C (.type "object") = some true
def TyOk (K : PySem.W.Frag) : Dt → Prop
  | .obj C _ => TyC K C
  | .xo C => TyX K C
  | .xof C _ => TyX K C
  | .memo _ _ _ _ => False
  | .memoY _ _ _ _ => False
  | .kno _ _ _ => False
  | .gro C _ _ _ _ => TyC K C
  | .ty _ => False
  | .cls _ => False
  | _ => True
def clsV : Dt → Option Value
  | .ty n => some (.type n)
  | .cls C => some (.ref C)
  | _ => none
theorem isinst_D {pins : List (Addr × Obj)} {st : L2.St} {Hf H : Hp} {s : Shared} {Q : Value → Shared → Prop} {w : V} {z c : Value} {r : Bool} (I : L2.Inv X pins st H s) (sm : Same Hf H) (rp : Rep X.K Hf w d) (rx : RelV w z) (t : TyOk X.K d) (e : PySem.W.kitOne X.K (tyD d) c = some r) (h : ∀ tk, Q (.bool r) { s with toks := tk }) : wpAny (model X.prog X.w) X.A (call (.builtin "isinstance") [z, c]) Q X.xe s := by
  cases rp with
  | non => cases (show z = Value.none from rx); exact PySem.W.kia_one PySem.W.kitx_none I.kIn True.intro e (fun z => nomatch z) h
  | bl y => cases (show z = Value.bool y from rx); exact PySem.W.kia_one PySem.W.kitx_bool I.kIn True.intro e (fun z => nomatch z) h
  | int i => obtain ⟨t, q⟩ := (show ∃ t, z = Value.int i t from rx); cases q; exact PySem.W.kia_one PySem.W.kitx_int I.kIn True.intro e (fun z => nomatch z) h
  | str y => obtain ⟨t, q⟩ := (show ∃ t, z = Value.str y t from rx); cases q; exact PySem.W.kia_one PySem.W.kitx_str I.kIn True.intro e (fun z => nomatch z) h
  | @tup a vs ds q rr =>
    cases (show z = Value.ref a from rx)
    obtain ⟨its, _, ⟨o, h1, h2, _⟩, _⟩ := I.tuple (SqT_same sm q)
    exact PySem.W.kia_one PySem.W.kitx_tuple I.kIn ⟨o, h1, h2⟩ e (fun z => nomatch z) h
  | @lst a vs ds q rr =>
    cases (show z = Value.ref a from rx)
    obtain ⟨its, _, ⟨o, n, h1, h2, _⟩, _⟩ := I.list (.of (sm _ _ q))
    exact PySem.W.kia_one PySem.W.kitx_list I.kIn ⟨o, h1, h2⟩ e (fun z => nomatch z) h
  | @scr a ns q =>
    cases (show z = Value.ref a from rx)
    obtain ⟨its, _, ⟨o, n, h1, h2, _⟩, _⟩ := I.list (sm.seq q)
    exact PySem.W.kia_one PySem.W.kitx_list I.kIn ⟨o, h1, h2⟩ e (fun z => nomatch z) h
  | @dic a kvs kds q rr =>
    cases (show z = Value.ref a from rx)
    exact isinst_ok (x := .ref a) I rfl (.dK (sm _ _ q)) e h
  | @obj a C dx fv fs q rr =>
    cases (show z = Value.ref a from rx)
    have t : TyC X.K C := t
    exact isinst_ok (x := .ref a) I rfl (.ins (sm _ _ q) t.cl t.ha t.hn t.htk t.hm) e h
  | ty n => exact t.elim
  | cls C => exact t.elim
  | @xo a C ph q hp =>
    cases (show z = Value.ref a from rx)
    have t : TyX X.K C := t
    have ok : ObjOk X.prog X.w H s.heap a (.ext ph) := I.hok a _ (sm _ _ q)
    exact PySem.W.kia_one (kitx_exc t) I.kIn (hp _ ok.1) e (fun z => nomatch z) h
  | @dicF a ob kvs kds q rr =>
    cases (show z = Value.ref a from rx)
    obtain ⟨_, _, vs, _, D⟩ := dk_rd (kvs := kvs) I.hok (.inr (.inl ⟨ob, sm _ _ q⟩))
    exact PySem.W.kia_one PySem.W.kitx_dict I.kIn D.typeIs e (fun z => nomatch z) h
  | @xof a C dx ph fv fs q hp g rr =>
    cases (show z = Value.ref a from rx)
    have t : TyX X.K C := t
    have ok : ObjOk X.prog X.w H s.heap a (.ext ph) := I.hok a _ (sm _ _ q)
    exact PySem.W.kia_one (kitx_exc t) I.kIn (hp _ ok.1).of e (fun z => nomatch z) h
  | @dicK a tg ob kvs kds q rr =>
    cases (show z = Value.ref a from rx)
    obtain ⟨_, _, vs, _, D⟩ := dk_rd (kvs := kvs) I.hok (.inr (.inr ⟨tg, ob, kvs, sm _ _ q, rfl⟩))
    exact PySem.W.kia_one PySem.W.kitx_dict I.kIn D.typeIs e (fun z => nomatch z) h
  | memo => exact t.elim
  | memoY => exact t.elim
  | kno => exact t.elim
  | @gro a _ C dx fv fs gs nm n ls _ q rr =>
    cases (show z = Value.ref a from rx)
    have t : TyC X.K C := t
    exact isinst_ok (x := .ref a) I rfl (.ins (sm _ _ q) t.cl t.ha t.hn t.htk t.hm) e h
theorem boot_isinstance : bootBuiltins "isinstance" = some (.builtin "isinstance") := by decide +kernel
def rIsi (K : PySem.W.Frag) (d d2 : Dt) (r : Bool) : List V → Hp → VK → Prop := fun xs H Q => ∃ Hf w c, xs = [w, c] ∧ Same Hf H ∧ Rep K Hf w d ∧ Rep K Hf c d2 ∧ Q (.bl r) H
theorem call_isi {r : Bool} {z : Value} (hc : clsV d2 = some z) (t : TyOk X.K d) (h : PySem.W.kitOne X.K (tyD d) z = some r) : CallR X (.builtin "isinstance") (rIsi X.K d d2 r) := by
  intro pins s st H xs us Q I rv ⟨Hf, w, c, e, sm, r1, r2, q⟩
  subst e
  cases rv with
  | cons q1 t1 =>
    cases t1 with
    | cons q2 t2 =>
      cases t2
      rename_i ud uc
      have ez : uc = z := by
        cases r2 with
        | ty n => cases hc; exact q2
        | cls C => cases hc; exact q2
        | _ => cases hc
      subst ez
      exact isinst_D I sm r1 q1 t h fun tk => ⟨.bl r, H, I.tok _, rfl, q⟩
theorem ee_isi {r : Bool} {z : Value} (hm : X.mg "isinstance" = none) (ha : EE X G dl a d) (hb : EE X G dl b d2) (hc : clsV d2 = some z) (t : TyOk X.K d) (h : PySem.W.kitOne X.K (tyD d) z = some r) (hg : Gl X "isinstance" := by rfl) (he : starEach [a, b] X.env = (false, eval a X.env) :: starEach [b] X.env := by rfl) (he2 : starEach [b] X.env = [(false, eval b X.env)] := by rfl) (hpl : (backTo pos (starEach [b] X.env)).any (·.1) = false := by rfl) : EE X G dl (.Call (.Name "isinstance" p) [a, b] [] pos) (.bl r) :=
  peI (pe_callB (call_isi hc t h) hg hm boot_isinstance (ea_cons ha (ea_cons hb ea_nil he2) he) (by decide) (by decide) he hpl) fun st H Q ⟨Hf, S, k⟩ => ⟨Hf, S, fun vs Hf1 H1 g1 r1 => by
    cases r1 with
    | cons r1 t1 => cases t1 with
      | cons r2 t2 => cases t2; exact ⟨Hf1, _, _, rfl, g1.sub, r1, r2, k _ Hf1 H1 g1 (.bl _)⟩⟩
mutual
def pd : Dt → PyData
  | .non => .none
  | .bl b => .bool b
  | .int i => .int i
  | .str x => .str x
  | .tup ds => .tuple (pds ds)
  | .lst ds => .list (pds ds)
  | .scr _ => .none
  | .dic _ => .none
  | .obj _ _ => .none
  | .ty _ => .none
  | .cls _ => .none
  | .xo _ => .none
  | .dicF _ => .none
  | .xof _ _ => .none
  | .dicK _ => .none
  | .memo _ _ _ _ => .none
  | .memoY _ _ _ _ => .none
  | .kno _ _ _ => .none
  | .gro _ _ _ _ _ => .none
def pds : List Dt → List PyData
  | [] => []
  | d :: r => pd d :: pds r
end
mutual
def plain : Dt → Bool
  | .tup ds => plains ds
  | .lst ds => plains ds
  | .scr _ => false
  | .dic _ => false
  | .obj _ _ => false
  | .ty _ => false
  | .cls _ => false
  | .xo _ => false
  | .dicF _ => false
  | .xof _ _ => false
  | .dicK _ => false
  | .memo _ _ _ _ => false
  | .memoY _ _ _ _ => false
  | .kno _ _ _ => false
  | .gro _ _ _ _ _ => false
  | .non => true
  | .bl _ => true
  | .int _ => true
  | .str _ => true
def plains : List Dt → Bool
  | [] => true
  | d :: r => plain d && plains r
end
section
variable {pins : List (Addr × Obj)} {st : L2.St} {Hf H : Hp} {s : Shared}
mutual
theorem reads_of (I : L2.Inv X pins st H s) (sm : Same Hf H) : ∀ {w : V} {d : Dt} {z : Value}, Rep X.K Hf w d → plain d = true → RelV w z → ∃ as, Reads s.heap z (pd d) as
  | _, _, z, .non, _, r => by cases (show z = Value.none from r); exact ⟨_, .none⟩
  | _, _, z, .bl b, _, r => by cases (show z = Value.bool b from r); exact ⟨_, .bool b⟩
  | _, _, z, .int i, _, r => by obtain ⟨t, q⟩ := (show ∃ t, z = Value.int i t from r); cases q; exact ⟨_, .int i t⟩
  | _, _, z, .str x, _, r => by obtain ⟨t, q⟩ := (show ∃ t, z = Value.str x t from r); cases q; exact ⟨_, .str x t⟩
  | _, _, z, @Rep.tup _ _ a vs ds q rr, h, r => by
    cases (show z = Value.ref a from r)
    obtain ⟨its, rv, ⟨o, h1, h2, n, h3⟩, _⟩ := I.tuple (SqT_same sm q)
    obtain ⟨as, ra⟩ := readss_of I sm rr (by rw [plain] at h; exact h) rv
    refine ⟨as, ?_⟩
    rw [pd]
    exact .tuple h1 h2 h3 (by simpa using ra)
  | _, _, z, @Rep.lst _ _ a vs ds q rr, h, r => by
    cases (show z = Value.ref a from r)
    obtain ⟨its, rv, ⟨o, n, h1, h2, _, h3⟩, _⟩ := I.list (.of (sm _ _ q))
    obtain ⟨as, ra⟩ := readss_of I sm rr (by rw [plain] at h; exact h) rv
    refine ⟨a :: as, ?_⟩
    rw [pd]
    exact .list h1 h2 h3 (by simpa using ra)
  | _, _, _, .dic _ _, h, _ => by rw [plain] at h; cases h
  | _, _, _, .scr _, h, _ => by rw [plain] at h; cases h
  | _, _, _, .obj _ _, h, _ => by rw [plain] at h; cases h
  | _, _, _, .ty _, h, _ => by rw [plain] at h; cases h
  | _, _, _, .cls _, h, _ => by rw [plain] at h; cases h
  | _, _, _, .xo _ _, h, _ => by rw [plain] at h; cases h
  | _, _, _, .dicF _ _, h, _ => by rw [plain] at h; cases h
  | _, _, _, .xof _ _ _ _, h, _ => by rw [plain] at h; cases h
  | _, _, _, .dicK _ _, h, _ => by rw [plain] at h; cases h
  | _, _, _, .memo _ _ _ _, h, _ => by rw [plain] at h; cases h
  | _, _, _, .memoY _ _ _ _, h, _ => by rw [plain] at h; cases h
  | _, _, _, .kno _, h, _ => by rw [plain] at h; cases h
  | _, _, _, .gro _ _ _, h, _ => by rw [plain] at h; cases h
theorem readss_of (I : L2.Inv X pins st H s) (sm : Same Hf H) : ∀ {vs : List V} {ds : List Dt} {zs : List Value}, Reps X.K Hf vs ds → plains ds = true → Vals vs zs → ∃ as, ReadsAll s.heap zs (pds ds) as
  | _, _, _, .nil, _, .nil => ⟨[], by rw [pds]; exact .nil⟩
  | _, _, _, .cons r t, h, .cons q w => by
    rw [plains, Bool.and_eq_true] at h
    obtain ⟨as, h1⟩ := reads_of I sm r h.1 q
    obtain ⟨bs, h2⟩ := readss_of I sm t h.2 w
    exact ⟨as ++ bs, by rw [pds]; exact .cons h1 h2⟩
end
end
def okD (d : Dt) : Prop := plain d = true ∧ SeqAt.shaped (pd d) = true
def rEqD (K : PySem.W.Frag) (d1 d2 : Dt) (g : Bool → Bool) : R2 := fun x y H Q => ∃ Hf, Same Hf H ∧ Rep K Hf x d1 ∧ Rep K Hf y d2 ∧ okD d1 ∧ okD d2 ∧ Q (.bl (g (PyData.eqv (pd d1) (pd d2)))) H
theorem op_eqD (hu : X.A.units + 64 < cLine) : OpR X (compareOp .Eq) (rEqD X.K d1 d2 id) := by
  intro pins s st H x y v w Q I rx ry ⟨Hf, sm, r1, r2, o1, o2, q⟩
  obtain ⟨as, h1⟩ := reads_of I sm r1 o1.1 rx
  obtain ⟨bs, h2⟩ := reads_of I sm r2 o2.1 ry
  exact eq_dataH h1 h2 o1.2 o2.2 hu ⟨.bl _, H, I, rfl, q⟩
theorem r2_eqD {K : PySem.W.Frag} {g : Bool → Bool} (o1 : okD d1) (o2 : okD d2) : R2D K (rEqD K d1 d2 g) d1 d2 (.bl (g (PyData.eqv (pd d1) (pd d2)))) := fun v w Hf H Q s r1 r2 k => ⟨Hf, s, r1, r2, o1, o2, k _ Hf H (.refl s) (.bl _)⟩
mutual
theorem eqv_refl : ∀ d : Dt, plain d = true → PyData.eqv (pd d) (pd d) = true
  | .non, _ => by simp [pd, PyData.eqv]
  | .bl b, _ => by simp [pd, PyData.eqv]
  | .int i, _ => by simp [pd, PyData.eqv]
  | .str x, _ => by simp [pd, PyData.eqv]
  | .tup ds, h => by rw [plain] at h; rw [pd, PyData.eqv]; exact eqvs_refl ds h
  | .lst ds, h => by rw [plain] at h; rw [pd, PyData.eqv]; exact eqvs_refl ds h
  | .dic _, h => by rw [plain] at h; cases h
  | .scr _, h => by rw [plain] at h; cases h
  | .obj _ _, h => by rw [plain] at h; cases h
  | .ty _, h => by rw [plain] at h; cases h
  | .cls _, h => by rw [plain] at h; cases h
  | .xo _, h => by rw [plain] at h; cases h
  | .dicF _, h => by rw [plain] at h; cases h
  | .xof _ _, h => by rw [plain] at h; cases h
  | .dicK _, h => by rw [plain] at h; cases h
  | .memo _ _ _ _, h => by rw [plain] at h; cases h
  | .memoY _ _ _ _, h => by rw [plain] at h; cases h
  | .kno _ _ _, h => by rw [plain] at h; cases h
  | .gro _ _ _ _ _, h => by rw [plain] at h; cases h
theorem eqvs_refl : ∀ ds : List Dt, plains ds = true → PyData.eqvAll (pds ds) (pds ds) = true
  | [], _ => by simp [pds, PyData.eqvAll]
  | d :: r, h => by
    rw [plains, Bool.and_eq_true] at h
    rw [pds, PyData.eqvAll, eqv_refl d h.1, eqvs_refl r h.2]; rfl
end
theorem ee_eq (hr : X.A.units + 64 < cLine) (ha : EE X G dl a d1) (hb : EE X G dl b d2) (o1 : okD d1) (o2 : okD d2) (hu : PyData.eqv (pd d1) (pd d2) = u) : EE X G dl (.Compare a [.Eq] [b] pos) (.bl u) := by
  subst hu; exact ee_cmp (op_eqD hr) (r2_eqD (g := id) o1 o2) (nomark _) ha hb
theorem eb_lt (ha : EE X G dl a (.int i)) (hb : EE X G dl b (.int j)) : EB X G dl (.Compare a [.Lt] [b] pos) (decide (i < j)) := eb_cmp op_lt (r2_I0 (g' := fun i j => .bl (decide (i < j))) fun _ _ _ _ => .bl _) (nomark _) ha hb
theorem eb_le (ha : EE X G dl a (.int i)) (hb : EE X G dl b (.int j)) : EB X G dl (.Compare a [.LtE] [b] pos) (decide (i ≤ j)) := eb_cmp op_le (r2_I0 (g' := fun i j => .bl (decide (i ≤ j))) fun _ _ _ _ => .bl _) (nomark _) ha hb
theorem eb_gt (ha : EE X G dl a (.int i)) (hb : EE X G dl b (.int j)) : EB X G dl (.Compare a [.Gt] [b] pos) (decide (j < i)) := eb_cmp op_gt (r2_I0 (g' := fun i j => .bl (decide (j < i))) fun _ _ _ _ => .bl _) (nomark _) ha hb
theorem eb_ge (ha : EE X G dl a (.int i)) (hb : EE X G dl b (.int j)) : EB X G dl (.Compare a [.GtE] [b] pos) (decide (j ≤ i)) := eb_cmp op_ge (r2_I0 (g' := fun i j => .bl (decide (j ≤ i))) fun _ _ _ _ => .bl _) (nomark _) ha hb
theorem r2_eqS {K : PySem.W.Frag} {w1 w2 : V} {g : Bool → Bool} (h1 : ∀ H w, Rep K H w d1 → w = w1) (h2 : ∀ H w, Rep K H w d2 → w = w2) (hs : scal w1 w2 = true) : R2D K (fun x y H Q => scal x y = true ∧ Q (.bl (g (decide (x = y)))) H) d1 d2 (.bl (g (decide (w1 = w2)))) := fun v w Hf H Q s r1 r2 k => by
  cases h1 _ _ r1; cases h2 _ _ r2; exact ⟨hs, k _ Hf H (.refl s) (.bl _)⟩
theorem dec_int (i j : Int) : decide (V.int i = V.int j) = decide (i = j) := by simp
theorem dec_str (i j : Str) : decide (V.str i = V.str j) = decide (i = j) := by simp
theorem ee_eqI (ha : EE X G dl a (.int i)) (hb : EE X G dl b (.int j)) : EE X G dl (.Compare a [.Eq] [b] pos) (.bl (decide (i = j))) := by
  rw [← dec_int]; exact ee_cmp op_eq (r2_eqS (g := id) (fun _ _ r => by cases r; rfl) (fun _ _ r => by cases r; rfl) rfl) (nomark _) ha hb
theorem eb_eqI (ha : EE X G dl a (.int i)) (hb : EE X G dl b (.int j)) : EB X G dl (.Compare a [.Eq] [b] pos) (decide (i = j)) := by
  rw [← dec_int]; exact eb_cmp op_eq (r2_eqS (g := id) (fun _ _ r => by cases r; rfl) (fun _ _ r => by cases r; rfl) rfl) (nomark _) ha hb
theorem eb_neI (ha : EE X G dl a (.int i)) (hb : EE X G dl b (.int j)) : EB X G dl (.Compare a [.NotEq] [b] pos) (!decide (i = j)) := by
  rw [← dec_int]; exact eb_cmp op_ne (r2_eqS (g := (!·)) (fun _ _ r => by cases r; rfl) (fun _ _ r => by cases r; rfl) rfl) (nomark _) ha hb
theorem eb_eqS (ha : EE X G dl a (.str x)) (hb : EE X G dl b (.str y)) : EB X G dl (.Compare a [.Eq] [b] pos) (decide (x = y)) := by
  rw [← dec_str]; exact eb_cmp op_eq (r2_eqS (g := id) (fun _ _ r => by cases r; rfl) (fun _ _ r => by cases r; rfl) rfl) (nomark _) ha hb
end
end Sg
namespace Sg
open PySem PySem.Spec PyProof.Rows L2
structure GF (P : Program) (w : World) (K : PySem.W.Frag) (mg : Str → Option Value) (base : Heap) (CX : CXT) (k : Nat) (x : Str) (n : Nat) (R : List Dt → Res → Prop) : Prop where
  ex : ∃ f fd ps, FnOk P w K mg base CX k f fd ps (spR K n R) ∧ mg x = some (.ref f) ∧ PySem.W.keepIn K (.ref f) = true ∧ Binds K fd ps []
structure MF (P : Program) (w : World) (K : PySem.W.Frag) (mg : Str → Option Value) (base : Heap) (CX : CXT) (k : Nat) (C : Addr) (m : Str) (n : Nat) (R : List Dt → Res → Prop) : Prop where
  cl : Cls K C
  ex : ∃ f fd ps, FnOk P w K mg base CX k f fd ps (spR K n R) ∧ Meth K C m f ∧ Binds K fd ps []
section
variable {X : Cx} {G : Gr} {E : XK} {dl : List Slot} {e : Expr} {es : List Expr} {d : Dt} {ds : List Dt} {pos p apos : Pos} {x m : Str} {C : Addr} {fs : List (Str × Dt)} {CX : CXT} {k k' n : Nat} {R : List Dt → Res → Prop} {ob : Expr}
theorem ee_gf (F : GF X.prog X.w X.K X.mg X.base CX k x n R) (nx : NoX CX) (hr : Room k' X.A) (ha : EA X G dl (e :: es) ds) (h : R ds (.ret d)) (hkk : k ≤ k' := by decide) (hl : ds.length = n := by rfl) (hg : Gl X x := by rfl) (hdb : (x == ("__debug__" : Str)) = false := by decide) (he : starEach (e :: es) X.env = (false, eval e X.env) :: starEach es X.env := by rfl) (hpl : (backTo pos (starEach es X.env)).any (·.1) = false := by rfl) : EE X G dl (.Call (.Name x p) (e :: es) [] pos) d := by
  obtain ⟨f, fd, ps, F, hm, hk, hb⟩ := F.ex
  refine ee_call (dvs := []) (vds := []) F nx (hr.mono hkk) hm hk hb .nil (fun _ => .nil) ha (by rw [List.append_nil]; exact hl) (by rw [List.append_nil]; exact h) hg hdb he hpl
theorem ee_mf {pl : Sem Bool} (he : EE X G dl ob (.obj C fs)) (F : MF X.prog X.w X.K X.mg X.base CX k C m n R) (nx : NoX CX) (hr : Room k' X.A) (ha : EA X G dl (e :: es) ds) (h : R (.obj C fs :: ds) (.ret d)) (hkk : k ≤ k' := by decide) (hl : (Dt.obj C fs :: ds).length = n := by rfl) (hno : fs.lookup m = none := by rfl)
    (hst : starEach (e :: es) X.env = (false, eval e X.env) :: starEach es X.env := by rfl) (hpl : (backTo pos (starEach es X.env)).any (·.1) = false := by rfl)
    (ht : eval (.Call (.Attribute ob m apos) (e :: es) [] pos) X.env = (do
      let ov ← eval ob X.env
      standAt apos.atName
      let (f, first) ← holding [ov] (getMethod ov m pl)
      callWith pos f first (backTo pos (starEach (e :: es) X.env)) (backToKw pos (keywordEach [] X.env))) := by rfl) : EE X G dl (.Call (.Attribute ob m apos) (e :: es) [] pos) d := by
  obtain ⟨f, fd, ps, Fo, hm, hb⟩ := F.ex
  refine ee_meth (dvs := []) (vds := []) (pl := pl) he F.cl hm Fo nx (hr.mono hkk) hb .nil (fun _ => .nil) ha (by rw [List.append_nil]; exact hl) (by rw [List.append_nil]; exact h) hno hst hpl ht
theorem ee_mf0 {pl : Sem Bool} (he : EE X G dl ob (.obj C fs)) (F : MF X.prog X.w X.K X.mg X.base CX k C m n R) (nx : NoX CX) (hr : Room k' X.A) (h : R [.obj C fs] (.ret d)) (hkk : k ≤ k' := by decide) (hl : [Dt.obj C fs].length = n := by rfl) (hno : fs.lookup m = none := by rfl)
    (ht : eval (.Call (.Attribute ob m apos) [] [] pos) X.env = (do
      let ov ← eval ob X.env
      standAt apos.atName
      let (f, first) ← holding [ov] (getMethod ov m pl)
      callWith pos f first (backTo pos (starEach [] X.env)) (backToKw pos (keywordEach [] X.env))) := by rfl) : EE X G dl (.Call (.Attribute ob m apos) [] [] pos) d := by
  obtain ⟨f, fd, ps, Fo, hm, hb⟩ := F.ex
  refine ee_meth0 (dvs := []) (vds := []) (pl := pl) he F.cl hm Fo nx (hr.mono hkk) hb .nil (fun _ => .nil) hl h hno ht
end
end Sg
namespace Sg
open PySem PySem.Spec PyProof.Rows L2
end Sg
namespace Sg
open PySem PySem.Spec PyProof.Rows L2
section
variable {P : Program} {w : World} {K : PySem.W.Frag} {mg : Str → Option Value} {base : Heap} {N : List Str} {qual : Str} {scope : Scope} {f : Addr} {cd : Value} {A : Around} {outer : List Env} {s0 : Shared} {H0 : Hp} {E : XK} {CX : CXT}
end
def bmV : List Value := [.type "ValueError", .type "Exception", .type "BaseException", .type "object"]
structure ExC (K : PySem.W.Frag) (C : Addr) : Prop where
  ex : PySem.W.excIn K C bmV "ValueError.__new__" = true
section
variable {X : Cx} {G : Gr} {E : XK} {dl : List Slot} {e : Expr} {es : List Expr} {d : Dt} {ds : List Dt} {np cpos pos : Pos} {x : Str} {C : Addr}
end
end Sg
namespace Sg
open PySem PySem.Spec PyProof.Rows L2
def nvr : Value → Shared → Prop := fun _ _ => False
def clGo (cells : List (Str × Addr)) : List (Str × NameKind) → List (Str × Addr) → List (Str × Addr)
  | [], cs => cs
  | (n, k) :: r, cs => if k == .free then clGo cells r ((n, (cells.lookup n).getD 0) :: cs) else clGo cells r cs
def clOf (sc : Scope) (env : Env) : List (Str × Addr) := clGo env.cells sc.names []
theorem clGo_eq {env : Env} : ∀ (l : List (Str × NameKind)) (cs : List (Str × Addr)), (∀ y ∈ l, y.2 = .free → ∃ c, env.cells.lookup y.1 = some c) →
    (forIn l cs fun (x : Str × NameKind) r => (if x.2 == .free then (do let c ← cellOf env x.1; pure (ForInStep.yield ((x.1, c) :: r))) else pure (ForInStep.yield r) : Sem _)) = pure (clGo env.cells l cs)
  | [], cs, _ => rfl
  | (n, k) :: l, cs, h => by
    have hr : ∀ y ∈ l, y.2 = .free → ∃ c, env.cells.lookup y.1 = some c := fun y hy => h y (List.mem_cons_of_mem _ hy)
    rw [List.forIn_cons, clGo]
    by_cases hk : (k == NameKind.free) = true
    · obtain ⟨c, hc⟩ := h (n, k) List.mem_cons_self (by simpa using hk)
      have hc : env.cells.lookup n = some c := hc
      simp only [hk, if_true, cellOf, hc, pure_bind, Option.getD_some]
      exact clGo_eq l _ hr
    · simp only [hk, if_false, pure_bind]
      exact clGo_eq l _ hr
theorem clos_eq {sc : Scope} {env : Env} (h : ∀ y ∈ sc.names, y.2 = .free → ∃ c, env.cells.lookup y.1 = some c) : closureFor sc env = pure (clOf sc env) := by
  unfold closureFor clOf
  have := clGo_eq (env := env) sc.names [] h
  simp only [bind_pure]
  refine Eq.trans ?_ this
  congr 1
theorem clGo_in {cells : List (Str × Addr)} {y : Str} {c : Addr} : ∀ (l : List (Str × NameKind)) (cs : List (Str × Addr)), (clGo cells l cs).lookup y = some c → ((y, NameKind.free) ∈ l ∧ (cells.lookup y).getD 0 = c) ∨ cs.lookup y = some c
  | [], cs, h => .inr h
  | (n, k) :: l, cs, h => by
    rw [clGo] at h
    by_cases hk : (k == NameKind.free) = true
    · rw [if_pos hk] at h
      have hk' : k = .free := by simpa using hk
      subst hk'
      rcases clGo_in l _ h with ⟨h1, h2⟩ | h1
      · exact .inl ⟨List.mem_cons_of_mem _ h1, h2⟩
      · rw [List.lookup_cons] at h1
        cases q : (y == n) with
        | true =>
          rw [q] at h1
          have e : y = n := by simpa using q
          subst e
          exact .inl ⟨List.mem_cons_self, Option.some.inj h1⟩
        | false => rw [q] at h1; exact .inr h1
    · rw [if_neg hk] at h
      rcases clGo_in l _ h with ⟨h1, h2⟩ | h1
      · exact .inl ⟨List.mem_cons_of_mem _ h1, h2⟩
      · exact .inr h1
theorem clGo_has {cells : List (Str × Addr)} {y : Str} : ∀ (l : List (Str × NameKind)) (cs : List (Str × Addr)), ((y, NameKind.free) ∈ l ∨ ∃ c, cs.lookup y = some c) → ∃ c, (clGo cells l cs).lookup y = some c
  | [], cs, h => by
    rcases h with h | h
    · cases h
    · exact h
  | (n, k) :: l, cs, h => by
    rw [clGo]
    by_cases hk : (k == NameKind.free) = true
    · rw [if_pos hk]
      refine clGo_has l _ ?_
      rcases h with h | ⟨c, h⟩
      · rcases List.mem_cons.mp h with h | h
        · cases h; exact .inr ⟨_, by rw [List.lookup_cons, show (y == y) = true by simp]⟩
        · exact .inl h
      · refine .inr ?_
        rw [List.lookup_cons]
        cases q : (y == n) with
        | true => exact ⟨_, rfl⟩
        | false => exact ⟨c, h⟩
    · rw [if_neg hk]
      refine clGo_has l _ ?_
      rcases h with h | h
      · rcases List.mem_cons.mp h with h | h
        · cases h; exact absurd rfl hk
        · exact .inl h
      · exact .inr h
theorem relab_kind {env : Env} {y : Str} {k : NameKind} : ∀ {names : List (Str × NameKind)}, (names.map fun (n, k) => if (k == NameKind.free && env.scope.kind == .function && env.kindOf n == some .cell) then (n, NameKind.cell) else (n, k)).lookup y = some k → ∃ k', (y, k') ∈ names ∧ (k = k' ∨ k' = .free)
  | [], h => by simp at h
  | (n, kk) :: r, h => by
    rw [List.map_cons, List.lookup_cons] at h
    by_cases hc : (kk == NameKind.free && env.scope.kind == .function && env.kindOf n == some .cell) = true
    · simp only [hc, if_true] at h
      cases q : (y == n) with
      | true =>
        have e : y = n := by simpa using q
        subst e
        have : kk = .free := by
          have := hc; simp at this; exact this.1.1
        exact ⟨kk, List.mem_cons_self, .inr this⟩
      | false =>
        rw [q] at h
        obtain ⟨k', h1, h2⟩ := relab_kind h
        exact ⟨k', List.mem_cons_of_mem _ h1, h2⟩
    · simp only [hc, Bool.false_eq_true, if_false] at h
      cases q : (y == n) with
      | true =>
        have e : y = n := by simpa using q
        subst e
        rw [q] at h
        exact ⟨kk, List.mem_cons_self, .inl (Option.some.inj h).symm⟩
      | false =>
        rw [q] at h
        obtain ⟨k', h1, h2⟩ := relab_kind h
        exact ⟨k', List.mem_cons_of_mem _ h1, h2⟩
theorem relab_free {env : Env} {y : Str} : ∀ {names : List (Str × NameKind)}, names.lookup y = some .free → (names.map fun (n, k) => if (k == NameKind.free && env.scope.kind == .function && env.kindOf n == some .cell) then (n, NameKind.cell) else (n, k)).lookup y = some .cell ∨
    (names.map fun (n, k) => if (k == NameKind.free && env.scope.kind == .function && env.kindOf n == some .cell) then (n, NameKind.cell) else (n, k)).lookup y = some .free
  | [], h => by simp at h
  | (n, kk) :: r, h => by
    rw [List.map_cons, List.lookup_cons]
    rw [List.lookup_cons] at h
    cases q : (y == n) with
    | true =>
      rw [q] at h
      have : kk = .free := Option.some.inj h
      subst this
      by_cases hc : (NameKind.free == NameKind.free && env.scope.kind == .function && env.kindOf n == some .cell) = true
      · left; simp only [hc, if_true]; simp [q]
      · right; simp only [hc, Bool.false_eq_true, if_false]; simp [q]
    | false =>
      rw [q] at h
      have ih := relab_free (env := env) h
      by_cases hc : (kk == NameKind.free && env.scope.kind == .function && env.kindOf n == some .cell) = true
      · simp only [hc, if_true, q]; exact ih
      · simp only [hc, Bool.false_eq_true, if_false, q]; exact ih
structure BlkScope (X : Cx) (N : List Str) (ix : List Nat) (x : Str) (sc : Scope) : Prop where
  nd : N.Nodup
  nm : N = x :: ix.map (fun j => X.N.getD j "")
  kind : sc.kind = .function
  nocell : ∀ y ∈ sc.names, y.2 ≠ .cell
  names : ∀ y ∈ sc.names, y.2 = .local → sc.names.lookup y.1 = some .local
  hx : sc.names.lookup x = some .local
  fr : ∀ y ∈ sc.names, y.2 = .free → X.env.kindOf y.1 = some .cell ∨ X.env.kindOf y.1 = some .free
  ixs : ∀ j ∈ ix, ∃ y, X.N[j]? = some y ∧ sc.names.lookup y = some .free
def blkOf (X : Cx) (N : List Str) (sc : Scope) (C : Addr) (fp : List Addr) (s : Shared) (H : Hp) : Cx :=
  { X with N := N, s₀ := s, H₀ := H, env := compEnvC sc (clOf sc X.env) C X.env, outer := X.stack, stack := X.stack, ex := fp, fn := fun _ => false, pn := [], xe := nvr }
def frees (ix : List Nat) (st : L2.St) : L2.St := ix.map fun j => (st[j]?).join
section
variable {X : Cx} {N : List Str} {ix : List Nat} {x : Str} {sc : Scope} {pins : List (Addr × Obj)} {st : L2.St} {H H' : Hp} {s s' : Shared} {C D : Addr} {fp : List Addr} {h1 : Heap}
end
end Sg
namespace Sg
open PySem PySem.Spec PyProof.Rows L2
def tDO (K : PySem.W.Frag) (G : Gr) (dl : List Slot) (o : Own) : TE := fun st H Q => ∃ Hf, Stt K G st Hf H dl ∧ ∀ p Hf' H', Grow Hf H Hf' H' → H p = none → Hf' p = none → OwnAt K Hf' H' p o → Q (.ref p) H'
abbrev EO (X : Cx) (G : Gr) (dl : List Slot) (e : Expr) (o : Own) : Prop := PE X e (tDO X.K G dl o)
def dtO : Own → Dt
  | .lst ds => .lst ds
  | .dic k => .dic k
  | .obj C fs => .obj C fs
  | .slf _ C fs => .obj C fs
  | .objG C fs gs nm n => .gro C fs gs nm n
  | .slfG _ C fs gs nm n => .gro C fs gs nm n
section
variable {K : PySem.W.Frag} {G : Gr} {st : L2.St} {Hf H Hf' H' : Hp} {dl : List Slot} {p : Addr} {w : Own} {u : HO}
theorem frz_grow (g : Grow Hf H Hf' H') (n : H p = none) (n' : Hf' p = none) (e : H' p = some u) : Grow Hf H (upd Hf' p u) H' :=
  ⟨g.big, g.frz.trans (same_upd n'), fun b o h => by
    by_cases hb : b = p
    · subst hb; rw [upd_same] at h; cases h; exact e
    · rw [upd_ne hb] at h; exact g.sub _ _ h, fun a o h => by
    by_cases hb : a = p
    · subst hb; exact .inr (.inl n)
    · rw [upd_ne hb] at h; exact g.new a o h⟩
theorem own_rep (r : OwnAt K Hf H p w) (n : Hf p = none) : ∃ u, H p = some u ∧ Rep K (upd Hf p u) (.ref p) (dtO w) := by
  cases w with
  | lst ds => obtain ⟨vs, h, r⟩ := r; exact ⟨_, h, .lst upd_same (r.mono (same_upd n))⟩
  | dic ds => obtain ⟨vs, h, r⟩ := r; exact ⟨_, h, .dic upd_same (r.mono (same_upd n))⟩
  | obj C ds => obtain ⟨dx, fs, h, r⟩ := r; exact ⟨_, h, .obj upd_same (r.mono (same_upd n))⟩
  | slf x C ds => obtain ⟨_, dx, fs, h, r⟩ := r; exact ⟨_, h, .obj upd_same (r.mono (same_upd n))⟩
  | objG C ds gs nm k => obtain ⟨dx, fs, b, ls, q, h, r⟩ := r; exact ⟨_, h, .gro q upd_same (r.mono (same_upd n))⟩
  | slfG x C ds gs nm k => obtain ⟨_, dx, fs, b, ls, q, h, r⟩ := r; exact ⟨_, h, .gro q upd_same (r.mono (same_upd n))⟩
theorem Stt.setN (S : Stt K G st Hf H dl) (g : Grow Hf H Hf' H') {i : Nat} (n : H p = none) (n' : Hf' p = none) (r : OwnAt K Hf' H' p w) : Stt K G (st.set i (some (.ref p))) Hf' H' (dl.set i (.own w)) := by
  have ln := S.len
  have S' := S.grow g
  have pn : ∀ (j : Nat) (o' : Own) (a : Addr), dl[j]? = some (Slot.own o') → st[j]? = some (some (V.ref a)) → a ≠ p := fun j o' a h1 h2 => by
    obtain ⟨b, q1, _, _, q4⟩ := S.own j o' h1
    rw [h2] at q1; cases q1
    obtain ⟨u, hu⟩ := q4.some
    exact ne_of_none hu n
  refine ⟨S'.gr, by simp [S.len], fun j x h => ?_, fun j o' h => ?_, fun j k o1 o2 a h1 h2 h3 h4 => ?_⟩
  · by_cases e : i = j
    · subst e
      by_cases hl : i < dl.length
      · rw [List.getElem?_set_self hl] at h; cases h
      · rw [List.getElem?_eq_none (by simp; omega)] at h; cases h
    · rw [List.getElem?_set_ne e] at h ⊢; exact S'.val j x h
  · by_cases e : i = j
    · subst e
      by_cases hl : i < dl.length
      · rw [List.getElem?_set_self hl] at h; cases h
        exact ⟨p, List.getElem?_set_self (by omega), n', S.gr.big.free n, r⟩
      · rw [List.getElem?_eq_none (by simp; omega)] at h; cases h
    · rw [List.getElem?_set_ne e] at h ⊢
      exact S'.own j o' h
  · by_cases ej : i = j
    · by_cases ek : i = k
      · omega
      · subst ej
        rw [List.getElem?_set_ne ek] at h2 h4
        by_cases hl : i < st.length
        · rw [List.getElem?_set_self hl] at h3; cases h3
          exact absurd rfl (pn k o2 _ h2 h4)
        · rw [List.getElem?_eq_none (by simp; omega)] at h3; cases h3
    · rw [List.getElem?_set_ne ej] at h1 h3
      by_cases ek : i = k
      · subst ek
        by_cases hl : i < st.length
        · rw [List.getElem?_set_self hl] at h4; cases h4
          exact absurd rfl (pn j o1 _ h1 h3)
        · rw [List.getElem?_eq_none (by simp; omega)] at h4; cases h4
      · rw [List.getElem?_set_ne ek] at h2 h4
        exact S.dis j k o1 o2 a h1 h2 h3 h4
theorem Stt.frz (S : Stt K G st Hf H dl) {i : Nat} (hd : dl[i]? = some (.own w)) : ∃ Hf', Same Hf Hf' ∧ Stt K G st Hf' H (dl.set i (.val (dtO w))) := by
  have ln := S.len
  obtain ⟨p, h1, h2, h3, h4⟩ := S.own i w hd
  obtain ⟨u, hu, rp⟩ := own_rep h4 h2
  have hl : i < dl.length := (List.getElem?_eq_some_iff.mp hd).1
  have sm : Same Hf (upd Hf p u) := same_upd h2
  refine ⟨upd Hf p u, sm, ⟨S.gr.big, S.gr.frz.trans sm, fun b o h => ?_, fun a o h => ?_⟩, by simp [S.len], fun j x h => ?_, fun j o' h => ?_, fun j k o1 o2 a q1 q2 q3 q4 => ?_⟩
  · by_cases hb : b = p
    · subst hb; rw [upd_same] at h; cases h; exact hu
    · rw [upd_ne hb] at h; exact S.gr.sub _ _ h
  · by_cases hb : a = p
    · subst hb; exact .inr (.inl h3)
    · rw [upd_ne hb] at h; exact S.gr.new a o h
  · by_cases e : i = j
    · subst e
      rw [List.getElem?_set_self hl] at h; cases h
      exact ⟨_, h1, rp⟩
    · rw [List.getElem?_set_ne e] at h
      obtain ⟨v, z1, z2⟩ := S.val j x h
      exact ⟨v, z1, z2.mono sm⟩
  · by_cases e : i = j
    · subst e; rw [List.getElem?_set_self hl] at h; cases h
    · rw [List.getElem?_set_ne e] at h
      obtain ⟨a, z1, z2, z3, z4⟩ := S.own j o' h
      have ne : a ≠ p := fun q => by subst q; exact e (S.dis i j _ _ _ hd h h1 z1)
      exact ⟨a, z1, by rw [upd_ne ne]; exact z2, z3, z4.grow rfl sm⟩
  · have tr : ∀ (j : Nat) o', (dl.set i (.val (dtO w)))[j]? = some (.own o') → dl[j]? = some (.own o') := fun j o' h => by
      by_cases e : i = j
      · subst e; rw [List.getElem?_set_self hl] at h; cases h
      · rw [List.getElem?_set_ne e] at h; exact h
    exact S.dis j k _ _ a (tr _ _ q1) (tr _ _ q2) q3 q4
end
section
variable {X : Cx} {G : Gr} {E : XK} {dl dl1 dl2 : List Slot} {a b c e : Expr} {es : List Expr} {i j : Int} {d d1 d2 : Dt} {ds : List Dt} {pos p p' : Pos} {o o' : Out} {x y f : Str} {u v : Bool} {sts sts' : List Stmt} {s : Stmt} {C : Addr} {w : Own} {fs : List (Str × Dt)}
theorem ee_o (h : EO X G dl e w) : EE X G dl e (dtO w) := peI h fun st H Q ⟨Hf, S, k⟩ => ⟨Hf, S, fun p Hf' H' g n n' r => by
  obtain ⟨u, hu, rp⟩ := own_rep r n'
  exact k _ _ H' (frz_grow g n n' hu) rp⟩
theorem ee_ol (h : EO X G dl e (.lst ds)) : EE X G dl e (.lst ds) := ee_o h
theorem ee_oo (h : EO X G dl e (.obj C fs)) : EE X G dl e (.obj C fs) := ee_o h
theorem eo_to {w' : Own} (h : EO X G dl e w) (q : w = w') : EO X G dl e w' := by subst q; exact h
theorem es_setO (n : Nat) {x : Str} {pos' : Pos} (hN : X.N.Nodup) (he : EO X G dl e w) (hi : X.N[n]? = some x := by rfl) (hx : Loc X.env.scope x := by first | exact Or.inl rfl | exact Or.inr rfl) (hs : swapsWith e (some (.Name x pos')) pos.line X.env = pure false := by rfl) (hf : X.fn x = true ∨ X.env.scope.names.lookup x = some .local := by first | exact .inl rfl | exact .inr rfl | assumption) : ES X G E dl (.Assign [.Name x pos'] e pos) (.nx (dl.set n (.own w))) :=
  psI (ps_set hN hi hx he hs hf) fun D st H ⟨Hf, S, k⟩ => ⟨Hf, S, fun p Hf1 H1 g1 n1 n2 r1 => k _ Hf1 H1 g1.frz (S.setN g1 n1 n2 r1)⟩
theorem es_retO (h : EO X G dl e w) : ES X G E dl (.Return (some e) pos) (.ro w) := psI (ps_ret h) fun D st H ⟨Hf, S, k⟩ => ⟨Hf, S, fun p Hf1 H1 g1 n1 n2 r1 => k p Hf1 H1 (S.gr.trans g1) (S.gr.big.free n1) n2 r1⟩
theorem es_retV (n : Nat) (hd : dl[n]? = some (.own w) := by rfl) (hN : X.N[n]? = some x := by rfl) (hv : Vis X.env.scope x := by first | exact Or.inl rfl | exact Or.inr (Or.inl rfl) | exact Or.inr (Or.inr rfl)) (hb : (x == ("__debug__" : Str)) = false := by decide) (hcd : (x == ("__classdict__" : Str)) = false := by decide) : ES X G E dl (.Return (some (.Name x p)) pos) (.ro w) :=
  psI (ps_ret (pe_var hN hv hb hcd)) fun D st H ⟨Hf, S, k⟩ => by
    obtain ⟨q, h1, h2, h3, h4⟩ := S.own n w hd
    exact ⟨_, h1, k q Hf H S.gr h3 h2 h4⟩
theorem es_frz (i : Nat) (h : ESs X G E (dl.set i (.val (dtO w))) sts o) (hd : dl[i]? = some (.own w) := by rfl) : ESs X G E dl sts o := pssI h fun D st H ⟨Hf, S, k⟩ => by
  obtain ⟨Hf', sm, S'⟩ := S.frz hd
  exact ⟨Hf', S', k.mono sm⟩
def tOv (K : PySem.W.Frag) (G : Gr) (dl : List Slot) (n : Nat) (w : Own) : TE := fun st H Q => ∃ Hf a, Stt K G st Hf H dl ∧ st[n]? = some (some (.ref a)) ∧ Hf a = none ∧ OwnAt K Hf H a w ∧ Q (.ref a) H
theorem pe_ov (n : Nat) (hd : dl[n]? = some (.own w)) (hN : X.N[n]? = some x) (hv : Vis X.env.scope x) (hb : (x == ("__debug__" : Str)) = false) (hcd : (x == ("__classdict__" : Str)) = false) : PE X (.Name x p) (tOv X.K G dl n w) :=
  peI (pe_var hN hv hb hcd) fun st H Q ⟨Hf, a, S, h1, _, _, q⟩ => ⟨_, h1, q⟩
end
end Sg
namespace Sg
open PySem PySem.Spec PyProof.Rows L2
section
variable {X : Cx} {G : Gr} {E : XK} {dl dl1 dl2 : List Slot} {a b c e : Expr} {es : List Expr} {i j : Int} {d d1 d2 : Dt} {ds ds' : List Dt} {pos p p' apos cpos : Pos} {o o' : Out} {x y f : Str} {u v : Bool} {sts sts' : List Stmt} {s : Stmt} {C : Addr} {w : Own}
theorem eo_lst (h : EA X G dl es ds) (hl : ds.length ≤ sizeLine := by decide) : EO X G dl (.List es pos) (.lst ds) :=
  peI (pe_lst h) fun st H Q ⟨Hf, S, k⟩ => ⟨Hf, S, fun vs Hf1 H1 g1 r1 => ⟨by rw [r1.length]; exact hl, fun p hp => k p Hf1 _ (g1.trans (.allocO g1.sub hp)) (g1.big.free hp) (g1.sub.free hp) ⟨vs, upd_same, r1⟩⟩⟩
theorem eo_op {op : Operator} {r : R2} (ho : OpR X (binaryOp op) r) (ha : EE X G dl a d1) (hb : EE X G dl b d2) (h : ∀ v z Hf H Q, Same Hf H → Rep X.K Hf v d1 → Rep X.K Hf z d2 → (∀ p vs, H p = none → Reps X.K Hf vs ds → Q (.ref p) (upd H p (.lst vs))) → r v z H Q) : EO X G dl (.BinOp a op b pos) (.lst ds) :=
  peI (pe_op ho ha hb) fun st H Q ⟨Hf, S, k⟩ => ⟨Hf, S, fun v Hf1 H1 g1 r1 => ⟨Hf1, S.grow g1, fun z Hf2 H2 g2 r2 => h v z Hf2 H2 Q g2.sub (r1.mono g2.frz) r2 fun p vs hp rv =>
    k p Hf2 _ ((g1.trans g2).trans (.allocO g2.sub hp)) ((g1.trans g2).big.free hp) (g2.sub.free hp) ⟨vs, upd_same, rv⟩⟩⟩
theorem eo_cat (ha : EE X G dl a (.lst ds)) (hb : EE X G dl b (.lst ds')) (hl : ds.length + ds'.length ≤ sizeLine) : EO X G dl (.BinOp a .Add b pos) (.lst (ds ++ ds')) :=
  eo_op op_cat ha hb fun v z Hf H Q s r1 r2 k => by
    cases r1 with
    | lst h1 q1 => cases r2 with
      | lst h2 q2 => exact ⟨_, _, _, _, rfl, rfl, s _ _ h1, s _ _ h2, by rw [q1.length, q2.length]; exact hl, fun p hp => k p _ hp (q1.append q2)⟩
theorem eo_list (hm : X.mg "list" = none) (ha : EE X G dl a (.lst ds)) (hg : Gl X "list" := by rfl) (he : starEach [a] X.env = [(false, eval a X.env)] := by rfl) : EO X G dl (.Call (.Name "list" p) [a] [] pos) (.lst ds) :=
  peI (pe_callTy call_list_of hg hm boot_list (ea_cons ha ea_nil he) (he := he)) fun st H Q ⟨Hf, S, k⟩ => ⟨Hf, S, fun vs Hf1 H1 g1 r1 => by
    cases r1 with
    | cons r t => cases t; cases r with
      | @lst q vs _ z r => exact ⟨q, vs, rfl, .inl (.of (g1.sub _ _ z)), fun l hl => k l Hf1 _ (g1.trans (.allocO g1.sub hl)) (g1.big.free hl) (g1.sub.free hl) ⟨vs, upd_same, r⟩⟩⟩
theorem es_append (n : Nat) {pn : Pos} (he : EE X G dl e d) (hl : ds.length < sizeLine) (hd : dl[n]? = some (.own (.lst ds)) := by rfl) (hN : X.N[n]? = some x := by rfl) (hv : Vis X.env.scope x := by first | exact Or.inl rfl | exact Or.inr (Or.inl rfl) | exact Or.inr (Or.inr rfl))
    (hdb : (x == ("__debug__" : Str)) = false := by decide) (hcd : (x == ("__classdict__" : Str)) = false := by decide)
    (hbase : attributeBase (.Name x pn) "append" X.env (eval (.Name x pn) X.env) = eval (.Name x pn) X.env := by rfl)
    (hfew : ((backTo cpos (starEach [e] X.env)).all (fun x => !x.1) && (backToKw cpos (keywordEach [] X.env)).all (fun x => x.1.isSome) && decide ([e].length + ([] : List Keyword).length + (if ([] : List Keyword).isEmpty then 0 else 1) < 30)) = true := by rfl)
    (hline : (apos.endLine == cpos.line) = true := by rfl) (hst : starEach [e] X.env = (false, eval e X.env) :: starEach [] X.env := by rfl) (hs : swapsWith (.Call (.Attribute (.Name x pn) "append" apos) [e] [] cpos) none pos.line X.env = pure false := by rfl) :
    ES X G E dl (.Expr (.Call (.Attribute (.Name x pn) "append" apos) [e] [] cpos) pos) (.nx (dl.set n (.own (.lst (ds ++ [d]))))) :=
  psI (ps_expr (pe_bm PySem.F.plainAttrs_list PySem.F.slot_list_append PySem.F.type_list_append mt_append (pe_ov (p := pn) n hd hN hv hdb hcd) (ea_cons he ea_nil hst) hbase hfew hline hst rfl) hs) fun D st H ⟨Hf, S, k⟩ => by
    obtain ⟨q, z1, z2, z3, vs, hq, rp⟩ := S.own n _ hd
    refine ⟨Hf, q, S, z1, z2, ⟨vs, hq, rp⟩, .inl ⟨rfl, vs, .of hq⟩, Hf, S, fun us Hf1 H1 g1 r1 => ?_⟩
    cases r1 with
    | cons r1 t1 =>
      cases t1
      refine ⟨q, vs, _, rfl, rfl, g1.big _ _ hq, by rw [rp.length]; exact hl, ?_⟩
      exact k st Hf1 _ g1.frz ((S.grow g1).updO hd z1 ⟨_, upd_same, (rp.mono g1.frz).append (.cons r1 .nil)⟩)
theorem reps_strs {K : PySem.W.Frag} {H : Hp} : ∀ {vs : List V} {xs : List Str}, Reps K H vs (xs.map Dt.str) → vs = xs.map V.str
  | _, [], .nil => rfl
  | _, x :: xs, .cons r t => by cases r; rw [reps_strs t]; rfl
end
def valSl : Option Slot → Slot
  | some (.val d) => .val d
  | _ => .unk
theorem valSl_own {o : Option Slot} {w : Own} (h : valSl o = .own w) : False := by
  unfold valSl at h
  split at h <;> cases h
theorem valSl_val {o : Option Slot} {d : Dt} (h : valSl o = .val d) : o = some (.val d) := by
  unfold valSl at h
  split at h
  · cases h; rfl
  · cases h
def blkSl (dl : List Slot) (ix : List Nat) : List Slot := ix.map fun j => valSl dl[j]?
section
variable {K : PySem.W.Frag} {G G' : Gr} {st : L2.St} {Hf H Hf1 H1 : Hp} {dl : List Slot} {ix : List Nat}
end
section
variable {X : Cx} {G : Gr} {E : XK} {dl : List Slot} {a b c elt iter : Expr} {i j : Int} {d : Dt} {ys : List Dt} {zs : Nat → Dt} {pos p px py pc spos : Pos} {o : Out} {x y : Str} {N : List Str} {ix : List Nat} {sc : Scope} {n : Nat}
end
end Sg
namespace Sg
open PySem PySem.Spec PyProof.Rows L2
structure FunG (K : PySem.W.Frag) (x qual : Str) (st : Stmt) (f : Addr) (fd : FuncData) : Prop where
  ex : ∃ (oc : Value) (od : Option Addr) (dV kV doc pm : Value) (an : Option Addr) (cdv ct : Value) (osl : Array (Option Value)),
    fd = PySem.W.fnOf x qual (defArgs st) (defBody st) (defScope st) dV kV doc pm an cdv ct ∧ K.lookup f = some ⟨oc, od, .func fd, osl⟩ ∧ PySem.W.codeIn K cdv qual = true
theorem funG_mk {K : PySem.W.Frag} {x qual : Str} {st : Stmt} {f : Addr} {oc : Value} {od an : Option Addr} {osl : Array (Option Value)} {dV kV doc pm cdv ct : Value} (l : K.lookup f = some ⟨oc, od, .func (PySem.W.fnOf x qual (defArgs st) (defBody st) (defScope st) dV kV doc pm an cdv ct), osl⟩) (c : PySem.W.codeIn K cdv qual = true) : FunG K x qual st f (PySem.W.fnOf x qual (defArgs st) (defBody st) (defScope st) dV kV doc pm an cdv ct) := ⟨⟨oc, od, dV, kV, doc, pm, an, cdv, ct, osl, rfl, l, c⟩⟩
section
variable {P : Program} {w : World} {K : PySem.W.Frag} {mg : Str → Option Value} {base : Heap} {CX : CXT} {x qual : Str} {st : Stmt} {f : Addr} {fd : FuncData} {N ps : List Str} {k n : Nat}
theorem fnG {R : List Dt → Res → Prop} (F : FunG K x qual st f fd) (S : FnScope N ps (defScope st)) (hn : ps.length = n) (hbody : ∀ (cdv : Value) (A : Around) (outer : List Env) (s : Shared) (H : Hp) (E : XK) (G : Gr) (ds : List Dt) (r : Res), Room k (A.deeper (envOfC qual (defScope st) s.heap.objs.size f cdv)) → ds.length = n → R ds r → ∃ o, Comes o r ∧ ESs (cxOf CX P w K mg base N qual (defScope st) f cdv A outer s H E) G E (slots N ds) (defBody st) o) : FnOk P w K mg base CX (k + 1) f fd ps (spR K n R) := by
  obtain ⟨oc, od, dV, kV, doc, pm, an, cdv, ct, osl, rfl, lk, hcd⟩ := F.ex
  refine fn_of lk hcd S (fun vs H Q E ⟨Hf, ds, r, s, rp, hl, _⟩ => by rw [rp.length, hl, hn]) fun A outer s H vs Q E hr ⟨Hf, ds, r, sm, rp, hl, hR, hk⟩ => ?_
  obtain ⟨o, hc, hb⟩ := hbody cdv A outer s H E ⟨Hf, H⟩ ds r hr hl hR
  exact ⟨_, hb, Hf, stt_start sm rp, hc.ends hk⟩
def ResI (K : PySem.W.Frag) (C : Addr) (Hf H : Hp) (x : Addr) (Q : VK) (E : XK) : Res → Prop
  | .own w => ((∃ fs, w = .obj C fs) ∨ ∃ fs gs nm n, w = .objG C fs gs nm n) ∧ ∀ Hf' H', Grow Hf H Hf' H' → Hf' x = none → OwnAt K Hf' H' x w → Q .non H'
  | .exc c fs => ∀ od Hf' H', Grow Hf H Hf' H' → ExcAt K Hf' od fs → E c od H'
  | .ret _ => False
def spI (K : PySem.W.Frag) (C : Addr) (n : Nat) (R : List Dt → Res → Prop) : Sp := fun vs H Q E => ∃ Hf H1 x dx args ds r, vs = .ref x :: args ∧ H = upd H1 x (.ins C dx []) ∧ H1 x = none ∧ Same Hf H1 ∧ Reps K Hf args ds ∧ ds.length + 1 = n ∧ R ds r ∧ ResI K C Hf H1 x Q E r
inductive ComesI (C x : Addr) : Out → Res → Prop
  | nx {dl : List Slot} {fs : List (Str × Dt)} (h : dl[0]? = some (.own (.slf x C fs))) : ComesI C x (.nx dl) (.own (.obj C fs))
  | ex (c : Value) (fs : List (Str × Dt)) : ComesI C x (.ex c fs) (.exc c fs)
  | nxG {dl : List Slot} {fs : List (Str × Dt)} {gs : List (Nat → List (Key × FD))} {nm : List Str} {n : Nat} (h : dl[0]? = some (.own (.slfG x C fs gs nm n))) : ComesI C x (.nx dl) (.own (.objG C fs gs nm n))
def slotsI (N : List Str) (x C : Addr) (ds : List Dt) : List Slot := .own (.slf x C []) :: (ds.map Slot.val ++ List.replicate (N.length - (ds.length + 1)) .unk)
theorem stt_startI {Hf H : Hp} {vs : List V} {ds : List Dt} {x dx C : Addr} (s : Same Hf H) (n : H x = none) (r : Reps K Hf vs ds) : Stt K ⟨Hf, H⟩ (start N (.ref x :: vs)) Hf (upd H x (.ins C dx [])) (slotsI N x C ds) := by
  have hl := r.length
  have es : start N (V.ref x :: vs) = some (.ref x) :: (vs.map some ++ List.replicate (N.length - (vs.length + 1)) none) := by
    unfold L2.start
    simp
  have nown : ∀ (i : Nat) o, (slotsI N x C ds)[i + 1]? ≠ some (.own o) := fun i o h => by
    unfold slotsI at h
    rw [List.getElem?_cons_succ] at h
    by_cases hi : i < ds.length
    · rw [List.getElem?_append_left (by simpa using hi), List.getElem?_map] at h
      cases e : ds[i]? with
      | none => rw [e] at h; cases h
      | some a => rw [e] at h; cases h
    · rw [List.getElem?_append_right (by simpa using hi), List.getElem?_replicate] at h
      split at h <;> cases h
  rw [es]
  refine ⟨.allocO s n, ?_, fun i d h => ?_, fun i o h => ?_, fun i j o o' a h h' _ _ => ?_⟩
  · unfold slotsI
    simp [hl]
  · cases i with
    | zero => cases h
    | succ i =>
      unfold slotsI at h
      rw [List.getElem?_cons_succ] at h ⊢
      by_cases hi : i < ds.length
      · rw [List.getElem?_append_left (by simpa using hi), List.getElem?_map] at h
        cases e : ds[i]? with
        | none => rw [e] at h; cases h
        | some a =>
          rw [e] at h; cases h
          obtain ⟨v, h1, h2⟩ := r.get e
          refine ⟨v, ?_, h2⟩
          rw [List.getElem?_append_left (by simp; omega), List.getElem?_map, h1]; rfl
      · rw [List.getElem?_append_right (by simpa using hi), List.getElem?_replicate] at h
        split at h <;> cases h
  · cases i with
    | zero =>
      cases h
      exact ⟨x, rfl, s.free n, n, rfl, dx, [], upd_same, .nil⟩
    | succ i => exact absurd h (nown i o)
  · cases i with
    | zero => cases j with
      | zero => rfl
      | succ j => exact absurd h' (nown j _)
    | succ i => exact absurd h (nown i _)
theorem fnI {C : Addr} {R : List Dt → Res → Prop} (F : FunG K x qual st f fd) (S : FnScope N ps (defScope st)) (hn : ps.length = n) (hbody : ∀ (cdv : Value) (A : Around) (outer : List Env) (s : Shared) (H : Hp) (E : XK) (G : Gr) (z : Addr) (ds : List Dt) (r : Res), Room k (A.deeper (envOfC qual (defScope st) s.heap.objs.size f cdv)) → ds.length + 1 = n → R ds r → ∃ o, ComesI C z o r ∧ ESs (cxOf CX P w K mg base N qual (defScope st) f cdv A outer s H E) G E (slotsI N z C ds) (defBody st) o) : FnOk P w K mg base CX (k + 1) f fd ps (spI K C n R) := by
  obtain ⟨oc, od, dV, kV, doc, pm, an, cdv, ct, osl, rfl, lk, hcd⟩ := F.ex
  refine fn_of lk hcd S (fun vs H Q E ⟨Hf, H1, z, dx, args, ds, r, e, _, _, _, rp, hl, _⟩ => by rw [e, List.length_cons, rp.length, hl, hn]) fun A outer s H vs Q E hr ⟨Hf, H1, z, dx, args, ds, r, e1, e2, hz, sm, rp, hl, hR, hk⟩ => ?_
  subst e1 e2
  obtain ⟨o, hc, hb⟩ := hbody cdv A outer s _ E ⟨Hf, H1⟩ z ds r hr hl hR
  refine ⟨_, hb, Hf, stt_startI sm hz rp, ?_⟩
  cases hc with
  | nx h =>
    obtain ⟨_, kk⟩ := hk
    intro st' Hf' H' s' S'
    obtain ⟨a, _, q2, _, q4⟩ := S'.own 0 _ h
    obtain ⟨rfl, dx', fs', q5, q6⟩ := q4
    exact kk Hf' H' S'.gr q2 ⟨dx', fs', q5, q6⟩
  | nxG h =>
    obtain ⟨_, kk⟩ := hk
    intro st' Hf' H' s' S'
    obtain ⟨a, _, q2, _, q4⟩ := S'.own 0 _ h
    obtain ⟨rfl, q5⟩ := q4
    exact kk Hf' H' S'.gr q2 q5
  | ex c fs => exact hk
end
def putD (f : Str) (v : Dt) : List (Str × Dt) → List (Str × Dt)
  | [] => [(f, v)]
  | (g, x) :: r => if g = f then (g, v) :: r else (g, x) :: putD f v r
theorem RepF.put {K : PySem.W.Frag} {H : Hp} {f : Str} {v : V} {d : Dt} (q : Rep K H v d) : ∀ {vs : List (Str × V)} {ds : List (Str × Dt)}, RepF K H vs ds → RepF K H (putF f v vs) (putD f d ds)
  | _, _, .nil => .cons q .nil
  | (k, x) :: vs, (_, y) :: ds, .cons h r => by
    unfold putF putD
    by_cases e : k = f
    · rw [if_pos e, if_pos e]; exact .cons q r
    · rw [if_neg e, if_neg e]; exact .cons h (RepF.put q r)
section
variable {X : Cx} {G : Gr} {E : XK} {dl dl1 : List Slot} {e c : Expr} {es : List Expr} {d : Dt} {ds : List Dt} {pos p apos : Pos} {x m : Str} {C z : Addr} {fs : List (Str × Dt)} {CX : CXT} {k k' n : Nat} {R : List Dt → Res → Prop} {ob : Expr} {wo : Own} {dvs : List Dt} {body : List Stmt}
theorem es_fld {fn : Str} {pn : Pos} (he : EE X G dl e d) (cl : Cls X.K C) (na : NoAttr X.K C fn) (hd : dl[0]? = some (.own (.slf z C fs)) := by rfl) (hl : Nat.ble fs.length 999 = true := by rfl) (hN : X.N[0]? = some x := by rfl) (hv : Vis X.env.scope x := by first | exact Or.inl rfl | exact Or.inr (Or.inl rfl) | exact Or.inr (Or.inr rfl)) (hdb : (x == ("__debug__" : Str)) = false := by decide) (hcd : (x == ("__classdict__" : Str)) = false := by decide) (hs : swapsWith e (some (.Attribute (.Name x pn) fn apos)) pos.line X.env = pure false := by rfl) : ES X G E dl (.Assign [.Attribute (.Name x pn) fn apos] e pos) (.nx (dl.set 0 (.own (.slf z C (putD fn d fs))))) :=
  psI (ps_fld (pe_ov (p := pn) 0 hd hN hv hdb hcd) he hs) fun D st H ⟨Hf, S, k⟩ => ⟨Hf, S, fun v Hf1 H1 g1 r1 => by
    have S1 := S.grow g1
    obtain ⟨a, q1, q2, q3, q4⟩ := S1.own 0 _ hd
    obtain ⟨e1, dx, fv, q5, q6⟩ := id q4
    refine ⟨Hf1, a, S1, q1, q2, q4, a, C, dx, fv, rfl, q5, cl, na, by rw [q6.length]; exact Nat.lt_succ_of_le (Nat.le_of_ble_eq_true hl), ?_⟩
    exact k st Hf1 _ g1.frz (S1.updO hd q1 ⟨e1, dx, _, upd_same, q6.put r1⟩)⟩
structure MkF (P : Program) (w : World) (K : PySem.W.Frag) (mg : Str → Option Value) (base : Heap) (CX : CXT) (k : Nat) (x : Str) (C : Addr) (n : Nat) (R : List Dt → Res → Prop) : Prop where
  ex : ∃ f fd ps, FnOk P w K mg base CX k f fd ps (spI K C n R) ∧ L2.Mk K C f ∧ mg x = some (.ref C) ∧ Binds K fd ps []
theorem eo_make (F : MkF X.prog X.w X.K X.mg X.base CX k x C n R) (nx : NoX CX) (hr : Room k' X.A) (ha : EA X G dl (e :: es) ds) (h : R ds (.own (.obj C fs))) (hkk : k + 1 ≤ k' := by decide) (hl : ds.length + 1 = n := by rfl) (hg : Gl X x := by rfl) (hdb : (x == ("__debug__" : Str)) = false := by decide) (he : starEach (e :: es) X.env = (false, eval e X.env) :: starEach es X.env := by rfl) (hpl : (backTo pos (starEach es X.env)).any (·.1) = false := by rfl) : EO X G dl (.Call (.Name x p) (e :: es) [] pos) (.obj C fs) := by
  obtain ⟨f, fd, ps, Fo, M, hm, hb⟩ := F.ex
  refine peI (pe_make (E := E0) M Fo (hr.mono hkk) hg hm hb .nil nx.passes ha hdb he hpl) fun st H Q ⟨Hf, S, kk⟩ => ⟨Hf, S, fun vs Hf1 H1 g1 r1 y dx hy hdx ne => ?_⟩
  have hy' : (upd H1 dx (.own y)) y = none := by rw [upd_ne (Ne.symm ne)]; exact hy
  have g2 : Grow Hf1 H1 Hf1 (upd H1 dx (.own y)) := .allocO g1.sub hdx
  refine ⟨Hf1, upd H1 dx (.own y), y, dx, vs ++ [], ds, .own (.obj C fs), rfl, rfl, hy', g2.sub, by rw [List.append_nil]; exact r1, hl, h, .inl ⟨fs, rfl⟩, fun Hf' H' g n1 r => ⟨rfl, ?_⟩⟩
  exact kk y Hf' H' ((g1.trans g2).trans g) (g1.big.free hy) n1 r
theorem eo_makeG {gs : List (Nat → List (Key × FD))} {nm : List Str} {j : Nat} (F : MkF X.prog X.w X.K X.mg X.base CX k x C n R) (nx : NoX CX) (hr : Room k' X.A) (ha : EA X G dl (e :: es) ds) (h : R ds (.own (.objG C fs gs nm j))) (hkk : k + 1 ≤ k' := by decide) (hl : ds.length + 1 = n := by rfl) (hg : Gl X x := by rfl) (hdb : (x == ("__debug__" : Str)) = false := by decide) (he : starEach (e :: es) X.env = (false, eval e X.env) :: starEach es X.env := by rfl) (hpl : (backTo pos (starEach es X.env)).any (·.1) = false := by rfl) : EO X G dl (.Call (.Name x p) (e :: es) [] pos) (.objG C fs gs nm j) := by
  obtain ⟨f, fd, ps, Fo, M, hm, hb⟩ := F.ex
  refine peI (pe_make (E := E0) M Fo (hr.mono hkk) hg hm hb .nil nx.passes ha hdb he hpl) fun st H Q ⟨Hf, S, kk⟩ => ⟨Hf, S, fun vs Hf1 H1 g1 r1 y dx hy hdx ne => ?_⟩
  have hy' : (upd H1 dx (.own y)) y = none := by rw [upd_ne (Ne.symm ne)]; exact hy
  have g2 : Grow Hf1 H1 Hf1 (upd H1 dx (.own y)) := .allocO g1.sub hdx
  refine ⟨Hf1, upd H1 dx (.own y), y, dx, vs ++ [], ds, .own (.objG C fs gs nm j), rfl, rfl, hy', g2.sub, by rw [List.append_nil]; exact r1, hl, h, .inr ⟨fs, gs, nm, j, rfl⟩, fun Hf' H' g n1 r => ⟨rfl, ?_⟩⟩
  exact kk y Hf' H' ((g1.trans g2).trans g) (g1.big.free hy) n1 r
theorem eo_gf (F : GF X.prog X.w X.K X.mg X.base CX k x n R) (nx : NoX CX) (hr : Room k' X.A) (ha : EA X G dl (e :: es) ds) (h : R ds (.own wo)) (hkk : k ≤ k' := by decide) (hl : ds.length = n := by rfl) (hg : Gl X x := by rfl) (hdb : (x == ("__debug__" : Str)) = false := by decide) (he : starEach (e :: es) X.env = (false, eval e X.env) :: starEach es X.env := by rfl) (hpl : (backTo pos (starEach es X.env)).any (·.1) = false := by rfl) : EO X G dl (.Call (.Name x p) (e :: es) [] pos) wo := by
  obtain ⟨f, fd, ps, F, hm, hk, hb⟩ := F.ex
  exact peI (pe_call (E := E0) F (hr.mono hkk) hg hm hk hb .nil nx.passes ha hdb he hpl) fun st H Q ⟨Hf, S, k⟩ => ⟨Hf, S, fun vs Hf1 H1 g1 r1 => ⟨Hf1, ds, .own wo, g1.sub, by rw [List.append_nil]; exact r1, hl, h, fun p Hf2 H2 g2 n1 n2 r2 => k p Hf2 H2 (g1.trans g2) (g1.big.free n1) n2 r2⟩⟩
structure MFd (P : Program) (w : World) (K : PySem.W.Frag) (mg : Str → Option Value) (base : Heap) (CX : CXT) (k : Nat) (C : Addr) (m : Str) (n : Nat) (dvs : List Dt) (R : List Dt → Res → Prop) : Prop where
  cl : Cls K C
  ex : ∃ f fd ps dsv vds, FnOk P w K mg base CX k f fd ps (spR K n R) ∧ Meth K C m f ∧ Binds K fd ps dsv ∧ Vals vds dsv ∧ ∀ H, Reps K H vds dvs
theorem mf_d {P : Program} {w : World} {K : PySem.W.Frag} {mg : Str → Option Value} {base : Heap} (F : MF P w K mg base CX k C m n R) : MFd P w K mg base CX k C m n [] R := by
  obtain ⟨f, fd, ps, Fo, hm, hb⟩ := F.ex
  exact ⟨F.cl, f, fd, ps, [], [], Fo, hm, hb, .nil, fun _ => .nil⟩
theorem eo_mf {pl : Sem Bool} (he : EE X G dl ob (.obj C fs)) (F : MFd X.prog X.w X.K X.mg X.base CX k C m n dvs R) (nx : NoX CX) (hr : Room k' X.A) (ha : EA X G dl (e :: es) ds) (h : R (.obj C fs :: (ds ++ dvs)) (.own wo)) (hkk : k ≤ k' := by decide) (hl : (Dt.obj C fs :: (ds ++ dvs)).length = n := by rfl) (hno : fs.lookup m = none := by rfl)
    (hst : starEach (e :: es) X.env = (false, eval e X.env) :: starEach es X.env := by rfl) (hpl : (backTo pos (starEach es X.env)).any (·.1) = false := by rfl)
    (ht : eval (.Call (.Attribute ob m apos) (e :: es) [] pos) X.env = (do
      let ov ← eval ob X.env
      standAt apos.atName
      let (f, first) ← holding [ov] (getMethod ov m pl)
      callWith pos f first (backTo pos (starEach (e :: es) X.env)) (backToKw pos (keywordEach [] X.env))) := by rfl) : EO X G dl (.Call (.Attribute ob m apos) (e :: es) [] pos) wo := by
  obtain ⟨f, fd, ps, dsv, vds, Fo, hm, hb, hd, hdd⟩ := F.ex
  exact peI (pe_meth (pl := pl) (E := E0) he F.cl hm Fo (hr.mono hkk) hb hd nx.passes ha hst hpl ht) fun st H Q ⟨Hf, S, k⟩ => ⟨Hf, S, fun v Hf1 H1 g1 r1 => by
    cases r1 with
    | @obj a _ dx fv _ q r =>
      exact ⟨a, dx, fv, rfl, g1.sub _ _ q, r.none_of hno, Hf1, S.grow g1, fun vs Hf2 H2 g2 r2 => ⟨Hf2, _, .own wo, g2.sub, .cons (.obj (g2.frz _ _ q) (r.mono g2.frz)) (r2.append (hdd _)), hl, h, fun p Hf3 H3 g3 n1 n2 r3 => k p Hf3 H3 ((g1.trans g2).trans g3) ((g1.trans g2).big.free n1) n2 r3⟩⟩⟩
theorem ee_mfd {pl : Sem Bool} (he : EE X G dl ob (.obj C fs)) (F : MFd X.prog X.w X.K X.mg X.base CX k C m n dvs R) (nx : NoX CX) (hr : Room k' X.A) (ha : EA X G dl (e :: es) ds) (h : R (.obj C fs :: (ds ++ dvs)) (.ret d)) (hkk : k ≤ k' := by decide) (hl : (Dt.obj C fs :: (ds ++ dvs)).length = n := by rfl) (hno : fs.lookup m = none := by rfl)
    (hst : starEach (e :: es) X.env = (false, eval e X.env) :: starEach es X.env := by rfl) (hpl : (backTo pos (starEach es X.env)).any (·.1) = false := by rfl)
    (ht : eval (.Call (.Attribute ob m apos) (e :: es) [] pos) X.env = (do
      let ov ← eval ob X.env
      standAt apos.atName
      let (f, first) ← holding [ov] (getMethod ov m pl)
      callWith pos f first (backTo pos (starEach (e :: es) X.env)) (backToKw pos (keywordEach [] X.env))) := by rfl) : EE X G dl (.Call (.Attribute ob m apos) (e :: es) [] pos) d := by
  obtain ⟨f, fd, ps, dsv, vds, Fo, hm, hb, hd, hdd⟩ := F.ex
  exact ee_meth (pl := pl) he F.cl hm Fo nx (hr.mono hkk) hb hd hdd ha hl h hno hst hpl ht
end
def eLc : Expr → Scope
  | .ListComp _ _ sc _ => sc
  | .Call _ (.ListComp _ _ sc _ :: _) _ _ => sc
  | _ => { kind := .function, names := [], isGenerator := false, isCoroutine := false }
def sLc : Stmt → Scope
  | .Assign _ e _ => eLc e
  | .Return (some e) _ => eLc e
  | _ => { kind := .function, names := [], isGenerator := false, isCoroutine := false }
theorem inV_strs (k : Str) : ∀ xs : List Str, inV (.str k) (xs.map V.str) = decide (k ∈ xs)
  | [] => by simp [inV]
  | x :: xs => by
    have ih := inV_strs k xs
    unfold inV at ih ⊢
    rw [List.map_cons, List.any_cons, ih]
    by_cases e : x = k
    · subst e; simp [eqV]
    · have : ¬ (k = x) := fun z => e z.symm
      simp [eqV, e, this]
theorem flat_strs (xs : List Str) : (xs.map V.str).all flatV = true := by
  induction xs with
  | nil => rfl
  | cons x xs ih => rw [List.map_cons, List.all_cons, ih]; rfl
section
variable {X : Cx} {G : Gr} {dl : List Slot} {a b : Expr} {pos : Pos} {k : Str} {xs : List Str}
theorem r2_in {neg : Bool} : R2D X.K (rIn X.K neg) (.str k) (.tup (xs.map .str)) (.bl (if neg then !decide (k ∈ xs) else decide (k ∈ xs))) := fun v w Hf H Q s r1 r2 kk => by
  cases r1
  cases r2 with
  | @tup q vs _ hq rp =>
    have ev := reps_strs rp
    subst ev
    refine ⟨q, _, rfl, .inr (SqT_same s hq), rfl, flat_strs xs, ?_⟩
    rw [inV_strs]
    exact kk _ Hf H (.refl s) (.bl _)
theorem eb_inT (ha : EE X G dl a (.str k)) (hb : EE X G dl b (.tup (xs.map .str))) (hm : behindInMarks .In b = false := by rfl) : EB X G dl (.Compare a [.In] [b] pos) (decide (k ∈ xs)) := eb_cmp op_in_seq (r2_in (neg := false)) hm ha hb
end
end Sg
namespace Sg
open PySem PySem.Spec PyProof.Rows L2
theorem lcx_loop {P : Program} {w : World} {A : Around} {R : Result → Shared → Prop} {s : Shared} {elt tg iter : Expr} {ifs : List Expr} {sc : Scope} {pos : Pos} {it acc : Value} {env : Env} (J : Nat → Shared → Prop)
    (turn : ∀ n s, J n s → wpAny (model P w) A (pyNext it) (fun r s1 => match r with
      | none => R (.ok .next) s1
      | some v => wpAny (model P w) A (letOwnedTupleGo tg it v) (fun _ s2 => wpAny (model P w) A (assign tg env v) (fun _ s3 =>
          wpAny (model P w) A (forIn ifs true fun c r => if r = true then do let ok ← isTrue c env (eval c env); pure (ForInStep.yield ok) else pure (ForInStep.yield r)) (fun ok s3' =>
          if ok = true then wpAny (model P w) A (eval elt env) (fun x s4 => wpAny (model P w) A (call (.builtin "list.append") [acc, x]) (fun _ s5 => ∃ m, m < n ∧ J m s5) nvr s4) nvr s3'
          else ∃ m, m < n ∧ J m s3') nvr s3) nvr s2) nvr s1) nvr s)
    (n : Nat) (h : J n s) : codeAny (model P w) A (.compLoop (.ListComp elt [⟨tg, iter, ifs, 0⟩] sc pos) 0 it acc env) R s := by
  have off : ∀ {B : Value → Shared → Prop} (x : Value) (s' : Shared), nvr x s' → B x s' := fun _ _ z => z.elim
  refine codeAny_loop rfl J (fun n s hJ => ?_) n h
  show wpAny _ A ((compTurn (.ListComp elt [⟨tg, iter, ifs, 0⟩] sc pos) 0 it acc env).onRaise (fun x => (do noteFrame x env; theTreesLotGoes x))) _ _ s
  refine wpAny_noted ?_
  rw [compTurn_list]
  refine wpAny_bind (wpAny_standAt (wpAny_bind (wpAny_mono (turn n s hJ) (fun r s1 h1 => ?_) off)))
  cases r with
  | none => exact wpAny_pure h1
  | some v =>
    refine wpAny_bind (wpAny_mono h1 (fun _ s2 h2 => wpAny_bind (wpAny_mono h2 (fun _ s3 h3 => wpAny_bind (wpAny_mono h3 (fun ok s3' h3' => ?_) off)) off)) off)
    cases ok with
    | false => exact wpAny_pure ⟨rfl, h3'⟩
    | true => exact wpAny_bind (wpAny_bind (wpAny_mono h3' (fun x s4 h4 => wpAny_bind (wpAny_mono h4 (fun _ s5 h5 => wpAny_pure (wpAny_pure ⟨rfl, h5⟩)) off)) off))
structure BlkX (X : Cx) (N tn : List Str) (ix : List Nat) (sc : Scope) : Prop where
  nd : N.Nodup
  nm : N = tn ++ ix.map (fun j => X.N.getD j "")
  kind : sc.kind = .function
  nocell : ∀ y ∈ sc.names, y.2 ≠ .cell
  names : ∀ y ∈ sc.names, y.2 = .local → sc.names.lookup y.1 = some .local
  hx : ∀ x ∈ tn, sc.names.lookup x = some .local
  fr : ∀ y ∈ sc.names, y.2 = .free → X.env.kindOf y.1 = some .cell ∨ X.env.kindOf y.1 = some .free
  ixs : ∀ j ∈ ix, ∃ y, X.N[j]? = some y ∧ sc.names.lookup y = some .free
section
variable {X : Cx} {N tn : List Str} {ix : List Nat} {sc : Scope} {pins : List (Addr × Obj)} {st : L2.St} {H H' : Hp} {s s' : Shared} {C D : Addr} {fp : List Addr} {h1 : Heap}
theorem clox_of (B : BlkX X N tn ix sc) (ok : X.Ok) : closureFor sc X.env = pure (clOf sc X.env) := clos_eq fun y hy hk => ok.has y.1 (B.fr y hy hk)
theorem clx_sub (B : BlkX X N tn ix sc) (ok : X.Ok) {y : Str} {c : Addr} (h : (clOf sc X.env).lookup y = some c) : X.env.cells.lookup y = some c ∧ (y, NameKind.free) ∈ sc.names := by
  rcases clGo_in _ _ h with ⟨h1, h2⟩ | h1
  · obtain ⟨c', h3⟩ := ok.has y (B.fr _ h1 rfl)
    rw [h3] at h2
    cases h2
    exact ⟨h3, h1⟩
  · cases h1
theorem blkx_ok (B : BlkX X N tn ix sc) (I : L2.Inv X pins st H s) (hC : s.heap.objs.size ≤ C) (hf : ∀ b ∈ fp, FpOk X pins H b) (hlt : ∀ b ∈ fp, b < s.heap.objs.size) : (blkOf X N sc C fp s H).Ok where
  mod := I.ok.mod
  kind := B.kind
  glob := I.ok.glob
  blt := I.ok.blt
  above := hC
  inj := fun y z c h1 h2 => I.ok.inj y z c (clx_sub B I.ok h1).1 (clx_sub B I.ok h2).1
  has := fun y hy => by
    have hy : (relabel sc X.env).names.lookup y = some .cell ∨ (relabel sc X.env).names.lookup y = some .free := hy
    have : (y, NameKind.free) ∈ sc.names := by
      rcases hy with hy | hy
      · obtain ⟨k', h1, h2⟩ := relab_kind hy
        rcases h2 with h2 | h2
        · subst h2; exact absurd rfl (B.nocell _ h1)
        · subst h2; exact h1
      · obtain ⟨k', h1, h2⟩ := relab_kind hy
        rcases h2 with h2 | h2 <;> subst h2 <;> exact h1
    exact clGo_has _ _ (.inl this)
  cab := fun y c h => by cases h
  hd := I.ok.hd
  frames := I.ok.frames
  stk := .inl rfl
  exf := fun b hb => ⟨Nat.ne_of_lt (Nat.lt_of_lt_of_le (hlt b hb) hC), fun y c h => (hf b hb).2.2.2.2.1 y c (clx_sub B I.ok h).1⟩
  bs := I.bs
  bsz := Nat.le_trans I.ok.bsz I.sz
  noex := fun b o e hb => by
    rcases (hf b hb).2.2.2.1 with z | z
    · exact I.ok.noex b o e z
    · exact absurd (Nat.lt_of_lt_of_le (Heap.lt_size e) (Nat.le_trans I.ok.bsz z)) (Nat.lt_irrefl _)
  exfs := fun b hb z => by
    rcases List.mem_cons.mp (I.stkSub b z) with z | z
    · exact (hf b hb).2.1 z
    · exact (hf b hb).2.2.1 z
  funs := I.stack
  frf := I.stkFree
theorem blkx_start (B : BlkX X N tn ix sc) (I : L2.Inv X pins st H s) (hf : ∀ b ∈ fp, FpOk X pins H b) (hlt : ∀ b ∈ fp, b < s.heap.objs.size) (hC : C = s.heap.objs.size + 1) (k : ∀ b o, s.heap.get? b = some o → h1.get? b = some o) (hn : h1.Ns C fun _ => none) (hD : h1.get? s.heap.objs.size = some { cls := .type "list", data := .seq ([] : List Value).toArray 0 }) {t' : Nat} : L2.Inv (blkOf X N sc C fp s H) [] (List.replicate tn.length none ++ frees ix st) (upd H s.heap.objs.size (.lst [])) { s with heap := h1, toks := t' } := by
  have hC' : s.heap.objs.size ≤ C := by rw [hC]; exact Nat.le_succ _
  have fr : ∀ a, s.heap.objs.size ≤ a → H a = none := fun a ha => I.hok.fresh ha
  have ok := blkx_ok B I hC' hf hlt
  have cne : ∀ y c, (clOf sc X.env).lookup y = some c → H c = none ∧ c < s.heap.objs.size ∧ ∃ v, s.heap.IsCell c v := fun y c h => by
    have h := (clx_sub B I.ok h).1
    obtain ⟨v, q⟩ := I.cell y c h
    exact ⟨I.freeC y c h, q.lt, v, q⟩
  refine ⟨ok, rfl, I.bare, Un.laid k (Nat.le_refl _) (fr _ (Nat.le_refl _)), ⟨_, hn, fun i y v e1 e2 e3 => ?_⟩, fun y c h => ?_, ?_, fun y c h => ?_, fun p hp => absurd (show p ∈ ([] : List (Addr × Obj)) from hp) (by simp), ?_, ?_⟩
  · have e1 : N[i]? = some y := e1
    by_cases hi : i < tn.length
    · rw [List.getElem?_append_left (by simpa using hi), List.getElem?_replicate, if_pos hi] at e2
      cases e2
    · have hi : tn.length ≤ i := Nat.le_of_not_lt hi
      rw [B.nm, List.getElem?_append_right hi, List.getElem?_map] at e1
      rw [List.getElem?_append_right (by simpa using hi), List.length_replicate] at e2
      unfold frees at e2
      rw [List.getElem?_map] at e2
      cases q : ix[i - tn.length]? with
      | none => rw [q] at e1; cases e1
      | some j =>
        rw [q] at e1 e2
        obtain ⟨y', hy1, hyl⟩ := B.ixs j (List.mem_of_getElem? q)
        have hy2 := PySem.mem_of_lookup hyl
        have ey : y = y' := by
          have e1 : X.N.getD j "" = y := Option.some.inj e1
          rw [List.getD_eq_getElem?_getD, hy1] at e1
          exact e1.symm
        subst ey
        have e2 : (st[j]?).join = some v := Option.some.inj e2
        have e2' : st[j]? = some (some v) := by
          cases q2 : st[j]? with
          | none => rw [q2] at e2; cases e2
          | some z => rw [q2] at e2; rw [show z = some v from e2]
        have kd := B.fr _ hy2 rfl
        have vis : Vis X.env.scope y := by
          rcases kd with z | z
          · exact .inr (.inl z)
          · exact .inr (.inr z)
        obtain ⟨m, _, hl⟩ := I.loc
        obtain ⟨u, r, l⟩ := hl j y v hy1 e2' vis
        refine ⟨u, r, .inr ?_⟩
        rcases l with ⟨z, _⟩ | ⟨_, c, hc, ic⟩
        · rcases kd with z' | z' <;> rw [z] at z' <;> cases z'
        · obtain ⟨c', hc'⟩ := clGo_has (cells := X.env.cells) sc.names [] (.inl hy2)
          have := (clx_sub B I.ok hc').1
          rw [hc] at this; cases this
          obtain ⟨oc, hoc, hd⟩ := ic
          refine ⟨?_, c, hc', oc, k _ _ hoc, hd⟩
          rcases e3 with e3 | e3 | e3
          · have e3 : (relabel sc X.env).names.lookup y = some .local := e3
            rcases relab_free (env := X.env) hyl with z | z
            · exact absurd (e3.symm.trans z) (by decide)
            · exact absurd (e3.symm.trans z) (by decide)
          · exact .inl e3
          · exact .inr e3
  · obtain ⟨_, _, v, oc, hoc, hd⟩ := cne y c h
    exact ⟨v, oc, k _ _ hoc, hd⟩
  · show upd H s.heap.objs.size (.lst []) C = none
    rw [upd_ne (by rw [hC]; exact Nat.succ_ne_self _)]
    exact fr _ hC'
  · show upd H s.heap.objs.size (.lst []) c = none
    obtain ⟨q1, q2, _⟩ := cne y c h
    rw [upd_ne (Nat.ne_of_lt q2)]
    exact q1
  · exact I.hok.laid k (Nat.le_refl _) ⟨Nat.zero_le _, [], 0, .nil, hD⟩
  · show (List.replicate tn.length none ++ frees ix st).length = N.length
    rw [B.nm]
    unfold frees
    simp
def PTs (X : Cx) (ifs : List Expr) (tt : TT) : Prop := ∀ (pins : List (Addr × Obj)) (s : Shared) (st : L2.St) (H : Hp) (Q : Bool → Hp → Prop), L2.Inv X pins st H s → tt st H Q →
  wpAny (model X.prog X.w) X.A (forIn ifs true fun c r => if r = true then do let ok ← isTrue c X.env (eval c X.env); pure (ForInStep.yield ok) else pure (ForInStep.yield r)) (fun b s' => ∃ H', L2.Inv X pins st H' s' ∧ Q b H') X.xe s
theorem pts_one {c : Expr} {tt : TT} (h : PT X c tt) : PTs X [c] tt := fun pins s st H Q I q => wpAny_tests_one (thn (h pins s st H _ I q) fun b s' z => z)
def tBlkX (nt : Nat) (g : TG) (tt : TT) (te : TE) (fs : L2.St) (J : It) (D : Addr) (Q : List V → Hp → Prop) (H : Hp) : Prop :=
  ∃ W : Nat → Nat → List V → Hp → Prop, (∃ m, W 0 m [] (upd H D (.lst []))) ∧ ∀ i m ys H1, W i m ys H1 →
    (J.stop i H1 ∧ Q ys H1) ∨ (J.go i H1 ∧ ys.length < sizeLine ∧ ∀ σ : L2.St, σ.length = nt → ∀ v H2, J.yld i H1 v H2 → g v (σ ++ fs) H2 fun σ2 H3 => ∃ σ' : L2.St, σ2 = σ' ++ fs ∧ σ'.length = nt ∧
      tt σ2 H3 fun b H4 => if b = true then te σ2 H4 fun y H5 => H5 D = some (.lst ys) ∧ ∃ m', m' < m ∧ W (i + 1) m' (ys ++ [y]) (upd H5 D (.lst (ys ++ [y]))) else ∃ m', m' < m ∧ W (i + 1) m' ys H4)
theorem lcx_core {elt iter tg : Expr} {ifs : List Expr} {pos : Pos} {g : TG} {tt : TT} {te : TE} {J : It} {it : Addr} {tj : Nat → Heap → Prop} {Q : Addr → List V → Hp → Prop} {RR : Value → Addr → Result → Shared → Prop} {E : Value → Shared → Prop} (hc : X.calm = true) (B : BlkX X N tn ix sc) (hg : ∀ C fp s H, PG (blkOf X N sc C fp s H) tg g) (ht : ∀ C fp s H, PTs (blkOf X N sc C fp s H) ifs tt) (helt : ∀ C fp s H, PE (blkOf X N sc C fp s H) elt te) (I : L2.Inv X pins st H s) (T : Turn X.prog X.w X.K tg J fp it tj) (h0 : tj 0 s.heap) (hf : ∀ b ∈ fp, FpOk X pins H b) (hq : ∀ D, H D = none → tBlkX tn.length g tt te (frees ix st) J D (Q D) H) (hRR : ∀ D C ys H' s', L2.Inv X pins st H' s' → (∃ m, s'.heap.Ns C m) → FpOk X pins H' C → Q D ys H' → RR (.ref D) C (.ok .next) s') : wpAny (model X.prog X.w) X.A (newList []) (fun acc s3 => wpAny (model X.prog X.w) X.A (newFunctionEnv sc X.env.globals (clOf sc X.env) [] X.env.qual none .none (some X.env)) (fun cenv s4 => codeAny (model X.prog X.w) X.A (.compStart (.ListComp elt [⟨tg, iter, ifs, 0⟩] sc pos) 0 (.ref it) acc { cenv with scope := relabel sc X.env }) (RR acc cenv.locals) s4) E s3) E s := by
  have hlt : ∀ b ∈ fp, b < s.heap.objs.size := fun b hb => by
    obtain ⟨o, e, _⟩ := T.obj _ _ h0 b hb
    exact Heap.lt_size e
  refine wpAny_newObj_type (wpAny_newFunctionEnv B.nocell (fun y hy => absurd hy (by simp)) (fun h1 hns hsb => ?_) B.kind)
  dsimp only at hns hsb ⊢
  generalize hG : s.heap.push { cls := .type "list", dict := none, data := .seq ([] : List Value).toArray } = g' at hns hsb ⊢
  have hC : g'.objs.size = s.heap.objs.size + 1 := by rw [← hG, Heap.size_push]
  have hDC : s.heap.objs.size ≠ g'.objs.size := by rw [hC]; exact Nat.ne_of_lt (Nat.lt_succ_self _)
  have old : ∀ b o, s.heap.get? b = some o → h1.get? b = some o := fun b o e =>
    hsb.extBut b o (by rw [hC]; exact Nat.ne_of_lt (Nat.lt_succ_of_lt (Heap.lt_size e))) (Heap.get?_push_of_some _ (hG ▸ Heap.get?_push_of_some _ e))
  have hacc : h1.get? s.heap.objs.size = some { cls := .type "list", data := .seq ([] : List Value).toArray 0 } := hsb.extBut _ _ hDC (Heap.get?_push_of_some _ (hG ▸ Heap.get?_push_size _ rfl))
  have hD : H s.heap.objs.size = none := I.hok.fresh (Nat.le_refl _)
  obtain ⟨W, ⟨m0, w0⟩, turn⟩ := hq _ hD
  have I0 := blkx_start (t' := s.toks + ([] : List (Str × Value)).length) B I hf hlt hC old (by simpa using hns) hacc
  have st0 : tj 0 h1 := T.keep _ _ _ h0 fun b _ o e => old b o e
  have hCle : s.heap.objs.size ≤ g'.objs.size := by rw [hC]; exact Nat.le_succ _
  have stat : ∀ {H' : Hp}, (∀ b ∈ fp, H' b = none) → ∀ b ∈ fp, FpOk (blkOf X N sc g'.objs.size fp s H) [] H' b := fun {H'} hn b hb =>
    ⟨hn b hb, ((blkx_ok B I hCle hf hlt).exf b hb).1, (blkx_ok B I hCle hf hlt).exfs b hb, .inl hb, ((blkx_ok B I hCle hf hlt).exf b hb).2, fun p hp => absurd (show p ∈ ([] : List (Addr × Obj)) from hp) (by simp)⟩
  have loop : ∀ s3 : Shared, s3 = { s with heap := h1, toks := s.toks + ([] : List (Str × Value)).length } →
      codeAny (model X.prog X.w) X.A (.compLoop (.ListComp elt [⟨tg, iter, ifs, 0⟩] sc pos) 0 (.ref it) (.ref s.heap.objs.size) (compEnvC sc (clOf sc X.env) g'.objs.size X.env)) (RR (.ref s.heap.objs.size) g'.objs.size) s3 := by
    rintro s3 rfl
    refine lcx_loop (fun n s' => ∃ i ys σ H', σ.length = tn.length ∧ L2.Inv (blkOf X N sc g'.objs.size fp s H) [] (σ ++ frees ix st) H' s' ∧ tj i s'.heap ∧ (∀ b ∈ fp, H' b = none) ∧ W i n ys H') ?_ m0
      ⟨0, [], List.replicate tn.length none, _, by simp, I0, st0, fun b hb => ?_, w0⟩
    · rintro n s5 ⟨i, ys, σ, H5, hσ, I5, st5, fr5, w5⟩
      rcases turn i n ys H5 w5 with ⟨stop, qn⟩ | ⟨go, hz, step⟩
      · refine thn (T.done (blkOf X N sc g'.objs.size fp s H) rfl rfl rfl hc i [] s5 _ H5 nvr I5 (stat fr5) st5 stop) fun r s6 ⟨hr, I6⟩ => ?_
        subst hr
        refine hRR _ _ ys H5 s6 ?_ ?_ (I.fpOk hCle I6.free) qn
        · exact I.call' I6.os I6.base I6.hok I6.bare fun b hb => ⟨(hf b hb).2.2.2.1, (hf b hb).2.1, (hf b hb).2.2.2.2.1, (hf b hb).2.2.2.2.2⟩
        · obtain ⟨m, hm, _⟩ := I6.loc
          exact ⟨m, hm⟩
      · refine thn (T.item (blkOf X N sc g'.objs.size fp s H) rfl rfl rfl hc i [] s5 _ H5 nvr I5 (stat fr5) st5 go) fun r s6 ⟨u, hr, h6⟩ => ?_
        subst hr
        refine thn h6 fun _ s7 ⟨v, H7, I7, r7, y7, st7, fr7⟩ => ?_
        have I7' := I7.pinned (stat fr7) (T.obj _ _ st7)
        refine thn (hg g'.objs.size fp s H _ s7 _ H7 v u _ I7' r7 (step σ hσ v H7 y7)) fun _ s8 h8 => ?_
        obtain ⟨σ8, H8, I8, σ', e8, hl8, h8⟩ := h8
        subst e8
        have pinned : ∀ {σ9 : L2.St} {H9 : Hp} {s9 : Shared}, L2.Inv (blkOf X N sc g'.objs.size fp s H) ([] ++ pinsAt fp s7.heap) σ9 H9 s9 → tj (i + 1) s9.heap ∧ ∀ b ∈ fp, H9 b = none := fun {σ9 H9 s9} I9 => by
          refine ⟨T.keep _ _ _ st7 fun b hb o e => (I9.pin (b, o) (List.mem_append_right _ (List.mem_append_right _ (mem_pinsAt hb e)))).1, fun b hb => ?_⟩
          obtain ⟨o, e, d⟩ := T.obj _ _ st7 b hb
          exact (I9.pin (b, o) (List.mem_append_right _ (List.mem_append_right _ (mem_pinsAt hb e)))).2.1
        refine thn (ht g'.objs.size fp s H _ s8 _ H8 _ I8 h8) fun ok s8' h8' => ?_
        obtain ⟨H8', I8', h8'⟩ := h8'
        cases ok with
        | false =>
          obtain ⟨m', hm, w8⟩ := h8'
          exact ⟨m', hm, i + 1, ys, σ', _, hl8, I8'.unpinned (pins := []), (pinned I8').1, (pinned I8').2, w8⟩
        | true =>
          refine thn (helt g'.objs.size fp s H _ s8' _ H8' _ I8' h8') fun z s9 ⟨y, H9, I9, r9, hD9, m', hm, w9⟩ => ?_
          refine thn (mt_append _ s9 _ H9 (.ref s.heap.objs.size) [y] (.ref s.heap.objs.size) [z] (fun _ H' => H' = upd H9 s.heap.objs.size (.lst (ys ++ [y]))) I9 rfl (.cons r9 .nil) ⟨_, ys, y, rfl, rfl, hD9, hz, rfl⟩) fun _ s10 h10 => ?_
          obtain ⟨_, H10, I10, _, rfl⟩ := h10
          exact ⟨m', hm, i + 1, ys ++ [y], σ', _, hl8, I10.unpinned (pins := []), (pinned I10).1, (pinned I10).2, w9⟩
    · rw [upd_ne (Nat.ne_of_lt (hlt b hb))]
      exact (hf b hb).1
  exact codeAny_compStart_list (loop _ rfl) (T.self _ 0 _ _ _ st0 (loop _ rfl))
end
section
variable {K : PySem.W.Frag} {G G' : Gr} {st : L2.St} {Hf H Hf1 H1 : Hp} {dl : List Slot} {ix : List Nat}
structure TgV (K : PySem.W.Frag) (Hf : Hp) (σ : L2.St) (sl : List Slot) : Prop where
  len : σ.length = sl.length
  val : ∀ (i : Nat) d, sl[i]? = some (.val d) → ∃ v, σ[i]? = some (some v) ∧ Rep K Hf v d
  no : ∀ (i : Nat) o, sl[i]? ≠ some (.own o)
theorem TgV.mono {σ : L2.St} {sl : List Slot} (h : TgV K Hf σ sl) (s : Same Hf Hf1) : TgV K Hf1 σ sl := ⟨h.len, fun i d e => let ⟨v, h1, h2⟩ := h.val i d e; ⟨v, h1, h2.mono s⟩, h.no⟩
theorem blkx_stt {σ : L2.St} {sl : List Slot} (S : Stt K G st Hf H dl) (s1 : Same Hf Hf1) (sb : Same Hf1 H1) (r : TgV K Hf1 σ sl) : Stt K ⟨Hf1, H1⟩ (σ ++ frees ix st) Hf1 H1 (sl ++ blkSl dl ix) := by
  have no : ∀ (i : Nat) o, (sl ++ blkSl dl ix)[i]? ≠ some (.own o) := fun i o h => by
    by_cases hi : i < sl.length
    · rw [List.getElem?_append_left hi] at h
      exact r.no i o h
    · rw [List.getElem?_append_right (Nat.le_of_not_lt hi)] at h
      unfold blkSl at h
      rw [List.getElem?_map] at h
      cases q : ix[i - sl.length]? with
      | none => rw [q] at h; cases h
      | some j =>
        rw [q] at h
        exact valSl_own (Option.some.inj h)
  refine ⟨.refl sb, by simp [frees, blkSl, r.len], fun i x h => ?_, fun i o h => absurd h (no i o), fun i j o o' a h => absurd h (no i o)⟩
  by_cases hi : i < sl.length
  · rw [List.getElem?_append_left hi] at h
    rw [List.getElem?_append_left (by rw [r.len]; exact hi)]
    exact r.val i x h
  · have hi := Nat.le_of_not_lt hi
    rw [List.getElem?_append_right hi] at h
    rw [List.getElem?_append_right (by rw [r.len]; exact hi), r.len]
    unfold blkSl at h
    unfold frees
    rw [List.getElem?_map] at h ⊢
    cases q : ix[i - sl.length]? with
    | none => rw [q] at h; cases h
    | some j =>
      rw [q] at h
      have hd := valSl_val (Option.some.inj h)
      obtain ⟨v', z1, z2⟩ := S.val j x hd
      exact ⟨v', by rw [Option.map_some, z1]; rfl, z2.mono s1⟩
def TgD (K : PySem.W.Frag) (nt : Nat) (g : TG) (z : Dt) (sl : List Slot) : Prop := ∀ (σ fs : L2.St) (Hf H : Hp) (v : V) (Q : L2.St → Hp → Prop), σ.length = nt → Same Hf H → Rep K Hf v z →
  (∀ σ' : L2.St, σ'.length = nt → TgV K Hf σ' sl → Q (σ' ++ fs) H) → g v (σ ++ fs) H Q
theorem tg_name {z : Dt} : TgD K 1 (gName 0) z [.val z] := fun σ fs Hf H v Q hl s r k => by
  cases σ with
  | nil => cases hl
  | cons a σ =>
    have : σ = [] := List.eq_nil_of_length_eq_zero (by simpa using hl)
    subst this
    refine k [some v] rfl ⟨rfl, fun i d h => ?_, fun i o h => ?_⟩
    · cases i with
      | zero => cases h; exact ⟨v, rfl, r⟩
      | succ i => cases h
    · cases i with
      | zero => cases h
      | succ i => cases h
abbrev gPair (K : PySem.W.Frag) : TG := gTup K 2 (gCons (gName 0) (gCons (gName 1) gNil))
theorem tg_pair {a b : Dt} : TgD K 2 (gPair K) (.tup [a, b]) [.val a, .val b] := fun σ fs Hf H v Q hl s r k => by
  cases σ with
  | nil => cases hl
  | cons x σ => cases σ with
    | nil => cases hl
    | cons y σ =>
      have : σ = [] := List.eq_nil_of_length_eq_zero (by simpa using hl)
      subst this
      cases r with
      | @tup q vs _ hq rp =>
        cases rp with
        | cons r1 t1 => cases t1 with
          | cons r2 t2 =>
            cases t2
            refine ⟨q, _, rfl, SqT_same s hq, rfl, _, _, rfl, _, _, rfl, rfl, k [some _, some _] rfl ⟨rfl, fun i d h => ?_, fun i o h => ?_⟩⟩
            · cases i with
              | zero => cases h; exact ⟨_, rfl, r1⟩
              | succ i => cases i with
                | zero => cases h; exact ⟨_, rfl, r2⟩
                | succ i => cases h
            · cases i with
              | zero => cases h
              | succ i => cases i with
                | zero => cases h
                | succ i => cases h
end
section
variable {X : Cx} {G : Gr} {E : XK} {dl : List Slot} {a b c elt iter tg : Expr} {ifs : List Expr} {i j : Int} {d : Dt} {pos p px py pc spos : Pos} {o : Out} {x y : Str} {N tn : List Str} {ix : List Nat} {sc : Scope} {n : Nat}
def SrcX (X : Cx) (G : Gr) (dl : List Slot) (zs : List Dt) (wi : TI) : Prop := ∀ st H (R : It → Hp → Prop), (∃ Hf, Stt X.K G st Hf H dl ∧ ∀ J Hf0 H0, Grow Hf H Hf0 H0 →
  (∀ Hf1 H1, Same Hf0 Hf1 → Same Hf1 H1 → ∀ i, (∀ z, zs[i]? = some z → J.go i H1 ∧ ∀ v H2, J.yld i H1 v H2 → ∃ Hf2, Grow Hf1 H1 Hf2 H2 ∧ Rep X.K Hf2 v z) ∧ (i = zs.length → J.stop i H1)) → R J H0) → wi st H R
theorem srcx_list {xs : List Dt} : SrcX X G dl xs (iList X.K (tD X.K G dl (.lst xs))) := fun st H R ⟨Hf, S, k⟩ => ⟨Hf, S, fun v Hf1 H1 g1 r1 => by
  cases r1 with
  | @lst q vs _ hq rp =>
    have hl := rp.length
    refine ⟨q, rfl, ⟨vs, .of (g1.sub _ _ hq)⟩, k _ Hf1 H1 g1 fun Hf2 H2 s1 s2 i => ⟨fun z hz => ?_, fun hi => ⟨vs, .of (s2 _ _ (s1 _ _ hq)), by omega⟩⟩⟩
    obtain ⟨u, z1, z2⟩ := rp.get hz
    have hs : SqL X.K H2 q vs := .of (s2 _ _ (s1 _ _ hq))
    refine ⟨⟨vs, u, hs, z1⟩, fun v H3 hy => ?_⟩
    obtain ⟨e1, e2⟩ := hy
    have e2 := e2 vs hs
    rw [z1] at e2; cases e2
    subst e1
    exact ⟨Hf2, .refl s2, z2.mono s1⟩⟩
theorem srcx_itr {lo : Int} {n : Nat} {Hf1 H1 Hf2 H2 : Hp} (s2 : Same Hf2 H2) (i : Nat) : (∀ z, ((List.range n).map fun (k : Nat) => Dt.int (lo + k))[i]? = some z → (Itr lo n).go i H2 ∧ ∀ v H3, (Itr lo n).yld i H2 v H3 → ∃ Hf3, Grow Hf2 H2 Hf3 H3 ∧ Rep X.K Hf3 v z) ∧ (i = ((List.range n).map fun (k : Nat) => Dt.int (lo + k)).length → (Itr lo n).stop i H2) := by
  refine ⟨fun z hz => ?_, fun e => by have : i = n := by simpa using e
                                      exact Nat.le_of_eq this.symm⟩
  have hi : i < n := by
    have := (List.getElem?_eq_some_iff.mp hz).1
    simpa using this
  rw [List.getElem?_map, List.getElem?_range hi] at hz
  cases hz
  refine ⟨hi, fun v H3 hy => ?_⟩
  obtain ⟨e1, e2⟩ := hy
  subst e1 e2
  exact ⟨Hf2, .refl s2, .int _⟩
theorem srcx_range1 (hn : -(2 ^ 62) ≤ j ∧ j < 2 ^ 62) : SrcX X G dl ((List.range j.toNat).map fun (k : Nat) => .int k) (iRng1 (tDs X.K G dl [.int j])) := fun st H R ⟨Hf, S, k⟩ => ⟨Hf, S, fun vs Hf1 H1 g1 r1 => by
  cases r1 with
  | cons r t =>
    cases t; cases r
    refine ⟨j, rfl, hn.1, hn.2, k _ Hf1 H1 g1 fun Hf2 H2 s1 s2 i => ?_⟩
    have h := srcx_itr (X := X) (lo := 0) (n := j.toNat) (Hf1 := Hf1) (H1 := H1) s2 i
    simp only [Int.zero_add] at h
    exact h⟩
theorem srcx_range2 (hn : -(2 ^ 62) ≤ i ∧ i < 2 ^ 62 ∧ -(2 ^ 62) ≤ j ∧ j < 2 ^ 62) : SrcX X G dl ((List.range (j - i).toNat).map fun (k : Nat) => .int (i + k)) (iRng2 (tDs X.K G dl [.int i, .int j])) := fun st H R ⟨Hf, S, k⟩ => ⟨Hf, S, fun vs Hf1 H1 g1 r1 => by
  cases r1 with
  | cons r t =>
    cases r
    cases t with
    | cons r t =>
      cases t; cases r
      exact ⟨i, j, rfl, hn, k _ Hf1 H1 g1 fun Hf2 H2 s1 s2 m => srcx_itr (X := X) (Hf1 := Hf1) (H1 := H1) s2 m⟩⟩
variable {α : Type} {as : List α} {z f : α → Dt} {sl : α → List Slot} {keep : α → Bool} {g : TG} {wi : TI}
def tTst (K : PySem.W.Frag) (dl : List Slot) (ix : List Nat) (as : List α) (sl : α → List Slot) (keep : α → Bool) : TT := fun st H Q => ∃ a G', a ∈ as ∧ tDB K G' (sl a ++ blkSl dl ix) (keep a) st H Q
def tElx (K : PySem.W.Frag) (dl : List Slot) (ix : List Nat) (as : List α) (sl : α → List Slot) (keep : α → Bool) (f : α → Dt) : TE := fun st H Q => ∃ a G', a ∈ as ∧ keep a = true ∧ tD K G' (sl a ++ blkSl dl ix) (f a) st H Q
inductive TstOk (X : Cx) (N : List Str) (sc : Scope) (dl : List Slot) (ix : List Nat) (as : List α) (sl : α → List Slot) (keep : α → Bool) : List Expr → Prop
  | nil : (∀ a ∈ as, keep a = true) → TstOk X N sc dl ix as sl keep []
  | one {c : Expr} : (∀ a ∈ as, ∀ C fp s H G', EB (blkOf X N sc C fp s H) G' (sl a ++ blkSl dl ix) c (keep a)) → TstOk X N sc dl ix as sl keep [c]
theorem pts_of (h : TstOk X N sc dl ix as sl keep ifs) : ∀ C fp s H, PTs (blkOf X N sc C fp s H) ifs (tTst X.K dl ix as sl keep) := fun C fp s H => by
  cases h with
  | nil h => exact fun pins s' st H' Q I ⟨a, G', ha, Hf, S, k⟩ => wpAny_tests_nil ⟨H', I, by have := k Hf H' (.refl S.sub); rw [h a ha] at this; exact this⟩
  | one h => exact pts_one fun pins s' st H' Q I ⟨a, G', ha, q⟩ => h a ha C fp s H G' pins s' st H' Q I q
def EltX (X : Cx) (N : List Str) (sc : Scope) (dl : List Slot) (ix : List Nat) (as : List α) (sl : α → List Slot) (keep : α → Bool) (f : α → Dt) (elt : Expr) : Prop := ∀ a ∈ as, keep a = true → ∀ C fp s H G', EE (blkOf X N sc C fp s H) G' (sl a ++ blkSl dl ix) elt (f a)
theorem pe_elx (h : EltX X N sc dl ix as sl keep f elt) : ∀ C fp s H, PE (blkOf X N sc C fp s H) elt (tElx X.K dl ix as sl keep f) := fun C fp s H pins s' st H' Q I ⟨a, G', ha, hk, q⟩ => h a ha hk C fp s H G' pins s' st H' Q I q
theorem blkx_data {nt : Nat} {st : L2.St} {Hf H : Hp} {J : It} {Q : VK} (S : Stt X.K G st Hf H dl) (hn : as.length ≤ sizeLine) (htg : ∀ a ∈ as, TgD X.K nt g (z a) (sl a)) (go : ∀ Hf1 H1, Grow Hf H Hf1 H1 → ∀ i, (∀ y, (as.map z)[i]? = some y → J.go i H1 ∧ ∀ v H2, J.yld i H1 v H2 → ∃ Hf2, Grow Hf1 H1 Hf2 H2 ∧ Rep X.K Hf2 v y) ∧ (i = (as.map z).length → J.stop i H1)) (k : ∀ p Hf' H', Grow Hf H Hf' H' → H p = none → Hf' p = none → OwnAt X.K Hf' H' p (.lst ((as.filter keep).map f)) → Q (.ref p) H') : ∀ D, H D = none → tBlkX nt g (tTst X.K dl ix as sl keep) (tElx X.K dl ix as sl keep f) (frees ix st) J D (fun _ H' => Q (.ref D) H') H := by
  intro D hD
  refine ⟨fun i m vs H1 => m = as.length - i ∧ i ≤ as.length ∧ ∃ Hf1, Grow Hf H Hf1 H1 ∧ Hf1 D = none ∧ H1 D = some (.lst vs) ∧ Reps X.K Hf1 vs (((as.take i).filter keep).map f), ⟨as.length, rfl, Nat.zero_le _, Hf, .allocO S.sub hD, S.sub.free hD, upd_same, .nil⟩, ?_⟩
  rintro i m vs H1 ⟨rfl, hi, Hf1, g1, hD1, hD2, rp⟩
  have hlen := rp.length
  rw [List.length_map] at hlen
  have hfl : ((as.take i).filter keep).length ≤ i := Nat.le_trans (List.length_filter_le _ _) (by rw [List.length_take]; omega)
  have keepsD : ∀ {Hfa Ha Hfb Hb : Hp}, Grow Hfa Ha Hfb Hb → Hfa D = none → Ha D = some (.lst vs) → Hfb D = none ∧ Hb D = some (.lst vs) := fun {Hfa Ha Hfb Hb} gg e1 e2 => by
    refine ⟨?_, gg.big _ _ e2⟩
    cases q : Hfb D with
    | none => rfl
    | some u =>
      obtain ⟨o, z⟩ := gg.notNew e2 (fun z => z) q
      rw [e1] at z; cases z
  by_cases hlt : i < as.length
  · have hmem : as[i] ∈ as := List.getElem_mem hlt
    have et : as.take (i + 1) = as.take i ++ [as[i]] := by rw [List.take_add_one, List.getElem?_eq_getElem hlt]; rfl
    obtain ⟨hgo, hy⟩ := (go Hf1 H1 g1 i).1 (z as[i]) (by rw [List.getElem?_map, List.getElem?_eq_getElem hlt]; rfl)
    refine .inr ⟨hgo, by omega, fun σ hσ v H2 y => ?_⟩
    obtain ⟨Hf2, g2, rv⟩ := hy v H2 y
    obtain ⟨d2, d2'⟩ := keepsD g2 hD1 hD2
    refine htg as[i] hmem σ _ Hf2 H2 v _ hσ g2.sub rv fun σ' hl' tv => ⟨σ', rfl, hl', as[i], ⟨Hf2, H2⟩, hmem, Hf2, blkx_stt S (g1.frz.trans g2.frz) g2.sub tv, fun Hf3 H3 g3 => ?_⟩
    obtain ⟨d3, d3'⟩ := keepsD g3 d2 d2'
    cases hk : keep as[i] with
    | false =>
      refine ⟨as.length - (i + 1), by omega, rfl, hlt, Hf3, (g1.trans g2).trans g3, d3, d3', ?_⟩
      rw [et, List.filter_append, List.filter_cons_of_neg (by simp [hk]), List.filter_nil, List.append_nil]
      exact rp.mono (g2.frz.trans g3.frz)
    | true =>
      refine ⟨as[i], ⟨Hf3, H3⟩, hmem, hk, Hf3, blkx_stt S ((g1.frz.trans g2.frz).trans g3.frz) g3.sub (tv.mono g3.frz), fun y Hf4 H4 g4 r4 => ?_⟩
      obtain ⟨d4, d4'⟩ := keepsD g4 d3 d3'
      have gg := ((g1.trans g2).trans g3).trans g4
      refine ⟨d4', as.length - (i + 1), by omega, rfl, hlt, Hf4, ⟨fun a o h => ?_, gg.frz, fun a o h => ?_, gg.new⟩, d4, upd_same, ?_⟩
      · rw [upd_ne (ne_of_none h hD)]; exact gg.big _ _ h
      · rw [upd_ne (ne_of_none h d4)]; exact g4.sub _ _ h
      · rw [et, List.filter_append, List.filter_cons_of_pos (by simpa using hk), List.filter_nil, List.map_append]
        exact (rp.mono ((g2.frz.trans g3.frz).trans g4.frz)).append (.cons r4 .nil)
  · have e : i = as.length := by omega
    subst e
    refine .inl ⟨(go Hf1 H1 g1 _).2 (by simp), k D Hf1 H1 g1 hD hD1 ⟨vs, hD2, ?_⟩⟩
    rw [List.take_length] at rp
    exact rp
def tLcx (wi : TI) (nt : Nat) (ix : List Nat) (g : TG) (tt : TT) (te : TE) : TE := fun st H Q => wi st H fun J H1 => ∀ D, H1 D = none → tBlkX nt g tt te (frees ix st) J D (fun _ H' => Q (.ref D) H') H1
theorem pe_lcx {tt : TT} {te : TE} (hc : X.calm = true) (B : BlkX X N tn ix sc) (hi : PI X tg iter wi) (hg : ∀ C fp s H, PG (blkOf X N sc C fp s H) tg g) (ht : ∀ C fp s H, PTs (blkOf X N sc C fp s H) ifs tt) (helt : ∀ C fp s H, PE (blkOf X N sc C fp s H) elt te) (hs : ∀ z, foldedSetIterable iter X.env z = pure z) : PE X (.ListComp elt [⟨tg, iter, ifs, 0⟩] sc pos) (tLcx wi tn.length ix g tt te) := by
  intro pins s st H Q I h
  rw [eval_ListComp]
  refine wpAny_comprehension_free (use := none) rfl hs (clox_of B I.ok) B.kind B.names (thn (hi pins s st H _ I h) fun v s1 h1 => thn h1 fun itv s2 h2 => ?_)
  obtain ⟨it, fp, tj, J, H2, e, I2, T, st2, f2, hq⟩ := h2
  subst e
  refine lcx_core (RR := fun acc C => compPost (model X.prog X.w) X.A X.xe none (EP X pins st Q) acc C) hc B hg ht helt I2 T st2 f2 hq ?_
  intro D C ws H' s' I' ⟨m, hn⟩ hfp q
  exact ⟨m, hn, fun h' hs' => ⟨.ref D, H', I'.turned (t' := s'.toks) (it := C) (fun b o hb e => (hs'.2 b hb).trans e) hfp.1 hfp.2.1 hfp.2.2.2.1 hfp.2.2.2.2.1 hfp.2.2.2.2.2, rfl, q⟩⟩
theorem ps_lcx {tt : TT} {te : TE} {nN : Nat} (hc : X.calm = true) (B : BlkX X N tn ix sc) (hi : PI X tg iter wi) (hg : ∀ C fp s H, PG (blkOf X N sc C fp s H) tg g) (ht : ∀ C fp s H, PTs (blkOf X N sc C fp s H) ifs tt) (helt : ∀ C fp s H, PE (blkOf X N sc C fp s H) elt te) (hs : ∀ z, foldedSetIterable iter X.env z = pure z) (hsw : swapsWith (.ListComp elt [⟨tg, iter, ifs, 0⟩] sc pos) (some (.Name y py)) spos.line X.env = pure true) (hN : X.N.Nodup) (hy : X.N[nN]? = some y) (hl : Loc X.env.scope y) (hf : X.fn y = true ∨ X.env.scope.names.lookup y = some .local) : PS X (.Assign [.Name y py] (.ListComp elt [⟨tg, iter, ifs, 0⟩] sc pos) spos) (fun D st H => tLcx wi tn.length ix g tt te st H fun v H' => D.nx (st.set nN (some v)) H') := by
  intro pins s st H D0 I h
  rw [exec_Assign_Name_used _ _ _ _ hsw]
  refine wpAny_bind (wpAny_standAt (wpAny_bind ?_))
  show wpAny _ X.A (do let _ ← comprehension (.ListComp elt [⟨tg, iter, ifs, 0⟩] sc pos) sc X.env _ (newList []) false (eval iter X.env) (some (assign (.Name y py) X.env))) _ _ s
  refine wpAny_bind (wpAny_mono (wpAny_comprehension_free (use := some (assign (.Name y py) X.env)) (Q := fun _ s' => SP X pins D0 .next s') rfl hs (clox_of B I.ok) B.kind B.names (thn (hi pins s st H _ I h) fun v s1 h1 => thn h1 fun itv s2 h2 => ?_)) (fun _ s' hq => wpAny_pure (wpAny_pure hq)) fun _ _ z => z)
  obtain ⟨it, fp, tj, J, H2, e, I2, T, st2, f2, hq⟩ := h2
  subst e
  refine lcx_core (RR := fun acc C => compPost (model X.prog X.w) X.A X.xe (some (assign (.Name y py) X.env)) (fun _ s' => SP X pins D0 .next s') acc C) hc B hg ht helt I2 T st2 f2 hq ?_
  intro D C ws H' s' I' ⟨m, hn⟩ hfp q
  refine wpAny_assign_Name (store_ok2 I' hN hy hl (v := .ref D) rfl (fun s'' I'' ⟨ad, hsb, ha⟩ => ?_) hf)
  have ne : C ≠ ad := by
    rcases ha with z | z
    · rw [z]; exact hfp.2.1
    · exact Ne.symm (hfp.2.2.2.2.1 _ _ z)
  exact ⟨m, hn.sameBut hsb ne, fun h' hs' => ⟨_, H', I''.turned (t' := s''.toks) (it := C) (fun b o hb e => (hs'.2 b hb).trans e) hfp.1 hfp.2.1 hfp.2.2.2.1 hfp.2.2.2.2.1 hfp.2.2.2.2.2, q⟩⟩
theorem tLcx_data (hs : SrcX X G dl (as.map z) wi) (htg : ∀ a ∈ as, TgD X.K n g (z a) (sl a)) (hn : as.length ≤ sizeLine) : ∀ st H Q, tDO X.K G dl (.lst ((as.filter keep).map f)) st H Q → tLcx wi n ix g (tTst X.K dl ix as sl keep) (tElx X.K dl ix as sl keep f) st H Q := fun st H Q ⟨Hf, S, k⟩ =>
  hs st H _ ⟨Hf, S, fun J Hf0 H0 g0 src => blkx_data (S.grow g0) hn htg (fun Hf1 H1 g1 i => src Hf1 H1 g1.frz g1.sub i) fun p Hf' H' g n1 n2 r => k p Hf' H' (g0.trans g) (g0.big.free n1) n2 r⟩
theorem eo_lcx (as : List α) (z f : α → Dt) (sl : α → List Slot) (keep : α → Bool) (hc : X.calm = true) (B : BlkX X N tn ix sc) (hi : PI X tg iter wi) (hg : ∀ C fp s H, PG (blkOf X N sc C fp s H) tg g) (hsrc : SrcX X G dl (as.map z) wi) (htg : ∀ a ∈ as, TgD X.K tn.length g (z a) (sl a)) (htst : TstOk X N sc dl ix as sl keep ifs) (helt : EltX X N sc dl ix as sl keep f elt) (hn : as.length ≤ sizeLine) (hs : ∀ z, foldedSetIterable iter X.env z = pure z := by intro _; rfl) : EO X G dl (.ListComp elt [⟨tg, iter, ifs, 0⟩] sc pos) (.lst ((as.filter keep).map f)) := peI (pe_lcx hc B hi hg (pts_of htst) (pe_elx helt) hs) (tLcx_data hsrc htg hn)
theorem es_lcx (nN : Nat) (as : List α) (z f : α → Dt) (sl : α → List Slot) (keep : α → Bool) (hc : X.calm = true) (hN : X.N.Nodup) (B : BlkX X N tn ix sc) (hi : PI X tg iter wi) (hg : ∀ C fp s H, PG (blkOf X N sc C fp s H) tg g) (hsrc : SrcX X G dl (as.map z) wi) (htg : ∀ a ∈ as, TgD X.K tn.length g (z a) (sl a)) (htst : TstOk X N sc dl ix as sl keep ifs) (helt : EltX X N sc dl ix as sl keep f elt) (hn : as.length ≤ sizeLine) (hs : ∀ z, foldedSetIterable iter X.env z = pure z := by intro _; rfl) (hsw : swapsWith (.ListComp elt [⟨tg, iter, ifs, 0⟩] sc pos) (some (.Name y py)) spos.line X.env = pure true := by rfl) (hy : X.N[nN]? = some y := by rfl) (hl : Loc X.env.scope y := by first | exact Or.inl rfl | exact Or.inr rfl) (hf : X.fn y = true ∨ X.env.scope.names.lookup y = some .local := by first | exact .inl rfl | exact .inr rfl | assumption) : ES X G E dl (.Assign [.Name y py] (.ListComp elt [⟨tg, iter, ifs, 0⟩] sc pos) spos) (.nx (dl.set nN (.own (.lst ((as.filter keep).map f))))) :=
  psI (ps_lcx hc B hi hg (pts_of htst) (pe_elx helt) hs hsw hN hy hl hf) fun D st H ⟨Hf, S, k⟩ => tLcx_data hsrc htg hn st H _ ⟨Hf, S, fun p Hf' H' g n1 n2 r => k _ Hf' H' g.frz (S.setN g n1 n2 r)⟩
def TgS (K : PySem.W.Frag) (g : TG) (z : Dt) (up : List Slot → List Slot) : Prop := ∀ (G : Gr) (st : L2.St) (Hf H : Hp) (v : V) (dl : List Slot) (Q : L2.St → Hp → Prop), Stt K G st Hf H dl → Rep K Hf v z → (∀ st', Stt K G st' Hf H (up dl) → Q st' H) → g v st H Q
theorem ts_name {K : PySem.W.Frag} {n : Nat} {z : Dt} : TgS K (gName n) z (fun dl => dl.set n (.val z)) := fun G st Hf H v dl Q S r k => k _ (S.set r)
theorem ts_pair {K : PySem.W.Frag} {n m : Nat} {z1 z2 : Dt} : TgS K (gTup K 2 (gCons (gName n) (gCons (gName m) gNil))) (.tup [z1, z2]) (fun dl => (dl.set n (.val z1)).set m (.val z2)) := fun G st Hf H v dl Q S r k => by
  cases r with
  | @tup q vs _ hq rp =>
    cases rp with
    | cons r1 t1 => cases t1 with
      | cons r2 t2 =>
        cases t2
        exact ⟨q, _, rfl, SqT_same S.sub hq, rfl, _, _, rfl, _, _, rfl, rfl, k _ ((S.set r1).set r2)⟩
theorem es_forx {body : List Stmt} {m : Nat} (as : List α) (z : α → Dt) (up : α → List Slot → List Slot) (S : Nat → List Slot) (hcalm : X.calm = true) (hp : PassesOwn (model X.prog X.w) X.A X.env X.xe) (hI : PI X tg iter wi) (hsrc : SrcX X G dl (as.map z) wi) (hg : PG X tg g) (htg : ∀ a ∈ as, TgS X.K g (z a) (up a)) (h0 : Le (S 0) dl) (hmn : m ≤ as.length) (hb : ∀ (k : Nat) (a : α), k < m → as[k]? = some a → Goes X G E body (up a (S k)) (S (k + 1))) (he : Ends1 X G E body S (fun k => (as[k]?).elim (S k) fun a => up a (S k)) as.length m o) (hs : ∀ z, foldedSetIterable iter X.env z = pure z := by intro _; rfl) : ES X G E dl (.For tg iter body [] pos) o := by
  refine psI (ps_for hp hcalm hI hg (pss_turn (G := G) (E := E)) hs) fun D st H ⟨Hf, S0, k⟩ => hsrc st H _ ⟨Hf, S0, fun J Hf0 H0 g0 src => ?_⟩
  refine ⟨fun i q st H => q = as.length - i ∧ i ≤ m ∧ ∃ Hf1, Same Hf0 Hf1 ∧ Stt X.K G st Hf1 H (S i), ⟨as.length, rfl, Nat.zero_le _, Hf0, Same.refl _, (S0.grow g0).weak h0⟩, ?_⟩
  rintro i q st1 H1 ⟨rfl, him, Hf1, s1, S1⟩
  have sr := src Hf1 H1 s1 S1.sub i
  by_cases hlt : i < as.length
  · have hz : as[i]? = some as[i] := List.getElem?_eq_getElem hlt
    obtain ⟨hgo, hy⟩ := sr.1 (z as[i]) (by rw [List.getElem?_map, hz]; rfl)
    refine .inr ⟨hgo, fun st' H' => i < m ∧ ∃ Hf2, Same Hf0 Hf2 ∧ Stt X.K G st' Hf2 H' (S (i + 1)), fun st' H' ⟨h1, h2⟩ => ⟨as.length - (i + 1), by omega, rfl, by omega, h2⟩, fun x H' y => ?_⟩
    obtain ⟨Hf2, g2, rv⟩ := hy x H' y
    refine htg as[i] (List.getElem_mem hlt) G st1 Hf2 H' x (S i) _ (S1.grow g2) rv fun st2 S2 => ?_
    by_cases him' : i < m
    · exact turn_goes (hb i as[i] him' hz) S2 (fun st Hf3 H s3 S' => ⟨him', Hf3, (s1.trans g2.frz).trans s3, S'⟩) (fun st Hf3 H s3 S' => ⟨him', Hf3, (s1.trans g2.frz).trans s3, S'⟩)
    · have e : i = m := by omega
      subst e
      refine turn_ends he hlt ?_ (k.mono ((g0.frz.trans s1).trans g2.frz)) rfl rfl
      show Stt _ _ _ _ _ ((as[i]?).elim (S i) fun a => up a (S i))
      rw [hz]; exact S2
  · have e : i = as.length := by omega
    subst e
    have e2 : m = as.length := by omega
    subst e2
    refine .inl ⟨sr.2 (by simp), ?_⟩
    cases he with
    | all _ => exact k st1 Hf1 H1 (g0.frz.trans s1) S1
    | rt h _ => omega
    | ro h _ => omega
    | bk h _ => omega
    | ex h _ => omega
theorem pgb_name (B : BlkX X N tn ix sc) (h : tn = [x]) : ∀ C fp s H, PG (blkOf X N sc C fp s H) (.Name x px) (gName 0) := fun C fp s H => by
  have hN : (blkOf X N sc C fp s H).N[0]? = some x := by
    show N[0]? = some x
    rw [B.nm, h]; rfl
  have hxl : (blkOf X N sc C fp s H).env.scope.names.lookup x = some .local := lookup_relabel_local (B.hx x (by rw [h]; simp))
  exact pg_name (X := blkOf X N sc C fp s H) B.nd hN (.inl hxl) (.inr hxl)
theorem pgb_pair {k : Nat} (hc : X.calm = true) (B : BlkX X N tn ix sc) (h : tn = [x, y]) : ∀ C fp s H, PG (blkOf X N sc C fp s H) (.Tuple [.Name x px, .Name y py] k p) (gPair X.K) := fun C fp s H => by
  have h0 : (blkOf X N sc C fp s H).N[0]? = some x := by
    show N[0]? = some x
    rw [B.nm, h]; rfl
  have h1 : (blkOf X N sc C fp s H).N[1]? = some y := by
    show N[1]? = some y
    rw [B.nm, h]; rfl
  have hxl : (blkOf X N sc C fp s H).env.scope.names.lookup x = some .local := lookup_relabel_local (B.hx x (by rw [h]; simp))
  have hyl : (blkOf X N sc C fp s H).env.scope.names.lookup y = some .local := lookup_relabel_local (B.hx y (by rw [h]; simp))
  exact pg_tup (X := blkOf X N sc C fp s H) hc (pgs_cons (pg_name B.nd h0 (.inl hxl) (.inr hxl)) (pgs_cons (pg_name B.nd h1 (.inl hyl) (.inr hyl)) pgs_nil rfl) rfl) rfl rfl
end
def chkBx (sc dsc : Scope) (XN N tn : List Str) (ix : List Nat) : Bool :=
  decide N.Nodup && (decide (N = tn ++ ix.map (fun j => XN.getD j "")) && (decide (sc.kind = .function) && (sc.names.all (fun y => decide (y.2 ≠ .cell)) && (sc.names.all (fun y => decide (y.2 = .local → sc.names.lookup y.1 = some .local)) && (tn.all (fun x => decide (sc.names.lookup x = some .local)) &&
    (sc.names.all (fun y => decide (y.2 = .free → dsc.names.lookup y.1 = some .cell ∨ dsc.names.lookup y.1 = some .free)) && ix.all (fun j => decide (sc.names.lookup (XN.getD j "") = some .free) && decide (j < XN.length))))))))
theorem bx_of {X : Cx} {sc dsc : Scope} {XN N tn : List Str} {ix : List Nat} (h : chkBx sc dsc XN N tn ix = true) (e1 : X.env.scope = dsc := by rfl) (e2 : X.N = XN := by rfl) : BlkX X N tn ix sc := by
  subst e1 e2
  unfold chkBx at h
  simp only [Bool.and_eq_true, List.all_eq_true, decide_eq_true_eq] at h
  obtain ⟨h1, h2, h3, h4, h5, h6, h7, h8⟩ := h
  refine ⟨h1, h2, h3, h4, h5, h6, h7, fun j hj => ?_⟩
  obtain ⟨q1, q2⟩ := h8 j hj
  refine ⟨X.N.getD j "", ?_, q1⟩
  rw [List.getD_eq_getElem?_getD, List.getElem?_eq_getElem q2]; rfl
end Sg
namespace Sg
open PySem PySem.Spec PyProof.Rows L2
section
variable {X : Cx} {G : Gr} {E : XK} {dl : List Slot} {a b e : Expr} {d d1 d2 : Dt} {pos : Pos} {x y : Str} {w : Own} {u : Bool} {i : Int}
end
section
variable {X : Cx} {G : Gr} {E : XK} {dl : List Slot} {e : Expr} {d1 d2 : Dt} {pos : Pos}
end
end Sg
namespace Sg
open PySem PySem.Spec PyProof.Rows L2
section
variable {X : Cx} {pins : List (Addr × Obj)} {σ : List (Option V)} {H H' : Hp} {s : Shared} {h' : Heap}
theorem turnLaid {ch : List Addr} {a : Addr} {o : HO} {t' : Nat} (I : L2.Inv X pins σ H s) (hch : ∀ b ∈ ch, FpOk X pins H b) (k : ∀ b u, b ∉ ch → s.heap.get? b = some u → h'.get? b = some u) (hp : s.heap.objs.size ≤ a) (new : ObjOk X.prog X.w (upd H a o) h' a o) : L2.Inv X pins σ (upd H a o) { s with heap := h', toks := t' } := by
  have hn := I.hok.fresh hp
  have nit : ∀ b u, H b = some u → b ∉ ch := fun b u e z => by rw [(hch b z).1] at e; cases e
  have nea : ∀ b o, s.heap.get? b = some o → b ≠ a := fun b o e => Nat.ne_of_lt (Nat.lt_of_lt_of_le (Heap.lt_size e) hp)
  refine I.step (g' := s.gens) (d' := s.drawn) (ch := ch) (fun b hb => ⟨(hch b hb).2.2.2.1, (hch b hb).2.1, (hch b hb).2.2.2.2.1, (hch b hb).2.2.2.2.2⟩) (fun b o _ _ hc e _ => k b o hc e) (fun b o _ _ hc e _ => ⟨o.slots, k b o hc e⟩) (fun b o _ e n => by rw [upd_ne (nea b o e)]; exact n)
    (fun b o hc e => ⟨o, k b o hc e⟩) (fun b xs e => by rw [upd_ne (ne_of_none e hn)]; exact e) (fun b o u e => by rw [upd_ne (ne_of_none e hn)]; exact e) (fun b ps e => ⟨#[], by rw [upd_ne (ne_of_none e hn), e]; simp⟩) (fun m hm => ?_) (fun b u e => ?_) I.bare
  · obtain ⟨o, es, ep, ho, r⟩ := hm
    exact ⟨o, es, ep, k _ o (fun z => (hch _ z).2.1 rfl) ho, r⟩
  · by_cases hb : b = a
    · subst hb; rw [upd_same] at e; cases e; exact new
    · rw [upd_ne hb] at e
      refine (I.hok b u e).stay (fun c v hc q => k c v ?_ q) (fun c q => by rw [upd_ne (ne_of_none q hn)]; exact q) (fun c xs q => by rw [upd_ne (ne_of_none q hn)]; exact q) (.of fun c u q => by rw [upd_ne (ne_of_none q hn)]; exact q)
      rcases hc with z | z | z
      · rw [z]; exact nit b u e
      · exact nit c _ z
      · exact fun z' => by rw [(hch c z').1] at z; exact z
end
def Ite (K : PySem.W.Frag) (a : Addr) : It :=
  ⟨fun i H => ∃ xs x, SqL K H a xs ∧ xs[i]? = some x, fun i H v H' => ∃ p x, v = .ref p ∧ H p = none ∧ H' = upd H p (.tup [.int i, x]) ∧ ∀ xs, SqL K H a xs → xs[i]? = some x, fun i H => ∃ xs, SqL K H a xs ∧ xs.length ≤ i⟩
theorem turn_enum {P : Program} {w : World} {K : PySem.W.Frag} {elts : List Expr} {kt : Nat} {tpos : Pos} (a e it : Addr) (hei : e ≠ it) : Turn P w K (.Tuple elts kt tpos) (Ite K a) [e, it] e (fun i h => (∃ old, IsEnum h e it i old) ∧ h.IsListIter it a i) where
  mem := by simp
  obj := fun i h st b hb => by
    obtain ⟨⟨old, he⟩, o, e2, c, d⟩ := st
    rcases List.mem_cons.mp hb with rfl | hb
    · exact ⟨_, he, fun v z => by cases z⟩
    · have : b = it := by simpa using hb
      subst this
      exact ⟨o, e2, fun v z => by rw [d] at z; cases z⟩
  keep := fun i h h' st k => by
    obtain ⟨⟨old, he⟩, hit⟩ := st
    exact ⟨⟨old, k e (by simp) _ he⟩, hit.at fun o x => k it (by simp) o x⟩
  item := by
    intro X hP hw hK hc i pins s σ H E I hf st hg
    subst hP hw hK
    obtain ⟨xs, x, hq, hx⟩ := hg
    obtain ⟨its, rv, p, hz⟩ := I.list hq
    obtain ⟨u, hu, ru⟩ := rv.get hx
    obtain ⟨⟨old, he⟩, hit⟩ := st
    have hel : e < s.heap.objs.size := Heap.lt_size he
    have hil : it < s.heap.objs.size := by obtain ⟨_, z, _⟩ := hit; exact Heap.lt_size z
    refine wpAny_pyNext_enum_item he hit p.isList (x := u) (by simpa using hu) hei fun h1 ho hit1 hT hsz hk => ?_
    refine ⟨_, rfl, wpAny_letOwnedTupleGo_enum ho fun h2 he2 hs2 => ?_⟩
    have hT2 : h2.get? s.heap.objs.size = some { cls := .type "tuple", data := .seq #[.int i s.toks, u] } := (hs2.2 _ (Nat.ne_of_gt hel)).trans hT
    have k2 : ∀ b o, b ∉ [e, it] → s.heap.get? b = some o → h2.get? b = some o := fun b o hb q => (hs2.2 b fun z => hb (by simp [z])).trans (hk b o (fun z => hb (by simp [z])) (fun z => hb (by simp [z])) q)
    have hp : H s.heap.objs.size = none := I.hok.fresh (Nat.le_refl _)
    have I2 : L2.Inv X pins σ (upd H s.heap.objs.size (.tup [.int i, x])) { s with heap := h2, toks := s.toks + 1 } := turnLaid I hf k2 (Nat.le_refl _) ⟨Nat.le_of_ble_eq_true rfl, [.int i s.toks, u], .cons ⟨_, rfl⟩ (.cons ru .nil), _, hT2, rfl, _, rfl⟩
    refine ⟨.ref s.heap.objs.size, _, I2, rfl, ⟨_, x, rfl, hp, rfl, fun ys hy => by rw [I.list_inj hy hq]; exact hx⟩, ⟨⟨u, by simpa using he2⟩, hit1.at fun o z => (hs2.2 it (Ne.symm hei)).trans z⟩, fun b hb => ?_⟩
    have : b ≠ s.heap.objs.size := by
      rcases List.mem_cons.mp hb with rfl | hb
      · exact Nat.ne_of_lt hel
      · have : b = it := by simpa using hb
        subst this
        exact Nat.ne_of_lt hil
    rw [upd_ne this]
    exact (hf b hb).1
  done := by
    intro X hP hw hK hc i pins s σ H E I hf st hg
    subst hP hw hK
    obtain ⟨xs, hq, hx⟩ := hg
    obtain ⟨its, rv, p, hz⟩ := I.list hq
    obtain ⟨⟨old, he⟩, hit⟩ := st
    obtain ⟨f0, f1, f2, f3, f4, f5⟩ := hf it (by simp)
    have hl := rv.length
    exact wpAny_pyNext_enum_end (I.ok.hd hc) he hit p.isList (by simp; omega) fun h' eb => ⟨rfl, I.turned (t' := s.toks) (fun b o hb q => eb b o hb q) f0 f1 f3 f4 f5⟩
  self := fun _ i s Q E st h => by
    obtain ⟨⟨old, he⟩, _⟩ := st
    exact wpAny_pyIter_enum he h
theorem boot_enumerate : bootBuiltins "enumerate" = some (.type "enumerate") := by decide +kernel
section
variable {X : Cx} {G : Gr} {dl : List Slot} {a : Expr} {xs : List Dt} {p pos : Pos}
def iEnum (K : PySem.W.Frag) (ta : TA) : TI := fun σ H R => ta σ H fun vs H1 => ∃ a, vs = [.ref a] ∧ (∃ xs, SqL K H1 a xs) ∧ R (Ite K a) H1
theorem pi_enum {elts : List Expr} {kt : Nat} {tpos : Pos} {ta : TA} (hg : Gl X "enumerate") (hm : X.mg "enumerate" = none) (ha : PA X [a] ta) (hs : starEach [a] X.env = [(false, eval a X.env)] := by rfl) : PI X (.Tuple elts kt tpos) (.Call (.Name "enumerate" p) [a] [] pos) (iEnum X.K ta) := by
  intro pins s σ H R I h
  refine Call_ (ld_blt I hg hm boot_enumerate (PyProof.Rows.callWith_type1 (thn (ha pos pins s σ H _ I h) fun us s1 ⟨vs, H1, I1, r1, q1⟩ => ?_) hs rfl))
  obtain ⟨l, e, ⟨xs, hq⟩, q⟩ := q1
  subst e
  cases r1 with
  | cons r rr =>
    cases rr
    cases r
    obtain ⟨its, rv, pl, hz⟩ := I1.list hq
    refine call_enumerate_list pl.isList fun h' he hit hsz k => wpAny_pyIter_enum he ?_
    have I2 : L2.Inv X pins σ H1 { s1 with heap := h' } := I1.kept (t' := s1.toks) k
    refine ⟨s1.heap.objs.size + 1, [s1.heap.objs.size + 1, s1.heap.objs.size], _, _, H1, rfl, I2, turn_enum l _ s1.heap.objs.size (Nat.succ_ne_self _), ⟨⟨_, he⟩, hit⟩, fun b hb => ?_, q⟩
    have hb' : s1.heap.objs.size ≤ b := by
      rcases List.mem_cons.mp hb with rfl | hb
      · exact Nat.le_succ _
      · have : b = s1.heap.objs.size := by simpa using hb
        rw [this]; exact Nat.le_refl _
    exact I1.fpOk hb' (I1.hok.fresh hb')
def enumD (xs : List Dt) : List Dt := (List.range xs.length).map fun (k : Nat) => .tup [.int k, xs.getD k .non]
theorem srcx_enum : SrcX X G dl (enumD xs) (iEnum X.K (tDs X.K G dl [.lst xs])) := fun st H R ⟨Hf, S, k⟩ => ⟨Hf, S, fun vs Hf1 H1 g1 r1 => by
  cases r1 with
  | cons r t =>
    cases t
    cases r with
    | @lst q vs _ hq rp =>
      have hl := rp.length
      refine ⟨q, rfl, ⟨vs, .of (g1.sub _ _ hq)⟩, k _ Hf1 H1 g1 fun Hf2 H2 s1 s2 i => ⟨fun z hz => ?_, fun hi => ⟨vs, .of (s2 _ _ (s1 _ _ hq)), by unfold enumD at hi; rw [List.length_map, List.length_range] at hi; omega⟩⟩⟩
      have hi : i < xs.length := by
        have := (List.getElem?_eq_some_iff.mp hz).1
        unfold enumD at this
        simpa using this
      unfold enumD at hz
      rw [List.getElem?_map, List.getElem?_range hi] at hz
      cases hz
      have hx : xs[i]? = some (xs.getD i .non) := by rw [List.getD_eq_getElem?_getD, List.getElem?_eq_getElem hi]; rfl
      obtain ⟨u, z1, z2⟩ := rp.get hx
      have hs : SqL X.K H2 q vs := .of (s2 _ _ (s1 _ _ hq))
      refine ⟨⟨vs, u, hs, z1⟩, fun v H3 hy => ?_⟩
      obtain ⟨pt, x, rfl, hn, rfl, e2⟩ := hy
      have e2 := e2 vs hs
      rw [z1] at e2; cases e2
      have g3 : Grow Hf2 H2 (upd Hf2 pt (.tup [.int i, u])) (upd H2 pt (.tup [.int i, u])) := .alloc s2 hn
      exact ⟨_, g3, .tup (.inl (.inl upd_same)) (.cons (.int _) (.cons ((z2.mono s1).mono g3.frz) .nil))⟩⟩
end
end Sg
namespace Sg
open PySem PySem.Spec PyProof.Rows L2
section
variable {X : Cx} {pins : List (Addr × Obj)} {st : L2.St} {H H' : Hp} {s s' : Shared} {h2 B : Heap} {ea t : Addr} {C : Value}
end
end Sg
namespace Sg
open PySem PySem.Spec PyProof.Rows L2
section
variable {X : Cx} {pins pins' : List (Addr × Obj)} {st : L2.St} {H H' : Hp} {s s' : Shared} {h2 B : Heap} {ea t : Addr} {C D : Addr} {xe : Value → Shared → Prop} {G : Gr} {Hf : Hp}
def noOwn : List Slot → Bool
  | [] => true
  | .own _ :: _ => false
  | _ :: r => noOwn r
theorem noOwn_of : ∀ {dl : List Slot}, noOwn dl = true → ∀ (j : Nat) o, dl[j]? ≠ some (.own o)
  | [], _, j, o, h => by simp at h
  | .val d :: r, q, 0, o, h => by simp at h
  | .unk :: r, q, 0, o, h => by simp at h
  | .val d :: r, q, j + 1, o, h => noOwn_of (dl := r) q j o (by simpa using h)
  | .unk :: r, q, j + 1, o, h => noOwn_of (dl := r) q j o (by simpa using h)
end
section
variable {X : Cx} {G : Gr} {E : XK} {dl : List Slot} {e : Expr} {es : List Expr} {ds : List Dt} {pos p apos pos' : Pos} {x m : Str} {C : Addr} {fs fe : List (Str × Dt)} {k k' n : Nat} {R : List Dt → Res → Prop} {ob : Expr} {c : Value}
end
end Sg
namespace Sg
open PySem PySem.Spec PyProof.Rows L2
section
variable {X : Cx} {G : Gr} {dl : List Slot} {a e b : Expr} {x y : Str} {i j : Int} {pos p1 p2 : Pos} {lo hi : Option Expr} {l u : Option Int}
theorem sl_str : SlR X (fun x lo hi H Q => ∃ z : Str, x = .str z ∧ z.length ≤ sizeLine ∧ Q (.str (Txt.slice z lo hi)) H) := by
  intro pins s σ H x v vl vu lo hi sl Q I rx hs pl pu h
  obtain ⟨z, rfl, hz, q⟩ := h
  obtain ⟨t, rfl⟩ := (show ∃ t, v = Value.str z t from rx)
  obtain ⟨o, h1, h2, h3⟩ := hs
  refine ⟨"str", _, F.slot_str_getitem.lookup, typeIs_str _ _ _, ?_⟩
  cases pl with
  | none =>
    cases pu with
    | none => exact wpAny_getItem_str_slice (l := none) (u := none) (st := none) ⟨o, h1, h2, h3⟩ rfl (post_val_or_str ⟨Nat.le_trans (Txt.slice_le z _ _) hz, fun t' k => ⟨.str (Txt.slice z _ _), H, I.tok _, ⟨t', rfl⟩, q⟩⟩)
    | int j uj => exact wpAny_getItem_str_slice (l := none) (u := some (j, uj)) (st := none) ⟨o, h1, h2, h3⟩ rfl (post_val_or_str ⟨Nat.le_trans (Txt.slice_le z _ _) hz, fun t' k => ⟨.str (Txt.slice z _ _), H, I.tok _, ⟨t', rfl⟩, q⟩⟩)
  | int i ui =>
    cases pu with
    | none => exact wpAny_getItem_str_slice (l := some (i, ui)) (u := none) (st := none) ⟨o, h1, h2, h3⟩ rfl (post_val_or_str ⟨Nat.le_trans (Txt.slice_le z _ _) hz, fun t' k => ⟨.str (Txt.slice z _ _), H, I.tok _, ⟨t', rfl⟩, q⟩⟩)
    | int j uj => exact wpAny_getItem_str_slice (l := some (i, ui)) (u := some (j, uj)) (st := none) ⟨o, h1, h2, h3⟩ rfl (post_val_or_str ⟨Nat.le_trans (Txt.slice_le z _ _) hz, fun t' k => ⟨.str (Txt.slice z _ _), H, I.tok _, ⟨t', rfl⟩, q⟩⟩)
def tDPt (K : PySem.W.Frag) (G : Gr) (dl : List Slot) (o : Option Int) : TO := fun st H Q => ∃ Hf, Stt K G st Hf H dl ∧ ∀ Hf' H', Grow Hf H Hf' H' → Q o H'
abbrev EPt (X : Cx) (G : Gr) (dl : List Slot) (e : Option Expr) (o : Option Int) : Prop := PO X e (tDPt X.K G dl o)
theorem poI {e : Option Expr} {t t' : TO} (h : PO X e t) (i : ∀ st H Q, t' st H Q → t st H Q) : PO X e t' := fun pins s st H Q I q => h pins s st H Q I (i st H Q q)
theorem ept_no : EPt X G dl none none := poI po_none fun st H Q ⟨Hf, S, k⟩ => k Hf H (.refl S.sub)
theorem ept_int (h : EE X G dl e (.int i)) : EPt X G dl (some e) (some i) := poI (po_some h) fun st H Q ⟨Hf, S, k⟩ => ⟨Hf, S, fun v Hf1 H1 g1 r1 => by cases r1; exact ⟨i, rfl, k Hf1 H1 g1⟩⟩
theorem ee_slS (he : EE X G dl e (.str x)) (hl : EPt X G dl lo l) (hu : EPt X G dl hi u) (hx : x.length ≤ sizeLine) : EE X G dl (.Subscript e (.Slice lo hi none p2) pos) (.str (Txt.slice x l u)) :=
  peI (pe_slice sl_str he hl hu) fun st H Q ⟨Hf, S, k⟩ => ⟨Hf, S, fun v Hf1 H1 g1 r1 => ⟨Hf1, S.grow g1, fun Hf2 H2 g2 => ⟨Hf2, (S.grow g1).grow g2, fun Hf3 H3 g3 => by
    cases r1
    exact ⟨x, rfl, hx, k _ Hf3 H3 ((g1.trans g2).trans g3) (.str _)⟩⟩⟩⟩
end
end Sg
namespace Sg
open PySem PySem.Spec PyProof.Rows L2
def Itx (x : Str) : It := ⟨fun i H => ∃ c, x.cps[i]? = some c, fun i H v H' => H' = H ∧ ∃ c, x.cps[i]? = some c ∧ v = .str ⟨#[c]⟩, fun i H => x.cps[i]? = none⟩
theorem turn_str {P : Program} {w : World} {K : PySem.W.Frag} {tg : Expr} (x : Str) (t : Tok) (it : Addr) : Turn P w K tg (Itx x) [it] it (fun i h => h.IsStrIter it "str_ascii_iterator" x t i) where
  mem := by simp
  obj := fun i h st b hb => by
    have e : b = it := by simpa using hb
    subst e
    obtain ⟨o, e, c, d⟩ := st
    exact ⟨o, e, fun v z => by rw [d] at z; cases z⟩
  keep := fun i h h' st k => let ⟨o, e, c, d⟩ := st; ⟨o, k it (by simp) o e, c, d⟩
  item := by
    intro X hP hw hK hc i pins s σ H E I hf st hg
    subst hP hw hK
    obtain ⟨c, hx⟩ := hg
    obtain ⟨f0, f1, f2, f3, f4, f5⟩ := hf it (by simp)
    refine wpAny_pyNext_ascii_item st hx fun h' st' sb => ?_
    have I1 : L2.Inv X pins σ H { s with heap := h', toks := s.toks + 1 } := I.turned (t' := s.toks + 1) (fun b o hb e => (sb.2 b hb).trans e) f0 f1 f3 f4 f5
    obtain ⟨o, e, cc, d⟩ := id st'
    exact ⟨_, rfl, go_of (s := { s with heap := h', toks := s.toks + 1 }) e cc d (by decide) ⟨.str ⟨#[c]⟩, H, I1, ⟨_, rfl⟩, ⟨rfl, c, hx, rfl⟩, st', fun b hb => (hf b hb).1⟩⟩
  done := by
    intro X hP hw hK hc i pins s σ H E I hf st hg
    subst hP hw hK
    obtain ⟨f0, f1, f2, f3, f4, f5⟩ := hf it (by simp)
    exact wpAny_pyNext_ascii_end (I.ok.hd hc) st hg fun h' eb => ⟨rfl, I.turned (t' := s.toks) (fun b o hb e => eb b o hb e) f0 f1 f3 f4 f5⟩
  self := fun _ _ _ _ _ st h => wpAny_pyIter_striter_ascii st h
def asciiS (x : Str) : Bool := x.cps.all (· < 128)
def signs (x : Str) : List Dt := x.cps.toList.map fun c => .str ⟨#[c]⟩
section
variable {X : Cx} {G : Gr} {dl : List Slot} {a b c e : Expr} {x y z : Str} {p pos : Pos} {i j k : Int} {u v : Bool}
def iStr (ta : TE) : TI := fun σ H R => ta σ H fun v H1 => ∃ x, v = .str x ∧ asciiS x = true ∧ R (Itx x) H1
theorem pi_str {tg : Expr} {ta : TE} (ha : PE X a ta) : PI X tg a (iStr ta) := by
  intro pins s σ H R I h
  refine thn (ha pins s σ H _ I h) fun v s1 ⟨w, H1, I1, r1, q1⟩ => ?_
  obtain ⟨x, e, hx, q⟩ := q1
  subst e
  obtain ⟨t, rfl⟩ := (show ∃ t, v = Value.str x t from r1)
  refine wpAny_pyIter_ascii hx ?_
  refine ⟨s1.heap.objs.size, [s1.heap.objs.size], _, _, H1, rfl, I1.kept (t' := s1.toks) fun b o e => Heap.get?_push_of_some _ e, turn_str x t _, ⟨_, Heap.get?_push_size _ rfl, rfl, rfl⟩, fun b hb => ?_, q⟩
  have e : b = s1.heap.objs.size := by simpa using hb
  subst e
  exact I1.fpOk (Nat.le_refl _) (I1.hok.fresh (Nat.le_refl _))
theorem signs_get (x : Str) (i : Nat) : (signs x)[i]? = (x.cps[i]?).map fun c => .str ⟨#[c]⟩ := by
  unfold signs
  rw [List.getElem?_map, Array.getElem?_toList]
theorem signs_len (x : Str) : (signs x).length = x.length := by
  unfold signs
  rw [List.length_map, Array.length_toList]; rfl
theorem srcx_str (hx : asciiS x = true) : SrcX X G dl (signs x) (iStr (tD X.K G dl (.str x))) := fun st H R ⟨Hf, S, k⟩ => ⟨Hf, S, fun v Hf1 H1 g1 r1 => by
  cases r1
  refine ⟨x, rfl, hx, k _ Hf1 H1 g1 fun Hf2 H2 s1 s2 i => ⟨fun z hz => ?_, fun hi => ?_⟩⟩
  · rw [signs_get] at hz
    cases q : x.cps[i]? with
    | none => rw [q] at hz; cases hz
    | some c =>
      rw [q] at hz
      cases hz
      refine ⟨⟨c, q⟩, fun v H3 ⟨e1, c', e2, e3⟩ => ?_⟩
      rw [q] at e2; cases e2
      subst e1 e3
      exact ⟨Hf2, .refl s2, .str _⟩
  · show x.cps[i]? = none
    rw [hi, signs_len]
    exact Array.getElem?_size_le (Nat.le_refl _)⟩
theorem op_le_str : OpR X (compareOp .LtE) (fun x y H Q => ∃ i j, x = .str i ∧ y = .str j ∧ Q (.bl (!decide (j.cps.toList < i.cps.toList))) H) := by
  intro pins s σ H x y v u Q I rx ry h
  obtain ⟨i, j, rfl, rfl, q⟩ := h
  obtain ⟨t, rfl⟩ := rx
  obtain ⟨t', rfl⟩ := ry
  exact P.le_str (fin_bl I q rfl)
def leS (x y : Str) : Bool := !decide (y.cps.toList < x.cps.toList)
theorem r2_leS {K : PySem.W.Frag} : R2D K (fun x y H Q => ∃ i j, x = .str i ∧ y = .str j ∧ Q (.bl (!decide (j.cps.toList < i.cps.toList))) H) (.str x) (.str y) (.bl (leS x y)) := fun v w Hf H Q s r1 r2 k => by
  cases r1; cases r2; exact ⟨x, y, rfl, rfl, k _ Hf H (.refl s) (.bl _)⟩
variable {d1 d2 d3 : Dt}
theorem ee_chain {op op' : CmpOp} {r r' : R2} (ho : OpR X (compareOp op) r) (ho' : OpR X (compareOp op') r') (h1 : R2D X.K r d1 d2 (.bl u)) (h2 : R2D X.K r' d2 d3 (.bl v)) (ha : EE X G dl a d1) (hb : EE X G dl b d2) (hc : EE X G dl c d3) (hm : lastMarks [op, op'] [b, c] = false := by with_unfolding_all rfl) : EE X G dl (.Compare a [op, op'] [b, c] pos) (.bl (u && v)) :=
  peI (pe_chain ho ho' ha hb hc hm) fun st H Q ⟨Hf, S, k⟩ => ⟨Hf, S, fun x Hf1 H1 g1 r1 => ⟨Hf1, S.grow g1, fun y Hf2 H2 g2 r2 => h1 x y Hf2 H2 _ g2.sub (r1.mono g2.frz) r2 fun z Hf3 H3 g3 r3 => by
    cases r3
    refine ⟨u, rfl, ?_⟩
    cases u with
    | false => exact iteF (k _ Hf3 H3 ((g1.trans g2).trans g3) (.bl _))
    | true => exact iteT ⟨Hf3, ((S.grow g1).grow g2).grow g3, fun w Hf4 H4 g4 r4 => h2 y w Hf4 H4 Q g4.sub (r2.mono (g3.frz.trans g4.frz)) r4 fun q Hf5 H5 g5 r5 => k q Hf5 H5 ((((g1.trans g2).trans g3).trans g4).trans g5) r5⟩⟩⟩
theorem ee_leleS (ha : EE X G dl a (.str x)) (hb : EE X G dl b (.str y)) (hc : EE X G dl c (.str z)) (hm : lastMarks [.LtE, .LtE] [b, c] = false := by with_unfolding_all rfl) : EE X G dl (.Compare a [.LtE, .LtE] [b, c] pos) (.bl (leS x y && leS y z)) := ee_chain op_le_str op_le_str r2_leS r2_leS ha hb hc hm
theorem ee_leleI (ha : EE X G dl a (.int i)) (hb : EE X G dl b (.int j)) (hc : EE X G dl c (.int k)) (hm : lastMarks [.LtE, .LtE] [b, c] = false := by with_unfolding_all rfl) : EE X G dl (.Compare a [.LtE, .LtE] [b, c] pos) (.bl (decide (i ≤ j) && decide (j ≤ k))) :=
  ee_chain op_le op_le (r2_I0 (g' := fun i j => .bl (decide (i ≤ j))) fun _ _ _ _ => .bl _) (r2_I0 (g' := fun i j => .bl (decide (i ≤ j))) fun _ _ _ _ => .bl _) ha hb hc hm
end
end Sg
namespace Sg
open PySem PySem.Spec PyProof.Rows L2
section
variable {X : Cx} {G : Gr} {dl : List Slot} {a b e : Expr} {pos p p2 apos cpos : Pos} {k x : Str} {xs : List Str} {ds : List Dt} {bs : List Bool} {ns : List Int} {lo hi : Option Expr} {l u : Option Int}
theorem r2_inL {neg : Bool} : R2D X.K (rIn X.K neg) (.str k) (.lst (xs.map .str)) (.bl (if neg then !decide (k ∈ xs) else decide (k ∈ xs))) := fun v w Hf H Q s r1 r2 kk => by
  cases r1
  cases r2 with
  | @lst q vs _ hq rp =>
    have ev := reps_strs rp
    subst ev
    refine ⟨q, _, rfl, .inl (.of (s _ _ hq)), rfl, flat_strs xs, ?_⟩
    rw [inV_strs]
    exact kk _ Hf H (.refl s) (.bl _)
theorem ee_inL (ha : EE X G dl a (.str k)) (hb : EE X G dl b (.lst (xs.map .str))) (hm : behindInMarks .In b = false := by rfl) : EE X G dl (.Compare a [.In] [b] pos) (.bl (decide (k ∈ xs))) := ee_cmp op_in_seq (r2_inL (neg := false)) hm ha hb
theorem ee_ninL (ha : EE X G dl a (.str k)) (hb : EE X G dl b (.lst (xs.map .str))) (hm : behindInMarks .NotIn b = false := by rfl) : EE X G dl (.Compare a [.NotIn] [b] pos) (.bl (!decide (k ∈ xs))) := ee_cmp op_notIn_seq (r2_inL (neg := true)) hm ha hb
def cutD {α : Type} (xs : List α) (lo hi : Option Int) : List α := (xs.drop (HT.sIx xs.length 0 lo)).take (HT.sIx xs.length xs.length hi - HT.sIx xs.length 0 lo)
theorem reps_cut {K : PySem.W.Frag} {H : Hp} {vs : List V} {ds : List Dt} (r : Reps K H vs ds) (lo hi : Option Int) : Reps K H (cutV vs lo hi) (cutD ds lo hi) := by
  unfold cutV cutD
  rw [r.length]
  exact (r.drop _).take _
theorem eo_slL (he : EE X G dl e (.lst ds)) (hl : EPt X G dl lo l) (hu : EPt X G dl hi u) : EO X G dl (.Subscript e (.Slice lo hi none p2) pos) (.lst (cutD ds l u)) :=
  peI (pe_slice sl_list he hl hu) fun st H Q ⟨Hf, S, k⟩ => ⟨Hf, S, fun v Hf1 H1 g1 r1 => ⟨Hf1, S.grow g1, fun Hf2 H2 g2 => ⟨Hf2, (S.grow g1).grow g2, fun Hf3 H3 g3 => by
    cases r1 with
    | @lst q vs _ hq rp =>
      have g := (g1.trans g2).trans g3
      exact ⟨q, vs, rfl, .of ((g2.trans g3).big _ _ (g1.sub _ _ hq)), fun p hp => k p Hf3 _ (g.trans (.allocO g.sub hp)) (g.big.free hp) (g.sub.free hp) ⟨_, upd_same, reps_cut (rp.mono (g2.frz.trans g3.frz)) l u⟩⟩⟩⟩⟩
theorem range_all (bs : List Bool) : (List.range bs.length).all (fun i => bs.getD i true) = bs.all id := by
  induction bs with
  | nil => rfl
  | cons b r ih =>
    rw [List.length_cons, List.range_succ_eq_map, List.all_cons, List.all_map, List.all_cons]
    show (b && (List.range r.length).all (fun i => r.getD i true)) = (b && r.all id)
    rw [ih]
theorem call_allB (hc : X.calm = true) : CallR X (.builtin "all") (fun xs H Q => ∃ (p : Addr) (bs : List Bool), xs = [.ref p] ∧ SqL X.K H p (bs.map V.bl) ∧ Q (.bl (bs.all id)) H) := by
  intro pins s σ H xs us Q I r h
  obtain ⟨p, bs, rfl, hq, q⟩ := h
  obtain ⟨u, rfl, rx⟩ := vals1 r
  cases rx
  obtain ⟨its, rv, pl, hz⟩ := I.list hq
  have hlen := rv.length
  rw [List.length_map] at hlen
  obtain ⟨o, n, ho, _⟩ := id pl
  have hp : p < s.heap.objs.size := Heap.lt_size ho
  refine call_all_walk (wpAny_pyIter_list pl.isList ?_)
  refine ⟨s.heap.objs.size, _, _, _, _, _, fun i => bs.getD i true, rfl, Walks.list (A := X.A.in1) (I.ok.hd hc) s.heap.objs.size p (Nat.ne_of_lt hp) its.toArray, ⟨⟨_, Heap.get?_push_size _ rfl, rfl, rfl⟩, ?_⟩, fun i v s' Q' E' hv hQ => ?_, fun h' tk hk => ?_⟩
  · exact pl.isList.at fun o e => Heap.get?_push_of_some _ e
  · have hv : its[i]? = some v := by simpa using hv
    have hi : i < its.length := (List.getElem?_eq_some_iff.mp hv).1
    have hib : i < bs.length := by omega
    obtain ⟨u', h1, h2⟩ := rv.get (i := i) (x := V.bl bs[i]) (by rw [List.getElem?_map, List.getElem?_eq_getElem hib]; rfl)
    rw [hv] at h1; cases h1
    cases h2
    have e : bs.getD i true = bs[i] := by rw [List.getD_eq_getElem?_getD, List.getElem?_eq_getElem hib]; rfl
    have hQ : Q' (bs.getD i true) s' := hQ
    rw [e] at hQ
    exact wpAny_truthy_bool hQ
  · have ea : (List.range its.toArray.size).all (fun i => bs.getD i true) = bs.all id := by rw [List.size_toArray, ← hlen]; exact range_all bs
    rw [ea]
    refine ⟨.bl _, H, I.kept (t' := tk) fun b o e => hk b o (fun hm => ?_) (Heap.get?_push_of_some _ e), rfl, q⟩
    have : b = s.heap.objs.size := by simpa using hm
    subst this
    exact Nat.lt_irrefl _ (Heap.lt_size e)
theorem boot_all : bootBuiltins "all" = some (.builtin "all") := by decide +kernel
theorem reps_bls {K : PySem.W.Frag} {H : Hp} : ∀ {bs : List Bool} {vs : List V}, Reps K H vs (bs.map Dt.bl) → vs = bs.map V.bl
  | [], _, .nil => rfl
  | b :: r, _, .cons h t => by cases h; rw [reps_bls t]; rfl
theorem ee_all (hm : X.mg "all" = none) (hc : X.calm = true) (ha : EE X G dl a (.lst (bs.map .bl))) (hg : Gl X "all" := by rfl) (he : starEach [a] X.env = [(false, eval a X.env)] := by rfl) : EE X G dl (.Call (.Name "all" p) [a] [] pos) (.bl (bs.all id)) :=
  peI (pe_callB (call_allB hc) hg hm boot_all (ea_cons ha ea_nil he) (by decide) (by decide) he rfl) fun st H Q ⟨Hf, S, k⟩ => ⟨Hf, S, fun vs Hf1 H1 g1 r1 => by
    cases r1 with
    | cons r t => cases t; cases r with
      | @lst q vs _ z r =>
        have ev := reps_bls r
        subst ev
        exact ⟨q, bs, rfl, .of (g1.sub _ _ z), k _ Hf1 H1 g1 (.bl _)⟩⟩
theorem range_sum (ns : List Int) : ∀ k, k ≤ ns.length → preSum (fun i => ns.getD i 0) k = (ns.take k).sum
  | 0, _ => by simp [preSum]
  | k + 1, h => by
    have hk : k < ns.length := h
    rw [preSum, range_sum ns k (Nat.le_of_lt hk), List.take_add_one, List.getElem?_eq_getElem hk, List.sum_append, List.getD_eq_getElem?_getD, List.getElem?_eq_getElem hk]
    simp
theorem call_sumI (hc : X.calm = true) : CallR X (.builtin "sum") (fun xs H Q => ∃ (p : Addr) (ns : List Int), xs = [.ref p] ∧ SqL X.K H p (ns.map V.int) ∧ Q (.int ns.sum) H) := by
  intro pins s σ H xs us Q I r h
  obtain ⟨p, ns, rfl, hq, q⟩ := h
  obtain ⟨u, rfl, rx⟩ := vals1 r
  cases rx
  obtain ⟨its, rv, pl, hz⟩ := I.list hq
  have hlen := rv.length
  rw [List.length_map] at hlen
  obtain ⟨o, n, ho, _⟩ := id pl
  have hp : p < s.heap.objs.size := Heap.lt_size ho
  refine call_sum_walkAnyS (wpAny_pyIter_list pl.isList ?_)
  refine ⟨s.heap.objs.size, _, _, _, _, _, _, fun i => ns.getD i 0, rfl, (Walks.list (A := X.A.in1) (I.ok.hd hc) s.heap.objs.size p (Nat.ne_of_lt hp) its.toArray).toS, ⟨⟨_, Heap.get?_push_size _ rfl, rfl, rfl⟩, ?_⟩, fun b hb => ?_, fun i v hv => ?_, fun s' t' hm => ?_⟩
  · exact pl.isList.at fun o e => Heap.get?_push_of_some _ e
  · have hsz : (s.heap.push { cls := .type "list_iterator", data := .fields #[.ref p, .int 0 0] }).objs.size = s.heap.objs.size + 1 := Heap.size_push ..
    show b < (s.heap.push { cls := .type "list_iterator", data := .fields #[.ref p, .int 0 0] }).objs.size
    rw [hsz]
    rcases List.mem_cons.mp hb with e | hb
    · rw [e]; exact Nat.lt_succ_self _
    · have : b = p := by simpa using hb
      rw [this]; exact Nat.lt_succ_of_lt hp
  · have hv : its[i]? = some v := by simpa using hv
    have hi : i < its.length := (List.getElem?_eq_some_iff.mp hv).1
    have hib : i < ns.length := by omega
    obtain ⟨u', h1, h2⟩ := rv.get (i := i) (x := V.int ns[i]) (by rw [List.getElem?_map, List.getElem?_eq_getElem hib]; rfl)
    rw [hv] at h1; cases h1
    obtain ⟨t, rfl⟩ := h2
    refine ⟨t, ?_⟩
    show _ = Value.int (ns.getD i 0) t
    rw [List.getD_eq_getElem?_getD, List.getElem?_eq_getElem hib]; rfl
  · have ea : preSum (fun i => ns.getD i 0) its.toArray.size = ns.sum := by
      rw [List.size_toArray, ← hlen, range_sum ns _ (Nat.le_refl _), List.take_length]
    rw [ea]
    refine ⟨.int _, H, ?_, ⟨t', rfl⟩, q⟩
    obtain ⟨h', g', d', tk, os'⟩ := s'
    have e1 : g' = s.gens := hm.gens
    have e2 : d' = s.drawn := hm.drawn
    have e3 : os' = s.os := hm.os
    subst e1 e2 e3
    refine I.kept (t' := tk) fun b o e => hm.heap b o (fun z => ?_) (Heap.get?_push_of_some _ e)
    have : b = s.heap.objs.size := by simpa using z
    subst this
    exact Nat.lt_irrefl _ (Heap.lt_size e)
theorem boot_sum : bootBuiltins "sum" = some (.builtin "sum") := by decide +kernel
theorem reps_ints' {K : PySem.W.Frag} {H : Hp} : ∀ {ns : List Int} {vs : List V}, Reps K H vs (ns.map Dt.int) → vs = ns.map V.int
  | [], _, .nil => rfl
  | b :: r, _, .cons h t => by cases h; rw [reps_ints' t]; rfl
theorem ee_sum (hm : X.mg "sum" = none) (hc : X.calm = true) (ha : EE X G dl a (.lst (ns.map .int))) (hg : Gl X "sum" := by rfl) (he : starEach [a] X.env = [(false, eval a X.env)] := by rfl) : EE X G dl (.Call (.Name "sum" p) [a] [] pos) (.int ns.sum) :=
  peI (pe_callB (call_sumI hc) hg hm boot_sum (ea_cons ha ea_nil he) (by decide) (by decide) he rfl) fun st H Q ⟨Hf, S, k⟩ => ⟨Hf, S, fun vs Hf1 H1 g1 r1 => by
    cases r1 with
    | cons r t => cases t; cases r with
      | @lst q vs _ z r =>
        have ev := reps_ints' r
        subst ev
        exact ⟨q, ns, rfl, .of (g1.sub _ _ z), k _ Hf1 H1 g1 (.int _)⟩⟩
theorem vals_strs : ∀ {xs : List Str} {us : List Value}, Vals (xs.map V.str) us → ∃ l : List (Str × Tok), us = strValues l ∧ l.map (·.1) = xs
  | [], _, .nil => ⟨[], rfl, rfl⟩
  | x :: r, _, .cons h t => by
    obtain ⟨tk, rfl⟩ := h
    obtain ⟨l, rfl, e⟩ := vals_strs t
    exact ⟨(x, tk) :: l, rfl, by rw [List.map_cons, e]⟩
theorem mt_join : MtR X "str.join" (fun x xs H Q => ∃ (z : Str) (p : Addr) (ys : List Str), x = .str z ∧ xs = [.ref p] ∧ SqL X.K H p (ys.map V.str) ∧ JoinOk z ys = true ∧ Q (.str (Txt.join z ys)) H) := by
  intro pins s σ H x xs v us Q I rx rv ⟨z, p, ys, e1, e2, hq, hok, q⟩
  subst e1 e2
  obtain ⟨t, rfl⟩ := (show ∃ t, v = Value.str z t from rx)
  obtain ⟨u, rfl, ru⟩ := vals1 rv
  cases ru
  obtain ⟨its, r, pl, hz⟩ := I.list hq
  obtain ⟨l, rfl, el⟩ := vals_strs r
  exact SC.join pl.isList el hok fun t' k => ⟨.str (Txt.join z ys), H, I.tok _, ⟨t', rfl⟩, q⟩
theorem ee_join (ha : EE X G dl a (.str x)) (he : EE X G dl e (.lst (xs.map .str))) (hok : JoinOk x xs = true) (hbase : attributeBase a "join" X.env (eval a X.env) = eval a X.env := by rfl)
    (hfew : ((backTo cpos (starEach [e] X.env)).all (fun x => !x.1) && (backToKw cpos (keywordEach [] X.env)).all (fun x => x.1.isSome) && decide ([e].length + ([] : List Keyword).length + (if ([] : List Keyword).isEmpty then 0 else 1) < 30)) = true := by rfl)
    (hline : (apos.endLine == cpos.line) = true := by rfl) (hst : starEach [e] X.env = (false, eval e X.env) :: starEach [] X.env := by rfl) : EE X G dl (.Call (.Attribute a "join" apos) [e] [] cpos) (.str (Txt.join x xs)) :=
  peI (pe_bm PySem.F.plainAttrs_str PySem.F.slot_str_join PySem.F.type_str_join mt_join ha (ea_cons he ea_nil hst) hbase hfew hline hst rfl) fun st H Q ⟨Hf, S, k⟩ => ⟨Hf, S, fun v Hf1 H1 g1 r1 => by
    cases r1
    refine ⟨rfl, Hf1, S.grow g1, fun us Hf2 H2 g2 r2 => ?_⟩
    cases r2 with
    | cons r2 t2 => cases t2; cases r2 with
      | @lst q vs _ hq rp =>
        have ev := reps_strs rp
        subst ev
        exact ⟨x, q, xs, rfl, rfl, .of (g2.sub _ _ hq), hok, k _ Hf2 H2 (g1.trans g2) (.str _)⟩⟩
end
end Sg
namespace Sg
open PySem PySem.Spec PyProof.Rows L2
def valD (kds : List (Key × Dt)) (k : Key) : Option Dt := (kds.find? fun kv => decide (kv.1 = k)).map (·.2)
theorem valD_pos {p : Key × Dt} {r : List (Key × Dt)} {k : Key} (e : p.1 = k) : valD (p :: r) k = some p.2 := by simp [valD, List.find?_cons, e]
theorem valD_neg {p : Key × Dt} {r : List (Key × Dt)} {k : Key} (e : ¬ p.1 = k) : valD (p :: r) k = valD r k := by simp [valD, List.find?_cons, e]
theorem RepK.val {K : PySem.W.Frag} {H : Hp} {k : Key} : ∀ {kvs : List (Key × V)} {kds : List (Key × Dt)} {d : Dt}, RepK K H kvs kds → valD kds k = some d → ∃ v, valV kvs k = some v ∧ Rep K H v d
  | _, _, _, .nil, e => by cases e
  | (k1, v1) :: r, (_, d1) :: s, d, .cons h t, e => by
    by_cases q : k1 = k
    · rw [valD_pos (p := (k1, d1)) q] at e; cases e
      exact ⟨v1, valV_pos (p := (k1, v1)) q, h⟩
    · rw [valD_neg (p := (k1, d1)) q] at e
      obtain ⟨v, z1, z2⟩ := RepK.val t e
      exact ⟨v, by rw [valV_neg (p := (k1, v1)) q]; exact z1, z2⟩
theorem RepK.noVal {K : PySem.W.Frag} {H : Hp} {k : Key} : ∀ {kvs : List (Key × V)} {kds : List (Key × Dt)}, RepK K H kvs kds → (valV kvs k).isSome = (valD kds k).isSome
  | _, _, .nil => rfl
  | (k1, v1) :: r, (_, d1) :: s, .cons h t => by
    by_cases q : k1 = k
    · rw [valV_pos (p := (k1, v1)) q, valD_pos (p := (k1, d1)) q]; rfl
    · rw [valV_neg (p := (k1, v1)) q, valD_neg (p := (k1, d1)) q]
      exact RepK.noVal t
theorem RepK.snoc {K : PySem.W.Frag} {H : Hp} {k : Key} {v : V} {d : Dt} (q : Rep K H v d) : ∀ {kvs : List (Key × V)} {kds : List (Key × Dt)}, RepK K H kvs kds → RepK K H (kvs ++ [(k, v)]) (kds ++ [(k, d)])
  | _, _, .nil => .cons q .nil
  | _, _, .cons h t => .cons h (RepK.snoc q t)
theorem put_new {kvs : List (Key × V)} {k : Key} {v : V} (h : (valV kvs k).isSome = false) : putK kvs k v = kvs ++ [(k, v)] := by
  unfold putK
  rw [valV_any, h]
  exact if_neg (by simp)
section
variable {X : Cx} {G : Gr} {E : XK} {dl : List Slot} {a b e i o : Expr} {d : Dt} {pos p : Pos} {k x : Str} {kds : List (Key × Dt)}
theorem ee_dget (hu : X.A.units + 1 < cLine) (ho : EE X G dl o (.dic kds)) (hi : EE X G dl i (.str k)) (h : valD kds (.inr k) = some d) (hs : NoSl i) : EE X G dl (.Subscript o i pos) d :=
  peI (pe_dget hu ho hi hs) fun st H Q ⟨Hf, S, kk⟩ => ⟨Hf, S, fun v Hf1 H1 g1 r1 => ⟨Hf1, S.grow g1, fun w Hf2 H2 g2 r2 => by
    cases r2
    cases r1 with
    | @dic q kvs _ hq rp =>
      obtain ⟨y, z1, z2⟩ := rp.val h
      have e := DGet.k (H := H2) (k := .inr k) (g2.big _ _ (g1.sub _ _ hq))
      rw [z1] at e
      exact ⟨q, y, rfl, e, kk y Hf2 H2 (g1.trans g2) (z2.mono g2.frz)⟩⟩⟩
theorem tdin {neg : Bool} : ∀ st H Q, tD X.K G dl (.bl (if neg then !(valD kds (.inr k)).isSome else (valD kds (.inr k)).isSome)) st H Q → (if neg then tDNotIn (tD X.K G dl (.str k)) (tD X.K G dl (.dic kds)) else tDIn (tD X.K G dl (.str k)) (tD X.K G dl (.dic kds))) st H Q := fun st H Q ⟨Hf, S, kk⟩ => by
  cases neg with
  | false => exact ⟨Hf, S, fun v Hf1 H1 g1 r1 => ⟨Hf1, S.grow g1, fun w Hf2 H2 g2 r2 => by
      cases r1
      cases r2 with
      | @dic q kvs _ hq rp => exact ⟨q, _, rfl, DGet.k (k := .inr k) (g2.sub _ _ hq), by rw [rp.noVal]; exact kk _ Hf2 H2 (g1.trans g2) (.bl _)⟩⟩⟩
  | true => exact ⟨Hf, S, fun v Hf1 H1 g1 r1 => ⟨Hf1, S.grow g1, fun w Hf2 H2 g2 r2 => by
      cases r1
      cases r2 with
      | @dic q kvs _ hq rp => exact ⟨q, _, rfl, DGet.k (k := .inr k) (g2.sub _ _ hq), by rw [rp.noVal]; exact kk _ Hf2 H2 (g1.trans g2) (.bl _)⟩⟩⟩
theorem eb_ninD (hu : X.A.units + 1 < cLine) (hi : EE X G dl i (.str k)) (ho : EE X G dl o (.dic kds)) (hm : behindInMarks .NotIn o = false := by rfl) : EB X G dl (.Compare i [.NotIn] [o] pos) (!(valD kds (.inr k)).isSome) :=
  ptI (pt_cmp (pc_dnotin hu hi ho) hm) fun st H Q ⟨Hf, S, kk⟩ => tdin (neg := true) st H _ ⟨Hf, S, fun v Hf' H' g r => by cases r; exact ⟨_, rfl, kk Hf' H' g⟩⟩
theorem boot_tuple' : bootBuiltins "tuple" = some (.type "tuple") := by decide +kernel
theorem ee_tupT {ds : List Dt} (hm : X.mg "tuple" = none) (ha : EE X G dl a (.tup ds)) (hg : Gl X "tuple" := by rfl) (he : starEach [a] X.env = [(false, eval a X.env)] := by rfl) : EE X G dl (.Call (.Name "tuple" p) [a] [] pos) (.tup ds) :=
  peI (pe_callTy call_tupleT hg hm boot_tuple' (ea_cons ha ea_nil he) (he := he)) fun st H Q ⟨Hf, S, k⟩ => ⟨Hf, S, fun vs Hf1 H1 g1 r1 => by
    cases r1 with
    | cons r t => cases t; cases r with
      | @tup q vs _ z r => exact ⟨q, vs, rfl, SqT_same g1.sub z, k _ Hf1 H1 g1 (.tup z r)⟩⟩
theorem eo_dnew : EO X G dl (.Dict [] [] pos) (.dic []) := peI pe_dnewK fun st H Q ⟨Hf, S, k⟩ => fun p hp => k p Hf _ (.allocO S.sub hp) hp (S.sub.free hp) ⟨[], upd_same, .nil⟩
def putKD (kds : List (Key × Dt)) (k : Key) (v : Dt) : List (Key × Dt) :=
  if (valD kds k).isSome = true then kds.map (fun kv => if kv.1 = k then (kv.1, v) else kv) else kds ++ [(k, v)]
theorem RepK.map_put {K : PySem.W.Frag} {H : Hp} {k : Key} {v : V} {d : Dt} (q : Rep K H v d) : ∀ {kvs : List (Key × V)} {kds : List (Key × Dt)}, RepK K H kvs kds →
    RepK K H (kvs.map fun kv => if kv.1 = k then (kv.1, v) else kv) (kds.map fun kv => if kv.1 = k then (kv.1, d) else kv)
  | _, _, .nil => .nil
  | (k1, v1) :: r, (_, d1) :: s, .cons h t => by
    rw [List.map_cons, List.map_cons]
    by_cases e : k1 = k
    · rw [if_pos e, if_pos e]; exact .cons q (RepK.map_put q t)
    · rw [if_neg e, if_neg e]; exact .cons h (RepK.map_put q t)
theorem RepK.put {K : PySem.W.Frag} {H : Hp} {k : Key} {v : V} {d : Dt} {kvs : List (Key × V)} {kds : List (Key × Dt)} (q : Rep K H v d) (r : RepK K H kvs kds) : RepK K H (putK kvs k v) (putKD kds k d) := by
  unfold putK putKD
  rw [valV_any, r.noVal]
  by_cases h : (valD kds k).isSome = true
  · rw [if_pos h, if_pos h]; exact RepK.map_put q r
  · rw [if_neg h, if_neg h]; exact RepK.snoc q r
theorem es_dput (n : Nat) {ps pn : Pos} (hu : X.A.units + 1 < cLine) (he : EE X G dl e d) (hb : EE X G dl b (.str k)) (hl : kds.length < sizeLine) (hd : dl[n]? = some (.own (.dic kds)) := by rfl) (hN : X.N[n]? = some x := by rfl) (hv : Vis X.env.scope x := by first | exact Or.inl rfl | exact Or.inr (Or.inl rfl) | exact Or.inr (Or.inr rfl)) (hdb : (x == ("__debug__" : Str)) = false := by decide) (hcd : (x == ("__classdict__" : Str)) = false := by decide) (hs : swapsWith e (some (.Subscript (.Name x pn) b ps)) pos.line X.env = pure false := by rfl) : ES X G E dl (.Assign [.Subscript (.Name x pn) b ps] e pos) (.nx (dl.set n (.own (.dic (putKD kds (.inr k) d))))) :=
  psI (ps_dput hu (pe_ov (p := pn) n hd hN hv hdb hcd) hb he hs) fun D st H ⟨Hf, S, kk⟩ => ⟨Hf, S, fun v Hf1 H1 g1 r1 => by
    have S1 := S.grow g1
    obtain ⟨q, z1, z2, z3, z4⟩ := S1.own n _ hd
    refine ⟨Hf1, q, S1, z1, z2, z4, Hf1, S1, fun iv Hf2 H2 g2 r2 => ?_⟩
    cases r2
    have S2 := S1.grow g2
    obtain ⟨q', y1, y2, y3, kvs, y4, y5⟩ := S2.own n _ hd
    rw [z1] at y1; cases y1
    have hll : kvs.length < sizeLine := by rw [y5.length]; exact hl
    exact ⟨q, _, rfl, DPut.k (k := .inr k) y4 hll, kk st Hf2 _ (g1.frz.trans g2.frz) (S2.updO hd z1 ⟨_, upd_same, y5.put (r1.mono g2.frz)⟩)⟩⟩
def rowsD (rows : List (Str × List Dt)) : List (Key × Dt) := rows.map fun r => (.inr r.1, .tup (.str r.1 :: r.2))
def rowD (r : Str × List Dt) : Dt := .tup (.str r.1 :: r.2)
theorem valD_none {k : Key} : ∀ {kds : List (Key × Dt)}, (∀ kv ∈ kds, kv.1 ≠ k) → valD kds k = none
  | [], _ => rfl
  | kv :: r, h => by
    rw [valD_neg (h kv (List.mem_cons_self ..))]
    exact valD_none fun z hz => h z (List.mem_cons_of_mem _ hz)
theorem rows_new {rows : List (Str × List Dt)} (nd : (rows.map (·.1)).Nodup) {j : Nat} (hj : j < rows.length) : valD (rowsD (rows.take j)) (.inr rows[j].1) = none := by
  refine valD_none fun kv hkv => ?_
  obtain ⟨r, hr, rfl⟩ := List.mem_map.mp hkv
  intro z
  have z : r.1 = rows[j].1 := Sum.inr.inj z
  obtain ⟨i, hi, e⟩ := List.mem_iff_getElem.mp hr
  have hi' : i < j := by
    rw [List.length_take] at hi; omega
  rw [List.getElem_take] at e
  have hij : i < rows.length := by omega
  have h := List.pairwise_iff_getElem.mp nd i j (by rw [List.length_map]; exact hij) (by rw [List.length_map]; exact hj) hi'
  rw [List.getElem_map, List.getElem_map] at h
  exact h (by rw [e]; exact z)
theorem rowsD_take (rows : List (Str × List Dt)) {j : Nat} (hj : j < rows.length) : rowsD (rows.take (j + 1)) = rowsD (rows.take j) ++ [(.inr rows[j].1, rowD rows[j])] := by
  unfold rowsD
  rw [List.take_add_one, List.getElem?_eq_getElem hj, List.map_append]; rfl
theorem Grow.keepNone {Hf H Hf' H' : Hp} {a : Addr} {u : HO} (g : Grow Hf H Hf' H') (n : Hf a = none) (h : H a = some u) (nk : ¬ Kept u := by exact fun z => z) : Hf' a = none := by
  cases q : Hf' a with
  | none => rfl
  | some o =>
    obtain ⟨o', z⟩ := g.notNew h nk q
    rw [n] at z; cases z
theorem stt_upd {K : PySem.W.Frag} {st : L2.St} {Hf H : Hp} {dlu : List Slot} {p : Addr} {o : HO} (S : Stt K G st Hf H dlu) (hno : noOwn dlu = true) (fp : Hf p = none) (gp : G.H p = none) : Stt K G st Hf (upd H p o) dlu :=
  ⟨⟨fun b u e => by rw [upd_ne (ne_of_none e gp)]; exact S.gr.big _ _ e, S.gr.frz, fun b u e => by rw [upd_ne (ne_of_none e fp)]; exact S.sub _ _ e, S.gr.new⟩, S.len, S.val, fun j o h => absurd h (noOwn_of hno j o), fun j _ o _ _ h => absurd h (noOwn_of hno j o)⟩
theorem ess_fill (nR nN : Nat) {C z : Addr} {fs : List (Str × Dt)} {rows : List (Str × List Dt)} {f self rw_ rn : Str} {px pr pa pn p1 p3 p4 p5 p6 pi : Pos} {ie ve : Expr} {dlu : List Slot} (hu : X.A.units + 1 < cLine) (hN : X.N.Nodup) (hcalm : X.calm = true) (hp : PassesOwn (model X.prog X.w) X.A X.env X.xe) (cl : Cls X.K C) (na : NoAttr X.K C f) (hd : dl[0]? = some (.own (.slf z C fs))) (edl : dl.set 0 .unk = dlu) (hno : noOwn dlu = true) (hr : dlu[nR]? = some (.val (.lst (rows.map rowD)))) (hn0 : nN ≠ 0) (hnR : nN ≠ nR) (hun : dlu[nN]? = some .unk) (nd : (rows.map (·.1)).Nodup) (hlen : rows.length < sizeLine) (hi : ∀ r : Str × List Dt, EE X G (dlu.set nN (.val (rowD r))) ie (.str r.1)) (hv : ∀ r : Str × List Dt, EE X G (dlu.set nN (.val (rowD r))) ve (rowD r)) (hl : Nat.ble fs.length 999 = true := by rfl) (hN0 : X.N[0]? = some self := by rfl) (hNr : X.N[nR]? = some rn := by rfl) (hNn : X.N[nN]? = some rw_ := by rfl) (hvs : Vis X.env.scope self := by first | exact Or.inl rfl | exact Or.inr (Or.inl rfl) | exact Or.inr (Or.inr rfl)) (hvr : Vis X.env.scope rn := by first | exact Or.inl rfl | exact Or.inr (Or.inl rfl) | exact Or.inr (Or.inr rfl)) (hdb : (self == ("__debug__" : Str)) = false := by decide) (hcd : (self == ("__classdict__" : Str)) = false := by decide) (hdb2 : (rn == ("__debug__" : Str)) = false := by decide) (hcd2 : (rn == ("__classdict__" : Str)) = false := by decide) (hx : Loc X.env.scope rw_ := by first | exact Or.inl rfl | exact Or.inr rfl) (hf : X.fn rw_ = true ∨ X.env.scope.names.lookup rw_ = some .local := by first | exact .inl rfl | exact .inr rfl | assumption) (hs1 : swapsWith (.Dict [] [] p1) (some (.Attribute (.Name self pn) f pa)) pos.line X.env = pure false := by rfl) (hs2 : swapsWith ve (some (.Subscript (.Attribute (.Name self p3) f p4) ie p5)) p6.line X.env = pure false := by rfl) (hb : attributeBase (.Name self p3) f X.env (eval (.Name self p3) X.env) = eval (.Name self p3) X.env := by rfl) (hfs : ∀ z, foldedSetIterable (.Name rn pr) X.env z = pure z := by intro _; rfl) : ESs X G E dl [.Assign [.Attribute (.Name self pn) f pa] (.Dict [] [] p1) pos, .For (.Name rw_ px) (.Name rn pr) [.Assign [.Subscript (.Attribute (.Name self p3) f p4) ie p5] ve p6] [] pi] (.nx (dlu.set 0 (.own (.slf z C (putD f (.dic (rowsD rows)) fs))))) := by
  have hself : ∀ {p : Pos}, PE X (.Name self p) fun st H Q => ∃ v, st[0]? = some (some v) ∧ Q v H := fun {p} => pe_var hN0 hvs hdb hcd
  have hbody := pss_one (ps_dput (pos := p6) (pos' := p5) hu (pe_fld (pos := p4) (hself (p := p3)) hb) (fun pins s st H Q I (q : ∃ r, tD X.K G (dlu.set nN (.val (rowD r))) (.str r.1) st H Q) => let ⟨r, q⟩ := q; hi r pins s st H Q I q) (fun pins s st H Q I (q : ∃ r, tD X.K G (dlu.set nN (.val (rowD r))) (rowD r) st H Q) => let ⟨r, q⟩ := q; hv r pins s st H Q I q) hs2)
  refine pssI (pss_cons (ps_fld (pos := pos) (pos' := pa) (hself (p := pn)) pe_dnewK hs1) (pss_one (ps_for hp hcalm (pi_list (pe_var (pos := pr) hNr hvr hdb2 hcd2)) (pg_name hN hNn hx hf) hbody hfs))) fun D st H ⟨Hf, S, k⟩ => ?_
  obtain ⟨a, sa, fa, ga, ea, dx, fv, ha, rf⟩ := S.own 0 _ hd
  intro p hp0
  have hpa : a ≠ p := ne_of_none ha hp0
  have fp : Hf p = none := S.sub.free hp0
  have gp : G.H p = none := S.gr.big.free hp0
  have ha1 : (upd H p (.dK [])) a = some (.ins C dx fv) := by rw [upd_ne hpa]; exact ha
  refine ⟨.ref a, sa, a, C, dx, fv, rfl, ha1, cl, na, by rw [rf.length]; exact Nat.lt_succ_of_le (Nat.le_of_ble_eq_true hl), ?_⟩
  have S0 : Stt X.K G st Hf H dlu := by
    subst edl
    refine ⟨S.gr, by simp [S.len], fun j d h => ?_, fun j o h => absurd h (noOwn_of hno j o), fun j _ o _ _ h => absurd h (noOwn_of hno j o)⟩
    by_cases e : 0 = j
    · subst e
      by_cases hl0 : 0 < dl.length
      · rw [List.getElem?_set_self hl0] at h; cases h
      · exact absurd (List.getElem?_eq_some_iff.mp hd).1 hl0
    · rw [List.getElem?_set_ne e] at h; exact S.val j d h
  have Su : Stt X.K G st Hf (upd (upd H p (.dK [])) a (.ins C dx (putF f (.ref p) fv))) dlu := stt_upd (stt_upd S0 hno fp gp) hno fa ga
  obtain ⟨lv, hl1, hl2⟩ := Su.val nR _ hr
  cases hl2 with
  | @lst la vs _ hq rp =>
    have hvl : vs.length = rows.length := by rw [rp.length, List.length_map]
    refine ⟨.ref la, hl1, la, rfl, ⟨vs, .of (Su.sub _ _ hq)⟩, for_list (xs := vs) (fun j st' H' => ∃ Hf' kvs, Stt X.K G st' Hf' H' dlu ∧ Same Hf Hf' ∧ st'[0]? = some (some (.ref a)) ∧ Hf' a = none ∧ Hf' p = none ∧ H' a = some (.ins C dx (putF f (.ref p) fv)) ∧ H' p = some (.dK kvs) ∧ RepK X.K Hf' kvs (rowsD (rows.take j)))
      ⟨Hf, [], Su, Same.refl _, sa, fa, fp, upd_same, by rw [upd_ne (Ne.symm hpa)]; exact upd_same, by rw [List.take_zero]; exact .nil⟩ ?_ ?_ ?_⟩
    · rintro j st' H' _ ⟨Hf', kvs, S', sm, _⟩
      exact .of (S'.sub _ _ (sm _ _ hq))
    · rintro j v st' H' hv' ⟨Hf', kvs, S', sm, s0, fa', fp', ha', hp', rk⟩
      obtain ⟨dz, hz, rz⟩ := rp.get' hv'
      have hj : j < rows.length := by
        have := (List.getElem?_eq_some_iff.mp hv').1
        omega
      rw [List.getElem?_map, List.getElem?_eq_getElem hj] at hz
      cases hz
      have Sp : Stt X.K G (st'.set nN (some v)) Hf' H' (dlu.set nN (.val (rowD rows[j]))) := S'.set (rz.mono sm)
      have s0' : (st'.set nN (some v))[0]? = some (some (.ref a)) := by rw [List.getElem?_set_ne hn0]; exact s0
      refine ⟨rows[j], Hf', Sp, fun w Hf1 H1 g1 r1 => ⟨.ref a, s0', a, C, dx, _, .ref p, rfl, g1.big _ _ ha', cl, na, by rw [lookup_putF, if_pos rfl], rows[j], Hf1, Sp.grow g1, fun y Hf2 H2 g2 r2 => ?_⟩⟩
      cases r2
      have g := g1.trans g2
      have hp2 : H2 p = some (.dK kvs) := g.big _ _ hp'
      have ha2 : H2 a = some (.ins C dx (putF f (.ref p) fv)) := g.big _ _ ha'
      have fp2 : Hf2 p = none := g.keepNone fp' hp'
      have fa2 : Hf2 a = none := g.keepNone fa' ha'
      have rk2 := rk.mono g.frz
      have hkl : kvs.length < sizeLine := by
        rw [rk.length]
        unfold rowsD
        rw [List.length_map, List.length_take]; omega
      have hnew : (valV kvs (.inr rows[j].1)).isSome = false := by rw [rk.noVal, rows_new nd hj]; rfl
      have Sw : Stt X.K G (st'.set nN (some v)) Hf2 H2 dlu := (Sp.grow g).weak ⟨by simp, fun i s e n => by
        by_cases hi : nN = i
        · subst hi; rw [hun] at e; cases e; exact absurd rfl n
        · rw [List.getElem?_set_ne hi]; exact e⟩
      refine ⟨p, _, rfl, DPut.k (k := .inr rows[j].1) hp2 hkl, Hf2, _, stt_upd Sw hno fp2 gp, sm.trans g.frz, s0', fa2, fp2, by rw [upd_ne hpa]; exact ha2, upd_same, ?_⟩
      rw [put_new hnew, rowsD_take rows hj]
      exact rk2.snoc (r1.mono g2.frz)
    · rintro st' H' ⟨Hf', kvs, S', sm, s0, fa', fp', ha', hp', rk⟩
      rw [hvl, List.take_length] at rk
      have smp : Same Hf' (upd Hf' p (.dK kvs)) := same_upd fp'
      have l0 : 0 < dlu.length := by
        rw [← S'.len]
        exact (List.getElem?_eq_some_iff.mp s0).1
      refine k st' (upd Hf' p (.dK kvs)) H' (sm.trans smp) ⟨⟨S'.gr.big, S'.gr.frz.trans smp, fun b u e => ?_, fun b u e => ?_⟩, by simp [S'.len], fun j d h => ?_, fun j o h => ?_, fun i j o o' q h1 h2 h3 h4 => ?_⟩
      · by_cases hb : b = p
        · subst hb; rw [upd_same] at e; cases e; exact hp'
        · rw [upd_ne hb] at e; exact S'.sub _ _ e
      · by_cases hb : b = p
        · subst hb; exact .inr (.inl gp)
        · rw [upd_ne hb] at e; exact S'.gr.new b u e
      · by_cases e : 0 = j
        · subst e; rw [List.getElem?_set_self l0] at h; cases h
        · rw [List.getElem?_set_ne e] at h
          obtain ⟨v, z1, z2⟩ := S'.val j d h
          exact ⟨v, z1, z2.mono smp⟩
      · by_cases e : 0 = j
        · subst e
          rw [List.getElem?_set_self l0] at h; cases h
          exact ⟨a, s0, by rw [upd_ne hpa]; exact fa', ga, ea, dx, _, ha', (rf.mono (sm.trans smp)).put (.dic upd_same (rk.mono smp))⟩
        · rw [List.getElem?_set_ne e] at h; exact absurd h (noOwn_of hno j o)
      · have z : ∀ (i : Nat) o, (dlu.set 0 (.own (.slf z C (putD f (.dic (rowsD rows)) fs))))[i]? = some (.own o) → 0 = i := fun i o h => by
          by_cases e : 0 = i
          · exact e
          · rw [List.getElem?_set_ne e] at h; exact absurd h (noOwn_of hno i o)
        rw [← z i o h1, ← z j o' h2]
end
end Sg
namespace Sg
open PySem PySem.Spec PyProof.Rows L2
theorem vals_of : ∀ {xs : List V} {us : List Value}, xs.length = us.length → (∀ (j : Nat) x u, xs[j]? = some x → us[j]? = some u → RelV x u) → Vals xs us
  | [], [], _, _ => .nil
  | [], _ :: _, h, _ => by cases h
  | _ :: _, [], h, _ => by cases h
  | x :: xs, u :: us, h, f => .cons (f 0 x u rfl rfl) (vals_of (Nat.succ.inj h) fun j a b h1 h2 => f (j + 1) a b (by simpa using h1) (by simpa using h2))
theorem kv_get : ∀ {kvs : List (Key × V)} {vs : List (Key × Value)}, KV kvs vs → ∀ {j : Nat} {q : Key × Value}, vs[j]? = some q → ∃ p, kvs[j]? = some p ∧ p.1 = q.1 ∧ RelV p.2 q.2
  | _, _, .nil, j, q, h => by simp at h
  | _, _, .cons r t, 0, q, h => by simp at h; subst h; exact ⟨_, rfl, r⟩
  | _, _, .cons r t, j + 1, q, h => by
    obtain ⟨p, h1, h2⟩ := kv_get t (j := j) (q := q) (by simpa using h)
    exact ⟨p, by simpa using h1, h2⟩
theorem kv_len : ∀ {kvs : List (Key × V)} {vs : List (Key × Value)}, KV kvs vs → kvs.length = vs.length
  | _, _, .nil => rfl
  | _, _, .cons r t => congrArg (· + 1) (kv_len t)
section
variable {X : Cx} {G : Gr} {dl : List Slot} {a o : Expr} {kds : List (Key × Dt)} {pos p apos cpos : Pos}
theorem call_listD (hc : X.calm = true) : CallR X (.type "list") (fun xs H Q => ∃ (d : Addr) (kvs : List (Key × V)), xs = [.ref d] ∧ H d = some (.dK kvs) ∧ ∀ l, H l = none → Q (.ref l) (upd H l (.lst (kvs.map fun kv => kV kv.1)))) := by
  intro pins s σ H xs us Q I r h
  obtain ⟨d, kvs, rfl, hq, q⟩ := h
  obtain ⟨u, rfl, rx⟩ := vals1 r
  cases rx
  obtain ⟨hz, lo, vs, kv, o, es, ep, ho, hr⟩ := I.hok d _ hq
  have hl := kv_len kv
  refine PySem.W.kdl_call (PySem.W.kdl_dict (knd := mixKind X.prog X.w) (kvs := vs) (ep := ep) lo) (I.ok.hd hc) ⟨o, es, ho, hr⟩ (by omega) fun h' tk acc' c' kp e it => ?_
  refine ⟨.ref s.heap.objs.size, _, I.laid (t' := tk) kp (Nat.le_refl _) (show ObjOk X.prog X.w _ h' _ (.lst _) from ⟨by rw [List.length_map]; exact hz, acc'.toList, c', vals_of ?_ fun j x u h1 h2 => ?_, e⟩), rfl, q _ (I.hok.fresh (Nat.le_refl _))⟩
  · have e1 : acc'.toList.length = vs.length := by rw [Array.length_toList]; exact it.1
    rw [List.length_map, e1, hl]
  · rw [Array.getElem?_toList] at h2
    obtain ⟨k, y, z1, z2⟩ := it.2 j u h2
    obtain ⟨p, z3, z4, _⟩ := kv_get kv z1
    rw [List.getElem?_map, z3] at h1
    cases h1
    have z4 : p.1 = k := z4
    show RelV (kV p.1) u
    rw [z4]
    rcases keyIs_shape z2 with ⟨i, t, rfl, rfl⟩ | ⟨i, t, rfl, rfl⟩
    · exact ⟨t, rfl⟩
    · exact ⟨t, rfl⟩
def kD : Key → Dt
  | .inl i => .int i
  | .inr x => .str x
theorem reps_keys {K : PySem.W.Frag} {H : Hp} : ∀ {kvs : List (Key × V)} {kds : List (Key × Dt)}, RepK K H kvs kds → Reps K H (kvs.map fun kv => kV kv.1) (kds.map fun kd => kD kd.1)
  | _, _, .nil => .nil
  | (.inl i, _) :: _, _, .cons _ t => .cons (.int i) (reps_keys t)
  | (.inr i, _) :: _, _, .cons _ t => .cons (.str i) (reps_keys t)
theorem eo_listD (hm : X.mg "list" = none) (hc : X.calm = true) (ha : EE X G dl a (.dic kds)) (hg : Gl X "list" := by rfl) (he : starEach [a] X.env = [(false, eval a X.env)] := by rfl) : EO X G dl (.Call (.Name "list" p) [a] [] pos) (.lst (kds.map fun kd => kD kd.1)) :=
  peI (pe_callTy (call_listD hc) hg hm boot_list (ea_cons ha ea_nil he) (he := he)) fun st H Q ⟨Hf, S, k⟩ => ⟨Hf, S, fun vs Hf1 H1 g1 r1 => by
    cases r1 with
    | cons r t => cases t; cases r with
      | @dic q kvs _ z r => exact ⟨q, kvs, rfl, g1.sub _ _ z, fun l hl => k l Hf1 _ (g1.trans (.allocO g1.sub hl)) (g1.big.free hl) (g1.sub.free hl) ⟨_, upd_same, reps_keys r⟩⟩⟩
end
end Sg
namespace Sg
open PySem PySem.Spec PyProof.Rows L2
section
variable {K : PySem.W.Frag}
end
section
variable {X : Cx} {N tn : List Str} {ix : List Nat} {sc : Scope} {x y z : Str} {px py pz p : Pos}
end
section
variable {X : Cx} {G : Gr} {E : XK} {dl : List Slot} {e a b : Expr} {d1 d2 d3 : Dt} {pos p : Pos} {u : Bool}
theorem es_unp3 (n1 n2 n3 : Nat) {a b c : Str} {pa pb pc tp : Pos} {cx : Nat} (hN : X.N.Nodup) (hc : X.calm = true) (he : EE X G dl e (.tup [d1, d2, d3])) (hi1 : X.N[n1]? = some a := by rfl) (hi2 : X.N[n2]? = some b := by rfl) (hi3 : X.N[n3]? = some c := by rfl) (hx1 : Loc X.env.scope a := by first | exact Or.inl rfl | exact Or.inr rfl) (hx2 : Loc X.env.scope b := by first | exact Or.inl rfl | exact Or.inr rfl) (hx3 : Loc X.env.scope c := by first | exact Or.inl rfl | exact Or.inr rfl) (hf1 : X.fn a = true ∨ X.env.scope.names.lookup a = some .local := by first | exact .inl rfl | exact .inr rfl) (hf2 : X.fn b = true ∨ X.env.scope.names.lookup b = some .local := by first | exact .inl rfl | exact .inr rfl) (hf3 : X.fn c = true ∨ X.env.scope.names.lookup c = some .local := by first | exact .inl rfl | exact .inr rfl) (hn : (assignEach [.Name a pa, .Name b pb, .Name c pc] X.env).length = 3 := by rfl) (hst : (assignEach [.Name a pa, .Name b pb, .Name c pc] X.env).findIdx? (·.1) = none := by rfl) (q1 : (assignEach [.Name a pa, .Name b pb, .Name c pc] X.env).map (·.2) = assign (.Name a pa) X.env :: (assignEach [.Name b pb, .Name c pc] X.env).map (·.2) := by rfl) (q2 : (assignEach [.Name b pb, .Name c pc] X.env).map (·.2) = assign (.Name b pb) X.env :: (assignEach [.Name c pc] X.env).map (·.2) := by rfl) (q3 : (assignEach [.Name c pc] X.env).map (·.2) = assign (.Name c pc) X.env :: (assignEach [] X.env).map (·.2) := by rfl) (hs : swapsWithSole [.Tuple [.Name a pa, .Name b pb, .Name c pc] cx tp] e pos.line X.env = pure false := by rfl) (hw : swappedStores [.Tuple [.Name a pa, .Name b pb, .Name c pc] cx tp] e X.env = pure none := by rfl) (h1 : (assignEach [.Tuple [.Name a pa, .Name b pb, .Name c pc] cx tp] X.env).map (·.2) = [assign (.Tuple [.Name a pa, .Name b pb, .Name c pc] cx tp) X.env] := by rfl) : ES X G E dl (.Assign [.Tuple [.Name a pa, .Name b pb, .Name c pc] cx tp] e pos) (.nx (((dl.set n1 (.val d1)).set n2 (.val d2)).set n3 (.val d3))) :=
  psI (ps_asg he (pg_tup hc (pgs_cons (pg_name (pos := pa) hN hi1 hx1 hf1) (pgs_cons (pg_name (pos := pb) hN hi2 hx2 hf2) (pgs_cons (pg_name (pos := pc) hN hi3 hx3 hf3) pgs_nil q3) q2) q1) hn hst) hs hw h1) fun D st H ⟨Hf, S, k⟩ => ⟨Hf, S, fun v Hf1 H1 g1 r1 => by
    cases r1 with
    | @tup q vs _ hq rp =>
      cases rp with
      | cons r1 t1 => cases t1 with
        | cons r2 t2 => cases t2 with
          | cons r3 t3 =>
            cases t3
            exact ⟨q, _, rfl, SqT_same g1.sub hq, rfl, _, _, rfl, _, _, rfl, _, _, rfl, rfl, k _ Hf1 H1 g1.frz ((((S.grow g1).set r1).set r2).set r3)⟩⟩
end
end Sg
namespace Sg
open PySem PySem.Spec PyProof.Rows L2
section
variable {X : Cx} {pins pins' : List (Addr × Obj)} {st : L2.St} {H H' : Hp} {s s' : Shared} {h2 B : Heap} {ea t : Addr} {C D : Addr} {xe : Value → Shared → Prop} {G : Gr} {Hf : Hp}
end
end Sg
namespace Sg
open PySem PySem.Spec PyProof.Rows L2
def Itxe (x : Str) : It :=
  ⟨fun i H => ∃ c, x.cps[i]? = some c, fun i H v H' => ∃ p c, v = .ref p ∧ H p = none ∧ H' = upd H p (.tup [.int i, .str ⟨#[c]⟩]) ∧ x.cps[i]? = some c, fun i H => i = x.cps.size⟩
theorem turn_enumS {P : Program} {w : World} {K : PySem.W.Frag} {elts : List Expr} {kt : Nat} {tpos : Pos} (x : Str) (t : Tok) (e it : Addr) (hei : e ≠ it) : Turn P w K (.Tuple elts kt tpos) (Itxe x) [e, it] e (fun i h => (∃ old, IsEnum h e it i old) ∧ h.IsStrIter it "str_ascii_iterator" x t i) where
  mem := by simp
  obj := fun i h st b hb => by
    obtain ⟨⟨old, he⟩, o, e2, c, d⟩ := st
    rcases List.mem_cons.mp hb with rfl | hb
    · exact ⟨_, he, fun v z => by cases z⟩
    · have : b = it := by simpa using hb
      subst this
      exact ⟨o, e2, fun v z => by rw [d] at z; cases z⟩
  keep := fun i h h' st k => by
    obtain ⟨⟨old, he⟩, o, e2, r⟩ := st
    exact ⟨⟨old, k e (by simp) _ he⟩, o, k it (by simp) o e2, r⟩
  item := by
    intro X hP hw hK hc i pins s σ H E I hf st hg
    subst hP hw hK
    obtain ⟨c, hx⟩ := hg
    obtain ⟨⟨old, he⟩, hit⟩ := st
    have hel : e < s.heap.objs.size := Heap.lt_size he
    have hil : it < s.heap.objs.size := by obtain ⟨_, z, _⟩ := hit; exact Heap.lt_size z
    have hlt : i < x.cps.size := (Array.getElem?_eq_some_iff.mp hx).1
    refine wpAny_pyNext_enum_itemD (Draws.strAscii (A := X.A.in1) (I.ok.hd hc) it x t) he hit hlt hei (by simpa using hei) fun u h1 tk hP ho hit1 hT hsz hk => ?_
    obtain ⟨c', u', hc', rfl⟩ := hP
    rw [hx] at hc'; cases hc'
    refine ⟨_, rfl, wpAny_letOwnedTupleGo_enum ho fun h2 he2 hs2 => ?_⟩
    have hT2 : h2.get? s.heap.objs.size = some { cls := .type "tuple", data := .seq #[.int i tk, .str ⟨#[c]⟩ u'] } := (hs2.2 _ (Nat.ne_of_gt hel)).trans hT
    have k2 : ∀ b o, b ∉ [e, it] → s.heap.get? b = some o → h2.get? b = some o := fun b o hb q => (hs2.2 b fun z => hb (by simp [z])).trans (hk b o (fun z => hb (by simp [z])) (fun z => hb (by simp [z])) q)
    have hp : H s.heap.objs.size = none := I.hok.fresh (Nat.le_refl _)
    have I2 : L2.Inv X pins σ (upd H s.heap.objs.size (.tup [.int i, .str ⟨#[c]⟩])) { s with heap := h2, toks := tk + 1 } := turnLaid I hf k2 (Nat.le_refl _) ⟨Nat.le_of_ble_eq_true rfl, [.int i tk, .str ⟨#[c]⟩ u'], .cons ⟨_, rfl⟩ (.cons ⟨_, rfl⟩ .nil), _, hT2, rfl, _, rfl⟩
    refine ⟨.ref s.heap.objs.size, _, I2, rfl, ⟨_, c, rfl, hp, rfl, hx⟩, ⟨⟨_, by simpa using he2⟩, let ⟨o, z1, z2⟩ := hit1; ⟨o, (hs2.2 it (Ne.symm hei)).trans z1, z2⟩⟩, fun b hb => ?_⟩
    have : b ≠ s.heap.objs.size := by
      rcases List.mem_cons.mp hb with rfl | hb
      · exact Nat.ne_of_lt hel
      · have : b = it := by simpa using hb
        subst this
        exact Nat.ne_of_lt hil
    rw [upd_ne this]
    exact (hf b hb).1
  done := by
    intro X hP hw hK hc i pins s σ H E I hf st hg
    subst hP hw hK
    have hg : i = x.cps.size := hg
    subst hg
    obtain ⟨⟨old, he⟩, hit⟩ := st
    obtain ⟨f0, f1, f2, f3, f4, f5⟩ := hf it (by simp)
    exact wpAny_pyNext_enum_endD (Draws.strAscii (A := X.A.in1) (I.ok.hd hc) it x t) he hit fun h' eb => ⟨rfl, I.turned (t' := s.toks) (fun b o hb q => eb b o hb q) f0 f1 f3 f4 f5⟩
  self := fun _ i s Q E st h => by
    obtain ⟨⟨old, he⟩, _⟩ := st
    exact wpAny_pyIter_enum he h
section
variable {X : Cx} {G : Gr} {dl : List Slot} {a : Expr} {x : Str} {p pos : Pos}
def iEnumS (ta : TA) : TI := fun σ H R => ta σ H fun vs H1 => ∃ x, vs = [.str x] ∧ asciiS x = true ∧ R (Itxe x) H1
theorem pi_enumS {elts : List Expr} {kt : Nat} {tpos : Pos} {ta : TA} (hg : Gl X "enumerate") (hm : X.mg "enumerate" = none) (ha : PA X [a] ta) (hs : starEach [a] X.env = [(false, eval a X.env)] := by rfl) : PI X (.Tuple elts kt tpos) (.Call (.Name "enumerate" p) [a] [] pos) (iEnumS ta) := by
  intro pins s σ H R I h
  refine Call_ (ld_blt I hg hm boot_enumerate (PyProof.Rows.callWith_type1 (thn (ha pos pins s σ H _ I h) fun us s1 ⟨vs, H1, I1, r1, q1⟩ => ?_) hs rfl))
  obtain ⟨x, e, hasc, q⟩ := q1
  subst e
  cases r1 with
  | cons r rr =>
    cases rr
    obtain ⟨t, rfl⟩ := r
    refine call_enumerate_str fun h' he hit hsz k => wpAny_pyIter_enum he ?_
    have hty : strIterType x = "str_ascii_iterator" := by unfold strIterType; rw [show x.cps.all (· < 128) = true from hasc]; rfl
    rw [hty] at hit
    have I2 : L2.Inv X pins σ H1 { s1 with heap := h' } := I1.kept (t' := s1.toks) k
    refine ⟨s1.heap.objs.size + 1, [s1.heap.objs.size + 1, s1.heap.objs.size], _, _, H1, rfl, I2, turn_enumS x t _ s1.heap.objs.size (Nat.succ_ne_self _), ⟨⟨_, he⟩, hit⟩, fun b hb => ?_, q⟩
    have hb' : s1.heap.objs.size ≤ b := by
      rcases List.mem_cons.mp hb with rfl | hb
      · exact Nat.le_succ _
      · have : b = s1.heap.objs.size := by simpa using hb
        rw [this]; exact Nat.le_refl _
    exact I1.fpOk hb' (I1.hok.fresh hb')
theorem srcx_enumS (hx : asciiS x = true) : SrcX X G dl (enumD (Sg.signs x)) (iEnumS (tDs X.K G dl [.str x])) := fun st H R ⟨Hf, S, k⟩ => ⟨Hf, S, fun vs Hf1 H1 g1 r1 => by
  cases r1 with
  | cons r t =>
    cases t
    cases r
    refine ⟨x, rfl, hx, k _ Hf1 H1 g1 fun Hf2 H2 s1 s2 i => ⟨fun z hz => ?_, fun hi => ?_⟩⟩
    · have hi : i < (Sg.signs x).length := by
        have := (List.getElem?_eq_some_iff.mp hz).1
        unfold enumD at this
        simpa using this
      unfold enumD at hz
      rw [List.getElem?_map, List.getElem?_range hi] at hz
      cases hz
      have hx' : (Sg.signs x)[i]? = some ((Sg.signs x).getD i .non) := by rw [List.getD_eq_getElem?_getD, List.getElem?_eq_getElem hi]; rfl
      rw [signs_get] at hx'
      cases q : x.cps[i]? with
      | none => rw [q] at hx'; cases hx'
      | some c =>
        rw [q] at hx'
        have hx' : Dt.str ⟨#[c]⟩ = (Sg.signs x).getD i .non := Option.some.inj hx'
        refine ⟨⟨c, q⟩, fun v H3 ⟨p, c', e1, e2, e3, e4⟩ => ?_⟩
        rw [q] at e4; cases e4
        subst e1 e3
        show ∃ Hf3, Grow Hf2 H2 Hf3 _ ∧ Rep X.K Hf3 (V.ref p) (Dt.tup [Dt.int i, (Sg.signs x).getD i Dt.non])
        rw [← hx']
        exact ⟨upd Hf2 p (.tup [.int i, .str ⟨#[c]⟩]), .alloc s2 e2, .tup (.of upd_same) (.cons (.int _) (.cons (.str _) .nil))⟩
    · show i = x.cps.size
      unfold enumD at hi
      rw [List.length_map, List.length_range, signs_len] at hi
      exact hi⟩
end
theorem two_of {us : List Value} {d : Value} (h : (us ++ [d]).length = 3) : ∃ a b, us = [a, b] := by
  rw [List.length_append] at h
  have h : us.length = 2 := Nat.succ.inj h
  match us, h with
  | [a, b], _ => exact ⟨a, b, rfl⟩
end Sg
namespace Sg
open PySem PySem.Spec PyProof.Rows L2
section
variable {X : Cx} {G : Gr} {dl : List Slot} {a b : Expr} {x : Str} {i : Int} {pos : Pos}
end
end Sg
namespace Sg
open PySem PySem.Spec PyProof.Rows L2
section
variable {X : Cx} {pins pins' : List (Addr × Obj)} {st : L2.St} {H H' : Hp} {s s' : Shared} {h2 B : Heap} {ea t : Addr} {C D : Addr} {xe : Value → Shared → Prop} {G : Gr} {Hf : Hp}
end
end Sg
namespace Sg
open PySem PySem.Spec PyProof.Rows L2
open Sem (wp)
structure ZApart (z tI tO j1 j2 : Addr) (f1 f2 : List Addr) : Prop where
  tz : tI ≠ z
  oz : tO ≠ z
  az : j1 ≠ z
  bz : j2 ≠ z
  to : tI ≠ tO
  ta : tI ≠ j1
  tb : tI ≠ j2
  oa : tO ≠ j1
  ob : tO ≠ j2
  ab : j1 ≠ j2
  z1 : z ∉ f1
  o1 : tO ∉ f1
  b1 : j2 ∉ f1
  z2 : z ∉ f2
  o2 : tO ∉ f2
  a2 : j1 ∉ f2
section
variable {prog : Program} {w : World} {A : Around} {E : Value → Shared → Prop} {s : Shared}
variable {z tI tO j1 j2 : Addr} {f1 f2 : List Addr} {n1 n2 k : Nat} {P1 P2 : Nat → Value → Prop} {S1 S2 : Nat → Heap → Prop} {a b : Value}
theorem zip_step (D1 : Draws prog w A j1 f1 n1 P1 S1) (D2 : Draws prog w A j2 f2 n2 P2 S2) (ap : ZApart z tI tO j1 j2 f1 f2) {Q : Value → Shared → Prop} (hz : IsZip s.heap z tI tO .none) (hI : IsPair s.heap tI (.ref j1) (.ref j2)) (hO : IsPair s.heap tO a b) (q1 : S1 k s.heap) (q2 : S2 k s.heap) (l1 : k < n1) (l2 : k < n2) (hQ : ∀ x y h' tk, P1 k x → P2 k y → IsZip h' z tI tO (rawInt s.heap.objs.size) → IsPair h' tO x y → S1 (k + 1) h' → S2 (k + 1) h' → IsPair h' s.heap.objs.size x y → (∀ c o, c ≠ z → c ≠ tO → c ≠ j1 → c ≠ j2 → s.heap.get? c = some o → h'.get? c = some o) → Q (.ref s.heap.objs.size) { s with heap := h', toks := tk }) : wpAny (model prog w) A (Builtin.«zip.__next__» ⟨[.ref z], []⟩) (fun fin s' => ∃ v, fin = .done (.ret v) ∧ Q v s') E s := by
  obtain ⟨hp, g, dr, t0, os⟩ := s
  show wpAny _ _ (field (.ref z) 2 >>= _) _ _ _
  refine wpAny_bind (wpAny_field hz rfl (x := .bool false) rfl ?_); show wpAny _ _ (field (.ref z) 3 >>= _) _ _ _
  refine wpAny_bind (wpAny_field hz rfl (x := .ref tI) rfl (wpAny_bind (wpAny_seqItems hI rfl ?_)))
  show wpAny _ _ (Builtin.SmallTypes.ownedTupleIsFree (.ref z) >>= _) _ _ _; refine wpAny_bind ?_
  unfold Builtin.SmallTypes.ownedTupleIsFree; refine wpAny_bind (wpAny_field hz rfl (x := .none) rfl (wpAny_pure ?_))
  simp only [if_true]; refine wpAny_bind (wpAny_rule (wpAny_bind (wpAny_field hz rfl (x := .ref tO) rfl ?_)))
  refine wpAny_bind (wpAny_setField_rec hz (by simp) fun h1 hz1 e1 => ?_)
  replace hz1 : IsZip h1 z tI tO .ellipsis := hz1
  refine wpAny_bind ?_; simp only [List.zipIdx_cons, List.zipIdx_nil, List.forIn_cons, List.forIn_nil]
  refine wpAny_bind (wpAny_bind (wpAny_onRaise ?_)); show wpAny _ _ (Builtin.SmallTypes.nextOf (.ref j1) >>= _) _ _ _
  have ne1 : ∀ c ∈ f1, c ≠ z := fun c hc e => ap.z1 (e ▸ hc)
  have ne2 : ∀ c ∈ f2, c ≠ z := fun c hc e => ap.z2 (e ▸ hc)
  refine wpAny_bind (D1.item k _ _ _ l1 (D1.frame _ _ _ q1 fun c hc o e => e1.extBut _ _ (ne1 c hc) e) fun x h2 t2 px q1' e2 => wpAny_pure ?_)
  replace e2 : Heap.SameBut j1 h1 h2 := e2
  have hO2 : IsPair h2 tO a b := e2.extBut _ _ ap.oa (e1.extBut _ _ ap.oz hO)
  refine wpAny_bind (wpAny_seqItems hO2 rfl (wpAny_bind (wpAny_updateSeq_pair hO2 fun h3 hO3 e3 => ?_)))
  replace hO3 : IsPair h3 tO x b := hO3
  replace e3 : Heap.SameBut tO h2 h3 := e3
  refine wpAny_bind (wpAny_letGo (wpAny_pure ?_)); refine wpAny_bind (wpAny_bind (wpAny_onRaise ?_))
  show wpAny _ _ (Builtin.SmallTypes.nextOf (.ref j2) >>= _) _ _ _
  refine wpAny_bind (D2.item k _ _ _ l2 (D2.frame _ _ _ q2 fun c hc o e => e3.extBut _ _ (fun z => ap.o2 (z ▸ hc)) (e2.extBut _ _ (fun z => ap.a2 (z ▸ hc)) (e1.extBut _ _ (ne2 c hc) e))) fun y h4 t4 py q2' e4 => wpAny_pure ?_)
  replace e4 : Heap.SameBut j2 h3 h4 := e4
  have hO4 : IsPair h4 tO x b := e4.extBut _ _ ap.ob hO3
  refine wpAny_bind (wpAny_seqItems hO4 rfl (wpAny_bind (wpAny_updateSeq_pair hO4 fun h5 hO5 e5 => ?_)))
  replace hO5 : IsPair h5 tO x y := hO5
  replace e5 : Heap.SameBut tO h4 h5 := e5
  refine wpAny_bind (wpAny_letGo (wpAny_pure (wpAny_pure (wpAny_bind (wpAny_seqItems hO5 rfl (wpAny_bind (wpAny_newTuple ?_)))))))
  have hsz : h5.objs.size = hp.objs.size := by rw [e5.1, e4.1, e3.1, e2.1, e1.1]
  have hz5 : IsZip h5 z tI tO .ellipsis := e5.extBut _ _ ap.oz.symm (e4.extBut _ _ ap.bz.symm (e3.extBut _ _ ap.oz.symm (e2.extBut _ _ ap.az.symm hz1)))
  have k5 : ∀ c o, c ≠ z → c ≠ tO → c ≠ j1 → c ≠ j2 → hp.get? c = some o → h5.get? c = some o := fun c o c1 c2 c3 c4 e => e5.extBut _ _ c2 (e4.extBut _ _ c4 (e3.extBut _ _ c2 (e2.extBut _ _ c3 (e1.extBut _ _ c1 e))))
  have q15 : S1 (k + 1) h5 := D1.frame _ _ _ q1' fun c hc o e => e5.extBut _ _ (fun z => ap.o1 (z ▸ hc)) (e4.extBut _ _ (fun z => ap.b1 (z ▸ hc)) (e3.extBut _ _ (fun z => ap.o1 (z ▸ hc)) e))
  have q25 : S2 (k + 1) h5 := D2.frame _ _ _ q2' fun c hc o e => e5.extBut _ _ (fun z => ap.o2 (z ▸ hc)) e
  have zl : z < h5.objs.size := Heap.lt_size hz5
  show wpAny _ _ (Builtin.SmallTypes.ownedTupleHandOut (.ref z) (.ref h5.objs.size) >>= _) _ _ _
  refine wpAny_bind ?_; unfold Builtin.SmallTypes.ownedTupleHandOut
  have hz6 : IsZip (h5.push { cls := .type "tuple", data := .seq #[x, y] }) z tI tO .ellipsis := Heap.get?_push_of_some _ hz5
  refine wpAny_bind (wpAny_setField_rec hz6 (by simp) fun h7 hz7 e7 => ?_)
  replace hz7 : IsZip h7 z tI tO (rawInt h5.objs.size) := hz7
  refine wpAny_setField_rec hz7 (by simp) fun h8 hz8 e8 => ?_
  replace hz8 : IsZip h8 z tI tO (rawInt h5.objs.size) := hz8
  have up : ∀ c o, c ≠ z → h5.get? c = some o → h8.get? c = some o := fun c o c1 e => e8.extBut _ _ c1 (e7.extBut _ _ c1 (Heap.get?_push_of_some _ e))
  have hT8 : IsPair h8 h5.objs.size x y := e8.extBut _ _ (Nat.ne_of_gt zl) (e7.extBut _ _ (Nat.ne_of_gt zl) (Heap.get?_push_size _ rfl))
  rw [hsz] at hz8 hT8
  refine wpAny_pure ⟨_, rfl, ?_⟩
  show Q (.ref h5.objs.size) _
  rw [hsz]
  exact hQ x y h8 t4 px py hz8 (up _ _ ap.oz hO5) (D1.frame _ _ _ q15 fun c hc o e => up c o (ne1 c hc) e) (D2.frame _ _ _ q25 fun c hc o e => up c o (ne2 c hc) e) hT8 fun c o c1 c2 c3 c4 e => up c o c1 (k5 c o c1 c2 c3 c4 e)
theorem zip_stop1 (D1 : Draws prog w A j1 f1 n1 P1 S1) (ap : ZApart z tI tO j1 j2 f1 f2) {Q : Fin → Shared → Prop} (hz : IsZip s.heap z tI tO .none) (hI : IsPair s.heap tI (.ref j1) (.ref j2)) (q1 : S1 n1 s.heap) (hE : ∀ h' e, (∀ c o, c ≠ z → c ≠ tO → c ≠ j1 → c ≠ j2 → s.heap.get? c = some o → h'.get? c = some o) → (∃ o, h'.get? e = some o ∧ o.cls = .type "StopIteration") → E (.ref e) { s with heap := h' }) : wpAny (model prog w) A (Builtin.«zip.__next__» ⟨[.ref z], []⟩) Q E s := by
  obtain ⟨hp, g, dr, t0, os⟩ := s
  show wpAny _ _ (field (.ref z) 2 >>= _) _ _ _
  refine wpAny_bind (wpAny_field hz rfl (x := .bool false) rfl ?_); show wpAny _ _ (field (.ref z) 3 >>= _) _ _ _
  refine wpAny_bind (wpAny_field hz rfl (x := .ref tI) rfl (wpAny_bind (wpAny_seqItems hI rfl ?_)))
  show wpAny _ _ (Builtin.SmallTypes.ownedTupleIsFree (.ref z) >>= _) _ _ _; refine wpAny_bind ?_
  unfold Builtin.SmallTypes.ownedTupleIsFree; refine wpAny_bind (wpAny_field hz rfl (x := .none) rfl (wpAny_pure ?_))
  simp only [if_true]; refine wpAny_bind (wpAny_rule (wpAny_bind (wpAny_field hz rfl (x := .ref tO) rfl ?_)))
  refine wpAny_bind (wpAny_setField_rec hz (by simp) fun h1 hz1 e1 => ?_)
  replace hz1 : IsZip h1 z tI tO .ellipsis := hz1
  refine wpAny_bind ?_; simp only [List.zipIdx_cons, List.zipIdx_nil, List.forIn_cons, List.forIn_nil]
  refine wpAny_bind (wpAny_bind (wpAny_onRaise ?_)); show wpAny _ _ (Builtin.SmallTypes.nextOf (.ref j1) >>= _) _ _ _
  refine wpAny_bind (D1.done _ _ _ (D1.frame _ _ _ q1 fun c hc o e => e1.extBut _ _ (fun q => ap.z1 (q ▸ hc)) e) fun h2 e e2 he => ?_)
  obtain ⟨oe, ho, hc⟩ := he
  have hz2 : IsZip h2 z tI tO .ellipsis := e2 _ _ ap.az.symm hz1
  have ez : e ≠ z := fun x => by subst x; rw [hz2] at ho; cases ho; simp at hc
  refine wpAny_setField_rec hz2 (by simp) fun h3 _ e3 => hE h3 e (fun c o c1 _ c3 _ x => e3.extBut _ _ c1 (e2 _ _ c3 (e1.extBut _ _ c1 x))) ⟨oe, e3.extBut _ _ ez ho, hc⟩
theorem zip_stop2 (D1 : Draws prog w A j1 f1 n1 P1 S1) (D2 : Draws prog w A j2 f2 n2 P2 S2) (ap : ZApart z tI tO j1 j2 f1 f2) {Q : Fin → Shared → Prop} (hz : IsZip s.heap z tI tO .none) (hI : IsPair s.heap tI (.ref j1) (.ref j2)) (hO : IsPair s.heap tO a b) (q1 : S1 n2 s.heap) (l1 : n2 < n1) (q2 : S2 n2 s.heap) (hE : ∀ h' tk e, (∀ c o, c ≠ z → c ≠ tO → c ≠ j1 → c ≠ j2 → s.heap.get? c = some o → h'.get? c = some o) → (∃ o, h'.get? e = some o ∧ o.cls = .type "StopIteration") → E (.ref e) { s with heap := h', toks := tk }) : wpAny (model prog w) A (Builtin.«zip.__next__» ⟨[.ref z], []⟩) Q E s := by
  obtain ⟨hp, g, dr, t0, os⟩ := s
  show wpAny _ _ (field (.ref z) 2 >>= _) _ _ _
  refine wpAny_bind (wpAny_field hz rfl (x := .bool false) rfl ?_); show wpAny _ _ (field (.ref z) 3 >>= _) _ _ _
  refine wpAny_bind (wpAny_field hz rfl (x := .ref tI) rfl (wpAny_bind (wpAny_seqItems hI rfl ?_)))
  show wpAny _ _ (Builtin.SmallTypes.ownedTupleIsFree (.ref z) >>= _) _ _ _; refine wpAny_bind ?_
  unfold Builtin.SmallTypes.ownedTupleIsFree; refine wpAny_bind (wpAny_field hz rfl (x := .none) rfl (wpAny_pure ?_))
  simp only [if_true]; refine wpAny_bind (wpAny_rule (wpAny_bind (wpAny_field hz rfl (x := .ref tO) rfl ?_)))
  refine wpAny_bind (wpAny_setField_rec hz (by simp) fun h1 hz1 e1 => ?_)
  replace hz1 : IsZip h1 z tI tO .ellipsis := hz1
  refine wpAny_bind ?_; simp only [List.zipIdx_cons, List.zipIdx_nil, List.forIn_cons, List.forIn_nil]
  refine wpAny_bind (wpAny_bind (wpAny_onRaise ?_)); show wpAny _ _ (Builtin.SmallTypes.nextOf (.ref j1) >>= _) _ _ _
  refine wpAny_bind (D1.item n2 _ _ _ l1 (D1.frame _ _ _ q1 fun c hc o e => e1.extBut _ _ (fun q => ap.z1 (q ▸ hc)) e) fun x h2 t2 px q1' e2 => wpAny_pure ?_)
  replace e2 : Heap.SameBut j1 h1 h2 := e2
  have hO2 : IsPair h2 tO a b := e2.extBut _ _ ap.oa (e1.extBut _ _ ap.oz hO)
  refine wpAny_bind (wpAny_seqItems hO2 rfl (wpAny_bind (wpAny_updateSeq_pair hO2 fun h3 hO3 e3 => ?_)))
  replace e3 : Heap.SameBut tO h2 h3 := e3
  refine wpAny_bind (wpAny_letGo (wpAny_pure ?_)); refine wpAny_bind (wpAny_bind (wpAny_onRaise ?_))
  show wpAny _ _ (Builtin.SmallTypes.nextOf (.ref j2) >>= _) _ _ _
  refine wpAny_bind (D2.done _ _ _ (D2.frame _ _ _ q2 fun c hc o e => e3.extBut _ _ (fun z => ap.o2 (z ▸ hc)) (e2.extBut _ _ (fun z => ap.a2 (z ▸ hc)) (e1.extBut _ _ (fun z => ap.z2 (z ▸ hc)) e))) fun h4 e e4 he => ?_)
  obtain ⟨oe, ho, hc⟩ := he
  replace e4 : Heap.ExtBut j2 h3 h4 := e4
  have hz4 : IsZip h4 z tI tO .ellipsis := e4 _ _ ap.bz.symm (e3.extBut _ _ ap.oz.symm (e2.extBut _ _ ap.az.symm hz1))
  have ez : e ≠ z := fun x => by subst x; rw [hz4] at ho; cases ho; simp at hc
  refine wpAny_setField_rec hz4 (by simp) fun h5 _ e5 => hE h5 t2 e (fun c o c1 c2 c3 c4 x => e5.extBut _ _ c1 (e4 _ _ c4 (e3.extBut _ _ c2 (e2.extBut _ _ c3 (e1.extBut _ _ c1 x))))) ⟨oe, e5.extBut _ _ ez ho, hc⟩
end
inductive ZS where
  | txt (x : Str) (t : Tok)
  | lst (l : Addr)
def ZS.val : ZS → Value
  | .txt x t => .str x t
  | .lst l => .ref l
def ZS.obj : ZS → Obj
  | .txt x t => { cls := .type (strIterType x), data := .fields #[.str x t, .int 0 0] }
  | .lst l => { cls := .type "list_iterator", data := .fields #[.ref l, .int 0 0] }
def ZS.ok (h : Heap) : ZS → Prop
  | .txt x _ => asciiS x = true
  | .lst l => ∃ xs, h.IsList l xs
def ZS.at (it : Addr) (i : Nat) (h : Heap) : ZS → Prop
  | .txt x t => h.IsStrIter it "str_ascii_iterator" x t i
  | .lst l => h.IsListIter it l i
theorem ZS.iter {prog : Program} {w : World} {A : Around} {E : Value → Shared → Prop} {s : Shared} {Q : Value → Shared → Prop} : ∀ {S : ZS}, S.ok s.heap → Q (.ref s.heap.objs.size) { s with heap := s.heap.push S.obj } → wpAny (model prog w) A (pyIter S.val) Q E s
  | .txt x t, _, q => wpAny_pyIter_strU q
  | .lst l, ⟨xs, h⟩, q => wpAny_pyIter_list h q
theorem ZS.ok_push {h : Heap} {o : Obj} : ∀ {S : ZS}, S.ok h → S.ok (h.push o)
  | .txt _ _, q => q
  | .lst _, ⟨xs, q⟩ => ⟨xs, Heap.IsList.push q _⟩
abbrev zh2 (h : Heap) (S T : ZS) : Heap := (h.push S.obj).push T.obj
abbrev zh3 (h : Heap) (S T : ZS) : Heap := (zh2 h S T).push { cls := .type "tuple", data := .seq #[.ref h.objs.size, .ref (h.push S.obj).objs.size] }
abbrev zh4 (h : Heap) (S T : ZS) : Heap := (zh3 h S T).push { cls := .type "tuple", data := .seq #[.none, .none] }
abbrev zh5 (h : Heap) (S T : ZS) : Heap := (zh4 h S T).push { cls := .type "zip", data := .fields #[.none, .bool false, .bool false, .ref (zh2 h S T).objs.size, .ref (zh3 h S T).objs.size] }
theorem meets_zip (S T : ZS) : Meets (Builtin.«zip.__new__» ⟨[.type "zip", S.val, T.val], []⟩) (fun _ R s => S.ok s.heap ∧ T.ok s.heap ∧ R (.ok (.ret (.ref (zh4 s.heap S T).objs.size))) { s with heap := zh5 s.heap S T }) :=
  .of_wp fun prog w A R s h => by
    obtain ⟨hp, g, d, tk, os⟩ := s; obtain ⟨h1, h2, h⟩ := h
    have hsub := sub_zip
    have k1 : S.ok (Shared.heap ⟨hp, g, d, tk, os⟩) := h1
    have k2 : T.ok (Shared.heap ⟨hp.push S.obj, g, d, tk, os⟩) := ZS.ok_push h2
    wp_walk using ZS.iter k1, ZS.iter k2
    exact ⟨_, rfl, h⟩
theorem call_zip {prog : Program} {w : World} {A : Around} {E : Value → Shared → Prop} {s : Shared} {S T : ZS} {Q : Value → Shared → Prop} (h1 : S.ok s.heap) (h2 : T.ok s.heap) (h : ∀ h' n, n = s.heap.objs.size → IsZip h' (n + 4) (n + 2) (n + 3) .none → IsPair h' (n + 2) (.ref n) (.ref (n + 1)) → IsPair h' (n + 3) .none .none → h'.get? n = some S.obj → h'.get? (n + 1) = some T.obj → (∀ c o, s.heap.get? c = some o → h'.get? c = some o) → Q (.ref (n + 4)) { s with heap := h' }) : wpAny (model prog w) A (call (.type "zip") [S.val, T.val]) Q E s := by
  refine callType_new F.called_zip (by decide) (F.typeCall_zip_2 _ _) (F.newCall_zip_2 _ _) (fun obj => F.args_object_init_3 obj _ _) F.entry_zip_new (meets_zip S T) ⟨h1, h2, ?_⟩
  have z1 : (s.heap.push S.obj).objs.size = s.heap.objs.size + 1 := Heap.size_push ..
  have z2 : (zh2 s.heap S T).objs.size = s.heap.objs.size + 2 := by rw [Heap.size_push, z1]
  have z3 : (zh3 s.heap S T).objs.size = s.heap.objs.size + 3 := by rw [Heap.size_push, z2]
  have z4 : (zh4 s.heap S T).objs.size = s.heap.objs.size + 4 := by rw [Heap.size_push, z3]
  have nf : ∀ S : ZS, S.obj.isFreed = false := fun S => by cases S <;> rfl
  have g5 : (zh5 s.heap S T).get? (zh4 s.heap S T).objs.size = some _ := Heap.get?_push_size _ rfl
  have g4 : (zh5 s.heap S T).get? (zh3 s.heap S T).objs.size = some _ := Heap.get?_push_of_some _ (Heap.get?_push_size _ rfl)
  have g3 : (zh5 s.heap S T).get? (zh2 s.heap S T).objs.size = some _ := Heap.get?_push_of_some _ (Heap.get?_push_of_some _ (Heap.get?_push_size _ rfl))
  have g2 : (zh5 s.heap S T).get? (s.heap.push S.obj).objs.size = some T.obj := Heap.get?_push_of_some _ (Heap.get?_push_of_some _ (Heap.get?_push_of_some _ (Heap.get?_push_size _ (nf T))))
  have g1 : (zh5 s.heap S T).get? s.heap.objs.size = some S.obj := Heap.get?_push_of_some _ (Heap.get?_push_of_some _ (Heap.get?_push_of_some _ (Heap.get?_push_of_some _ (Heap.get?_push_size _ (nf S)))))
  show _ ∧ _
  rw [z2, z3, z4] at g5
  rw [z1, z2] at g3
  rw [z3] at g4
  rw [z1] at g2
  rw [z4]
  exact ⟨⟨_, g5, rfl⟩, h _ _ rfl g5 g3 g4 g1 g2 fun c o x => Heap.get?_push_of_some _ (Heap.get?_push_of_some _ (Heap.get?_push_of_some _ (Heap.get?_push_of_some _ (Heap.get?_push_of_some _ x))))⟩
def vGo (K : PySem.W.Frag) (H : Hp) (i : Nat) (x : V) : V → Prop
  | .str y => ∃ c, y.cps[i]? = some c ∧ x = .str ⟨#[c]⟩
  | .ref l => (∃ xs, SqL K H l xs) ∧ ∀ xs, SqL K H l xs → xs[i]? = some x
  | _ => False
def vHas (K : PySem.W.Frag) (H : Hp) (i : Nat) : V → Prop
  | .str y => ∃ c, y.cps[i]? = some c
  | .ref l => ∃ xs x, SqL K H l xs ∧ xs[i]? = some x
  | _ => False
def vFin (K : PySem.W.Frag) (H : Hp) (i : Nat) : V → Prop
  | .str y => i = y.cps.size
  | .ref l => ∃ xs, SqL K H l xs ∧ xs.length = i
  | _ => False
def vOk (K : PySem.W.Frag) (H : Hp) : V → Prop
  | .str y => asciiS y = true
  | .ref l => ∃ xs, SqL K H l xs
  | _ => False
def ZS.v : ZS → V
  | .txt x _ => .str x
  | .lst l => .ref l
def Itz (K : PySem.W.Frag) (u v : V) : It :=
  ⟨fun i H => vHas K H i u ∧ vHas K H i v, fun i H r H' => ∃ p x y, r = .ref p ∧ H p = none ∧ H' = upd H p (.tup [x, y]) ∧ vGo K H i x u ∧ vGo K H i y v, fun i H => vFin K H i u ∨ (vHas K H i u ∧ vFin K H i v)⟩
section
variable {X : Cx} {pins : List (Addr × Obj)} {σ : List (Option V)} {H : Hp} {s : Shared} {h' : Heap} {i : Nat} {x : V} {it : Addr}
theorem turnedL {ch : List Addr} {t' : Nat} (I : L2.Inv X pins σ H s) (hch : ∀ b ∈ ch, FpOk X pins H b) (k : ∀ b u, b ∉ ch → s.heap.get? b = some u → h'.get? b = some u) : L2.Inv X pins σ H { s with heap := h', toks := t' } := by
  have nit : ∀ b u, H b = some u → b ∉ ch := fun b u e z => by rw [(hch b z).1] at e; cases e
  refine I.step (g' := s.gens) (d' := s.drawn) (ch := ch) (fun b hb => ⟨(hch b hb).2.2.2.1, (hch b hb).2.1, (hch b hb).2.2.2.2.1, (hch b hb).2.2.2.2.2⟩) (fun b o _ _ hc e _ => k b o hc e) (fun b o _ _ hc e _ => ⟨o.slots, k b o hc e⟩) (fun _ _ _ _ n => n)
    (fun b o hc e => ⟨o, k b o hc e⟩) (fun _ _ e => e) (fun _ _ _ e => e) (fun b ps e => ⟨#[], by rw [e]; simp⟩) (fun m hm => ?_) (fun b u e => ?_) I.bare
  · obtain ⟨o, es, ep, ho, r⟩ := hm
    exact ⟨o, es, ep, k _ o (fun z => (hch _ z).2.1 rfl) ho, r⟩
  · refine (I.hok b u e).stay (fun c v hc q => k c v ?_ q) (fun _ q => q) (fun _ _ q => q) .refl
    rcases hc with z | z | z
    · rw [z]; exact nit b u e
    · exact nit c _ z
    · exact fun z' => by rw [(hch c z').1] at z; exact z
theorem vHas.go (I : L2.Inv X pins σ H s) : ∀ {v : V}, vHas X.K H i v → ∃ x, vGo X.K H i x v
  | .str y, ⟨c, h⟩ => ⟨_, c, h, rfl⟩
  | .ref l, ⟨xs, x, h1, h2⟩ => ⟨x, ⟨xs, h1⟩, fun ys hy => by rw [I.list_inj hy h1]; exact h2⟩
def ListAt (h : Heap) (b : Addr) : Prop := ∃ o, h.get? b = some o ∧ o.cls = .type "list"
theorem iter_ne {l : Addr} {k : Nat} {h : Heap} {xs : Array Value} (a : h.IsListIter it l k) (b : h.IsList l xs) : l ≠ it := fun e => by
  subst e
  obtain ⟨o, h1, h2, _⟩ := a
  obtain ⟨o', h3, h4, _⟩ := b
  rw [h1] at h3; cases h3
  rw [h2] at h4; exact absurd (Value.type.inj h4) (by decide)
theorem ZS.draw (I : L2.Inv X pins σ H s) (hc : X.calm = true) : ∀ {S : ZS}, S.at it i s.heap → vGo X.K H i x S.v → ∃ (fp : List Addr) (n : Nat) (P : Nat → Value → Prop) (st : Nat → Heap → Prop), Draws X.prog X.w X.A.in1 it fp n P st ∧ i < n ∧ st i s.heap ∧ (∀ b ∈ fp, b = it ∨ ListAt s.heap b) ∧ (∀ u, P i u → RelV x u) ∧ ∀ h, st (i + 1) h → S.at it (i + 1) h
  | .txt y t, a, ⟨c, h1, h2⟩ => by
    subst h2
    exact ⟨_, _, _, _, Draws.strAscii (A := X.A.in1) (I.ok.hd hc) it y t, (Array.getElem?_eq_some_iff.mp h1).1, a, fun b hb => .inl (by simpa using hb), fun u ⟨c', t', e1, e2⟩ => by
      rw [h1] at e1; cases e1; subst e2; exact ⟨_, rfl⟩, fun h z => z⟩
  | .lst l, a, ⟨⟨xs, hq⟩, hx⟩ => by
    have hx := hx xs hq
    obtain ⟨its, rv, p, hz⟩ := I.list hq
    obtain ⟨u, hu, ru⟩ := rv.get hx
    have hl := p.isList
    refine ⟨_, _, _, _, Draws.list (A := X.A.in1) (I.ok.hd hc) it l (iter_ne a hl) its.toArray, ?_, ⟨a, hl⟩, fun b hb => ?_, fun u' e => ?_, fun h z => z.1⟩
    · have := (List.getElem?_eq_some_iff.mp hu).1
      simpa using this
    · rcases List.mem_cons.mp hb with rfl | hb
      · exact .inl rfl
      · have : b = l := by simpa using hb
        subst this
        obtain ⟨o, e, hc, _⟩ := hl
        exact .inr ⟨o, e, hc⟩
    · have e : its[i]? = some u' := by simpa using e
      rw [hu] at e; cases e
      exact ru
theorem ZS.over (I : L2.Inv X pins σ H s) (hc : X.calm = true) : ∀ {S : ZS}, S.at it i s.heap → vFin X.K H i S.v → ∃ (fp : List Addr) (P : Nat → Value → Prop) (st : Nat → Heap → Prop), Draws X.prog X.w X.A.in1 it fp i P st ∧ st i s.heap ∧ (∀ b ∈ fp, b = it ∨ ListAt s.heap b)
  | .txt y t, a, e => by
    have e : i = y.cps.size := e
    subst e
    exact ⟨_, _, _, Draws.strAscii (A := X.A.in1) (I.ok.hd hc) it y t, a, fun b hb => .inl (by simpa using hb)⟩
  | .lst l, a, ⟨xs, hq, e⟩ => by
    obtain ⟨its, rv, p, hz⟩ := I.list hq
    have hl := p.isList
    have en : i = its.toArray.size := by rw [← e, rv.length]; simp
    have D := Draws.list (prog := X.prog) (w := X.w) (A := X.A.in1) (I.ok.hd hc) it l (iter_ne a hl) its.toArray
    rw [← en] at D
    refine ⟨_, _, _, D, ⟨a, hl⟩, fun b hb => ?_⟩
    rcases List.mem_cons.mp hb with rfl | hb
    · exact .inl rfl
    · have : b = l := by simpa using hb
      subst this
      obtain ⟨o, e, hc, _⟩ := hl
      exact .inr ⟨o, e, hc⟩
end
theorem adne {a b : Nat} (h : a ≠ b) : @Ne Addr a b := h
theorem at_obj {it i : Nat} {h : Heap} : ∀ {S : ZS}, S.at it i h → ∃ o n vs, h.get? it = some o ∧ o.cls = .type n ∧ n ≠ "list" ∧ o.data = .fields vs
  | .txt _ _, ⟨o, h1, h2, h3⟩ => ⟨o, _, _, h1, h2, by decide, h3⟩
  | .lst _, ⟨o, h1, h2, h3⟩ => ⟨o, _, _, h1, h2, by decide, h3⟩
theorem at_keep {it i : Nat} {h h' : Heap} (k : ∀ o, h.get? it = some o → h'.get? it = some o) : ∀ {S : ZS}, S.at it i h → S.at it i h'
  | .txt _ _, ⟨o, h1, r⟩ => ⟨o, k o h1, r⟩
  | .lst _, ⟨o, h1, r⟩ => ⟨o, k o h1, r⟩
theorem zap_of {n : Nat} {h : Heap} {f1 f2 : List Addr} {S T : ZS} {i : Nat} {f0 a b c d : Value} (hz : IsZip h (n + 4) (n + 2) (n + 3) f0) (hO : IsPair h (n + 3) a b) (h1 : S.at n i h) (h2 : T.at (n + 1) i h) (k1 : ∀ b ∈ f1, b = n ∨ ListAt h b) (k2 : ∀ b ∈ f2, b = n + 1 ∨ ListAt h b) : ZApart (n + 4) (n + 2) (n + 3) n (n + 1) f1 f2 := by
  have lz : ¬ ListAt h (n + 4) := fun ⟨o, e, c⟩ => by rw [hz] at e; cases e; exact absurd (Value.type.inj c) (by decide)
  have lo : ¬ ListAt h (n + 3) := fun ⟨o, e, c⟩ => by rw [hO] at e; cases e; exact absurd (Value.type.inj c) (by decide)
  have l1 : ¬ ListAt h n := fun ⟨o, e, c⟩ => by
    obtain ⟨o', m, vs, e1, e2, e3, _⟩ := at_obj h1
    rw [e] at e1; cases e1; rw [c] at e2; cases e2; exact e3 rfl
  have l2 : ¬ ListAt h (n + 1) := fun ⟨o, e, c⟩ => by
    obtain ⟨o', m, vs, e1, e2, e3, _⟩ := at_obj h2
    rw [e] at e1; cases e1; rw [c] at e2; cases e2; exact e3 rfl
  have n1 : ∀ b, b ≠ n → ¬ ListAt h b → b ∉ f1 := fun b e l m => (k1 b m).elim e l
  have n2 : ∀ b, b ≠ n + 1 → ¬ ListAt h b → b ∉ f2 := fun b e l m => (k2 b m).elim e l
  exact ⟨adne (by omega), adne (by omega), adne (by omega), adne (by omega), adne (by omega), adne (by omega), adne (by omega), adne (by omega), adne (by omega), adne (by omega), n1 _ (adne (by omega)) lz, n1 _ (adne (by omega)) lo, n1 _ (adne (by omega)) l2, n2 _ (adne (by omega)) lz, n2 _ (adne (by omega)) lo, n2 _ (adne (by omega)) l1⟩
theorem turn_zip {P : Program} {w : World} {K : PySem.W.Frag} {elts : List Expr} {kt : Nat} {tpos : Pos} (S T : ZS) (n : Nat) : Turn P w K (.Tuple elts kt tpos) (Itz K S.v T.v) [n + 4, n + 2, n + 3, n, n + 1] (n + 4) (fun i h => IsZip h (n + 4) (n + 2) (n + 3) .none ∧ IsPair h (n + 2) (.ref n) (.ref (n + 1)) ∧ (∃ a b, IsPair h (n + 3) a b) ∧ S.at n i h ∧ T.at (n + 1) i h) where
  mem := by simp
  obj := fun i h st b hb => by
    obtain ⟨hz, hI, ⟨a, c, hO⟩, q1, q2⟩ := st
    simp only [List.mem_cons, List.not_mem_nil, or_false] at hb
    rcases hb with rfl | rfl | rfl | rfl | rfl
    · exact ⟨_, hz, fun v z => by cases z⟩
    · exact ⟨_, hI, fun v z => by cases z⟩
    · exact ⟨_, hO, fun v z => by cases z⟩
    · obtain ⟨o, _, _, e, _, _, d⟩ := at_obj q1
      exact ⟨o, e, fun v z => by rw [d] at z; cases z⟩
    · obtain ⟨o, _, _, e, _, _, d⟩ := at_obj q2
      exact ⟨o, e, fun v z => by rw [d] at z; cases z⟩
  keep := fun i h h' st k => by
    obtain ⟨hz, hI, ⟨a, c, hO⟩, q1, q2⟩ := st
    exact ⟨k _ (by simp) _ hz, k _ (by simp) _ hI, ⟨a, c, k _ (by simp) _ hO⟩, at_keep (fun o e => k _ (by simp) o e) q1, at_keep (fun o e => k _ (by simp) o e) q2⟩
  item := by
    intro X hP hw hK hc i pins s σ H E I hf st hg
    subst hP hw hK
    obtain ⟨gu, gv⟩ := hg
    obtain ⟨u, gu⟩ := vHas.go I gu
    obtain ⟨v, gv⟩ := vHas.go I gv
    obtain ⟨hz, hI, ⟨a, b, hO⟩, q1, q2⟩ := st
    obtain ⟨f1, n1, P1, S1, D1, l1, s1, c1, r1, t1⟩ := ZS.draw I hc q1 gu
    obtain ⟨f2, n2, P2, S2, D2, l2, s2, c2, r2, t2⟩ := ZS.draw I hc q2 gv
    have ap : ZApart (n + 4) (n + 2) (n + 3) n (n + 1) f1 f2 := zap_of (c := .none) (d := .none) hz hO q1 q2 c1 c2
    have hT : s.TypeIs (.ref (n + 4)) "zip" := ⟨_, hz, rfl⟩
    unfold pyNext
    refine wpAny_bind (wpAny_attempt (wpAny_callSpecial?_slot (name := Str.ofString "__next__") hT F.slot_zip_next (wpAny_call_entry F.slot_zip_next hT F.entry_zip_next (zip_step D1 D2 ap hz hI hO s1 s2 l1 l2 fun x y h1 tk px py a1 a2 a3 a4 a5 a6 => wpAny_pure ?_) (F.args_zip_next_1 _))))
    refine ⟨_, rfl, wpAny_letOwnedTupleGo_zip a1 fun h2 hz2 hs2 => ?_⟩
    replace hs2 : Heap.SameBut (n + 4) h1 h2 := hs2
    have zl : n + 4 < s.heap.objs.size := Heap.lt_size hz
    have hT2 : IsPair h2 s.heap.objs.size x y := (hs2.2 _ (Nat.ne_of_gt zl)).trans a5
    have k2 : ∀ b o, b ∉ [n + 4, n + 2, n + 3, n, n + 1] → s.heap.get? b = some o → h2.get? b = some o := fun b o hb q => (hs2.2 b fun z => hb (by simp [z])).trans (a6 b o (fun z => hb (by simp [z])) (fun z => hb (by simp [z])) (fun z => hb (by simp [z])) (fun z => hb (by simp [z])) q)
    have hp : H s.heap.objs.size = none := I.hok.fresh (Nat.le_refl _)
    have I2 : L2.Inv X pins σ (upd H s.heap.objs.size (.tup [u, v])) { s with heap := h2, toks := tk } := turnLaid I hf k2 (Nat.le_refl _) ⟨Nat.le_of_ble_eq_true rfl, [x, y], .cons (r1 x px) (.cons (r2 y py) .nil), _, hT2, rfl, _, rfl⟩
    have up : ∀ b o, b ≠ n + 4 → h1.get? b = some o → h2.get? b = some o := fun b o hb e => (hs2.2 b hb).trans e
    refine ⟨.ref s.heap.objs.size, _, I2, rfl, ⟨_, u, v, rfl, hp, rfl, gu, gv⟩, ⟨hz2, up _ _ (adne (by omega)) (a6 _ _ (adne (by omega)) (adne (by omega)) (adne (by omega)) (adne (by omega)) hI), ⟨_, _, up _ _ (adne (by omega)) a2⟩, at_keep (fun o e => up _ o (adne (by omega)) e) (t1 _ a3), at_keep (fun o e => up _ o (adne (by omega)) e) (t2 _ a4)⟩, fun b hb => ?_⟩
    have : b ≠ s.heap.objs.size := by
      simp only [List.mem_cons, List.not_mem_nil, or_false] at hb
      have zl : n + 4 < Array.size s.heap.objs := zl
      rcases hb with rfl | rfl | rfl | rfl | rfl <;> exact adne (by omega)
    rw [upd_ne this]
    exact (hf b hb).1
  done := by
    intro X hP hw hK hc i pins s σ H E I hf st hg
    subst hP hw hK
    obtain ⟨hz, hI, ⟨a, b, hO⟩, q1, q2⟩ := st
    have hT : s.TypeIs (.ref (n + 4)) "zip" := ⟨_, hz, rfl⟩
    have fin : ∀ (h1 : Heap) (tk : Nat), (∀ c o, c ≠ n + 4 → c ≠ n + 3 → c ≠ n → c ≠ n + 1 → s.heap.get? c = some o → h1.get? c = some o) → L2.Inv X pins σ H { s with heap := h1, toks := tk } := fun h1 tk k =>
      turnedL I hf fun b o hb q => k b o (fun z => hb (by simp [z])) (fun z => hb (by simp [z])) (fun z => hb (by simp [z])) (fun z => hb (by simp [z])) q
    unfold pyNext
    refine wpAny_bind (wpAny_attempt (wpAny_callSpecial?_slot (name := Str.ofString "__next__") hT F.slot_zip_next (wpAny_call_entry F.slot_zip_next hT F.entry_zip_next ?_ (F.args_zip_next_1 _))))
    rcases hg with g1 | ⟨gx, g2⟩
    · obtain ⟨f1, P1, S1, D1, s1, c1⟩ := ZS.over I hc q1 g1
      have ap : ZApart (n + 4) (n + 2) (n + 3) n (n + 1) f1 [] := zap_of (c := .none) (d := .none) hz hO q1 q2 c1 (fun b hb => absurd hb (by simp))
      refine zip_stop1 D1 ap hz hI s1 fun h1 e k he => ?_
      obtain ⟨o, ho, hcl⟩ := he
      refine wpAny_bind (wpAny_isInstance (T := "StopIteration") (b := true) ⟨o, ho, hcl⟩ isSubtype_stop (wpAny_pure ⟨rfl, ?_⟩))
      exact fin h1 s.toks k
    · obtain ⟨x, gx⟩ := vHas.go I gx
      obtain ⟨f1, n1, P1, S1, D1, l1, s1, c1, r1, t1⟩ := ZS.draw I hc q1 gx
      obtain ⟨f2, P2, S2, D2, s2, c2⟩ := ZS.over I hc q2 g2
      have ap : ZApart (n + 4) (n + 2) (n + 3) n (n + 1) f1 f2 := zap_of (c := .none) (d := .none) hz hO q1 q2 c1 c2
      refine zip_stop2 D1 D2 ap hz hI hO s1 l1 s2 fun h1 tk e k he => ?_
      obtain ⟨o, ho, hcl⟩ := he
      refine wpAny_bind (wpAny_isInstance (T := "StopIteration") (b := true) ⟨o, ho, hcl⟩ isSubtype_stop (wpAny_pure ⟨rfl, ?_⟩))
      exact fin h1 tk k
  self := fun _ i s Q E st h => wpAny_pyIter_zip st.1 h
theorem boot_zip : bootBuiltins "zip" = some (.type "zip") := by decide +kernel
section
variable {X : Cx} {G : Gr} {dl : List Slot} {a b : Expr} {p pos : Pos}
def iZip (K : PySem.W.Frag) (ta : TA) : TI := fun σ H R => ta σ H fun vs H1 => ∃ u v, vs = [u, v] ∧ vOk K H1 u ∧ vOk K H1 v ∧ R (Itz K u v) H1
theorem zs_of {pins : List (Addr × Obj)} {σ : List (Option V)} {H : Hp} {s : Shared} (I : L2.Inv X pins σ H s) : ∀ {v : V} {u : Value}, vOk X.K H v → RelV v u → ∃ S : ZS, S.v = v ∧ S.val = u ∧ S.ok s.heap
  | .str x, _, h, ⟨t, rfl⟩ => ⟨.txt x t, rfl, rfl, h⟩
  | .ref l, _, ⟨xs, h⟩, r => by
    cases r
    obtain ⟨its, rv, p, hz⟩ := I.list h
    exact ⟨.lst l, rfl, rfl, _, p.isList⟩
theorem at0 {n : Nat} {h : Heap} : ∀ {S : ZS}, S.ok h → ∀ {h' : Heap}, h'.get? n = some S.obj → S.at n 0 h'
  | .txt x t, hx, h', e => by
    have hty : strIterType x = "str_ascii_iterator" := by unfold strIterType; rw [show x.cps.all (· < 128) = true from hx]; rfl
    exact ⟨_, e, by show Value.type (strIterType x) = _; rw [hty], rfl⟩
  | .lst l, _, h', e => ⟨_, e, rfl, rfl⟩
theorem pi_zip {elts : List Expr} {kt : Nat} {tpos : Pos} {ta : TA} (hg : Gl X "zip") (hm : X.mg "zip" = none) (ha : PA X [a, b] ta) (hs : starEach [a, b] X.env = (false, eval a X.env) :: starEach [b] X.env := by rfl) (hpl : (backTo pos (starEach [b] X.env)).any (·.1) = false := by rfl) : PI X (.Tuple elts kt tpos) (.Call (.Name "zip" p) [a, b] [] pos) (iZip X.K ta) := by
  intro pins s σ H R I h
  refine Call_ (ld_blt I hg hm boot_zip (PyProof.Rows.callWith_type1 (thn (ha pos pins s σ H _ I h) fun us s1 ⟨vs, H1, I1, r1, q1⟩ => ?_) hs hpl))
  obtain ⟨u, v, e, ou, ov, q⟩ := q1
  subst e
  cases r1 with
  | cons ru rr =>
    cases rr with
    | cons rv r0 =>
      cases r0
      obtain ⟨S, rfl, rfl, kS⟩ := zs_of I1 ou ru
      obtain ⟨T, rfl, rfl, kT⟩ := zs_of I1 ov rv
      refine call_zip kS kT fun h' n hn hz hI hO g1 g2 k => wpAny_pyIter_zip hz ?_
      have I2 : L2.Inv X pins σ H1 { s1 with heap := h' } := I1.kept (t' := s1.toks) k
      refine ⟨n + 4, [n + 4, n + 2, n + 3, n, n + 1], _, _, H1, rfl, I2, turn_zip S T n, ⟨hz, hI, ⟨_, _, hO⟩, at0 kS g1, at0 kT g2⟩, fun b hb => ?_, q⟩
      have hb' : s1.heap.objs.size ≤ b := by
        rw [← hn]
        simp only [List.mem_cons, List.not_mem_nil, or_false] at hb
        rcases hb with rfl | rfl | rfl | rfl | rfl <;> first | exact Nat.le_refl _ | exact Nat.le_add_right _ _
      exact I1.fpOk hb' (I1.hok.fresh hb')
inductive ZD : Dt → List Dt → Prop
  | lst (xs : List Dt) : ZD (.lst xs) xs
  | str (x : Str) : asciiS x = true → ZD (.str x) (Sg.signs x)
def zipD (xs ys : List Dt) : List Dt := (List.range (min xs.length ys.length)).map fun (k : Nat) => .tup [xs.getD k .non, ys.getD k .non]
theorem zd_ok {K : PySem.W.Frag} {Hf H : Hp} {v : V} {d : Dt} {xs : List Dt} (z : ZD d xs) (r : Rep K Hf v d) (s : Same Hf H) : vOk K H v := by
  cases z with
  | lst xs => cases r with | lst h rp => exact ⟨_, .of (s _ _ h)⟩
  | str x h => cases r; exact h
theorem sql_lst {K : PySem.W.Frag} {H : Hp} {a : Addr} {vs : List V} (h : H a = some (.lst vs)) : SqL K H a vs := .of h
theorem zd_go {K : PySem.W.Frag} {Hf H : Hp} {v : V} {d : Dt} {xs : List Dt} {i : Nat} {y : Dt} (z : ZD d xs) (r : Rep K Hf v d) (s : Same Hf H) (e : xs[i]? = some y) : vHas K H i v ∧ ∀ x, vGo K H i x v → Rep K Hf x y := by
  cases z with
  | lst xs =>
    cases r with
    | @lst a vs _ h rp =>
      have hq := sql_lst (K := K) (s _ _ h)
      obtain ⟨u, h1, h2⟩ := rp.get e
      refine ⟨⟨vs, u, hq, h1⟩, fun x ⟨_, hx⟩ => ?_⟩
      have := hx vs hq
      rw [h1] at this; cases this
      exact h2
  | str x h =>
    cases r
    rw [signs_get] at e
    cases q : x.cps[i]? with
    | none => rw [q] at e; cases e
    | some c =>
      rw [q] at e; cases e
      refine ⟨⟨c, q⟩, fun x' ⟨c', h1, h2⟩ => ?_⟩
      rw [q] at h1; cases h1
      subst h2
      exact .str _
theorem zd_fin {K : PySem.W.Frag} {Hf H : Hp} {v : V} {d : Dt} {xs : List Dt} (z : ZD d xs) (r : Rep K Hf v d) (s : Same Hf H) : vFin K H xs.length v := by
  cases z with
  | lst xs => cases r with | lst h rp => exact ⟨_, .of (s _ _ h), rp.length⟩
  | str x h => cases r; exact signs_len x
theorem srcx_zip {d1 d2 : Dt} {xs ys : List Dt} (z1 : ZD d1 xs) (z2 : ZD d2 ys) : SrcX X G dl (zipD xs ys) (iZip X.K (tDs X.K G dl [d1, d2])) := fun st H R ⟨Hf, S, k⟩ => ⟨Hf, S, fun vs Hf1 H1 g1 r1 => by
  cases r1 with
  | @cons u _ _ _ ru t =>
    cases t with
    | @cons v _ _ _ rv t0 =>
      cases t0
      refine ⟨u, v, rfl, zd_ok z1 ru g1.sub, zd_ok z2 rv g1.sub, k _ Hf1 H1 g1 fun Hf2 H2 s1 s2 i => ⟨fun z hz => ?_, fun hi => ?_⟩⟩
      · have hi : i < min xs.length ys.length := by
          have := (List.getElem?_eq_some_iff.mp hz).1
          unfold zipD at this
          simpa using this
        unfold zipD at hz
        rw [List.getElem?_map, List.getElem?_range hi] at hz
        cases hz
        have ix : i < xs.length := by omega
        have iy : i < ys.length := by omega
        have hx : xs[i]? = some (xs.getD i .non) := by rw [List.getD_eq_getElem?_getD, List.getElem?_eq_getElem ix]; rfl
        have hy : ys[i]? = some (ys.getD i .non) := by rw [List.getD_eq_getElem?_getD, List.getElem?_eq_getElem iy]; rfl
        obtain ⟨gx, px⟩ := zd_go z1 (ru.mono s1) s2 hx
        obtain ⟨gy, py⟩ := zd_go z2 (rv.mono s1) s2 hy
        refine ⟨⟨gx, gy⟩, fun w H3 ⟨p, x, y, e1, e2, e3, ex, ey⟩ => ?_⟩
        subst e1 e3
        have g3 : Grow Hf2 H2 (upd Hf2 p (.tup [x, y])) (upd H2 p (.tup [x, y])) := .alloc s2 e2
        exact ⟨_, g3, .tup (.inl (.inl upd_same)) (.cons ((px x ex).mono g3.frz) (.cons ((py y ey).mono g3.frz) .nil))⟩
      · have hi : i = min xs.length ys.length := by
          unfold zipD at hi
          rw [List.length_map, List.length_range] at hi
          exact hi
        by_cases hl : xs.length ≤ ys.length
        · have : i = xs.length := by omega
          subst this
          exact .inl (zd_fin z1 (ru.mono s1) s2)
        · have : i = ys.length := by omega
          subst this
          have ix : ys.length < xs.length := by omega
          exact .inr ⟨(zd_go z1 (ru.mono s1) s2 (List.getElem?_eq_getElem ix)).1, zd_fin z2 (rv.mono s1) s2⟩⟩
end
end Sg
namespace Sg
open PySem PySem.Spec PyProof.Rows L2
section
variable {X : Cx} {G : Gr} {E : XK} {dl : List Slot} {a b e i o : Expr} {d : Dt} {pos p : Pos} {k x : Str} {kds : List (Key × Dt)} {sts : List Stmt} {ou : Out}
theorem ee_dgetF (hu : X.A.units + 1 < cLine) (ho : EE X G dl o (.dicF kds)) (hi : EE X G dl i (.str k)) (h : valD kds (.inr k) = some d) (hs : NoSl i) : EE X G dl (.Subscript o i pos) d :=
  peI (pe_dget hu ho hi hs) fun st H Q ⟨Hf, S, kk⟩ => ⟨Hf, S, fun v Hf1 H1 g1 r1 => ⟨Hf1, S.grow g1, fun w Hf2 H2 g2 r2 => by
    cases r2
    cases r1 with
    | @dicF q ob kvs _ hq rp =>
      obtain ⟨y, z1, z2⟩ := rp.val h
      have e : DGet H2 q (kV (.inr k)) (valV kvs (.inr k)) := .inl ⟨kvs, .inr k, .inr (.inl ⟨ob, g2.big _ _ (g1.sub _ _ hq)⟩), rfl, rfl⟩
      rw [z1] at e
      exact ⟨q, y, rfl, e, kk y Hf2 H2 (g1.trans g2) (z2.mono g2.frz)⟩⟩⟩
end
end Sg
namespace Sg
open PySem PySem.Spec PyProof.Rows L2
section
variable {prog : Program} {w : World} {A : Around} {E : Value → Shared → Prop} {h : Heap} {g : Array GenState} {d : Drawn} {t : Nat} {os : OsState}
variable {nm q : Str} {C N : Addr} {bs bm bmB bmN : List Value} {hdct : Bool} {sn : List Str} {sub : List Value} {ab : Bool} {col : Option Bool} {dd : Option Addr} {k0 k1 k2 k3 k5 : Option Value} {B Bn newId nid initId inN : String}
end
end Sg
namespace Sg
open PySem PySem.Spec PyProof.Rows L2
def exO (C t : Addr) (od : Option Addr) : Obj := { cls := .ref C, dict := od, data := .fields #[.ref t, .none, .none, .none, .bool false, .none] }
def ExB (h : Heap) (e C : Addr) (od : Option Addr) : Prop := ∃ t : Addr, h.get? e = some (exO C t od)
section
variable {prog : Program} {w : World} {A : Around} {E : Value → Shared → Prop} {h : Heap} {g : Array GenState} {d : Drawn} {t : Nat} {os : OsState}
variable {nm q : Str} {C N : Addr} {bs bm bmB bmN : List Value} {hdct : Bool} {sn : List Str} {sub : List Value} {ab : Bool} {col : Option Bool} {dd : Option Addr} {k0 k1 k2 k3 k5 : Option Value} {B Bn newId nid initId inN : String}
structure StX (K : PySem.W.Frag) (C : Addr) (f : Str) : Prop where
  sa : PySem.W.findIn K (.ref C) "__setattr__" = some (some (.builtin "object.__setattr__"))
  na : PySem.W.findIn K (.ref C) f = some none
  ob : PySem.W.mroIn K C (.type "object") = some true
  mr : ∃ G, (PySem.W.clsIn K C).map (·.mro) = some [.ref C, .ref G, .type "ValueError", .type "Exception", .type "BaseException", .type "object"]
  hd : (PySem.W.clsIn K C).map (·.hasDict) = some true
end
section
variable {prog : Program} {w : World} {A : Around} {E : Value → Shared → Prop} {K : PySem.W.Frag} {C e t0 : Addr} {f : Str} {v : Value} {s : Shared}
open Builtin Builtin.ObjectAttr
end
def excInI (K : PySem.W.Frag) (C : Addr) (bmB : List Value) (nw : String) (fI : Addr) : Bool := match K.lookup C with
  | some ⟨.type "type", _, .cls cd, sl⟩ => (match cd.mro, sl.toList with
    | .ref D :: tl, [_, _, _, _, some (.builtin n), _] => D == C && (n == nw && (!cd.hasDel && (PySem.W.tailIn K bmB tl && (PySem.W.nsOkIn K cd.ns && (PySem.W.nsIn K cd.ns "__init__" == some (some (.ref fI)))))))
    | _, _ => false)
  | _ => false
structure XcI (K : PySem.W.Frag) (C fI : Addr) : Prop where
  ex : excInI K C bmV "ValueError.__new__" fI = true
  fn : PySem.W.typeIn K (.ref fI) = some (.type "function")
  kp : PySem.W.keepIn K (.ref C) = true
structure XcB (K : PySem.W.Frag) (G : Addr) : Prop where
  sp : PySem.W.specialIn K (.ref G) "__getattribute__" = some (some (.builtin "type.__getattribute__"))
  rd : PySem.W.readsIn K G (.type "type") = true
  fc : PySem.W.findCls K (.ref G) (.type "type") "__init__" = some (.val (.builtin "ValueError.__init__"))
abbrev xT (z C : Addr) (od : Option Addr) : HO := .ext fun h => ExB h z C od
section
variable {X : Cx} {C fI G z : Addr} {a b e : Expr} {es : List Expr} {p p1 p3 pos apos cpos : Pos} {gN x f : Str} {ta tv : TE} {t : TA} {pl : Sem Bool}
end
section
variable {prog : Program} {w : World} {A : Around} {E : Value → Shared → Prop} {K : PySem.W.Frag} {C e t0 : Addr} {f : Str} {v : Value} {s : Shared}
end
section
variable {X : Cx} {pins : List (Addr × Obj)} {σ : List (Option V)} {H : Hp} {s : Shared} {h' : Heap} {C z dx : Addr} {o : HO}
end
section
variable {X : Cx} {C fI G z : Addr} {a b e value o : Expr} {es : List Expr} {p p1 p3 pos apos cpos pos' : Pos} {gN x f : Str} {ta tv : TE} {t : TA} {pl : Sem Bool}
end
end Sg
namespace Sg
open PySem PySem.Spec PyProof.Rows L2
section
variable {X : Cx} {G : Gr} {dl : List Slot} {e : Expr} {y : Str} {i : Int} {pos p1 p2 : Pos}
end
def spX (K : PySem.W.Frag) (C : Addr) (f : Str) (ok : Dt → Prop) : Sp := fun vs H Q E => ∃ Hf H1 z v d, vs = [.ref z, v] ∧ H = upd H1 z (xT z C none) ∧ H1 z = none ∧ Same Hf H1 ∧ Rep K Hf v d ∧ ok d ∧
  ∀ Hf2 H2 dx, Grow Hf H Hf2 H2 → H2 dx = none → dx ≠ z → Q .non (upd (upd H2 dx (.xd [(f, v)])) z (xT z C (some dx)))
section
variable {X : Cx} {C fI Gc : Addr} {a tx : Expr} {p1 p2 p3 p4 pos pos' apos apos' cpos : Pos} {gN an sn f y : Str} {d : Dt} {pl : Sem Bool}
end
structure XF (P : Program) (w : World) (K : PySem.W.Frag) (mg : Str → Option Value) (base : Heap) (CX : CXT) (k : Nat) (x : Str) (C : Addr) (f : Str) (ok : Dt → Prop) : Prop where
  ex : ∃ fI fd ps, FnOk P w K mg base CX k fI fd ps (spX K C f ok) ∧ XcI K C fI ∧ mg x = some (.ref C) ∧ Binds K fd ps []
section
variable {X : Cx} {G : Gr} {E : XK} {dl : List Slot} {C : Addr} {e : Expr} {p pos np cpos : Pos} {x f : Str} {d : Dt} {ok : Dt → Prop} {CX : CXT} {k k' : Nat} {t : TA}
end
end Sg
namespace Sg
open PySem PySem.Spec PyProof.Rows L2
section
variable {P : Program} {w : World} {K : PySem.W.Frag} {mg : Str → Option Value} {base : Heap} {N : List Str} {qual : Str} {scope : Scope} {f : Addr} {cd : Value} {A : Around} {outer : List Env} {s0 : Shared} {H0 : Hp} {E : XK} {G : Gr}
end
section
variable {X : Cx} {G : Gr} {E : XK} {dl : List Slot} {C : Addr} {e : Expr} {p pos np cpos : Pos} {x f : Str} {d : Dt} {ok : Dt → Prop} {CX : CXT} {k k' : Nat} {t : TA}
end
section
variable {X : Cx} {G : Gr} {E : XK} {dl : List Slot} {C : Addr} {e : Expr} {pos : Pos} {f : Str} {d : Dt} {fs : List (Str × Dt)}
end
section
variable {X : Cx} {pins pins' : List (Addr × Obj)} {st : L2.St} {H H' : Hp} {s s' : Shared} {h2 B : Heap} {ea t : Addr} {C D : Addr} {xe : Value → Shared → Prop} {G : Gr} {Hf : Hp}
end
end Sg
namespace Sg
open PySem PySem.Spec PyProof.Rows L2
section
variable {P : Program} {w : World} {K : PySem.W.Frag} {mg : Str → Option Value} {base : Heap} {CX : CXT} {x qual : Str} {st : Stmt} {f : Addr} {fd : FuncData} {N ps : List Str} {k n : Nat} {R : List Dt → Res → Prop}
end
section
variable {X : Cx} {G : Gr} {E : XK} {dl : List Slot} {a b e : Expr} {es : List Expr} {ds dvs : List Dt} {pos p apos pos' : Pos} {x m y : Str} {C : Addr} {fs fe : List (Str × Dt)} {k k' n : Nat} {R : List Dt → Res → Prop} {ob : Expr} {c : Value}
end
section
variable {X : Cx} {dl : List Slot} {a b e c : Expr} {es : List Expr} {ds dvs : List Dt} {pos p apos py : Pos} {x m y : Str} {C Co : Addr} {fs fe : List (Str × Dt)} {k k' n : Nat} {R : List Dt → Res → Prop} {ob : Expr}
end
end Sg
namespace Sg
open PySem PySem.Spec PyProof.Rows L2
section
variable {X : Cx} {pins : List (Addr × Obj)} {σ : L2.St} {H : Hp} {s : Shared} {h' : Heap} {z : Addr} {ph : Heap → Prop}
end
section
variable {X : Cx} {G : Gr} {E : XK} {dl : List Slot} {C : Addr} {e : Expr} {p pos apos cpos : Pos} {x : Str} {d : Dt} {ds ds2 : List Dt}
end
end Sg
namespace Sg
open PySem PySem.Spec PyProof.Rows L2
section
variable {X : Cx} {G : Gr} {dl : List Slot} {a : Expr} {ta : TA} {j : Int} {pos p p2 pos2 : Pos}
end
end Sg
namespace Sg
open PySem PySem.Spec PyProof.Rows L2
section
variable {X : Cx} {G : Gr} {E : XK} {dl : List Slot} {a b c e o : Expr} {ta : TA} {i j : Int} {pos p p2 pos2 : Pos} {tg : Expr} {d : Dt} {kds : List (Key × Dt)} {x : Str}
end
end Sg
namespace Sg
open PySem PySem.Spec PyProof.Rows L2
section
variable {K : PySem.W.Frag} {G : Gr} {st : L2.St} {Hf H Hf' H' : Hp} {dl : List Slot} {p : Addr} {w : Own} {u : HO}
end
section
variable {X : Cx} {G : Gr} {E : XK} {dl : List Slot} {e : Expr} {w : Own} {ds : List Dt}
end
end Sg
namespace Sg
open PySem PySem.Spec PyProof.Rows L2
mutual
def noL : Dt → Bool
  | .lst _ => false
  | .scr _ => false
  | .tup ds => noLs ds
  | .dic kds => noLk kds
  | .obj _ fs => noLf fs
  | .dicF _ => false
  | .xo _ => false
  | .xof _ _ => false
  | .dicK _ => false
  | .memo _ _ _ _ => false
  | .memoY _ _ _ _ => false
  | .kno _ _ _ => false
  | .gro _ _ _ _ _ => false
  | _ => true
def noLs : List Dt → Bool
  | [] => true
  | d :: r => noL d && noLs r
def noLk : List (Key × Dt) → Bool
  | [] => true
  | (_, d) :: r => noL d && noLk r
def noLf : List (Str × Dt) → Bool
  | [] => true
  | (_, d) :: r => noL d && noLf r
end
section
variable {X : Cx} {G : Gr} {E : XK} {dl : List Slot} {e c a : Expr} {ds xs : List Dt} {C : Addr} {fs : List (Str × Dt)} {x y : Str} {pos p' px pn apos cpos : Pos} {sts : List Stmt}
end
end Sg
namespace Sg
open PySem PySem.Spec PyProof.Rows L2
section
variable {X : Cx} {dl : List Slot} {a b e c : Expr} {es : List Expr} {ds : List Dt} {pos p : Pos} {x : Str} {C Co : Addr} {fe : List (Str × Dt)} {k k' n : Nat} {R : List Dt → Res → Prop}
end
section
variable {X : Cx} {G : Gr} {dl : List Slot} {a b : Expr} {z : Int} {zs : List Int} {pos : Pos}
end
end Sg
namespace Sg
open PySem PySem.Spec PyProof.Rows L2
section
variable {X : Cx} {G : Gr} {dl : List Slot} {e : Expr} {lo hi : Option Expr} {l u : Option Int} {ds : List Dt} {p2 pos : Pos}
end
section
variable {X : Cx} {G : Gr} {E : XK} {dl : List Slot} {a e : Expr} {d : Dt} {ds : List Dt} {x : Str} {apos cpos pos : Pos}
end
end Sg
namespace Sg
open PySem PySem.Spec PyProof.Rows L2
structure RoomH (k : Nat) (A : Around) : Prop where
  dp : A.depth + 3 * k + 5 < recursionLimit
  un : A.units + 16 * k + 200 < cLine
structure FnOkH (P : Program) (w : World) (K : PySem.W.Frag) (mg : Str → Option Value) (base : Heap) (CX : CXT) (k : Nat) (f : Addr) (fd : FuncData) (ps : List Str) (sp : Sp) : Prop where
  len : ∀ vs H Q E, sp vs H Q E → vs.length = ps.length
  run : ∀ (A : Around) (outer : List Env) (s : Shared) (H : Hp) (args : Args) (us : List Value) (vs : List V) (Q : VK) (E : XK), RoomH k A → Env0 P w K mg base A outer s H → BindsTo s fd args (ps.zip us) → Vals vs us → sp vs H Q E →
    codeAny (model P w) A (.call (.ref f) args) (CR CX outer P w H s Q E) s
structure GFH (P : Program) (w : World) (K : PySem.W.Frag) (mg : Str → Option Value) (base : Heap) (CX : CXT) (k : Nat) (x : Str) (n : Nat) (R : List Dt → Res → Prop) : Prop where
  ex : ∃ f fd ps, FnOkH P w K mg base CX k f fd ps (spR K n R) ∧ mg x = some (.ref f) ∧ PySem.W.keepIn K (.ref f) = true ∧ Binds K fd ps []
section
variable {X : Cx} {G : Gr} {E : XK} {dl : List Slot} {e : Expr} {es : List Expr} {ds : List Dt} {d : Dt} {pos p : Pos} {x : Str} {k k' n : Nat} {R : List Dt → Res → Prop} {CX : CXT} {f : Addr} {fd : FuncData} {ps : List Str} {sp : Sp} {t : TA}
end
section
variable {X : Cx} {G : Gr} {dl : List Slot} {a b : Expr} {C : Addr} {Cs : List Addr} {r : Bool} {pos p : Pos}
end
end Sg
namespace Sg
open PySem PySem.Spec PyProof.Rows L2
section
variable {X : Cx} {G : Gr} {E : XK} {dl : List Slot} {a e : Expr} {d : Dt} {ds : List Dt} {x : Str} {apos cpos pos : Pos} {k : Nat}
variable {dvs : List Dt} {C : Addr} {fs fe : List (Str × Dt)} {k' nn : Nat} {R : List Dt → Res → Prop} {ob : Expr} {c : Value} {m : Str}
end
end Sg
namespace Sg
open PySem PySem.Spec PyProof.Rows L2
section
variable {X : Cx} {pins pins' : List (Addr × Obj)} {st : L2.St} {H H' : Hp} {s s' : Shared} {h2 B : Heap} {ea t : Addr} {C D : Addr} {xe : Value → Shared → Prop} {G : Gr} {Hf : Hp}
end
section
variable {X : Cx} {dl : List Slot} {a b e c : Expr} {es : List Expr} {ds dvs : List Dt} {pos p apos py : Pos} {x m y : Str} {C Co : Addr} {fs fe : List (Str × Dt)} {k k' n : Nat} {R : List Dt → Res → Prop} {ob : Expr}
end
section
variable {X : Cx} {G : Gr} {E : XK} {dl : List Slot} {elt tg iter : Expr} {ifs : List Expr} {sc : Scope} {N tn : List Str} {ix : List Nat} {pos : Pos} {c : Value} {fe : List (Str × Dt)} {wi : TI}
end
end Sg
namespace Sg
open PySem PySem.Spec PyProof.Rows L2
theorem keys_none_list : typeLookup (.type "list") "keys" = pure none := am_miss_of_fast (by decide +kernel)
theorem list_keys {prog : Program} {w : World} {A : Around} {E : Value → Shared → Prop} {s : Shared} {a : Addr} {o : Obj} {xs : Array Value} {k : Nat} {Q : Option Value → Shared → Prop} (hx : s.heap.get? a = some o) (hc : o.cls = .type "list") (hdat : o.data = .seq xs k) (hd : o.dict = none) (hA : A.handled = none) (h : ∀ h' tk, (∀ b u, s.heap.get? b = some u → h'.get? b = some u) → Q none { s with heap := h', toks := tk }) : wpAny (model prog w) A (getAttr? (.ref a) "keys") Q E s := by
  obtain ⟨c, dct, dat, sl⟩ := o
  simp only at hc hdat hd
  subst hc hdat hd
  obtain ⟨hp, g, d, tk, os⟩ := s
  have hT : ∀ tk', (⟨hp, g, d, tk', os⟩ : Shared).TypeIs (.ref a) "list" := fun _ => ⟨_, hx, rfl⟩
  have f1 := sub_AttributeError
  have f3 := F.slot_list_getattribute.lookup
  have f4 := F.slot_list_getattribute.bind (.ref a)
  have f5 := am_list_getattr_none
  unfold getAttr? getAttrBy? getAttrBy
  repeat (any_goals (first | assumption | exact hT _ | ((with_reducible show wpAny _ _ (call (Value.builtin "list.__getattribute__") _ _) _ _ _); refine call_meets F.slot_list_getattribute (hT _) am_entry_list_getattribute (F.args_list_getattribute_2 _ _) (meets_getattribute_miss_list a xs k sl "keys" _ keys_none_list (by decide +kernel)) ⟨hx, hA, fun h' tk' e hx' => ?_⟩) | wp_step))
  obtain ⟨t', u', he⟩ := hx'.there
  show wpAny _ _ (getattributeRaised _ _ _ _ _ _ _) _ _ _
  unfold getattributeRaised
  repeat (any_goals (first | assumption | wp_step))
  exact h _ _ hx'.keeps
theorem plain_updloop : plainId "dict.update.loop" = true := by decide +kernel
theorem entry_updloop : entryFor table "dict.update.loop" = some Builtin.«dict.update.loop» := entryFor_of_fast (by kernel_rfl)
inductive Prs (K : PySem.W.Frag) (H : Hp) : List V → List (Key × V) → Prop
  | nil : Prs K H [] []
  | cons {t : Addr} {k : Key} {v : V} {xs : List V} {kvs : List (Key × V)} : SqT K H t [kV k, v] → Prs K H xs kvs → Prs K H (.ref t :: xs) ((k, v) :: kvs)
theorem Prs.length {K : PySem.W.Frag} {H : Hp} : ∀ {xs : List V} {kvs : List (Key × V)}, Prs K H xs kvs → xs.length = kvs.length
  | _, _, .nil => rfl
  | _, _, .cons _ r => congrArg (· + 1) (Prs.length r)
theorem Prs.get {K : PySem.W.Frag} {H : Hp} : ∀ {xs : List V} {kvs : List (Key × V)} {i : Nat} {kv : Key × V}, Prs K H xs kvs → kvs[i]? = some kv → ∃ t, xs[i]? = some (.ref t) ∧ SqT K H t [kV kv.1, kv.2]
  | _, _, _, _, .nil, e => by simp at e
  | _, _, 0, _, .cons h _, e => by simp at e; subst e; exact ⟨_, rfl, h⟩
  | _, _, i + 1, _, .cons _ r, e => by
    obtain ⟨t, h1, h2⟩ := Prs.get (i := i) r (by simpa using e)
    exact ⟨t, by simpa using h1, h2⟩
theorem valV_noneOf {kvs : List (Key × V)} {k : Key} (h : k ∉ kvs.map (·.1)) : (valV kvs k).isSome = false := by
  induction kvs with
  | nil => rfl
  | cons p r ih =>
    have h1 : ¬ p.1 = k := fun e => h (by simp [e])
    rw [valV_neg h1]
    exact ih fun z => h (by simp at z ⊢; exact .inr z)
section
variable {X : Cx} {pins : List (Addr × Obj)} {σ : L2.St} {H : Hp} {A : Around} {R : Result → Shared → Prop} {L d it : Addr} {xs : List V} {kvs : List (Key × V)}
theorem upd_loop (hA : A.handled = none) (hL : SqL X.K H L xs) (hp : Prs X.K H xs kvs) (nd : (kvs.map (·.1)).Nodup) (hd : H d = none) (hf : FpOk X pins H it) (hdi : d ≠ it) (hz : kvs.length ≤ sizeLine) (hR : ∀ s', L2.Inv X pins σ (upd H d (.dK kvs)) s' → R (.ok (.ret .none)) s') : ∀ (k i : Nat) (s : Shared) (tk : Tok), kvs.length - i = k → i ≤ kvs.length → L2.Inv X pins σ (upd H d (.dK (kvs.take i))) s → s.heap.IsListIter it L i → codeAny (model X.prog X.w) A (.builtin "dict.update.loop" ⟨[.ref d, .ref it, .int i tk, .none], []⟩) R s := by
  have hlen := hp.length
  have sm : ∀ o, Same H (upd H d o) := fun o => same_upd hd
  obtain ⟨f0, f1, f2, f3, f4, f5⟩ := hf
  intro k
  induction k with
  | zero =>
    intro i s tk hk hi I st
    have hin : i = kvs.length := by omega
    subst hin
    obtain ⟨its, rv, p, hz'⟩ := I.list ((sm _).seq hL)
    have hl := rv.length
    refine codeAny_builtin entry_updloop ?_
    rw [Around.under_plainId plain_updloop _]
    show wpAny _ A.in1 (pyNext (.ref it) >>= _) _ _ s
    refine wpAny_bind (wpAny_pyNext_list_end (show A.in1.handled = none from hA) st p.isList (by simp; omega) fun h' eb => ?_)
    have I1 : L2.Inv X pins σ (upd H d (.dK (kvs.take kvs.length))) { s with heap := h' } := I.turned (t' := s.toks) (fun b o hb e => eb b o hb e) (by rw [upd_ne (Ne.symm hdi)]; exact f0) f1 f3 f4 f5
    rw [List.take_length] at I1
    show wpAny _ A.in1 (Builtin.Dict.addKeywords d [] >>= _) _ _ _
    exact wpAny_bind (wpAny_pure (wpAny_pure (hR _ I1)))
  | succ k ih =>
    intro i s tk hk hi I st
    have hlt : i < kvs.length := by omega
    obtain ⟨t, ht1, ht2⟩ := hp.get (List.getElem?_eq_getElem hlt)
    obtain ⟨its, rv, p, hz'⟩ := I.list ((sm _).seq hL)
    obtain ⟨u, hu, ru⟩ := rv.get ht1
    cases (show u = Value.ref t from ru)
    refine codeAny_builtin entry_updloop ?_
    rw [Around.under_plainId plain_updloop _]
    show wpAny _ A.in1 (pyNext (.ref it) >>= _) _ _ s
    refine wpAny_bind (wpAny_pyNext_list_item st p.isList (x := .ref t) (by simpa using hu) fun h' st' sb => ?_)
    have I1 : L2.Inv X pins σ (upd H d (.dK (kvs.take i))) { s with heap := h' } := I.turned (t' := s.toks) (fun b o hb e => (sb.2 b hb).trans e) (by rw [upd_ne (Ne.symm hdi)]; exact f0) f1 f3 f4 f5
    obtain ⟨pit, rp, pt, hzt⟩ := I1.tuple (SqT_same (sm _) ht2)
    cases rp with
    | cons rk rp => cases rp with
      | cons rv' rp =>
        cases rp
        rename_i ku vu
        obtain ⟨ot, eo, hcl, nn, hdt⟩ := pt
        refine wpAny_bind (wpAny_holding (wpAny_bind (wpAny_tryCatch ?_)))
        unfold Builtin.Dict.pairItems
        refine wpAny_bind (wpAny_typeOf (T := "tuple") ⟨_, eo, hcl⟩ ?_)
        simp only [show ((Value.type "tuple" == Value.type "list") || (Value.type "tuple" == Value.type "tuple")) = true by decide, if_true]
        refine wpAny_bind (wpAny_seqItems eo hdt (wpAny_pure ?_))
        show wpAny _ A.in1 (holding [ku, vu] (dictSet d ku vu)) _ _ _
        refine wpAny_holding ?_
        have ed : (upd H d (HO.dK (kvs.take i))) d = some (.dK (kvs.take i)) := upd_same
        obtain ⟨z, hdm, vs, rel, dd⟩ := dk_of I1.hok ed
        have hzv : vs.length ≤ sizeLine := by rw [← rel.length]; exact z
        have enew : putK (kvs.take i) kvs[i].1 kvs[i].2 = kvs.take (i + 1) := by
          rw [put_new (valV_noneOf ?_), List.take_succ, List.getElem?_eq_getElem hlt]; rfl
          rw [List.map_take]
          intro hm
          obtain ⟨j, hj, e⟩ := List.mem_iff_getElem.mp hm
          rw [List.length_take, List.length_map] at hj
          rw [List.getElem_take, List.getElem_map] at e
          have := List.pairwise_iff_getElem.mp nd j i (by rw [List.length_map]; omega) (by rw [List.length_map]; omega) (by omega)
          rw [List.getElem_map, List.getElem_map] at this
          exact this e
        refine wpAny_dictSet_pairs (hsz := hzv) (kV_is rk) dd fun h2 dd' hs => ?_
        have he : ∃ q, h2.get? d = some q := let ⟨q, _, _, hq, _⟩ := dd'; ⟨q, hq⟩
        have I2 : L2.Inv X pins σ (upd (upd H d (.dK (kvs.take i))) d (.dK (putK (kvs.take i) kvs[i].1 kvs[i].2))) { s with heap := h2, toks := s.toks + 1 } := d_write (s := { s with heap := h' }) (t' := s.toks + 1) I1 (by rw [ed]; exact True.intro) hs he (dk_new (by rw [enew, List.length_take]; omega) hdm (rel.put _ rv') dd')
        rw [upd_upd, enew] at I2
        exact wpAny_pure ⟨plainId_quiet plain_updloop _, ih (i + 1) _ _ (by omega) (by omega) I2 (st'.at fun o e => (hs.2 it (Ne.symm hdi)).trans e)⟩
theorem call_dict_of (hc : X.calm = true) : CallR X (.type "dict") (fun xs H Q => ∃ L ys kvs, xs = [.ref L] ∧ H L = some (.lst ys) ∧ Prs X.K H ys kvs ∧ (kvs.map (·.1)).Nodup ∧ kvs.length ≤ sizeLine ∧ ∀ l, H l = none → Q (.ref l) (upd H l (.dK kvs))) := by
  intro pins s σ H xs us Q I r h
  obtain ⟨L, ys, kvs, rfl, hL, hp, nd, hz, q⟩ := h
  obtain ⟨u, rfl, rx⟩ := vals1 r
  cases rx
  refine callType_codes (Q₁ := fun obj s₁ => obj = .ref s.heap.objs.size ∧ s₁ = { s with heap := s.heap.push { cls := .type "dict", data := .dict #[] } }) F.kt_called_dict (F.kt_typeCall_dict_1 _) F.entry_dict_init (kt_code_dict_new _ ⟨rfl, rfl⟩) ?_
  rintro obj s₁ ⟨rfl, rfl⟩
  have hnew : (s.heap.push { cls := .type "dict", data := .dict #[] }).DictOf (mixKind X.prog X.w) s.heap.objs.size [] := Heap.DictOf.new s.heap
  have hn := I.hok.fresh (Nat.le_refl _)
  have I1 : L2.Inv X pins σ (upd H s.heap.objs.size (.dK [])) { s with heap := s.heap.push { cls := .type "dict", data := .dict #[] } } := I.laid (a := s.heap.objs.size) (o := .dK []) (t' := s.toks) (fun _ _ q => Heap.get?_push_of_some _ q) (Nat.le_refl _) (dk_empty s.heap I.big)
  refine ⟨hnew.typeIs, F.args_dict_init_2 _ _, ?_⟩
  unfold Builtin.«dict.__init__»
  refine wpAny_bind ?_
  unfold Builtin.Dict.selfAndRest
  refine wpAny_bind (wpAny_notOrdered_dict hnew.typeIs ?_)
  show wpAny _ _ (pure (s.heap.objs.size, [Value.ref L])) _ _ _
  refine wpAny_pure ?_
  show wpAny _ _ (Builtin.Dict.updateFrom "dict.__init__" s.heap.objs.size (.ref L) [] .none) _ _ _
  unfold Builtin.Dict.updateFrom
  have hdL : s.heap.objs.size ≠ L := fun e => by rw [← e, hn] at hL; cases hL
  have hL1 : (upd H s.heap.objs.size (HO.dK [])) L = some (.lst ys) := by rw [upd_ne (Ne.symm hdL)]; exact hL
  obtain ⟨hz', its, n, rv, eL⟩ := (show ObjOk X.prog X.w _ _ L (.lst ys) from I1.hok L _ hL1)
  have hA : X.A.handled = none := I.ok.hd hc
  refine wpAny_bind (wpAny_typeOf (T := "list") ⟨_, eL, rfl⟩ ?_)
  rw [if_pos (by decide)]
  refine wpAny_bind (list_keys eL rfl rfl rfl (by exact hA) fun h1 tk1 kp1 => ?_)
  rw [if_pos (by rfl)]
  have I2 : L2.Inv X pins σ (upd H s.heap.objs.size (.dK [])) { s with heap := h1, toks := tk1 } := I1.kept (t' := tk1) kp1
  have eL2 : h1.get? L = some { cls := .type "list", data := .seq its.toArray n } := kp1 _ _ eL
  refine wpAny_bind (wpAny_rule (wpAny_bind (wpAny_pyIter_list (s := { s with heap := h1, toks := tk1 }) (items := its.toArray) ⟨_, eL2, rfl, n, rfl⟩ ?_)))
  have I3 : L2.Inv X pins σ (upd H s.heap.objs.size (.dK [])) { s with heap := h1.push { cls := .type "list_iterator", data := .fields #[.ref L, .int 0 0] }, toks := tk1 } := I2.kept (t' := tk1) fun b o e => Heap.get?_push_of_some _ e
  have hsz : s.heap.objs.size < h1.objs.size := I2.hok.lt upd_same
  have hlo : s.heap.objs.size ≤ h1.objs.size := Nat.le_of_lt hsz
  have hnit : H h1.objs.size = none := by
    have := I2.hok.fresh (Nat.le_refl h1.objs.size)
    rw [upd_ne (Nat.ne_of_gt hsz)] at this
    exact this
  refine wpAny_pure ⟨plainId_quiet plain_updloop _, upd_loop (kvs := kvs) (by exact hA) (.of hL) hp nd hn (I2.fpOk (b := h1.objs.size) (Nat.le_refl _) hnit) (Nat.ne_of_lt hsz) hz (fun s' I' => ⟨rfl, .ref _, _, I', rfl, q _ hn⟩) kvs.length 0 _ _ (by omega) (by omega) I3 ⟨_, Heap.get?_push_size _ rfl, rfl, rfl⟩⟩
end
section
variable {X : Cx} {G : Gr} {E : XK} {dl : List Slot} {a e : Expr} {pos p : Pos} {kds : List (Key × Dt)}
def prD (kd : Key × Dt) : Dt := .tup [kD kd.1, kd.2]
theorem prs_of {K : PySem.W.Frag} {Hf H : Hp} (sm : Same Hf H) : ∀ {ys : List V} {kds : List (Key × Dt)}, Reps K Hf ys (kds.map prD) → ∃ kvs, Prs K H ys kvs ∧ RepK K Hf kvs kds
  | _, [], .nil => ⟨[], .nil, .nil⟩
  | _, (k, d) :: kds, .cons r t => by
    obtain ⟨kvs, h1, h2⟩ := prs_of sm t
    cases r with
    | @tup a vs _ hs rp =>
      cases rp with
      | @cons v1 _ _ _ r1 r2 => cases r2 with
        | @cons v2 _ _ _ r2 r3 =>
          cases r3
          have e1 : v1 = kV k := by
            cases k with
            | inl i => cases r1; rfl
            | inr x => cases r1; rfl
          subst e1
          exact ⟨(k, v2) :: kvs, .cons (SqT_same sm hs) h1, .cons r2 h2⟩
theorem RepK.keys {K : PySem.W.Frag} {H : Hp} : ∀ {v : List (Key × V)} {d : List (Key × Dt)}, RepK K H v d → v.map (·.1) = d.map (·.1)
  | _, _, .nil => rfl
  | _, _, .cons _ r => by rw [List.map_cons, List.map_cons, RepK.keys r]
theorem eo_dictL (hm : X.mg "dict" = none) (hc : X.calm = true) (ha : EE X G dl a (.lst (kds.map prD))) (nd : (kds.map (·.1)).Nodup) (hz : kds.length ≤ sizeLine) (hg : Gl X "dict" := by rfl) (he : starEach [a] X.env = [(false, eval a X.env)] := by rfl) : EO X G dl (.Call (.Name "dict" p) [a] [] pos) (.dic kds) :=
  peI (pe_callTy (call_dict_of hc) hg hm boot_dict (ea_cons ha ea_nil he) (he := he)) fun st H Q ⟨Hf, S, k⟩ => ⟨Hf, S, fun vs Hf1 H1 g1 r1 => by
    cases r1 with
    | cons r t => cases t; cases r with
      | @lst q vs _ z r =>
        obtain ⟨kvs, h1, h2⟩ := prs_of g1.sub r
        exact ⟨q, vs, kvs, rfl, g1.sub _ _ z, h1, by rw [h2.keys]; exact nd, by rw [h2.length]; exact hz, fun l hl => k l Hf1 _ (g1.trans (.allocO g1.sub hl)) (g1.big.free hl) (g1.sub.free hl) ⟨kvs, upd_same, h2⟩⟩⟩
theorem mt_countS : MtR X "str.count" (fun x vs H Q => ∃ z y : Str, x = .str z ∧ vs = [.str y] ∧ Q (.int (Txt.count z y)) H) := by
  intro pins s σ H x vs v us Q I rx rv ⟨z, y, e1, e2, q⟩
  subst e1 e2
  obtain ⟨t, rfl⟩ := (show ∃ t, v = Value.str z t from rx)
  obtain ⟨u, rfl, ru⟩ := vals1 rv
  obtain ⟨t', rfl⟩ := (show ∃ t, u = Value.str y t from ru)
  exact PySem.SC.count ⟨.int (Txt.count z y), H, I.tok _, ⟨_, rfl⟩, q⟩
end
end Sg
namespace Sg
open PySem PySem.Spec PyProof.Rows L2
section
variable {prog : Program} {w : World} {A : Around} {E : Value → Shared → Prop} {s : Shared}
inductive SameI : List (Key × Value) → List (Key × Value) → Prop
  | nil : SameI [] []
  | cons {k : Key} {i : Int} {t u : Tok} {xs ys : List (Key × Value)} : SameI xs ys → SameI ((k, .int i t) :: xs) ((k, .int i u) :: ys)
end
end Sg
namespace Sg
open PySem PySem.Spec PyProof.Rows L2
theorem upd_self {H : Hp} {q : Addr} {o : HO} (h : H q = some o) : upd H q o = H := by
  funext b
  by_cases e : b = q
  · subst e; rw [upd_same, h]
  · rw [upd_ne e]
section
variable {K : PySem.W.Frag} {G : Gr} {st : L2.St} {Hf H : Hp} {dl : List Slot} {n : Nat} {kds : List (Key × Dt)}
end
section
variable {X : Cx} {G : Gr} {E : XK} {dl : List Slot} {e c a b : Expr} {x y : Str} {pos p' px pn apos cpos : Pos} {sts : List Stmt} {kds : List (Key × Dt)}
def dI (kds : List (Key × Int)) : List (Key × Dt) := kds.map fun kd => (kd.1, Dt.int kd.2)
theorem repI {K : PySem.W.Frag} {H : Hp} : ∀ {kds : List (Key × Int)} {kvs : List (Key × V)}, RepK K H kvs (dI kds) → kvs = kds.map fun kd => (kd.1, V.int kd.2)
  | [], _, .nil => rfl
  | (k, i) :: kds, _, .cons r t => by
    cases r
    rw [repI (kds := kds) t]; rfl
theorem ee_countS {z w : Str} (ha : EE X G dl a (.str z)) (hb : EE X G dl b (.str w)) (hbase : attributeBase a "count" X.env (eval a X.env) = eval a X.env := by rfl)
    (hfew : ((backTo cpos (starEach [b] X.env)).all (fun x => !x.1) && (backToKw cpos (keywordEach [] X.env)).all (fun x => x.1.isSome) && decide ([b].length + ([] : List Keyword).length + (if ([] : List Keyword).isEmpty then 0 else 1) < 30)) = true := by rfl)
    (hline : (apos.endLine == cpos.line) = true := by rfl) (hst : starEach [b] X.env = (false, eval b X.env) :: starEach [] X.env := by rfl) : EE X G dl (.Call (.Attribute a "count" apos) [b] [] cpos) (.int (Txt.count z w)) :=
  peI (pe_bm PySem.F.plainAttrs_str PySem.F.slot_str_count PySem.F.type_str_count mt_countS ha (ea_cons hb ea_nil hst) hbase hfew hline hst rfl) fun st H Q ⟨Hf, S, k⟩ => ⟨Hf, S, fun v Hf1 H1 g1 r1 => by
    cases r1
    exact ⟨rfl, Hf1, S.grow g1, fun vs Hf2 H2 g2 r2 => by
      cases r2 with
      | cons r t => cases t; cases r; exact ⟨z, w, rfl, rfl, k _ Hf2 H2 (g1.trans g2) (.int _)⟩⟩⟩
end
end Sg
namespace Sg
open PySem PySem.Spec PyProof.Rows L2
structure BlkC (X : Cx) (N : List Str) (xt : Str) (ix : List Nat) (sc : Scope) : Prop where
  nd : N.Nodup
  nm : N = xt :: ix.map (fun j => X.N.getD j "")
  kind : sc.kind = .function
  one : sc.names.filter (fun y => y.2 == .cell) = [(xt, .cell)]
  names : ∀ y ∈ sc.names, y.2 = .local → sc.names.lookup y.1 = some .local
  hx : sc.names.lookup xt = some .cell
  nofr : ∀ y ∈ sc.names, y.2 = .free → y.1 ≠ xt
  fr : ∀ y ∈ sc.names, y.2 = .free → X.env.kindOf y.1 = some .cell ∨ X.env.kindOf y.1 = some .free
  ixs : ∀ j ∈ ix, ∃ y, X.N[j]? = some y ∧ sc.names.lookup y = some .free
def blkC (X : Cx) (N : List Str) (sc : Scope) (xt : Str) (c C : Addr) (fp : List Addr) (s : Shared) (H : Hp) : Cx :=
  { X with N := N, s₀ := s, H₀ := H, env := compEnvC sc ((xt, c) :: clOf sc X.env) C X.env, outer := X.stack, stack := X.stack, ex := fp, fn := fun y => y == xt, pn := [], xe := nvr }
theorem no_cell : ∀ {names : List (Str × NameKind)} {acc : List (Str × Addr)} {n : Nat} {h : Heap}, names.filter (fun y => y.2 == .cell) = [] → cellsFrom n names acc = acc ∧ pushCells h names = h
  | [], _, _, _, _ => ⟨rfl, rfl⟩
  | (y, k) :: r, acc, n, h, e => by
    by_cases hk : (k == NameKind.cell) = true
    · rw [List.filter_cons_of_pos (by exact hk)] at e; cases e
    · rw [List.filter_cons_of_neg (by exact hk)] at e
      unfold cellsFrom pushCells
      rw [if_neg hk, if_neg hk]
      exact no_cell e
theorem one_cell {x : Str} : ∀ {names : List (Str × NameKind)} {acc : List (Str × Addr)} {n : Nat} {h : Heap}, names.filter (fun y => y.2 == .cell) = [(x, .cell)] → cellsFrom n names acc = (x, n) :: acc ∧ pushCells h names = h.push { cls := .type "cell", data := .cell none }
  | [], _, _, _, e => by cases e
  | (y, k) :: r, acc, n, h, e => by
    by_cases hk : (k == NameKind.cell) = true
    · rw [List.filter_cons_of_pos (by exact hk)] at e
      injection e with e1 e2
      cases e1
      unfold cellsFrom pushCells
      rw [if_pos hk, if_pos hk]
      exact no_cell e2
    · rw [List.filter_cons_of_neg (by exact hk)] at e
      unfold cellsFrom pushCells
      rw [if_neg hk, if_neg hk]
      exact one_cell e
theorem newEnvC {M : Model} {A : Around} {E : Value → Shared → Prop} {s : Shared} {sc : Scope} {globals : Addr} {cl : List (Str × Addr)} {qual : Str} {around : Env} {x : Str} {Q : Env → Shared → Prop} (h1 : sc.names.filter (fun y => y.2 == .cell) = [(x, .cell)]) (hQ : Q { scope := sc, locals := s.heap.objs.size, globals := globals, cells := (x, s.heap.objs.size + 1) :: cl, qual := qual, func := none, code := around.code, frame := around.frame, builtins := around.builtins } { s with heap := (s.heap.push { cls := .type "dict", data := .dict #[] }).push { cls := .type "cell", data := .cell none } }) : wpAny M A (newFunctionEnv sc globals cl [] qual none .none (some around)) Q E s := by
  simp only [newFunctionEnv, Option.isSome_some, if_true]
  refine wpAny_bind (wpAny_alloc ?_)
  refine wpAny_bind (wpAny_layCells _ (fun name kind cells => by cases hkc : kind == NameKind.cell <;> simp [hkc]) _ _ _ _ ?_)
  obtain ⟨e1, e2⟩ := one_cell (acc := cl) (n := (s.heap.push { cls := .type "dict", data := .dict #[] }).objs.size) (h := s.heap.push { cls := .type "dict", data := .dict #[] }) h1
  show wpAny M A (forIn [] PUnit.unit _ >>= _) Q E _
  rw [List.forIn_nil]
  refine wpAny_bind (wpAny_pure (wpAny_pure ?_))
  dsimp only
  rw [e1, e2, Heap.size_push]
  exact hQ
section
variable {X : Cx} {N : List Str} {xt : Str} {ix : List Nat} {sc : Scope} {pins : List (Addr × Obj)} {st : L2.St} {H H' : Hp} {s s' : Shared} {c C D : Addr} {fp : List Addr} {h1 : Heap}
theorem cloc_of (B : BlkC X N xt ix sc) (ok : X.Ok) : closureFor sc X.env = pure (clOf sc X.env) := clos_eq fun y hy hk => ok.has y.1 (B.fr y hy hk)
theorem clc_sub (B : BlkC X N xt ix sc) (ok : X.Ok) {y : Str} {c : Addr} (h : (clOf sc X.env).lookup y = some c) : X.env.cells.lookup y = some c ∧ (y, NameKind.free) ∈ sc.names := by
  rcases clGo_in _ _ h with ⟨h1, h2⟩ | h1
  · obtain ⟨c', h3⟩ := ok.has y (B.fr _ h1 rfl)
    rw [h3] at h2
    cases h2
    exact ⟨h3, h1⟩
  · cases h1
theorem cells_cons {y xt : Str} {c d : Addr} {cl : List (Str × Addr)} (h : ((xt, c) :: cl).lookup y = some d) : (y = xt ∧ d = c) ∨ (y ≠ xt ∧ cl.lookup y = some d) := by
  rw [List.lookup_cons] at h
  cases q : (y == xt) with
  | true => rw [q] at h; exact .inl ⟨by simpa using q, (Option.some.inj h).symm⟩
  | false => rw [q] at h; exact .inr ⟨by simpa using q, h⟩
theorem blkc_ok (B : BlkC X N xt ix sc) (I : L2.Inv X pins st H s) (hC : s.heap.objs.size ≤ C) (hc : s.heap.objs.size ≤ c) (hf : ∀ b ∈ fp, FpOk X pins H b) (hlt : ∀ b ∈ fp, b < s.heap.objs.size) : (blkC X N sc xt c C fp s H).Ok where
  mod := I.ok.mod
  kind := B.kind
  glob := I.ok.glob
  blt := I.ok.blt
  above := hC
  inj := fun y z d h1 h2 => by
    have old : ∀ {y : Str}, (clOf sc X.env).lookup y = some c → False := fun {y} h => by
      obtain ⟨v, q⟩ := I.cell y c (clc_sub B I.ok h).1
      exact absurd (Nat.lt_of_lt_of_le q.lt hc) (Nat.lt_irrefl _)
    rcases cells_cons h1 with ⟨e1, e2⟩ | ⟨e1, e2⟩ <;> rcases cells_cons h2 with ⟨e3, e4⟩ | ⟨e3, e4⟩
    · rw [e1, e3]
    · rw [e2] at e4; exact (old e4).elim
    · rw [e4] at e2; exact (old e2).elim
    · exact I.ok.inj y z d (clc_sub B I.ok e2).1 (clc_sub B I.ok e4).1
  has := fun y hy => by
    have hy : (relabel sc X.env).names.lookup y = some .cell ∨ (relabel sc X.env).names.lookup y = some .free := hy
    show ∃ d, ((xt, c) :: clOf sc X.env).lookup y = some d
    by_cases e : y = xt
    · subst e; exact ⟨c, by simp [List.lookup_cons]⟩
    · have nc : (y, NameKind.cell) ∉ sc.names := fun hm => by
        have : (y, NameKind.cell) ∈ sc.names.filter (fun y => y.2 == .cell) := List.mem_filter.mpr ⟨hm, rfl⟩
        rw [B.one] at this
        have := List.mem_singleton.mp this
        exact e (congrArg Prod.fst this)
      have : (y, NameKind.free) ∈ sc.names := by
        rcases hy with hy | hy
        · obtain ⟨k', h1, h2⟩ := relab_kind hy
          rcases h2 with h2 | h2
          · subst h2; exact absurd h1 nc
          · subst h2; exact h1
        · obtain ⟨k', h1, h2⟩ := relab_kind hy
          rcases h2 with h2 | h2 <;> subst h2 <;> exact h1
      obtain ⟨d, hd⟩ := clGo_has (cells := X.env.cells) sc.names [] (.inl this)
      refine ⟨d, ?_⟩
      rw [List.lookup_cons, show (y == xt) = false by simpa using e]
      exact hd
  cab := fun y d h1 h2 => by
    rcases cells_cons h2 with ⟨_, e⟩ | ⟨e, _⟩
    · rw [e]; exact hc
    · exact absurd (by have h1 : (y == xt) = true := h1; simpa using h1) e
  hd := I.ok.hd
  frames := I.ok.frames
  stk := .inl rfl
  exf := fun b hb => ⟨Nat.ne_of_lt (Nat.lt_of_lt_of_le (hlt b hb) hC), fun y d h => by
    rcases cells_cons h with ⟨_, e⟩ | ⟨_, e⟩
    · rw [e]; exact Nat.ne_of_gt (Nat.lt_of_lt_of_le (hlt b hb) hc)
    · exact (hf b hb).2.2.2.2.1 y d (clc_sub B I.ok e).1⟩
  bs := I.bs
  bsz := Nat.le_trans I.ok.bsz I.sz
  noex := fun b o e hb => by
    rcases (hf b hb).2.2.2.1 with z | z
    · exact I.ok.noex b o e z
    · exact absurd (Nat.lt_of_lt_of_le (Heap.lt_size e) (Nat.le_trans I.ok.bsz z)) (Nat.lt_irrefl _)
  exfs := fun b hb z => by
    rcases List.mem_cons.mp (I.stkSub b z) with z | z
    · exact (hf b hb).2.1 z
    · exact (hf b hb).2.2.1 z
  funs := I.stack
  frf := I.stkFree
theorem blkc_start (B : BlkC X N xt ix sc) (I : L2.Inv X pins st H s) (hf : ∀ b ∈ fp, FpOk X pins H b) (hlt : ∀ b ∈ fp, b < s.heap.objs.size) (hC : C = s.heap.objs.size + 1) (hcc : c = s.heap.objs.size + 2) (k : ∀ b o, s.heap.get? b = some o → h1.get? b = some o) (hn : h1.Ns C fun _ => none) (hce : h1.IsCell c none) (hD : h1.get? s.heap.objs.size = some { cls := .type "list", data := .seq ([] : List Value).toArray 0 }) {t' : Nat} : L2.Inv (blkC X N sc xt c C fp s H) [] (List.replicate 1 none ++ frees ix st) (upd H s.heap.objs.size (.lst [])) { s with heap := h1, toks := t' } := by
  have hC' : s.heap.objs.size ≤ C := by rw [hC]; exact Nat.le_succ _
  have hc' : s.heap.objs.size ≤ c := by rw [hcc]; exact Nat.le_add_right _ _
  have fr : ∀ a, s.heap.objs.size ≤ a → H a = none := fun a ha => I.hok.fresh ha
  have ok := blkc_ok (c := c) B I hC' hc' hf hlt
  have cne : ∀ y c, (clOf sc X.env).lookup y = some c → H c = none ∧ c < s.heap.objs.size ∧ ∃ v, s.heap.IsCell c v := fun y c h => by
    have h := (clc_sub B I.ok h).1
    obtain ⟨v, q⟩ := I.cell y c h
    exact ⟨I.freeC y c h, q.lt, v, q⟩
  refine ⟨ok, rfl, I.bare, Un.laid k (Nat.le_refl _) (fr _ (Nat.le_refl _)), ⟨_, hn, fun i y v e1 e2 e3 => ?_⟩, fun y d h => ?_, ?_, fun y d h => ?_, fun p hp => absurd (show p ∈ ([] : List (Addr × Obj)) from hp) (by simp), ?_, ?_⟩
  · have e1 : N[i]? = some y := e1
    cases i with
    | zero => cases e2
    | succ i =>
      rw [B.nm, List.getElem?_cons_succ, List.getElem?_map] at e1
      have e2 : (frees ix st)[i]? = some (some v) := e2
      unfold frees at e2
      rw [List.getElem?_map] at e2
      cases q : ix[i]? with
      | none => rw [q] at e1; cases e1
      | some j =>
        rw [q] at e1 e2
        obtain ⟨y', hy1, hyl⟩ := B.ixs j (List.mem_of_getElem? q)
        have hy2 := PySem.mem_of_lookup hyl
        have ey : y = y' := by
          have e1 : X.N.getD j "" = y := Option.some.inj e1
          rw [List.getD_eq_getElem?_getD, hy1] at e1
          exact e1.symm
        subst ey
        have e2 : (st[j]?).join = some v := Option.some.inj e2
        have e2' : st[j]? = some (some v) := by
          cases q2 : st[j]? with
          | none => rw [q2] at e2; cases e2
          | some z => rw [q2] at e2; rw [show z = some v from e2]
        have kd := B.fr _ hy2 rfl
        have nx : y ≠ xt := B.nofr _ hy2 rfl
        have vis : Vis X.env.scope y := by
          rcases kd with z | z
          · exact .inr (.inl z)
          · exact .inr (.inr z)
        obtain ⟨m, _, hl⟩ := I.loc
        obtain ⟨u, r, l⟩ := hl j y v hy1 e2' vis
        refine ⟨u, r, .inr ?_⟩
        rcases l with ⟨z, _⟩ | ⟨_, d, hd, ic⟩
        · rcases kd with z' | z' <;> rw [z] at z' <;> cases z'
        · obtain ⟨d', hd'⟩ := clGo_has (cells := X.env.cells) sc.names [] (.inl hy2)
          have := (clc_sub B I.ok hd').1
          rw [hd] at this; cases this
          obtain ⟨oc, hoc, hdd⟩ := ic
          refine ⟨?_, d, ?_, oc, k _ _ hoc, hdd⟩
          · rcases e3 with e3 | e3 | e3
            · have e3 : (relabel sc X.env).names.lookup y = some .local := e3
              rcases relab_free (env := X.env) hyl with z | z
              · exact absurd (e3.symm.trans z) (by decide)
              · exact absurd (e3.symm.trans z) (by decide)
            · exact .inl e3
            · exact .inr e3
          · show ((xt, c) :: clOf sc X.env).lookup y = some d
            rw [List.lookup_cons, show (y == xt) = false by simpa using nx]
            exact hd'
  · rcases cells_cons h with ⟨_, e⟩ | ⟨_, e⟩
    · rw [e]; exact ⟨none, hce⟩
    · obtain ⟨_, _, v, oc, hoc, hd⟩ := cne y d e
      exact ⟨v, oc, k _ _ hoc, hd⟩
  · show upd H s.heap.objs.size (.lst []) C = none
    rw [upd_ne (by rw [hC]; exact Nat.succ_ne_self _)]
    exact fr _ hC'
  · show upd H s.heap.objs.size (.lst []) d = none
    rcases cells_cons h with ⟨_, e⟩ | ⟨_, e⟩
    · rw [e, upd_ne (by rw [hcc]; exact Nat.ne_of_gt (Nat.lt_add_of_pos_right (by decide)))]
      exact fr _ hc'
    · obtain ⟨q1, q2, _⟩ := cne y d e
      rw [upd_ne (Nat.ne_of_lt q2)]
      exact q1
  · exact I.hok.laid k (Nat.le_refl _) ⟨Nat.zero_le _, [], 0, .nil, hD⟩
  · show (List.replicate 1 none ++ frees ix st).length = N.length
    rw [B.nm]
    unfold frees
    simp
theorem lcc_core {elt iter tg : Expr} {ifs : List Expr} {pos : Pos} {g : TG} {tt : TT} {te : TE} {J : It} {it : Addr} {tj : Nat → Heap → Prop} {Q : Addr → List V → Hp → Prop} {RR : Value → Addr → Result → Shared → Prop} {E : Value → Shared → Prop} (hc : X.calm = true) (B : BlkC X N xt ix sc) (hg : ∀ c C fp s H, PG (blkC X N sc xt c C fp s H) tg g) (ht : ∀ c C fp s H, PTs (blkC X N sc xt c C fp s H) ifs tt) (helt : ∀ c C fp s H, PE (blkC X N sc xt c C fp s H) elt te) (I : L2.Inv X pins st H s) (T : Turn X.prog X.w X.K tg J fp it tj) (h0 : tj 0 s.heap) (hf : ∀ b ∈ fp, FpOk X pins H b) (hq : ∀ D, H D = none → tBlkX 1 g tt te (frees ix st) J D (Q D) H) (hRR : ∀ D C ys H' s', L2.Inv X pins st H' s' → (∃ m, s'.heap.Ns C m) → FpOk X pins H' C → Q D ys H' → RR (.ref D) C (.ok .next) s') : wpAny (model X.prog X.w) X.A (newList []) (fun acc s3 => wpAny (model X.prog X.w) X.A (newFunctionEnv sc X.env.globals (clOf sc X.env) [] X.env.qual none .none (some X.env)) (fun cenv s4 => codeAny (model X.prog X.w) X.A (.compStart (.ListComp elt [⟨tg, iter, ifs, 0⟩] sc pos) 0 (.ref it) acc { cenv with scope := relabel sc X.env }) (RR acc cenv.locals) s4) E s3) E s := by
  have hlt : ∀ b ∈ fp, b < s.heap.objs.size := fun b hb => by
    obtain ⟨o, e, _⟩ := T.obj _ _ h0 b hb
    exact Heap.lt_size e
  refine wpAny_newObj_type (newEnvC B.one ?_)
  dsimp only
  generalize hG : s.heap.push { cls := .type "list", dict := none, data := .seq ([] : List Value).toArray } = g'
  generalize hH1 : (g'.push { cls := .type "dict", data := .dict #[] }).push { cls := .type "cell", data := .cell none } = h1
  have hC : g'.objs.size = s.heap.objs.size + 1 := by rw [← hG, Heap.size_push]
  have hDC : s.heap.objs.size ≠ g'.objs.size := by rw [hC]; exact Nat.ne_of_lt (Nat.lt_succ_self _)
  have old : ∀ b o, s.heap.get? b = some o → h1.get? b = some o := fun b o e => by
    rw [← hH1, ← hG]
    exact Heap.get?_push_of_some _ (Heap.get?_push_of_some _ (Heap.get?_push_of_some _ e))
  have hacc : h1.get? s.heap.objs.size = some { cls := .type "list", data := .seq ([] : List Value).toArray 0 } := by
    rw [← hH1, ← hG]
    exact Heap.get?_push_of_some _ (Heap.get?_push_of_some _ (Heap.get?_push_size _ rfl))
  have hns : h1.Ns g'.objs.size fun _ => none := by
    rw [← hH1]
    exact (Heap.Ns.new g' (.type "dict")).keeps fun b o e => Heap.get?_push_of_some _ e
  have hce : h1.IsCell (g'.objs.size + 1) none := by
    rw [← hH1]
    have e : g'.objs.size + 1 = (g'.push { cls := .type "dict", data := .dict #[] }).objs.size := by rw [Heap.size_push]
    rw [e]
    exact ⟨_, Heap.get?_push_size _ rfl, rfl⟩
  have hD : H s.heap.objs.size = none := I.hok.fresh (Nat.le_refl _)
  obtain ⟨W, ⟨m0, w0⟩, turn⟩ := hq _ hD
  have I0 := blkc_start (t' := s.toks) B I hf hlt hC (show g'.objs.size + 1 = s.heap.objs.size + 2 by rw [hC]) old hns hce hacc
  have st0 : tj 0 h1 := T.keep _ _ _ h0 fun b _ o e => old b o e
  have hCle : s.heap.objs.size ≤ g'.objs.size := by rw [hC]; exact Nat.le_succ _
  have stat : ∀ {H' : Hp}, (∀ b ∈ fp, H' b = none) → ∀ b ∈ fp, FpOk (blkC X N sc xt (g'.objs.size + 1) g'.objs.size fp s H) [] H' b := fun {H'} hn b hb =>
    ⟨hn b hb, ((blkc_ok B I hCle (Nat.le_trans hCle (Nat.le_succ _)) hf hlt).exf b hb).1, (blkc_ok B I hCle (Nat.le_trans hCle (Nat.le_succ _)) hf hlt).exfs b hb, .inl hb, ((blkc_ok B I hCle (Nat.le_trans hCle (Nat.le_succ _)) hf hlt).exf b hb).2, fun p hp => absurd (show p ∈ ([] : List (Addr × Obj)) from hp) (by simp)⟩
  have loop : ∀ s3 : Shared, s3 = { s with heap := h1 } →
      codeAny (model X.prog X.w) X.A (.compLoop (.ListComp elt [⟨tg, iter, ifs, 0⟩] sc pos) 0 (.ref it) (.ref s.heap.objs.size) (compEnvC sc ((xt, g'.objs.size + 1) :: clOf sc X.env) g'.objs.size X.env)) (RR (.ref s.heap.objs.size) g'.objs.size) s3 := by
    rintro s3 rfl
    refine lcx_loop (fun n s' => ∃ i ys σ H', σ.length = 1 ∧ L2.Inv (blkC X N sc xt (g'.objs.size + 1) g'.objs.size fp s H) [] (σ ++ frees ix st) H' s' ∧ tj i s'.heap ∧ (∀ b ∈ fp, H' b = none) ∧ W i n ys H') ?_ m0
      ⟨0, [], List.replicate 1 none, _, by simp, I0, st0, fun b hb => ?_, w0⟩
    · rintro n s5 ⟨i, ys, σ, H5, hσ, I5, st5, fr5, w5⟩
      rcases turn i n ys H5 w5 with ⟨stop, qn⟩ | ⟨go, hz, step⟩
      · refine thn (T.done (blkC X N sc xt (g'.objs.size + 1) g'.objs.size fp s H) rfl rfl rfl hc i [] s5 _ H5 nvr I5 (stat fr5) st5 stop) fun r s6 ⟨hr, I6⟩ => ?_
        subst hr
        refine hRR _ _ ys H5 s6 ?_ ?_ (I.fpOk hCle I6.free) qn
        · exact I.call' I6.os I6.base I6.hok I6.bare fun b hb => ⟨(hf b hb).2.2.2.1, (hf b hb).2.1, (hf b hb).2.2.2.2.1, (hf b hb).2.2.2.2.2⟩
        · obtain ⟨m, hm, _⟩ := I6.loc
          exact ⟨m, hm⟩
      · refine thn (T.item (blkC X N sc xt (g'.objs.size + 1) g'.objs.size fp s H) rfl rfl rfl hc i [] s5 _ H5 nvr I5 (stat fr5) st5 go) fun r s6 ⟨u, hr, h6⟩ => ?_
        subst hr
        refine thn h6 fun _ s7 ⟨v, H7, I7, r7, y7, st7, fr7⟩ => ?_
        have I7' := I7.pinned (stat fr7) (T.obj _ _ st7)
        refine thn (hg (g'.objs.size + 1) g'.objs.size fp s H _ s7 _ H7 v u _ I7' r7 (step σ hσ v H7 y7)) fun _ s8 h8 => ?_
        obtain ⟨σ8, H8, I8, σ', e8, hl8, h8⟩ := h8
        subst e8
        have pinned : ∀ {σ9 : L2.St} {H9 : Hp} {s9 : Shared}, L2.Inv (blkC X N sc xt (g'.objs.size + 1) g'.objs.size fp s H) ([] ++ pinsAt fp s7.heap) σ9 H9 s9 → tj (i + 1) s9.heap ∧ ∀ b ∈ fp, H9 b = none := fun {σ9 H9 s9} I9 => by
          refine ⟨T.keep _ _ _ st7 fun b hb o e => (I9.pin (b, o) (List.mem_append_right _ (List.mem_append_right _ (mem_pinsAt hb e)))).1, fun b hb => ?_⟩
          obtain ⟨o, e, d⟩ := T.obj _ _ st7 b hb
          exact (I9.pin (b, o) (List.mem_append_right _ (List.mem_append_right _ (mem_pinsAt hb e)))).2.1
        refine thn (ht (g'.objs.size + 1) g'.objs.size fp s H _ s8 _ H8 _ I8 h8) fun ok s8' h8' => ?_
        obtain ⟨H8', I8', h8'⟩ := h8'
        cases ok with
        | false =>
          obtain ⟨m', hm, w8⟩ := h8'
          exact ⟨m', hm, i + 1, ys, σ', _, hl8, I8'.unpinned (pins := []), (pinned I8').1, (pinned I8').2, w8⟩
        | true =>
          refine thn (helt (g'.objs.size + 1) g'.objs.size fp s H _ s8' _ H8' _ I8' h8') fun z s9 ⟨y, H9, I9, r9, hD9, m', hm, w9⟩ => ?_
          refine thn (mt_append _ s9 _ H9 (.ref s.heap.objs.size) [y] (.ref s.heap.objs.size) [z] (fun _ H' => H' = upd H9 s.heap.objs.size (.lst (ys ++ [y]))) I9 rfl (.cons r9 .nil) ⟨_, ys, y, rfl, rfl, hD9, hz, rfl⟩) fun _ s10 h10 => ?_
          obtain ⟨_, H10, I10, _, rfl⟩ := h10
          exact ⟨m', hm, i + 1, ys ++ [y], σ', _, hl8, I10.unpinned (pins := []), (pinned I10).1, (pinned I10).2, w9⟩
    · rw [upd_ne (Nat.ne_of_lt (hlt b hb))]
      exact (hf b hb).1
  exact codeAny_compStart_list (loop _ rfl) (T.self _ 0 _ _ _ st0 (loop _ rfl))
theorem relab_cell {env : Env} {y : Str} : ∀ {names : List (Str × NameKind)}, names.lookup y = some .cell → (names.map fun (n, k) => if (k == NameKind.free && env.scope.kind == .function && env.kindOf n == some .cell) then (n, NameKind.cell) else (n, k)).lookup y = some .cell
  | [], h => by simp at h
  | (n, kk) :: r, h => by
    rw [List.map_cons, List.lookup_cons]
    rw [List.lookup_cons] at h
    cases q : (y == n) with
    | true =>
      rw [q] at h
      have : kk = .cell := Option.some.inj h
      subst this
      simp [q]
    | false =>
      rw [q] at h
      have ih := relab_cell (env := env) h
      by_cases hc : (kk == NameKind.free && env.scope.kind == .function && env.kindOf n == some .cell) = true
      · simp only [hc, if_true, q]; exact ih
      · simp only [hc, Bool.false_eq_true, if_false, q]; exact ih
end
section
variable {X : Cx} {G : Gr} {E : XK} {dl : List Slot} {a b elt iter tg : Expr} {ifs : List Expr} {i j : Int} {d : Dt} {pos p px py pc spos : Pos} {o : Out} {xt y : Str} {N : List Str} {ix : List Nat} {sc : Scope} {n : Nat}
variable {α : Type} {as : List α} {z f : α → Dt} {sl : α → List Slot} {keep : α → Bool} {g : TG} {wi : TI}
inductive TstOkC (X : Cx) (N : List Str) (xt : Str) (sc : Scope) (dl : List Slot) (ix : List Nat) (as : List α) (sl : α → List Slot) (keep : α → Bool) : List Expr → Prop
  | nil : (∀ a ∈ as, keep a = true) → TstOkC X N xt sc dl ix as sl keep []
  | one {ce : Expr} : (∀ a ∈ as, ∀ c C fp s H G', EB (blkC X N sc xt c C fp s H) G' (sl a ++ blkSl dl ix) ce (keep a)) → TstOkC X N xt sc dl ix as sl keep [ce]
theorem ptsC_of (h : TstOkC X N xt sc dl ix as sl keep ifs) : ∀ c C fp s H, PTs (blkC X N sc xt c C fp s H) ifs (tTst X.K dl ix as sl keep) := fun c C fp s H => by
  cases h with
  | nil h => exact fun pins s' st H' Q I ⟨a, G', ha, Hf, S, k⟩ => wpAny_tests_nil ⟨H', I, by have := k Hf H' (.refl S.sub); rw [h a ha] at this; exact this⟩
  | one h => exact pts_one fun pins s' st H' Q I ⟨a, G', ha, q⟩ => h a ha c C fp s H G' pins s' st H' Q I q
def EltC (X : Cx) (N : List Str) (xt : Str) (sc : Scope) (dl : List Slot) (ix : List Nat) (as : List α) (sl : α → List Slot) (keep : α → Bool) (f : α → Dt) (elt : Expr) : Prop := ∀ a ∈ as, keep a = true → ∀ c C fp s H G', EE (blkC X N sc xt c C fp s H) G' (sl a ++ blkSl dl ix) elt (f a)
theorem pe_elc (h : EltC X N xt sc dl ix as sl keep f elt) : ∀ c C fp s H, PE (blkC X N sc xt c C fp s H) elt (tElx X.K dl ix as sl keep f) := fun c C fp s H pins s' st H' Q I ⟨a, G', ha, hk, q⟩ => h a ha hk c C fp s H G' pins s' st H' Q I q
theorem pe_lcc {tt : TT} {te : TE} (hc : X.calm = true) (B : BlkC X N xt ix sc) (hi : PI X tg iter wi) (hg : ∀ c C fp s H, PG (blkC X N sc xt c C fp s H) tg g) (ht : ∀ c C fp s H, PTs (blkC X N sc xt c C fp s H) ifs tt) (helt : ∀ c C fp s H, PE (blkC X N sc xt c C fp s H) elt te) (hs : ∀ z, foldedSetIterable iter X.env z = pure z) : PE X (.ListComp elt [⟨tg, iter, ifs, 0⟩] sc pos) (tLcx wi 1 ix g tt te) := by
  intro pins s st H Q I h
  rw [eval_ListComp]
  refine wpAny_comprehension_free (use := none) rfl hs (cloc_of B I.ok) B.kind B.names (thn (hi pins s st H _ I h) fun v s1 h1 => thn h1 fun itv s2 h2 => ?_)
  obtain ⟨it, fp, tj, J, H2, e, I2, T, st2, f2, hq⟩ := h2
  subst e
  refine lcc_core (RR := fun acc C => compPost (model X.prog X.w) X.A X.xe none (EP X pins st Q) acc C) hc B hg ht helt I2 T st2 f2 hq ?_
  intro D C ws H' s' I' ⟨m, hn⟩ hfp q
  exact ⟨m, hn, fun h' hs' => ⟨.ref D, H', I'.turned (t' := s'.toks) (it := C) (fun b o hb e => (hs'.2 b hb).trans e) hfp.1 hfp.2.1 hfp.2.2.2.1 hfp.2.2.2.2.1 hfp.2.2.2.2.2, rfl, q⟩⟩
theorem eo_lcc (as : List α) (z f : α → Dt) (sl : α → List Slot) (keep : α → Bool) (hc : X.calm = true) (B : BlkC X N xt ix sc) (hi : PI X tg iter wi) (hg : ∀ c C fp s H, PG (blkC X N sc xt c C fp s H) tg g) (hsrc : SrcX X G dl (as.map z) wi) (htg : ∀ a ∈ as, TgD X.K 1 g (z a) (sl a)) (htst : TstOkC X N xt sc dl ix as sl keep ifs) (helt : EltC X N xt sc dl ix as sl keep f elt) (hn : as.length ≤ sizeLine) (hs : ∀ z, foldedSetIterable iter X.env z = pure z := by intro _; rfl) : EO X G dl (.ListComp elt [⟨tg, iter, ifs, 0⟩] sc pos) (.lst ((as.filter keep).map f)) := peI (pe_lcc hc B hi hg (ptsC_of htst) (pe_elc helt) hs) (tLcx_data hsrc htg hn)
theorem pgc_name {px : Pos} (B : BlkC X N xt ix sc) : ∀ c C fp s H, PG (blkC X N sc xt c C fp s H) (.Name xt px) (gName 0) := fun c C fp s H => by
  have hN : (blkC X N sc xt c C fp s H).N[0]? = some xt := by
    show N[0]? = some xt
    rw [B.nm]; rfl
  have hxl : (blkC X N sc xt c C fp s H).env.scope.names.lookup xt = some .cell := relab_cell B.hx
  exact pg_name (X := blkC X N sc xt c C fp s H) B.nd hN (.inr hxl) (.inl (by show (xt == xt) = true; simp))
end
def chkBc (sc dsc : Scope) (XN N : List Str) (xt : Str) (ix : List Nat) : Bool :=
  decide N.Nodup && (decide (N = xt :: ix.map (fun j => XN.getD j "")) && (decide (sc.kind = .function) && (decide (sc.names.filter (fun y => y.2 == .cell) = [(xt, .cell)]) && (sc.names.all (fun y => decide (y.2 = .local → sc.names.lookup y.1 = some .local)) && (decide (sc.names.lookup xt = some .cell) && (sc.names.all (fun y => decide (y.2 = .free → y.1 ≠ xt)) &&
    (sc.names.all (fun y => decide (y.2 = .free → dsc.names.lookup y.1 = some .cell ∨ dsc.names.lookup y.1 = some .free)) && ix.all (fun j => decide (sc.names.lookup (XN.getD j "") = some .free) && decide (j < XN.length)))))))))
theorem bc_of {X : Cx} {sc dsc : Scope} {XN N : List Str} {xt : Str} {ix : List Nat} (h : chkBc sc dsc XN N xt ix = true) (e1 : X.env.scope = dsc := by rfl) (e2 : X.N = XN := by rfl) : BlkC X N xt ix sc := by
  subst e1 e2
  unfold chkBc at h
  simp only [Bool.and_eq_true, List.all_eq_true, decide_eq_true_eq] at h
  obtain ⟨h1, h2, h3, h4, h5, h6, h6', h7, h8⟩ := h
  refine ⟨h1, h2, h3, h4, h5, h6, h6', h7, fun j hj => ?_⟩
  obtain ⟨q1, q2⟩ := h8 j hj
  refine ⟨X.N.getD j "", ?_, q1⟩
  rw [List.getD_eq_getElem?_getD, List.getElem?_eq_getElem q2]; rfl
end Sg
namespace Sg
open PySem PySem.Spec PyProof.Rows L2
def mk : HO → Bool
  | .memo _ => true
  | .memoX _ _ => true
  | _ => false
theorem MemoAt.mkd {H : Hp} {a : Addr} {ls : MLs} (h : MemoAt H a ls) : ∃ o, H a = some o ∧ mk o = true := by
  rcases h with h | ⟨ns, h⟩
  · exact ⟨_, h, rfl⟩
  · exact ⟨_, h, rfl⟩
theorem MemoAt.inj {H : Hp} {a : Addr} {ls ls' : MLs} (h : MemoAt H a ls) (h' : MemoAt H a ls') : ls = ls' := by
  rcases h with h | ⟨ns, h⟩ <;> rcases h' with h' | ⟨ns', h'⟩ <;> rw [h] at h' <;> cases h' <;> rfl
section
variable {K : PySem.W.Frag} {Hf H : Hp} {a : Addr} {ls : MLs} {u : HO}
theorem flip_ne (hm : MemoAt Hf a ls) {b : Addr} {o : HO} (h : Hf b = some o) (n : mk o = false) : b ≠ a := fun e => by
  obtain ⟨o', h1, h2⟩ := hm.mkd
  rw [e, h1] at h; cases h
  rw [h2] at n; cases n
theorem flip_at (hm : MemoAt Hf a ls) {b : Addr} {o : HO} (h : Hf b = some o) (n : mk o = false) : (upd Hf a u) b = some o := by rw [upd_ne (flip_ne hm h n)]; exact h
theorem flip_kp (hm : MemoAt Hf a ls) (hu : mk u = true) : Kp Hf (upd Hf a u) := ⟨fun b tg o kvs e => flip_at hm e rfl, fun b e => by
  by_cases q : b = a
  · rw [q, upd_same]
    cases u <;> first | trivial | cases hu
  · rw [upd_ne q]; exact e, fun b x e => flip_at hm e rfl⟩
def MemoU (ls : MLs) (u : HO) : Prop := u = .memo ls ∨ ∃ ns, u = .memoX ls ns
theorem MemoU.mk {ls : MLs} {u : HO} (h : MemoU ls u) : mk u = true := by rcases h with rfl | ⟨ns, rfl⟩ <;> rfl
theorem flip_memo (hm : MemoAt Hf a ls) (hu : MemoU ls u) {b : Addr} {ls' : MLs} (h : MemoAt Hf b ls') : MemoAt (upd Hf a u) b ls' := by
  by_cases e : b = a
  · subst e
    rw [h.inj hm]
    rcases hu with rfl | ⟨ns, rfl⟩
    · exact .inl upd_same
    · exact .inr ⟨ns, upd_same⟩
  · rcases h with h | ⟨ns, h⟩
    · exact .inl (by rw [upd_ne e]; exact h)
    · exact .inr ⟨ns, by rw [upd_ne e]; exact h⟩
theorem flip_known (hm : MemoAt Hf a ls) (hu : MemoU ls u) {p : Addr} {f : Nat → List (Key × FD)} {n : Nat} (h : Known Hf p f n) : Known (upd Hf a u) p f n := fun i hi => let ⟨q, o, kvs, h1, h2⟩ := h i hi; ⟨q, o, kvs, flip_at hm h1 rfl, h2.kp (flip_kp hm hu.mk)⟩
theorem flip_T (hm : MemoAt Hf a ls) {b : Addr} {vs : List V} (s : SqT K Hf b vs) : SqT K (upd Hf a u) b vs := by
  rcases s with (s | ⟨o, s⟩ | ⟨_, _, _, _, s⟩) | s
  · exact .inl (.inl (flip_at hm s rfl))
  · exact .inl (.inr (.inl ⟨o, flip_at hm s rfl⟩))
  · cases s
  · exact .inr s
theorem flip_L (hm : MemoAt Hf a ls) {b : Addr} {vs : List V} (s : SqL K Hf b vs) : SqL K (upd Hf a u) b vs := by
  rcases s with (s | ⟨o, s⟩ | ⟨_, _, _, _, s⟩) | s
  · exact .inl (.inl (flip_at hm s rfl))
  · exact .inl (.inr (.inl ⟨o, flip_at hm s rfl⟩))
  · cases s
  · exact .inr s
mutual
def noS : Dt → Bool
  | .tup ds => noSs ds
  | .lst ds => noSs ds
  | .dic kds => noSk kds
  | .dicF kds => noSk kds
  | .dicK kds => noSk kds
  | .obj _ fs => noSf fs
  | .xof _ fs => noSf fs
  | .memo _ _ _ _ => false
  | .gro _ _ _ _ _ => false
  | _ => true
def noSs : List Dt → Bool
  | [] => true
  | d :: r => noS d && noSs r
def noSk : List (Key × Dt) → Bool
  | [] => true
  | (_, d) :: r => noS d && noSk r
def noSf : List (Str × Dt) → Bool
  | [] => true
  | (_, d) :: r => noS d && noSf r
end
mutual
theorem rep_flip (hm : MemoAt Hf a ls) (hu : MemoU ls u) : ∀ {v : V} {d : Dt}, noS d = true → Rep K Hf v d → Rep K (upd Hf a u) v d
  | _, _, _, .non => .non
  | _, _, _, .bl b => .bl b
  | _, _, _, .int i => .int i
  | _, _, _, .str x => .str x
  | _, .tup ds, h, .tup s r => .tup (flip_T hm s) (reps_flip hm hu (by rw [noS] at h; exact h) r)
  | _, .lst ds, h, .lst s r => .lst (flip_at hm s rfl) (reps_flip hm hu (by rw [noS] at h; exact h) r)
  | _, _, _, .scr s => .scr (flip_L hm s)
  | _, .dic _, h, .dic s r => .dic (flip_at hm s rfl) (repk_flip hm hu (by rw [noS] at h; exact h) r)
  | _, .obj _ _, h, .obj s r => .obj (flip_at hm s rfl) (repf_flip hm hu (by rw [noS] at h; exact h) r)
  | _, _, _, .ty n => .ty n
  | _, _, _, .cls C => .cls C
  | _, _, _, .xo s r => .xo (flip_at hm s rfl) r
  | _, .dicF _, h, .dicF s r => .dicF (flip_at hm s rfl) (repk_flip hm hu (by rw [noS] at h; exact h) r)
  | _, .xof _ _, h, .xof s q g r => .xof (flip_at hm s rfl) q (flip_at hm g rfl) (repf_flip hm hu (by rw [noS] at h; exact h) r)
  | _, .dicK _, h, .dicK s r => .dicK (flip_at hm s rfl) (repk_flip hm hu (by rw [noS] at h; exact h) r)
  | _, .memo _ _ _ _, h, .memo _ _ _ _ => by rw [noS] at h; cases h
  | _, _, _, .memoY h1 h2 h3 h4 => .memoY h1 (flip_memo hm hu h2) (h3.imp id fun z => flip_at hm z rfl) (flip_known hm hu h4)
  | _, _, _, .kno h => .kno fun j p f z => flip_known hm hu (h j p f z)
  | _, .gro _ _ _ _ _, h, .gro _ _ _ => by rw [noS] at h; cases h
theorem reps_flip (hm : MemoAt Hf a ls) (hu : MemoU ls u) : ∀ {v : List V} {d : List Dt}, noSs d = true → Reps K Hf v d → Reps K (upd Hf a u) v d
  | _, _, _, .nil => .nil
  | _, d :: ds, h, .cons r t => by
    rw [noSs, Bool.and_eq_true] at h
    exact .cons (rep_flip hm hu h.1 r) (reps_flip hm hu h.2 t)
theorem repk_flip (hm : MemoAt Hf a ls) (hu : MemoU ls u) : ∀ {v : List (Key × V)} {d : List (Key × Dt)}, noSk d = true → RepK K Hf v d → RepK K (upd Hf a u) v d
  | _, _, _, .nil => .nil
  | _, (k, d) :: ds, h, .cons r t => by
    rw [noSk, Bool.and_eq_true] at h
    exact .cons (rep_flip hm hu h.1 r) (repk_flip hm hu h.2 t)
theorem repf_flip (hm : MemoAt Hf a ls) (hu : MemoU ls u) : ∀ {v : List (Str × V)} {d : List (Str × Dt)}, noSf d = true → RepF K Hf v d → RepF K (upd Hf a u) v d
  | _, _, _, .nil => .nil
  | _, (k, d) :: ds, h, .cons r t => by
    rw [noSf, Bool.and_eq_true] at h
    exact .cons (rep_flip hm hu h.1 r) (repf_flip hm hu h.2 t)
end
def addK (Hf H : Hp) : Hp := fun b => match H b with
  | some (.kd tg o kvs) => some (.kd tg o kvs)
  | _ => Hf b
theorem addK_kd {b : Addr} {tg : Option (Addr × Nat)} {o : Obj} {kvs : List (Key × V)} (h : H b = some (.kd tg o kvs)) : addK Hf H b = some (.kd tg o kvs) := by unfold addK; rw [h]
theorem addK_or (b : Addr) : (∃ u, H b = some u ∧ Kept u ∧ addK Hf H b = some u) ∨ addK Hf H b = Hf b := by
  unfold addK
  cases h : H b with
  | none => exact .inr rfl
  | some u => cases u <;> first | exact .inr rfl | exact .inl ⟨_, rfl, trivial, rfl⟩
theorem addK_same (s : Same Hf H) : Same Hf (addK Hf H) := fun b u e => by
  rcases addK_or (Hf := Hf) (H := H) b with ⟨u', h1, _, h3⟩ | h
  · rw [s _ _ e] at h1; cases h1; exact h3
  · rw [h]; exact e
theorem addK_sub (s : Same Hf H) : Same (addK Hf H) H := fun b u e => by
  rcases addK_or (Hf := Hf) (H := H) b with ⟨u', h1, _, h3⟩ | h
  · rw [h3] at e; cases e; exact h1
  · rw [h] at e; exact s _ _ e
theorem addK_grow (s : Same Hf H) : Grow Hf H (addK Hf H) H := ⟨Same.refl _, addK_same s, addK_sub s, fun b u e => by
  rcases addK_or (Hf := Hf) (H := H) b with ⟨u', h1, h2, h3⟩ | h
  · rw [h3] at e; cases e; exact .inr (.inr h2)
  · rw [h] at e; exact .inl ⟨u, e⟩⟩
end
def fdD : FD → Dt
  | .int i => .int i
  | .dic kds => .dicK (dI kds)
def fdL (fd : List (Key × FD)) : List (Key × Dt) := fd.map fun kd => (kd.1, fdD kd.2)
theorem repk_ints {K : PySem.W.Frag} {H : Hp} : ∀ (kds : List (Key × Int)), RepK K H (kds.map fun kd => (kd.1, V.int kd.2)) (dI kds)
  | [] => .nil
  | (k, i) :: r => .cons (.int i) (repk_ints r)
theorem fz_rep {K : PySem.W.Frag} {H : Hp} : ∀ {v : V} {d : FD}, Fz H v d → Rep K H v (fdD d)
  | .int i, .int j, e => by cases (show i = j from e); exact .int i
  | .ref a, .dic kds, ⟨tg, o, e⟩ => .dicK e (repk_ints kds)
theorem fzk_rep {K : PySem.W.Frag} {H : Hp} : ∀ {kvs : List (Key × V)} {fd : List (Key × FD)}, FzK H kvs fd → RepK K H kvs (fdL fd)
  | _, _, .nil => .nil
  | _, _, .cons h t => .cons (fz_rep h) (fzk_rep t)
theorem fz_of {K : PySem.W.Frag} {H : Hp} : ∀ {v : V} {d : FD}, Rep K H v (fdD d) → Fz H v d
  | _, .int i, r => by cases r; exact rfl
  | _, .dic kds, r => by
    cases r with
    | @dicK a tg ob kvs _ h r =>
      refine ⟨tg, ob, ?_⟩
      rw [repI r] at h
      exact h
theorem fzk_of {K : PySem.W.Frag} {H : Hp} : ∀ {kvs : List (Key × V)} {fd : List (Key × FD)}, RepK K H kvs (fdL fd) → FzK H kvs fd
  | _, [], .nil => .nil
  | _, (k, d) :: fd, .cons h t => .cons (fz_of h) (fzk_of t)
theorem fz_kdm {H H' : Hp} (k : ∀ b tg o kvs, H b = some (.kd tg o kvs) → H' b = some (.kd tg o kvs)) : ∀ {v : V} {d : FD}, Fz H v d → Fz H' v d
  | .int _, .int _, e => e
  | .ref _, .dic _, ⟨tg, o, e⟩ => ⟨tg, o, k _ _ _ _ e⟩
theorem fzk_kdm {H H' : Hp} (k : ∀ b tg o kvs, H b = some (.kd tg o kvs) → H' b = some (.kd tg o kvs)) : ∀ {kvs : List (Key × V)} {kds : List (Key × FD)}, FzK H kvs kds → FzK H' kvs kds
  | _, _, .nil => .nil
  | _, _, .cons h t => .cons (fz_kdm k h) (fzk_kdm k t)
section
variable {X : Cx} {G : Gr} {E : XK} {dl : List Slot} {a b e i : Expr} {pos p : Pos} {ls : MLs} {j n : Nat} {l : Addr} {f : Nat → List (Key × FD)} {ns : List Nat}
theorem ix_memo : IxR X (fun x y H Q => ∃ (p : Addr) (k : Nat) (q : Addr) (o : Obj) (kvs : List (Key × V)), x = .ref p ∧ y = .int (k : Int) ∧ H q = some (.kd (some (p, k)) o kvs) ∧ k < 10000 ∧ Q (.ref q) H) := by
  intro value slice pins s σ H x y v u Q I rx ry h hs
  obtain ⟨p, k, q, o, kvs, rfl, rfl, hq, hk, kk⟩ := h
  cases rx
  obtain ⟨t, rfl⟩ := ry
  obtain ⟨_, _, hm⟩ := (show ObjOk X.prog X.w H s.heap q (.kd (some (p, k)) o kvs) from I.hok q _ hq)
  obtain ⟨_, its, c, e1, e2⟩ := hm p k rfl
  have hn := line63
  exact item_listR (items := its.toArray) ⟨_, e1, rfl, c, rfl⟩ (by omega) (by omega) (by rw [Int.toNat_natCast]; simpa using e2) ⟨.ref q, H, I, rfl, kk⟩ hs
theorem ee_ixM {k : Nat} (hb : EE X G dl b (.memo l ls j n)) (hi : EE X G dl i (.int (k : Int))) (hf : (ls.map (·.2))[j]? = some f) (hk : k < n) (hn : n ≤ 1000) (hs : PlainIx i := by intro _ _; rfl) : EE X G dl (.Subscript b i pos) (.dicK (fdL (f k))) :=
  peI (pe_ix ix_memo hb hi hs) fun st H Q ⟨Hf, S, kk⟩ => ⟨Hf, S, fun v Hf1 H1 g1 r1 => ⟨Hf1, S.grow g1, fun w Hf2 H2 g2 r2 => by
    cases r2
    cases r1 with
    | @memo _ p _ _ _ f' h1 h2 h3 h4 =>
      have e : f' = f := by
        rw [List.getElem?_map, h1] at hf
        exact Option.some.inj hf
      subst e
      obtain ⟨q, o, kvs, q1, q2⟩ := h4 k hk
      exact ⟨p, k, q, o, kvs, rfl, rfl, g2.big _ _ (g1.sub _ _ q1), by omega, kk _ Hf2 H2 (g1.trans g2) (.dicK (g2.frz _ _ q1) (fzk_rep (q2.kp (.of g2.frz))))⟩⟩⟩
theorem ix_memoL : IxR X (fun x y H Q => ∃ (a : Addr) (ls : MLs) (ns : List Nat) (j : Nat) (p : Addr) (f : Nat → List (Key × FD)) (N : Nat), x = .ref p ∧ y = .int (-1) ∧ H a = some (.memoX ls ns) ∧ ls[j]? = some (p, f) ∧ ns[j]? = some N ∧ 0 < N ∧ ∀ q o kvs, H q = some (.kd (some (p, N - 1)) o kvs) → FzK H kvs (f (N - 1)) → Q (.ref q) H) := by
  intro value slice pins s σ H x y v u Q I rx ry h hs
  obtain ⟨a, ls, ns, j, p, f, N, rfl, rfl, ha, hj, hN, h0, kk⟩ := h
  cases rx
  obtain ⟨t, rfl⟩ := ry
  obtain ⟨_, _, _, _, _, h5, h6⟩ := (show ObjOk X.prog X.w H s.heap a (.memoX ls ns) from I.hok a _ ha)
  obtain ⟨its, c, e1, e2, e3⟩ := h6 j p f N hj hN
  obtain ⟨q, o, kvs, q1, q2, q3⟩ := e3 (N - 1) (by omega)
  have hn := line63
  have hN' := h5 N (List.mem_of_getElem? hN)
  have hl : Heap.IsList s.heap p its.toArray := ⟨_, e1, rfl, c, rfl⟩
  exact subscriptTail_builtinR (x := .ref q) hl.typeIs slot_list_getitem.lookup
      (wpAny_getItem_list_neg (Q := fun r s' => r = .ref q ∧ EP X pins σ Q r s') hl (by omega) (by rw [List.size_toArray] <;> omega) (by omega) (by rw [List.size_toArray, e2, show ((-1 : Int) + (N : Nat)).toNat = N - 1 by omega]; simpa using q1) ⟨rfl, .ref q, H, I, rfl, kk q o kvs q2 q3⟩) hs
theorem ee_lastM {N : Nat} (hx : G.Hf l = some (.memoX ls ns)) (hb : EE X G dl b (.memoY l ls j n)) (hi : EE X G dl i (.int (-1))) (hf : (ls.map (·.2))[j]? = some f) (hN : ns[j]? = some N) (h0 : 0 < N) (hs : PlainIx i := by intro _ _; rfl) : EE X G dl (.Subscript b i pos) (.dicK (fdL (f (N - 1)))) :=
  peI (pe_ix ix_memoL hb hi hs) fun st H Q ⟨Hf, S, kk⟩ => ⟨Hf, S, fun v Hf1 H1 g1 r1 => ⟨Hf1, S.grow g1, fun w Hf2 H2 g2 r2 => by
    cases r2
    cases r1 with
    | @memoY _ p _ _ _ f' h1 h2 h3 h4 =>
      have e : f' = f := by
        rw [List.getElem?_map, h1] at hf
        exact Option.some.inj hf
      subst e
      have g := g1.trans g2
      refine ⟨l, ls, ns, j, p, f', N, rfl, rfl, g.sub _ _ (g.frz _ _ (S.gr.frz _ _ hx)), h1, hN, h0, fun q o kvs q1 q2 => ?_⟩
      have ga := addK_grow g2.sub
      exact kk _ _ H2 (g.trans ga) (.dicK (addK_kd q1) (fzk_rep (fzk_kdm (fun b tg o kvs e => addK_kd e) q2)))⟩⟩
theorem call_lenM : CallR X (.builtin "len") (fun xs H Q => ∃ (a : Addr) (ls : MLs) (ns : List Nat) (j : Nat) (p : Addr) (f : Nat → List (Key × FD)) (N : Nat), xs = [.ref p] ∧ H a = some (.memoX ls ns) ∧ ls[j]? = some (p, f) ∧ ns[j]? = some N ∧ Q (.int (N : Nat)) H) := by
  intro pins s σ H xs us Q I r h
  obtain ⟨a, ls, ns, j, p, f, N, rfl, ha, hj, hN, q⟩ := h
  obtain ⟨u, rfl, rx⟩ := vals1 r
  cases rx
  obtain ⟨_, _, _, _, _, h5, h6⟩ := (show ObjOk X.prog X.w H s.heap a (.memoX ls ns) from I.hok a _ ha)
  obtain ⟨its, c, e1, e2, e3⟩ := h6 j p f N hj hN
  have hn := line63
  have hN' := h5 N (List.mem_of_getElem? hN)
  have hl : Heap.IsList s.heap p its.toArray := ⟨_, e1, rfl, c, rfl⟩
  exact Calls.call_len_list hl (by simp only [List.size_toArray] <;> omega) ⟨.int (N : Nat), H, I.tok _, ⟨s.toks + 1, by rw [List.size_toArray, e2]⟩, q⟩
theorem ee_lenM {N : Nat} (hm : X.mg "len" = none) (hx : G.Hf l = some (.memoX ls ns)) (hb : EE X G dl b (.memoY l ls j n)) (hN : ns[j]? = some N) (hg : Gl X "len" := by rfl) (he : starEach [b] X.env = [(false, eval b X.env)] := by rfl) : EE X G dl (.Call (.Name "len" p) [b] [] pos) (.int (N : Nat)) :=
  peI (pe_callB call_lenM hg hm PySem.boot_len (ea_cons hb ea_nil he) (he := he)) fun st H Q ⟨Hf, S, kk⟩ => ⟨Hf, S, fun vs Hf1 H1 g1 r1 => by
    cases r1 with
    | cons r t => cases t; cases r with
      | @memoY _ p _ _ _ f' h1 h2 h3 h4 => exact ⟨l, ls, ns, j, p, f', N, rfl, g1.sub _ _ (g1.frz _ _ (S.gr.frz _ _ hx)), h1, hN, kk _ Hf1 H1 g1 (.int _)⟩⟩
theorem ee_dgetK {d : Dt} {k : Str} {kds : List (Key × Dt)} (hu : X.A.units + 1 < cLine) (ho : EE X G dl b (.dicK kds)) (hi : EE X G dl i (.str k)) (h : valD kds (.inr k) = some d) (hs : NoSl i) : EE X G dl (.Subscript b i pos) d :=
  peI (pe_dget hu ho hi hs) fun st H Q ⟨Hf, S, kk⟩ => ⟨Hf, S, fun v Hf1 H1 g1 r1 => ⟨Hf1, S.grow g1, fun w Hf2 H2 g2 r2 => by
    cases r2
    cases r1 with
    | @dicK q tg ob kvs _ hq rp =>
      obtain ⟨y, z1, z2⟩ := rp.val h
      have e : DGet H2 q (kV (.inr k)) (valV kvs (.inr k)) := .inl ⟨kvs, .inr k, .inr (.inr ⟨tg, ob, kvs, g2.big _ _ (g1.sub _ _ hq), rfl⟩), rfl, rfl⟩
      rw [z1] at e
      exact ⟨q, y, rfl, e, kk y Hf2 H2 (g1.trans g2) (z2.mono g2.frz)⟩⟩⟩
theorem ee_oK {kds : List (Key × Dt)} (h : EO X G dl e (.dic kds)) : EE X G dl e (.dicK kds) := by
  intro pins s st H Q I ⟨Hf, S, kk⟩
  refine thn (h pins s st H (fun v H' => ∃ p Hf', v = .ref p ∧ Grow Hf H Hf' H' ∧ H p = none ∧ Hf' p = none ∧ OwnAt X.K Hf' H' p (.dic kds)) I ⟨Hf, S, fun p Hf' H' g n n' r => ⟨p, Hf', rfl, g, n, n', r⟩⟩) fun u s1 ⟨v, H', I1, rv, q, Hf', ev, g, n, n', kvs, hq, rp⟩ => ?_
  subst ev
  obtain ⟨hz, lo, vs, kv, ob, es, ep, ho, hr⟩ := (show ObjOk X.prog X.w H' s1.heap q (.dK kvs) from I1.hok q _ hq)
  have I2 : L2.Inv X pins st (upd H' q (.kd none ob kvs)) s1 := d_write (h' := s1.heap) (t' := s1.toks) I1 (by rw [hq]; trivial) ⟨rfl, fun _ _ => rfl⟩ ⟨ob, ho⟩ ⟨ho, ⟨hz, lo, vs, kv, ob, es, ep, ho, hr⟩, fun p i z => by cases z⟩
  have sm : Same Hf' (upd Hf' q (.kd none ob kvs)) := same_upd n'
  refine ⟨.ref q, _, I2, rv, kk _ (upd Hf' q (.kd none ob kvs)) _ ⟨fun b o hb => ?_, g.frz.trans sm, same_upd2 g.sub, fun b o hb => ?_⟩ (.dicK upd_same (rp.mono sm))⟩
  · rw [upd_ne (ne_of_none hb n)]; exact g.big _ _ hb
  · by_cases e : b = q
    · subst e; exact .inr (.inl n)
    · rw [upd_ne e] at hb; exact g.new b o hb
theorem mt_valuesR : MtR X "dict.values" (fun x xs H Q => ∃ (d : Addr) (kvs : List (Key × V)), x = .ref d ∧ xs = [] ∧ Rd H d (.dK kvs) ∧ ∀ l, H l = none → Q (.ref l) (upd H l (.ext fun h => h.IsValuesView l d))) := by
  intro pins s σ H x xs v us Q I rx rv ⟨d, kvs, e1, e2, hq, q⟩
  subst e1 e2
  cases rx
  cases rv
  obtain ⟨hz, lo, vs, kv, hD⟩ := dk_rd I.hok hq
  refine call_meetsIn PySem.F.slot_dict_values hD.typeIs PySem.F.entry_dict_values (PySem.F.args_dict_values_1 _) (meets_dict_values (mixKind X.prog X.w) d lo) ⟨⟨vs, hD⟩, ?_⟩
  refine ⟨.ref s.heap.objs.size, _, I.laid (a := s.heap.objs.size) (t' := s.toks) (o := .ext fun h => h.IsValuesView s.heap.objs.size d) (fun b o e => Heap.get?_push_of_some _ e) (Nat.le_refl _) ?_, rfl, q _ (I.hok.fresh (Nat.le_refl _))⟩
  exact ⟨⟨_, Heap.get?_push_size _ rfl, rfl, rfl⟩, ⟨_, Heap.get?_push_size _ rfl⟩, fun h1 h2 ⟨ox, z1, z2⟩ kk => ⟨ox, kk _ z1, z2⟩⟩
theorem kv_int : ∀ {kds : List (Key × Int)} {vs : List (Key × Value)} {i : Nat} {k : Key} {v : Value}, KV (kds.map fun kd => (kd.1, V.int kd.2)) vs → vs[i]? = some (k, v) → ∃ t, v = .int ((kds.map (·.2)).getD i 0) t
  | [], _, _, _, _, .nil, e => by simp at e
  | (k0, z) :: kds, _, 0, _, _, .cons r _, e => by
    simp at e
    subst e
    obtain ⟨_, t, q⟩ := r
    exact ⟨t, q⟩
  | (k0, z) :: kds, _, i + 1, _, _, .cons _ t, e => by
    obtain ⟨t', q⟩ := kv_int (i := i) t (by simpa using e)
    exact ⟨t', by simpa using q⟩
theorem call_sumV (hc : X.calm = true) : CallR X (.builtin "sum") (fun xs H Q => ∃ (v d : Addr) (φ : Heap → Prop) (kds : List (Key × Int)), xs = [.ref v] ∧ H v = some (.ext φ) ∧ (∀ h, φ h → h.IsValuesView v d) ∧ Rd H d (.dK (kds.map fun kd => (kd.1, V.int kd.2))) ∧ Q (.int (kds.map (·.2)).sum) H) := by
  intro pins s σ H xs us Q I r h
  obtain ⟨v, d, φ, kds, rfl, hv, hφ, hq, q⟩ := h
  obtain ⟨u, rfl, rx⟩ := vals1 r
  cases rx
  obtain ⟨hz, lo, vs, kv, o, es, ep, ho, hr⟩ := dk_rd I.hok hq
  have hvv := hφ _ (I.hok v _ hv).1
  have hl := kv_len kv
  rw [List.length_map] at hl
  have hA : X.A.handled = none := I.ok.hd hc
  refine call_sum_walkAnyS ?_
  have Ks := PySem.W.kdl_values (prog := X.prog) (w := X.w) (knd := mixKind X.prog X.w) (r := v) (d := d) (kvs := vs) (ep := ep)
  have hok : s.heap.IsValuesView v d ∧ s.heap.DictAt (mixKind X.prog X.w) d vs ep := ⟨hvv, o, es, ho, hr⟩
  obtain ⟨oI, St, hit, W, st⟩ := Ks.iter X.A.in1 s hA hok
  refine hit _ _ ⟨s.heap.objs.size, _, _, _, vs.length, _, _, fun i => (kds.map (·.2)).getD i 0, rfl, W.toS, st, fun b hb => ?_, fun i w ⟨k, hk⟩ => kv_int kv hk, fun s' t' hm => ?_⟩
  · show b < (s.heap.push oI).objs.size
    rw [Heap.size_push]
    rcases List.mem_cons.mp hb with e | hb
    · rw [e]; exact Nat.lt_succ_self _
    · rw [List.mem_singleton.mp hb]; exact Nat.lt_succ_of_lt (Ks.there _ hok).2
  · have hk : ∀ b o, s.heap.get? b = some o → s'.heap.get? b = some o := fun b o e =>
      hm.heap b o (fun hI => absurd (Heap.lt_size e) (by rw [List.mem_singleton.mp hI]; exact Nat.lt_irrefl _)) (Heap.get?_push_of_some _ e)
    have es : preSum (fun i => (kds.map (·.2)).getD i 0) vs.length = (kds.map (·.2)).sum := by
      rw [range_sum _ _ (by rw [List.length_map]; omega), List.take_of_length_le (by rw [List.length_map]; omega)]
    rw [es, Moved.eq_with hm]
    exact ⟨.int _, H, I.kept (t' := s'.toks) hk, ⟨t', rfl⟩, q⟩
def intsOf (d : Dt) (kds : List (Key × Int)) : Prop := d = .dicK (dI kds) ∨ d = .dic (dI kds)
theorem ee_sumV {kds : List (Key × Int)} {d : Dt} {apos cpos : Pos} (hm : X.mg "sum" = none) (hc : X.calm = true) (ha : EE X G dl a d) (hd : intsOf d kds) (hg : Gl X "sum" := by rfl) (hbase : attributeBase a "values" X.env (eval a X.env) = eval a X.env := by rfl) (hline : (apos.endLine == cpos.line) = true := by rfl) (he : starEach [.Call (.Attribute a "values" apos) [] [] cpos] X.env = [(false, eval (.Call (.Attribute a "values" apos) [] [] cpos) X.env)] := by rfl) : EE X G dl (.Call (.Name "sum" p) [.Call (.Attribute a "values" apos) [] [] cpos] [] pos) (.int (kds.map (·.2)).sum) :=
  peI (pe_callB (call_sumV hc) hg hm boot_sum (pa_cons (pe_bm0 PySem.F.plainAttrs_dict PySem.F.slot_dict_values PySem.F.type_dict_values mt_valuesR ha hbase hline) pa_nil he) (he := he)) fun st H Q ⟨Hf, S, k⟩ => ⟨Hf, S, fun v Hf1 H1 g1 r1 => by
    have key : ∃ q, v = .ref q ∧ Rd H1 q (.dK (kds.map fun kd => (kd.1, V.int kd.2))) ∧ tyV X.K "dict" v H1 := by
      rcases hd with rfl | rfl
      · cases r1 with
        | @dicK q tg ob kvs _ hq rp =>
          rw [repI rp] at hq
          exact ⟨q, rfl, .inr (.inr ⟨tg, ob, _, g1.sub _ _ hq, rfl⟩), .inr (.inr (.inl ⟨rfl, .inr (.inr ⟨tg, ob, _, g1.sub _ _ hq⟩)⟩))⟩
      · cases r1 with
        | @dic q kvs _ hq rp =>
          rw [repI rp] at hq
          exact ⟨q, rfl, .inl (g1.sub _ _ hq), .inr (.inr (.inl ⟨rfl, .inl ⟨_, g1.sub _ _ hq⟩⟩))⟩
    obtain ⟨q, rfl, hq, ty⟩ := key
    refine ⟨ty, q, _, rfl, rfl, hq, fun v hv => ⟨v, q, _, kds, rfl, upd_same, fun h x => x, ?_, k _ Hf1 _ (g1.trans (.allocO g1.sub hv)) (.int _)⟩⟩
    exact Rd_same (same_upd hv) hq⟩
variable {pins : List (Addr × Obj)} {σ : L2.St} {H : Hp} {s : Shared}
theorem Inv.flip {u : HO} (I : L2.Inv X pins σ H s) (hm : MemoAt H l ls) (hu : MemoU ls u) (new : ObjOk X.prog X.w (upd H l u) s.heap l u) : L2.Inv X pins σ (upd H l u) s := by
  refine I.un (h' := s.heap) (t' := s.toks) ⟨fun b o e _ _ _ => e, fun b o e _ _ _ => ⟨o.slots, e⟩, fun b o e n _ => ?_, fun b o e _ => ⟨o, e⟩, fun b xs e => flip_at hm e rfl, fun b o u e => flip_at hm e rfl, fun b ps e => ⟨#[], by rw [flip_at hm e rfl]; simp⟩⟩ fun b o e => ?_
  · rw [upd_ne (fun z => by obtain ⟨o', h1, _⟩ := hm.mkd; rw [z, h1] at n; cases n)]; exact n
  · by_cases eb : b = l
    · subst eb; rw [upd_same] at e; cases e; exact new
    · rw [upd_ne eb] at e
      exact (I.hok b o e).stay (fun _ _ _ q => q) (fun c q => flip_at hm q rfl) (fun c xs q => flip_at hm q rfl) (flip_kp hm hu.mk)
theorem Inv.exact (I : L2.Inv X pins σ H s) (hm : H l = some (.memo ls)) : ∃ n, 0 < n ∧ n ≤ 10000 ∧ L2.Inv X pins σ (upd H l (.memoX ls (List.replicate ls.length n))) s := by
  obtain ⟨ho, n, hn, q⟩ := (show ObjOk X.prog X.w H s.heap l (.memo ls) from I.hok l _ hm)
  have hl : 0 < ls.length := by
    obtain ⟨⟨f, hf⟩, _⟩ := q
    exact (List.getElem?_eq_some_iff.mp hf).1
  have h5 : n ≤ 10000 := q.2.2.2.2.1 n (by rw [List.mem_replicate]; exact ⟨by omega, rfl⟩)
  exact ⟨n, hn, h5, Inv.flip I (.inl hm) (.inr ⟨_, rfl⟩) ⟨ho, q.kp (flip_kp (.inl hm) rfl) fun _ _ _ e => e⟩⟩
theorem Inv.pack {n : Nat} (I : L2.Inv X pins σ H s) (hm : H l = some (.memoX ls (List.replicate ls.length n))) (hn : 0 < n) : L2.Inv X pins σ (upd H l (.memo ls)) s := by
  obtain ⟨ho, q⟩ := (show ObjOk X.prog X.w H s.heap l (.memoX ls _) from I.hok l _ hm)
  exact Inv.flip I (.inr ⟨_, hm⟩) (.inl rfl) ⟨ho, n, hn, q.kp (flip_kp (.inr ⟨_, hm⟩) rfl) fun _ _ _ e => e⟩
theorem mt_appendM : MtR X "list.append" (fun x vs H Q => ∃ (a : Addr) (ls : MLs) (ns : List Nat) (j : Nat) (p : Addr) (f : Nat → List (Key × FD)) (N : Nat) (q : Addr) (kvs : List (Key × V)), x = .ref p ∧ vs = [.ref q] ∧ H a = some (.memoX ls ns) ∧ ls[j]? = some (p, f) ∧ ns[j]? = some N ∧ N < 9000 ∧ H q = some (.dK kvs) ∧ FzK H kvs (f N) ∧ ∀ o, Q .non (upd (upd H a (.memoX ls (ns.set j (N + 1)))) q (.kd (some (p, N)) o kvs))) := by
  intro pins s σ H x vs v us Q I rx rv ⟨a, ls, ns, j, p, f, N, q, kvs, e1, e2, ha, hj, hN, hN9, hq, hfz, kk⟩
  subst e1 e2
  cases (show v = Value.ref p from rx)
  obtain ⟨u, rfl, ru⟩ := vals1 rv
  cases (show u = Value.ref q from ru)
  obtain ⟨⟨oa, hoa⟩, ⟨f0, h1⟩, h2, h3, h4, h5, h6⟩ := (show ObjOk X.prog X.w H s.heap a (.memoX ls ns) from I.hok a _ ha)
  obtain ⟨its, c, e, hlen, hit⟩ := h6 j p f N hj hN
  obtain ⟨hz, lo, vs, kv, oq, es, ep, hoq, hr⟩ := (show ObjOk X.prog X.w H s.heap q (.dK kvs) from I.hok q _ hq)
  have hpm : IsMemo (H p) := by
    rcases h3 j p f hj with z | z
    · rw [z, ha]; trivial
    · rw [z]; trivial
  have hpq : p ≠ q := fun z => by rw [z, hq] at hpm; exact hpm
  have haq : a ≠ q := fun z => by rw [z, hq] at ha; cases ha
  have hnm := line63
  refine call_meets PySem.F.slot_list_append ⟨_, e, rfl⟩ PySem.F.entry_list_append (PySem.F.args_list_append_2 _ _) (PySem.list_append p its.toArray c (.ref q) (by rw [List.size_toArray]; exact Nat.le_trans (show its.length ≤ 10000 by omega) (by decide))) ⟨e, ?_⟩
  have e' := PySem.IsL.update e (fun x => x.push (Value.ref q))
  rw [show its.toArray.push (Value.ref q) = (its ++ [Value.ref q]).toArray by simp] at e'
  generalize hh' : s.heap.update p (Obj.mapSeq fun x => x.push (Value.ref q)) = h' at e'
  have oth : ∀ b o, b ≠ p → s.heap.get? b = some o → h'.get? b = some o := fun b o hb z => by rw [← hh']; exact (Heap.get?_update_other s.heap _ (Ne.symm hb)).trans z
  let H' : Hp := upd (upd H a (.memoX ls (ns.set j (N + 1)))) q (.kd (some (p, N)) oq kvs)
  have atH : ∀ b o, H b = some o → b ≠ a → b ≠ q → H' b = some o := fun b o z n1 n2 => by show (upd (upd H a _) q _) b = _; rw [upd_ne n2, upd_ne n1]; exact z
  have nk : ∀ b o, H b = some o → mk o = false → b ≠ a := fun b o z n z' => by rw [z', ha] at z; cases z; cases n
  have nq : ∀ b o, H b = some o → (∀ x, o ≠ .dK x) → b ≠ q := fun b o z n z' => by rw [z', hq] at z; exact n _ (Option.some.inj z).symm
  have kp : Kp H H' := ⟨fun b tg o ks z => atH b _ z (nk b _ z rfl) (nq b _ z fun x y => by cases y), fun b z => by
    by_cases ba : b = a
    · rw [ba]; show IsMemo ((upd (upd H a _) q _) a); rw [upd_ne haq, upd_same]; trivial
    · have bq : b ≠ q := fun z' => by rw [z', hq] at z; exact z
      show IsMemo ((upd (upd H a _) q _) b); rw [upd_ne bq, upd_ne ba]; exact z, fun b x z => atH b _ z (nk b _ z rfl) (nq b _ z fun x y => by cases y)⟩
  have hl : ∀ p' i c', IsMemo (H p') → LAt s.heap p' i c' → LAt h' p' i c' := fun p' i c' _ ⟨its', n', z1, z2⟩ => by
    by_cases pp : p' = p
    · subst pp
      rw [e] at z1
      have z3 : its' = its := by
        have := congrArg (fun o : Option Obj => o.map (·.data)) z1
        simp at this
        exact this.1.symm
      subst z3
      exact ⟨_, _, e', by rw [List.getElem?_append_left (List.getElem?_eq_some_iff.mp z2).1]; exact z2⟩
    · exact ⟨its', n', oth _ _ pp z1, z2⟩
  have hl1 : LAt h' p N q := ⟨_, _, e', by rw [List.getElem?_append_right (by omega), hlen, Nat.sub_self]; rfl⟩
  have fz' : FzK H' kvs (f N) := hfz.kp kp
  have hqo : h'.get? q = some oq := oth _ _ (Ne.symm hpq) hoq
  have hnone : ∀ b, H b = none → H' b = none := fun b n => by
    have n1 : b ≠ a := fun z => by rw [z, ha] at n; cases n
    have n2 : b ≠ q := fun z => by rw [z, hq] at n; cases n
    show (upd (upd H a _) q _) b = none
    rw [upd_ne n2, upd_ne n1]; exact n
  have nop : ∀ b, H b = none → b ≠ p := fun b n z => by rw [← z, n] at hpm; exact hpm
  have ths : ∀ b o, s.heap.get? b = some o → ∃ o', h'.get? b = some o' := fun b o z => by
    by_cases bp : b = p
    · rw [bp]; exact ⟨_, e'⟩
    · exact ⟨o, oth _ _ bp z⟩
  refine ⟨.non, H', I.un (h' := h') (t' := s.toks) ⟨fun b o z n _ _ => oth b o (nop b n) z, fun b o z n _ _ => ⟨o.slots, oth b o (nop b n) z⟩, fun b o _ n _ => hnone b n, fun b o z _ => ths b o z, fun b xs z => atH b _ z (nk b _ z rfl) (nq b _ z fun x y => by cases y),
    fun b o u z => atH b _ z (nk b _ z rfl) (nq b _ z fun x y => by cases y), fun b ps z => ⟨#[], by rw [atH b _ z (nk b _ z rfl) (nq b _ z fun x y => by cases y)]; simp⟩⟩ fun b u z => ?_, rfl, kk oq⟩
  by_cases bq : b = q
  · subst bq
    have z : (upd (upd H a _) b _) b = some u := z
    rw [upd_same] at z; cases z
    refine ⟨hqo, ⟨hz, lo, vs, kv, oq, es, ep, hqo, hr⟩, fun p' i ht => ?_⟩
    cases ht
    exact ⟨kp.mem _ hpm, hl1⟩
  · by_cases ba : b = a
    · subst ba
      have z : (upd (upd H b _) q _) b = some u := z
      rw [upd_ne bq, upd_same] at z; cases z
      refine ⟨ths _ _ hoa, ⟨f0, h1⟩, by rw [List.length_set]; exact h2, fun j' p' f' z => (h3 j' p' f' z).imp id fun z => kp.part _ _ z, h4, fun n hn => ?_, fun j' p' f' n z1 z2 => ?_⟩
      · obtain ⟨i, hi, ei⟩ := List.mem_iff_getElem.mp hn
        rw [List.getElem_set] at ei
        split at ei
        · omega
        · rw [← ei]; exact h5 _ (List.getElem_mem _)
      · by_cases jj : j = j'
        · subst jj
          rw [hj] at z1; cases z1
          have hjl : j < ns.length := (List.getElem?_eq_some_iff.mp hN).1
          rw [List.getElem?_set_self hjl] at z2; cases z2
          refine ⟨_, _, e', by rw [List.length_append, hlen]; rfl, fun i hi => ?_⟩
          by_cases hiN : i < N
          · obtain ⟨q', o', kv', w1, w2, w3⟩ := hit i hiN
            exact ⟨q', o', kv', by rw [List.getElem?_append_left (by omega)]; exact w1, kp.kd _ _ _ _ w2, w3.kp kp⟩
          · have : i = N := by omega
            subst this
            exact ⟨q, oq, kvs, by rw [List.getElem?_append_right (by omega), hlen, Nat.sub_self]; rfl, upd_same, fz'⟩
        · rw [List.getElem?_set_ne jj] at z2
          have pp : p' ≠ p := fun z => by
            subst z
            obtain ⟨i1, e1⟩ := List.getElem?_eq_some_iff.mp hj
            obtain ⟨i2, e2⟩ := List.getElem?_eq_some_iff.mp z1
            have pw := List.pairwise_iff_getElem.mp h4
            rcases Nat.lt_or_gt_of_ne jj with lt | lt
            · have := pw j j' (by rw [List.length_map]; exact i1) (by rw [List.length_map]; exact i2) lt
              rw [List.getElem_map, List.getElem_map, e1, e2] at this
              exact this rfl
            · have := pw j' j (by rw [List.length_map]; exact i2) (by rw [List.length_map]; exact i1) lt
              rw [List.getElem_map, List.getElem_map, e1, e2] at this
              exact this rfl
          exact (h6 j' p' f' n z1 z2).kp kp fun u z => oth _ _ pp z
    · have z0 : H b = some u := by
        have z : (upd (upd H a _) q _) b = some u := z
        rw [upd_ne bq, upd_ne ba] at z; exact z
      by_cases bp : b = p
      · subst bp
        rcases h3 j b f hj with z1 | z1
        · exact absurd z1 ba
        · rw [z1] at z0; cases z0
          exact ⟨_, e'⟩
      · refine (I.hok b u z0).stayG (fun c' v' hc' z' => oth c' v' ?_ z') (fun c' z' => atH c' _ z' (nk c' _ z' rfl) (nq c' _ z' fun x y => by cases y)) (fun c' xs z' => atH c' _ z' (nk c' _ z' rfl) (nq c' _ z' fun x y => by cases y)) kp hl
        rcases hc' with rfl | z1 | z1
        · exact bp
        · exact fun z' => by rw [z'] at z1; rw [z1] at hpm; exact hpm
        · intro z'
          rw [z'] at z1
          rcases h3 j p f hj with z2 | z2
          · rw [z2, ha] at z1; cases z1
          · rw [z2] at z1; cases z1; exact ba rfl
end
end Sg
namespace Sg
open PySem PySem.Spec PyProof.Rows L2
def grFY (fs : List (Str × Dt)) (nm : List Str) (a : Addr) (ls : MLs) (n : Nat) : List (Str × Dt) := fs ++ (List.range nm.length).map fun j => (nm.getD j "", .memoY a ls j n)
section
variable {K : PySem.W.Frag} {Hf H : Hp}
theorem RepF.split : ∀ {ds1 ds2 : List (Str × Dt)} {fv : List (Str × V)}, RepF K H fv (ds1 ++ ds2) → ∃ f1 f2, fv = f1 ++ f2 ∧ RepF K H f1 ds1 ∧ RepF K H f2 ds2
  | [], _, fv, r => ⟨[], fv, rfl, .nil, r⟩
  | (k, d) :: ds1, ds2, _, .cons h t => by
    obtain ⟨f1, f2, e, r1, r2⟩ := RepF.split t
    exact ⟨(k, _) :: f1, f2, by rw [e]; rfl, .cons h r1, r2⟩
theorem RepF.join : ∀ {ds1 ds2 : List (Str × Dt)} {f1 f2 : List (Str × V)}, RepF K H f1 ds1 → RepF K H f2 ds2 → RepF K H (f1 ++ f2) (ds1 ++ ds2)
  | _, _, _, _, .nil, r => r
  | _, _, _, _, .cons h t, r => .cons h (RepF.join t r)
theorem memoF_map {nm : Nat → Str} {d d' : Nat → Dt} {H' : Hp} (h : ∀ j v, Rep K H v (d j) → Rep K H' v (d' j)) : ∀ {js : List Nat} {fv : List (Str × V)}, RepF K H fv (js.map fun j => (nm j, d j)) → RepF K H' fv (js.map fun j => (nm j, d' j))
  | [], _, .nil => .nil
  | j :: js, _, .cons r t => .cons (h j _ r) (memoF_map h t)
def KnowAll (H : Hp) (ls : MLs) (n : Nat) : Prop := ∀ (j : Nat) (p : Addr) (f : Nat → List (Key × FD)), ls[j]? = some (p, f) → Known H p f n
variable {fs : List (Str × Dt)} {nm : List Str} {l : Addr} {ls : MLs} {n m : Nat} {fv : List (Str × V)} {u : HO}
theorem grF_head (hn : 0 < nm.length) (r : RepF K Hf fv (grF fs nm l ls n)) : Hf l = some (.memo ls) := by
  obtain ⟨f1, f2, _, _, r2⟩ := RepF.split r
  cases hk : nm.length with
  | zero => omega
  | succ k =>
    rw [hk, List.range_succ_eq_map, List.map_cons] at r2
    cases r2 with
    | cons h t => cases h with
      | memo _ h2 _ _ => exact h2
theorem grF_x (hs : noSf fs = true) (hm : Hf l = some (.memo ls)) (hu : MemoU ls u) (r : RepF K Hf fv (grF fs nm l ls n)) : RepF K (upd Hf l u) fv (grFY fs nm l ls n) := by
  obtain ⟨f1, f2, e, r1, r2⟩ := RepF.split r
  subst e
  refine RepF.join (repf_flip (.inl hm) hu hs r1) (memoF_map (fun j v q => ?_) r2)
  cases q with
  | memo h1 h2 h3 h4 => exact rep_flip (.inl hm) hu rfl (.memoY h1 (.inl h2) h3 h4)
theorem grF_p (hs : noSf fs = true) (hm : MemoAt Hf l ls) (r : RepF K Hf fv (grFY fs nm l ls n)) : RepF K (upd Hf l (.memo ls)) fv (grF fs nm l ls n) := by
  obtain ⟨f1, f2, e, r1, r2⟩ := RepF.split r
  subst e
  refine RepF.join (repf_flip hm (.inl rfl) hs r1) (memoF_map (fun j v q => ?_) r2)
  cases q with
  | memoY h1 h2 h3 h4 => exact .memo h1 upd_same (h3.imp id fun z => flip_at hm z rfl) (flip_known hm (.inl rfl) h4)
theorem grF_know (hk : KnowAll Hf ls m) (r : RepF K Hf fv (grF fs nm l ls n)) : RepF K Hf fv (grF fs nm l ls m) := by
  obtain ⟨f1, f2, e, r1, r2⟩ := RepF.split r
  subst e
  refine RepF.join r1 (memoF_map (fun j v q => ?_) r2)
  cases q with
  | memo h1 h2 h3 h4 => exact .memo h1 h2 h3 (hk _ _ _ h1)
theorem grF_kno (hl : ls.length ≤ nm.length) (r : RepF K Hf fv (grF fs nm l ls n)) : KnowAll Hf ls n := fun j p f e => by
  obtain ⟨f1, f2, _, _, r2⟩ := RepF.split r
  have hj : j < nm.length := Nat.lt_of_lt_of_le (List.getElem?_eq_some_iff.mp e).1 hl
  have key : ∀ {js : List Nat} {fv : List (Str × V)}, RepF K Hf fv (js.map fun j => (nm.getD j "", Dt.memo l ls j n)) → j ∈ js → Known Hf p f n := by
    intro js
    induction js with
    | nil => intro fv _ h; cases h
    | cons i js ih =>
      intro fv r h
      cases r with
      | cons q t =>
        rcases List.mem_cons.mp h with z | z
        · subst z
          cases q with
          | memo h1 h2 h3 h4 => rw [e] at h1; cases h1; exact h4
        · exact ih t z
  exact key r2 (List.mem_range.mpr hj)
theorem pkGrow {A B Hf2 H2 : Hp} (hA : A l = some (.memo ls)) (hB : B l = some (.memo ls)) (g : Grow (upd A l u) (upd B l u) Hf2 H2) : Grow A B (upd Hf2 l (.memo ls)) (upd H2 l (.memo ls)) := by
  refine ⟨fun b o e => ?_, fun b o e => ?_, same_upd2 g.sub, fun b o e => ?_⟩
  · by_cases hb : b = l
    · subst hb; rw [hB] at e; cases e; exact upd_same
    · rw [upd_ne hb]; exact g.big _ _ (by rw [upd_ne hb]; exact e)
  · by_cases hb : b = l
    · subst hb; rw [hA] at e; cases e; exact upd_same
    · rw [upd_ne hb]; exact g.frz _ _ (by rw [upd_ne hb]; exact e)
  · by_cases hb : b = l
    · subst hb; exact .inl ⟨_, hA⟩
    · rw [upd_ne hb] at e
      rcases g.new b o e with ⟨o', z⟩ | z | z
      · rw [upd_ne hb] at z; exact .inl ⟨o', z⟩
      · rw [upd_ne hb] at z; exact .inr (.inl z)
      · exact .inr (.inr z)
variable {G G0 : Gr} {st : L2.St} {dl : List Slot}
theorem Stt.rebase (S : Stt K G0 st Hf H dl) (no : noOwn dl = true) (g : Grow G.Hf G.H G0.Hf G0.H) : Stt K G st Hf H dl := ⟨g.trans S.gr, S.len, S.val, fun i o h => absurd h (noOwn_of no i o), fun i j o o' a h => absurd h (noOwn_of no i o)⟩
def noSl : List Slot → Bool
  | [] => true
  | .unk :: r => noSl r
  | .val d :: r => noS d && noSl r
  | .own _ :: _ => false
theorem noSl_val : ∀ {tl : List Slot} {i : Nat} {d : Dt}, noSl tl = true → tl[i]? = some (.val d) → noS d = true
  | [], _, _, _, e => by simp at e
  | .unk :: r, 0, _, _, e => by simp at e
  | .unk :: r, i + 1, _, h, e => noSl_val (tl := r) (i := i) h (by simpa using e)
  | .val d :: r, 0, _, h, e => by
    rw [noSl, Bool.and_eq_true] at h
    simp at e
    subst e
    exact h.1
  | .val d :: r, i + 1, _, h, e => by
    rw [noSl, Bool.and_eq_true] at h
    exact noSl_val (tl := r) (i := i) h.2 (by simpa using e)
theorem noSl_own : ∀ {tl : List Slot}, noSl tl = true → noOwn tl = true
  | [], _ => rfl
  | .unk :: r, h => noSl_own (tl := r) h
  | .val d :: r, h => by
    rw [noSl, Bool.and_eq_true] at h
    exact noSl_own (tl := r) h.2
variable {C : Addr} {tl : List Slot}
abbrev slF (C : Addr) (fs : List (Str × Dt)) (nm : List Str) (l : Addr) (ls : MLs) (n : Nat) (tl : List Slot) : List Slot := .val (.obj C (grF fs nm l ls n)) :: tl
abbrev slY (C : Addr) (fs : List (Str × Dt)) (nm : List Str) (l : Addr) (ls : MLs) (n : Nat) (tl : List Slot) : List Slot := .val (.obj C (grFY fs nm l ls n)) :: tl
theorem Stt.know {m : Nat} (S : Stt K G st Hf H (slF C fs nm l ls n tl)) (kn : KnowAll Hf ls m) : Stt K G st Hf H (slF C fs nm l ls m tl) := by
  have own : ∀ {i : Nat} {o : Own}, (slF C fs nm l ls m tl)[i]? = some (.own o) → (slF C fs nm l ls n tl)[i]? = some (.own o) := fun {i o} h => by
    cases i with
    | zero => cases h
    | succ i => exact h
  refine ⟨S.gr, S.len, fun i d h => ?_, fun i o h => S.own i o (own h), fun i j o o' a h1 h2 => S.dis i j o o' a (own h1) (own h2)⟩
  cases i with
  | zero =>
    cases h
    obtain ⟨v, hv, rv⟩ := S.val 0 _ rfl
    cases rv with
    | obj q r => exact ⟨_, hv, .obj q (grF_know kn r)⟩
  | succ i => exact S.val (i + 1) d h
def grX (G0 : Gr) (l : Addr) (u : HO) : Gr := ⟨upd G0.Hf l u, upd G0.H l u⟩
theorem Stt.toX (S : Stt K G st Hf H (slF C fs nm l ls n tl)) (hs : noSf fs = true) (ht : noSl tl = true) (hn : 0 < nm.length) (hu : MemoU ls u) : Hf l = some (.memo ls) ∧ Stt K (grX ⟨addK Hf H, H⟩ l u) st (upd (addK Hf H) l u) (upd H l u) (slY C fs nm l ls n tl) := by
  obtain ⟨v, hv, rv⟩ := S.val 0 _ rfl
  have sm := addK_same S.sub
  cases rv with
  | @obj a _ dx fv _ q r =>
    have hm := grF_head hn r
    have hm' : addK Hf H l = some (.memo ls) := sm _ _ hm
    refine ⟨hm, ⟨.refl (same_upd2 (addK_sub S.sub)), S.len, fun i d h => ?_, fun i o h => ?_, fun i j o o' a h => ?_⟩⟩
    · cases i with
      | zero =>
        cases h
        exact ⟨_, hv, .obj (flip_at (.inl hm') (sm _ _ q) rfl) (grF_x hs hm' hu (r.mono sm))⟩
      | succ i =>
        have h : tl[i]? = some (.val d) := h
        obtain ⟨w, w1, w2⟩ := S.val (i + 1) d h
        exact ⟨w, w1, rep_flip (.inl hm') hu (noSl_val ht h) (w2.mono sm)⟩
    · cases i with
      | zero => cases h
      | succ i => exact absurd h (noOwn_of (noSl_own ht) i o)
    · cases i with
      | zero => cases h
      | succ i => exact absurd h (noOwn_of (noSl_own ht) i o)
end
section
variable {X : Cx} {G : Gr} {E : XK} {dl : List Slot} {c e : Expr} {body : List Stmt} {pos p : Pos} {fs : List (Str × Dt)} {nm : List Str} {l C : Addr} {ls : MLs} {n m age : Nat} {tl : List Slot}
def tCondG (X : Cx) (c : Expr) : TT := fun st H Q => ∃ G dl b, EB X G dl c b ∧ tDB X.K G dl b st H Q
theorem pt_condG : PT X c (tCondG X c) := fun pins s st H Q I ⟨G, dl, b, h, q⟩ => h pins s st H Q I q
def tTurnG (X : Cx) (E : XK) (body : List Stmt) : TS := fun D st H => ∃ G pre o, ESs X G E pre body o ∧ tO X.K G E pre o D st H
theorem pss_turnG {body : List Stmt} : PSs X body (tTurnG X E body) := fun pins s st H D J ⟨G, pre, o, h, q⟩ => h pins s st H D J q
def RM (K : PySem.W.Frag) (G0 : Gr) (C : Addr) (fs : List (Str × Dt)) (nm : List Str) (l : Addr) (ls : MLs) (n : Nat) (tl : List Slot) (M : Nat) : L2.St → Hp → Prop := fun st H => H l = some (.memoX ls (List.replicate ls.length M)) ∧ ∃ Hf, Stt K G0 st Hf (upd H l (.memo ls)) (slF C fs nm l ls n tl)
theorem es_whileM (hp : PassesOwn (model X.prog X.w) X.A X.env X.xe) (hs : noSf fs = true) (ht : noSl tl = true) (hn : 0 < nm.length) (hage : age < 9000) (hc : ∀ (N : Nat) (G : Gr), G.Hf l = some (.memoX ls (List.replicate ls.length N)) → EB X G (slY C fs nm l ls n tl) c (decide (N ≤ age))) (hb : ∀ N, 0 < N → N ≤ age → ∀ G0 : Gr, G0.Hf l = some (.memo ls) → G0.H l = some (.memo ls) → ESs X (grX G0 l (.memoX ls (List.replicate ls.length N))) E (slY C fs nm l ls n tl) body (.raw (RM X.K G0 C fs nm l ls n tl (N + 1)))) : ES X G E (slF C fs nm l ls n tl) (.While c body [] pos) (.nx (slF C fs nm l ls (age + 1) tl)) := by
  intro pins s st H D I ⟨Hf, S, k⟩
  have no : noOwn (slF C fs nm l ls n tl) = true := show noOwn tl = true from noSl_own ht
  have hm : Hf l = some (.memo ls) := (S.toX (u := .memo ls) hs ht hn (.inl rfl)).1
  obtain ⟨N0, h0, h1, IX⟩ := Inv.exact I (S.sub _ _ hm)
  let XX : Nat → HO := fun N => .memoX ls (List.replicate ls.length N)
  have mu : ∀ N, MemoU ls (XX N) := fun N => .inr ⟨_, rfl⟩
  let W : Nat → L2.St → Hp → Prop := fun m st H => ∃ N, m = age + 1 - N ∧ 0 < N ∧ H l = some (XX N) ∧ ∃ Hf1, Same Hf Hf1 ∧ Stt X.K G st Hf1 (upd H l (.memo ls)) (slF C fs nm l ls n tl)
  refine thn (ps_while (pos := pos) hp (pt_condG (X := X) (c := c)) (pss_turnG (E := E)) pins s st _ { D with nx := fun st' H' => ∃ N, age < N ∧ H' l = some (XX N) ∧ ∃ Hf1, Same Hf Hf1 ∧ Stt X.K G st' Hf1 (upd H' l (.memo ls)) (slF C fs nm l ls n tl) } IX ?_) fun f s7 q7 => ?_
  · refine ⟨W, ⟨_, N0, rfl, h0, upd_same, Hf, Same.refl _, by rw [upd_upd, upd_self (S.sub _ _ hm)]; exact S⟩, ?_⟩
    rintro mm st1 H1 ⟨N, rfl, hN, hl1, Hf1, s1, S1⟩
    have eH : upd (upd H1 l (.memo ls)) l (XX N) = H1 := by rw [upd_upd, upd_self hl1]
    obtain ⟨hm1, SX⟩ := S1.toX (u := XX N) hs ht hn (mu N)
    rw [eH] at SX
    have hA : addK Hf1 (upd H1 l (.memo ls)) l = some (.memo ls) := addK_same S1.sub _ _ hm1
    refine ⟨_, _, decide (N ≤ age), hc N (grX ⟨addK Hf1 (upd H1 l (.memo ls)), upd H1 l (.memo ls)⟩ l (XX N)) upd_same, _, SX, fun Hf2 H2 g2 => ?_⟩
    have g2' : Grow (upd (addK Hf1 (upd H1 l (.memo ls))) l (XX N)) (upd (upd H1 l (.memo ls)) l (XX N)) Hf2 H2 := by rw [eH]; exact g2
    have gp := pkGrow (ls := ls) hA upd_same g2'
    have gg := (addK_grow S1.sub).trans gp
    have S2 := S1.grow gg
    have hl2 : H2 l = some (XX N) := g2.big _ _ hl1
    by_cases hle : N ≤ age
    · rw [decide_eq_true hle]
      have eH2 : upd (upd H2 l (.memo ls)) l (XX N) = H2 := by rw [upd_upd, upd_self hl2]
      obtain ⟨hm2, SX2⟩ := S2.toX (u := XX N) hs ht hn (mu N)
      rw [eH2] at SX2
      have hA2 : addK (upd Hf2 l (.memo ls)) (upd H2 l (.memo ls)) l = some (.memo ls) := addK_same S2.sub _ _ hm2
      refine iteT ⟨fun st' H' => H' l = some (XX (N + 1)) ∧ ∃ Hf1, Same Hf Hf1 ∧ Stt X.K G st' Hf1 (upd H' l (.memo ls)) (slF C fs nm l ls n tl), fun st' H' ⟨z1, z2⟩ => ⟨age + 1 - (N + 1), by omega, N + 1, rfl, by omega, z1, z2⟩, ?_⟩
      refine ⟨_, _, _, hb N hN hle ⟨addK (upd Hf2 l (.memo ls)) (upd H2 l (.memo ls)), upd H2 l (.memo ls)⟩ hA2 upd_same, _, SX2, fun st' H' ⟨z1, Hf', z2⟩ => ⟨z1, Hf', ?_, ?_⟩⟩
      · exact ((s1.trans gg.frz).trans (addK_same S2.sub)).trans z2.gr.frz
      · exact z2.rebase no (S2.gr.trans (addK_grow S2.sub))
    · rw [decide_eq_false hle]
      exact iteF ⟨N, by omega, hl2, _, s1.trans gg.frz, S2⟩
  · cases f with
    | next =>
      obtain ⟨σ7, H7, I7, N, hN, hl7, Hf7, s7', S7⟩ := q7
      have I8 := Inv.pack I7 hl7 (by omega)
      refine ⟨σ7, _, I8, ?_⟩
      obtain ⟨_, _, hlen, _, _, _, h6⟩ := (show ObjOk X.prog X.w H7 s7.heap l (XX N) from I7.hok l _ hl7)
      have kn : KnowAll (addK Hf7 (upd H7 l (.memo ls))) ls (age + 1) := fun j p f e i hi => by
        have hj : j < ls.length := (List.getElem?_eq_some_iff.mp e).1
        obtain ⟨its, cc, e1, e2, e3⟩ := h6 j p f N e (by rw [List.getElem?_replicate, if_pos hj])
        obtain ⟨q, o, kvs, q1, q2, q3⟩ := e3 i (by omega)
        have key : ∀ b tg o kvs, H7 b = some (.kd tg o kvs) → addK Hf7 (upd H7 l (.memo ls)) b = some (.kd tg o kvs) := fun b tg o kvs z => addK_kd (by rw [upd_ne (fun zz => by rw [zz, hl7] at z; cases z)]; exact z)
        exact ⟨q, o, kvs, key _ _ _ _ q2, fzk_kdm key q3⟩
      have S8 := S7.grow (addK_grow S7.sub)
      exact k σ7 _ _ (s7'.trans (addK_same S7.sub)) (S8.know kn)
    | cont => exact q7
    | brk => exact q7
    | ret v => exact q7
theorem es_learn (he : EE X G (slF C fs nm l ls n tl) e (.kno l ls m)) (hs : swapsWith e none pos.line X.env = pure false := by rfl) : ES X G E (slF C fs nm l ls n tl) (.Expr e pos) (.nx (slF C fs nm l ls m tl)) :=
  psI (ps_expr he hs) fun D st H ⟨Hf, S, k⟩ => ⟨Hf, S, fun v Hf1 H1 g1 r1 => by
    have S1 := S.grow g1
    cases r1 with
    | kno kn =>
      exact k st Hf1 H1 g1.frz (S1.know kn)⟩
theorem comes_kno (hl : ls.length ≤ nm.length) : Comes (.nx (slF C fs nm l ls n tl)) (.ret (.kno l ls n)) := .kn fun K G st Hf H S => by
  obtain ⟨v, hv, rv⟩ := S.val 0 _ rfl
  cases rv with
  | obj q r => exact .kno (grF_kno hl r)
theorem es_openG (i : Nat) {o : Out} {sts : List Stmt} {gs : List (Nat → List (Key × FD))} (h : ∀ l ls, ls.map (·.2) = gs → ESs X G E (dl.set i (.val (.obj C (grF fs nm l ls n)))) sts o) (hd : dl[i]? = some (.val (.gro C fs gs nm n)) := by rfl) : ESs X G E dl sts o := by
  intro pins s st H D I ⟨Hf, S, k⟩
  obtain ⟨v, hv, rv⟩ := S.val i _ hd
  cases rv with
  | @gro s' a _ dx fv _ _ _ _ ls' e q r =>
    refine h a ls' e pins s st H D I ⟨Hf, ⟨S.gr, by simp [S.len], fun j d hj => ?_, fun j o' hj => ?_, fun j m o1 o2 c q1 q2 q3 q4 => ?_⟩, k⟩
    · by_cases ej : i = j
      · subst ej
        have hl : i < dl.length := (List.getElem?_eq_some_iff.mp hd).1
        rw [List.getElem?_set_self hl] at hj; cases hj
        exact ⟨_, hv, .obj q r⟩
      · rw [List.getElem?_set_ne ej] at hj; exact S.val j d hj
    · have ej : i ≠ j := fun z => by
        subst z
        rw [List.getElem?_set_self (List.getElem?_eq_some_iff.mp hd).1] at hj; cases hj
      rw [List.getElem?_set_ne ej] at hj; exact S.own j o' hj
    · have ne : ∀ {j : Nat} {o' : Own}, (dl.set i (.val (.obj C (grF fs nm a ls' n))))[j]? = some (.own o') → dl[j]? = some (.own o') := fun {j o'} hj => by
        have ej : i ≠ j := fun z => by
          subst z
          rw [List.getElem?_set_self (List.getElem?_eq_some_iff.mp hd).1] at hj; cases hj
        rw [List.getElem?_set_ne ej] at hj; exact hj
      exact S.dis j m o1 o2 c (ne q1) (ne q2) q3 q4
end
end Sg
namespace Sg
open PySem PySem.Spec PyProof.Rows L2
theorem noSf_app : ∀ (a b : List (Str × Dt)), noSf (a ++ b) = (noSf a && noSf b)
  | [], b => by rw [List.nil_append, noSf]; rfl
  | (k, d) :: a, b => by rw [List.cons_append, noSf, noSf, noSf_app a b, Bool.and_assoc]
theorem noSf_Y (nm : Nat → Str) (l : Addr) (ls : MLs) (n : Nat) : ∀ js : List Nat, noSf (js.map fun j => (nm j, Dt.memoY l ls j n)) = true
  | [] => rfl
  | j :: js => by rw [List.map_cons, noSf, noSf_Y nm l ls n js]; rfl
theorem noSf_grFY {fs : List (Str × Dt)} {nm : List Str} {l : Addr} {ls : MLs} {n : Nat} (h : noSf fs = true) : noSf (grFY fs nm l ls n) = true := by
  unfold grFY
  rw [noSf_app, h, noSf_Y]; rfl
section
variable {X : Cx} {G0 : Gr} {E : XK} {arg : Expr} {fs : List (Str × Dt)} {l C : Addr} {ls : MLs} {n N : Nat} {tl : List Slot} {f g : Nat → List (Key × FD)} {n0 n1 x0 xg : Str} {p1 p2 p3 p4 p5 a1 a2 c1 c2 q1 q2 : Pos}
theorem ess_append2 (ng : Nat) (hs : noSf fs = true) (ht : noSl tl = true) (hu : tl[ng]? = some .unk) (hgs : ls.map (·.2) = [f, g]) (hN : N < 9000) (cl : Cls X.K C) (na0 : NoAttr X.K C n0) (na1 : NoAttr X.K C n1) (hA : G0.Hf l = some (.memo ls)) (hB : G0.H l = some (.memo ls))
    (harg : ∀ G2, EO X G2 (.val (.obj C (grFY fs [n0, n1] l ls n)) :: tl.set ng (.val (.dicK (fdL (f N))))) arg (.dic (fdL (g N))))
    (hl0 : (grFY fs [n0, n1] l ls n).lookup n0 = some (.memoY l ls 0 n) := by rfl) (hl1 : (grFY fs [n0, n1] l ls n).lookup n1 = some (.memoY l ls 1 n) := by rfl)
    (hN0 : X.N[0]? = some x0 := by rfl) (hv0 : Vis X.env.scope x0 := by first | exact Or.inl rfl | exact Or.inr (Or.inl rfl) | exact Or.inr (Or.inr rfl)) (hd0 : (x0 == ("__debug__" : Str)) = false := by decide) (hc0 : (x0 == ("__classdict__" : Str)) = false := by decide)
    (hNg : X.N[ng + 1]? = some xg := by rfl) (hvg : Vis X.env.scope xg := by first | exact Or.inl rfl | exact Or.inr (Or.inl rfl) | exact Or.inr (Or.inr rfl)) (hdg : (xg == ("__debug__" : Str)) = false := by decide) (hcg : (xg == ("__classdict__" : Str)) = false := by decide)
    (hb1 : attributeBase (.Name x0 p1) n0 X.env (eval (.Name x0 p1) X.env) = eval (.Name x0 p1) X.env := by rfl) (hb2 : attributeBase (.Name x0 p4) n1 X.env (eval (.Name x0 p4) X.env) = eval (.Name x0 p4) X.env := by rfl)
    (hbase1 : attributeBase (.Attribute (.Name x0 p1) n0 p2) "append" X.env (eval (.Attribute (.Name x0 p1) n0 p2) X.env) = eval (.Attribute (.Name x0 p1) n0 p2) X.env := by rfl)
    (hbase2 : attributeBase (.Attribute (.Name x0 p4) n1 p5) "append" X.env (eval (.Attribute (.Name x0 p4) n1 p5) X.env) = eval (.Attribute (.Name x0 p4) n1 p5) X.env := by rfl)
    (hfew1 : ((backTo c1 (starEach [.Name xg p3] X.env)).all (fun x => !x.1) && (backToKw c1 (keywordEach [] X.env)).all (fun x => x.1.isSome) && decide ([Expr.Name xg p3].length + ([] : List Keyword).length + (if ([] : List Keyword).isEmpty then 0 else 1) < 30)) = true := by rfl)
    (hfew2 : ((backTo c2 (starEach [arg] X.env)).all (fun x => !x.1) && (backToKw c2 (keywordEach [] X.env)).all (fun x => x.1.isSome) && decide ([arg].length + ([] : List Keyword).length + (if ([] : List Keyword).isEmpty then 0 else 1) < 30)) = true := by rfl)
    (hline1 : (a1.endLine == c1.line) = true := by rfl) (hline2 : (a2.endLine == c2.line) = true := by rfl) (hst1 : starEach [.Name xg p3] X.env = (false, eval (.Name xg p3) X.env) :: starEach [] X.env := by rfl) (hst2 : starEach [arg] X.env = (false, eval arg X.env) :: starEach [] X.env := by rfl)
    (hs1 : swapsWith (.Call (.Attribute (.Attribute (.Name x0 p1) n0 p2) "append" a1) [.Name xg p3] [] c1) none q1.line X.env = pure false := by rfl) (hs2 : swapsWith (.Call (.Attribute (.Attribute (.Name x0 p4) n1 p5) "append" a2) [arg] [] c2) none q2.line X.env = pure false := by rfl) :
    ESs X (grX G0 l (.memoX ls (List.replicate ls.length N))) E (.val (.obj C (grFY fs [n0, n1] l ls n)) :: tl.set ng (.own (.dic (fdL (f N)))))
      [.Expr (.Call (.Attribute (.Attribute (.Name x0 p1) n0 p2) "append" a1) [.Name xg p3] [] c1) q1, .Expr (.Call (.Attribute (.Attribute (.Name x0 p4) n1 p5) "append" a2) [arg] [] c2) q2] (.raw (RM X.K G0 C fs [n0, n1] l ls n tl (N + 1))) := by
  have harg' : PE X arg (fun st H Q => ∃ G2, tDO X.K G2 (.val (.obj C (grFY fs [n0, n1] l ls n)) :: tl.set ng (.val (.dicK (fdL (f N))))) (.dic (fdL (g N))) st H Q) := fun pins s st H Q I ⟨G2, q⟩ => harg G2 pins s st H Q I q
  refine pssI (pss_cons (ps_expr (pe_bm PySem.F.plainAttrs_list PySem.F.slot_list_append PySem.F.type_list_append mt_appendM (pe_fld (pe_var (pos := p1) hN0 hv0 hd0 hc0) hb1) (pa_cons (pe_var (pos := p3) hNg hvg hdg hcg) pa_nil hst1) hbase1 hfew1 hline1 hst1 rfl) hs1)
    (pss_one (ps_expr (pe_bm PySem.F.plainAttrs_list PySem.F.slot_list_append PySem.F.type_list_append mt_appendM (pe_fld (pe_var (pos := p4) hN0 hv0 hd0 hc0) hb2) (pa_cons harg' pa_nil hst2) hbase2 hfew2 hline2 hst2 rfl) hs2))) fun D st H ⟨Hf, S, k⟩ => ?_
  have e2 : ls.length = 2 := by have := congrArg List.length hgs; simpa using this
  have eR : ∀ M : Nat, List.replicate ls.length M = [M, M] := fun M => by rw [e2]; rfl
  rw [eR] at S
  have hng : ng < tl.length := (List.getElem?_eq_some_iff.mp hu).1
  obtain ⟨v0, hv, rv⟩ := S.val 0 _ rfl
  cases rv with
  | @obj sa _ dx fv _ hsa rf =>
    have hml : Hf l = some (.memoX ls [N, N]) := S.gr.frz _ _ upd_same
    have hlH : H l = some (.memoX ls [N, N]) := S.sub _ _ hml
    have hm : MemoAt Hf l ls := .inr ⟨_, hml⟩
    obtain ⟨y0, hy0, ry0⟩ := rf.lookup hl0
    obtain ⟨y1, hy1, ry1⟩ := rf.lookup hl1
    obtain ⟨qa, hq, hqf, hqg, kvs, hqd, rk⟩ := S.own (ng + 1) (.dic (fdL (f N))) (by show (tl.set ng _)[ng]? = _; rw [List.getElem?_set_self hng])
    cases ry0 with
    | @memoY _ p _ _ _ f0 hp0 _ hpa0 _ => cases ry1 with
      | @memoY _ pp _ _ _ f1 hp1 _ hpa1 _ =>
        have ef0 : f0 = f := by
          have := congrArg (fun z => z[0]?) hgs
          simp only [List.getElem?_map, hp0] at this
          exact Option.some.inj this
        have ef1 : f1 = g := by
          have := congrArg (fun z => z[1]?) hgs
          simp only [List.getElem?_map, hp1] at this
          exact Option.some.inj this
        subst ef0 ef1
        have fzH : FzK H kvs (f0 N) := fzk_kdm (fun b tg o ks e => S.sub _ _ e) (fzk_of rk)
        have nql : qa ≠ l := fun z => by rw [z, hlH] at hqd; cases hqd
        have nsl : sa ≠ l := fun z => by rw [z, hml] at hsa; cases hsa
        have nsq : sa ≠ qa := fun z => by rw [z, hqf] at hsa; cases hsa
        refine ⟨_, hv, sa, C, dx, fv, _, rfl, S.sub _ _ hsa, cl, na0, hy0, .inr (.inr (.inr (.inr ⟨rfl, l, ls, [N, N], 0, f0, N, hlH, hp0, rfl⟩))), _, hq, l, ls, [N, N], 0, p, f0, N, qa, kvs, rfl, rfl, hlH, hp0, rfl, hN, hqd, fzH, fun oq => ?_⟩
        let H4 : Hp := upd (upd H l (.memoX ls ([N, N].set 0 (N + 1)))) qa (.kd (some (p, N)) oq kvs)
        let u4 : HO := .memoX ls [N + 1, N]
        have h4l : H4 l = some u4 := by show (upd (upd H l _) qa _) l = _; rw [upd_ne (Ne.symm nql), upd_same]; rfl
        have h4q : H4 qa = some (.kd (some (p, N)) oq kvs) := upd_same
        have h4b : ∀ b o, H b = some o → b ≠ l → b ≠ qa → H4 b = some o := fun b o e n1 n2 => by show (upd (upd H l _) qa _) b = _; rw [upd_ne n2, upd_ne n1]; exact e
        have h4n : ∀ b, H4 b = none → H b = none := fun b e => by
          have n1 : b ≠ l := fun z => by rw [z, h4l] at e; cases e
          have n2 : b ≠ qa := fun z => by rw [z, h4q] at e; cases e
          have e : (upd (upd H l _) qa _) b = none := e
          rw [upd_ne n2, upd_ne n1] at e; exact e
        have hfq : ∀ b o, Hf b = some o → b ≠ qa := fun b o e z => by rw [z, hqf] at e; cases e
        have sub4 : Same (upd Hf l u4) H4 := fun b o e => by
          by_cases bl : b = l
          · rw [bl, upd_same] at e; cases e; rw [bl]; exact h4l
          · rw [upd_ne bl] at e; exact h4b b o (S.sub _ _ e) bl (hfq b o e)
        let Hf4 : Hp := addK (upd Hf l u4) H4
        have sm4 : Same (upd Hf l u4) Hf4 := addK_same sub4
        have mu4 : MemoU ls u4 := .inr ⟨_, rfl⟩
        have key4 : ∀ b tg o ks, H b = some (.kd tg o ks) → Hf4 b = some (.kd tg o ks) := fun b tg o ks e => addK_kd (h4b b _ e (fun z => by rw [z, hlH] at e; cases e) (fun z => by rw [z, hqd] at e; cases e))
        have S4 : Stt X.K ⟨Hf4, H4⟩ st Hf4 H4 (.val (.obj C (grFY fs [n0, n1] l ls n)) :: tl.set ng (.val (.dicK (fdL (f0 N))))) := by
          have no : ∀ (i : Nat) o, (Slot.val (.obj C (grFY fs [n0, n1] l ls n)) :: tl.set ng (.val (.dicK (fdL (f0 N)))))[i]? ≠ some (.own o) := fun i o h => by
            cases i with
            | zero => cases h
            | succ i =>
              have h : (tl.set ng (.val (.dicK (fdL (f0 N)))))[i]? = some (.own o) := h
              by_cases e : ng = i
              · subst e; rw [List.getElem?_set_self hng] at h; cases h
              · rw [List.getElem?_set_ne e] at h; exact noOwn_of (noSl_own ht) i o h
          refine ⟨.refl (addK_sub sub4), by have := S.len; simpa using this, fun i d h => ?_, fun i o h => absurd h (no i o), fun i j o o' a h => absurd h (no i o)⟩
          cases i with
          | zero =>
            cases h
            exact ⟨_, hv, .obj (sm4 _ _ (flip_at hm hsa rfl)) ((repf_flip hm mu4 (noSf_grFY hs) rf).mono sm4)⟩
          | succ i =>
            have h : (tl.set ng (.val (.dicK (fdL (f0 N)))))[i]? = some (.val d) := h
            by_cases e : ng = i
            · subst e
              rw [List.getElem?_set_self hng] at h; cases h
              exact ⟨_, hq, .dicK (addK_kd h4q) (fzk_rep (fzk_kdm key4 fzH))⟩
            · rw [List.getElem?_set_ne e] at h
              obtain ⟨w, w1, w2⟩ := S.val (i + 1) d (by show (tl.set ng _)[i]? = _; rw [List.getElem?_set_ne e]; exact h)
              exact ⟨w, w1, (rep_flip hm mu4 (noSl_val ht h) w2).mono sm4⟩
        refine ⟨_, hv, sa, C, dx, fv, _, rfl, h4b _ _ (S.sub _ _ hsa) nsl nsq, cl, na1, hy1, .inr (.inr (.inr (.inr ⟨rfl, l, ls, [N + 1, N], 1, f1, N, h4l, hp1, rfl⟩))), ⟨Hf4, H4⟩, Hf4, S4, fun ra Hf5 H5 g5 n5 n5' ⟨kvs2, hrd, rk2⟩ => ?_⟩
        have h5l : H5 l = some u4 := g5.big _ _ h4l
        have nrl : ra ≠ l := fun z => by rw [z, h5l] at hrd; have hrd := Option.some.inj hrd; have hrd : HO.memoX ls [N + 1, N] = .dK kvs2 := hrd; cases hrd
        refine ⟨l, ls, [N + 1, N], 1, pp, f1, N, ra, kvs2, rfl, rfl, h5l, hp1, rfl, hN, hrd, fzk_kdm (fun b tg o ks e => g5.sub _ _ e) (fzk_of rk2), fun or => ?_⟩
        let H6 : Hp := upd (upd H5 l (.memoX ls ([N + 1, N].set 1 (N + 1)))) ra (.kd (some (pp, N)) or kvs2)
        show D.nx st H6
        have h6l : H6 l = some (.memoX ls [N + 1, N + 1]) := by show (upd (upd H5 l _) ra _) l = _; rw [upd_ne (Ne.symm nrl), upd_same]; rfl
        have pk6 : ∀ b o, H5 b = some o → b ≠ l → b ≠ ra → (upd H6 l (.memo ls)) b = some o := fun b o e n1 n2 => by
          rw [upd_ne n1]
          show (upd (upd H5 l _) ra _) b = _
          rw [upd_ne n2, upd_ne n1]; exact e
        have f5r : ∀ b o, Hf5 b = some o → b ≠ ra := fun b o e z => by rw [z, n5'] at e; cases e
        have sub6 : Same (upd Hf5 l (.memo ls)) (upd H6 l (.memo ls)) := fun b o e => by
          by_cases bl : b = l
          · rw [bl, upd_same] at e ⊢; exact e
          · rw [upd_ne bl] at e; exact pk6 b o (g5.sub _ _ e) bl (f5r b o e)
        have sm6 := addK_same sub6
        have f4 : ∀ b o, Hf b = some o → b ≠ l → Hf5 b = some o := fun b o e n1 => g5.frz _ _ (sm4 _ _ (by rw [upd_ne n1]; exact e))
        have g6 : Grow G0.Hf G0.H (addK (upd Hf5 l (.memo ls)) (upd H6 l (.memo ls))) (upd H6 l (.memo ls)) := by
          refine ⟨fun b o e => ?_, fun b o e => ?_, addK_sub sub6, fun b o e => ?_⟩
          · by_cases bl : b = l
            · rw [bl, hB] at e; cases e; rw [bl]; exact upd_same
            · have h3 : H b = some o := S.gr.big _ _ (by show (upd G0.H l _) b = _; rw [upd_ne bl]; exact e)
              have nbq : b ≠ qa := fun z => by
                have : (upd G0.H l (.memoX ls [N, N])) qa = none := hqg
                rw [← z, upd_ne bl, e] at this; cases this
              have h4 := h4b b o h3 bl nbq
              exact pk6 b o (g5.big _ _ h4) bl (fun z => by have n5 : H4 ra = none := n5; rw [z, n5] at h4; cases h4)
          · by_cases bl : b = l
            · rw [bl, hA] at e; cases e; rw [bl]; exact sm6 _ _ upd_same
            · have h3 : Hf b = some o := S.gr.frz _ _ (by show (upd G0.Hf l _) b = _; rw [upd_ne bl]; exact e)
              exact sm6 _ _ (by rw [upd_ne bl]; exact f4 b o h3 bl)
          · rcases addK_or (Hf := upd Hf5 l (.memo ls)) (H := upd H6 l (.memo ls)) b with ⟨u', z1, z2, z3⟩ | z
            · rw [z3] at e; cases e; exact .inr (.inr z2)
            · rw [z] at e
              by_cases bl : b = l
              · rw [bl]; exact .inl ⟨_, hA⟩
              · rw [upd_ne bl] at e
                rcases g5.new b o e with ⟨o', w⟩ | w | w
                · have eo : o' = o := by have := g5.frz _ _ w; rw [e] at this; exact (Option.some.inj this).symm
                  subst eo
                  rcases addK_or (Hf := upd Hf l u4) (H := H4) b with ⟨u', z1, z2, z3⟩ | z'
                  · have w : addK (upd Hf l u4) H4 b = some o' := w
                    rw [z3] at w; cases w; exact .inr (.inr z2)
                  · have w : addK (upd Hf l u4) H4 b = some o' := w
                    rw [z', upd_ne bl] at w
                    rcases S.gr.new b o' w with ⟨o'', y⟩ | y | y
                    · have y : (upd G0.Hf l _) b = some o'' := y
                      rw [upd_ne bl] at y; exact .inl ⟨o'', y⟩
                    · have y : (upd G0.H l _) b = none := y
                      rw [upd_ne bl] at y; exact .inr (.inl y)
                    · exact .inr (.inr y)
                · have y : (upd G0.H l (.memoX ls [N, N])) b = none := S.gr.big.free (h4n b w)
                  rw [upd_ne bl] at y; exact .inr (.inl y)
                · exact .inr (.inr w)
        have g45 : Same (upd Hf l u4) Hf5 := sm4.trans g5.frz
        have hm5 : MemoAt Hf5 l ls := .inr ⟨_, g45 _ _ upd_same⟩
        have rep6 : ∀ {v : V} {d : Dt}, noS d = true → Rep X.K Hf v d → Rep X.K (addK (upd Hf5 l (.memo ls)) (upd H6 l (.memo ls))) v d := fun {v d} hn r => (rep_flip hm5 (.inl rfl) hn ((rep_flip hm mu4 hn r).mono g45)).mono sm6
        refine k st H6 ⟨by rw [eR]; exact h6l, _, ⟨g6, by have := S.len; simpa using this, fun i d h => ?_, fun i o h => ?_, fun i j o o' a h => ?_⟩⟩
        · cases i with
          | zero =>
            cases h
            refine ⟨_, hv, .obj (sm6 _ _ (by rw [upd_ne nsl]; exact f4 _ _ hsa nsl)) ?_⟩
            have r5 := (repf_flip hm mu4 (noSf_grFY hs) rf).mono g45
            exact (grF_p hs hm5 r5).mono sm6
          | succ i =>
            have h : tl[i]? = some (.val d) := h
            have e : ng ≠ i := fun z => by rw [← z, hu] at h; cases h
            obtain ⟨w, w1, w2⟩ := S.val (i + 1) d (by show (tl.set ng _)[i]? = _; rw [List.getElem?_set_ne e]; exact h)
            exact ⟨w, w1, rep6 (noSl_val ht h) w2⟩
        · cases i with
          | zero => cases h
          | succ i => exact absurd h (noOwn_of (noSl_own ht) i o)
        · cases i with
          | zero => cases h
          | succ i => exact absurd h (noOwn_of (noSl_own ht) i o)
end
end Sg
namespace Sg
open PySem PySem.Spec PyProof.Rows L2
def ldk : HO → Bool
  | .lst _ => true
  | .dK _ => true
  | _ => false
def conv (H : Hp) (p p2 q1 q2 : Addr) (u1 u2 u3 u4 : HO) : Hp := upd (upd (upd (upd H p u1) p2 u2) q1 u3) q2 u4
section
variable {X : Cx} {pins : List (Addr × Obj)} {σ : L2.St} {H : Hp} {s : Shared} {p p2 q1 q2 : Addr} {kv1 kv2 : List (Key × V)} {f g : Nat → List (Key × FD)}
theorem Inv.toMemo (I : L2.Inv X pins σ H s) (hp : H p = some (.lst [.ref q1])) (hp2 : H p2 = some (.lst [.ref q2])) (hq1 : H q1 = some (.dK kv1)) (hq2 : H q2 = some (.dK kv2)) (f1 : FzK H kv1 (f 0)) (f2 : FzK H kv2 (g 0)) (n1 : p ≠ p2) (n2 : q1 ≠ q2) : ∃ o1 o2, L2.Inv X pins σ (conv H p p2 q1 q2 (.memo [(p, f), (p2, g)]) (.part p) (.kd (some (p, 0)) o1 kv1) (.kd (some (p2, 0)) o2 kv2)) s := by
  obtain ⟨z1, i1, c1, r1, e1⟩ := (show ObjOk X.prog X.w H s.heap p (.lst [.ref q1]) from I.hok p _ hp)
  obtain ⟨z2, i2, c2, r2, e2⟩ := (show ObjOk X.prog X.w H s.heap p2 (.lst [.ref q2]) from I.hok p2 _ hp2)
  obtain ⟨hz1, lo1, vs1, kr1, o1, es1, ep1, ho1, hr1⟩ := (show ObjOk X.prog X.w H s.heap q1 (.dK kv1) from I.hok q1 _ hq1)
  obtain ⟨hz2, lo2, vs2, kr2, o2, es2, ep2, ho2, hr2⟩ := (show ObjOk X.prog X.w H s.heap q2 (.dK kv2) from I.hok q2 _ hq2)
  obtain ⟨u1, rfl, w1⟩ := vals1 r1
  obtain ⟨u2, rfl, w2⟩ := vals1 r2
  cases (show u1 = Value.ref q1 from w1)
  cases (show u2 = Value.ref q2 from w2)
  refine ⟨o1, o2, ?_⟩
  have m1 : p ≠ q1 := fun z => by rw [z, hq1] at hp; cases hp
  have m2 : p ≠ q2 := fun z => by rw [z, hq2] at hp; cases hp
  have m3 : p2 ≠ q1 := fun z => by rw [z, hq1] at hp2; cases hp2
  have m4 : p2 ≠ q2 := fun z => by rw [z, hq2] at hp2; cases hp2
  generalize hH' : conv H p p2 q1 q2 (.memo [(p, f), (p2, g)]) (.part p) (.kd (some (p, 0)) o1 kv1) (.kd (some (p2, 0)) o2 kv2) = H'
  have atp : H' p = some (.memo [(p, f), (p2, g)]) := by rw [← hH']; unfold conv; rw [upd_ne m2, upd_ne m1, upd_ne n1, upd_same]
  have atp2 : H' p2 = some (.part p) := by rw [← hH']; unfold conv; rw [upd_ne m4, upd_ne m3, upd_same]
  have atq1 : H' q1 = some (.kd (some (p, 0)) o1 kv1) := by rw [← hH']; unfold conv; rw [upd_ne n2, upd_same]
  have atq2 : H' q2 = some (.kd (some (p2, 0)) o2 kv2) := by rw [← hH']; unfold conv; rw [upd_same]
  have oth : ∀ b, b ≠ p → b ≠ p2 → b ≠ q1 → b ≠ q2 → H' b = H b := fun b a1 a2 a3 a4 => by rw [← hH']; unfold conv; rw [upd_ne a4, upd_ne a3, upd_ne a2, upd_ne a1]
  have atH : ∀ b o, H b = some o → ldk o = false → H' b = some o := fun b o e n => by
    rw [oth b (fun z => by rw [z, hp] at e; cases e; cases n) (fun z => by rw [z, hp2] at e; cases e; cases n) (fun z => by rw [z, hq1] at e; cases e; cases n) (fun z => by rw [z, hq2] at e; cases e; cases n)]
    exact e
  have kp : Kp H H' := ⟨fun b tg o ks e => atH b _ e rfl, fun b e => by
    cases q : H b with
    | none => rw [q] at e; exact e.elim
    | some u =>
      rw [q] at e
      rw [atH b u q (by cases u <;> first | rfl | exact e.elim)]
      exact e, fun b x e => atH b _ e rfl⟩
  refine I.un (h' := s.heap) (t' := s.toks) ⟨fun b o e _ _ _ => e, fun b o e _ _ _ => ⟨o.slots, e⟩, fun b o e n _ => ?_, fun b o e _ => ⟨o, e⟩, fun b xs e => atH b _ e rfl, fun b o u e => atH b _ e rfl, fun b ps e => ⟨#[], by rw [atH b _ e rfl]; simp⟩⟩ fun b u e => ?_
  · rw [oth b (fun z => by rw [z, hp] at n; cases n) (fun z => by rw [z, hp2] at n; cases n) (fun z => by rw [z, hq1] at n; cases n) (fun z => by rw [z, hq2] at n; cases n)]
    exact n
  · by_cases b1 : b = p
    · subst b1
      rw [atp] at e; cases e
      refine ⟨⟨_, e1⟩, 1, by decide, ⟨f, rfl⟩, rfl, fun j a h hj => ?_, by simp [n1], fun n hn => by rw [List.mem_replicate] at hn; omega, fun j a h n hj hn => ?_⟩
      · match j, hj with
        | 0, hj => cases hj; exact .inl rfl
        | 1, hj => cases hj; exact .inr atp2
      · match j, hj, hn with
        | 0, hj, hn =>
          cases hj; cases hn
          refine ⟨_, _, e1, rfl, fun i hi => ?_⟩
          have : i = 0 := by omega
          subst this
          exact ⟨q1, o1, kv1, rfl, atq1, f1.kp kp⟩
        | 1, hj, hn =>
          cases hj; cases hn
          refine ⟨_, _, e2, rfl, fun i hi => ?_⟩
          have : i = 0 := by omega
          subst this
          exact ⟨q2, o2, kv2, rfl, atq2, f2.kp kp⟩
    · by_cases b2 : b = p2
      · subst b2; rw [atp2] at e; cases e; exact ⟨_, e2⟩
      · by_cases b3 : b = q1
        · subst b3; rw [atq1] at e; cases e
          refine ⟨ho1, ⟨hz1, lo1, vs1, kr1, o1, es1, ep1, ho1, hr1⟩, fun a i ht => ?_⟩
          cases ht
          exact ⟨by rw [atp]; trivial, _, _, e1, rfl⟩
        · by_cases b4 : b = q2
          · subst b4; rw [atq2] at e; cases e
            refine ⟨ho2, ⟨hz2, lo2, vs2, kr2, o2, es2, ep2, ho2, hr2⟩, fun a i ht => ?_⟩
            cases ht
            exact ⟨by rw [atp2]; trivial, _, _, e2, rfl⟩
          · rw [oth b b1 b2 b3 b4] at e
            exact (I.hok b u e).stay (fun _ _ _ q => q) (fun c q => atH c _ q rfl) (fun c xs q => atH c _ q rfl) kp
end
theorem putF_le (n0 : Str) (v : V) : ∀ fv : List (Str × V), (putF n0 v fv).length ≤ fv.length + 1
  | [] => Nat.le_refl _
  | (k, w) :: r => by
    have ih := putF_le n0 v r
    unfold putF
    split
    · simp
    · simp only [List.length_cons]; omega
section
variable {X : Cx} {G : Gr} {E : XK} {e1 e2 : Expr} {fs : List (Str × Dt)} {z C : Addr} {tl : List Slot} {f g : Nat → List (Key × FD)} {n0 n1 x0 : Str} {pn1 pn2 ap1 ap2 lp1 lp2 q1 q2 : Pos}
theorem ess_memoInit (no : noOwn tl = true) (cl : Cls X.K C) (na0 : NoAttr X.K C n0) (na1 : NoAttr X.K C n1) (he1 : EO X G (.own (.slf z C fs) :: tl) e1 (.dic (fdL (f 0)))) (he2 : EO X G (.unk :: tl) e2 (.dic (fdL (g 0)))) (hput : ∀ p ls, putD n1 (.memo p ls 1 1) (putD n0 (.memo p ls 0 1) fs) = grF fs [n0, n1] p ls 1 := by intro _ _; rfl) (hlen : Nat.ble fs.length 990 = true := by rfl) (hN : X.N[0]? = some x0 := by rfl) (hv : Vis X.env.scope x0 := by first | exact Or.inl rfl | exact Or.inr (Or.inl rfl) | exact Or.inr (Or.inr rfl)) (hdb : (x0 == ("__debug__" : Str)) = false := by decide) (hcd : (x0 == ("__classdict__" : Str)) = false := by decide) (hst1 : starEach [e1] X.env = [(false, eval e1 X.env)] := by rfl) (hst2 : starEach [e2] X.env = [(false, eval e2 X.env)] := by rfl) (hs1 : swapsWith (.List [e1] lp1) (some (.Attribute (.Name x0 pn1) n0 ap1)) q1.line X.env = pure false := by rfl) (hs2 : swapsWith (.List [e2] lp2) (some (.Attribute (.Name x0 pn2) n1 ap2)) q2.line X.env = pure false := by rfl) : ESs X G E (.own (.slf z C fs) :: tl) [.Assign [.Attribute (.Name x0 pn1) n0 ap1] (.List [e1] lp1) q1, .Assign [.Attribute (.Name x0 pn2) n1 ap2] (.List [e2] lp2) q2] (.nx (.own (.slfG z C fs [f, g] [n0, n1] 1) :: tl)) := by
  intro pins s st H D I ⟨Hf, S, k⟩
  have base := pss_cons (ps_fld (pos := q1) (pos' := ap1) (pe_var (pos := pn1) hN hv hdb hcd) (pe_lst (pos := lp1) (pa_cons he1 pa_nil hst1)) hs1) (pss_one (ps_fld (pos := q2) (pos' := ap2) (pe_var (pos := pn2) hN hv hdb hcd) (pe_lst (pos := lp2) (pa_cons he2 pa_nil hst2)) hs2))
  let RQ : L2.St → Hp → Prop := fun st' H' => ∃ p p2 a1 a2 kv1 kv2, H' p = some (.lst [.ref a1]) ∧ H' p2 = some (.lst [.ref a2]) ∧ H' a1 = some (.dK kv1) ∧ H' a2 = some (.dK kv2) ∧ FzK H' kv1 (f 0) ∧ FzK H' kv2 (g 0) ∧ p ≠ p2 ∧ a1 ≠ a2 ∧  ∀ o1 o2, D.nx st' (conv H' p p2 a1 a2 (.memo [(p, f), (p2, g)]) (.part p) (.kd (some (p, 0)) o1 kv1) (.kd (some (p2, 0)) o2 kv2))
  refine thn (base pins s st H { D with nx := RQ } I ?_) fun fl s7 q7 => ?_
  · obtain ⟨za, hz, hzf, hzg, ez, dx, fv, hzH, rf⟩ := S.own 0 _ rfl
    subst ez
    refine ⟨Hf, S, fun a1 Hf1 H1 g1 n1' n1'' ⟨kv1, ha1, rk1⟩ => ⟨Nat.le_of_ble_eq_true rfl, fun p hp => ?_⟩⟩
    have hz1 : H1 za = some (.ins C dx fv) := g1.big _ _ hzH
    have npz : za ≠ p := ne_of_none hz1 hp
    have npa : a1 ≠ p := ne_of_none ha1 hp
    have nza : za ≠ a1 := fun w => by rw [w, n1'] at hzH; cases hzH
    have hzp : (upd H1 p (.lst [.ref a1])) za = some (.ins C dx fv) := by rw [upd_ne npz]; exact hz1
    refine ⟨_, hz, za, C, dx, fv, rfl, hzp, cl, na0, by rw [rf.length]; exact Nat.lt_of_le_of_lt (Nat.le_of_ble_eq_true hlen) (by decide), ?_⟩
    let H2 : Hp := upd (upd H1 p (.lst [.ref a1])) za (.ins C dx (putF n0 (.ref p) fv))
    have hfz1 : Hf1 za = none := g1.keepNone hzf hzH
    have gz1 : Grow Hf1 H1 Hf1 (upd H1 p (.lst [.ref a1])) := .allocO g1.sub hp
    have S0 : Stt X.K G st Hf H (.unk :: tl) := S.weak ⟨rfl, fun i s' e n => by
      cases i with
      | zero => cases e; exact absurd rfl n
      | succ i => exact e⟩
    have nou : noOwn (.unk :: tl) = true := no
    have S2 : Stt X.K G st Hf1 H2 (.unk :: tl) := stt_upd ((S0.grow g1).grow gz1) nou hfz1 hzg
    refine ⟨Hf1, S2, fun a2 Hf3 H3 g3 n3 n3' ⟨kv2, ha2, rk2⟩ => ⟨Nat.le_of_ble_eq_true rfl, fun p2 hp2 => ?_⟩⟩
    have n3h : H2 a2 = none := n3
    have h2z : H2 za = some (.ins C dx (putF n0 (.ref p) fv)) := upd_same
    have h2p : H2 p = some (.lst [.ref a1]) := by show (upd (upd H1 p _) za _) p = _; rw [upd_ne (Ne.symm npz), upd_same]
    have h2a : H2 a1 = some (.dK kv1) := by show (upd (upd H1 p _) za _) a1 = _; rw [upd_ne (Ne.symm nza), upd_ne npa]; exact ha1
    have h3z := g3.big _ _ h2z
    have h3p := g3.big _ _ h2p
    have h3a := g3.big _ _ h2a
    have npz2 : za ≠ p2 := ne_of_none h3z hp2
    have npp2 : p ≠ p2 := ne_of_none h3p hp2
    have na1p2 : a1 ≠ p2 := ne_of_none h3a hp2
    have na2p2 : a2 ≠ p2 := ne_of_none ha2 hp2
    have nza2 : za ≠ a2 := fun w => by rw [w, n3h] at h2z; cases h2z
    have npa2 : p ≠ a2 := fun w => by rw [w, n3h] at h2p; cases h2p
    have naa2 : a1 ≠ a2 := fun w => by rw [w, n3h] at h2a; cases h2a
    have hzp2 : (upd H3 p2 (.lst [.ref a2])) za = some (.ins C dx (putF n0 (.ref p) fv)) := by rw [upd_ne npz2]; exact h3z
    refine ⟨_, hz, za, C, dx, _, rfl, hzp2, cl, na1, ?_, ?_⟩
    · have := putF_le n0 (.ref p) fv
      have h9 := Nat.le_of_ble_eq_true hlen
      have := rf.length
      omega
    let H4 : Hp := upd (upd H3 p2 (.lst [.ref a2])) za (.ins C dx (putF n1 (.ref p2) (putF n0 (.ref p) fv)))
    have h4p : H4 p = some (.lst [.ref a1]) := by show (upd (upd H3 p2 _) za _) p = _; rw [upd_ne (Ne.symm npz), upd_ne npp2]; exact h3p
    have h4p2 : H4 p2 = some (.lst [.ref a2]) := by show (upd (upd H3 p2 _) za _) p2 = _; rw [upd_ne (Ne.symm npz2), upd_same]
    have h4a1 : H4 a1 = some (.dK kv1) := by show (upd (upd H3 p2 _) za _) a1 = _; rw [upd_ne (Ne.symm nza), upd_ne na1p2]; exact h3a
    have h4a2 : H4 a2 = some (.dK kv2) := by show (upd (upd H3 p2 _) za _) a2 = _; rw [upd_ne (Ne.symm nza2), upd_ne na2p2]; exact ha2
    have h4z : H4 za = some (.ins C dx (putF n1 (.ref p2) (putF n0 (.ref p) fv))) := upd_same
    have f3z : Hf3 za = none := g3.keepNone hfz1 h2z
    have f3p : Hf3 p = none := g3.keepNone (g1.sub.free hp) h2p
    have f3a1 : Hf3 a1 = none := g3.keepNone n1'' h2a
    have f3p2 : Hf3 p2 = none := g3.sub.free hp2
    have sub4 : Same Hf3 H4 := fun b o e => by
      have b1 : b ≠ za := fun w => by rw [w, f3z] at e; cases e
      have b2 : b ≠ p2 := fun w => by rw [w, f3p2] at e; cases e
      show (upd (upd H3 p2 _) za _) b = _
      rw [upd_ne b1, upd_ne b2]; exact g3.sub _ _ e
    have S4 : Stt X.K G st Hf3 H4 (.unk :: tl) := stt_upd ((S2.grow g3).grow (.allocO g3.sub hp2)) nou f3z hzg
    have gp : G.H p = none := S.gr.big.free (g1.big.free hp)
    have ga1 : G.H a1 = none := S.gr.big.free n1'
    have gp2 : G.H p2 = none := S2.gr.big.free (g3.big.free hp2)
    have ga2 : G.H a2 = none := S2.gr.big.free n3
    have fz1 : FzK Hf3 kv1 (f 0) := fzk_of (rk1.mono g3.frz)
    have fz2 : FzK Hf3 kv2 (g 0) := fzk_of rk2
    refine ⟨p, p2, a1, a2, kv1, kv2, h4p, h4p2, h4a1, h4a2, fzk_kdm (fun b tg o ks e => sub4 _ _ e) fz1, fzk_kdm (fun b tg o ks e => sub4 _ _ e) fz2, npp2, naa2, fun o1 o2 => ?_⟩
    let ls : MLs := [(p, f), (p2, g)]
    let u1 : HO := .memo ls
    let u3 : HO := .kd (some (p, 0)) o1 kv1
    let u4 : HO := .kd (some (p2, 0)) o2 kv2
    have m1 : p ≠ a1 := Ne.symm npa
    have cat : ∀ (B : Hp), conv B p p2 a1 a2 u1 (.part p) u3 u4 p = some u1 ∧ conv B p p2 a1 a2 u1 (.part p) u3 u4 p2 = some (.part p) ∧ conv B p p2 a1 a2 u1 (.part p) u3 u4 a1 = some u3 ∧ conv B p p2 a1 a2 u1 (.part p) u3 u4 a2 = some u4 := fun B => by
      unfold conv
      refine ⟨?_, ?_, ?_, ?_⟩
      · rw [upd_ne npa2, upd_ne m1, upd_ne npp2, upd_same]
      · rw [upd_ne (Ne.symm na2p2), upd_ne (Ne.symm na1p2), upd_same]
      · rw [upd_ne naa2, upd_same]
      · rw [upd_same]
    have coth : ∀ (B : Hp) b, b ≠ p → b ≠ p2 → b ≠ a1 → b ≠ a2 → conv B p p2 a1 a2 u1 (.part p) u3 u4 b = B b := fun B b c1 c2 c3 c4 => by unfold conv; rw [upd_ne c4, upd_ne c3, upd_ne c2, upd_ne c1]
    let Hf5 : Hp := conv Hf3 p p2 a1 a2 u1 (.part p) u3 u4
    have smf : Same Hf3 Hf5 := fun b o e => by
      show conv Hf3 p p2 a1 a2 u1 (.part p) u3 u4 b = some o
      rw [coth Hf3 b (fun w => by rw [w, f3p] at e; cases e) (fun w => by rw [w, f3p2] at e; cases e) (fun w => by rw [w, f3a1] at e; cases e) (fun w => by rw [w, n3'] at e; cases e)]
      exact e
    have key : ∀ (A B : Hp), Same A B → Same (conv A p p2 a1 a2 u1 (.part p) u3 u4) (conv B p p2 a1 a2 u1 (.part p) u3 u4) := fun A B sm => same_upd2 (same_upd2 (same_upd2 (same_upd2 sm)))
    have sub5 : Same Hf5 (conv H4 p p2 a1 a2 u1 (.part p) u3 u4) := key _ _ sub4
    have hput' : RepF X.K Hf5 (putF n1 (.ref p2) (putF n0 (.ref p) fv)) (grF fs [n0, n1] p ls 1) := by
      rw [← hput p ls]
      refine ((rf.mono ((g1.frz.trans g3.frz).trans smf)).put (f := n0) (d := .memo p ls 0 1) ?_).put (f := n1) (d := .memo p ls 1 1) ?_
      · refine .memo (f := f) rfl (cat Hf3).1 (.inl rfl) fun i hi => ?_
        have : i = 0 := by omega
        subst this
        exact ⟨a1, o1, kv1, (cat Hf3).2.2.1, fzk_kdm (fun b tg o ks e => smf _ _ e) fz1⟩
      · refine .memo (f := g) rfl (cat Hf3).1 (.inr (cat Hf3).2.1) fun i hi => ?_
        have : i = 0 := by omega
        subst this
        exact ⟨a2, o2, kv2, (cat Hf3).2.2.2, fzk_kdm (fun b tg o ks e => smf _ _ e) fz2⟩
    have czH : conv H4 p p2 a1 a2 u1 (.part p) u3 u4 za = some (.ins C dx (putF n1 (.ref p2) (putF n0 (.ref p) fv))) := by rw [coth H4 za npz npz2 nza nza2]; exact h4z
    have czF : Hf5 za = none := by show conv Hf3 p p2 a1 a2 u1 (.part p) u3 u4 za = none; rw [coth Hf3 za npz npz2 nza nza2]; exact f3z
    refine k st Hf5 _ ((g1.frz.trans g3.frz).trans smf) ⟨⟨fun b o e => ?_, S4.gr.frz.trans smf, sub5, fun b o e => ?_⟩, by have := S4.len; simpa using this, fun i d h => ?_, fun i o h => ?_, fun i j o o' a w1 w2 => ?_⟩
    · rw [coth H4 b (fun w => by rw [w, gp] at e; cases e) (fun w => by rw [w, gp2] at e; cases e) (fun w => by rw [w, ga1] at e; cases e) (fun w => by rw [w, ga2] at e; cases e)]
      exact S4.gr.big _ _ e
    · by_cases c1 : b = p
      · rw [c1]; exact .inr (.inl gp)
      · by_cases c2 : b = p2
        · rw [c2]; exact .inr (.inl gp2)
        · by_cases c3 : b = a1
          · rw [c3]; exact .inr (.inl ga1)
          · by_cases c4 : b = a2
            · rw [c4]; exact .inr (.inl ga2)
            · have e : conv Hf3 p p2 a1 a2 u1 (.part p) u3 u4 b = some o := e
              rw [coth Hf3 b c1 c2 c3 c4] at e
              exact S4.gr.new b o e
    · cases i with
      | zero => cases h
      | succ i =>
        obtain ⟨w, w1, w2⟩ := S4.val (i + 1) d h
        exact ⟨w, w1, w2.mono smf⟩
    · cases i with
      | zero =>
        cases h
        exact ⟨za, hz, czF, hzg, rfl, dx, _, p, ls, rfl, czH, hput'⟩
      | succ i => exact absurd h (noOwn_of no i o)
    · cases i with
      | zero => cases j with
        | zero => exact fun _ _ => rfl
        | succ j => exact absurd w2 (noOwn_of no j o')
      | succ i => exact absurd w1 (noOwn_of no i o)
  · cases fl with
    | next =>
      obtain ⟨σ7, H7, I7, p, p2, a1, a2, kv1, kv2, y1, y2, y3, y4, y5, y6, y7, y8, kk⟩ := q7
      obtain ⟨o1, o2, I8⟩ := Inv.toMemo I7 y1 y2 y3 y4 y5 y6 y7 y8
      exact ⟨σ7, _, I8, kk o1 o2⟩
    | cont => exact q7
    | brk => exact q7
    | ret v => exact q7
end
end Sg
namespace Sg
open PySem PySem.Spec PyProof.Rows L2
section
variable {X : Cx} {G : Gr} {E : XK} {dl : List Slot} {a b e o : Expr} {d : Dt} {u : Bool} {pos p apos cpos : Pos} {k x : Str} {kds : List (Key × Dt)}
theorem ee_oF (h : EO X G dl e (.dic kds)) : EE X G dl e (.dicF kds) := by
  intro pins s st H Q I ⟨Hf, S, kk⟩
  refine thn (h pins s st H (fun v H' => ∃ p Hf', v = .ref p ∧ Grow Hf H Hf' H' ∧ H p = none ∧ Hf' p = none ∧ OwnAt X.K Hf' H' p (.dic kds)) I ⟨Hf, S, fun p Hf' H' g n n' r => ⟨p, Hf', rfl, g, n, n', r⟩⟩) fun u s1 ⟨v, H', I1, rv, q, Hf', ev, g, n, n', kvs, hq, rp⟩ => ?_
  subst ev
  obtain ⟨hz, lo, vs, kv, ob, es, ep, ho, hr⟩ := (show ObjOk X.prog X.w H' s1.heap q (.dK kvs) from I1.hok q _ hq)
  have I2 : L2.Inv X pins st (upd H' q (.frz ob (.dK kvs))) s1 := d_write (h' := s1.heap) (t' := s1.toks) I1 (by rw [hq]; trivial) ⟨rfl, fun _ _ => rfl⟩ ⟨ob, ho⟩ ⟨ho, hz, lo, vs, kv, ob, es, ep, ho, hr⟩
  have sm : Same Hf' (upd Hf' q (.frz ob (.dK kvs))) := same_upd n'
  refine ⟨.ref q, _, I2, rv, kk _ (upd Hf' q (.frz ob (.dK kvs))) _ ⟨fun b o hb => ?_, g.frz.trans sm, same_upd2 g.sub, fun b o hb => ?_⟩ (.dicF upd_same (rp.mono sm))⟩
  · rw [upd_ne (ne_of_none hb n)]; exact g.big _ _ hb
  · by_cases e : b = q
    · subst e; exact .inr (.inl n)
    · rw [upd_ne e] at hb; exact g.new b o hb
variable {d1 d2 d3 d4 : Dt}
end
end Sg
namespace Sg
open PySem PySem.Spec PyProof.Rows L2
section
variable {prog : Program} {w : World} {A : Around} {E : Value → Shared → Prop} {s : Shared}
end
section
variable {X : Cx} {G : Gr} {dl : List Slot} {a : Expr} {x : Str} {p pos : Pos}
variable {E : XK} {d : Dt} {ds : List Dt} {y z : Str} {px pn apos cpos : Pos}
end
end Sg
namespace Sg
open PySem PySem.Spec PyProof.Rows L2
section
variable {X : Cx} {G : Gr} {dl : List Slot} {a b e : Expr} {pos p p2 apos cpos : Pos} {bs : List Bool} {ns ns' : List Int}
theorem vals_ints : ∀ {ns : List Int} {its : List Value}, Vals (ns.map V.int) its → IntsAre its ns
  | [], _, r => by cases r; exact .nil
  | n :: ns, _, r => by
    cases r with
    | cons h t => obtain ⟨tk, rfl⟩ := h; exact .cons _ tk (vals_ints t)
end
end Sg
namespace Sg
open PySem PySem.Spec PyProof.Rows L2
section
variable {X : Cx} {G : Gr} {dl : List Slot} {a b e i o : Expr} {pos p p2 apos cpos : Pos} {ds : List (Key × Dt)} {k : Str}
theorem eb_ninF (hu : X.A.units + 1 < cLine) (hi : EE X G dl i (.str k)) (ho : EE X G dl o (.dicF ds)) (hm : behindInMarks .NotIn o = false := by rfl) : EB X G dl (.Compare i [.NotIn] [o] pos) (!(valD ds (.inr k)).isSome) :=
  ptI (pt_cmp (pc_dnotin hu hi ho) hm) fun st H Q ⟨Hf, S, kk⟩ => ⟨Hf, S, fun v Hf1 H1 g1 r1 => ⟨Hf1, S.grow g1, fun w Hf2 H2 g2 r2 => by
      cases r1
      cases r2 with
      | @dicF q ob kvs _ hq rp => exact ⟨q, _, rfl, .inl ⟨kvs, .inr k, .inr (.inl ⟨ob, g2.sub _ _ hq⟩), rfl, rfl⟩, by rw [rp.noVal]; exact ⟨_, rfl, kk Hf2 H2 (g1.trans g2)⟩⟩⟩⟩
end
end Sg
namespace Sg
open PySem PySem.Spec PyProof.Rows L2
theorem draws_up {prog : Program} {w : World} {A : Around} {it : Addr} {fp : List Addr} {n : Nat} {P : Nat → Value → Prop} {St : Nat → Heap → Prop} (D : Draws prog w A it fp n P St) : Draws prog w A it fp (n + 1) (fun i v => P (i - 1) v) (fun i h => 1 ≤ i ∧ St (i - 1) h) where
  live := fun i h st => D.live _ h st.2
  frame := fun i h h' st hk => ⟨st.1, D.frame _ h h' st.2 hk⟩
  item := fun i s Q E hi st hQ => D.item (i - 1) s Q E (by have := st.1; omega) st.2 fun x h' tk p st' sb => hQ x h' tk p ⟨by omega, by have e : i + 1 - 1 = i - 1 + 1 := (by have := st.1; omega); rw [e]; exact st'⟩ sb
  done := fun s Q E st hE => D.done s Q E st.2 hE
theorem draws_end {prog : Program} {w : World} {A : Around} (hh : A.handled = none) {it l : Addr} {its : Array Value} {i : Nat} (hx : its[i]? = none) : Draws prog w A it [it, l] 0 (fun _ _ => False) (fun _ h => h.IsListIter it l i ∧ h.IsList l its) where
  live := fun _ _ st => let ⟨o, ho, _⟩ := st.1; ⟨o, ho⟩
  frame := fun _ _ _ st hk => ⟨st.1.at fun o e => hk it (by simp) o e, st.2.at fun o e => hk l (by simp) o e⟩
  item := fun i s Q E hi st hQ => by omega
  done := fun s Q E st hE => wpAny_nextOf_list_end hh st.1 st.2 hx hE
theorem ty_callK {prog : Program} {w : World} {A : Around} {E : Value → Shared → Prop} {s : Shared} {T nI iI : String} {BN BI : Builtin} {us : List Value} {kw : List (Str × Value)} {SP : PySem.Spec} {Q Q1 : Value → Shared → Prop} (tc : TypeCalled T nI iI) (c1 : checkTypeCall T ⟨us, kw⟩ = pure ()) (c2 : checkBuiltinCall nI ⟨.type T :: us, kw⟩ = pure ()) (eN : entryFor table nI = some BN) (eI : entryFor table iI = some BI) (gN : Meets (BN ⟨.type T :: us, kw⟩) SP) (hS : SP A.in1 (wants Q1 E) s) (nx : ∀ ob s1, Q1 ob s1 → s1.TypeIs ob T ∧ argsOk iI ⟨ob :: us, kw⟩ ∧ ∃ SI, Meets (BI ⟨ob :: us, kw⟩) SI ∧ SI A.in1 (wants (fun r s2 => r = .none ∧ Q ob s2) E) s1) : wpAny (model prog w) A (call (.type T) us kw) Q E s := by
  have k1 := tc.made; have k2 := tc.sub; have k3 := tc.notType; have k4 := tc.canCreate
  obtain ⟨c, tl, k5⟩ := tc.mro
  refine wpAny_call (codeAny_of_tree (show wpAny _ _ (callAny (.type T) _) _ _ _ from wpAny_pure ⟨Code.quiet_builtin _ (by decide +kernel), codeAny_builtin F.entry_type_call ?_⟩))
  rw [Around.under_plain (weight_type_call_type T us kw) (units_type_call_type T us kw)]
  repeat (any_goals (first | assumption | wp_step))
  refine codeAny_mono (codeAny_call_builtin tc.plain eN (wpAny_of_eq c2 (gN prog w A.in1 _ s hS))) fun r s1 q => ?_
  cases r with
  | error z => exact q
  | ok fl => cases fl with
    | ret ob =>
      obtain ⟨q1, q2, SI, q3, q4⟩ := nx _ _ q
      have k6 := tc.init.lookup; have k7 := tc.init.bind ob
      repeat (any_goals (first | assumption | wp_step))
      refine codeAny_mono (codeAny_call_builtin tc.init.plain eI (tc.init.check _ _ _ _ _ _ _ _ q1 q2 (q3 prog w A.in1 _ s1 q4))) fun r2 s2 v => ?_
      cases r2 with
      | error z => exact v
      | ok f2 => cases f2 with
        | ret r =>
          obtain ⟨rfl, v2⟩ := v
          repeat (any_goals (first | assumption | wp_step))
        | _ => exact v.elim
    | _ => exact q.elim
theorem obj_initK {T nI : String} {self a : Value} {kw : List (Str × Value)} (h1 : typeLookup (.type T) "__init__" = pure (some (.builtin "object.__init__"))) (h2 : Bind.madeBy (.type T) = pure (some nI)) (h3 : (some nI != some "object.__new__") = true) : Meets (Builtin.«object.__init__» ⟨[self, a], kw⟩) (fun _ R s => s.TypeIs self T ∧ R (.ok (.ret .none)) s) := Meets.of_wp fun prog w A R s hs => by
  obtain ⟨hT, q⟩ := hs
  repeat (any_goals (first | assumption | wp_step))
  exact ⟨_, rfl, q⟩
abbrev kStart : Str := Str.ofString "start"
theorem tc_enumK (a v : Value) : checkTypeCall "enumerate" ⟨[a], [(kStart, v)]⟩ = pure () := by kernel_rfl
theorem nc_enumK (a v : Value) : checkBuiltinCall "enumerate.__new__" ⟨[.type "enumerate", a], [(kStart, v)]⟩ = pure () := by kernel_rfl
theorem ao_enumK (a b v : Value) : argsOk "object.__init__" ⟨[a, b], [(kStart, v)]⟩ := by
  unfold argsOk; rw [signature?_of (id := "object.__init__") (n := ['_', '_', 't', 'i', 'n', 'i', '_', '_']) (o := ['t', 'c', 'e', 'j', 'b', 'o']) (by kernel_rfl) F.owner_object]; kernel_rfl
abbrev itO (l : Addr) : Obj := { cls := .type "list_iterator", data := .fields #[.ref l, .int 0 0] }
abbrev enO (i : Addr) : Obj := { cls := .type "enumerate", data := .fields #[.none, .bool false, .ref i, rawInt 1, .none, .none] }
theorem nw_enumK (l : Addr) (its : Array Value) (n : Nat) (dct : Option Addr) (sl : Array (Option Value)) (t1 : Tok) : Meets (Builtin.«enumerate.__new__» ⟨[.type "enumerate", .ref l], [(kStart, .int 1 t1)]⟩) (fun _ R s => s.heap.get? l = some { cls := .type "list", dict := dct, data := .seq its n, slots := sl } ∧ R (.ok (.ret (.ref (s.heap.push (itO l)).objs.size))) { s with heap := (s.heap.push (itO l)).push (enO s.heap.objs.size) }) :=
  .of_wp fun prog w A R s h => by
    obtain ⟨hp, g, d, tk, os⟩ := s; obtain ⟨hl, h⟩ := h
    have z1 := sub_enumerate; have z2 : Heap.IsList (Shared.heap ⟨hp, g, d, tk, os⟩) l its := ⟨_, hl, rfl, n, rfl⟩
    wp_walk using AutoSeq1.wpAny_loadPart' hl
    refine wpAny_stack_any fun _ => wpAny_pure ?_
    split
    · rename_i c _ _ _ _ _
      cases (c == Value.type "enumerate") <;> (wp_walk using AutoSeq1.wpAny_loadPart' hl, wpAny_pyIter_list z2; exact ⟨_, rfl, h⟩)
    · wp_walk using AutoSeq1.wpAny_loadPart' hl, wpAny_pyIter_list z2; exact ⟨_, rfl, h⟩
theorem call_enumK {prog : Program} {w : World} {A : Around} {E : Value → Shared → Prop} {s : Shared} {l : Addr} {its : Array Value} {t1 : Tok} {Q : Value → Shared → Prop} (hL : s.heap.IsList l its) (h : ∀ h', IsEnum h' (s.heap.objs.size + 1) s.heap.objs.size 1 .none → h'.IsListIter s.heap.objs.size l 0 → (∀ b o, s.heap.get? b = some o → h'.get? b = some o) → Q (.ref (s.heap.objs.size + 1)) { s with heap := h' }) : wpAny (model prog w) A (call (.type "enumerate") [.ref l] [(kStart, .int 1 t1)]) Q E s := by
  obtain ⟨⟨c, dct, dt, sl⟩, hl, hc, n, hd⟩ := hL
  replace hc : c = .type "list" := hc
  replace hd : dt = .seq its n := hd
  subst hc hd
  have hz : (s.heap.push (itO l)).objs.size = s.heap.objs.size + 1 := Heap.size_push ..
  have he : IsEnum ((s.heap.push (itO l)).push (enO s.heap.objs.size)) (s.heap.objs.size + 1) s.heap.objs.size 1 .none := by
    have := Heap.get?_push_size (s.heap.push (itO l)) (o := enO s.heap.objs.size) rfl
    rw [hz] at this; exact this
  refine ty_callK (Q1 := fun ob s1 => s1.TypeIs ob "enumerate" ∧ Q ob s1) F.called_enumerate (tc_enumK _ _) (nc_enumK _ _) F.entry_enumerate_new F.entry_object_init (nw_enumK l its n dct sl t1) ⟨hl, ?_⟩ fun ob s1 hq => ⟨hq.1, ao_enumK _ _ _, _, obj_initK F.called_enumerate.init.lookup F.called_enumerate.made (by decide), hq.1, rfl, hq.2⟩
  show _ ∧ _
  rw [hz]
  exact ⟨⟨_, he, rfl⟩, h _ he ⟨_, Heap.get?_push_of_some _ (Heap.get?_push_size _ rfl), rfl, rfl⟩ fun b o x => Heap.get?_push_of_some _ (Heap.get?_push_of_some _ x)⟩
theorem cw_typeK {M : Model} {A : Around} {E : Value → Shared → Prop} {s : Shared} {pos : Pos} {T : String} {first : List Value} {args : List (Bool × Sem Value)} {kws : List (Option Str × Sem Value)} {Q : Value → Shared → Prop} (h1 : args.any (·.1) = false) (h2 : kws.any (·.1.isNone) = false) (h : wpAny M A (evalArgs (.type T) true args kws) (fun a s1 => wpAny M A (call (.type T) (first ++ a.pos) a.kw) Q E s1) E s) : wpAny M A (callWith pos (.type T) first args kws) Q E s := by
  unfold callWith
  refine wpAny_bind (wpAny_holding (wpAny_mono h (fun a s1 z => wpAny_bind (wpAny_standAt ?_)) fun _ _ x => x))
  simp only [h1, h2, Bool.or_false]
  exact wpAny_bind (wpAny_pure (wpAny_bind (wpAny_mono z (fun r s2 q => wpAny_bind (wpAny_holding (wpAny_point (wpAny_pure q)))) fun _ _ x => x)))
def Ite1 (K : PySem.W.Frag) (a : Addr) : It :=
  ⟨fun i H => ∃ xs x, SqL K H a xs ∧ xs[i]? = some x, fun i H v H' => ∃ p x, v = .ref p ∧ H p = none ∧ H' = upd H p (.tup [.int ((i + 1 : Nat) : Int), x]) ∧ ∀ xs, SqL K H a xs → xs[i]? = some x, fun i H => ∃ xs, SqL K H a xs ∧ xs.length ≤ i⟩
theorem turn_enumK {P : Program} {w : World} {K : PySem.W.Frag} {elts : List Expr} {kt : Nat} {tpos : Pos} (a e it : Addr) (hei : e ≠ it) : Turn P w K (.Tuple elts kt tpos) (Ite1 K a) [e, it] e (fun i h => (∃ old, IsEnum h e it ((i + 1 : Nat) : Int) old) ∧ h.IsListIter it a i) where
  mem := by simp
  obj := fun i h st b hb => by
    obtain ⟨⟨old, he⟩, o, e2, c, d⟩ := st
    rcases List.mem_cons.mp hb with rfl | hb
    · exact ⟨_, he, fun v z => by cases z⟩
    · have : b = it := by simpa using hb
      subst this
      exact ⟨o, e2, fun v z => by rw [d] at z; cases z⟩
  keep := fun i h h' st k => by
    obtain ⟨⟨old, he⟩, hit⟩ := st
    exact ⟨⟨old, k e (by simp) _ he⟩, hit.at fun o x => k it (by simp) o x⟩
  item := by
    intro X hP hw hK hc i pins s σ H E I hf st hg
    subst hP hw hK
    obtain ⟨xs, x, hq, hx⟩ := hg
    obtain ⟨its, rv, p, hz⟩ := I.list hq
    obtain ⟨u, hu, ru⟩ := rv.get hx
    obtain ⟨⟨old, he⟩, hit⟩ := st
    have hel : e < s.heap.objs.size := Heap.lt_size he
    have hil : it < s.heap.objs.size := by obtain ⟨_, z, _⟩ := hit; exact Heap.lt_size z
    have hai : a ≠ it := fun z => by
      obtain ⟨o1, w1, w2, _⟩ := p.isList
      obtain ⟨o2, w3, w4, _⟩ := hit
      rw [z, w3] at w1; cases w1; rw [w4] at w2; exact absurd (Value.type.inj w2) (by decide)
    have hae : e ∉ [it, a] := fun z => by
      rcases List.mem_cons.mp z with z | z
      · exact hei z
      · have z : e = a := by simpa using z
        obtain ⟨o1, w1, w2, _⟩ := p.isList
        rw [← z, he] at w1; cases w1; exact absurd (Value.type.inj w2) (by decide)
    have hi : i < its.toArray.size := by simpa using (List.getElem?_eq_some_iff.mp hu).1
    refine wpAny_pyNext_enum_itemD (i := i + 1) (draws_up (Draws.list (A := X.A.in1) (I.ok.hd hc) it a hai its.toArray)) he ⟨by omega, by rw [Nat.add_sub_cancel]; exact ⟨hit, p.isList⟩⟩ (by omega) hei hae fun v h1 tk hv ho hst hT hsz hk => ?_
    have hv : its[i]? = some v := by simpa using hv
    rw [hu] at hv; cases hv
    have hit1 : h1.IsListIter it a (i + 1) := by have := hst.2.1; simpa using this
    refine ⟨_, rfl, wpAny_letOwnedTupleGo_enum ho fun h2 he2 hs2 => ?_⟩
    have hT2 : h2.get? s.heap.objs.size = some { cls := .type "tuple", data := .seq #[.int ((i + 1 : Nat) : Int) tk, u] } := (hs2.2 _ (Nat.ne_of_gt hel)).trans hT
    have k2 : ∀ b o, b ∉ [e, it] → s.heap.get? b = some o → h2.get? b = some o := fun b o hb q => (hs2.2 b fun z => hb (by simp [z])).trans (hk b o (fun z => hb (by simp [z])) (fun z => hb (by simp [z])) q)
    have hp : H s.heap.objs.size = none := I.hok.fresh (Nat.le_refl _)
    have I2 : L2.Inv X pins σ (upd H s.heap.objs.size (.tup [.int ((i + 1 : Nat) : Int), x])) { s with heap := h2, toks := tk + 1 } := turnLaid I hf k2 (Nat.le_refl _) ⟨Nat.le_of_ble_eq_true rfl, [.int ((i + 1 : Nat) : Int) tk, u], .cons ⟨_, rfl⟩ (.cons ru .nil), _, hT2, rfl, _, rfl⟩
    refine ⟨.ref s.heap.objs.size, _, I2, rfl, ⟨_, x, rfl, hp, rfl, fun ys hy => by rw [I.list_inj hy hq]; exact hx⟩, ⟨⟨u, by simpa using he2⟩, hit1.at fun o z => (hs2.2 it (Ne.symm hei)).trans z⟩, fun b hb => ?_⟩
    have : b ≠ s.heap.objs.size := by
      rcases List.mem_cons.mp hb with rfl | hb
      · exact Nat.ne_of_lt hel
      · have : b = it := by simpa using hb
        subst this
        exact Nat.ne_of_lt hil
    rw [upd_ne this]
    exact (hf b hb).1
  done := by
    intro X hP hw hK hc i pins s σ H E I hf st hg
    subst hP hw hK
    obtain ⟨xs, hq, hx⟩ := hg
    obtain ⟨its, rv, p, hz⟩ := I.list hq
    obtain ⟨⟨old, he⟩, hit⟩ := st
    obtain ⟨f0, f1, f2, f3, f4, f5⟩ := hf it (by simp)
    have hl := rv.length
    exact wpAny_pyNext_enum_endD (draws_end (A := X.A.in1) (I.ok.hd hc) (its := its.toArray) (i := i) (l := a) (by simp; omega)) he ⟨hit, p.isList⟩ fun h' eb => ⟨rfl, I.turned (t' := s.toks) (fun b o hb q => eb b o hb q) f0 f1 f3 f4 f5⟩
  self := fun _ i s Q E st h => by
    obtain ⟨⟨old, he⟩, _⟩ := st
    exact wpAny_pyIter_enum he h
section
variable {X : Cx} {G : Gr} {dl : List Slot} {a : Expr} {xs : List Dt} {p pos kp cp : Pos} {jk : Nat}
def iEnum1 (K : PySem.W.Frag) (ta : TA) : TI := fun σ H R => ta σ H fun vs H1 => ∃ a, vs = [.ref a] ∧ (∃ xs, SqL K H1 a xs) ∧ R (Ite1 K a) H1
theorem pi_enum1 {elts : List Expr} {kt : Nat} {tpos : Pos} {ta : TA} (hg : Gl X "enumerate") (hm : X.mg "enumerate" = none) (ha : PA X [a] ta) (hs : starEach [a] X.env = [(false, eval a X.env)] := by rfl) (hk : (backToKw pos (keywordEach [⟨some "start", .Constant (.int 1) jk cp, kp⟩] X.env)).filterMap (·.1) = [kStart] := by rfl) (hall : (backToKw pos (keywordEach [⟨some "start", .Constant (.int 1) jk cp, kp⟩] X.env)).all (·.1.isSome) = true := by rfl) (hno : (backToKw pos (keywordEach [⟨some "start", .Constant (.int 1) jk cp, kp⟩] X.env)).any (·.1.isNone) = false := by rfl) : PI X (.Tuple elts kt tpos) (.Call (.Name "enumerate" p) [a] [⟨some "start", .Constant (.int 1) jk cp, kp⟩] pos) (iEnum1 X.K ta) := by
  intro pins s σ H R I h
  refine wpAny_Call_Name_kw (ld_blt I hg hm boot_enumerate (cw_typeK (by rw [hs]; rfl) hno ?_))
  have hA := ha pos pins s σ H _ I h
  rw [hs] at hA ⊢
  refine evalArgs_kwB hall (thn hA fun us s1 ⟨vs, H1, I1, r1, q1⟩ => ?_)
  refine thn ((pk_cons pe_int pk_nil) pos pins s1 σ H1 (fun zs H2 => zs = [.int 1] ∧ H2 = H1) I1 ⟨rfl, rfl⟩) fun ws s2 ⟨zs, H2, I2, rz, ez, eH⟩ => ?_
  subst eH ez
  obtain ⟨w1, rfl, rw1⟩ := vals1 rz
  obtain ⟨tk1, rfl⟩ := rw1
  obtain ⟨l, e, ⟨xs, hq⟩, q⟩ := q1
  subst e
  cases r1 with
  | cons r rr =>
    cases rr
    cases r
    obtain ⟨its, rv, pl, hz⟩ := I2.list hq
    rw [hk]
    refine call_enumK pl.isList fun h' he hit k => wpAny_pyIter_enum he ?_
    have I3 : L2.Inv X pins σ H2 { s2 with heap := h' } := I2.kept (t' := s2.toks) k
    refine ⟨s2.heap.objs.size + 1, [s2.heap.objs.size + 1, s2.heap.objs.size], _, _, H2, rfl, I3, turn_enumK l _ s2.heap.objs.size (Nat.succ_ne_self _), ⟨⟨_, he⟩, hit⟩, fun b hb => ?_, q⟩
    have hb' : s2.heap.objs.size ≤ b := by
      rcases List.mem_cons.mp hb with rfl | hb
      · exact Nat.le_succ _
      · have : b = s2.heap.objs.size := by simpa using hb
        rw [this]; exact Nat.le_refl _
    exact I2.fpOk hb' (I2.hok.fresh hb')
def enumD1 (xs : List Dt) : List Dt := (List.range xs.length).map fun (k : Nat) => .tup [.int ((k + 1 : Nat) : Int), xs.getD k .non]
theorem srcx_enum1 : SrcX X G dl (enumD1 xs) (iEnum1 X.K (tDs X.K G dl [.lst xs])) := fun st H R ⟨Hf, S, k⟩ => ⟨Hf, S, fun vs Hf1 H1 g1 r1 => by
  cases r1 with
  | cons r t =>
    cases t
    cases r with
    | @lst q vs _ hq rp =>
      have hl := rp.length
      refine ⟨q, rfl, ⟨vs, .of (g1.sub _ _ hq)⟩, k _ Hf1 H1 g1 fun Hf2 H2 s1 s2 i => ⟨fun z hz => ?_, fun hi => ⟨vs, .of (s2 _ _ (s1 _ _ hq)), by unfold enumD1 at hi; rw [List.length_map, List.length_range] at hi; omega⟩⟩⟩
      have hi : i < xs.length := by
        have := (List.getElem?_eq_some_iff.mp hz).1
        unfold enumD1 at this
        simpa using this
      unfold enumD1 at hz
      rw [List.getElem?_map, List.getElem?_range hi] at hz
      cases hz
      have hx : xs[i]? = some (xs.getD i .non) := by rw [List.getD_eq_getElem?_getD, List.getElem?_eq_getElem hi]; rfl
      obtain ⟨u, z1, z2⟩ := rp.get hx
      have hs : SqL X.K H2 q vs := .of (s2 _ _ (s1 _ _ hq))
      refine ⟨⟨vs, u, hs, z1⟩, fun v H3 hy => ?_⟩
      obtain ⟨pt, x, rfl, hn, rfl, e2⟩ := hy
      have e2 := e2 vs hs
      rw [z1] at e2; cases e2
      have g3 : Grow Hf2 H2 (upd Hf2 pt (.tup [.int ((i + 1 : Nat) : Int), u])) (upd H2 pt (.tup [.int ((i + 1 : Nat) : Int), u])) := .alloc s2 hn
      exact ⟨_, g3, .tup (.inl (.inl upd_same)) (.cons (.int _) (.cons ((z2.mono s1).mono g3.frz) .nil))⟩⟩
end
end Sg
namespace Pf
open PySem PySem.Spec PyProof.Rows L2 Sg
def top (i : Nat) : Stmt := PySem.Challenge.pw_strokegrow_k74_whole_rule_at_great_round.main.body.getD i (.Pass ⟨0, 0, 0, 0⟩)
abbrev s_growth_table : Stmt := top 2
abbrev s_even_table : Stmt := top 3
abbrev s_row_by_table : Stmt := top 4
abbrev s_product : Stmt := top 5
abbrev s_trace : Stmt := top 6
abbrev s_less_along_diagonal : Stmt := top 7
abbrev s_rule : Stmt := top 8
abbrev s_next_row : Stmt := top 9
abbrev s_check_round : Stmt := top 20
abbrev s_tally : Stmt := top 21
abbrev s_summed : Stmt := top 23
abbrev s_Growth_init : Stmt := inClass (top 25) 0
abbrev s_Growth_deepen_to : Stmt := inClass (top 25) 3
abbrev s_Growth_enter : Stmt := inClass (top 25) 4
abbrev s_Growth_length : Stmt := inClass (top 25) 9
abbrev s_Growth_counts : Stmt := inClass (top 25) 10
abbrev s_pen_of : Stmt := top 31
abbrev s_is_small_letter : Stmt := top 35
abbrev s_is_word_over : Stmt := top 36
abbrev s_check_rows : Stmt := top 37
abbrev s_Rules_init : Stmt := inClass (top 38) 0
abbrev s_Rules_letters : Stmt := inClass (top 38) 2
abbrev s_Rules_row_of : Stmt := inClass (top 38) 4
abbrev s_Rules_word : Stmt := inClass (top 38) 6
abbrev s_Rules_word_of : Stmt := inClass (top 38) 7
abbrev s_cell : Stmt := top 40
abbrev s_whole : Stmt := top 41
abbrev s_letters : Stmt := top 42
abbrev s_word : Stmt := top 43
abbrev s_rows : Stmt := top 44
abbrev s_drawn : Stmt := top 45
abbrev s_row : Stmt := top 46
abbrev s_law : Stmt := top 47
abbrev n_growth_table : List Str := ["rules", "letters"]
theorem sc_growth_table : FnScope n_growth_table ["rules"] (defScope s_growth_table) := ⟨rfl, rfl, rfl, by decide +kernel, rfl, by decide +kernel, by decide +kernel⟩
abbrev n_even_table : List Str := ["many"]
theorem sc_even_table : FnScope n_even_table ["many"] (defScope s_even_table) := ⟨rfl, rfl, rfl, by decide +kernel, rfl, by decide +kernel, by decide +kernel⟩
abbrev n_row_by_table : List Str := ["row", "table"]
theorem sc_row_by_table : FnScope n_row_by_table ["row", "table"] (defScope s_row_by_table) := ⟨rfl, rfl, rfl, by decide +kernel, rfl, by decide +kernel, by decide +kernel⟩
abbrev n_product : List Str := ["one", "other"]
theorem sc_product : FnScope n_product ["one", "other"] (defScope s_product) := ⟨rfl, rfl, rfl, by decide +kernel, rfl, by decide +kernel, by decide +kernel⟩
abbrev n_trace : List Str := ["table"]
theorem sc_trace : FnScope n_trace ["table"] (defScope s_trace) := ⟨rfl, rfl, rfl, by decide +kernel, rfl, by decide +kernel, by decide +kernel⟩
abbrev n_less_along_diagonal : List Str := ["table", "number", "even"]
theorem sc_less_along_diagonal : FnScope n_less_along_diagonal ["table", "number"] (defScope s_less_along_diagonal) := ⟨rfl, rfl, rfl, by decide +kernel, rfl, by decide +kernel, by decide +kernel⟩
abbrev n_rule : List Str := ["rules", "table", "numbers", "rest", "many", "grown", "number"]
theorem sc_rule : FnScope n_rule ["rules"] (defScope s_rule) := ⟨rfl, rfl, rfl, by decide +kernel, rfl, by decide +kernel, by decide +kernel⟩
abbrev n_next_row : List Str := ["rule", "rows"]
theorem sc_next_row : FnScope n_next_row ["rule", "rows"] (defScope s_next_row) := ⟨rfl, rfl, rfl, by decide +kernel, rfl, by decide +kernel, by decide +kernel⟩
abbrev n_check_round : List Str := ["age", "first", "last"]
theorem sc_check_round : FnScope n_check_round ["age", "first", "last"] (defScope s_check_round) := ⟨rfl, rfl, rfl, by decide +kernel, rfl, by decide +kernel, by decide +kernel⟩
abbrev n_tally : List Str := ["rules", "word"]
theorem sc_tally : FnScope n_tally ["rules", "word"] (defScope s_tally) := ⟨rfl, rfl, rfl, by decide +kernel, rfl, by decide +kernel, by decide +kernel⟩
abbrev n_summed : List Str := ["tallies", "letters"]
theorem sc_summed : FnScope n_summed ["tallies", "letters"] (defScope s_summed) := ⟨rfl, rfl, rfl, by decide +kernel, rfl, by decide +kernel, by decide +kernel⟩
abbrev n_Growth_init : List Str := ["self", "rules", "start"]
theorem sc_Growth_init : FnScope n_Growth_init ["self", "rules", "start"] (defScope s_Growth_init) := ⟨rfl, rfl, rfl, by decide +kernel, rfl, by decide +kernel, by decide +kernel⟩
abbrev n_Growth_deepen_to : List Str := ["self", "age", "letters", "last", "grown", "letter"]
theorem sc_Growth_deepen_to : FnScope n_Growth_deepen_to ["self", "age"] (defScope s_Growth_deepen_to) := ⟨rfl, rfl, rfl, by decide +kernel, rfl, by decide +kernel, by decide +kernel⟩
abbrev n_Growth_enter : List Str := ["self", "age"]
theorem sc_Growth_enter : FnScope n_Growth_enter ["self", "age"] (defScope s_Growth_enter) := ⟨rfl, rfl, rfl, by decide +kernel, rfl, by decide +kernel, by decide +kernel⟩
abbrev n_Growth_length : List Str := ["self", "age"]
theorem sc_Growth_length : FnScope n_Growth_length ["self", "age"] (defScope s_Growth_length) := ⟨rfl, rfl, rfl, by decide +kernel, rfl, by decide +kernel, by decide +kernel⟩
abbrev n_Growth_counts : List Str := ["self", "age"]
theorem sc_Growth_counts : FnScope n_Growth_counts ["self", "age"] (defScope s_Growth_counts) := ⟨rfl, rfl, rfl, by decide +kernel, rfl, by decide +kernel, by decide +kernel⟩
abbrev n_pen_of : List Str := ["ways"]
theorem sc_pen_of : FnScope n_pen_of ["ways"] (defScope s_pen_of) := ⟨rfl, rfl, rfl, by decide +kernel, rfl, by decide +kernel, by decide +kernel⟩
abbrev n_is_small_letter : List Str := ["text"]
theorem sc_is_small_letter : FnScope n_is_small_letter ["text"] (defScope s_is_small_letter) := ⟨rfl, rfl, rfl, by decide +kernel, rfl, by decide +kernel, by decide +kernel⟩
abbrev n_is_word_over : List Str := ["word", "letters"]
theorem sc_is_word_over : FnScope n_is_word_over ["word", "letters"] (defScope s_is_word_over) := ⟨rfl, rfl, rfl, by decide +kernel, rfl, by decide +kernel, by decide +kernel⟩
abbrev n_check_rows : List Str := ["rows", "firsts", "letters", "number", "row", "letter_fits"]
theorem sc_check_rows : FnScope n_check_rows ["rows"] (defScope s_check_rows) := ⟨rfl, rfl, rfl, by decide +kernel, rfl, by decide +kernel, by decide +kernel⟩
abbrev n_Rules_init : List Str := ["self", "ways", "rows", "drawer", "row"]
theorem sc_Rules_init : FnScope n_Rules_init ["self", "ways", "rows"] (defScope s_Rules_init) := ⟨rfl, rfl, rfl, by decide +kernel, rfl, by decide +kernel, by decide +kernel⟩
abbrev n_Rules_letters : List Str := ["self"]
theorem sc_Rules_letters : FnScope n_Rules_letters ["self"] (defScope s_Rules_letters) := ⟨rfl, rfl, rfl, by decide +kernel, rfl, by decide +kernel, by decide +kernel⟩
abbrev n_Rules_row_of : List Str := ["self", "letter"]
theorem sc_Rules_row_of : FnScope n_Rules_row_of ["self", "letter"] (defScope s_Rules_row_of) := ⟨rfl, rfl, rfl, by decide +kernel, rfl, by decide +kernel, by decide +kernel⟩
abbrev n_Rules_word : List Str := ["self", "letter"]
theorem sc_Rules_word : FnScope n_Rules_word ["self", "letter"] (defScope s_Rules_word) := ⟨rfl, rfl, rfl, by decide +kernel, rfl, by decide +kernel, by decide +kernel⟩
abbrev n_Rules_word_of : List Str := ["self", "text", "most", "at", "sign"]
theorem sc_Rules_word_of : FnScope n_Rules_word_of ["self", "text", "most"] (defScope s_Rules_word_of) := ⟨rfl, rfl, rfl, by decide +kernel, rfl, by decide +kernel, by decide +kernel⟩
abbrev n_cell : List Str := ["_law_script", "_law_k", "_law_cell_here", "_law_low"]
theorem sc_cell : FnScope n_cell ["_law_script", "_law_k"] (defScope s_cell) := ⟨rfl, rfl, rfl, by decide +kernel, rfl, by decide +kernel, by decide +kernel⟩
abbrev n_whole : List Str := ["_law_found"]
theorem sc_whole : FnScope n_whole ["_law_found"] (defScope s_whole) := ⟨rfl, rfl, rfl, by decide +kernel, rfl, by decide +kernel, by decide +kernel⟩
abbrev n_letters : List Str := ["_law_cell_here", "_law_left", "_law_rest", "_law_letters_here", "_law_k", "_law_at"]
theorem sc_letters : FnScope n_letters ["_law_cell_here"] (defScope s_letters) := ⟨rfl, rfl, rfl, by decide +kernel, rfl, by decide +kernel, by decide +kernel⟩
abbrev n_word : List Str := ["_law_cell_here", "_law_letters_here", "_law_most", "_law_rest", "_law_word_here", "_law_k"]
theorem sc_word : FnScope n_word ["_law_cell_here", "_law_letters_here", "_law_most"] (defScope s_word) := ⟨rfl, rfl, rfl, by decide +kernel, rfl, by decide +kernel, by decide +kernel⟩
abbrev n_rows : List Str := ["_law_letters_here", "_law_cells", "_law_most", "_law_rows_here", "_law_k", "_law_cell_here", "_law_deed"]
theorem sc_rows : FnScope n_rows ["_law_letters_here", "_law_cells", "_law_most"] (defScope s_rows) := ⟨rfl, rfl, rfl, by decide +kernel, rfl, by decide +kernel, by decide +kernel⟩
abbrev n_drawn : List Str := ["_law_script", "_law_cell_here", "_law_letters_here"]
theorem sc_drawn : FnScope n_drawn ["_law_script"] (defScope s_drawn) := ⟨rfl, rfl, rfl, by decide +kernel, rfl, by decide +kernel, by decide +kernel⟩
abbrev n_row : List Str := ["_law_growth", "_law_age", "_law_letters_here", "_law_counts", "_law_row_here", "_law_letter", "_law_size"]
theorem sc_row : FnScope n_row ["_law_growth", "_law_age", "_law_letters_here"] (defScope s_row) := ⟨rfl, rfl, rfl, by decide +kernel, rfl, by decide +kernel, by decide +kernel⟩
abbrev n_law : List Str := ["_law_script", "_law_age", "_law_letters_here", "_law_rows_here", "_law_kept", "_law_growth", "_law_numbers", "_law_table", "_law_k", "_law_row_here", "_law_many", "_law_at", "_law_total", "_law_back", "_law_ahead"]
theorem sc_law : FnScope n_law ["_law_script"] (defScope s_law) := ⟨rfl, rfl, rfl, by decide +kernel, rfl, by decide +kernel, by decide +kernel⟩
structure Adr where
  f_growth_table : Addr
  d_growth_table : FuncData
  f_even_table : Addr
  d_even_table : FuncData
  f_row_by_table : Addr
  d_row_by_table : FuncData
  f_product : Addr
  d_product : FuncData
  f_trace : Addr
  d_trace : FuncData
  f_less_along_diagonal : Addr
  d_less_along_diagonal : FuncData
  f_rule : Addr
  d_rule : FuncData
  f_next_row : Addr
  d_next_row : FuncData
  f_check_round : Addr
  d_check_round : FuncData
  f_tally : Addr
  d_tally : FuncData
  f_summed : Addr
  d_summed : FuncData
  f_Growth_init : Addr
  d_Growth_init : FuncData
  f_Growth_deepen_to : Addr
  d_Growth_deepen_to : FuncData
  f_Growth_enter : Addr
  d_Growth_enter : FuncData
  f_Growth_length : Addr
  d_Growth_length : FuncData
  f_Growth_counts : Addr
  d_Growth_counts : FuncData
  f_pen_of : Addr
  d_pen_of : FuncData
  f_is_small_letter : Addr
  d_is_small_letter : FuncData
  f_is_word_over : Addr
  d_is_word_over : FuncData
  f_check_rows : Addr
  d_check_rows : FuncData
  f_Rules_init : Addr
  d_Rules_init : FuncData
  f_Rules_letters : Addr
  d_Rules_letters : FuncData
  f_Rules_row_of : Addr
  d_Rules_row_of : FuncData
  f_Rules_word : Addr
  d_Rules_word : FuncData
  f_Rules_word_of : Addr
  d_Rules_word_of : FuncData
  f_cell : Addr
  d_cell : FuncData
  f_whole : Addr
  d_whole : FuncData
  f_letters : Addr
  d_letters : FuncData
  f_word : Addr
  d_word : FuncData
  f_rows : Addr
  d_rows : FuncData
  f_drawn : Addr
  d_drawn : FuncData
  f_row : Addr
  d_row : FuncData
  f_law : Addr
  d_law : FuncData
  t_Rules_word_of : Tok
  C_Quarter : Addr
  C_Sixth : Addr
  C_Rules : Addr
  C_Growth : Addr
  D_DEEDS : Addr
  k_MOST_ROWS : Tok
  k_MOST_IN_WORD : Tok
  k_LAST_ROUND : Tok
structure Txt (K : PySem.W.Frag) (mg : Str → Option Value) (t : Adr) : Prop where
  cl_Quarter : Cls K t.C_Quarter
  m_Quarter : mg "Quarter" = some (.ref t.C_Quarter)
  kc_Quarter : PySem.W.keepIn K (.ref t.C_Quarter) = true
  cl_Sixth : Cls K t.C_Sixth
  m_Sixth : mg "Sixth" = some (.ref t.C_Sixth)
  kc_Sixth : PySem.W.keepIn K (.ref t.C_Sixth) = true
  cl_Rules : Cls K t.C_Rules
  m_Rules : mg "Rules" = some (.ref t.C_Rules)
  kc_Rules : PySem.W.keepIn K (.ref t.C_Rules) = true
  cl_Growth : Cls K t.C_Growth
  m_Growth : mg "Growth" = some (.ref t.C_Growth)
  kc_Growth : PySem.W.keepIn K (.ref t.C_Growth) = true
  mk_Quarter : Mk0 K t.C_Quarter
  mk_Sixth : Mk0 K t.C_Sixth
  mk_Rules : L2.Mk K t.C_Rules t.f_Rules_init
  mk_Growth : L2.Mk K t.C_Growth t.f_Growth_init
  na_Rules_drawer : NoAttr K t.C_Rules "drawer"
  na_Rules_row_by_letter : NoAttr K t.C_Rules "row_by_letter"
  na_Growth_rules : NoAttr K t.C_Growth "rules"
  na_Growth_seed : NoAttr K t.C_Growth "seed"
  na_Growth_tallies : NoAttr K t.C_Growth "tallies"
  na_Growth_lengths : NoAttr K t.C_Growth "lengths"
  g_DEEDS : mg "DEEDS" = some (.ref t.D_DEEDS)
  r_DEEDS : ∀ H, Rep K H (.ref t.D_DEEDS) (.tup [.str "stroke", .str "step", .str "left", .str "right", .str "rest"])
  g_MOST_ROWS : mg "MOST_ROWS" = some (.int 6 t.k_MOST_ROWS)
  g_MOST_IN_WORD : mg "MOST_IN_WORD" = some (.int 8 t.k_MOST_IN_WORD)
  g_LAST_ROUND : mg "LAST_ROUND" = some (.int 200 t.k_LAST_ROUND)
  F_growth_table : Fun K "growth_table" "growth_table" s_growth_table t.f_growth_table t.d_growth_table
  k_growth_table : PySem.W.keepIn K (.ref t.f_growth_table) = true
  b_growth_table : Binds K t.d_growth_table ["rules"] []
  m_growth_table : mg "growth_table" = some (.ref t.f_growth_table)
  F_even_table : Fun K "even_table" "even_table" s_even_table t.f_even_table t.d_even_table
  k_even_table : PySem.W.keepIn K (.ref t.f_even_table) = true
  b_even_table : Binds K t.d_even_table ["many"] []
  m_even_table : mg "even_table" = some (.ref t.f_even_table)
  F_row_by_table : Fun K "row_by_table" "row_by_table" s_row_by_table t.f_row_by_table t.d_row_by_table
  k_row_by_table : PySem.W.keepIn K (.ref t.f_row_by_table) = true
  b_row_by_table : Binds K t.d_row_by_table ["row", "table"] []
  m_row_by_table : mg "row_by_table" = some (.ref t.f_row_by_table)
  F_product : Fun K "product" "product" s_product t.f_product t.d_product
  k_product : PySem.W.keepIn K (.ref t.f_product) = true
  b_product : Binds K t.d_product ["one", "other"] []
  m_product : mg "product" = some (.ref t.f_product)
  F_trace : Fun K "trace" "trace" s_trace t.f_trace t.d_trace
  k_trace : PySem.W.keepIn K (.ref t.f_trace) = true
  b_trace : Binds K t.d_trace ["table"] []
  m_trace : mg "trace" = some (.ref t.f_trace)
  F_less_along_diagonal : Fun K "less_along_diagonal" "less_along_diagonal" s_less_along_diagonal t.f_less_along_diagonal t.d_less_along_diagonal
  k_less_along_diagonal : PySem.W.keepIn K (.ref t.f_less_along_diagonal) = true
  b_less_along_diagonal : Binds K t.d_less_along_diagonal ["table", "number"] []
  m_less_along_diagonal : mg "less_along_diagonal" = some (.ref t.f_less_along_diagonal)
  F_rule : Fun K "rule" "rule" s_rule t.f_rule t.d_rule
  k_rule : PySem.W.keepIn K (.ref t.f_rule) = true
  b_rule : Binds K t.d_rule ["rules"] []
  m_rule : mg "rule" = some (.ref t.f_rule)
  F_next_row : Fun K "next_row" "next_row" s_next_row t.f_next_row t.d_next_row
  k_next_row : PySem.W.keepIn K (.ref t.f_next_row) = true
  b_next_row : Binds K t.d_next_row ["rule", "rows"] []
  m_next_row : mg "next_row" = some (.ref t.f_next_row)
  F_check_round : Fun K "check_round" "check_round" s_check_round t.f_check_round t.d_check_round
  k_check_round : PySem.W.keepIn K (.ref t.f_check_round) = true
  b_check_round : Binds K t.d_check_round ["age", "first", "last"] []
  m_check_round : mg "check_round" = some (.ref t.f_check_round)
  F_tally : Fun K "tally" "tally" s_tally t.f_tally t.d_tally
  k_tally : PySem.W.keepIn K (.ref t.f_tally) = true
  b_tally : Binds K t.d_tally ["rules", "word"] []
  m_tally : mg "tally" = some (.ref t.f_tally)
  F_summed : Fun K "summed" "summed" s_summed t.f_summed t.d_summed
  k_summed : PySem.W.keepIn K (.ref t.f_summed) = true
  b_summed : Binds K t.d_summed ["tallies", "letters"] []
  m_summed : mg "summed" = some (.ref t.f_summed)
  F_Growth_init : FunG K "__init__" "Growth.__init__" s_Growth_init t.f_Growth_init t.d_Growth_init
  k_Growth_init : PySem.W.keepIn K (.ref t.f_Growth_init) = true
  b_Growth_init : Binds K t.d_Growth_init ["self", "rules", "start"] []
  F_Growth_deepen_to : Fun K "deepen_to" "Growth.deepen_to" s_Growth_deepen_to t.f_Growth_deepen_to t.d_Growth_deepen_to
  k_Growth_deepen_to : PySem.W.keepIn K (.ref t.f_Growth_deepen_to) = true
  b_Growth_deepen_to : Binds K t.d_Growth_deepen_to ["self", "age"] []
  me_Growth_deepen_to_Growth : Meth K t.C_Growth "deepen_to" t.f_Growth_deepen_to
  F_Growth_enter : Fun K "enter" "Growth.enter" s_Growth_enter t.f_Growth_enter t.d_Growth_enter
  k_Growth_enter : PySem.W.keepIn K (.ref t.f_Growth_enter) = true
  b_Growth_enter : Binds K t.d_Growth_enter ["self", "age"] []
  me_Growth_enter_Growth : Meth K t.C_Growth "enter" t.f_Growth_enter
  F_Growth_length : Fun K "length" "Growth.length" s_Growth_length t.f_Growth_length t.d_Growth_length
  k_Growth_length : PySem.W.keepIn K (.ref t.f_Growth_length) = true
  b_Growth_length : Binds K t.d_Growth_length ["self", "age"] []
  me_Growth_length_Growth : Meth K t.C_Growth "length" t.f_Growth_length
  F_Growth_counts : Fun K "counts" "Growth.counts" s_Growth_counts t.f_Growth_counts t.d_Growth_counts
  k_Growth_counts : PySem.W.keepIn K (.ref t.f_Growth_counts) = true
  b_Growth_counts : Binds K t.d_Growth_counts ["self", "age"] []
  me_Growth_counts_Growth : Meth K t.C_Growth "counts" t.f_Growth_counts
  F_pen_of : Fun K "pen_of" "pen_of" s_pen_of t.f_pen_of t.d_pen_of
  k_pen_of : PySem.W.keepIn K (.ref t.f_pen_of) = true
  b_pen_of : Binds K t.d_pen_of ["ways"] []
  m_pen_of : mg "pen_of" = some (.ref t.f_pen_of)
  F_is_small_letter : Fun K "is_small_letter" "is_small_letter" s_is_small_letter t.f_is_small_letter t.d_is_small_letter
  k_is_small_letter : PySem.W.keepIn K (.ref t.f_is_small_letter) = true
  b_is_small_letter : Binds K t.d_is_small_letter ["text"] []
  m_is_small_letter : mg "is_small_letter" = some (.ref t.f_is_small_letter)
  F_is_word_over : Fun K "is_word_over" "is_word_over" s_is_word_over t.f_is_word_over t.d_is_word_over
  k_is_word_over : PySem.W.keepIn K (.ref t.f_is_word_over) = true
  b_is_word_over : Binds K t.d_is_word_over ["word", "letters"] []
  m_is_word_over : mg "is_word_over" = some (.ref t.f_is_word_over)
  F_check_rows : Fun K "check_rows" "check_rows" s_check_rows t.f_check_rows t.d_check_rows
  k_check_rows : PySem.W.keepIn K (.ref t.f_check_rows) = true
  b_check_rows : Binds K t.d_check_rows ["rows"] []
  m_check_rows : mg "check_rows" = some (.ref t.f_check_rows)
  F_Rules_init : FunG K "__init__" "Rules.__init__" s_Rules_init t.f_Rules_init t.d_Rules_init
  k_Rules_init : PySem.W.keepIn K (.ref t.f_Rules_init) = true
  b_Rules_init : Binds K t.d_Rules_init ["self", "ways", "rows"] []
  F_Rules_letters : Fun K "letters" "Rules.letters" s_Rules_letters t.f_Rules_letters t.d_Rules_letters
  k_Rules_letters : PySem.W.keepIn K (.ref t.f_Rules_letters) = true
  b_Rules_letters : Binds K t.d_Rules_letters ["self"] []
  me_Rules_letters_Rules : Meth K t.C_Rules "letters" t.f_Rules_letters
  F_Rules_row_of : Fun K "row_of" "Rules.row_of" s_Rules_row_of t.f_Rules_row_of t.d_Rules_row_of
  k_Rules_row_of : PySem.W.keepIn K (.ref t.f_Rules_row_of) = true
  b_Rules_row_of : Binds K t.d_Rules_row_of ["self", "letter"] []
  me_Rules_row_of_Rules : Meth K t.C_Rules "row_of" t.f_Rules_row_of
  F_Rules_word : Fun K "word" "Rules.word" s_Rules_word t.f_Rules_word t.d_Rules_word
  k_Rules_word : PySem.W.keepIn K (.ref t.f_Rules_word) = true
  b_Rules_word : Binds K t.d_Rules_word ["self", "letter"] []
  me_Rules_word_Rules : Meth K t.C_Rules "word" t.f_Rules_word
  bd_Rules_word_of : Binds K t.d_Rules_word_of ["self", "text", "most"] [.int 8 t.t_Rules_word_of]
  F_Rules_word_of : FunG K "word_of" "Rules.word_of" s_Rules_word_of t.f_Rules_word_of t.d_Rules_word_of
  k_Rules_word_of : PySem.W.keepIn K (.ref t.f_Rules_word_of) = true
  b_Rules_word_of : Binds K t.d_Rules_word_of ["self", "text", "most"] []
  me_Rules_word_of_Rules : Meth K t.C_Rules "word_of" t.f_Rules_word_of
  F_cell : Fun K "_law_cell" "_law_cell" s_cell t.f_cell t.d_cell
  k_cell : PySem.W.keepIn K (.ref t.f_cell) = true
  b_cell : Binds K t.d_cell ["_law_script", "_law_k"] []
  m_cell : mg "_law_cell" = some (.ref t.f_cell)
  F_whole : Fun K "_law_whole" "_law_whole" s_whole t.f_whole t.d_whole
  k_whole : PySem.W.keepIn K (.ref t.f_whole) = true
  b_whole : Binds K t.d_whole ["_law_found"] []
  m_whole : mg "_law_whole" = some (.ref t.f_whole)
  F_letters : Fun K "_law_letters" "_law_letters" s_letters t.f_letters t.d_letters
  k_letters : PySem.W.keepIn K (.ref t.f_letters) = true
  b_letters : Binds K t.d_letters ["_law_cell_here"] []
  m_letters : mg "_law_letters" = some (.ref t.f_letters)
  F_word : Fun K "_law_word" "_law_word" s_word t.f_word t.d_word
  k_word : PySem.W.keepIn K (.ref t.f_word) = true
  b_word : Binds K t.d_word ["_law_cell_here", "_law_letters_here", "_law_most"] []
  m_word : mg "_law_word" = some (.ref t.f_word)
  F_rows : Fun K "_law_rows" "_law_rows" s_rows t.f_rows t.d_rows
  k_rows : PySem.W.keepIn K (.ref t.f_rows) = true
  b_rows : Binds K t.d_rows ["_law_letters_here", "_law_cells", "_law_most"] []
  m_rows : mg "_law_rows" = some (.ref t.f_rows)
  F_drawn : Fun K "_law_drawn" "_law_drawn" s_drawn t.f_drawn t.d_drawn
  k_drawn : PySem.W.keepIn K (.ref t.f_drawn) = true
  b_drawn : Binds K t.d_drawn ["_law_script"] []
  m_drawn : mg "_law_drawn" = some (.ref t.f_drawn)
  F_row : Fun K "_law_row" "_law_row" s_row t.f_row t.d_row
  k_row : PySem.W.keepIn K (.ref t.f_row) = true
  b_row : Binds K t.d_row ["_law_growth", "_law_age", "_law_letters_here"] []
  m_row : mg "_law_row" = some (.ref t.f_row)
  F_law : Fun K "law" "law" s_law t.f_law t.d_law
  k_law : PySem.W.keepIn K (.ref t.f_law) = true
  b_law : Binds K t.d_law ["_law_script"] []
  m_law : mg "law" = some (.ref t.f_law)
  z_range : mg "range" = none
  z_len : mg "len" = none
  z_isinstance : mg "isinstance" = none
  z_int : mg "int" = none
  z_bool : mg "bool" = none
  z_tuple : mg "tuple" = none
  z_list : mg "list" = none
  z_all : mg "all" = none
  z_enumerate : mg "enumerate" = none
  z_dict : mg "dict" = none
  z_sum : mg "sum" = none
  z_zip : mg "zip" = none
  bl_law : ∀ (s : Shared) (u : Value), BindsTo s t.d_law ⟨[u], []⟩ [("_law_script", u)]
theorem txt_mk {K : W.Frag} {h : Heap} {mg : Str → Option Value} (X : K.In h) (G : h.Ns mainGlobals mg) {C_Quarter : Addr} {C_Sixth : Addr} {C_Rules : Addr} {C_Growth : Addr} {D_DEEDS : Addr} {y0 : Option Addr} {y1 : Nat} {y2 : Array (Option Value)} {k0_DEEDS k1_DEEDS k2_DEEDS k3_DEEDS k4_DEEDS : Tok} {y3 : Tok} {y4 : Tok} {y5 : Tok} {f_growth_table : Addr} {y6 y7 : Option Addr} {y8 : Array (Option Value)} {y9 y10 y11 y12 y13 y14 : Value} {f_even_table : Addr} {y15 y16 : Option Addr} {y17 : Array (Option Value)} {y18 y19 y20 y21 y22 y23 : Value} {f_row_by_table : Addr} {y24 y25 : Option Addr} {y26 : Array (Option Value)} {y27 y28 y29 y30 y31 y32 : Value} {f_product : Addr} {y33 y34 : Option Addr} {y35 : Array (Option Value)} {y36 y37 y38 y39 y40 y41 : Value} {f_trace : Addr} {y42 y43 : Option Addr} {y44 : Array (Option Value)} {y45 y46 y47 y48 y49 y50 : Value} {f_less_along_diagonal : Addr} {y51 y52 : Option Addr} {y53 : Array (Option Value)} {y54 y55 y56 y57 y58 y59 : Value} {f_rule : Addr} {y60 y61 : Option Addr} {y62 : Array (Option Value)} {y63 y64 y65 y66 y67 y68 : Value} {f_next_row : Addr} {y69 y70 : Option Addr} {y71 : Array (Option Value)} {y72 y73 y74 y75 y76 y77 : Value} {f_check_round : Addr} {y78 y79 : Option Addr} {y80 : Array (Option Value)} {y81 y82 y83 y84 y85 y86 : Value} {f_tally : Addr} {y87 y88 : Option Addr} {y89 : Array (Option Value)} {y90 y91 y92 y93 y94 y95 : Value} {f_summed : Addr} {y96 y97 : Option Addr} {y98 : Array (Option Value)} {y99 y100 y101 y102 y103 y104 : Value} {f_Growth_init : Addr} {y105 y106 : Option Addr} {y107 : Array (Option Value)} {y108 y109 y110 y111 y112 y113 : Value} {f_Growth_deepen_to : Addr} {y114 y115 : Option Addr} {y116 : Array (Option Value)} {y117 y118 y119 y120 y121 y122 : Value} {f_Growth_enter : Addr} {y123 y124 : Option Addr} {y125 : Array (Option Value)} {y126 y127 y128 y129 y130 y131 : Value} {f_Growth_length : Addr} {y132 y133 : Option Addr} {y134 : Array (Option Value)} {y135 y136 y137 y138 y139 y140 : Value} {f_Growth_counts : Addr} {y141 y142 : Option Addr} {y143 : Array (Option Value)} {y144 y145 y146 y147 y148 y149 : Value} {f_pen_of : Addr} {y150 y151 : Option Addr} {y152 : Array (Option Value)} {y153 y154 y155 y156 y157 y158 : Value} {f_is_small_letter : Addr} {y159 y160 : Option Addr} {y161 : Array (Option Value)} {y162 y163 y164 y165 y166 y167 : Value} {f_is_word_over : Addr} {y168 y169 : Option Addr} {y170 : Array (Option Value)} {y171 y172 y173 y174 y175 y176 : Value} {f_check_rows : Addr} {y177 y178 : Option Addr} {y179 : Array (Option Value)} {y180 y181 y182 y183 y184 y185 : Value} {f_Rules_init : Addr} {y186 y187 : Option Addr} {y188 : Array (Option Value)} {y189 y190 y191 y192 y193 y194 : Value} {f_Rules_letters : Addr} {y195 y196 : Option Addr} {y197 : Array (Option Value)} {y198 y199 y200 y201 y202 y203 : Value} {f_Rules_row_of : Addr} {y204 y205 : Option Addr} {y206 : Array (Option Value)} {y207 y208 y209 y210 y211 y212 : Value} {f_Rules_word : Addr} {y213 y214 : Option Addr} {y215 : Array (Option Value)} {y216 y217 y218 y219 y220 y221 : Value} {f_Rules_word_of : Addr} {y222 y223 : Option Addr} {y224 : Array (Option Value)} {y225 y226 y227 y228 y229 y230 : Value} {T_Rules_word_of : Addr} {y231 : Option Addr} {y232 : Value} {y233 : Nat} {y234 : Array (Option Value)} {t_Rules_word_of : Tok} {f_cell : Addr} {y235 y236 : Option Addr} {y237 : Array (Option Value)} {y238 y239 y240 y241 y242 y243 : Value} {f_whole : Addr} {y244 y245 : Option Addr} {y246 : Array (Option Value)} {y247 y248 y249 y250 y251 y252 : Value} {f_letters : Addr} {y253 y254 : Option Addr} {y255 : Array (Option Value)} {y256 y257 y258 y259 y260 y261 : Value} {f_word : Addr} {y262 y263 : Option Addr} {y264 : Array (Option Value)} {y265 y266 y267 y268 y269 y270 : Value} {f_rows : Addr} {y271 y272 : Option Addr} {y273 : Array (Option Value)} {y274 y275 y276 y277 y278 y279 : Value} {f_drawn : Addr} {y280 y281 : Option Addr} {y282 : Array (Option Value)} {y283 y284 y285 y286 y287 y288 : Value} {f_row : Addr} {y289 y290 : Option Addr} {y291 : Array (Option Value)} {y292 y293 y294 y295 y296 y297 : Value} {f_law : Addr} {y298 y299 : Option Addr} {y300 : Array (Option Value)} {y301 y302 y303 y304 y305 y306 : Value} (aQuarter : W.nsIn K mainGlobals "Quarter" = some (some (.ref C_Quarter))) (pgQuarter : W.plainGet K C_Quarter Str.empty = true) (hdQuarter : W.hasDictIn K C_Quarter = true) (poQuarter : W.plainOver K C_Quarter = true) (saQuarter : W.findIn K (.ref C_Quarter) "__setattr__" = some (some (.builtin "object.__setattr__"))) (kcQuarter : W.keepIn K (.ref C_Quarter) = true) (aSixth : W.nsIn K mainGlobals "Sixth" = some (some (.ref C_Sixth))) (pgSixth : W.plainGet K C_Sixth Str.empty = true) (hdSixth : W.hasDictIn K C_Sixth = true) (poSixth : W.plainOver K C_Sixth = true) (saSixth : W.findIn K (.ref C_Sixth) "__setattr__" = some (some (.builtin "object.__setattr__"))) (kcSixth : W.keepIn K (.ref C_Sixth) = true) (aRules : W.nsIn K mainGlobals "Rules" = some (some (.ref C_Rules))) (pgRules : W.plainGet K C_Rules Str.empty = true) (hdRules : W.hasDictIn K C_Rules = true) (poRules : W.plainOver K C_Rules = true) (saRules : W.findIn K (.ref C_Rules) "__setattr__" = some (some (.builtin "object.__setattr__"))) (kcRules : W.keepIn K (.ref C_Rules) = true) (aGrowth : W.nsIn K mainGlobals "Growth" = some (some (.ref C_Growth))) (pgGrowth : W.plainGet K C_Growth Str.empty = true) (hdGrowth : W.hasDictIn K C_Growth = true) (poGrowth : W.plainOver K C_Growth = true) (saGrowth : W.findIn K (.ref C_Growth) "__setattr__" = some (some (.builtin "object.__setattr__"))) (kcGrowth : W.keepIn K (.ref C_Growth) = true) (mkQuarter : W.makesIn K C_Quarter = true) (inQuarter : W.findIn K (.ref C_Quarter) "__init__" = some (some (.builtin "object.__init__"))) (mkSixth : W.makesIn K C_Sixth = true) (inSixth : W.findIn K (.ref C_Sixth) "__init__" = some (some (.builtin "object.__init__"))) (mkRules : W.makesIn K C_Rules = true) (inRules : W.findIn K (.ref C_Rules) "__init__" = some (some (.ref f_Rules_init))) (fiRules : W.isFn K (.ref f_Rules_init) = true) (mkGrowth : W.makesIn K C_Growth = true) (inGrowth : W.findIn K (.ref C_Growth) "__init__" = some (some (.ref f_Growth_init))) (fiGrowth : W.isFn K (.ref f_Growth_init) = true) (na_Rules_drawer : W.findIn K (.ref C_Rules) "drawer" = some none) (na_Rules_row_by_letter : W.findIn K (.ref C_Rules) "row_by_letter" = some none) (na_Growth_rules : W.findIn K (.ref C_Growth) "rules" = some none) (na_Growth_seed : W.findIn K (.ref C_Growth) "seed" = some none) (na_Growth_tallies : W.findIn K (.ref C_Growth) "tallies" = some none) (na_Growth_lengths : W.findIn K (.ref C_Growth) "lengths" = some none) (ag_DEEDS : W.nsIn K mainGlobals "DEEDS" = some (some (.ref D_DEEDS))) (lg_DEEDS : K.lookup D_DEEDS = some ⟨.type "tuple", y0, .seq #[.str "stroke" k0_DEEDS, .str "step" k1_DEEDS, .str "left" k2_DEEDS, .str "right" k3_DEEDS, .str "rest" k4_DEEDS] y1, y2⟩) (ag_MOST_ROWS : W.nsIn K mainGlobals "MOST_ROWS" = some (some (.int 6 y3))) (ag_MOST_IN_WORD : W.nsIn K mainGlobals "MOST_IN_WORD" = some (some (.int 8 y4))) (ag_LAST_ROUND : W.nsIn K mainGlobals "LAST_ROUND" = some (some (.int 200 y5))) (y307 : W.nsIn K mainGlobals "growth_table" = some (some (.ref f_growth_table))) (y308 : K.lookup f_growth_table = some ⟨y9, y6, .func (W.fnOf "growth_table" "growth_table" (defArgs s_growth_table) (defBody s_growth_table) (defScope s_growth_table) .none y10 y11 y12 y7 y13 y14), y8⟩) (y309 : W.codeIn K y13 "growth_table" = true) (y310 : W.keepIn K (.ref f_growth_table) = true) (y311 : W.nsIn K mainGlobals "even_table" = some (some (.ref f_even_table))) (y312 : K.lookup f_even_table = some ⟨y18, y15, .func (W.fnOf "even_table" "even_table" (defArgs s_even_table) (defBody s_even_table) (defScope s_even_table) .none y19 y20 y21 y16 y22 y23), y17⟩) (y313 : W.codeIn K y22 "even_table" = true) (y314 : W.keepIn K (.ref f_even_table) = true) (y315 : W.nsIn K mainGlobals "row_by_table" = some (some (.ref f_row_by_table))) (y316 : K.lookup f_row_by_table = some ⟨y27, y24, .func (W.fnOf "row_by_table" "row_by_table" (defArgs s_row_by_table) (defBody s_row_by_table) (defScope s_row_by_table) .none y28 y29 y30 y25 y31 y32), y26⟩) (y317 : W.codeIn K y31 "row_by_table" = true) (y318 : W.keepIn K (.ref f_row_by_table) = true) (y319 : W.nsIn K mainGlobals "product" = some (some (.ref f_product))) (y320 : K.lookup f_product = some ⟨y36, y33, .func (W.fnOf "product" "product" (defArgs s_product) (defBody s_product) (defScope s_product) .none y37 y38 y39 y34 y40 y41), y35⟩) (y321 : W.codeIn K y40 "product" = true) (y322 : W.keepIn K (.ref f_product) = true) (y323 : W.nsIn K mainGlobals "trace" = some (some (.ref f_trace))) (y324 : K.lookup f_trace = some ⟨y45, y42, .func (W.fnOf "trace" "trace" (defArgs s_trace) (defBody s_trace) (defScope s_trace) .none y46 y47 y48 y43 y49 y50), y44⟩) (y325 : W.codeIn K y49 "trace" = true) (y326 : W.keepIn K (.ref f_trace) = true) (y327 : W.nsIn K mainGlobals "less_along_diagonal" = some (some (.ref f_less_along_diagonal))) (y328 : K.lookup f_less_along_diagonal = some ⟨y54, y51, .func (W.fnOf "less_along_diagonal" "less_along_diagonal" (defArgs s_less_along_diagonal) (defBody s_less_along_diagonal) (defScope s_less_along_diagonal) .none y55 y56 y57 y52 y58 y59), y53⟩) (y329 : W.codeIn K y58 "less_along_diagonal" = true) (y330 : W.keepIn K (.ref f_less_along_diagonal) = true) (y331 : W.nsIn K mainGlobals "rule" = some (some (.ref f_rule))) (y332 : K.lookup f_rule = some ⟨y63, y60, .func (W.fnOf "rule" "rule" (defArgs s_rule) (defBody s_rule) (defScope s_rule) .none y64 y65 y66 y61 y67 y68), y62⟩) (y333 : W.codeIn K y67 "rule" = true) (y334 : W.keepIn K (.ref f_rule) = true) (y335 : W.nsIn K mainGlobals "next_row" = some (some (.ref f_next_row))) (y336 : K.lookup f_next_row = some ⟨y72, y69, .func (W.fnOf "next_row" "next_row" (defArgs s_next_row) (defBody s_next_row) (defScope s_next_row) .none y73 y74 y75 y70 y76 y77), y71⟩) (y337 : W.codeIn K y76 "next_row" = true) (y338 : W.keepIn K (.ref f_next_row) = true) (y339 : W.nsIn K mainGlobals "check_round" = some (some (.ref f_check_round))) (y340 : K.lookup f_check_round = some ⟨y81, y78, .func (W.fnOf "check_round" "check_round" (defArgs s_check_round) (defBody s_check_round) (defScope s_check_round) .none y82 y83 y84 y79 y85 y86), y80⟩) (y341 : W.codeIn K y85 "check_round" = true) (y342 : W.keepIn K (.ref f_check_round) = true) (y343 : W.nsIn K mainGlobals "tally" = some (some (.ref f_tally))) (y344 : K.lookup f_tally = some ⟨y90, y87, .func (W.fnOf "tally" "tally" (defArgs s_tally) (defBody s_tally) (defScope s_tally) .none y91 y92 y93 y88 y94 y95), y89⟩) (y345 : W.codeIn K y94 "tally" = true) (y346 : W.keepIn K (.ref f_tally) = true) (y347 : W.nsIn K mainGlobals "summed" = some (some (.ref f_summed))) (y348 : K.lookup f_summed = some ⟨y99, y96, .func (W.fnOf "summed" "summed" (defArgs s_summed) (defBody s_summed) (defScope s_summed) .none y100 y101 y102 y97 y103 y104), y98⟩) (y349 : W.codeIn K y103 "summed" = true) (y350 : W.keepIn K (.ref f_summed) = true) (y351 : K.lookup f_Growth_init = some ⟨y108, y105, .func (W.fnOf "__init__" "Growth.__init__" (defArgs s_Growth_init) (defBody s_Growth_init) (defScope s_Growth_init) .none y109 y110 y111 y106 y112 y113), y107⟩) (y352 : W.codeIn K y112 "Growth.__init__" = true) (y353 : W.keepIn K (.ref f_Growth_init) = true) (y354 : W.findIn K (.ref C_Growth) "deepen_to" = some (some (.ref f_Growth_deepen_to))) (y355 : W.isFn K (.ref f_Growth_deepen_to) = true) (y356 : K.lookup f_Growth_deepen_to = some ⟨y117, y114, .func (W.fnOf "deepen_to" "Growth.deepen_to" (defArgs s_Growth_deepen_to) (defBody s_Growth_deepen_to) (defScope s_Growth_deepen_to) .none y118 y119 y120 y115 y121 y122), y116⟩) (y357 : W.codeIn K y121 "Growth.deepen_to" = true) (y358 : W.keepIn K (.ref f_Growth_deepen_to) = true) (y359 : W.findIn K (.ref C_Growth) "enter" = some (some (.ref f_Growth_enter))) (y360 : W.isFn K (.ref f_Growth_enter) = true) (y361 : K.lookup f_Growth_enter = some ⟨y126, y123, .func (W.fnOf "enter" "Growth.enter" (defArgs s_Growth_enter) (defBody s_Growth_enter) (defScope s_Growth_enter) .none y127 y128 y129 y124 y130 y131), y125⟩) (y362 : W.codeIn K y130 "Growth.enter" = true) (y363 : W.keepIn K (.ref f_Growth_enter) = true) (y364 : W.findIn K (.ref C_Growth) "length" = some (some (.ref f_Growth_length))) (y365 : W.isFn K (.ref f_Growth_length) = true) (y366 : K.lookup f_Growth_length = some ⟨y135, y132, .func (W.fnOf "length" "Growth.length" (defArgs s_Growth_length) (defBody s_Growth_length) (defScope s_Growth_length) .none y136 y137 y138 y133 y139 y140), y134⟩) (y367 : W.codeIn K y139 "Growth.length" = true) (y368 : W.keepIn K (.ref f_Growth_length) = true) (y369 : W.findIn K (.ref C_Growth) "counts" = some (some (.ref f_Growth_counts))) (y370 : W.isFn K (.ref f_Growth_counts) = true) (y371 : K.lookup f_Growth_counts = some ⟨y144, y141, .func (W.fnOf "counts" "Growth.counts" (defArgs s_Growth_counts) (defBody s_Growth_counts) (defScope s_Growth_counts) .none y145 y146 y147 y142 y148 y149), y143⟩) (y372 : W.codeIn K y148 "Growth.counts" = true) (y373 : W.keepIn K (.ref f_Growth_counts) = true) (y374 : W.nsIn K mainGlobals "pen_of" = some (some (.ref f_pen_of))) (y375 : K.lookup f_pen_of = some ⟨y153, y150, .func (W.fnOf "pen_of" "pen_of" (defArgs s_pen_of) (defBody s_pen_of) (defScope s_pen_of) .none y154 y155 y156 y151 y157 y158), y152⟩) (y376 : W.codeIn K y157 "pen_of" = true) (y377 : W.keepIn K (.ref f_pen_of) = true) (y378 : W.nsIn K mainGlobals "is_small_letter" = some (some (.ref f_is_small_letter))) (y379 : K.lookup f_is_small_letter = some ⟨y162, y159, .func (W.fnOf "is_small_letter" "is_small_letter" (defArgs s_is_small_letter) (defBody s_is_small_letter) (defScope s_is_small_letter) .none y163 y164 y165 y160 y166 y167), y161⟩) (y380 : W.codeIn K y166 "is_small_letter" = true) (y381 : W.keepIn K (.ref f_is_small_letter) = true) (y382 : W.nsIn K mainGlobals "is_word_over" = some (some (.ref f_is_word_over))) (y383 : K.lookup f_is_word_over = some ⟨y171, y168, .func (W.fnOf "is_word_over" "is_word_over" (defArgs s_is_word_over) (defBody s_is_word_over) (defScope s_is_word_over) .none y172 y173 y174 y169 y175 y176), y170⟩) (y384 : W.codeIn K y175 "is_word_over" = true) (y385 : W.keepIn K (.ref f_is_word_over) = true) (y386 : W.nsIn K mainGlobals "check_rows" = some (some (.ref f_check_rows))) (y387 : K.lookup f_check_rows = some ⟨y180, y177, .func (W.fnOf "check_rows" "check_rows" (defArgs s_check_rows) (defBody s_check_rows) (defScope s_check_rows) .none y181 y182 y183 y178 y184 y185), y179⟩) (y388 : W.codeIn K y184 "check_rows" = true) (y389 : W.keepIn K (.ref f_check_rows) = true) (y390 : K.lookup f_Rules_init = some ⟨y189, y186, .func (W.fnOf "__init__" "Rules.__init__" (defArgs s_Rules_init) (defBody s_Rules_init) (defScope s_Rules_init) .none y190 y191 y192 y187 y193 y194), y188⟩) (y391 : W.codeIn K y193 "Rules.__init__" = true) (y392 : W.keepIn K (.ref f_Rules_init) = true) (y393 : W.findIn K (.ref C_Rules) "letters" = some (some (.ref f_Rules_letters))) (y394 : W.isFn K (.ref f_Rules_letters) = true) (y395 : K.lookup f_Rules_letters = some ⟨y198, y195, .func (W.fnOf "letters" "Rules.letters" (defArgs s_Rules_letters) (defBody s_Rules_letters) (defScope s_Rules_letters) .none y199 y200 y201 y196 y202 y203), y197⟩) (y396 : W.codeIn K y202 "Rules.letters" = true) (y397 : W.keepIn K (.ref f_Rules_letters) = true) (y398 : W.findIn K (.ref C_Rules) "row_of" = some (some (.ref f_Rules_row_of))) (y399 : W.isFn K (.ref f_Rules_row_of) = true) (y400 : K.lookup f_Rules_row_of = some ⟨y207, y204, .func (W.fnOf "row_of" "Rules.row_of" (defArgs s_Rules_row_of) (defBody s_Rules_row_of) (defScope s_Rules_row_of) .none y208 y209 y210 y205 y211 y212), y206⟩) (y401 : W.codeIn K y211 "Rules.row_of" = true) (y402 : W.keepIn K (.ref f_Rules_row_of) = true) (y403 : W.findIn K (.ref C_Rules) "word" = some (some (.ref f_Rules_word))) (y404 : W.isFn K (.ref f_Rules_word) = true) (y405 : K.lookup f_Rules_word = some ⟨y216, y213, .func (W.fnOf "word" "Rules.word" (defArgs s_Rules_word) (defBody s_Rules_word) (defScope s_Rules_word) .none y217 y218 y219 y214 y220 y221), y215⟩) (y406 : W.codeIn K y220 "Rules.word" = true) (y407 : W.keepIn K (.ref f_Rules_word) = true) (y408 : W.findIn K (.ref C_Rules) "word_of" = some (some (.ref f_Rules_word_of))) (y409 : W.isFn K (.ref f_Rules_word_of) = true) (y410 : K.lookup f_Rules_word_of = some ⟨y225, y222, .func (W.fnOf "word_of" "Rules.word_of" (defArgs s_Rules_word_of) (defBody s_Rules_word_of) (defScope s_Rules_word_of) (.ref T_Rules_word_of) y226 y227 y228 y223 y229 y230), y224⟩) (y411 : K.lookup T_Rules_word_of = some ⟨y232, y231, .seq #[.int 8 t_Rules_word_of] y233, y234⟩) (y412 : W.codeIn K y229 "Rules.word_of" = true) (y413 : W.keepIn K (.ref f_Rules_word_of) = true) (y414 : W.nsIn K mainGlobals "_law_cell" = some (some (.ref f_cell))) (y415 : K.lookup f_cell = some ⟨y238, y235, .func (W.fnOf "_law_cell" "_law_cell" (defArgs s_cell) (defBody s_cell) (defScope s_cell) .none y239 y240 y241 y236 y242 y243), y237⟩) (y416 : W.codeIn K y242 "_law_cell" = true) (y417 : W.keepIn K (.ref f_cell) = true) (y418 : W.nsIn K mainGlobals "_law_whole" = some (some (.ref f_whole))) (y419 : K.lookup f_whole = some ⟨y247, y244, .func (W.fnOf "_law_whole" "_law_whole" (defArgs s_whole) (defBody s_whole) (defScope s_whole) .none y248 y249 y250 y245 y251 y252), y246⟩) (y420 : W.codeIn K y251 "_law_whole" = true) (y421 : W.keepIn K (.ref f_whole) = true) (y422 : W.nsIn K mainGlobals "_law_letters" = some (some (.ref f_letters))) (y423 : K.lookup f_letters = some ⟨y256, y253, .func (W.fnOf "_law_letters" "_law_letters" (defArgs s_letters) (defBody s_letters) (defScope s_letters) .none y257 y258 y259 y254 y260 y261), y255⟩) (y424 : W.codeIn K y260 "_law_letters" = true) (y425 : W.keepIn K (.ref f_letters) = true) (y426 : W.nsIn K mainGlobals "_law_word" = some (some (.ref f_word))) (y427 : K.lookup f_word = some ⟨y265, y262, .func (W.fnOf "_law_word" "_law_word" (defArgs s_word) (defBody s_word) (defScope s_word) .none y266 y267 y268 y263 y269 y270), y264⟩) (y428 : W.codeIn K y269 "_law_word" = true) (y429 : W.keepIn K (.ref f_word) = true) (y430 : W.nsIn K mainGlobals "_law_rows" = some (some (.ref f_rows))) (y431 : K.lookup f_rows = some ⟨y274, y271, .func (W.fnOf "_law_rows" "_law_rows" (defArgs s_rows) (defBody s_rows) (defScope s_rows) .none y275 y276 y277 y272 y278 y279), y273⟩) (y432 : W.codeIn K y278 "_law_rows" = true) (y433 : W.keepIn K (.ref f_rows) = true) (y434 : W.nsIn K mainGlobals "_law_drawn" = some (some (.ref f_drawn))) (y435 : K.lookup f_drawn = some ⟨y283, y280, .func (W.fnOf "_law_drawn" "_law_drawn" (defArgs s_drawn) (defBody s_drawn) (defScope s_drawn) .none y284 y285 y286 y281 y287 y288), y282⟩) (y436 : W.codeIn K y287 "_law_drawn" = true) (y437 : W.keepIn K (.ref f_drawn) = true) (y438 : W.nsIn K mainGlobals "_law_row" = some (some (.ref f_row))) (y439 : K.lookup f_row = some ⟨y292, y289, .func (W.fnOf "_law_row" "_law_row" (defArgs s_row) (defBody s_row) (defScope s_row) .none y293 y294 y295 y290 y296 y297), y291⟩) (y440 : W.codeIn K y296 "_law_row" = true) (y441 : W.keepIn K (.ref f_row) = true) (y442 : W.nsIn K mainGlobals "law" = some (some (.ref f_law))) (y443 : K.lookup f_law = some ⟨y301, y298, .func (W.fnOf "law" "law" (defArgs s_law) (defBody s_law) (defScope s_law) .none y302 y303 y304 y299 y305 y306), y300⟩) (y444 : W.codeIn K y305 "law" = true) (y445 : W.keepIn K (.ref f_law) = true) (z_range : W.nsIn K mainGlobals "range" = some none) (z_len : W.nsIn K mainGlobals "len" = some none) (z_isinstance : W.nsIn K mainGlobals "isinstance" = some none) (z_int : W.nsIn K mainGlobals "int" = some none) (z_bool : W.nsIn K mainGlobals "bool" = some none) (z_tuple : W.nsIn K mainGlobals "tuple" = some none) (z_list : W.nsIn K mainGlobals "list" = some none) (z_all : W.nsIn K mainGlobals "all" = some none) (z_enumerate : W.nsIn K mainGlobals "enumerate" = some none) (z_dict : W.nsIn K mainGlobals "dict" = some none) (z_sum : W.nsIn K mainGlobals "sum" = some none) (z_zip : W.nsIn K mainGlobals "zip" = some none) : ∃ t, Txt K mg t ∧ t.f_law = f_law := by
  refine ⟨⟨f_growth_table, W.fnOf "growth_table" "growth_table" (defArgs s_growth_table) (defBody s_growth_table) (defScope s_growth_table) .none y10 y11 y12 y7 y13 y14, f_even_table, W.fnOf "even_table" "even_table" (defArgs s_even_table) (defBody s_even_table) (defScope s_even_table) .none y19 y20 y21 y16 y22 y23, f_row_by_table, W.fnOf "row_by_table" "row_by_table" (defArgs s_row_by_table) (defBody s_row_by_table) (defScope s_row_by_table) .none y28 y29 y30 y25 y31 y32, f_product, W.fnOf "product" "product" (defArgs s_product) (defBody s_product) (defScope s_product) .none y37 y38 y39 y34 y40 y41, f_trace, W.fnOf "trace" "trace" (defArgs s_trace) (defBody s_trace) (defScope s_trace) .none y46 y47 y48 y43 y49 y50, f_less_along_diagonal, W.fnOf "less_along_diagonal" "less_along_diagonal" (defArgs s_less_along_diagonal) (defBody s_less_along_diagonal) (defScope s_less_along_diagonal) .none y55 y56 y57 y52 y58 y59, f_rule, W.fnOf "rule" "rule" (defArgs s_rule) (defBody s_rule) (defScope s_rule) .none y64 y65 y66 y61 y67 y68, f_next_row, W.fnOf "next_row" "next_row" (defArgs s_next_row) (defBody s_next_row) (defScope s_next_row) .none y73 y74 y75 y70 y76 y77, f_check_round, W.fnOf "check_round" "check_round" (defArgs s_check_round) (defBody s_check_round) (defScope s_check_round) .none y82 y83 y84 y79 y85 y86, f_tally, W.fnOf "tally" "tally" (defArgs s_tally) (defBody s_tally) (defScope s_tally) .none y91 y92 y93 y88 y94 y95, f_summed, W.fnOf "summed" "summed" (defArgs s_summed) (defBody s_summed) (defScope s_summed) .none y100 y101 y102 y97 y103 y104, f_Growth_init, W.fnOf "__init__" "Growth.__init__" (defArgs s_Growth_init) (defBody s_Growth_init) (defScope s_Growth_init) .none y109 y110 y111 y106 y112 y113, f_Growth_deepen_to, W.fnOf "deepen_to" "Growth.deepen_to" (defArgs s_Growth_deepen_to) (defBody s_Growth_deepen_to) (defScope s_Growth_deepen_to) .none y118 y119 y120 y115 y121 y122, f_Growth_enter, W.fnOf "enter" "Growth.enter" (defArgs s_Growth_enter) (defBody s_Growth_enter) (defScope s_Growth_enter) .none y127 y128 y129 y124 y130 y131, f_Growth_length, W.fnOf "length" "Growth.length" (defArgs s_Growth_length) (defBody s_Growth_length) (defScope s_Growth_length) .none y136 y137 y138 y133 y139 y140, f_Growth_counts, W.fnOf "counts" "Growth.counts" (defArgs s_Growth_counts) (defBody s_Growth_counts) (defScope s_Growth_counts) .none y145 y146 y147 y142 y148 y149, f_pen_of, W.fnOf "pen_of" "pen_of" (defArgs s_pen_of) (defBody s_pen_of) (defScope s_pen_of) .none y154 y155 y156 y151 y157 y158, f_is_small_letter, W.fnOf "is_small_letter" "is_small_letter" (defArgs s_is_small_letter) (defBody s_is_small_letter) (defScope s_is_small_letter) .none y163 y164 y165 y160 y166 y167, f_is_word_over, W.fnOf "is_word_over" "is_word_over" (defArgs s_is_word_over) (defBody s_is_word_over) (defScope s_is_word_over) .none y172 y173 y174 y169 y175 y176, f_check_rows, W.fnOf "check_rows" "check_rows" (defArgs s_check_rows) (defBody s_check_rows) (defScope s_check_rows) .none y181 y182 y183 y178 y184 y185, f_Rules_init, W.fnOf "__init__" "Rules.__init__" (defArgs s_Rules_init) (defBody s_Rules_init) (defScope s_Rules_init) .none y190 y191 y192 y187 y193 y194, f_Rules_letters, W.fnOf "letters" "Rules.letters" (defArgs s_Rules_letters) (defBody s_Rules_letters) (defScope s_Rules_letters) .none y199 y200 y201 y196 y202 y203, f_Rules_row_of, W.fnOf "row_of" "Rules.row_of" (defArgs s_Rules_row_of) (defBody s_Rules_row_of) (defScope s_Rules_row_of) .none y208 y209 y210 y205 y211 y212, f_Rules_word, W.fnOf "word" "Rules.word" (defArgs s_Rules_word) (defBody s_Rules_word) (defScope s_Rules_word) .none y217 y218 y219 y214 y220 y221, f_Rules_word_of, W.fnOf "word_of" "Rules.word_of" (defArgs s_Rules_word_of) (defBody s_Rules_word_of) (defScope s_Rules_word_of) (.ref T_Rules_word_of) y226 y227 y228 y223 y229 y230, f_cell, W.fnOf "_law_cell" "_law_cell" (defArgs s_cell) (defBody s_cell) (defScope s_cell) .none y239 y240 y241 y236 y242 y243, f_whole, W.fnOf "_law_whole" "_law_whole" (defArgs s_whole) (defBody s_whole) (defScope s_whole) .none y248 y249 y250 y245 y251 y252, f_letters, W.fnOf "_law_letters" "_law_letters" (defArgs s_letters) (defBody s_letters) (defScope s_letters) .none y257 y258 y259 y254 y260 y261, f_word, W.fnOf "_law_word" "_law_word" (defArgs s_word) (defBody s_word) (defScope s_word) .none y266 y267 y268 y263 y269 y270, f_rows, W.fnOf "_law_rows" "_law_rows" (defArgs s_rows) (defBody s_rows) (defScope s_rows) .none y275 y276 y277 y272 y278 y279, f_drawn, W.fnOf "_law_drawn" "_law_drawn" (defArgs s_drawn) (defBody s_drawn) (defScope s_drawn) .none y284 y285 y286 y281 y287 y288, f_row, W.fnOf "_law_row" "_law_row" (defArgs s_row) (defBody s_row) (defScope s_row) .none y293 y294 y295 y290 y296 y297, f_law, W.fnOf "law" "law" (defArgs s_law) (defBody s_law) (defScope s_law) .none y302 y303 y304 y299 y305 y306, t_Rules_word_of, C_Quarter, C_Sixth, C_Rules, C_Growth, D_DEEDS, y3, y4, y5⟩, ?_, rfl⟩
  constructor
  · exact ⟨pgQuarter, hdQuarter, poQuarter, saQuarter⟩
  · exact W.mg_of X G aQuarter
  · exact kcQuarter
  · exact ⟨pgSixth, hdSixth, poSixth, saSixth⟩
  · exact W.mg_of X G aSixth
  · exact kcSixth
  · exact ⟨pgRules, hdRules, poRules, saRules⟩
  · exact W.mg_of X G aRules
  · exact kcRules
  · exact ⟨pgGrowth, hdGrowth, poGrowth, saGrowth⟩
  · exact W.mg_of X G aGrowth
  · exact kcGrowth
  · exact ⟨mkQuarter, inQuarter, kcQuarter⟩
  · exact ⟨mkSixth, inSixth, kcSixth⟩
  · exact ⟨mkRules, inRules, fiRules, kcRules⟩
  · exact ⟨mkGrowth, inGrowth, fiGrowth, kcGrowth⟩
  · exact na_Rules_drawer
  · exact na_Rules_row_by_letter
  · exact na_Growth_rules
  · exact na_Growth_seed
  · exact na_Growth_tallies
  · exact na_Growth_lengths
  · exact W.mg_of X G ag_DEEDS
  · exact fun H => .tup (vs := [.str "stroke", .str "step", .str "left", .str "right", .str "rest"]) (.inr ⟨_, _, _, lg_DEEDS, rfl, rfl, Nat.le_of_ble_eq_true rfl, .cons ⟨_, rfl⟩ (.cons ⟨_, rfl⟩ (.cons ⟨_, rfl⟩ (.cons ⟨_, rfl⟩ (.cons ⟨_, rfl⟩ (.nil)))))⟩) (.cons (.str _) (.cons (.str _) (.cons (.str _) (.cons (.str _) (.cons (.str _) (.nil))))))
  · exact W.mg_of X G ag_MOST_ROWS
  · exact W.mg_of X G ag_MOST_IN_WORD
  · exact W.mg_of X G ag_LAST_ROUND
  · exact fun_mk (st := s_growth_table) y308 y309 y310
  · exact y310
  · exact (fun_mk (st := s_growth_table) y308 y309 y310).binds fun _ _ _ _ _ _ us hl => match us, hl with | [_], _ => rfl
  · exact W.mg_of X G y307
  · exact fun_mk (st := s_even_table) y312 y313 y314
  · exact y314
  · exact (fun_mk (st := s_even_table) y312 y313 y314).binds fun _ _ _ _ _ _ us hl => match us, hl with | [_], _ => rfl
  · exact W.mg_of X G y311
  · exact fun_mk (st := s_row_by_table) y316 y317 y318
  · exact y318
  · exact (fun_mk (st := s_row_by_table) y316 y317 y318).binds fun _ _ _ _ _ _ us hl => match us, hl with | [_, _], _ => rfl
  · exact W.mg_of X G y315
  · exact fun_mk (st := s_product) y320 y321 y322
  · exact y322
  · exact (fun_mk (st := s_product) y320 y321 y322).binds fun _ _ _ _ _ _ us hl => match us, hl with | [_, _], _ => rfl
  · exact W.mg_of X G y319
  · exact fun_mk (st := s_trace) y324 y325 y326
  · exact y326
  · exact (fun_mk (st := s_trace) y324 y325 y326).binds fun _ _ _ _ _ _ us hl => match us, hl with | [_], _ => rfl
  · exact W.mg_of X G y323
  · exact fun_mk (st := s_less_along_diagonal) y328 y329 y330
  · exact y330
  · exact (fun_mk (st := s_less_along_diagonal) y328 y329 y330).binds fun _ _ _ _ _ _ us hl => match us, hl with | [_, _], _ => rfl
  · exact W.mg_of X G y327
  · exact fun_mk (st := s_rule) y332 y333 y334
  · exact y334
  · exact (fun_mk (st := s_rule) y332 y333 y334).binds fun _ _ _ _ _ _ us hl => match us, hl with | [_], _ => rfl
  · exact W.mg_of X G y331
  · exact fun_mk (st := s_next_row) y336 y337 y338
  · exact y338
  · exact (fun_mk (st := s_next_row) y336 y337 y338).binds fun _ _ _ _ _ _ us hl => match us, hl with | [_, _], _ => rfl
  · exact W.mg_of X G y335
  · exact fun_mk (st := s_check_round) y340 y341 y342
  · exact y342
  · exact (fun_mk (st := s_check_round) y340 y341 y342).binds fun _ _ _ _ _ _ us hl => match us, hl with | [_, _, _], _ => rfl
  · exact W.mg_of X G y339
  · exact fun_mk (st := s_tally) y344 y345 y346
  · exact y346
  · exact (fun_mk (st := s_tally) y344 y345 y346).binds fun _ _ _ _ _ _ us hl => match us, hl with | [_, _], _ => rfl
  · exact W.mg_of X G y343
  · exact fun_mk (st := s_summed) y348 y349 y350
  · exact y350
  · exact (fun_mk (st := s_summed) y348 y349 y350).binds fun _ _ _ _ _ _ us hl => match us, hl with | [_, _], _ => rfl
  · exact W.mg_of X G y347
  · exact funG_mk (st := s_Growth_init) y351 y352
  · exact y353
  · exact (fun_mk (st := s_Growth_init) y351 y352 y353).binds fun _ _ _ _ _ _ us hl => match us, hl with | [_, _, _], _ => rfl
  · exact fun_mk (st := s_Growth_deepen_to) y356 y357 y358
  · exact y358
  · exact (fun_mk (st := s_Growth_deepen_to) y356 y357 y358).binds fun _ _ _ _ _ _ us hl => match us, hl with | [_, _], _ => rfl
  · exact ⟨y354, y355, y358⟩
  · exact fun_mk (st := s_Growth_enter) y361 y362 y363
  · exact y363
  · exact (fun_mk (st := s_Growth_enter) y361 y362 y363).binds fun _ _ _ _ _ _ us hl => match us, hl with | [_, _], _ => rfl
  · exact ⟨y359, y360, y363⟩
  · exact fun_mk (st := s_Growth_length) y366 y367 y368
  · exact y368
  · exact (fun_mk (st := s_Growth_length) y366 y367 y368).binds fun _ _ _ _ _ _ us hl => match us, hl with | [_, _], _ => rfl
  · exact ⟨y364, y365, y368⟩
  · exact fun_mk (st := s_Growth_counts) y371 y372 y373
  · exact y373
  · exact (fun_mk (st := s_Growth_counts) y371 y372 y373).binds fun _ _ _ _ _ _ us hl => match us, hl with | [_, _], _ => rfl
  · exact ⟨y369, y370, y373⟩
  · exact fun_mk (st := s_pen_of) y375 y376 y377
  · exact y377
  · exact (fun_mk (st := s_pen_of) y375 y376 y377).binds fun _ _ _ _ _ _ us hl => match us, hl with | [_], _ => rfl
  · exact W.mg_of X G y374
  · exact fun_mk (st := s_is_small_letter) y379 y380 y381
  · exact y381
  · exact (fun_mk (st := s_is_small_letter) y379 y380 y381).binds fun _ _ _ _ _ _ us hl => match us, hl with | [_], _ => rfl
  · exact W.mg_of X G y378
  · exact fun_mk (st := s_is_word_over) y383 y384 y385
  · exact y385
  · exact (fun_mk (st := s_is_word_over) y383 y384 y385).binds fun _ _ _ _ _ _ us hl => match us, hl with | [_, _], _ => rfl
  · exact W.mg_of X G y382
  · exact fun_mk (st := s_check_rows) y387 y388 y389
  · exact y389
  · exact (fun_mk (st := s_check_rows) y387 y388 y389).binds fun _ _ _ _ _ _ us hl => match us, hl with | [_], _ => rfl
  · exact W.mg_of X G y386
  · exact funG_mk (st := s_Rules_init) y390 y391
  · exact y392
  · exact (fun_mk (st := s_Rules_init) y390 y391 y392).binds fun _ _ _ _ _ _ us hl => match us, hl with | [_, _, _], _ => rfl
  · exact fun_mk (st := s_Rules_letters) y395 y396 y397
  · exact y397
  · exact (fun_mk (st := s_Rules_letters) y395 y396 y397).binds fun _ _ _ _ _ _ us hl => match us, hl with | [_], _ => rfl
  · exact ⟨y393, y394, y397⟩
  · exact fun_mk (st := s_Rules_row_of) y400 y401 y402
  · exact y402
  · exact (fun_mk (st := s_Rules_row_of) y400 y401 y402).binds fun _ _ _ _ _ _ us hl => match us, hl with | [_, _], _ => rfl
  · exact ⟨y398, y399, y402⟩
  · exact fun_mk (st := s_Rules_word) y405 y406 y407
  · exact y407
  · exact (fun_mk (st := s_Rules_word) y405 y406 y407).binds fun _ _ _ _ _ _ us hl => match us, hl with | [_, _], _ => rfl
  · exact ⟨y403, y404, y407⟩
  · exact fun s us X hl => by obtain ⟨z, y, rfl⟩ := two_of hl; exact BindsTo.of_defaults rfl (X _ _ y411) rfl rfl rfl
  · exact funG_mk (st := s_Rules_word_of) y410 y412
  · exact y413
  · exact fun s us X hl => match us, hl with | [_, _, _], _ => BindsTo.of_defaults rfl (X _ _ y411) rfl rfl rfl
  · exact ⟨y408, y409, y413⟩
  · exact fun_mk (st := s_cell) y415 y416 y417
  · exact y417
  · exact (fun_mk (st := s_cell) y415 y416 y417).binds fun _ _ _ _ _ _ us hl => match us, hl with | [_, _], _ => rfl
  · exact W.mg_of X G y414
  · exact fun_mk (st := s_whole) y419 y420 y421
  · exact y421
  · exact (fun_mk (st := s_whole) y419 y420 y421).binds fun _ _ _ _ _ _ us hl => match us, hl with | [_], _ => rfl
  · exact W.mg_of X G y418
  · exact fun_mk (st := s_letters) y423 y424 y425
  · exact y425
  · exact (fun_mk (st := s_letters) y423 y424 y425).binds fun _ _ _ _ _ _ us hl => match us, hl with | [_], _ => rfl
  · exact W.mg_of X G y422
  · exact fun_mk (st := s_word) y427 y428 y429
  · exact y429
  · exact (fun_mk (st := s_word) y427 y428 y429).binds fun _ _ _ _ _ _ us hl => match us, hl with | [_, _, _], _ => rfl
  · exact W.mg_of X G y426
  · exact fun_mk (st := s_rows) y431 y432 y433
  · exact y433
  · exact (fun_mk (st := s_rows) y431 y432 y433).binds fun _ _ _ _ _ _ us hl => match us, hl with | [_, _, _], _ => rfl
  · exact W.mg_of X G y430
  · exact fun_mk (st := s_drawn) y435 y436 y437
  · exact y437
  · exact (fun_mk (st := s_drawn) y435 y436 y437).binds fun _ _ _ _ _ _ us hl => match us, hl with | [_], _ => rfl
  · exact W.mg_of X G y434
  · exact fun_mk (st := s_row) y439 y440 y441
  · exact y441
  · exact (fun_mk (st := s_row) y439 y440 y441).binds fun _ _ _ _ _ _ us hl => match us, hl with | [_, _, _], _ => rfl
  · exact W.mg_of X G y438
  · exact fun_mk (st := s_law) y443 y444 y445
  · exact y445
  · exact (fun_mk (st := s_law) y443 y444 y445).binds fun _ _ _ _ _ _ us hl => match us, hl with | [_], _ => rfl
  · exact W.mg_of X G y442
  · exact W.mg_none_of X G z_range
  · exact W.mg_none_of X G z_len
  · exact W.mg_none_of X G z_isinstance
  · exact W.mg_none_of X G z_int
  · exact W.mg_none_of X G z_bool
  · exact W.mg_none_of X G z_tuple
  · exact W.mg_none_of X G z_list
  · exact W.mg_none_of X G z_all
  · exact W.mg_none_of X G z_enumerate
  · exact W.mg_none_of X G z_dict
  · exact W.mg_none_of X G z_sum
  · exact W.mg_none_of X G z_zip
  · exact fun s u => .of_eq rfl
abbrev CX : CXT := CX0
def sg (c : Nat) : Str := ⟨#[c]⟩
def tx (w : List Nat) : Str := ⟨w.toArray⟩
structure Row where
  c : Nat
  d : Str
  w : List Nat
def deedL : List Str := ["stroke", "step", "left", "right", "rest"]
def rwD (r : Row) : Dt := .tup [.str (sg r.c), .str r.d, .str (tx r.w)]
def small (c : Nat) : Prop := 97 ≤ c ∧ c ≤ 122
structure RowsOk (rows : List Row) : Prop where
  pos : 0 < rows.length
  le : rows.length ≤ 6
  nd : (rows.map (·.c)).Nodup
  sm : ∀ r ∈ rows, small r.c
  dd : ∀ r ∈ rows, r.d ∈ deedL
  wp : ∀ r ∈ rows, 0 < r.w.length ∧ r.w.length ≤ 8
  wo : ∀ r ∈ rows, ∀ x ∈ r.w, x ∈ rows.map (·.c)
def dicD (rows : List Row) : List (Key × Dt) := rows.map fun r => (.inr (sg r.c), rwD r)
abbrev Rl := List Dt → Res → Prop
def wy (six : Bool) : Int := if six then 6 else 4
def Adr.pc (t : Adr) (six : Bool) : Addr := if six then t.C_Sixth else t.C_Quarter
def Adr.ruD (t : Adr) (six : Bool) (rows : List Row) : Dt := .obj t.C_Rules [("drawer", .obj (t.pc six) []), ("row_by_letter", .dic (dicD rows))]
theorem sg_inj {a b : Nat} (h : sg a = sg b) : a = b := by
  have := congrArg (fun s : Str => s.cps.toList) h
  simpa [sg] using this
theorem mem_sg {c : Nat} {L : List Nat} : sg c ∈ L.map sg ↔ c ∈ L := by
  constructor
  · intro h
    obtain ⟨x, hx, e⟩ := List.mem_map.mp h
    rw [← sg_inj e]; exact hx
  · exact fun h => List.mem_map.mpr ⟨c, h, rfl⟩
theorem le_a {c : Nat} (h : 97 ≤ c) : leS "a" (sg c) = true := by
  have e : ("a" : Str).cps.toList = [97] := rfl
  unfold leS
  rw [e]
  show (!decide ([c] < [97])) = true
  have : ¬ ([c] < [97]) := by
    intro z
    rcases List.cons_lt_cons_iff.mp z with z | ⟨_, z⟩
    · omega
    · exact absurd z (by simp)
  simp [this]
theorem le_z {c : Nat} (h : c ≤ 122) : leS (sg c) "z" = true := by
  have e : ("z" : Str).cps.toList = [122] := rfl
  unfold leS
  rw [e]
  show (!decide ([122] < [c])) = true
  have : ¬ ([122] < [c]) := by
    intro z
    rcases List.cons_lt_cons_iff.mp z with z | ⟨_, z⟩
    · omega
    · exact absurd z (by simp)
  simp [this]
theorem signs_tx (w : List Nat) : Sg.signs (tx w) = (w.map sg).map Dt.str := by
  unfold Sg.signs tx
  rw [List.map_map]; rfl
theorem len_tx (w : List Nat) : (tx w).length = w.length := by show w.toArray.size = w.length; simp
theorem ascii_tx {w : List Nat} (h : ∀ x ∈ w, x < 128) : asciiS (tx w) = true := by
  unfold asciiS tx
  rw [Array.all_eq_true_iff_forall_mem]
  intro x hx
  exact decide_eq_true (h x (by simpa using hx))
theorem valD_rows : ∀ {rows : List Row}, (rows.map (·.c)).Nodup → ∀ {r : Row}, r ∈ rows → valD (dicD rows) (.inr (sg r.c)) = some (rwD r)
  | [], _, r, h => by cases h
  | q :: rows, nd, r, h => by
    rw [List.map_cons, List.nodup_cons] at nd
    rcases List.mem_cons.mp h with rfl | h
    · exact valD_pos (p := (.inr (sg r.c), rwD r)) rfl
    · have ne : ¬ (Sum.inr (sg q.c) : Key) = .inr (sg r.c) := fun z => nd.1 (by
        rw [sg_inj (Sum.inr.inj z)]
        exact List.mem_map.mpr ⟨r, h, rfl⟩)
      show valD ((.inr (sg q.c), rwD q) :: dicD rows) _ = _
      rw [valD_neg (p := (.inr (sg q.c), rwD q)) ne]
      exact valD_rows nd.2 h
theorem szl {n : Nat} (h : n ≤ 2000) : n ≤ sizeLine := Nat.le_trans h (by decide)
def R_small : Rl := fun ds r => ∃ c, ds = [.str (sg c)] ∧ small c ∧ r = .ret (.bl true)
def R_over : Rl := fun ds r => ∃ (w L : List Nat), ds = [.str (tx w), .lst ((L.map sg).map .str)] ∧ (0 < w.length ∧ w.length ≤ 8) ∧ (∀ x ∈ w, x ∈ L) ∧ (∀ x ∈ L, small x) ∧ r = .ret (.bl true)
def R_check : Rl := fun ds r => ∃ rows, ds = [.lst (rows.map rwD)] ∧ RowsOk rows ∧ r = .ret .non
def scOver : Stmt → Scope
  | .Return (some (.BoolOp _ [_, .Call _ [.ListComp _ _ sc _] _ _] _)) _ => sc
  | _ => defScope (.Pass ⟨0, 0, 0, 0⟩)
abbrev bS_over : Scope := scOver ((defBody s_is_word_over).getD 0 (.Pass ⟨0, 0, 0, 0⟩))
theorem bk_over : chkBx bS_over (defScope s_is_word_over) n_is_word_over ["sign", "letters"] ["sign"] [1] = true := by decide +kernel
abbrev bS_firsts : Scope := sLc ((defBody s_check_rows).getD 2 (.Pass ⟨0, 0, 0, 0⟩))
theorem bk_firsts : chkBx bS_firsts (defScope s_check_rows) n_check_rows ["row"] ["row"] [] = true := by decide +kernel
abbrev bS_lets : Scope := sLc ((defBody s_check_rows).getD 3 (.Pass ⟨0, 0, 0, 0⟩))
theorem bk_lets : chkBx bS_lets (defScope s_check_rows) n_check_rows ["first"] ["first"] [] = true := by decide +kernel
theorem srcx_to {X : Cx} {G : Gr} {dl : List Slot} {zs zs' : List Dt} {wi : TI} (h : SrcX X G dl zs wi) (e : zs' = zs) : SrcX X G dl zs' wi := by subst e; exact h
section
variable {P : Program} {w : World} {K : PySem.W.Frag} {mg : Str → Option Value} {base : Heap} {t : Adr}
theorem ok_small (T : Txt K mg t) : GF P w K mg base CX 1 "is_small_letter" 1 R_small := by
  refine ⟨_, _, _, fnR T.F_is_small_letter sc_is_small_letter rfl fun cdv A outer s H E G ds r hr hl hR => ?_, T.m_is_small_letter, T.k_is_small_letter, T.b_is_small_letter⟩
  obtain ⟨c, rfl, ⟨h1, h2⟩, rfl⟩ := hR
  exact ⟨_, .rt _, es_one (es_ret (ee_and (u := true) (v := true) (ee_to (ee_eqI (ee_lenS T.z_len (ee_var 0 rfl) (szl (n := 1) (by decide))) ee_int) rfl) fun _ => (ee_and1 (ee_to (ee_leleS ee_str (ee_var 0 rfl) ee_str) (by rw [le_a h1, le_z h2]; rfl)))))⟩
theorem ok_over (T : Txt K mg t) : GF P w K mg base CX 1 "is_word_over" 2 R_over := by
  refine ⟨_, _, _, fnR T.F_is_word_over sc_is_word_over rfl fun cdv A outer s H E G ds r hr hl hR => ?_, T.m_is_word_over, T.k_is_word_over, T.b_is_word_over⟩
  obtain ⟨wd, L, rfl, ⟨h0, h8⟩, hw, hL, rfl⟩ := hR
  have hasc : asciiS (tx wd) = true := ascii_tx fun x hx => by have := hL x (hw x hx); unfold small at this; omega
  have hlen := len_tx wd
  have e1 : (decide ((1 : Int) ≤ ((tx wd).length : Nat)) && decide (((tx wd).length : Nat) ≤ (8 : Int))) = true := by
    rw [hlen, decide_eq_true (by omega), decide_eq_true (by omega)]; rfl
  have e2 : (((wd.filter fun _ => true).map fun x => Dt.bl (decide (sg x ∈ L.map sg)))) = ((List.replicate wd.length true).map Dt.bl) := by
    rw [List.filter_eq_self.mpr (fun _ _ => rfl)]
    refine List.ext_getElem (by simp) fun i h1 h2 => ?_
    simp only [List.getElem_map, List.getElem_replicate]
    have hi : i < wd.length := by simpa using h1
    rw [decide_eq_true (mem_sg.mpr (hw _ (List.getElem_mem hi)))]
  have e3 : (List.replicate wd.length true).all id = true := by simp
  have es : wd.map (fun x => Dt.str (sg x)) = Sg.signs (tx wd) := by rw [signs_tx, List.map_map]; rfl
  refine ⟨_, .rt _, es_one (es_ret (ee_and (u := true) (v := true) (ee_to (ee_leleI ee_int (ee_lenS T.z_len (ee_var 0 rfl) (szl (by omega))) (ee_glob (w := .int 8) T.g_MOST_IN_WORD ⟨_, rfl⟩ fun _ => .int 8)) (congrArg Dt.bl e1)) fun _ => (ee_and1 (ee_to (ee_all (bs := List.replicate wd.length true) T.z_all rfl (ee_to (ee_ol (eo_lcx wd (fun x => Dt.str (sg x)) (fun x => .bl (decide (sg x ∈ L.map sg))) (fun x => [.val (.str (sg x))]) (fun _ => true) rfl (bx_of bk_over) (pi_str (ee_var 0 rfl)) (pgb_name (bx_of bk_over) rfl) (srcx_to (srcx_str hasc) es) (fun a _ => tg_name) (.nil fun _ _ => rfl)
    (fun a ha _ C fp s' H' G' => ee_inL (ee_var 0 rfl) (ee_var 1 rfl)) (szl (by omega)))) (congrArg Dt.lst e2))) (congrArg Dt.bl e3)))))⟩
end
theorem reps_cutTo {k : Nat} {ds : List Dt} {K : PySem.W.Frag} {H : Hp} {vs : List V} (r : Reps K H vs ds) (hk : k ≤ ds.length) : Reps K H (cutV vs none (some (k : Int))) (ds.take k) := by
  unfold cutV
  rw [HT.sIx_none, HT.sIx_nat, List.drop_zero, r.length, Nat.min_eq_left hk, Nat.sub_zero]
  exact r.take k
theorem eo_upto {X : Cx} {G : Gr} {dl : List Slot} {a b : Expr} {ds : List Dt} {k : Nat} {pos p2 : Pos} (ha : EE X G dl a (.lst ds)) (hb : EE X G dl b (.int (k : Int))) (hk : k ≤ ds.length) : EO X G dl (.Subscript a (.Slice none (some b) none p2) pos) (.lst (ds.take k)) :=
  peI (pe_slice sl_list ha po_none (po_some hb)) fun st H Q ⟨Hf, S, kk⟩ => ⟨Hf, S, fun v Hf1 H1 g1 r1 => by
    cases r1 with
    | @lst q vs _ hq rp =>
      refine ⟨Hf1, S.grow g1, fun z Hf2 H2 g2 r2 => ?_⟩
      cases r2
      have g := g1.trans g2
      refine ⟨(k : Int), rfl, q, vs, rfl, .of (g2.big _ _ (g1.sub _ _ hq)), fun p hp => kk p Hf2 _ (g.trans (.allocO g.sub hp)) (g.big.free hp) (g.sub.free hp) ⟨_, upd_same, reps_cutTo (rp.mono g2.frz) hk⟩⟩⟩
theorem lst_of {L : List Dt} {L' : List Dt} (e : L = L') {X : Cx} {G : Gr} {dl : List Slot} {z : Expr} (h : EO X G dl z (.lst L)) : EE X G dl z (.lst L') := by subst e; exact ee_ol h
section
variable {P : Program} {w : World} {K : PySem.W.Frag} {mg : Str → Option Value} {base : Heap} {t : Adr}
theorem ok_check (T : Txt K mg t) : GF P w K mg base CX 2 "check_rows" 1 R_check := by
  refine ⟨_, _, _, fnR T.F_check_rows sc_check_rows rfl fun cdv A outer s H E G ds r hr hl hR => ?_, T.m_check_rows, T.k_check_rows, T.b_check_rows⟩
  obtain ⟨rows, rfl, ok, rfl⟩ := hR
  have h_small := ok_small (P := P) (w := w) (base := base) T
  have h_over := ok_over (P := P) (w := w) (base := base) T
  have nd := sc_check_rows.nd
  have hp := ok.pos
  have hl6 := ok.le
  let cs := rows.map (·.c)
  let lt : List Dt := (cs.map sg).map Dt.str
  have e0 : (decide ((((rows.map rwD).length : Nat) : Int) = 0)) = false := by rw [List.length_map]; exact decide_eq_false (by omega)
  have e1 : (decide ((6 : Int) < (((rows.map rwD).length : Nat) : Int))) = false := by rw [List.length_map]; exact decide_eq_false (by omega)
  have ef : ((rows.filter fun _ => true).map fun r => Dt.str (sg r.c)) = lt := by
    rw [List.filter_eq_self.mpr (fun _ _ => rfl)]
    show _ = ((rows.map (·.c)).map sg).map Dt.str
    rw [List.map_map, List.map_map]; rfl
  have ez : (rows.map fun r => Dt.str (sg r.c)) = lt := by
    show _ = ((rows.map (·.c)).map sg).map Dt.str
    rw [List.map_map, List.map_map]; rfl
  have hsz : rows.length ≤ sizeLine := szl (by omega)
  let S : Nat → List Slot := fun _ => [.val (.lst (rows.map rwD)), .val (.lst lt), .val (.lst lt), .unk, .unk, .unk]
  let xs := rows.map rwD
  have hxs : xs.length = rows.length := List.length_map ..
  refine ⟨.nx (S rows.length), .nx _, es_cons (es_if (u := false) (eb_to (eb_eqI (ee_lenL T.z_len (ee_var 0 rfl)) ee_int) e0) (fun h => nomatch h) (fun h => es_nil))
    (es_cons (es_if (u := false) (eb_to (eb_gt (ee_lenL T.z_len (ee_var 0 rfl)) (ee_glob (w := .int 6) T.g_MOST_ROWS ⟨_, rfl⟩ fun _ => .int 6)) e1) (fun h => nomatch h) (fun h => es_nil))
    (es_cons (es_lcx 1 rows rwD (fun r => Dt.str (sg r.c)) (fun r => [.val (rwD r)]) (fun _ => true) rfl nd (bx_of bk_firsts) (pi_list (ee_var 0 rfl)) (pgb_name (bx_of bk_firsts) rfl) srcx_list (fun a _ => tg_name) (.nil fun _ _ => rfl) (fun a ha _ C fp s' H' G' => ee_ixT (ee_var 0 rfl) ee_int rfl) hsz)
    ?r1))⟩
  rw [ef]
  refine es_frz 1 (w := .lst lt) (es_cons (es_lcx 2 rows (fun r => Dt.str (sg r.c)) (fun r => Dt.str (sg r.c)) (fun r => [.val (.str (sg r.c))]) (fun _ => true) rfl nd (bx_of bk_lets) (pi_list (ee_var 1 rfl)) (pgb_name (bx_of bk_lets) rfl) (srcx_to srcx_list ez) (fun a _ => tg_name)
    (.one fun a ha C fp s' H' G' => eb_of (ee_gf h_small nox0 hr (ea_cons (ee_var 0 rfl) ea_nil) ⟨a.c, rfl, ok.sm a ha, rfl⟩)) (fun a ha _ C fp s' H' G' => ee_var 0 rfl) hsz) ?r2)
  rw [ef]
  refine es_frz 2 (w := .lst lt) (es_one (es_forx (o := .nx (S rows.length)) (m := rows.length) (List.range xs.length) (fun (j : Nat) => .tup [.int j, xs.getD j .non]) (fun (j : Nat) dl => (dl.set 3 (.val (.int j))).set 4 (.val (xs.getD j .non))) S rfl PassesOwn.leaving
    (pi_enum rfl T.z_enumerate (ea_cons (ee_var 0 rfl) ea_nil)) (srcx_enum (xs := xs)) (pg_tup rfl (pgs_cons (pg_name nd rfl (.inl rfl)) (pgs_cons (pg_name nd rfl (.inl rfl)) pgs_nil))) (fun a _ => ts_pair) (Le.of ⟨rfl, rfl, rfl, trivial⟩) (by rw [List.length_range, hxs]; exact Nat.le_refl _) (fun j a hj ha => ?l) (by rw [List.length_range, hxs]; exact .all rfl)))
  rw [List.getElem?_range (by omega)] at ha
  cases ha
  have ex : xs.getD j .non = rwD rows[j] := by
    show (rows.map rwD).getD j .non = _
    rw [List.getD_eq_getElem?_getD, List.getElem?_map, List.getElem?_eq_getElem hj]; rfl
  have hm := List.getElem_mem hj
  have hcl : cs.length = rows.length := List.length_map ..
  have eT : lt.take j = ((cs.take j).map sg).map Dt.str := by
    show ((cs.map sg).map Dt.str).take j = _
    rw [← List.map_take, ← List.map_take]
  have hlt : lt.length = rows.length := by show ((cs.map sg).map Dt.str).length = _; rw [List.length_map, List.length_map, hcl]
  have hnin : sg rows[j].c ∉ (cs.take j).map sg := by
    intro z
    have z := mem_sg.mp z
    obtain ⟨i, hi, e⟩ := List.mem_iff_getElem.mp z
    rw [List.length_take] at hi
    rw [List.getElem_take] at e
    have h := List.pairwise_iff_getElem.mp ok.nd i j (by rw [List.length_map]; omega) (by rw [List.length_map]; exact hj) (by omega)
    exact h (e.trans (List.getElem_map (f := Row.c) (l := rows) (i := j) (h := by rw [List.length_map]; exact hj)).symm)
  have en : (!decide (sg rows[j].c ∈ (cs.take j).map sg)) = true := by rw [decide_eq_false hnin]; rfl
  have v4 : ∀ {X : Cx} {G : Gr} {dl : List Slot} {e : Expr}, EE X G dl e (xs.getD j .non) → EE X G dl e (.tup [.str (sg rows[j].c), .str rows[j].d, .str (tx rows[j].w)]) := fun h => by rw [ex] at h; exact h
  refine .nx (es_cons (es_set 5 nd (ee_and (u := true) (v := true) (ee_gf h_small nox0 hr (ea_cons (ee_ixT (v4 (ee_var 4 rfl)) ee_int rfl) ea_nil) ⟨_, rfl, ok.sm _ hm, rfl⟩) fun _ => (ee_and1 (ee_to (ee_ninL (xs := (cs.take j).map sg) (ee_ixT (v4 (ee_var 4 rfl)) ee_int rfl) (lst_of eT (eo_upto (ee_var 1 rfl) (ee_var 3 rfl) (by rw [hlt]; exact Nat.le_of_lt hj)))) (congrArg Dt.bl en)))))
    (es_one (es_if (u := false) (eb_not (u := true) (eb_w (ew_and (u := true) (v := true) (eb_of (ee_var 5 rfl)) fun _ => (ew_and (u := true) (v := true) (eb_to (eb_inT (xs := deedL) (ee_ixT (v4 (ee_var 4 rfl)) ee_int rfl) (ee_glob (w := .ref t.D_DEEDS) T.g_DEEDS rfl T.r_DEEDS)) (decide_eq_true (ok.dd _ hm))) fun _ => (ew_and1 (eb_of (ee_gf h_over nox0 hr (ea_cons (ee_ixT (v4 (ee_var 4 rfl)) ee_int rfl) (ea_cons (ee_var 2 rfl) ea_nil)) ⟨rows[j].w, cs, rfl, ok.wp _ hm, ok.wo _ hm, fun x hx => ?_, rfl⟩))))))) (fun h => nomatch h) (fun h => es_nil)))) (Le.of ⟨rfl, rfl, rfl, trivial⟩)
  obtain ⟨r, hr', rfl⟩ := List.mem_map.mp hx
  exact ok.sm r hr'
end
def R_pen_of (t : Adr) : Rl := fun ds r => ∃ six, ds = [.int (wy six)] ∧ r = .ret (.obj (t.pc six) [])
def R_rinit (t : Adr) : Rl := fun ds r => ∃ six rows, ds = [.int (wy six), .lst (rows.map rwD)] ∧ RowsOk rows ∧ r = .own (.obj t.C_Rules [("drawer", .obj (t.pc six) []), ("row_by_letter", .dic (dicD rows))])
def rr (r : Row) : Str × List Dt := (sg r.c, [.str r.d, .str (tx r.w)])
theorem rows_rr (rows : List Row) : rows.map rwD = (rows.map rr).map rowD := by rw [List.map_map]; rfl
theorem dic_rr (rows : List Row) : dicD rows = rowsD (rows.map rr) := by unfold rowsD dicD; rw [List.map_map]; rfl
theorem nd_rr {rows : List Row} (nd : (rows.map (·.c)).Nodup) : ((rows.map rr).map (·.1)).Nodup := by
  have e : (rows.map rr).map (·.1) = (rows.map (·.c)).map sg := by rw [List.map_map, List.map_map]; rfl
  rw [e]
  exact List.Pairwise.map sg (fun a b h z => h (sg_inj z)) nd
section
variable {P : Program} {w : World} {K : PySem.W.Frag} {mg : Str → Option Value} {base : Heap} {t : Adr}
theorem ok_pen_of (T : Txt K mg t) : GF P w K mg base CX 1 "pen_of" 1 (R_pen_of t) := by
  refine ⟨_, _, _, fnR T.F_pen_of sc_pen_of rfl fun cdv A outer s H E G ds r hr hl hR => ?_, T.m_pen_of, T.k_pen_of, T.b_pen_of⟩
  obtain ⟨six, rfl, rfl⟩ := hR
  cases six with
  | false => exact ⟨_, .rt _, es_stop (es_if (eb_eqI (ee_var 0 rfl) ee_int) (fun h => es_one (es_ret (ee_make0 T.mk_Quarter T.m_Quarter))) (fun h => absurd h (by decide)))⟩
  | true => exact ⟨_, .rt _, es_cons (es_if (eb_eqI (ee_var 0 rfl) ee_int) (fun h => absurd h (by decide)) (fun h => es_nil)) (es_stop (es_if (eb_eqI (ee_var 0 rfl) ee_int) (fun h => es_one (es_ret (ee_make0 T.mk_Sixth T.m_Sixth))) (fun h => absurd h (by decide))))⟩
theorem ok_rinit (T : Txt K mg t) : MkF P w K mg base CX 3 "Rules" t.C_Rules 3 (R_rinit t) := by
  refine ⟨_, _, _, fnI T.F_Rules_init sc_Rules_init rfl fun cdv A outer s H E G z ds r hr hl hR => ?_, T.mk_Rules, T.m_Rules, T.b_Rules_init⟩
  obtain ⟨six, rows, rfl, ok, rfl⟩ := hR
  have h_pen := ok_pen_of (P := P) (w := w) (base := base) T
  have h_check := ok_check (P := P) (w := w) (base := base) T
  have nd := sc_Rules_init.nd
  have hu : (A.deeper (envOfC "Rules.__init__" (defScope s_Rules_init) s.heap.objs.size t.f_Rules_init cdv)).units + 1 < cLine := by have := hr.units; omega
  rw [dic_rr, rows_rr]
  refine ⟨_, .nx ?fin, es_cons (es_set 3 nd (ee_gf h_pen nox0 hr (ea_cons (ee_var 1 rfl) ea_nil) ⟨six, rfl, rfl⟩))
    (es_cons (es_expr (ee_gf h_check nox0 hr (ea_cons (ee_var 2 rfl) ea_nil) ⟨rows, by rw [rows_rr], ok, rfl⟩))
    (es_cons (es_fld (ee_var 3 rfl) T.cl_Rules T.na_Rules_drawer)
    (ess_fill 2 4 (C := t.C_Rules) (rows := rows.map rr) (dlu := [.unk, .val (.int (wy six)), .val (.lst ((rows.map rr).map rowD)), .val (.obj (t.pc six) []), .unk]) hu nd rfl PassesOwn.leaving T.cl_Rules T.na_Rules_row_by_letter rfl rfl rfl rfl (by decide) (by decide) rfl (nd_rr ok.nd) (by rw [List.length_map]; exact Nat.lt_of_le_of_lt ok.le (by decide))
      (fun r => ee_ixT (ee_var 4 rfl) ee_int (atI_nat (j := 0) rfl)) (fun r => ee_tupT T.z_tuple (ee_var 4 rfl)))))⟩
  rfl
end
open PySem.Builtin.Str in
theorem slice_gen (x : Str) {a b : Nat} (hab : a ≤ b) (hb : b ≤ x.length) {l u : Option Int} (h : strSliceIndices l u 1 x.length = strSliceIndices (some (a : Int)) (some (b : Int)) 1 x.length) : Txt.slice x l u = ⟨((x.cps.toList.drop a).take (b - a)).toArray⟩ := by
  unfold Txt.slice
  rw [h, PySem.StrLaws.sliced_plain x hab hb]
  split
  · rename_i q
    rw [PySem.StrLaws.strSliceIndices_plain hab hb, List.length_map, List.length_range] at q
    have q : b - a = x.length := by simpa using q
    have ea : a = 0 := by omega
    have eb : b = x.length := by omega
    subst ea eb
    rw [List.drop_zero, Nat.sub_zero]
    have : x.cps.toList.take x.length = x.cps.toList := List.take_of_length_le (by simp [Str.length])
    rw [this]
  · rfl
open PySem.Builtin.Str in
theorem slice_to (L : List Nat) {k : Nat} (h : k ≤ L.length) : Txt.slice (tx L) none (some (k : Int)) = tx (L.take k) := by
  rw [slice_gen (tx L) (a := 0) (b := k) (Nat.zero_le _) (by rw [len_tx]; exact h)]
  · show (⟨(((L.toArray.toList).drop 0).take (k - 0)).toArray⟩ : Str) = _
    simp [tx]
  · simp [strSliceIndices]
    have e : max (0 : Int) (min 0 ((tx L).length : Int)) = 0 := by omega
    rw [e]
open PySem.Builtin.Str in
theorem slice_from (L : List Nat) {k : Nat} (h : k ≤ L.length) : Txt.slice (tx L) (some (k : Int)) none = tx (L.drop k) := by
  rw [slice_gen (tx L) (a := k) (b := (tx L).length) (by rw [len_tx]; exact h) (Nat.le_refl _)]
  · show (⟨(((L.toArray.toList).drop k).take ((tx L).length - k)).toArray⟩ : Str) = _
    rw [len_tx, List.toList_toArray, List.take_of_length_le (by rw [List.length_drop]; exact Nat.le_refl _)]
    rfl
  · simp [strSliceIndices]
    have e : max (0 : Int) (min (if ((tx L).length : Int) < 0 then ((tx L).length : Int) + (tx L).length else (tx L).length) ((tx L).length : Int)) = (tx L).length := by
      rw [if_neg (by omega)]; omega
    rw [e]
theorem cat_tx (a b : List Nat) : tx a ++ tx b = tx (a ++ b) := by
  show (⟨a.toArray ++ b.toArray⟩ : Str) = ⟨(a ++ b).toArray⟩
  simp
theorem at_tx (L : List Nat) {k : Nat} (h : k < L.length) : atI (tx L).cps.toList (k : Int) = some (L.getD k 0) := by
  show atI L.toArray.toList (k : Int) = _
  rw [List.toList_toArray]
  refine atI_nat ?_
  rw [List.getD_eq_getElem?_getD, List.getElem?_eq_getElem h]; rfl
section
variable {X : Cx} {G : Gr} {dl : List Slot} {a b e : Expr} {L M : List Nat} {k : Nat} {pos p p2 : Pos} {ns : List Int}
theorem ee_catT (ha : EE X G dl a (.str (tx L))) (hb : EE X G dl b (.str (tx M))) (h : L.length + M.length ≤ 2000) : EE X G dl (.BinOp a .Add b pos) (.str (tx (L ++ M))) :=
  ee_to (ee_cat ha hb (by rw [len_tx, len_tx]; exact szl h)) (by rw [cat_tx])
theorem ee_ixTx (ha : EE X G dl a (.str (tx L))) (hb : EE X G dl b (.int (k : Int))) (h : k < L.length) (hl : L.length ≤ 2000) (hs : PlainIx b := by intro _ _; rfl) : EE X G dl (.Subscript a b pos) (.str (tx [L.getD k 0])) :=
  ee_ixS ha hb (at_tx L h) (by rw [len_tx]; exact szl hl) hs
theorem ee_toTx (ha : EE X G dl a (.str (tx L))) (hb : EE X G dl b (.int (k : Int))) (h : k ≤ L.length) (hl : L.length ≤ 2000) : EE X G dl (.Subscript a (.Slice none (some b) none p2) pos) (.str (tx (L.take k))) :=
  ee_to (ee_slS ha ept_no (ept_int hb) (by rw [len_tx]; exact szl hl)) (by rw [slice_to L h])
theorem ee_fromTx (ha : EE X G dl a (.str (tx L))) (hb : EE X G dl b (.int (k : Int))) (h : k ≤ L.length) (hl : L.length ≤ 2000) : EE X G dl (.Subscript a (.Slice (some b) none none p2) pos) (.str (tx (L.drop k))) :=
  ee_to (ee_slS ha (ept_int hb) ept_no (by rw [len_tx]; exact szl hl)) (by rw [slice_from L h])
theorem ee_lenTx (hm : X.mg "len" = none) (ha : EE X G dl a (.str (tx L))) (hl : L.length ≤ 2000) (hg : Gl X "len" := by rfl) (he : starEach [a] X.env = [(false, eval a X.env)] := by rfl) : EE X G dl (.Call (.Name "len" p) [a] [] pos) (.int (L.length : Nat)) :=
  ee_to (ee_lenS hm ha (by rw [len_tx]; exact szl hl) hg he) (by rw [len_tx])
theorem ee_fromC (ha : EE X G dl a (.scr ns)) (hb : EE X G dl b (.int (k : Int))) : EE X G dl (.Subscript a (.Slice (some b) none none p2) pos) (.scr (ns.drop k)) :=
  peI (pe_slice sl_list ha (po_some hb) po_none) fun st H Q ⟨Hf, S, kk⟩ => ⟨Hf, S, fun v Hf1 H1 g1 r1 => by
    cases r1 with
    | @scr q _ hq =>
      refine ⟨Hf1, S.grow g1, fun z Hf2 H2 g2 r2 => ?_⟩
      cases r2
      have g := g1.trans g2
      refine ⟨(k : Int), rfl, q, _, rfl, (g1.sub.trans g2.big).seq hq, fun p hp => kk _ (upd Hf2 p _) _ (g.trans (.alloc g.sub hp)) (.scr ?_)⟩
      have e : cutV (ns.map V.int) (some (k : Int)) none = (ns.drop k).map V.int := by
        unfold cutV
        rw [HT.sIx_none, HT.sIx_nat, List.length_map, List.map_drop]
        by_cases h : k ≤ ns.length
        · rw [Nat.min_eq_left h]
          exact List.take_of_length_le (by rw [List.length_drop, List.length_map]; exact Nat.le_refl _)
        · rw [Nat.min_eq_right (by omega), List.drop_of_length_le (by rw [List.length_map]; exact Nat.le_refl _), List.drop_of_length_le (by rw [List.length_map]; omega)]; simp
      rw [← e]
      exact .of upd_same⟩
end
theorem fold_tx : ∀ (Ls : List (List Nat)) (a : List Nat), (Ls.map tx).foldl (fun acc p => acc ++ (("" : Str).cps) ++ p.cps) a.toArray = (a ++ Ls.flatten).toArray
  | [], a => by simp
  | l :: r, a => by
    have e : a.toArray ++ ("" : Str).cps ++ (tx l).cps = (a ++ l).toArray := by
      show a.toArray ++ (#[] : Array Nat) ++ l.toArray = _
      simp
    rw [List.map_cons, List.foldl_cons, e, fold_tx r, List.flatten_cons, List.append_assoc]
theorem join_tx (Ls : List (List Nat)) : Txt.join "" (Ls.map tx) = tx Ls.flatten := by
  cases Ls with
  | nil => rfl
  | cons l r =>
    show (⟨(r.map tx).foldl (fun acc p => acc ++ (("" : Str).cps) ++ p.cps) l.toArray⟩ : Str) = _
    rw [fold_tx, List.flatten_cons]; rfl
theorem ee_joinTx {X : Cx} {G : Gr} {dl : List Slot} {a e : Expr} {apos cpos : Pos} {Ls : List (List Nat)} (ha : EE X G dl a (.str "")) (he : EE X G dl e (.lst ((Ls.map tx).map .str))) (hw : Ls.flatten.length + Ls.length ≤ 100000) (hbase : attributeBase a "join" X.env (eval a X.env) = eval a X.env := by rfl)
    (hfew : ((backTo cpos (starEach [e] X.env)).all (fun x => !x.1) && (backToKw cpos (keywordEach [] X.env)).all (fun x => x.1.isSome) && decide ([e].length + ([] : List Keyword).length + (if ([] : List Keyword).isEmpty then 0 else 1) < 30)) = true := by rfl)
    (hline : (apos.endLine == cpos.line) = true := by rfl) (hst : starEach [e] X.env = (false, eval e X.env) :: starEach [] X.env := by rfl) : EE X G dl (.Call (.Attribute a "join" apos) [e] [] cpos) (.str (tx Ls.flatten)) := by
  have e1 : ((Ls.map tx).map (·.length)).sum = Ls.flatten.length := by
    rw [List.length_flatten, List.map_map]
    congr 1
  exact ee_to (ee_join ha he (joinOk_of_weight (by rw [e1, List.length_map]; omega) (by decide)) hbase hfew hline hst) (by rw [join_tx])
theorem flat_one : ∀ rows : List Row, (rows.map fun r => [r.c]).flatten = rows.map (·.c)
  | [] => rfl
  | a :: r => by rw [List.map_cons, List.flatten_cons, flat_one r]; rfl
def Adr.ruF (t : Adr) (six : Bool) (rows : List Row) : List (Str × Dt) := [("drawer", .obj (t.pc six) []), ("row_by_letter", .dic (dicD rows))]
def deedOf (rows : List Row) (x : Nat) : Str := ((rows.find? fun r => decide (r.c = x)).map (·.d)).getD ""
def wordOf (rows : List Row) (x : Nat) : List Nat := ((rows.find? fun r => decide (r.c = x)).map (·.w)).getD []
theorem find_row {rows : List Row} {x : Nat} (h : x ∈ rows.map (·.c)) : ∃ r ∈ rows, r.c = x ∧ deedOf rows x = r.d ∧ wordOf rows x = r.w := by
  obtain ⟨q, hq, e⟩ := List.mem_map.mp h
  cases f : rows.find? (fun r => decide (r.c = x)) with
  | none => exact absurd (decide_eq_true e) (by simpa using List.find?_eq_none.mp f q hq)
  | some r =>
    refine ⟨r, List.mem_of_find?_eq_some f, of_decide_eq_true (List.find?_some (p := fun r : Row => decide (r.c = x)) f), ?_, ?_⟩
    · unfold deedOf; rw [f]; rfl
    · unfold wordOf; rw [f]; rfl
def R_lettersM (t : Adr) : Rl := fun ds r => ∃ six rows, ds = [t.ruD six rows] ∧ RowsOk rows ∧ r = .ret (.str (tx (rows.map (·.c))))
def R_row_of (t : Adr) : Rl := fun ds r => ∃ six rows q, ds = [t.ruD six rows, .str (sg q.c)] ∧ RowsOk rows ∧ q ∈ rows ∧ r = .ret (rwD q)
def R_wordM (t : Adr) : Rl := fun ds r => ∃ six rows x, ds = [t.ruD six rows, .str (sg x)] ∧ RowsOk rows ∧ x ∈ rows.map (·.c) ∧ r = .ret (.str (tx (wordOf rows x)))
section
variable {P : Program} {w : World} {K : PySem.W.Frag} {mg : Str → Option Value} {base : Heap} {t : Adr}
theorem ok_row_of (T : Txt K mg t) : MF P w K mg base CX 1 t.C_Rules "row_of" 2 (R_row_of t) := by
  refine ⟨T.cl_Rules, _, _, _, fnR T.F_Rules_row_of sc_Rules_row_of rfl fun cdv A outer s H E G ds r hr hl hR => ?_, T.me_Rules_row_of_Rules, T.b_Rules_row_of⟩
  obtain ⟨six, rows, q, rfl, ok, hq, rfl⟩ := hR
  have hu : (A.deeper (envOfC "Rules.row_of" (defScope s_Rules_row_of) s.heap.objs.size t.f_Rules_row_of cdv)).units + 1 < cLine := by have := hr.units; omega
  have hv := valD_rows ok.nd hq
  exact ⟨_, .rt _, es_cons (es_if (u := false) (eb_to (eb_ninD hu (ee_var 1 rfl) (ee_fld (fs := t.ruF six rows) (ee_var 0 rfl) T.cl_Rules T.na_Rules_row_by_letter rfl)) (by rw [hv]; rfl)) (fun h => nomatch h) (fun h => es_nil))
    (es_one (es_ret (ee_dget hu (ee_fld (fs := t.ruF six rows) (ee_var 0 rfl) T.cl_Rules T.na_Rules_row_by_letter rfl) (ee_var 1 rfl) hv (fun _ _ => rfl))))⟩
theorem ok_wordM (T : Txt K mg t) : MF P w K mg base CX 2 t.C_Rules "word" 2 (R_wordM t) := by
  refine ⟨T.cl_Rules, _, _, _, fnR T.F_Rules_word sc_Rules_word rfl fun cdv A outer s H E G ds r hr hl hR => ?_, T.me_Rules_word_Rules, T.b_Rules_word⟩
  obtain ⟨six, rows, x, rfl, ok, hx, rfl⟩ := hR
  obtain ⟨q, hq, rfl, e1, e2⟩ := find_row hx
  have m := ok_row_of (P := P) (w := w) (base := base) T
  rw [e2]
  exact ⟨_, .rt _, es_one (es_ret (ee_ixT (ee_mf (fs := t.ruF six rows) (ee_var 0 rfl) m nox0 hr (ea_cons (ee_var 1 rfl) ea_nil) ⟨six, rows, q, rfl, ok, hq, rfl⟩) ee_int rfl))⟩
end
section
variable {P : Program} {w : World} {K : PySem.W.Frag} {mg : Str → Option Value} {base : Heap} {t : Adr}
theorem ok_lettersM (T : Txt K mg t) : MF P w K mg base CX 1 t.C_Rules "letters" 1 (R_lettersM t) := by
  refine ⟨T.cl_Rules, _, _, _, fnR T.F_Rules_letters sc_Rules_letters rfl fun cdv A outer s H E G ds r hr hl hR => ?_, T.me_Rules_letters_Rules, T.b_Rules_letters⟩
  obtain ⟨six, rows, rfl, ok, rfl⟩ := hR
  have h6 := ok.le
  have el : ((dicD rows).map fun kd => kD kd.1) = ((rows.map fun r => [r.c]).map tx).map Dt.str := by
    unfold dicD
    rw [List.map_map, List.map_map, List.map_map]; rfl
  have ef : (rows.map fun r => [r.c]).flatten = rows.map (·.c) := flat_one rows
  refine ⟨_, .rt _, es_one (es_ret (ee_to (ee_joinTx (Ls := rows.map fun r => [r.c]) ee_str (lst_of el (eo_listD T.z_list rfl (ee_fld (fs := t.ruF six rows) (ee_var 0 rfl) T.cl_Rules T.na_Rules_row_by_letter rfl))) (by rw [ef, List.length_map, List.length_map]; omega)) (by rw [ef])))⟩
end
def R_word_of (t : Adr) : Rl := fun ds r => ∃ (six : Bool) (rows : List Row) (w : List Nat) (m : Nat), ds = [t.ruD six rows, .str (tx w), .int (m : Nat)] ∧ RowsOk rows ∧ (∀ x ∈ w, x ∈ rows.map (·.c)) ∧ (0 < w.length ∧ w.length ≤ m ∧ m ≤ 1000) ∧ r = .ret (.str (tx w))
theorem map_sgF (w : List Nat) : w.map (fun x => Dt.str (sg x)) = Sg.signs (tx w) := by rw [signs_tx, List.map_map]; rfl
theorem asc_ofF {rows : List Row} (ok : RowsOk rows) {w : List Nat} (h : ∀ x ∈ w, x ∈ rows.map (·.c)) : asciiS (tx w) = true := ascii_tx fun x hx => by
  obtain ⟨r, hr, rfl⟩ := List.mem_map.mp (h x hx)
  have := ok.sm r hr
  unfold small at this; omega
section
variable {P : Program} {w : World} {K : PySem.W.Frag} {mg : Str → Option Value} {base : Heap} {t : Adr}
theorem fn_word_of (T : Txt K mg t) : FnOk P w K mg base CX 1 t.f_Rules_word_of t.d_Rules_word_of ["self", "text", "most"] (spR K 3 (R_word_of t)) := by
  refine fnG T.F_Rules_word_of sc_Rules_word_of rfl fun cdv A outer s H E G ds r hr hl hR => ?_
  obtain ⟨six, rows, wd, m, rfl, ok, hw, ⟨h0, hm, hm2⟩, rfl⟩ := hR
  have nd := sc_Rules_word_of.nd
  have hu : (A.deeper (envOfC "Rules.word_of" (defScope s_Rules_word_of) s.heap.objs.size t.f_Rules_word_of cdv)).units + 1 < cLine := by have := hr.units; omega
  have ne : ¬ tx wd = ("" : Str) := fun z => by
    have := congrArg Str.length z
    rw [len_tx] at this
    have e : ("" : Str).length = 0 := rfl
    omega
  let xs := Sg.signs (tx wd)
  have hxs : xs.length = wd.length := by show (Sg.signs (tx wd)).length = _; rw [signs_len, len_tx]
  let S : Nat → List Slot := fun _ => [.val (t.ruD six rows), .val (.str (tx wd)), .val (.int (m : Nat)), .unk, .unk]
  refine ⟨_, .rt _, es_cons (es_if (u := false) (eb_to (eb_eqS (ee_var 1 rfl) ee_str) (decide_eq_false ne)) (fun h => nomatch h) (fun h => es_nil))
    (es_cons (es_forx (o := .nx (S wd.length)) (m := wd.length) (List.range xs.length) (fun (j : Nat) => .tup [.int j, xs.getD j .non]) (fun (j : Nat) dl => (dl.set 3 (.val (.int j))).set 4 (.val (xs.getD j .non))) S rfl PassesOwn.leaving
      (pi_enumS rfl T.z_enumerate (ea_cons (ee_var 1 rfl) ea_nil)) (srcx_enumS (asc_ofF ok hw)) (pg_tup rfl (pgs_cons (pg_name nd rfl (.inl rfl)) (pgs_cons (pg_name nd rfl (.inl rfl)) pgs_nil))) (fun a _ => ts_pair) (Le.of ⟨rfl, rfl, rfl, trivial⟩) (by rw [List.length_range, hxs]; exact Nat.le_refl _) (fun j a hj ha => ?_) (by rw [List.length_range, hxs]; exact .all rfl))
    (es_one (es_ret (ee_var 1 rfl))))⟩
  rw [List.getElem?_range (by omega)] at ha
  cases ha
  have ex : xs.getD j .non = .str (sg wd[j]) := by
    show (Sg.signs (tx wd)).getD j .non = _
    rw [← map_sgF, List.getD_eq_getElem?_getD, List.getElem?_map, List.getElem?_eq_getElem hj]; rfl
  have v4 : ∀ {X : Cx} {G : Gr} {dl : List Slot} {e : Expr}, EE X G dl e (xs.getD j .non) → EE X G dl e (.str (sg wd[j])) := fun h => by rw [ex] at h; exact h
  obtain ⟨q, hq, hc, _, _⟩ := find_row (hw _ (List.getElem_mem hj))
  have hv := valD_rows ok.nd hq
  rw [hc] at hv
  exact .nx (es_one (es_if (u := false) (eb_w (ew_or (u := false) (v := false) (eb_to (eb_ge (ee_var 3 rfl) (ee_var 2 rfl)) (decide_eq_false (by omega))) fun _ => (ew_or1 (eb_to (eb_ninD hu (v4 (ee_var 4 rfl)) (ee_fld (fs := t.ruF six rows) (ee_var 0 rfl) T.cl_Rules T.na_Rules_row_by_letter rfl)) (by rw [hv]; rfl))))) (fun h => nomatch h) (fun h => es_nil))) (Le.of ⟨rfl, rfl, rfl, trivial⟩)
theorem rep8 {K : PySem.W.Frag} : ∀ H, Reps K H [.int 8] [.int 8] := fun _ => .cons (.int 8) .nil
theorem ok_word_of8 (T : Txt K mg t) : MFd P w K mg base CX 1 t.C_Rules "word_of" 3 [.int 8] (R_word_of t) := ⟨T.cl_Rules, _, _, _, _, [.int 8], fn_word_of T, T.me_Rules_word_of_Rules, T.bd_Rules_word_of, .cons ⟨_, rfl⟩ .nil, rep8⟩
end
open PySem.Builtin.Str PySem.StrLaws in
theorem occ_cnt (s : Str) (c limit : Nat) : ∀ (n i : Nat) (acc : Array Nat) (free : Nat), free ≤ i → acc.size + n ≤ limit → (forIn (List.range' i n) (acc, free) (occBody s ⟨#[c]⟩ s.length limit)).run.fst.size = acc.size + (List.range' i n).countP (fun j => decide (s.cps.toList[j]? = some c))
  | 0, i, acc, free, _, _ => by simp
  | n + 1, i, acc, free, hf, hl => by
    rw [List.range'_succ, List.forIn_cons, List.countP_cons]
    have hso := subAt_one s c i
    by_cases hc : s.cps.toList[i]? = some c
    · obtain ⟨h1, h2⟩ := hso.mpr hc
      have e : occBody s ⟨#[c]⟩ s.length limit i (acc, free) = pure (ForInStep.yield (acc.push i, i + (⟨#[c]⟩ : Str).length)) := by
        unfold occBody
        exact if_pos ⟨⟨⟨by show acc.size < limit; omega, hf⟩, h1⟩, h2⟩
      rw [e]
      show (forIn (List.range' (i + 1) n) (acc.push i, i + (⟨#[c]⟩ : Str).length) (occBody s ⟨#[c]⟩ s.length limit)).run.fst.size = _
      rw [occ_cnt s c limit n (i + 1) (acc.push i) _ (by show i + 1 ≤ i + 1; omega) (by rw [Array.size_push]; omega), Array.size_push, if_pos (decide_eq_true hc)]
      omega
    · have e : occBody s ⟨#[c]⟩ s.length limit i (acc, free) = pure (ForInStep.yield (acc, free)) := by
        unfold occBody
        exact if_neg fun h => hc (hso.mp ⟨h.1.2, h.2⟩)
      rw [e]
      show (forIn (List.range' (i + 1) n) (acc, free) (occBody s ⟨#[c]⟩ s.length limit)).run.fst.size = _
      rw [occ_cnt s c limit n (i + 1) acc free (by omega) (by omega), if_neg (by simpa using hc)]
      omega
theorem cnt_range (L : List Nat) (c : Nat) : (List.range' 0 (L.length + 1)).countP (fun j => decide (L[j]? = some c)) = L.count c := by
  rw [← List.range_eq_range', List.range_succ, List.countP_append]
  have e1 : (List.range L.length).map (fun j => L[j]?) = L.map some := by
    refine List.ext_getElem? fun i => ?_
    rw [List.getElem?_map, List.getElem?_map]
    by_cases h : i < L.length
    · rw [List.getElem?_range h]; simp [h]
    · rw [List.getElem?_eq_none (by simp; omega), List.getElem?_eq_none (by omega)]; rfl
  have e2 : (List.range L.length).countP (fun j => decide (L[j]? = some c)) = ((List.range L.length).map (fun j => L[j]?)).countP (fun o => decide (o = some c)) := by
    rw [List.countP_map]; rfl
  rw [e2, e1, List.countP_map]
  have e3 : ((fun o => decide (o = some c)) ∘ some) = fun x : Nat => x == c := by
    funext x
    by_cases h : x = c <;> simp [h]
  rw [e3]
  simp [List.count]
open PySem.Builtin.Str PySem.StrLaws in
theorem count_tx (w : List Nat) (x : Nat) : Txt.count (tx w) (sg x) = ((w.count x : Nat) : Int) := by
  unfold Txt.count
  have hl := len_tx w
  rw [occ_eq, Array.length_toList]
  show (((forIn (List.range' 0 ((tx w).length + 1 - 0)) (#[], 0) (occBody (tx w) ⟨#[x]⟩ (tx w).length ((tx w).length + 1))).run.fst.size : Nat) : Int) = _
  rw [occ_cnt (tx w) x _ _ 0 #[] 0 (Nat.le_refl _) (by simp)]
  have e : (tx w).cps.toList = w := by show w.toArray.toList = w; simp
  rw [e, hl, Nat.sub_zero, cnt_range]
  simp
def tal (L w : List Nat) : List (Key × Int) := L.map fun x => (.inr (sg x), ((w.count x : Nat) : Int))
theorem tal_keys (L w : List Nat) : (dI (tal L w)).map (·.1) = L.map fun x => (Sum.inr (sg x) : Key) := by
  unfold dI tal
  rw [List.map_map, List.map_map]; rfl
theorem key_nodup {L : List Nat} (h : L.Nodup) : (L.map fun x => (Sum.inr (sg x) : Key)).Nodup := by
  rw [List.nodup_iff_pairwise_ne, List.pairwise_map]
  exact (List.nodup_iff_pairwise_ne.mp h).imp fun hn e => hn (sg_inj (Sum.inr.inj e))
theorem tal_pr (L w : List Nat) : (L.map fun x => Dt.tup [.str (sg x), .int ((w.count x : Nat) : Int)]) = (dI (tal L w)).map prD := by
  unfold dI tal
  rw [List.map_map, List.map_map]; rfl
def R_tally (t : Adr) : Rl := fun ds r => ∃ six rows w, ds = [t.ruD six rows, .str (tx w)] ∧ RowsOk rows ∧ r = .own (.dic (dI (tal (rows.map (·.c)) w)))
abbrev scD7 : Stmt → Scope
  | .Return (some (.Call _ (.ListComp _ _ sc _ :: _) _ _)) _ => sc
  | _ => defScope (.Pass ⟨0, 0, 0, 0⟩)
abbrev bS_tally : Scope := scD7 ((defBody s_tally).getD 0 (.Pass ⟨0, 0, 0, 0⟩))
theorem bk_tally : chkBx bS_tally (defScope s_tally) n_tally ["letter", "word"] ["letter"] [1] = true := by decide +kernel
theorem map_sgL (w : List Nat) : w.map (fun x => Dt.str (sg x)) = Sg.signs (tx w) := by rw [signs_tx, List.map_map]; rfl
theorem asc_rows {rows : List Row} (ok : RowsOk rows) : asciiS (tx (rows.map (·.c))) = true := ascii_tx fun x hx => by
  obtain ⟨r, hr, rfl⟩ := List.mem_map.mp hx
  have := ok.sm r hr
  unfold small at this; omega
section
variable {P : Program} {w : World} {K : PySem.W.Frag} {mg : Str → Option Value} {base : Heap} {t : Adr}
theorem ok_tally (T : Txt K mg t) : GF P w K mg base CX 3 "tally" 2 (R_tally t) := by
  refine ⟨_, _, _, fnR T.F_tally sc_tally rfl fun cdv A outer s H E G ds r hr hl hR => ?_, T.m_tally, T.k_tally, T.b_tally⟩
  obtain ⟨six, rows, wd, rfl, ok, rfl⟩ := hR
  have m_letters := ok_lettersM (P := P) (w := w) (base := base) T
  have nd := sc_tally.nd
  have h6 := ok.le
  let L := rows.map (·.c)
  have e2 : ((L.filter fun _ => true).map fun x => Dt.tup [.str (sg x), .int ((wd.count x : Nat) : Int)]) = (dI (tal L wd)).map prD := by
    rw [List.filter_eq_self.mpr (fun _ _ => rfl)]
    exact tal_pr L wd
  refine ⟨_, .ro _, es_one (es_retO (eo_dictL T.z_dict rfl (lst_of e2 (eo_lcx L (fun x => Dt.str (sg x)) (fun x => .tup [.str (sg x), .int ((wd.count x : Nat) : Int)]) (fun x => [.val (.str (sg x))]) (fun _ => true) rfl (bx_of bk_tally) (pi_str (ee_mf0 (fs := t.ruF six rows) (ee_var 0 rfl) m_letters nox0 hr ⟨six, rows, rfl, ok, rfl⟩)) (pgb_name (bx_of bk_tally) rfl) (srcx_to (srcx_str (asc_rows ok)) (map_sgL L)) (fun a _ => tg_name) (.nil fun _ _ => rfl)
      (fun a ha _ C fp s' H' G' => ee_tup (ea_cons (ee_var 0 rfl) (ea_cons (ee_to (ee_countS (ee_var 1 rfl) (ee_var 0 rfl)) (congrArg Dt.int (count_tx wd a))) ea_nil)) (Nat.le_of_ble_eq_true rfl)) (szl (by show (rows.map (·.c)).length ≤ _; rw [List.length_map]; omega)))) ?_ ?_))⟩
  · rw [tal_keys]; exact key_nodup ok.nd
  · show ((tal (rows.map (·.c)) wd).map _).length ≤ _
    unfold tal
    rw [List.length_map, List.length_map, List.length_map]
    exact szl (by omega)
end
def cT (rows : List Row) : Nat → Nat → Nat → Int
  | 0, c, x => (([c].count x : Nat) : Int)
  | i + 1, c, x => ((wordOf rows c).map fun y => cT rows i y x).sum
def kc (L : List Nat) (T : Nat → Int) : List (Key × Int) := L.map fun x => (.inr (sg x), T x)
def lT (rows : List Row) (i c : Nat) : Int := ((rows.map (·.c)).map fun x => cT rows i c x).sum
def tabF (rows : List Row) (i : Nat) : List (Key × FD) := (rows.map (·.c)).map fun c => (.inr (sg c), .dic (kc (rows.map (·.c)) (cT rows i c)))
def tabG (rows : List Row) (i : Nat) : List (Key × FD) := (rows.map (·.c)).map fun c => (.inr (sg c), .int (lT rows i c))
theorem kc_vals (L : List Nat) (T : Nat → Int) : (kc L T).map (·.2) = L.map T := by unfold kc; rw [List.map_map]; rfl
theorem kc_keys (L : List Nat) (T : Nat → Int) : (dI (kc L T)).map (·.1) = L.map fun x => (Sum.inr (sg x) : Key) := by unfold dI kc; rw [List.map_map, List.map_map]; rfl
theorem kc_len (L : List Nat) (T : Nat → Int) : (dI (kc L T)).length = L.length := by unfold dI kc; rw [List.length_map, List.length_map]
def kd (L : List Nat) (D : Nat → Dt) : List (Key × Dt) := L.map fun x => (.inr (sg x), D x)
theorem valD_kd {D : Nat → Dt} : ∀ {L : List Nat} {x : Nat}, x ∈ L → valD (kd L D) (.inr (sg x)) = some (D x)
  | [], _, h => by cases h
  | y :: L, x, h => by
    by_cases e : y = x
    · subst e
      exact valD_pos (p := ((.inr (sg y) : Key), D y)) rfl
    · have ne : ¬ (Sum.inr (sg y) : Key) = .inr (sg x) := fun z => e (sg_inj (Sum.inr.inj z))
      have hx : x ∈ L := by
        rcases List.mem_cons.mp h with z | z
        · exact absurd z.symm e
        · exact z
      exact (valD_neg (p := ((.inr (sg y) : Key), D y)) ne).trans (valD_kd hx)
theorem dI_kc (L : List Nat) (T : Nat → Int) : dI (kc L T) = kd L fun x => .int (T x) := by unfold dI kc kd; rw [List.map_map]; rfl
theorem fdF (rows : List Row) (i : Nat) : fdL (tabF rows i) = kd (rows.map (·.c)) fun c => .dicK (dI (kc (rows.map (·.c)) (cT rows i c))) := by unfold fdL tabF kd; rw [List.map_map]; rfl
theorem fdG (rows : List Row) (i : Nat) : fdL (tabG rows i) = kd (rows.map (·.c)) fun c => .int (lT rows i c) := by unfold fdL tabG kd; rw [List.map_map]; rfl
theorem kd_keys (L : List Nat) (D : Nat → Dt) : (kd L D).map (·.1) = L.map fun x => (Sum.inr (sg x) : Key) := by unfold kd; rw [List.map_map]; rfl
theorem kd_pr (L : List Nat) (D : Nat → Dt) : (L.map fun x => Dt.tup [.str (sg x), D x]) = (kd L D).map prD := by unfold kd; rw [List.map_map]; rfl
theorem put_kd {L : List Nat} (nd : L.Nodup) {D : Nat → Dt} {j : Nat} (hj : j < L.length) : putKD (kd (L.take j) D) (.inr (sg L[j])) (D L[j]) = kd (L.take (j + 1)) D := by
  have hn : valD (kd (L.take j) D) (.inr (sg L[j])) = none := by
    refine valD_none fun kv hkv => ?_
    have : kv.1 ∈ (kd (L.take j) D).map (·.1) := List.mem_map.mpr ⟨kv, hkv, rfl⟩
    rw [kd_keys] at this
    obtain ⟨y, hy, e⟩ := List.mem_map.mp this
    intro z
    rw [← e] at z
    have z : y = L[j] := sg_inj (Sum.inr.inj z)
    obtain ⟨i, hi, e⟩ := List.mem_iff_getElem.mp hy
    rw [List.length_take] at hi
    rw [List.getElem_take] at e
    exact List.pairwise_iff_getElem.mp nd i j (by omega) hj (by omega) (e.trans z)
  unfold putKD
  rw [hn, if_neg (by simp)]
  unfold kd
  rw [List.take_add_one, List.getElem?_eq_getElem hj, List.map_append]; rfl
def kD2 (L : List Nat) (T : Nat → Int) : Dt := .dicK (dI (kc L T))
def R_summed : Rl := fun ds r => ∃ (L : List Nat) (ts : List (Nat → Int)), ds = [.lst (ts.map (kD2 L)), .str (tx L)] ∧ L.Nodup ∧ L.length ≤ 6 ∧ (∀ x ∈ L, x < 128) ∧ ts.length ≤ 1000 ∧ r = .own (.dic (dI (kc L fun x => (ts.map fun T => T x).sum)))
abbrev scRetC : Stmt → Scope
  | .Return (some (.Call _ (.ListComp _ _ sc _ :: _) _ _)) _ => sc
  | _ => defScope (.Pass ⟨0, 0, 0, 0⟩)
abbrev scIn2 : Stmt → Scope
  | .Return (some (.Call _ (.ListComp (.Tuple [_, .Call _ (.ListComp _ _ sc _ :: _) _ _] _ _) _ _ _ :: _) _ _)) _ => sc
  | _ => defScope (.Pass ⟨0, 0, 0, 0⟩)
abbrev bS_su : Scope := scRetC ((defBody s_summed).getD 0 (.Pass ⟨0, 0, 0, 0⟩))
abbrev bS_su2 : Scope := scIn2 ((defBody s_summed).getD 0 (.Pass ⟨0, 0, 0, 0⟩))
def envS (sc : Scope) : Env := { scope := sc, locals := 0, globals := 0, cells := [], qual := "", func := none, code := .none, frame := none, builtins := 0 }
abbrev rl_su : Scope := relabel bS_su (envS (defScope s_summed))
theorem bk_su : chkBc bS_su (defScope s_summed) n_summed ["letter", "tallies"] "letter" [0] = true := by decide +kernel
theorem bk_su2 : chkBx bS_su2 rl_su ["letter", "tallies"] ["counts", "letter"] ["counts"] [0] = true := by decide +kernel
section
variable {P : Program} {w : World} {K : PySem.W.Frag} {mg : Str → Option Value} {base : Heap} {t : Adr}
theorem ok_summed (T : Txt K mg t) : GF P w K mg base CX 2 "summed" 2 R_summed := by
  refine ⟨_, _, _, fnR T.F_summed sc_summed rfl fun cdv A outer s H E G ds r hr hl hR => ?_, T.m_summed, T.k_summed, T.b_summed⟩
  obtain ⟨L, ts, rfl, hnd, hL, h7, hts, rfl⟩ := hR
  have nd := sc_summed.nd
  have hu : (A.deeper (envOfC "summed" (defScope s_summed) s.heap.objs.size t.f_summed cdv)).units + 1 < cLine := by have := hr.units; omega
  let D : Nat → Dt := fun x => .int (ts.map fun T => T x).sum
  have e2 : ((L.filter fun _ => true).map fun x => Dt.tup [.str (sg x), D x]) = (dI (kc L fun x => (ts.map fun T => T x).sum)).map prD := by
    rw [List.filter_eq_self.mpr (fun _ _ => rfl), dI_kc]
    exact kd_pr L D
  refine ⟨_, .ro _, es_one (es_retO (eo_dictL T.z_dict rfl (lst_of e2 (eo_lcc L (fun x => Dt.str (sg x)) (fun x => .tup [.str (sg x), D x]) (fun x => [.val (.str (sg x))]) (fun _ => true) rfl (bc_of bk_su) (pi_str (ee_var 1 rfl)) (pgc_name (bc_of bk_su)) (srcx_to (srcx_str (ascii_tx h7)) (map_sgL L)) (fun a _ => tg_name) (.nil fun _ _ => rfl)
      (fun a ha _ c C fp s' H' G' => ?_) (szl (by omega)))) (by rw [kc_keys]; exact key_nodup hnd) (by rw [kc_len]; exact szl (by omega))))⟩
  have e3 : ((ts.filter fun _ => true).map fun T => Dt.int (T a)) = (ts.map fun T => T a).map Dt.int := by
    rw [List.filter_eq_self.mpr (fun _ _ => rfl), List.map_map]; rfl
  refine ee_tup (ea_cons (ee_var 0 rfl) (ea_cons (ee_sum T.z_sum rfl (lst_of e3 (eo_lcx ts (kD2 L) (fun T => Dt.int (T a)) (fun T => [.val (kD2 L T)]) (fun _ => true) rfl (bx_of bk_su2) (pi_list (ee_var 1 rfl)) (pgb_name (bx_of bk_su2) rfl) srcx_list (fun a _ => tg_name) (.nil fun _ _ => rfl)
    (fun T' hT' _ C2 fp2 s2 H2 G2 => ?_) (szl (by omega))))) ea_nil)) (Nat.le_of_ble_eq_true rfl)
  exact ee_dgetK hu (ee_var 0 rfl) (ee_var 1 rfl) (by rw [dI_kc]; exact valD_kd ha) (fun _ _ => rfl)
end
def Adr.grfs (t : Adr) (six : Bool) (rows : List Row) (w : List Nat) : List (Str × Dt) := [("rules", t.ruD six rows), ("seed", .str (tx w))]
def gsOf (rows : List Row) : List (Nat → List (Key × FD)) := [tabF rows, tabG rows]
abbrev Adr.groO (t : Adr) (six : Bool) (rows : List Row) (w : List Nat) (l : Addr) (ls : MLs) (n : Nat) : List (Str × Dt) := grF (t.grfs six rows w) ["tallies", "lengths"] l ls n
abbrev Adr.groY (t : Adr) (six : Bool) (rows : List Row) (w : List Nat) (l : Addr) (ls : MLs) (n : Nat) : List (Str × Dt) := grFY (t.grfs six rows w) ["tallies", "lengths"] l ls n
abbrev Adr.groD (t : Adr) (six : Bool) (rows : List Row) (w : List Nat) (n : Nat) : Dt := .gro t.C_Growth (t.grfs six rows w) (gsOf rows) ["tallies", "lengths"] n
structure GrOk (rows : List Row) (w : List Nat) : Prop where
  ok : RowsOk rows
  w0 : 0 < w.length
  w8 : w.length ≤ 8
  wm : ∀ x ∈ w, x ∈ rows.map (·.c)
theorem noSk_dic : ∀ rows : List Row, noSk (dicD rows) = true
  | [] => rfl
  | r :: rows => by
    show (noS (rwD r) && noSk (dicD rows)) = true
    rw [noSk_dic rows]; rfl
theorem noS_ru (t : Adr) (six : Bool) (rows : List Row) : noS (t.ruD six rows) = true := by
  show noSf [("drawer", .obj (t.pc six) []), ("row_by_letter", .dic (dicD rows))] = true
  show (true && (noSk (dicD rows) && true)) = true
  rw [noSk_dic]; rfl
theorem noS_grfs (t : Adr) (six : Bool) (rows : List Row) (w : List Nat) : noSf (t.grfs six rows w) = true := by
  show (noS (t.ruD six rows) && (true && true)) = true
  rw [noS_ru]; rfl
def R_ginit (t : Adr) : Rl := fun ds r => ∃ six rows w, ds = [t.ruD six rows, .str (tx w)] ∧ GrOk rows w ∧ r = .own (.objG t.C_Growth (t.grfs six rows w) (gsOf rows) ["tallies", "lengths"] 1)
abbrev scAsgL : Stmt → Scope
  | .Assign _ (.List [.Call _ (.ListComp _ _ sc _ :: _) _ _] _) _ => sc
  | _ => defScope (.Pass ⟨0, 0, 0, 0⟩)
abbrev bS_gi3 : Scope := scAsgL ((defBody s_Growth_init).getD 2 (.Pass ⟨0, 0, 0, 0⟩))
abbrev bS_gi4 : Scope := scAsgL ((defBody s_Growth_init).getD 3 (.Pass ⟨0, 0, 0, 0⟩))
theorem bk_gi3 : chkBx bS_gi3 (defScope s_Growth_init) n_Growth_init ["letter", "rules"] ["letter"] [1] = true := by decide +kernel
theorem bk_gi4 : chkBx bS_gi4 (defScope s_Growth_init) n_Growth_init ["letter"] ["letter"] [] = true := by decide +kernel
theorem sum_one : ∀ {L : List Nat} {c : Nat}, L.Nodup → c ∈ L → (L.map fun x => (([c].count x : Nat) : Int)).sum = 1
  | [], _, _, h => by cases h
  | y :: L, c, nd, h => by
    rw [List.nodup_cons] at nd
    rw [List.map_cons, List.sum_cons]
    by_cases e : c = y
    · subst e
      have z : (L.map fun x => (([c].count x : Nat) : Int)).sum = 0 := by
        have : ∀ x ∈ L, (([c].count x : Nat) : Int) = 0 := fun x hx => by
          have : ¬ c = x := fun z => nd.1 (z ▸ hx)
          simp [List.count_cons, this]
        rw [List.map_congr_left this]
        clear this nd h
        induction L with
        | nil => rfl
        | cons a r ih => rw [List.map_cons, List.sum_cons, ih]; rfl
      rw [z]
      simp
    · have hc : c ∈ L := by
        rcases List.mem_cons.mp h with z | z
        · exact absurd z e
        · exact z
      rw [sum_one nd.2 hc]
      simp [List.count_cons, e]
theorem lT_0 {rows : List Row} (ok : RowsOk rows) {c : Nat} (h : c ∈ rows.map (·.c)) : lT rows 0 c = 1 := sum_one ok.nd h
section
variable {P : Program} {w : World} {K : PySem.W.Frag} {mg : Str → Option Value} {base : Heap} {t : Adr}
theorem ok_ginit (T : Txt K mg t) : MkF P w K mg base CX 4 "Growth" t.C_Growth 3 (R_ginit t) := by
  refine ⟨_, _, _, fnI T.F_Growth_init sc_Growth_init rfl fun cdv A outer s H E G z ds r hr hl hR => ?_, T.mk_Growth, T.m_Growth, T.b_Growth_init⟩
  obtain ⟨six, rows, wd, rfl, ok, rfl⟩ := hR
  have m_letters := ok_lettersM (P := P) (w := w) (base := base) T
  have m_word_of := ok_word_of8 (P := P) (w := w) (base := base) T
  have h_tally := ok_tally (P := P) (w := w) (base := base) T
  have h6 := ok.ok.le
  let L := rows.map (·.c)
  have hL : L.length ≤ 6 := by show (rows.map (·.c)).length ≤ 6; rw [List.length_map]; exact h6
  have nd := sc_Growth_init.nd
  have e1 : ((L.filter fun _ => true).map fun x => Dt.tup [.str (sg x), kD2 L (cT rows 0 x)]) = (fdL (tabF rows 0)).map prD := by
    rw [List.filter_eq_self.mpr (fun _ _ => rfl), fdF]
    exact kd_pr L _
  have e2 : ((L.filter fun _ => true).map fun x => Dt.tup [.str (sg x), .int 1]) = (fdL (tabG rows 0)).map prD := by
    rw [List.filter_eq_self.mpr (fun _ _ => rfl), fdG, ← kd_pr]
    exact List.map_congr_left fun x hx => by rw [lT_0 ok.ok hx]
  refine ⟨_, .nxG (fs := t.grfs six rows wd) (gs := gsOf rows) (nm := ["tallies", "lengths"]) (n := 1) rfl, es_cons (es_fld (ee_var 1 rfl) T.cl_Growth T.na_Growth_rules) (es_cons (es_fld (ee_mfd (fs := t.ruF six rows) (ee_var 1 rfl) m_word_of nox0 hr (ea_cons (ee_var 2 rfl) ea_nil) ⟨six, rows, wd, 8, rfl, ok.ok, ok.wm, ⟨ok.w0, ok.w8, by decide⟩, rfl⟩) T.cl_Growth T.na_Growth_seed)
    (ess_memoInit (f := tabF rows) (g := tabG rows) rfl T.cl_Growth T.na_Growth_tallies T.na_Growth_lengths ?_ ?_))⟩
  · refine eo_dictL T.z_dict rfl (lst_of e1 (eo_lcx L (fun x => Dt.str (sg x)) (fun x => .tup [.str (sg x), kD2 L (cT rows 0 x)]) (fun x => [.val (.str (sg x))]) (fun _ => true) rfl (bx_of bk_gi3) (pi_str (ee_mf0 (fs := t.ruF six rows) (ee_var 1 rfl) m_letters nox0 hr ⟨six, rows, rfl, ok.ok, rfl⟩)) (pgb_name (bx_of bk_gi3) rfl) (srcx_to (srcx_str (asc_rows ok.ok)) (map_sgL L)) (fun a _ => tg_name) (.nil fun _ _ => rfl)
      (fun a ha _ C fp s' H' G' => ee_tup (ea_cons (ee_var 0 rfl) (ea_cons (ee_oK (eo_gf h_tally nox0 hr (ea_cons (ee_var 1 rfl) (ea_cons (ee_var 0 rfl) ea_nil)) ⟨six, rows, [a], rfl, ok.ok, rfl⟩)) ea_nil)) (Nat.le_of_ble_eq_true rfl)) (szl (by omega)))) (by rw [fdF, kd_keys]; exact key_nodup ok.ok.nd) (by rw [fdF]; show (List.map _ _).length ≤ _; rw [List.length_map, List.length_map]; exact szl (by omega))
  · refine eo_dictL T.z_dict rfl (lst_of e2 (eo_lcx L (fun x => Dt.str (sg x)) (fun x => .tup [.str (sg x), .int 1]) (fun x => [.val (.str (sg x))]) (fun _ => true) rfl (bx_of bk_gi4) (pi_str (ee_mf0 (fs := t.ruF six rows) (ee_var 1 rfl) m_letters nox0 hr ⟨six, rows, rfl, ok.ok, rfl⟩)) (pgb_name (bx_of bk_gi4) rfl) (srcx_to (srcx_str (asc_rows ok.ok)) (map_sgL L)) (fun a _ => tg_name) (.nil fun _ _ => rfl)
      (fun a ha _ C fp s' H' G' => ee_tup (ea_cons (ee_var 0 rfl) (ea_cons ee_int ea_nil)) (Nat.le_of_ble_eq_true rfl)) (szl (by omega)))) (by rw [fdG, kd_keys]; exact key_nodup ok.ok.nd) (by rw [fdG]; show (List.map _ _).length ≤ _; rw [List.length_map, List.length_map]; exact szl (by omega))
end
def R_deepen (t : Adr) : Rl := fun ds r => ∃ six rows w l ls n age, ds = [.obj t.C_Growth (t.groO six rows w l ls n), .int ((age : Nat) : Int)] ∧ GrOk rows w ∧ ls.map (·.2) = gsOf rows ∧ age ≤ 1000 ∧ r = .ret (.kno l ls (age + 1))
abbrev scWh : Stmt → List Stmt
  | .While _ b _ _ => b
  | _ => []
abbrev scForAsg : Stmt → Scope
  | .For _ _ [.Assign _ (.Call _ (.ListComp _ _ sc _ :: _) _ _) _] _ _ => sc
  | _ => defScope (.Pass ⟨0, 0, 0, 0⟩)
abbrev scExApp : Stmt → Scope
  | .Expr (.Call _ [.Call _ (.ListComp _ _ sc _ :: _) _ _] _ _) _ => sc
  | _ => defScope (.Pass ⟨0, 0, 0, 0⟩)
abbrev wB : List Stmt := scWh ((defBody s_Growth_deepen_to).getD 1 (.Pass ⟨0, 0, 0, 0⟩))
abbrev bS_d3 : Scope := scForAsg (wB.getD 2 (.Pass ⟨0, 0, 0, 0⟩))
abbrev bS_d5 : Scope := scExApp (wB.getD 4 (.Pass ⟨0, 0, 0, 0⟩))
theorem bk_d3 : chkBx bS_d3 (defScope s_Growth_deepen_to) n_Growth_deepen_to ["younger", "last"] ["younger"] [3] = true := by decide +kernel
theorem bk_d5 : chkBx bS_d5 (defScope s_Growth_deepen_to) n_Growth_deepen_to ["letter", "grown"] ["letter"] [4] = true := by decide +kernel
section
variable {P : Program} {w : World} {K : PySem.W.Frag} {mg : Str → Option Value} {base : Heap} {t : Adr}
theorem ok_deepen (T : Txt K mg t) : MF P w K mg base CX 4 t.C_Growth "deepen_to" 2 (R_deepen t) := by
  refine ⟨T.cl_Growth, _, _, _, fnR T.F_Growth_deepen_to sc_Growth_deepen_to rfl fun cdv A outer s H E G ds r hr hl hR => ?_, T.me_Growth_deepen_to_Growth, T.b_Growth_deepen_to⟩
  obtain ⟨six, rows, wd, l, ls, n, age, rfl, ok, hgs, hage, rfl⟩ := hR
  have m_letters := ok_lettersM (P := P) (w := w) (base := base) T
  have m_word := ok_wordM (P := P) (w := w) (base := base) T
  have h_summed := ok_summed (P := P) (w := w) (base := base) T
  have nd := sc_Growth_deepen_to.nd
  have h6 := ok.ok.le
  let L := rows.map (·.c)
  have hL : L.length ≤ 6 := by show (rows.map (·.c)).length ≤ 6; rw [List.length_map]; exact h6
  have h7 : ∀ x ∈ L, x < 128 := fun x hx => by
    obtain ⟨r, hr, rfl⟩ := List.mem_map.mp hx
    have := ok.ok.sm r hr
    unfold small at this; omega
  have hu : (A.deeper (envOfC "Growth.deepen_to" (defScope s_Growth_deepen_to) s.heap.objs.size t.f_Growth_deepen_to cdv)).units + 1 < cLine := by have := hr.units; omega
  have e2 : ls.length = 2 := by have := congrArg List.length hgs; simpa [gsOf] using this
  let tl : List Slot := [.val (.int ((age : Nat) : Int)), .val (.str (tx L)), .unk, .unk, .unk]
  refine ⟨_, comes_kno (by rw [e2]; exact Nat.le_refl 2), es_cons (dl1 := slF t.C_Growth (t.grfs six rows wd) ["tallies", "lengths"] l ls n tl) (es_set 2 nd (ee_mf0 (fs := t.ruF six rows) (ee_fld (fs := t.groO six rows wd l ls n) (ee_var 0 rfl) T.cl_Growth T.na_Growth_rules rfl) m_letters nox0 hr ⟨six, rows, rfl, ok.ok, rfl⟩))
    (es_one (es_whileM (age := age) PassesOwn.leaving (noS_grfs t six rows wd) rfl (by decide) (by omega) (fun N G hx => ?_) (fun N hN hNa G0 hA hB => ?_)))⟩
  · exact eb_to (eb_le (ee_lenM (N := N) T.z_len hx (ee_fld (fs := t.groY six rows wd l ls n) (ee_var 0 rfl) T.cl_Growth T.na_Growth_tallies rfl) (by rw [e2]; rfl)) (ee_var 1 rfl)) (decide_eq_decide.mpr (by omega))
  · let Dk : Nat → Dt := fun c => kD2 L (cT rows N c)
    let S : Nat → List Slot := fun k => [.val (.obj t.C_Growth (t.groY six rows wd l ls n)), .val (.int ((age : Nat) : Int)), .val (.str (tx L)), .val (.dicK (fdL (tabF rows (N - 1)))), .own (.dic (kd (L.take k) Dk)), .unk]
    have eS : S L.length = [.val (.obj t.C_Growth (t.groY six rows wd l ls n)), .val (.int ((age : Nat) : Int)), .val (.str (tx L)), .val (.dicK (fdL (tabF rows (N - 1)))), .own (.dic (fdL (tabF rows N))), .unk] := by
      show [_, _, _, _, Slot.own (.dic (kd (L.take L.length) Dk)), _] = _
      rw [List.take_length, fdF rows N]; rfl
    refine es_cons (es_set 3 nd (ee_lastM (f := tabF rows) (N := N) upd_same (ee_fld (fs := t.groY six rows wd l ls n) (ee_var 0 rfl) T.cl_Growth T.na_Growth_tallies rfl) (ee_neg ee_int) (by rw [hgs]; rfl) (by rw [e2]; rfl) hN)) (es_cons (es_setO 4 nd eo_dnew)
      (es_cons (dl1 := S L.length) (es_forx (o := .nx (S L.length)) (m := L.length) L (fun x => Dt.str (sg x)) (fun x dl => dl.set 5 (.val (.str (sg x)))) S rfl PassesOwn.leaving (pi_str (ee_var 2 rfl)) (srcx_to (srcx_str (ascii_tx h7)) (map_sgL L)) (pg_name nd rfl (.inl rfl)) (fun a _ => ts_name) (Le.of ⟨rfl, rfl, rfl, rfl, rfl, trivial⟩) (Nat.le_refl _) (fun k a hk ha => ?_) (.all rfl)) ?_))
    · rw [List.getElem?_eq_getElem hk] at ha
      cases ha
      have hm : L[k] ∈ L := List.getElem_mem hk
      obtain ⟨q, hq, hc, _, ew⟩ := find_row hm
      have hwp := ok.ok.wp q hq
      have hwo : ∀ y ∈ wordOf rows L[k], y ∈ L := fun y hy => ok.ok.wo q hq y (by rw [ew] at hy; exact hy)
      have hwl : (wordOf rows L[k]).length ≤ 8 := by rw [ew]; exact hwp.2
      have hkl : (kd (L.take k) Dk).length < sizeLine := by
        unfold kd
        rw [List.length_map, List.length_take]; exact Nat.lt_of_lt_of_le (show min k L.length < 2000 by omega) (by decide)
      have e3 : (((wordOf rows L[k]).filter fun _ => true).map fun y => kD2 L (cT rows (N - 1) y)) = ((wordOf rows L[k]).map fun y => cT rows (N - 1) y).map (kD2 L) := by
        rw [List.filter_eq_self.mpr (fun _ _ => rfl), List.map_map]; rfl
      have eN : N = (N - 1) + 1 := by omega
      have ed : Dk L[k] = .dicK (dI (kc L fun x => (((wordOf rows L[k]).map fun y => cT rows (N - 1) y).map fun T => T x).sum)) := by
        have e7 : (cT rows N L[k]) = fun x => (((wordOf rows L[k]).map fun y => cT rows (N - 1) y).map fun T => T x).sum := by
          funext x
          rw [List.map_map]
          obtain ⟨M, rfl⟩ : ∃ M, N = M + 1 := ⟨N - 1, eN⟩
          rfl
        show kD2 L (cT rows N L[k]) = _
        rw [e7]; rfl
      refine .nx (es_one (es_dput (kds := kd (L.take k) Dk) (d := Dk L[k]) 4 hu (by rw [ed]; exact ee_oK (eo_gf h_summed nox0 hr (ea_cons (lst_of e3 (eo_lcx (wordOf rows L[k]) (fun x => Dt.str (sg x)) (fun y => kD2 L (cT rows (N - 1) y)) (fun x => [.val (.str (sg x))]) (fun _ => true) rfl (bx_of bk_d3) (pi_str (ee_mf (fs := t.ruF six rows) (ee_fld (fs := t.groY six rows wd l ls n) (ee_var 0 rfl) T.cl_Growth T.na_Growth_rules rfl) m_word nox0 hr (ea_cons (ee_var 5 rfl) ea_nil) ⟨six, rows, L[k], rfl, ok.ok, hm, rfl⟩)) (pgb_name (bx_of bk_d3) rfl) (srcx_to (srcx_str (asc_ofF ok.ok hwo)) (map_sgL _)) (fun a _ => tg_name) (.nil fun _ _ => rfl)
        (fun y hy _ C fp s' H' G' => ee_dgetK hu (ee_var 1 rfl) (ee_var 0 rfl) (by rw [fdF]; exact valD_kd (hwo y hy)) (fun _ _ => rfl)) (szl (by omega)))) (ea_cons (ee_var 2 rfl) ea_nil)) ⟨L, _, rfl, ok.ok.nd, hL, h7, by rw [List.length_map]; omega, rfl⟩)) (ee_var 5 rfl) hkl)) (Le.of ⟨rfl, rfl, rfl, rfl, ?_, trivial⟩)
      show Slot.own (.dic (kd (L.take (k + 1)) Dk)) = Slot.own (.dic (putKD (kd (L.take k) Dk) (.inr (sg L[k])) (Dk L[k])))
      rw [put_kd ok.ok.nd hk]
    · rw [eS]
      refine ess_pre (dl1 := .val (.obj t.C_Growth (t.groY six rows wd l ls n)) :: tl.set 3 (.own (.dic (fdL (tabF rows N))))) (ess_append2 (f := tabF rows) (g := tabG rows) (tl := tl) 3 (noS_grfs t six rows wd) rfl rfl hgs (by omega) T.cl_Growth T.na_Growth_tallies T.na_Growth_lengths hA hB (fun G2 => ?_)) (Le.of ⟨rfl, rfl, rfl, rfl, trivial⟩)
      have e4 : ((L.filter fun _ => true).map fun x => Dt.tup [.str (sg x), .int (lT rows N x)]) = (fdL (tabG rows N)).map prD := by
        rw [List.filter_eq_self.mpr (fun _ _ => rfl), fdG]
        exact kd_pr L _
      exact eo_dictL T.z_dict rfl (lst_of e4 (eo_lcx L (fun x => Dt.str (sg x)) (fun x => .tup [.str (sg x), .int (lT rows N x)]) (fun x => [.val (.str (sg x))]) (fun _ => true) rfl (bx_of bk_d5) (pi_str (ee_var 2 rfl)) (pgb_name (bx_of bk_d5) rfl) (srcx_to (srcx_str (ascii_tx h7)) (map_sgL L)) (fun a _ => tg_name) (.nil fun _ _ => rfl)
        (fun a ha _ C fp s' H' G' => ee_tup (ea_cons (ee_var 0 rfl) (ea_cons (ee_to (ee_sumV (kds := kc L (cT rows N a)) T.z_sum rfl (ee_dgetK (d := kD2 L (cT rows N a)) hu (ee_var 1 rfl) (ee_var 0 rfl) (by rw [fdF]; exact valD_kd ha) (fun _ _ => rfl)) (.inl rfl)) (by rw [kc_vals]; rfl)) ea_nil)) (Nat.le_of_ble_eq_true rfl)) (szl (by omega)))) (by rw [fdG, kd_keys]; exact key_nodup ok.ok.nd) (by rw [fdG]; show (List.map _ _).length ≤ _; rw [List.length_map, List.length_map]; exact szl (by omega))
end
def R_cr : Rl := fun ds r => ∃ z f l : Int, ds = [.int z, .int f, .int l] ∧ f ≤ z ∧ z ≤ l ∧ r = .ret .non
def R_enter (t : Adr) : Rl := fun ds r => ∃ six rows w l ls n age, ds = [.obj t.C_Growth (t.groO six rows w l ls n), .int ((age : Nat) : Int)] ∧ GrOk rows w ∧ ls.map (·.2) = gsOf rows ∧ age ≤ 200 ∧ r = .ret (.kno l ls (age + 1))
def lnT (rows : List Row) (w : List Nat) (age : Nat) : Int := (w.map (lT rows age)).sum
def cnT (rows : List Row) (w : List Nat) (age : Nat) (x : Nat) : Int := (w.map fun c => cT rows age c x).sum
def R_glen (t : Adr) : Rl := fun ds r => ∃ six rows w l ls n age, ds = [.obj t.C_Growth (t.groO six rows w l ls n), .int ((age : Nat) : Int)] ∧ GrOk rows w ∧ ls.map (·.2) = gsOf rows ∧ age ≤ 200 ∧ r = .ret (.int (lnT rows w age))
def R_gcnt (t : Adr) : Rl := fun ds r => ∃ six rows w l ls n age, ds = [.obj t.C_Growth (t.groO six rows w l ls n), .int ((age : Nat) : Int)] ∧ GrOk rows w ∧ ls.map (·.2) = gsOf rows ∧ age ≤ 200 ∧ r = .own (.dic (dI (kc (rows.map (·.c)) (cnT rows w age))))
abbrev scRet1 : Stmt → Scope
  | .Return (some (.Call _ (.ListComp _ _ sc _ :: _) _ _)) _ => sc
  | _ => defScope (.Pass ⟨0, 0, 0, 0⟩)
abbrev bS_gl : Scope := scRet1 ((defBody s_Growth_length).getD 1 (.Pass ⟨0, 0, 0, 0⟩))
abbrev bS_gc : Scope := scRet1 ((defBody s_Growth_counts).getD 1 (.Pass ⟨0, 0, 0, 0⟩))
theorem bk_gl : chkBx bS_gl (defScope s_Growth_length) n_Growth_length ["letter", "self", "age"] ["letter"] [0, 1] = true := by decide +kernel
theorem bk_gc : chkBx bS_gc (defScope s_Growth_counts) n_Growth_counts ["letter", "self", "age"] ["letter"] [0, 1] = true := by decide +kernel
theorem GrOk.asc {rows : List Row} {w : List Nat} (ok : GrOk rows w) : asciiS (tx w) = true := asc_ofF ok.ok ok.wm
section
variable {P : Program} {w : World} {K : PySem.W.Frag} {mg : Str → Option Value} {base : Heap} {t : Adr}
theorem ok_cr (T : Txt K mg t) : GF P w K mg base CX 1 "check_round" 3 R_cr := by
  refine ⟨_, _, _, fnR T.F_check_round sc_check_round rfl fun cdv A outer s H E G ds r hr hl hR => ?_, T.m_check_round, T.k_check_round, T.b_check_round⟩
  obtain ⟨z, f, l, rfl, h1, h2, rfl⟩ := hR
  exact ⟨_, .nx _, es_one (es_if (u := false) (eb_w (ew_or (u := false) (v := false) (eb_to (eb_lt (ee_var 0 rfl) (ee_var 1 rfl)) (decide_eq_false (by omega))) fun _ => (ew_or1 (eb_to (eb_gt (ee_var 0 rfl) (ee_var 2 rfl)) (decide_eq_false (by omega)))))) (fun h => nomatch h) (fun h => es_nil))⟩
theorem ok_enter (T : Txt K mg t) : MF P w K mg base CX 5 t.C_Growth "enter" 2 (R_enter t) := by
  refine ⟨T.cl_Growth, _, _, _, fnR T.F_Growth_enter sc_Growth_enter rfl fun cdv A outer s H E G ds r hr hl hR => ?_, T.me_Growth_enter_Growth, T.b_Growth_enter⟩
  obtain ⟨six, rows, wd, l, ls, n, age, rfl, ok, hgs, hage, rfl⟩ := hR
  have h_cr := ok_cr (P := P) (w := w) (base := base) T
  have m_deep := ok_deepen (P := P) (w := w) (base := base) T
  have e2 : ls.length = 2 := by have := congrArg List.length hgs; simpa [gsOf] using this
  exact ⟨_, comes_kno (nm := ["tallies", "lengths"]) (by rw [e2]; exact Nat.le_refl 2), es_cons (es_expr (ee_gf h_cr nox0 hr (ea_cons (ee_var 1 rfl) (ea_cons ee_int (ea_cons (ee_glob (w := .int 200) T.g_LAST_ROUND ⟨_, rfl⟩ fun _ => .int 200) ea_nil))) ⟨_, _, _, rfl, by omega, by omega, rfl⟩))
    (es_one (es_learn (m := age + 1) (tl := [.val (.int ((age : Nat) : Int))]) (ee_mf (fs := t.groO six rows wd l ls n) (ee_var 0 rfl) m_deep nox0 hr (ea_cons (ee_var 1 rfl) ea_nil) ⟨six, rows, wd, l, ls, n, age, rfl, ok, hgs, by omega, rfl⟩)))⟩
theorem ok_glen (T : Txt K mg t) : MF P w K mg base CX 6 t.C_Growth "length" 2 (R_glen t) := by
  refine ⟨T.cl_Growth, _, _, _, fnR T.F_Growth_length sc_Growth_length rfl fun cdv A outer s H E G ds r hr hl hR => ?_, T.me_Growth_length_Growth, T.b_Growth_length⟩
  obtain ⟨six, rows, wd, l, ls, n, age, rfl, ok, hgs, hage, rfl⟩ := hR
  have m_ent := ok_enter (P := P) (w := w) (base := base) T
  have hu : (A.deeper (envOfC "Growth.length" (defScope s_Growth_length) s.heap.objs.size t.f_Growth_length cdv)).units + 1 < cLine := by have := hr.units; omega
  have w8 := ok.w8
  have e3 : ((wd.filter fun _ => true).map fun x => Dt.int (lT rows age x)) = (wd.map (lT rows age)).map Dt.int := by
    rw [List.filter_eq_self.mpr (fun _ _ => rfl), List.map_map]; rfl
  exact ⟨_, .rt _, es_cons (es_learn (m := age + 1) (tl := [.val (.int ((age : Nat) : Int))]) (ee_mf (fs := t.groO six rows wd l ls n) (ee_var 0 rfl) m_ent nox0 hr (ea_cons (ee_var 1 rfl) ea_nil) ⟨six, rows, wd, l, ls, n, age, rfl, ok, hgs, by omega, rfl⟩))
    (es_one (es_ret (ee_sum T.z_sum rfl (lst_of e3 (eo_lcx wd (fun x => Dt.str (sg x)) (fun x => Dt.int (lT rows age x)) (fun x => [.val (.str (sg x))]) (fun _ => true) rfl (bx_of bk_gl) (pi_str (ee_fld (fs := t.groO six rows wd l ls (age + 1)) (ee_var 0 rfl) T.cl_Growth T.na_Growth_seed rfl)) (pgb_name (bx_of bk_gl) rfl) (srcx_to (srcx_str ok.asc) (map_sgL wd)) (fun a _ => tg_name) (.nil fun _ _ => rfl)
      (fun a ha _ C fp s' H' G' => ee_dgetK hu (ee_ixM (n := age + 1) (j := 1) (f := tabG rows) (ee_fld (fs := t.groO six rows wd l ls (age + 1)) (ee_var 1 rfl) T.cl_Growth T.na_Growth_lengths rfl) (ee_var 2 rfl) (by rw [hgs]; rfl) (by omega) (by omega)) (ee_var 0 rfl) (by rw [fdG]; exact valD_kd (ok.wm a ha)) (fun _ _ => rfl)) (szl (by omega)))))))⟩
theorem ok_gcnt (T : Txt K mg t) : MF P w K mg base CX 6 t.C_Growth "counts" 2 (R_gcnt t) := by
  refine ⟨T.cl_Growth, _, _, _, fnR T.F_Growth_counts sc_Growth_counts rfl fun cdv A outer s H E G ds r hr hl hR => ?_, T.me_Growth_counts_Growth, T.b_Growth_counts⟩
  obtain ⟨six, rows, wd, l, ls, n, age, rfl, ok, hgs, hage, rfl⟩ := hR
  have m_ent := ok_enter (P := P) (w := w) (base := base) T
  have m_letters := ok_lettersM (P := P) (w := w) (base := base) T
  have h_summed := ok_summed (P := P) (w := w) (base := base) T
  have hu : (A.deeper (envOfC "Growth.counts" (defScope s_Growth_counts) s.heap.objs.size t.f_Growth_counts cdv)).units + 1 < cLine := by have := hr.units; omega
  have w8 := ok.w8
  have h6 := ok.ok.le
  let L := rows.map (·.c)
  have hL : L.length ≤ 6 := by show (rows.map (·.c)).length ≤ 6; rw [List.length_map]; exact h6
  have h7 : ∀ x ∈ L, x < 128 := fun x hx => by
    obtain ⟨r, hr, rfl⟩ := List.mem_map.mp hx
    have := ok.ok.sm r hr
    unfold small at this; omega
  have e3 : ((wd.filter fun _ => true).map fun x => kD2 L (cT rows age x)) = (wd.map fun c => cT rows age c).map (kD2 L) := by
    rw [List.filter_eq_self.mpr (fun _ _ => rfl), List.map_map]; rfl
  have e4 : (cnT rows wd age) = fun x => ((wd.map fun c => cT rows age c).map fun T => T x).sum := by
    funext x
    rw [List.map_map]; rfl
  exact ⟨_, .ro _, es_cons (es_learn (m := age + 1) (tl := [.val (.int ((age : Nat) : Int))]) (ee_mf (fs := t.groO six rows wd l ls n) (ee_var 0 rfl) m_ent nox0 hr (ea_cons (ee_var 1 rfl) ea_nil) ⟨six, rows, wd, l, ls, n, age, rfl, ok, hgs, by omega, rfl⟩))
    (es_one (es_retO (eo_gf h_summed nox0 hr (ea_cons (lst_of e3 (eo_lcx wd (fun x => Dt.str (sg x)) (fun x => kD2 L (cT rows age x)) (fun x => [.val (.str (sg x))]) (fun _ => true) rfl (bx_of bk_gc) (pi_str (ee_fld (fs := t.groO six rows wd l ls (age + 1)) (ee_var 0 rfl) T.cl_Growth T.na_Growth_seed rfl)) (pgb_name (bx_of bk_gc) rfl) (srcx_to (srcx_str ok.asc) (map_sgL wd)) (fun a _ => tg_name) (.nil fun _ _ => rfl)
      (fun a ha _ C fp s' H' G' => ee_dgetK hu (ee_ixM (n := age + 1) (j := 0) (f := tabF rows) (ee_fld (fs := t.groO six rows wd l ls (age + 1)) (ee_var 1 rfl) T.cl_Growth T.na_Growth_tallies rfl) (ee_var 2 rfl) (by rw [hgs]; rfl) (by omega) (by omega)) (ee_var 0 rfl) (by rw [fdF]; exact valD_kd (ok.wm a ha)) (fun _ _ => rfl)) (szl (by omega)))) (ea_cons (ee_mf0 (fs := t.ruF six rows) (ee_fld (fs := t.groO six rows wd l ls (age + 1)) (ee_var 0 rfl) T.cl_Growth T.na_Growth_rules rfl) m_letters nox0 hr ⟨six, rows, rfl, ok.ok, rfl⟩) ea_nil)) ⟨L, _, rfl, ok.ok.nd, hL, h7, by rw [List.length_map]; omega, by rw [e4]⟩)))⟩
end
def MM : Int := 2305843009213693951
def cellAt (ns : List Int) (k : Nat) : Int := ns.getD k 0 % 10 ^ 60 / MM * MM + (ns.getD k 0 + 7919 * ((k : Int) + 1)) * 6364136223846793005 % MM
theorem cellAt_nn (ns : List Int) (k : Nat) : 0 ≤ cellAt ns k := by
  have h1 := Int.emod_nonneg (ns.getD k 0) (show (10 : Int) ^ 60 ≠ 0 by decide)
  have h2 := Int.emod_nonneg ((ns.getD k 0 + 7919 * ((k : Int) + 1)) * 6364136223846793005) (show MM ≠ 0 by decide)
  have h3 : 0 ≤ ns.getD k 0 % 10 ^ 60 / MM := Int.ediv_nonneg h1 (by decide)
  unfold cellAt
  have h4 : 0 ≤ ns.getD k 0 % 10 ^ 60 / MM * MM := Int.mul_nonneg h3 (by decide)
  omega
theorem mulok {m n : Nat} {a b : Int} (ha : a.natAbs < 2 ^ m) (hb : b.natAbs < 2 ^ n) (h : m + n ≤ 134217728) : IntMulOk a b := IntMulOk.of_le (PySem.intBits_le_iff.mpr ha) (PySem.intBits_le_iff.mpr hb) h
def R_law : Rl := fun ds r => ∃ ns : List Int, ns.length ≤ 63 ∧ ds = [.scr ns] ∧ r = .ret (.bl true)
def spLaw (K : PySem.W.Frag) : Sp := spR K 1 R_law
theorem law_sp {K : PySem.W.Frag} {H : Hp} {a : Addr} {ns : List Int} (hl : ns.length ≤ 63) (hS : SqL K H a (ns.map V.int)) : spLaw K [.ref a] H (fun v _ => v = .bl true) fun _ _ _ => False :=
  ⟨H, [.scr ns], .ret (.bl true), Same.refl H, .cons (.scr hS) .nil, rfl, ⟨ns, hl, rfl, rfl⟩, fun v Hf' H' g r => by cases r; rfl⟩
def R_cell_at : Rl := fun ds r => ∃ (ns : List Int) (k : Nat), ds = [.scr ns, .int k] ∧ k ≤ 100 ∧ r = .ret (.int (cellAt ns k))
def R_whole : Rl := fun ds r => ∃ z, ds = [.int z] ∧ r = .ret (.bl true)
section
variable {P : Program} {w : World} {K : PySem.W.Frag} {mg : Str → Option Value} {base : Heap} {t : Adr}
theorem getD_scr (ns : List Int) (k : Nat) (h : k < ns.length) : atI ns (k : Int) = some (ns.getD k 0) := by
  refine atI_nat ?_
  rw [List.getD_eq_getElem?_getD, List.getElem?_eq_getElem h]; rfl
theorem ok_cell (T : Txt K mg t) : GF P w K mg base CX 1 "_law_cell" 2 R_cell_at := by
  refine ⟨_, _, _, fnR T.F_cell sc_cell rfl fun cdv A outer s H E G ds r hr hl hR => ?_, T.m_cell, T.k_cell, T.b_cell⟩
  obtain ⟨ns, k, rfl, hk, rfl⟩ := hR
  refine ⟨_, .rt _, es_cons (es_set 2 sc_cell.nd ee_int) (es_cons (dl1 := [.val (.scr ns), .val (.int k), .val (.int (ns.getD k 0)), .unk]) (es_if (eb_lt (ee_var 1 rfl) (ee_lenC T.z_len (ee_var 0 rfl))) (fun h => ?_) (fun h => ?_))
    (es_cons (es_set 3 sc_cell.nd (ee_mod (ee_mul (ee_add (ee_var 2 rfl) (ee_mul ee_int (ee_add (ee_var 1 rfl) ee_int) (CMul.ok (Or.inl ⟨by decide, by decide⟩)))) ee_int (CMul.ok (Or.inr ⟨by decide, by decide⟩))) ee_int (by decide)))
  (es_one (es_ret (ee_add (ee_mul (ee_fdiv (ee_mod (ee_var 2 rfl) (ee_pow ee_int ee_int ⟨by decide, by decide, by decide⟩) (by decide)) ee_int ⟨by decide, by decide +kernel⟩) ee_int (CMul.ok (Or.inr ⟨by decide, by decide⟩))) (ee_var 3 rfl))))))⟩
  · have h := of_decide_eq_true h
    exact es_one (es_set 2 sc_cell.nd (ee_ixC (ee_var 0 rfl) (ee_var 1 rfl) (getD_scr ns k (by omega))))
  · have h := of_decide_eq_false h
    have e : ns.getD k 0 = 0 := by rw [List.getD_eq_getElem?_getD, List.getElem?_eq_none (by omega)]; rfl
    rw [e]
    exact es_nil
theorem ok_whole (T : Txt K mg t) : GF P w K mg base CX 1 "_law_whole" 1 R_whole := by
  refine ⟨_, _, _, fnR T.F_whole sc_whole rfl fun cdv A outer s H E G ds r hr hl hR => ?_, T.m_whole, T.k_whole, T.b_whole⟩
  obtain ⟨z, rfl, rfl⟩ := hR
  exact ⟨_, .rt _, (es_one (es_ret (ee_and (u := true) (v := true) (ee_isi T.z_isinstance (ee_var 0 rfl) (ee_ty T.z_int Sg.boot_int) rfl trivial rfl) fun _ => (ee_and1 (ee_not (u := false) (ee_isi T.z_isinstance (ee_var 0 rfl) (ee_ty T.z_bool Sg.boot_bool) rfl trivial rfl))))))⟩
end
def abc : List Nat := (List.range 26).map (97 + ·)
structure LS where
  left : List Nat
  rest : Int
  out : List Nat
def ls (c : Int) : Nat → LS
  | 0 => ⟨abc, c / 6, []⟩
  | k + 1 => let s := ls c k; let at_ := (s.rest % (s.left.length : Nat)).toNat; ⟨s.left.take at_ ++ s.left.drop (at_ + 1), s.rest / (s.left.length : Nat), s.out ++ [s.left.getD at_ 0]⟩
def lat (s : LS) : Nat := (s.rest % (s.left.length : Nat)).toNat
structure LOk (k : Nat) (s : LS) : Prop where
  len : s.left.length + k = 26
  ol : s.out.length = k
  sm : ∀ x ∈ s.left, small x
  so : ∀ x ∈ s.out, small x
  nl : s.left.Nodup
  no : s.out.Nodup
  ap : ∀ x ∈ s.out, x ∉ s.left
theorem lat_lt {s : LS} (h : 0 < s.left.length) : lat s < s.left.length := by
  have h0 := Int.emod_nonneg s.rest (show ((s.left.length : Nat) : Int) ≠ 0 by omega)
  have h1 := Int.emod_lt_of_pos s.rest (show (0 : Int) < (s.left.length : Nat) by omega)
  unfold lat
  omega
theorem ls_ok (c : Int) : ∀ k, k ≤ 6 → LOk k (ls c k)
  | 0, _ => ⟨show abc.length + 0 = 26 by decide, rfl, fun x hx => by
      obtain ⟨i, hi, rfl⟩ := List.mem_map.mp (show x ∈ (List.range 26).map (97 + ·) from hx)
      have := List.mem_range.mp hi
      unfold small; omega, fun x h => absurd h (List.not_mem_nil), show abc.Nodup by decide, List.nodup_nil, fun x h => absurd h (List.not_mem_nil)⟩
  | k + 1, hk => by
    have ih := ls_ok c k (by omega)
    have hl := ih.len
    have hlt : lat (ls c k) < (ls c k).left.length := lat_lt (by omega)
    generalize hs : ls c k = s at ih hl hlt
    have e : ls c (k + 1) = ⟨s.left.take (lat s) ++ s.left.drop (lat s + 1), s.rest / (s.left.length : Nat), s.out ++ [s.left.getD (lat s) 0]⟩ := by rw [← hs]; rfl
    rw [e]
    have eg : s.left.getD (lat s) 0 = s.left[lat s] := by rw [List.getD_eq_getElem?_getD, List.getElem?_eq_getElem hlt]; rfl
    have sub : s.left.take (lat s) ++ s.left.drop (lat s + 1) = s.left.eraseIdx (lat s) := (List.eraseIdx_eq_take_drop_succ _ _).symm
    have mem : ∀ x ∈ s.left.take (lat s) ++ s.left.drop (lat s + 1), x ∈ s.left := fun x hx => by
      rcases List.mem_append.mp hx with h | h
      · exact List.mem_of_mem_take h
      · exact List.mem_of_mem_drop h
    have hin : s.left[lat s] ∈ s.left := List.getElem_mem hlt
    have nin : s.left[lat s] ∉ s.left.take (lat s) ++ s.left.drop (lat s + 1) := by
      have pw := List.pairwise_iff_getElem.mp ih.nl
      intro h
      rcases List.mem_append.mp h with h | h
      · obtain ⟨i, hi, e⟩ := List.mem_iff_getElem.mp h
        rw [List.length_take] at hi
        rw [List.getElem_take] at e
        exact pw i (lat s) (by omega) hlt (by omega) e
      · obtain ⟨i, hi, e⟩ := List.mem_iff_getElem.mp h
        rw [List.length_drop] at hi
        rw [List.getElem_drop] at e
        exact pw (lat s) (lat s + 1 + i) hlt (by omega) (by omega) e.symm
    refine ⟨?_, ?_, fun x hx => ih.sm x (mem x hx), fun x hx => ?_, ?_, ?_, fun x hx => ?_⟩
    · show (s.left.take (lat s) ++ s.left.drop (lat s + 1)).length + (k + 1) = 26
      rw [List.length_append, List.length_take, List.length_drop]; omega
    · show (s.out ++ [s.left.getD (lat s) 0]).length = k + 1
      rw [List.length_append, ih.ol]; rfl
    · rcases List.mem_append.mp hx with h | h
      · exact ih.so x h
      · have : x = s.left[lat s] := by rw [← eg]; simpa using h
        rw [this]; exact ih.sm _ hin
    · show (s.left.take (lat s) ++ s.left.drop (lat s + 1)).Nodup
      rw [sub]
      exact List.Nodup.sublist (List.eraseIdx_sublist _ _) ih.nl
    · show (s.out ++ [s.left.getD (lat s) 0]).Nodup
      rw [eg]
      refine List.nodup_append.mpr ⟨ih.no, by simp, fun a ha b hb z => ?_⟩
      have : b = s.left[lat s] := by simpa using hb
      subst z this
      exact ih.ap _ ha hin
    · rcases List.mem_append.mp hx with h | h
      · exact fun z => ih.ap x h (mem x z)
      · have : x = s.left[lat s] := by rw [← eg]; simpa using h
        rw [this]; exact nin
def lets (c : Int) : List Nat := (ls c (1 + c % 6).toNat).out
def R_letters : Rl := fun ds r => ∃ c, ds = [.int c] ∧ 0 ≤ c ∧ r = .ret (.str (tx (lets c)))
def ws (L : List Nat) (c m : Int) : Nat → Int × List Nat
  | 0 => (c / m, [])
  | k + 1 => let s := ws L c m k; (s.1 / (L.length : Nat), s.2 ++ [L.getD (s.1 % (L.length : Nat)).toNat 0])
def wordL (L : List Nat) (c m : Int) : List Nat := (ws L c m (1 + c % m).toNat).2
theorem ws_len (L : List Nat) (c m : Int) : ∀ k, (ws L c m k).2.length = k
  | 0 => rfl
  | k + 1 => by show ((ws L c m k).2 ++ [_]).length = _; rw [List.length_append, ws_len L c m k]; rfl
theorem ws_mem (L : List Nat) (hL : 0 < L.length) (c m : Int) : ∀ k, ∀ x ∈ (ws L c m k).2, x ∈ L
  | 0, x, h => by cases h
  | k + 1, x, h => by
    rcases List.mem_append.mp h with h | h
    · exact ws_mem L hL c m k x h
    · have h0 := Int.emod_nonneg (ws L c m k).1 (show ((L.length : Nat) : Int) ≠ 0 by omega)
      have h1 := Int.emod_lt_of_pos (ws L c m k).1 (show (0 : Int) < (L.length : Nat) by omega)
      have hlt : ((ws L c m k).1 % (L.length : Nat)).toNat < L.length := by omega
      have : x = L.getD ((ws L c m k).1 % (L.length : Nat)).toNat 0 := by simpa using h
      rw [this, List.getD_eq_getElem?_getD, List.getElem?_eq_getElem hlt]
      exact List.getElem_mem hlt
def R_word : Rl := fun ds r => ∃ (L : List Nat) (c m : Int), ds = [.int c, .str (tx L), .int m] ∧ (0 < L.length ∧ L.length ≤ 100) ∧ (0 ≤ c ∧ 0 < m ∧ m ≤ 500) ∧ r = .ret (.str (tx (wordL L c m)))
section
variable {P : Program} {w : World} {K : PySem.W.Frag} {mg : Str → Option Value} {base : Heap} {t : Adr}
theorem ok_letters (T : Txt K mg t) : GF P w K mg base CX 1 "_law_letters" 1 R_letters := by
  refine ⟨_, _, _, fnR T.F_letters sc_letters rfl fun cdv A outer s H E G ds r hr hl hR => ?_, T.m_letters, T.k_letters, T.b_letters⟩
  obtain ⟨c, rfl, hc, rfl⟩ := hR
  have nd := sc_letters.nd
  have h0 := Int.emod_nonneg c (show (6 : Int) ≠ 0 by decide)
  have h1 := Int.emod_lt_of_pos c (show (0 : Int) < 6 by decide)
  let S : Nat → List Slot := fun k => [.val (.int c), .val (.str (tx (ls c k).left)), .val (.int (ls c k).rest), .val (.str (tx (ls c k).out)), .unk, .unk]
  refine ⟨_, .rt _, es_cons (es_set 1 nd ee_str) (es_cons (es_set 2 nd (ee_fdiv (ee_var 0 rfl) ee_int ⟨by decide, by decide +kernel⟩)) (es_cons (es_set 3 nd ee_str)
    (es_cons (es_range1 (m := (1 + c % 6).toNat) 4 S nd rfl PassesOwn.leaving T.z_range (ea_cons (ee_add ee_int (ee_mod (ee_var 0 rfl) ee_int (by decide))) ea_nil) ⟨by omega, by omega⟩ (Le.of ⟨rfl, rfl, rfl, rfl, trivial⟩) (Nat.le_refl _) (fun k hk => ?_) (.all rfl)) (es_one (es_ret (ee_var 3 rfl))))))⟩
  have ok := ls_ok c k (by omega)
  have hl := ok.len
  have hol := ok.ol
  have hlt : lat (ls c k) < (ls c k).left.length := lat_lt (by omega)
  have ea : (ls c k).rest % (((ls c k).left.length : Nat) : Int) = ((lat (ls c k) : Nat) : Int) := by
    have h0 := Int.emod_nonneg (ls c k).rest (show (((ls c k).left.length : Nat) : Int) ≠ 0 by omega)
    unfold lat; omega
  have ea1 : ((lat (ls c k) : Nat) : Int) + 1 = ((lat (ls c k) + 1 : Nat) : Int) := by omega
  have hb : 0 < (((ls c k).left.length : Nat) : Int) ∧ (((ls c k).left.length : Nat) : Int).natAbs.log2 < 9000 := ⟨by omega, by
    have : (((ls c k).left.length : Nat) : Int).natAbs ≤ 26 := by omega
    exact Nat.lt_of_le_of_lt (Nat.log2_le_self _) (by omega)⟩
  exact .nx (es_cons (es_set 5 nd (ee_to (ee_mod (ee_var 2 rfl) (ee_lenTx T.z_len (ee_var 1 rfl) (by omega)) (by omega)) (congrArg Dt.int ea)))
    (es_cons (es_set 2 nd (ee_fdiv (ee_var 2 rfl) (ee_lenTx T.z_len (ee_var 1 rfl) (by omega)) hb))
    (es_cons (es_set 3 nd (ee_catT (ee_var 3 rfl) (ee_ixTx (ee_var 1 rfl) (ee_var 5 rfl) hlt (by omega)) (by rw [hol]; show k + 1 ≤ 2000; omega)))
    (es_one (es_set 1 nd (ee_catT (ee_toTx (ee_var 1 rfl) (ee_var 5 rfl) (Nat.le_of_lt hlt) (by omega)) (ee_fromTx (ee_var 1 rfl) (ee_to (ee_add (ee_var 5 rfl) ee_int) (congrArg Dt.int ea1)) hlt (by omega)) (by rw [List.length_take, List.length_drop]; omega))))))) (Le.of ⟨rfl, rfl, rfl, rfl, trivial⟩)
theorem ok_word (T : Txt K mg t) : GF P w K mg base CX 1 "_law_word" 3 R_word := by
  refine ⟨_, _, _, fnR T.F_word sc_word rfl fun cdv A outer s H E G ds r hr hl hR => ?_, T.m_word, T.k_word, T.b_word⟩
  obtain ⟨L, c, m, rfl, ⟨hL0, hL⟩, ⟨hc, hm0, hm⟩, rfl⟩ := hR
  have nd := sc_word.nd
  have h0 := Int.emod_nonneg c (show m ≠ 0 by omega)
  have h1 := Int.emod_lt_of_pos c hm0
  have hmb : 0 < m ∧ m.natAbs.log2 < 9000 := ⟨hm0, Nat.lt_of_le_of_lt (Nat.log2_le_self _) (by omega)⟩
  have hLb : 0 < ((L.length : Nat) : Int) ∧ ((L.length : Nat) : Int).natAbs.log2 < 9000 := ⟨by omega, Nat.lt_of_le_of_lt (Nat.log2_le_self _) (by omega)⟩
  let S : Nat → List Slot := fun k => [.val (.int c), .val (.str (tx L)), .val (.int m), .val (.int (ws L c m k).1), .val (.str (tx (ws L c m k).2)), .unk]
  refine ⟨_, .rt _, es_cons (es_set 3 nd (ee_fdiv (ee_var 0 rfl) (ee_var 2 rfl) hmb)) (es_cons (es_set 4 nd ee_str)
    (es_cons (es_range1 (m := (1 + c % m).toNat) 5 S nd rfl PassesOwn.leaving T.z_range (ea_cons (ee_add ee_int (ee_mod (ee_var 0 rfl) (ee_var 2 rfl) hm0)) ea_nil) ⟨by omega, by omega⟩ (Le.of ⟨rfl, rfl, rfl, rfl, rfl, trivial⟩) (Nat.le_refl _) (fun k hk => ?_) (.all rfl)) (es_one (es_ret (ee_var 4 rfl)))))⟩
  have hwl := ws_len L c m k
  have h2 := Int.emod_nonneg (ws L c m k).1 (show ((L.length : Nat) : Int) ≠ 0 by omega)
  have h3 := Int.emod_lt_of_pos (ws L c m k).1 (show (0 : Int) < (L.length : Nat) by omega)
  have ea : (ws L c m k).1 % ((L.length : Nat) : Int) = ((((ws L c m k).1 % (L.length : Nat)).toNat : Nat) : Int) := by omega
  exact .nx (es_cons (es_set 4 nd (ee_catT (ee_var 4 rfl) (ee_ixTx (ee_var 1 rfl) (ee_to (ee_mod (ee_var 3 rfl) (ee_lenTx T.z_len (ee_var 1 rfl) (by omega)) (by omega)) (congrArg Dt.int ea)) (by omega) (by omega)) (by rw [hwl]; show k + 1 ≤ 2000; omega)))
    (es_one (es_set 3 nd (ee_fdiv (ee_var 3 rfl) (ee_lenTx T.z_len (ee_var 1 rfl) (by omega)) hLb)))) (Le.of ⟨rfl, rfl, rfl, rfl, rfl, trivial⟩)
end
def dAt (c : Int) : Str := deedL.getD (c % 5).toNat ""
theorem dAt_mem (c : Int) : dAt c ∈ deedL := by
  have h0 := Int.emod_nonneg c (show (5 : Int) ≠ 0 by decide)
  have h1 := Int.emod_lt_of_pos c (show (0 : Int) < 5 by decide)
  have hk : (c % 5).toNat < deedL.length := by show _ < 5; omega
  unfold dAt
  rw [List.getD_eq_getElem?_getD, List.getElem?_eq_getElem hk]
  exact List.getElem_mem hk
theorem at_getD {L : List Str} {i : Int} {n : Nat} (hn : L.length = n) (h0 : 0 ≤ i) (h1 : i < n) : atI (L.map Dt.str) i = some (.str (L.getD i.toNat "")) := by
  have e : i = ((i.toNat : Nat) : Int) := by omega
  rw [e]
  have hk : i.toNat < L.length := by omega
  refine (atI_nat (j := i.toNat) ?_).trans rfl
  rw [List.getElem?_map, List.getElem?_eq_getElem hk, List.getD_eq_getElem?_getD]
  show some (Dt.str L[i.toNat]) = some (Dt.str ((L[(i.toNat : Int).toNat]?).getD ""))
  rw [Int.toNat_natCast, List.getElem?_eq_getElem hk]; rfl
def rowAt (L : List Nat) (ns : List Int) (m : Int) (k : Nat) : Row := ⟨L.getD k 0, dAt (cellAt ns k), wordL L (cellAt ns k / 5) m⟩
def rowsOf (L : List Nat) (ns : List Int) (m : Int) : List Row := (List.range L.length).map (rowAt L ns m)
theorem map_c (L : List Nat) (ns : List Int) (m : Int) : (rowsOf L ns m).map (·.c) = L := by
  unfold rowsOf
  rw [List.map_map]
  refine List.ext_getElem (by simp) fun i h1 h2 => ?_
  simp only [List.getElem_map, List.getElem_range, Function.comp]
  show L.getD i 0 = L[i]
  rw [List.getD_eq_getElem?_getD, List.getElem?_eq_getElem h2]; rfl
theorem lets_ok (c : Int) : 0 < (lets c).length ∧ (lets c).length ≤ 6 ∧ (lets c).Nodup ∧ ∀ x ∈ lets c, small x := by
  have h0 := Int.emod_nonneg c (show (6 : Int) ≠ 0 by decide)
  have h1 := Int.emod_lt_of_pos c (show (0 : Int) < 6 by decide)
  have ok := ls_ok c (1 + c % 6).toNat (by omega)
  have := ok.ol
  refine ⟨?_, ?_, ok.no, ok.so⟩
  · show 0 < (ls c (1 + c % 6).toNat).out.length; omega
  · show (ls c (1 + c % 6).toNat).out.length ≤ 6; omega
theorem word_ok {L : List Nat} (hL : 0 < L.length) (c m : Int) (hm : 0 < m) : 0 < (wordL L c m).length ∧ (wordL L c m).length ≤ m.toNat ∧ ∀ x ∈ wordL L c m, x ∈ L := by
  have h0 := Int.emod_nonneg c (show m ≠ 0 by omega)
  have h1 := Int.emod_lt_of_pos c hm
  have hl := ws_len L c m (1 + c % m).toNat
  refine ⟨?_, ?_, ws_mem L hL c m _⟩
  · show 0 < (ws L c m (1 + c % m).toNat).2.length; omega
  · show (ws L c m (1 + c % m).toNat).2.length ≤ _; omega
theorem rows_ok {L : List Nat} (ns : List Int) {m : Int} (hm : 0 < m ∧ m ≤ 8) (h0 : 0 < L.length) (h6 : L.length ≤ 6) (nd : L.Nodup) (sm : ∀ x ∈ L, small x) : RowsOk (rowsOf L ns m) := by
  have hl : (rowsOf L ns m).length = L.length := by unfold rowsOf; rw [List.length_map, List.length_range]
  have get : ∀ r ∈ rowsOf L ns m, ∃ k, k < L.length ∧ r = rowAt L ns m k := fun r hr => by
    obtain ⟨k, hk, e⟩ := List.mem_map.mp hr
    exact ⟨k, List.mem_range.mp hk, e.symm⟩
  refine ⟨by omega, by omega, by rw [map_c]; exact nd, fun r hr => ?_, fun r hr => ?_, fun r hr => ?_, fun r hr x hx => ?_⟩
  · obtain ⟨k, hk, rfl⟩ := get r hr
    refine sm _ ?_
    show L.getD k 0 ∈ L
    rw [List.getD_eq_getElem?_getD, List.getElem?_eq_getElem hk]
    exact List.getElem_mem hk
  · obtain ⟨k, hk, rfl⟩ := get r hr
    exact dAt_mem _
  · obtain ⟨k, hk, rfl⟩ := get r hr
    have := word_ok h0 (cellAt ns k / 5) m hm.1
    exact ⟨this.1, Nat.le_trans this.2.1 (by omega)⟩
  · obtain ⟨k, hk, rfl⟩ := get r hr
    rw [map_c]
    exact (word_ok h0 (cellAt ns k / 5) m hm.1).2.2 x hx
def R_rows : Rl := fun ds r => ∃ (L : List Nat) (ns : List Int) (m : Int), ds = [.str (tx L), .scr ns, .int m] ∧ (0 < L.length ∧ L.length ≤ 6) ∧ (0 < m ∧ m ≤ 8) ∧ r = .own (.lst ((rowsOf L ns m).map rwD))
def sixOf (ns : List Int) : Bool := decide (cellAt ns 0 % 2 = 1)
theorem six_wy (ns : List Int) : 4 + 2 * (cellAt ns 0 % 2) = wy (sixOf ns) := by
  have : cellAt ns 0 % 2 = 0 ∨ cellAt ns 0 % 2 = 1 := by omega
  unfold sixOf
  rcases this with h | h <;> rw [h] <;> rfl
section
variable {P : Program} {w : World} {K : PySem.W.Frag} {mg : Str → Option Value} {base : Heap} {t : Adr}
theorem ok_rows (T : Txt K mg t) : GF P w K mg base CX 2 "_law_rows" 3 R_rows := by
  refine ⟨_, _, _, fnR T.F_rows sc_rows rfl fun cdv A outer s H E G ds r hr hl hR => ?_, T.m_rows, T.k_rows, T.b_rows⟩
  obtain ⟨L, ns, m, rfl, ⟨hL0, hL6⟩, ⟨hm0, hm8⟩, rfl⟩ := hR
  have nd := sc_rows.nd
  have h_cell := ok_cell (P := P) (w := w) (base := base) T
  have h_word := ok_word (P := P) (w := w) (base := base) T
  let S : Nat → List Slot := fun k => [.val (.str (tx L)), .val (.scr ns), .val (.int m), .own (.lst (((List.range k).map (rowAt L ns m)).map rwD)), .unk, .unk, .unk]
  refine ⟨_, .ro _, es_cons (es_setO 3 nd (eo_lst ea_nil (Nat.le_of_ble_eq_true rfl))) (es_cons (es_range1 (o := .nx (S L.length)) (m := L.length) 4 S nd rfl PassesOwn.leaving T.z_range (ea_cons (ee_lenTx T.z_len (ee_var 0 rfl) (by omega)) ea_nil) ⟨by omega, by omega⟩ (Le.of ⟨rfl, rfl, rfl, rfl, trivial⟩) (by omega) (fun k hk => ?_) (by rw [Int.toNat_natCast]; exact .all rfl))
    (es_one (es_retV 3)))⟩
  have h0 := Int.emod_nonneg (cellAt ns k) (show (5 : Int) ≠ 0 by decide)
  have h1 := Int.emod_lt_of_pos (cellAt ns k) (show (0 : Int) < 5 by decide)
  have hnn := cellAt_nn ns k
  have e : ((List.range (k + 1)).map (rowAt L ns m)).map rwD = ((List.range k).map (rowAt L ns m)).map rwD ++ [rwD (rowAt L ns m k)] := by
    rw [List.range_succ, List.map_append, List.map_append]; rfl
  refine .nx (es_cons (es_set 5 nd (ee_gf h_cell nox0 hr (ea_cons (ee_var 1 rfl) (ea_cons (ee_var 4 rfl) ea_nil)) ⟨ns, k, rfl, by omega, rfl⟩))
    (es_cons (es_set 6 nd (d := .str (dAt (cellAt ns k))) (ee_ixL (ee_lst (ea_cons ee_str (ea_cons ee_str (ea_cons ee_str (ea_cons ee_str (ea_cons ee_str ea_nil))))) (Nat.le_of_ble_eq_true rfl)) (ee_mod (ee_var 5 rfl) ee_int (by decide)) (at_getD (L := deedL) (n := 5) rfl h0 h1)))
    (es_one (es_append (ds := ((List.range k).map (rowAt L ns m)).map rwD) 3 (d := rwD (rowAt L ns m k)) (ee_tup (ea_cons (ee_ixTx (ee_var 0 rfl) (ee_var 4 rfl) hk (by omega)) (ea_cons (ee_var 6 rfl) (ea_cons (ee_gf h_word nox0 hr (ea_cons (ee_fdiv (ee_var 5 rfl) ee_int ⟨by decide, by decide +kernel⟩) (ea_cons (ee_var 0 rfl) (ea_cons (ee_var 2 rfl) ea_nil))) ⟨L, cellAt ns k / 5, m, rfl, ⟨hL0, by omega⟩, ⟨Int.ediv_nonneg hnn (by decide), hm0, by omega⟩, rfl⟩) ea_nil))) (Nat.le_of_ble_eq_true rfl)) (by rw [List.length_map, List.length_map, List.length_range]; exact Nat.lt_of_lt_of_le (show k < 2000 by omega) (by decide)))))) (Le.of ⟨rfl, rfl, rfl, ?_, trivial⟩)
  show Slot.own (.lst (((List.range (k + 1)).map (rowAt L ns m)).map rwD)) = _
  rw [e]
end
open PySem.Builtin.Str in
theorem slice_toN (L : List Nat) (k : Nat) : Txt.slice (tx L) none (some (k : Int)) = tx (L.take k) := by
  by_cases h : k ≤ L.length
  · exact slice_to L h
  · rw [slice_gen (tx L) (a := 0) (b := (tx L).length) (Nat.zero_le _) (Nat.le_refl _)]
    · show (⟨(((L.toArray.toList).drop 0).take ((tx L).length - 0)).toArray⟩ : Str) = _
      rw [len_tx, List.toList_toArray, List.drop_zero, List.take_of_length_le (by omega), List.take_of_length_le (by omega)]; rfl
    · have hk : (tx L).length < k := by rw [len_tx]; omega
      have e0 : max (0 : Int) (min 0 ((tx L).length : Int)) = 0 := by omega
      have e1 : max (0 : Int) (min (k : Int) ((tx L).length : Int)) = (tx L).length := by omega
      have e2 : max (0 : Int) (min ((tx L).length : Int) ((tx L).length : Int)) = (tx L).length := by omega
      have e3 : ¬ ((tx L).length : Int) < 0 := by omega
      have e4 : ¬ (k : Int) < 0 := by omega
      simp only [strSliceIndices, Option.getD, if_neg e3, if_neg e4, e0, e1, e2]
      simp <;> rw [e0]
section
variable {X : Cx} {G : Gr} {dl : List Slot} {a b e : Expr} {c : Nat} {L : List Nat} {k : Nat} {pos p2 : Pos} {ds : List Dt}
theorem ee_toN (ha : EE X G dl a (.str (tx L))) (hb : EE X G dl b (.int (k : Int))) (hl : L.length ≤ 2000) : EE X G dl (.Subscript a (.Slice none (some b) none p2) pos) (.str (tx (L.take k))) :=
  ee_to (ee_slS ha ept_no (ept_int hb) (by rw [len_tx]; exact szl hl)) (by rw [slice_toN])
end
theorem sum_add (B : List Nat) (f g : Nat → Int) : (B.map fun b => f b + g b).sum = (B.map f).sum + (B.map g).sum := by
  induction B with
  | nil => rfl
  | cons b B ih => rw [List.map_cons, List.sum_cons, ih, List.map_cons, List.sum_cons, List.map_cons, List.sum_cons]; omega
theorem sum_nul (B : List Nat) : (B.map fun _ => (0 : Int)).sum = 0 := by
  induction B with
  | nil => rfl
  | cons b B ih => rw [List.map_cons, List.sum_cons, ih]; rfl
theorem sum_swap (A B : List Nat) (f : Nat → Nat → Int) : (A.map fun a => (B.map fun b => f a b).sum).sum = (B.map fun b => (A.map fun a => f a b).sum).sum := by
  induction A with
  | nil => exact (sum_nul B).symm
  | cons a A ih =>
    rw [List.map_cons, List.sum_cons, ih, ← sum_add]
    rfl
theorem sum_mulr (A : List Nat) (f : Nat → Int) (z : Int) : (A.map fun a => f a * z).sum = (A.map f).sum * z := by
  induction A with
  | nil => simp
  | cons a A ih => rw [List.map_cons, List.sum_cons, ih, List.map_cons, List.sum_cons, Int.add_mul]
theorem cnt_sum (x : Nat) : ∀ w : List Nat, (w.map fun y => (([y].count x : Nat) : Int)).sum = ((w.count x : Nat) : Int)
  | [] => rfl
  | y :: w => by
    rw [List.map_cons, List.sum_cons, cnt_sum x w, List.count_cons (l := w), List.count_cons, List.count_nil]
    split <;> omega
theorem sum_pick (z : Nat → Int) : ∀ {L : List Nat} {c : Nat}, L.Nodup → c ∈ L → (L.map fun x => (([c].count x : Nat) : Int) * z x).sum = z c
  | [], _, _, h => by cases h
  | y :: L, c, nd, h => by
    rw [List.nodup_cons] at nd
    rw [List.map_cons, List.sum_cons]
    by_cases e : c = y
    · subst e
      have e0 : (L.map fun x => (([c].count x : Nat) : Int) * z x) = L.map fun _ => (0 : Int) := List.map_congr_left fun x hx => by
        have : ¬ c = x := fun q => nd.1 (q ▸ hx)
        simp [List.count_cons, this]
      rw [e0, sum_nul]
      simp
    · have hc : c ∈ L := by
        rcases List.mem_cons.mp h with q | q
        · exact absurd q e
        · exact q
      rw [sum_pick z nd.2 hc]
      simp [List.count_cons, e]
theorem cT_lin {rows : List Row} (ok : RowsOk rows) (x : Nat) : ∀ (k : Nat) {c : Nat}, c ∈ rows.map (·.c) → cT rows (k + 1) c x = ((rows.map (·.c)).map fun l => cT rows k c l * (((wordOf rows l).count x : Nat) : Int)).sum
  | 0, c, hc => by
    show ((wordOf rows c).map fun y => (([y].count x : Nat) : Int)).sum = _
    rw [cnt_sum]
    exact (sum_pick (fun l => (((wordOf rows l).count x : Nat) : Int)) ok.nd hc).symm
  | k + 1, c, hc => by
    have hw : ∀ y ∈ wordOf rows c, y ∈ rows.map (·.c) := fun y hy => by
      obtain ⟨q, hq, _, _, ew⟩ := find_row hc
      exact ok.wo q hq y (by rw [ew] at hy; exact hy)
    show ((wordOf rows c).map fun y => cT rows (k + 1) y x).sum = _
    rw [List.map_congr_left (fun y hy => cT_lin ok x k (hw y hy)), sum_swap]
    refine congrArg List.sum (List.map_congr_left fun l _ => ?_)
    exact sum_mulr (wordOf rows c) (fun y => cT rows k y l) _
theorem cnT_0 (rows : List Row) (w : List Nat) (x : Nat) : cnT rows w 0 x = ((w.count x : Nat) : Int) := cnt_sum x w
theorem cnT_lin {rows : List Row} {w : List Nat} (ok : GrOk rows w) (k x : Nat) : cnT rows w (k + 1) x = ((rows.map (·.c)).map fun l => cnT rows w k l * (((wordOf rows l).count x : Nat) : Int)).sum := by
  unfold cnT
  rw [List.map_congr_left (fun c hc => cT_lin ok.ok x k (ok.wm c hc)), sum_swap]
  refine congrArg List.sum (List.map_congr_left fun l _ => ?_)
  exact sum_mulr w (fun y => cT rows k y l) _
theorem lnT_sum (rows : List Row) (w : List Nat) (k : Nat) : lnT rows w k = ((rows.map (·.c)).map (cnT rows w k)).sum := by
  unfold lnT cnT
  exact sum_swap w (rows.map (·.c)) fun c x => cT rows k c x
def sm : Nat → (Nat → Int) → Int
  | 0, _ => 0
  | n + 1, f => sm n f + f n
theorem sm_congr : ∀ {n : Nat} {f g : Nat → Int}, (∀ i, i < n → f i = g i) → sm n f = sm n g
  | 0, _, _, _ => rfl
  | n + 1, f, g, h => by
    show sm n f + f n = sm n g + g n
    rw [sm_congr (fun i hi => h i (by omega)), h n (by omega)]
theorem sm_add (n : Nat) (f g : Nat → Int) : sm n (fun i => f i + g i) = sm n f + sm n g := by
  induction n with
  | zero => rfl
  | succ n ih => show sm n _ + (f n + g n) = (sm n f + f n) + (sm n g + g n); rw [ih]; omega
theorem sm_mul (n : Nat) (c : Int) (f : Nat → Int) : sm n (fun i => c * f i) = c * sm n f := by
  induction n with
  | zero => show (0 : Int) = c * 0; omega
  | succ n ih => show sm n _ + _ = c * (sm n f + f n); rw [ih, Int.mul_add]
theorem sm_nul {n : Nat} {f : Nat → Int} (h : ∀ i, i < n → f i = 0) : sm n f = 0 := by
  induction n with
  | zero => rfl
  | succ n ih => show sm n f + f n = 0; rw [ih (fun i hi => h i (by omega)), h n (by omega)]; rfl
abbrev Vc := Nat → Int
def dlc (j : Nat) (v : Vc) : Vc := fun k => if k < j then v k else v (k + 1)
def sgn : Nat → Int
  | 0 => 1
  | n + 1 => - sgn n
def De : Nat → (Nat → Vc) → Int
  | 0, _ => 1
  | n + 1, M => sm (n + 1) fun j => sgn j * M 0 j * De n fun i => dlc j (M (i + 1))
def upr (M : Nat → Vc) (p : Nat) (v : Vc) : Nat → Vc := fun i => if i = p then v else M i
theorem upr_minor (M : Nat → Vc) (p : Nat) (x : Vc) (j : Nat) : (fun i => dlc j (upr M (p + 1) x (i + 1))) = upr (fun i => dlc j (M (i + 1))) p (dlc j x) := by
  funext i
  by_cases h : i = p
  · subst h; simp [upr]
  · simp [upr, h]
theorem dlc_lin (j : Nat) (a b : Int) (u w : Vc) : dlc j (fun k => a * u k + b * w k) = fun k => a * dlc j u k + b * dlc j w k := by
  funext k
  by_cases h : k < j <;> simp [dlc, h]
theorem De_lin : ∀ (n : Nat) (M : Nat → Vc) (p : Nat) (a b : Int) (u w : Vc), p < n → De n (upr M p fun k => a * u k + b * w k) = a * De n (upr M p u) + b * De n (upr M p w)
  | 0, _, _, _, _, _, _, h => by omega
  | n + 1, M, 0, a, b, u, w, _ => by
    show sm (n + 1) _ = a * sm (n + 1) _ + b * sm (n + 1) _
    rw [← sm_mul, ← sm_mul, ← sm_add]
    refine sm_congr fun j _ => ?_
    show sgn j * (a * u j + b * w j) * De n (fun i => dlc j (M (i + 1))) = a * (sgn j * u j * De n (fun i => dlc j (M (i + 1)))) + b * (sgn j * w j * De n (fun i => dlc j (M (i + 1))))
    generalize De n (fun i => dlc j (M (i + 1))) = z
    grind
  | n + 1, M, p + 1, a, b, u, w, h => by
    show sm (n + 1) _ = a * sm (n + 1) _ + b * sm (n + 1) _
    rw [← sm_mul, ← sm_mul, ← sm_add]
    refine sm_congr fun j _ => ?_
    show sgn j * M 0 j * De n (fun i => dlc j (upr M (p + 1) _ (i + 1))) = a * (sgn j * M 0 j * De n (fun i => dlc j (upr M (p + 1) _ (i + 1)))) + b * (sgn j * M 0 j * De n (fun i => dlc j (upr M (p + 1) _ (i + 1))))
    rw [upr_minor, upr_minor, upr_minor, dlc_lin, De_lin n _ p a b _ _ (by omega)]
    grind
theorem sm_pairs : ∀ (n : Nat) (t : Nat → Nat → Int), (∀ j k, k < j → j < n + 1 → t k (j - 1) = - t j k) → (sm (n + 1) fun j => sm n fun k => t j k) = 0
  | 0, t, h => rfl
  | n + 1, t, h => by
    have e1 : ∀ m, (sm m fun j => sm (n + 1) fun k => t j k) = (sm m fun j => sm n fun k => t j k) + sm m fun j => t j n := fun m => by
      rw [← sm_add]; rfl
    show (sm (n + 1) fun j => sm (n + 1) fun k => t j k) + (sm (n + 1) fun k => t (n + 1) k) = 0
    rw [e1, sm_pairs n t fun j k h1 h2 => h j k h1 (by omega), Int.zero_add, ← sm_add]
    refine sm_nul fun k hk => ?_
    have := h (n + 1) k hk (by omega)
    rw [Nat.add_sub_cancel] at this
    rw [this]; omega
theorem dlc_dlc (j k : Nat) (h : k < j) (v : Vc) : dlc (j - 1) (dlc k v) = dlc k (dlc j v) := by
  funext i
  simp only [dlc]
  by_cases h1 : i < k
  · have a : i < j - 1 := by omega
    have b : i < j := by omega
    simp [h1, a, b]
  · by_cases h2 : i + 1 < j
    · have a : i < j - 1 := by omega
      simp [h1, h2, a]
    · have a : ¬ i < j - 1 := by omega
      have b : ¬ i + 1 < k := by omega
      simp [h1, h2, a, b]
theorem sgn_pred {j : Nat} (h : 0 < j) : sgn (j - 1) = - sgn j := by
  obtain ⟨i, rfl⟩ : ∃ i, j = i + 1 := ⟨j - 1, by omega⟩
  rw [Nat.add_sub_cancel, sgn]; omega
theorem De_two (n : Nat) (M : Nat → Vc) (h : M 0 = M 1) : De (n + 2) M = 0 := by
  have e : De (n + 2) M = sm (n + 2) fun j => sm (n + 1) fun k => sgn j * M 0 j * (sgn k * dlc j (M 1) k * De n fun i => dlc k (dlc j (M (i + 2)))) := by
    show (sm (n + 2) fun j => sgn j * M 0 j * sm (n + 1) fun k => _) = _
    refine sm_congr fun j _ => ?_
    rw [← sm_mul]
  rw [e]
  refine sm_pairs (n + 1) _ fun j k h1 h2 => ?_
  have q1 : dlc k (M 1) (j - 1) = M 1 j := by
    have : ¬ j - 1 < k := by omega
    simp only [dlc, this, if_false]
    rw [Nat.sub_add_cancel (by omega)]
  have q2 : dlc j (M 1) k = M 1 k := by simp only [dlc, h1, if_true]
  have q3 : (fun i => dlc (j - 1) (dlc k (M (i + 2)))) = fun i => dlc k (dlc j (M (i + 2))) := by
    funext i; exact dlc_dlc j k h1 _
  rw [q1, q2, q3, sgn_pred (by omega), h]
  generalize De n _ = z
  grind
theorem De_adj : ∀ (n : Nat) (M : Nat → Vc) (p : Nat), p + 1 < n → M p = M (p + 1) → De n M = 0
  | 0, _, _, h, _ => by omega
  | 1, _, _, h, _ => by omega
  | n + 2, M, 0, _, e => De_two n M e
  | n + 2, M, p + 1, h, e => by
    show sm (n + 2) _ = 0
    refine sm_nul fun j _ => ?_
    rw [De_adj (n + 1) (fun i => dlc j (M (i + 1))) p (by omega) (by show dlc j _ = dlc j _; rw [e]), Int.mul_zero]
theorem upr_comm (M : Nat → Vc) {p q : Nat} (n : p ≠ q) (x y : Vc) : upr (upr M p x) q y = upr (upr M q y) p x := by
  funext i
  by_cases h : i = p
  · subst h; simp [upr, n]
  · by_cases g : i = q
    · subst g; simp [upr, h]
    · simp [upr, h, g]
theorem upr_self (M : Nat → Vc) (p : Nat) : upr M p (M p) = M := by
  funext i; by_cases h : i = p
  · subst h; simp [upr]
  · simp [upr, h]
theorem upr_at (M : Nat → Vc) (p : Nat) (x : Vc) : upr M p x p = x := by simp [upr]
theorem upr_ne (M : Nat → Vc) {p q : Nat} (h : q ≠ p) (x : Vc) : upr M p x q = M q := by simp [upr, h]
theorem De_plus {n : Nat} {M : Nat → Vc} {p : Nat} (h : p < n) (u w : Vc) : De n (upr M p fun k => u k + w k) = De n (upr M p u) + De n (upr M p w) := by
  have := De_lin n M p 1 1 u w h
  simpa using this
theorem De_swap {n : Nat} {p : Nat} (h : p + 1 < n) (M : Nat → Vc) (u w : Vc) : De n (upr (upr M p u) (p + 1) w) = - De n (upr (upr M p w) (p + 1) u) := by
  have z : ∀ x : Vc, De n (upr (upr M p x) (p + 1) x) = 0 := fun x => De_adj n _ p h (by rw [upr_at, upr_ne _ (by omega), upr_at])
  have e := z fun k => u k + w k
  have e1 : De n (upr (upr M p fun k => u k + w k) (p + 1) fun k => u k + w k) = De n (upr (upr M p fun k => u k + w k) (p + 1) u) + De n (upr (upr M p fun k => u k + w k) (p + 1) w) := De_plus h _ _
  have e2 : ∀ x : Vc, De n (upr (upr M p fun k => u k + w k) (p + 1) x) = De n (upr (upr M p u) (p + 1) x) + De n (upr (upr M p w) (p + 1) x) := fun x => by
    rw [upr_comm M (p := p) (q := p + 1) (by omega), upr_comm M (p := p) (q := p + 1) (by omega), upr_comm M (p := p) (q := p + 1) (by omega), De_plus (by omega)]
  rw [e1, e2, e2, z, z] at e
  omega
theorem De_same : ∀ (d n : Nat) (M : Nat → Vc) (p : Nat), p + d + 1 < n → M p = M (p + d + 1) → De n M = 0
  | 0, n, M, p, h, e => De_adj n M p h e
  | d + 1, n, M, p, h, e => by
    have a : M = upr (upr M (p + d + 1) (M (p + d + 1))) (p + d + 1 + 1) (M (p + d + 1 + 1)) := by rw [upr_self, upr_self]
    rw [a, De_swap (by omega), De_same d n _ p (by omega)]
    · rfl
    · rw [upr_ne _ (by omega), upr_ne _ (by omega), upr_ne _ (by omega), upr_at]; exact e
theorem De_eq {n : Nat} {M : Nat → Vc} {p q : Nat} (hp : p < n) (hq : q < n) (ne : p ≠ q) (e : M p = M q) : De n M = 0 := by
  rcases Nat.lt_or_ge p q with h | h
  · exact De_same (q - p - 1) n M p (by omega) (by rw [show p + (q - p - 1) + 1 = q by omega]; exact e)
  · exact De_same (p - q - 1) n M q (by omega) (by rw [show q + (p - q - 1) + 1 = p by omega]; exact e.symm)
def Im (i : Nat) : Vc := fun k => if i = k then 1 else 0
theorem De_one : ∀ n : Nat, De n Im = 1
  | 0 => rfl
  | n + 1 => by
    have a : ∀ m, (sm (m + 1) fun j => sgn j * Im 0 j * De n fun i => dlc j (Im (i + 1))) = De n fun i => dlc 0 (Im (i + 1)) := fun m => by
      induction m with
      | zero => show (0 : Int) + sgn 0 * Im 0 0 * _ = _; simp [sgn, Im]
      | succ m ih => show sm (m + 1) _ + sgn (m + 1) * Im 0 (m + 1) * _ = _; rw [ih]; simp [Im]
    show sm (n + 1) _ = 1
    rw [a]
    have b : (fun i => dlc 0 (Im (i + 1))) = Im := by
      funext i k; simp [dlc, Im]
    rw [b, De_one n]
def Ek (n : Nat) (a b : Nat → Vc) : Nat → Nat → (Nat → Vc) → Int
  | 0, 0, M => De n M
  | 0, _ + 1, _ => 0
  | m + 1, 0, M => Ek n a b m 0 (upr M m (a m))
  | m + 1, k + 1, M => Ek n a b m (k + 1) (upr M m (a m)) + Ek n a b m k (upr M m (b m))
theorem Ek_ext {n : Nat} {a b a' b' : Nat → Vc} : ∀ (m k : Nat) (M : Nat → Vc), (∀ i, i < m → a i = a' i ∧ b i = b' i) → Ek n a b m k M = Ek n a' b' m k M
  | 0, 0, _, _ => rfl
  | 0, _ + 1, _, _ => rfl
  | m + 1, 0, M, h => by
    show Ek n a b m 0 _ = Ek n a' b' m 0 _
    rw [(h m (by omega)).1, Ek_ext m 0 _ fun i hi => h i (by omega)]
  | m + 1, k + 1, M, h => by
    show Ek n a b m (k + 1) _ + Ek n a b m k _ = Ek n a' b' m (k + 1) _ + Ek n a' b' m k _
    rw [(h m (by omega)).1, (h m (by omega)).2, Ek_ext m (k + 1) _ fun i hi => h i (by omega), Ek_ext m k _ fun i hi => h i (by omega)]
theorem Ek_lin {n : Nat} {a b : Nat → Vc} : ∀ (m k : Nat) (M : Nat → Vc) (q : Nat) (c d : Int) (u w : Vc), m ≤ q → q < n → Ek n a b m k (upr M q fun i => c * u i + d * w i) = c * Ek n a b m k (upr M q u) + d * Ek n a b m k (upr M q w)
  | 0, 0, M, q, c, d, u, w, _, h => De_lin n M q c d u w h
  | 0, _ + 1, _, _, _, _, _, _, _, _ => by simp [Ek]
  | m + 1, 0, M, q, c, d, u, w, h1, h2 => by
    show Ek n a b m 0 _ = c * Ek n a b m 0 _ + d * Ek n a b m 0 _
    have e : ∀ x y : Vc, upr (upr M q x) m y = upr (upr M m y) q x := fun x y => upr_comm _ (by omega) _ _
    rw [e, e, e, Ek_lin m 0 _ q c d u w (by omega) h2]
  | m + 1, k + 1, M, q, c, d, u, w, h1, h2 => by
    show Ek n a b m (k + 1) _ + Ek n a b m k _ = c * (Ek n a b m (k + 1) _ + Ek n a b m k _) + d * (Ek n a b m (k + 1) _ + Ek n a b m k _)
    have e : ∀ x y : Vc, upr (upr M q x) m y = upr (upr M m y) q x := fun x y => upr_comm _ (by omega) _ _
    rw [e, e, e, e, e, e, Ek_lin m (k + 1) _ q c d u w (by omega) h2, Ek_lin m k _ q c d u w (by omega) h2]
    grind
theorem Ek_nulM {n : Nat} {a b : Nat → Vc} {m k : Nat} {M : Nat → Vc} {q : Nat} (h1 : m ≤ q) (h2 : q < n) : Ek n a b m k (upr M q fun _ => 0) = 0 := by
  have := Ek_lin (a := a) (b := b) m k M q 0 0 (fun _ => 0) (fun _ => 0) h1 h2
  simp only [Int.zero_mul, Int.add_zero] at this
  exact this
def Eq (n : Nat) (a b : Nat → Vc) (q : Nat) (u : Vc) (k : Nat) (m : Nat) (M : Nat → Vc) : Int := Ek n (upr a q u) (upr b q fun _ => 0) m k M
theorem Eq_below {n : Nat} {a b : Nat → Vc} {q : Nat} {u : Vc} {m k : Nat} {M : Nat → Vc} (h : m ≤ q) : Eq n a b q u k m M = Ek n a b m k M :=
  Ek_ext m k M fun i hi => ⟨upr_ne _ (by omega) _, upr_ne _ (by omega) _⟩
theorem Eq_at {n : Nat} {a b : Nat → Vc} {q : Nat} {u : Vc} {k : Nat} {M : Nat → Vc} (hq : q < n) : Eq n a b q u k (q + 1) M = Ek n a b q k (upr M q u) := by
  cases k with
  | zero =>
    show Eq n a b q u 0 q (upr M q (upr a q u q)) = _
    rw [upr_at, Eq_below (Nat.le_refl _)]
  | succ k =>
    show Eq n a b q u (k + 1) q (upr M q (upr a q u q)) + Eq n a b q u k q (upr M q (upr b q (fun _ => 0) q)) = _
    rw [upr_at, upr_at, Eq_below (Nat.le_refl _), Eq_below (Nat.le_refl _), Ek_nulM (Nat.le_refl _) hq, Int.add_zero]
theorem Eq_step0 {n : Nat} {a b : Nat → Vc} {q : Nat} {u : Vc} {m : Nat} {M : Nat → Vc} (h : m ≠ q) : Eq n a b q u 0 (m + 1) M = Eq n a b q u 0 m (upr M m (a m)) := by
  show Ek n _ _ m 0 (upr M m (upr a q u m)) = _
  rw [upr_ne _ h]; rfl
theorem Eq_step {n : Nat} {a b : Nat → Vc} {q : Nat} {u : Vc} {m k : Nat} {M : Nat → Vc} (h : m ≠ q) : Eq n a b q u (k + 1) (m + 1) M = Eq n a b q u (k + 1) m (upr M m (a m)) + Eq n a b q u k m (upr M m (b m)) := by
  show Ek n _ _ m (k + 1) (upr M m (upr a q u m)) + Ek n _ _ m k (upr M m (upr b q _ m)) = _
  rw [upr_ne _ h, upr_ne _ h]; rfl
theorem Eq_lin {n : Nat} {a b : Nat → Vc} {q : Nat} (hq : q < n) : ∀ (d k : Nat) (M : Nat → Vc) (c e : Int) (u w : Vc), Eq n a b q (fun i => c * u i + e * w i) k (q + 1 + d) M = c * Eq n a b q u k (q + 1 + d) M + e * Eq n a b q w k (q + 1 + d) M
  | 0, k, M, c, e, u, w => by
    rw [Nat.add_zero, Eq_at hq, Eq_at hq, Eq_at hq, Ek_lin q k M q c e u w (Nat.le_refl _) hq]
  | d + 1, 0, M, c, e, u, w => by
    rw [← Nat.add_assoc, Eq_step0 (by omega), Eq_step0 (by omega), Eq_step0 (by omega), Eq_lin hq d 0 _ c e u w]
  | d + 1, k + 1, M, c, e, u, w => by
    rw [← Nat.add_assoc, Eq_step (by omega), Eq_step (by omega), Eq_step (by omega), Eq_lin hq d (k + 1) _ c e u w, Eq_lin hq d k _ c e u w]
    grind
theorem Eq_split {n : Nat} {a b : Nat → Vc} {q : Nat} (hq : q < n) (x y : Vc) : ∀ (d k : Nat) (M : Nat → Vc), Ek n (upr a q x) (upr b q y) (q + 1 + d) (k + 1) M = Eq n a b q x (k + 1) (q + 1 + d) M + Eq n a b q y k (q + 1 + d) M
  | 0, k, M => by
    rw [Nat.add_zero, Eq_at hq, Eq_at hq]
    show Ek n _ _ q (k + 1) (upr M q (upr a q x q)) + Ek n _ _ q k (upr M q (upr b q y q)) = _
    rw [upr_at, upr_at]
    congr 1 <;> exact Ek_ext q _ _ fun i hi => ⟨upr_ne _ (by omega) _, upr_ne _ (by omega) _⟩
  | d + 1, k, M => by
    have e1 : ∀ k M, Ek n (upr a q x) (upr b q y) (q + 1 + d + 1) (k + 1) M = Ek n (upr a q x) (upr b q y) (q + 1 + d) (k + 1) (upr M (q + 1 + d) (a (q + 1 + d))) + Ek n (upr a q x) (upr b q y) (q + 1 + d) k (upr M (q + 1 + d) (b (q + 1 + d))) := fun k M => by
      show Ek n _ _ (q + 1 + d) (k + 1) (upr M (q + 1 + d) (upr a q x (q + 1 + d))) + Ek n _ _ (q + 1 + d) k (upr M (q + 1 + d) (upr b q y (q + 1 + d))) = _
      rw [upr_ne _ (by omega), upr_ne _ (by omega)]
    rw [← Nat.add_assoc, e1, Eq_split hq x y d k, Eq_step (by omega)]
    cases k with
    | zero =>
      rw [Eq_step0 (by omega)]
      have : ∀ M, Ek n (upr a q x) (upr b q y) (q + 1 + d) 0 M = Eq n a b q x 0 (q + 1 + d) M := fun M => by
        have z : ∀ m M, Ek n (upr a q x) (upr b q y) m 0 M = Ek n (upr a q x) (upr b q fun _ => 0) m 0 M := fun m => by
          induction m with
          | zero => intro M; rfl
          | succ m ih => intro M; exact ih _
        exact z _ _
      rw [this]; omega
    | succ k =>
      rw [Eq_split hq x y d k, Eq_step (by omega)]; omega
theorem Ek_two {n : Nat} {a b : Nat → Vc} {p q : Nat} (hp : p < n) (hq : q < n) (ne : p ≠ q) : ∀ (m k : Nat) (M : Nat → Vc), m ≤ p → m ≤ q → M p = M q → Ek n a b m k M = 0
  | 0, 0, M, _, _, e => De_eq hp hq ne e
  | 0, _ + 1, _, _, _, _ => rfl
  | m + 1, 0, M, h1, h2, e => Ek_two hp hq ne m 0 _ (by omega) (by omega) (by rw [upr_ne _ (by omega), upr_ne _ (by omega)]; exact e)
  | m + 1, k + 1, M, h1, h2, e => by
    show Ek n a b m (k + 1) _ + Ek n a b m k _ = 0
    rw [Ek_two hp hq ne m (k + 1) _ (by omega) (by omega) (by rw [upr_ne _ (by omega), upr_ne _ (by omega)]; exact e), Ek_two hp hq ne m k _ (by omega) (by omega) (by rw [upr_ne _ (by omega), upr_ne _ (by omega)]; exact e)]
    rfl
theorem Ek_swap {n : Nat} {a b : Nat → Vc} {p q : Nat} (hp : p < n) (hq : q < n) (ne : p ≠ q) {m k : Nat} {M : Nat → Vc} (h1 : m ≤ p) (h2 : m ≤ q) (u w : Vc) : Ek n a b m k (upr (upr M q u) p w) + Ek n a b m k (upr (upr M q w) p u) = 0 := by
  have z : ∀ x : Vc, Ek n a b m k (upr (upr M q x) p x) = 0 := fun x => Ek_two hp hq ne m k _ h1 h2 (by rw [upr_at, upr_ne _ (Ne.symm ne), upr_at])
  have e := z fun k => 1 * u k + 1 * w k
  have e1 : Ek n a b m k (upr (upr M q fun k => 1 * u k + 1 * w k) p fun k => 1 * u k + 1 * w k) = 1 * Ek n a b m k (upr (upr M q fun k => 1 * u k + 1 * w k) p u) + 1 * Ek n a b m k (upr (upr M q fun k => 1 * u k + 1 * w k) p w) := Ek_lin m k _ p 1 1 u w h1 hp
  have e2 : ∀ x : Vc, Ek n a b m k (upr (upr M q fun k => 1 * u k + 1 * w k) p x) = 1 * Ek n a b m k (upr (upr M q u) p x) + 1 * Ek n a b m k (upr (upr M q w) p x) := fun x => by
    rw [upr_comm M (p := q) (q := p) (Ne.symm ne), upr_comm M (p := q) (q := p) (Ne.symm ne), upr_comm M (p := q) (q := p) (Ne.symm ne), Ek_lin m k _ q 1 1 u w h2 hq]
  rw [e1, e2, e2, z, z] at e
  omega
theorem Ek_mid {n : Nat} {a b : Nat → Vc} {p q : Nat} (hp : p < q) (hq : q < n) : ∀ (d k : Nat) (M : Nat → Vc), p + 1 + d ≤ q → Ek n a b (p + 1 + d) 0 (upr M q (a p)) = 0 ∧ Ek n a b (p + 1 + d) (k + 1) (upr M q (a p)) + Ek n a b (p + 1 + d) k (upr M q (b p)) = 0
  | 0, k, M, h => by
    have z : ∀ (k : Nat) (x : Vc), Ek n a b p k (upr (upr M q x) p x) = 0 := fun k x => Ek_two (by omega) hq (Nat.ne_of_lt hp) p k _ (Nat.le_refl _) (by omega) (by rw [upr_at, upr_ne _ (by omega), upr_at])
    refine ⟨z 0 (a p), ?_⟩
    have s : ∀ k, Ek n a b p k (upr (upr M q (a p)) p (b p)) + Ek n a b p k (upr (upr M q (b p)) p (a p)) = 0 := fun k => Ek_swap (by omega) hq (Nat.ne_of_lt hp) (Nat.le_refl _) (by omega) _ _
    cases k with
    | zero =>
      show (Ek n a b p 1 (upr (upr M q (a p)) p (a p)) + Ek n a b p 0 (upr (upr M q (a p)) p (b p))) + Ek n a b p 0 (upr (upr M q (b p)) p (a p)) = 0
      rw [z, Int.zero_add]; exact s 0
    | succ k =>
      show (Ek n a b p (k + 2) (upr (upr M q (a p)) p (a p)) + Ek n a b p (k + 1) (upr (upr M q (a p)) p (b p))) + (Ek n a b p (k + 1) (upr (upr M q (b p)) p (a p)) + Ek n a b p k (upr (upr M q (b p)) p (b p))) = 0
      rw [z, z, Int.zero_add, Int.add_zero]; exact s (k + 1)
  | d + 1, k, M, h => by
    have c : ∀ x y : Vc, upr (upr M q x) (p + 1 + d) y = upr (upr M (p + 1 + d) y) q x := fun x y => upr_comm _ (by omega) _ _
    have i := fun k M => Ek_mid (a := a) (b := b) hp hq d k M (by omega)
    refine ⟨?_, ?_⟩
    · show Ek n a b (p + 1 + d) 0 (upr (upr M q (a p)) (p + 1 + d) (a (p + 1 + d))) = 0
      rw [c]; exact (i 0 _).1
    · cases k with
      | zero =>
        show (Ek n a b (p + 1 + d) 1 (upr (upr M q (a p)) (p + 1 + d) (a (p + 1 + d))) + Ek n a b (p + 1 + d) 0 (upr (upr M q (a p)) (p + 1 + d) (b (p + 1 + d)))) + Ek n a b (p + 1 + d) 0 (upr (upr M q (b p)) (p + 1 + d) (a (p + 1 + d))) = 0
        rw [c, c, c, (i 0 _).1]
        have e := (i 0 (upr M (p + 1 + d) (a (p + 1 + d)))).2
        rw [Nat.zero_add] at e
        omega
      | succ k =>
        show (Ek n a b (p + 1 + d) (k + 2) (upr (upr M q (a p)) (p + 1 + d) (a (p + 1 + d))) + Ek n a b (p + 1 + d) (k + 1) (upr (upr M q (a p)) (p + 1 + d) (b (p + 1 + d)))) + (Ek n a b (p + 1 + d) (k + 1) (upr (upr M q (b p)) (p + 1 + d) (a (p + 1 + d))) + Ek n a b (p + 1 + d) k (upr (upr M q (b p)) (p + 1 + d) (b (p + 1 + d)))) = 0
        rw [c, c, c, c]
        have e1 : Ek n a b (p + 1 + d) (k + 2) _ + _ = 0 := (i (k + 1) (upr M (p + 1 + d) (a (p + 1 + d)))).2
        have e2 := (i k (upr M (p + 1 + d) (b (p + 1 + d)))).2
        omega
theorem Ek_alike {n : Nat} {a b : Nat → Vc} {p q : Nat} (hp : p < q) (hq : q < n) (ha : a q = a p) (hb : b q = b p) : ∀ (d k : Nat) (M : Nat → Vc), Ek n a b (q + 1 + d) k M = 0
  | 0, k, M => by
    have i := fun k M => Ek_mid (a := a) (b := b) hp hq (q - p - 1) k M (by omega)
    rw [show p + 1 + (q - p - 1) = q by omega] at i
    cases k with
    | zero => show Ek n a b q 0 (upr M q (a q)) = 0; rw [ha]; exact (i 0 _).1
    | succ k => show Ek n a b q (k + 1) (upr M q (a q)) + Ek n a b q k (upr M q (b q)) = 0; rw [ha, hb]; exact (i k _).2
  | d + 1, 0, M => Ek_alike hp hq ha hb d 0 _
  | d + 1, k + 1, M => by
    show Ek n a b (q + 1 + d) (k + 1) _ + Ek n a b (q + 1 + d) k _ = 0
    rw [Ek_alike hp hq ha hb d (k + 1), Ek_alike hp hq ha hb d k]; rfl
theorem Ek_alike' {n : Nat} {a b : Nat → Vc} {p q : Nat} (hp : p < n) (hq : q < n) (ne : p ≠ q) (ha : a q = a p) (hb : b q = b p) (k : Nat) (M : Nat → Vc) : Ek n a b n k M = 0 := by
  rcases Nat.lt_or_ge p q with h | h
  · have := Ek_alike h hq ha hb (n - q - 1) k M
    rwa [show q + 1 + (n - q - 1) = n by omega] at this
  · have := Ek_alike (show q < p by omega) hp ha.symm hb.symm (n - p - 1) k M
    rwa [show p + 1 + (n - p - 1) = n by omega] at this
theorem Ek_der {n : Nat} {a b : Nat → Vc} : ∀ (m k : Nat) (M : Nat → Vc), m ≤ n → (sm m fun q => Eq n a b q (b q) k m M) = ((k : Int) + 1) * Ek n a b m (k + 1) M
  | 0, k, M, _ => by show (0 : Int) = _ * 0; omega
  | m + 1, k, M, h => by
    show (sm m fun q => Eq n a b q (b q) k (m + 1) M) + Eq n a b m (b m) k (m + 1) M = _
    rw [Eq_at (by omega)]
    cases k with
    | zero =>
      rw [sm_congr fun q hq => Eq_step0 (by omega), Ek_der m 0 _ (by omega)]
      show _ = _ * (Ek n a b m 1 _ + Ek n a b m 0 _)
      grind
    | succ k =>
      rw [sm_congr fun q hq => Eq_step (by omega), sm_add, Ek_der m (k + 1) _ (by omega), Ek_der m k _ (by omega)]
      show _ = _ * (Ek n a b m (k + 2) _ + Ek n a b m (k + 1) _)
      generalize Ek n a b m (k + 2) _ = x; generalize Ek n a b m (k + 1) _ = y
      grind
theorem Ek_much {n : Nat} {a b : Nat → Vc} : ∀ (m k : Nat) (M : Nat → Vc), m < k → Ek n a b m k M = 0
  | 0, 0, _, h => by omega
  | 0, _ + 1, _, _ => rfl
  | m + 1, 0, _, h => by omega
  | m + 1, k + 1, M, h => by
    show Ek n a b m (k + 1) _ + Ek n a b m k _ = 0
    rw [Ek_much m (k + 1) _ (by omega), Ek_much m k _ (by omega)]; rfl
theorem Eq_muchAt {n : Nat} {a b : Nat → Vc} {q : Nat} {u : Vc} (hq : q < n) : ∀ (d k : Nat) (M : Nat → Vc), q + 1 + d ≤ k → Eq n a b q u k (q + 1 + d) M = 0
  | 0, k, M, h => by rw [Nat.add_zero, Eq_at hq, Ek_much q k _ (by omega)]
  | d + 1, 0, M, h => by omega
  | d + 1, k + 1, M, h => by
    rw [← Nat.add_assoc, Eq_step (by omega), Eq_muchAt hq d (k + 1) _ (by omega), Eq_muchAt hq d k _ (by omega)]; rfl
section
variable (n : Nat) (A : Nat → Vc)
def ceE (k : Nat) : Int := Ek n Im A n k Im
def ceB (k p q : Nat) : Int := Eq n Im A q (Im p) k n Im
theorem ceB_top {p q : Nat} (hq : q < n) : ceB n A n p q = 0 := by
  have := Eq_muchAt (a := Im) (b := A) (u := Im p) hq (n - q - 1) n Im (by omega)
  rwa [show q + 1 + (n - q - 1) = n by omega] at this
theorem Ek_zero {n : Nat} {a b : Nat → Vc} : ∀ (m : Nat) (M : Nat → Vc), Ek n a b m 0 M = De n fun i => if i < m then a i else M i
  | 0, M => by show De n M = _; simp
  | m + 1, M => by
    show Ek n a b m 0 _ = _
    rw [Ek_zero m]
    congr 1; funext i
    by_cases h : i < m
    · have : i < m + 1 := by omega
      simp [h, this]
    · by_cases g : i = m
      · subst g; simp [upr]
      · have : ¬ i < m + 1 := by omega
        simp [h, this, upr, g]
theorem ceB_zero {p q : Nat} (hp : p < n) (hq : q < n) : ceB n A 0 p q = if p = q then 1 else 0 := by
  show Ek n _ _ n 0 _ = _
  rw [Ek_zero]
  by_cases h : p = q
  · subst h
    rw [if_pos rfl, ← De_one n]
    congr 1; funext i; rw [upr_self]; simp
  · rw [if_neg h]
    refine De_eq hp hq h ?_
    simp [hp, hq, upr, h]
theorem Eq_sum {a b : Nat → Vc} {q k : Nat} {M : Nat → Vc} (hq : q < n) (c : Nat → Int) (u : Nat → Vc) : ∀ m : Nat, Eq n a b q (fun i => sm m fun p => c p * u p i) k n M = sm m fun p => c p * Eq n a b q (u p) k n M
  | 0 => by
    have := Eq_lin (a := a) (b := b) hq (n - q - 1) k M 0 0 (fun _ => 0) (fun _ => 0)
    rw [show q + 1 + (n - q - 1) = n by omega] at this
    simp only [Int.zero_mul, Int.add_zero] at this
    exact this
  | m + 1 => by
    have e := Eq_lin (a := a) (b := b) hq (n - q - 1) k M 1 (c m) (fun i => sm m fun p => c p * u p i) (u m)
    rw [show q + 1 + (n - q - 1) = n by omega] at e
    have f : (fun i => 1 * (sm m fun p => c p * u p i) + c m * u m i) = fun i => sm (m + 1) fun p => c p * u p i := by
      funext i; rw [Int.one_mul]; rfl
    show _ = (sm m fun p => c p * Eq n a b q (u p) k n M) + c m * Eq n a b q (u m) k n M
    rw [← Eq_sum hq c u m, ← f, e, Int.one_mul]
variable (hA : ∀ r p, n ≤ p → A r p = 0)
include hA
theorem row_is (r : Nat) : (fun i => sm n fun p => A r p * Im p i) = A r := by
  funext i
  have : ∀ m, (sm m fun p => A r p * Im p i) = if i < m then A r i else 0 := fun m => by
    induction m with
    | zero => rfl
    | succ m ih =>
      show (sm m _) + A r m * Im m i = _
      rw [ih]
      by_cases h : i < m
      · have : ¬ m = i := by omega
        have g : i < m + 1 := by omega
        simp [h, this, g, Im]
      · by_cases g : i = m
        · subst g; simp [Im]
        · have : ¬ m = i := by omega
          have f : ¬ i < m + 1 := by omega
          simp [h, this, f, Im]
  rw [this]
  by_cases h : i < n
  · rw [if_pos h]
  · rw [if_neg h, hA r i (by omega)]
theorem ceB_mul {r q : Nat} (hq : q < n) (k : Nat) : (sm n fun p => A r p * ceB n A k p q) = Eq n Im A q (A r) k n Im := by
  have := Eq_sum n (a := Im) (b := A) (k := k) (M := Im) hq (A r) Im n
  rw [row_is n A hA r] at this
  exact this.symm
theorem ceB_next {r q : Nat} (hr : r < n) (hq : q < n) (k : Nat) : ceB n A (k + 1) r q = (if r = q then ceE n A (k + 1) else 0) - sm n fun p => A r p * ceB n A k p q := by
  rw [ceB_mul n A hA hq]
  have s := Eq_split (a := Im) (b := A) hq (Im r) (A r) (n - q - 1) k Im
  rw [show q + 1 + (n - q - 1) = n by omega] at s
  have e : Ek n (upr Im q (Im r)) (upr A q (A r)) n (k + 1) Im = if r = q then ceE n A (k + 1) else 0 := by
    by_cases h : r = q
    · subst h; rw [if_pos rfl, upr_self, upr_self]; rfl
    · rw [if_neg h]
      exact Ek_alike' hr hq h (by rw [upr_at, upr_ne _ h]) (by rw [upr_at, upr_ne _ h]) _ _
  rw [e] at s
  rw [s]
  show Eq n Im A q (Im r) (k + 1) n Im = _
  omega
theorem ceE_tr (k : Nat) : (sm n fun q => sm n fun p => A q p * ceB n A k p q) = ((k : Int) + 1) * ceE n A (k + 1) := by
  rw [sm_congr fun q hq => ceB_mul n A hA hq k]
  exact Ek_der n k Im (Nat.le_refl _)
end
def flB (n : Nat) (A : Nat → Vc) : Nat → Nat → Nat → Int
  | 0, p, q => if p = q then 1 else 0
  | k + 1, r, q => (sm n fun p => A r p * flB n A k p q) - (if r = q then (sm n fun q => sm n fun p => A q p * flB n A k p q) / ((k : Int) + 1) else 0)
def flN (n : Nat) (A : Nat → Vc) (k : Nat) : Int := (sm n fun q => sm n fun p => A q p * flB n A k p q) / ((k : Int) + 1)
theorem flB_is (n : Nat) (A : Nat → Vc) (hA : ∀ r p, n ≤ p → A r p = 0) : ∀ (k p q : Nat), p < n → q < n → flB n A k p q = sgn k * ceB n A k p q
  | 0, p, q, hp, hq => by rw [ceB_zero n A hp hq]; simp [flB, sgn]
  | k + 1, r, q, hr, hq => by
    have e : ∀ r q, r < n → q < n → (sm n fun p => A r p * flB n A k p q) = sgn k * sm n fun p => A r p * ceB n A k p q := fun r q hr hq => by
      rw [← sm_mul]
      refine sm_congr fun p hp => ?_
      rw [flB_is n A hA k p q hp hq, ← Int.mul_assoc, ← Int.mul_assoc, Int.mul_comm (A r p)]
    have t : (sm n fun q => sm n fun p => A q p * flB n A k p q) = ((k : Int) + 1) * (sgn k * ceE n A (k + 1)) := by
      rw [sm_congr fun q hq => e q q hq hq, sm_mul, ceE_tr n A hA]
      rw [← Int.mul_assoc, ← Int.mul_assoc, Int.mul_comm (sgn k)]
    show (sm n fun p => A r p * flB n A k p q) - _ = _
    rw [t, Int.mul_ediv_cancel_left _ (by omega), e r q hr hq, ceB_next n A hA hr hq]
    show _ = - sgn k * _
    by_cases h : r = q
    · rw [if_pos h, if_pos h]; grind
    · rw [if_neg h, if_neg h]; grind
theorem flB_end (n : Nat) (A : Nat → Vc) (hA : ∀ r p, n ≤ p → A r p = 0) {p q : Nat} (hp : p < n) (hq : q < n) : flB n A n p q = 0 := by
  rw [flB_is n A hA n p q hp hq, ceB_top n A hq, Int.mul_zero]
def vgo (n : Nat) (A : Nat → Vc) (v : Vc) : Vc := fun q => sm n fun r => v r * A r q
def vgr (n : Nat) (A : Nat → Vc) (v : Vc) : Nat → Vc
  | 0 => v
  | t + 1 => vgo n A (vgr n A v t)
theorem sm_swap (n m : Nat) (f : Nat → Nat → Int) : (sm n fun i => sm m fun j => f i j) = sm m fun j => sm n fun i => f i j := by
  induction n with
  | zero => exact (sm_nul fun _ _ => rfl).symm
  | succ n ih => show (sm n _) + _ = _; rw [ih, ← sm_add]; rfl
theorem sm_mulr (n : Nat) (c : Int) (f : Nat → Int) : (sm n fun i => f i * c) = sm n f * c := by
  rw [Int.mul_comm, ← sm_mul]; exact sm_congr fun i _ => Int.mul_comm _ _
theorem fl_row (n : Nat) (A : Nat → Vc) (v : Vc) : ∀ (k t q : Nat), q < n → (sm n fun r => vgr n A v t r * flB n A k r q) = vgr n A v (t + k) q - sm k fun j => flN n A j * vgr n A v (t + k - 1 - j) q
  | 0, t, q, hq => by
    have : ∀ m, (sm m fun r => vgr n A v t r * flB n A 0 r q) = if q < m then vgr n A v t q else 0 := fun m => by
      induction m with
      | zero => rfl
      | succ m ih =>
        show (sm m _) + vgr n A v t m * flB n A 0 m q = _
        rw [ih]
        by_cases h : q < m
        · have : ¬ m = q := by omega
          have g : q < m + 1 := by omega
          simp [h, this, g, flB]
        · by_cases g : q = m
          · subst g; simp [flB]
          · have : ¬ m = q := by omega
            have f : ¬ q < m + 1 := by omega
            simp [h, this, f, flB]
    rw [this, if_pos hq]
    show _ = _ - 0
    rw [Int.sub_zero]; rfl
  | k + 1, t, q, hq => by
    have e : (sm n fun r => vgr n A v t r * flB n A (k + 1) r q) = (sm n fun p => vgr n A v (t + 1) p * flB n A k p q) - flN n A k * vgr n A v t q := by
      have e1 : (sm n fun r => vgr n A v t r * flB n A (k + 1) r q) = (sm n fun r => vgr n A v t r * sm n fun p => A r p * flB n A k p q) + sm n fun r => (if r = q then - flN n A k else 0) * vgr n A v t r := by
        rw [← sm_add]
        refine sm_congr fun r _ => ?_
        show _ * (_ - _) = _
        by_cases h : r = q
        · rw [if_pos h, if_pos h]; show _ * (_ - flN n A k) = _; grind
        · rw [if_neg h, if_neg h]; grind
      have e2 : (sm n fun r => vgr n A v t r * sm n fun p => A r p * flB n A k p q) = sm n fun p => vgr n A v (t + 1) p * flB n A k p q := by
        rw [sm_congr fun r _ => (sm_mul n (vgr n A v t r) _).symm, sm_swap]
        refine sm_congr fun p _ => ?_
        show _ = (sm n fun r => vgr n A v t r * A r p) * _
        rw [← sm_mulr]
        exact sm_congr fun r _ => by rw [Int.mul_assoc]
      have e3 : ∀ m, (sm m fun r => (if r = q then - flN n A k else 0) * vgr n A v t r) = if q < m then - flN n A k * vgr n A v t q else 0 := fun m => by
        induction m with
        | zero => rfl
        | succ m ih =>
          show (sm m _) + (if m = q then - flN n A k else 0) * vgr n A v t m = _
          rw [ih]
          by_cases h : q < m
          · have : ¬ m = q := by omega
            have g : q < m + 1 := by omega
            simp [h, this, g]
          · by_cases g : q = m
            · subst g; simp
            · have : ¬ m = q := by omega
              have f : ¬ q < m + 1 := by omega
              simp [h, this, f]
      rw [e1, e2, e3, if_pos hq, Int.neg_mul]; omega
    rw [e, fl_row n A v k (t + 1) q hq]
    show _ = _ - ((sm k fun j => flN n A j * vgr n A v (t + (k + 1) - 1 - j) q) + flN n A k * vgr n A v (t + (k + 1) - 1 - k) q)
    rw [show t + (k + 1) - 1 - k = t by omega, show t + 1 + k = t + (k + 1) by omega]
    omega
theorem fl_rule (n : Nat) (A : Nat → Vc) (hA : ∀ r p, n ≤ p → A r p = 0) (v : Vc) (t q : Nat) (hq : q < n) : vgr n A v (t + n) q = sm n fun j => flN n A j * vgr n A v (t + n - 1 - j) q := by
  have e := fl_row n A v n t q hq
  rw [sm_nul fun r hr => by rw [flB_end n A hA hr hq, Int.mul_zero]] at e
  omega
theorem flt {α β : Type} {l : List α} {f : α → β} : (l.filter fun _ => true).map f = l.map f := by rw [List.filter_eq_self.mpr (fun _ _ => rfl)]
def liD (r : List Int) : Dt := .lst (r.map .int)
def rowF (n : Nat) (v : Vc) : List Int := (List.range n).map v
def matF (n : Nat) (M : Nat → Vc) : List (List Int) := (List.range n).map fun r => rowF n (M r)
def matD (n : Nat) (M : Nat → Vc) : List Dt := (matF n M).map liD
theorem rowF_len (n : Nat) (v : Vc) : (rowF n v).length = n := by unfold rowF; rw [List.length_map, List.length_range]
theorem matD_len (n : Nat) (M : Nat → Vc) : (matD n M).length = n := by unfold matD matF; rw [List.length_map, List.length_map, List.length_range]
theorem rowF_congr {n : Nat} {u v : Vc} (h : ∀ i, i < n → u i = v i) : rowF n u = rowF n v := List.map_congr_left fun i hi => h i (List.mem_range.mp hi)
theorem matF_congr {n : Nat} {A B : Nat → Vc} (h : ∀ r q, r < n → q < n → A r q = B r q) : matF n A = matF n B := List.map_congr_left fun r hr => rowF_congr fun q hq => h r q (List.mem_range.mp hr) hq
theorem sum_sm (n : Nat) (f : Nat → Int) : ((List.range n).map f).sum = sm n f := by
  induction n with
  | zero => rfl
  | succ n ih => rw [List.range_succ, List.map_append, List.sum_append, ih]; show _ + ((f n) + 0) = sm n f + f n; omega
theorem rowF_sum (n : Nat) (v : Vc) : (rowF n v).sum = sm n v := sum_sm n v
theorem rowF_get {n : Nat} {v : Vc} {k : Nat} (h : k < n) : (rowF n v)[k]? = some (v k) := by
  unfold rowF; rw [List.getElem?_map, List.getElem?_range h]; rfl
theorem at_row {n : Nat} {v : Vc} {k : Nat} (h : k < n) : atI ((rowF n v).map Dt.int) (k : Int) = some (.int (v k)) := by
  refine atI_nat ?_
  rw [List.getElem?_map, rowF_get h]; rfl
theorem matD_get {n : Nat} {M : Nat → Vc} {k : Nat} (h : k < n) : (matD n M)[k]? = some (liD (rowF n (M k))) := by
  unfold matD matF; rw [List.getElem?_map, List.getElem?_map, List.getElem?_range h]; rfl
theorem at_mat {n : Nat} {M : Nat → Vc} {k : Nat} (h : k < n) : atI (matD n M) (k : Int) = some (liD (rowF n (M k))) := atI_nat (matD_get h)
theorem rowD_is (n : Nat) (f : Nat → Int) : (((List.range n).filter fun _ => true).map fun k => Dt.int (f k)) = (rowF n f).map .int := by
  rw [flt]; unfold rowF; rw [List.map_map]; rfl
theorem matD_is (n : Nat) (M : Nat → Vc) : (((List.range n).filter fun _ => true).map fun r => liD (rowF n (M r))) = matD n M := by
  rw [flt]; unfold matD matF; rw [List.map_map]; rfl
theorem enum_row (n : Nat) (v : Vc) : enumD ((rowF n v).map Dt.int) = (List.range n).map fun (k : Nat) => .tup [.int k, .int (v k)] := by
  unfold enumD
  rw [List.length_map, rowF_len]
  refine List.map_congr_left fun k hk => ?_
  rw [List.getD_eq_getElem?_getD, List.getElem?_map, rowF_get (List.mem_range.mp hk)]; rfl
theorem enum_mat (n : Nat) (M : Nat → Vc) : enumD (matD n M) = (List.range n).map fun (k : Nat) => .tup [.int k, liD (rowF n (M k))] := by
  unfold enumD
  rw [matD_len]
  refine List.map_congr_left fun k hk => ?_
  rw [List.getD_eq_getElem?_getD, matD_get (List.mem_range.mp hk)]; rfl
theorem zip_row (n : Nat) (u v : Vc) : zipD ((rowF n u).map Dt.int) ((rowF n v).map Dt.int) = (List.range n).map fun (k : Nat) => .tup [.int (u k), .int (v k)] := by
  unfold zipD
  rw [List.length_map, List.length_map, rowF_len, rowF_len, Nat.min_self]
  refine List.map_congr_left fun k hk => ?_
  have hk := List.mem_range.mp hk
  rw [List.getD_eq_getElem?_getD, List.getElem?_map, rowF_get hk, List.getD_eq_getElem?_getD, List.getElem?_map, rowF_get hk]; rfl
theorem mat_src (n : Nat) (M : Nat → Vc) : (List.range n).map (fun r => liD (rowF n (M r))) = matD n M := by unfold matD matF; rw [List.map_map]; rfl
theorem sm_abs {n : Nat} {f : Nat → Int} {b : Nat} (h : ∀ i, i < n → (f i).natAbs ≤ b) : (sm n f).natAbs ≤ n * b := by
  induction n with
  | zero => show (0 : Int).natAbs ≤ _; simp
  | succ n ih =>
    have h1 := ih fun i hi => h i (by omega)
    have h2 := h n (by omega)
    have h3 := Int.natAbs_add_le (sm n f) (f n)
    show (sm n f + f n).natAbs ≤ (n + 1) * b
    rw [Nat.add_mul, Nat.one_mul]; omega
def bdd (n b : Nat) (M : Nat → Vc) : Prop := ∀ r q, r < n → q < n → (M r q).natAbs ≤ b
theorem mulok_le {a b : Int} {x y : Nat} (ha : a.natAbs ≤ x) (hb : b.natAbs ≤ y) (hx : x < 2 ^ 3000) (hy : y < 2 ^ 3000) : IntMulOk a b := mulok (m := 3000) (n := 3000) (Nat.lt_of_le_of_lt ha hx) (Nat.lt_of_le_of_lt hb hy) (by decide)
theorem mul_abs {a b : Int} {x y : Nat} (ha : a.natAbs ≤ x) (hb : b.natAbs ≤ y) : (a * b).natAbs ≤ x * y := by rw [Int.natAbs_mul]; exact Nat.mul_le_mul ha hb
theorem fl_bd {n : Nat} {A : Nat → Vc} (hn : n ≤ 6) (hA : bdd n 8 A) : ∀ k, bdd n (336 ^ k) (flB n A k)
  | 0, p, q, _, _ => by
    show (if p = q then (1 : Int) else 0).natAbs ≤ 1
    by_cases h : p = q <;> simp [h]
  | k + 1, p, q, hp, hq => by
    have i := fl_bd hn hA k
    have s : ∀ r q, r < n → q < n → (sm n fun p => A r p * flB n A k p q).natAbs ≤ 48 * 336 ^ k := fun r q hr hq => by
      refine Nat.le_trans (sm_abs (b := 8 * 336 ^ k) fun p hp => mul_abs (hA r p hr hp) (i p q hp hq)) ?_
      rw [← Nat.mul_assoc]; exact Nat.mul_le_mul_right _ (by omega)
    have t : (sm n fun q => sm n fun p => A q p * flB n A k p q).natAbs ≤ 288 * 336 ^ k := by
      refine Nat.le_trans (sm_abs (b := 48 * 336 ^ k) fun q hq => s q q hq hq) ?_
      rw [← Nat.mul_assoc]; exact Nat.mul_le_mul_right _ (by omega)
    have t2 := Nat.le_trans (Int.natAbs_ediv_le_natAbs (sm n fun q => sm n fun p => A q p * flB n A k p q) ((k : Int) + 1)) t
    have s2 := s p q hp hq
    show (_ - _ : Int).natAbs ≤ _
    rw [Nat.pow_succ]
    generalize 336 ^ k = z at *
    by_cases h : p = q
    · rw [if_pos h]; omega
    · rw [if_neg h]; omega
theorem flN_bd {n : Nat} {A : Nat → Vc} (hn : n ≤ 6) (hA : bdd n 8 A) (k : Nat) : (flN n A k).natAbs ≤ 288 * 336 ^ k := by
  have i := fl_bd hn hA k
  have s : ∀ r q, r < n → q < n → (sm n fun p => A r p * flB n A k p q).natAbs ≤ 48 * 336 ^ k := fun r q hr hq => by
    refine Nat.le_trans (sm_abs (b := 8 * 336 ^ k) fun p hp => mul_abs (hA r p hr hp) (i p q hp hq)) ?_
    rw [← Nat.mul_assoc]; exact Nat.mul_le_mul_right _ (by omega)
  refine Nat.le_trans (Int.natAbs_ediv_le_natAbs _ _) (Nat.le_trans (sm_abs (b := 48 * 336 ^ k) fun q hq => s q q hq hq) ?_)
  rw [← Nat.mul_assoc]; exact Nat.mul_le_mul_right _ (by omega)
theorem pow_336 {k : Nat} (h : k ≤ 6) : 336 ^ k ≤ 336 ^ 6 := Nat.pow_le_pow_right (by decide) h
def Aof (rows : List Row) (r q : Nat) : Int := if q < rows.length then (((wordOf rows ((rows.map (·.c)).getD r 0)).count ((rows.map (·.c)).getD q 0) : Nat) : Int) else 0
abbrev scR1 : Stmt → Scope
  | .Return (some (.ListComp _ _ sc _)) _ => sc
  | _ => defScope (.Pass ⟨0, 0, 0, 0⟩)
abbrev scR2 : Stmt → Scope
  | .Return (some (.ListComp (.ListComp _ _ sc _) _ _ _)) _ => sc
  | _ => defScope (.Pass ⟨0, 0, 0, 0⟩)
abbrev scR3 : Stmt → Scope
  | .Return (some (.ListComp (.Call _ (.ListComp _ _ sc _ :: _) _ _) _ _ _)) _ => sc
  | _ => defScope (.Pass ⟨0, 0, 0, 0⟩)
abbrev scR4 : Stmt → Scope
  | .Return (some (.Call _ (.ListComp _ _ sc _ :: _) _ _)) _ => sc
  | _ => defScope (.Pass ⟨0, 0, 0, 0⟩)
abbrev bS_gt : Scope := scR1 ((defBody s_growth_table).getD 1 (.Pass ⟨0, 0, 0, 0⟩))
abbrev bS_gt2 : Scope := scR2 ((defBody s_growth_table).getD 1 (.Pass ⟨0, 0, 0, 0⟩))
abbrev rl_gt : Scope := relabel bS_gt (envS (defScope s_growth_table))
theorem bk_gt : chkBc bS_gt (defScope s_growth_table) n_growth_table ["letter", "rules", "letters"] "letter" [0, 1] = true := by decide +kernel
theorem bk_gt2 : chkBx bS_gt2 rl_gt ["letter", "rules", "letters"] ["younger", "rules", "letter"] ["younger"] [1, 0] = true := by decide +kernel
abbrev bS_ev : Scope := scR1 ((defBody s_even_table).getD 0 (.Pass ⟨0, 0, 0, 0⟩))
abbrev bS_ev2 : Scope := scR2 ((defBody s_even_table).getD 0 (.Pass ⟨0, 0, 0, 0⟩))
abbrev rl_ev : Scope := relabel bS_ev (envS (defScope s_even_table))
theorem bk_ev : chkBc bS_ev (defScope s_even_table) n_even_table ["row", "many"] "row" [0] = true := by decide +kernel
theorem bk_ev2 : chkBx bS_ev2 rl_ev ["row", "many"] ["column", "row"] ["column"] [0] = true := by decide +kernel
abbrev bS_rt : Scope := scR1 ((defBody s_row_by_table).getD 0 (.Pass ⟨0, 0, 0, 0⟩))
abbrev bS_rt2 : Scope := scR3 ((defBody s_row_by_table).getD 0 (.Pass ⟨0, 0, 0, 0⟩))
abbrev rl_rt : Scope := relabel bS_rt (envS (defScope s_row_by_table))
theorem bk_rt : chkBc bS_rt (defScope s_row_by_table) n_row_by_table ["column", "row", "table"] "column" [0, 1] = true := by decide +kernel
theorem bk_rt2 : chkBx bS_rt2 rl_rt ["column", "row", "table"] ["k", "number", "table", "column"] ["k", "number"] [2, 0] = true := by decide +kernel
abbrev bS_pr : Scope := scR1 ((defBody s_product).getD 0 (.Pass ⟨0, 0, 0, 0⟩))
theorem bk_pr : chkBx bS_pr (defScope s_product) n_product ["row", "other"] ["row"] [1] = true := by decide +kernel
abbrev bS_tr : Scope := scR4 ((defBody s_trace).getD 0 (.Pass ⟨0, 0, 0, 0⟩))
theorem bk_tr : chkBx bS_tr (defScope s_trace) n_trace ["k", "row"] ["k", "row"] [] = true := by decide +kernel
abbrev bS_le : Scope := scR1 ((defBody s_less_along_diagonal).getD 1 (.Pass ⟨0, 0, 0, 0⟩))
abbrev bS_le2 : Scope := scR2 ((defBody s_less_along_diagonal).getD 1 (.Pass ⟨0, 0, 0, 0⟩))
abbrev rl_le : Scope := relabel bS_le (envS (defScope s_less_along_diagonal))
theorem bk_le : chkBx bS_le (defScope s_less_along_diagonal) n_less_along_diagonal ["k", "row", "number", "even"] ["k", "row"] [1, 2] = true := by decide +kernel
theorem bk_le2 : chkBx bS_le2 rl_le ["k", "row", "number", "even"] ["entry", "kept", "number"] ["entry", "kept"] [2] = true := by decide +kernel
def R_gt (t : Adr) : Rl := fun ds r => ∃ six rows, ds = [t.ruD six rows] ∧ RowsOk rows ∧ r = .own (.lst (matD rows.length (Aof rows)))
def R_ev : Rl := fun ds r => ∃ n : Nat, ds = [.int n] ∧ n ≤ 6 ∧ r = .own (.lst (matD n Im))
def R_rt : Rl := fun ds r => ∃ (n b : Nat) (v : Vc) (B : Nat → Vc), ds = [liD (rowF n v), .lst (matD n B)] ∧ n ≤ 6 ∧ (∀ i, i < n → (v i).natAbs ≤ 2 ^ 100) ∧ bdd n (2 ^ 100) B ∧ r = .own (.lst ((rowF n fun q => sm n fun p => v p * B p q).map .int))
def R_pr : Rl := fun ds r => ∃ (n : Nat) (A B : Nat → Vc), ds = [.lst (matD n A), .lst (matD n B)] ∧ n ≤ 6 ∧ bdd n (2 ^ 100) A ∧ bdd n (2 ^ 100) B ∧ r = .own (.lst (matD n fun r q => sm n fun p => A r p * B p q))
def R_tr : Rl := fun ds r => ∃ (n : Nat) (A : Nat → Vc), ds = [.lst (matD n A)] ∧ n ≤ 6 ∧ r = .ret (.int (sm n fun k => A k k))
def R_le : Rl := fun ds r => ∃ (n : Nat) (A : Nat → Vc) (c : Int), ds = [.lst (matD n A), .int c] ∧ n ≤ 6 ∧ c.natAbs ≤ 2 ^ 100 ∧ r = .own (.lst (matD n fun r q => A r q - c * Im r q))
def R_ru (t : Adr) : Rl := fun ds r => ∃ six rows, ds = [t.ruD six rows] ∧ RowsOk rows ∧ r = .own (.lst ((rowF rows.length (flN rows.length (Aof rows))).map .int))
theorem p100 : 2 ^ 100 < 2 ^ 3000 := Nat.pow_lt_pow_right (by decide) (by decide)
theorem lets_src (L : List Nat) : (List.range L.length).map (fun r => Dt.str (sg (L.getD r 0))) = Sg.signs (tx L) := by
  rw [signs_tx, List.map_map]
  refine List.ext_getElem (by simp) fun i h1 h2 => ?_
  simp only [List.getElem_map, List.getElem_range, Function.comp]
  rw [List.getD_eq_getElem?_getD, List.getElem?_eq_getElem (by simpa using h2)]; rfl
theorem RowsOk.lt {rows : List Row} (ok : RowsOk rows) : ∀ x ∈ rows.map (·.c), x < 128 := fun x hx => by
  obtain ⟨r, hr, rfl⟩ := List.mem_map.mp hx
  have := ok.sm r hr
  unfold small at this; omega
theorem getD_mem {α : Type} {l : List α} {k : Nat} {d : α} (h : k < l.length) : l.getD k d ∈ l := by
  rw [List.getD_eq_getElem?_getD, List.getElem?_eq_getElem h]; exact List.getElem_mem h
theorem Aof_z (rows : List Row) (r p : Nat) (h : rows.length ≤ p) : Aof rows r p = 0 := by unfold Aof; rw [if_neg (by omega)]
theorem Aof_bd {rows : List Row} (ok : RowsOk rows) : bdd rows.length 8 (Aof rows) := fun r q hr hq => by
  unfold Aof
  rw [if_pos hq, Int.natAbs_natCast]
  obtain ⟨z, hz, _, _, e⟩ := find_row (rows := rows) (x := (rows.map (·.c)).getD r 0) (getD_mem (by rw [List.length_map]; exact hr))
  rw [e]
  exact Nat.le_trans (List.count_le_length) (ok.wp z hz).2
section
variable {P : Program} {w : World} {K : PySem.W.Frag} {mg : Str → Option Value} {base : Heap} {t : Adr}
theorem ok_gt (T : Txt K mg t) : GF P w K mg base CX 3 "growth_table" 1 (R_gt t) := by
  refine ⟨_, _, _, fnR T.F_growth_table sc_growth_table rfl fun cdv A outer s H E G ds r hr hl hR => ?_, T.m_growth_table, T.k_growth_table, T.b_growth_table⟩
  obtain ⟨six, rows, rfl, ok, rfl⟩ := hR
  have h_let := ok_lettersM (P := P) (w := w) (base := base) T
  have h_word := ok_wordM (P := P) (w := w) (base := base) T
  have h6 := ok.le
  have nd := sc_growth_table.nd
  obtain ⟨L, eL⟩ : ∃ L, L = rows.map (·.c) := ⟨_, rfl⟩
  have hL : L.length = rows.length := by rw [eL, List.length_map]
  have asc : asciiS (tx L) = true := ascii_tx (by rw [eL]; exact ok.lt)
  have hsrc := lets_src L
  rw [hL] at hsrc
  refine ⟨_, .ro _, es_cons (dl1 := [.val (t.ruD six rows), .val (.str (tx L))]) (es_set 1 nd (ee_to (ee_mf0 (fs := t.ruF six rows) (ee_var 0 rfl) h_let nox0 hr ⟨six, rows, rfl, ok, rfl⟩) (by rw [eL]))) ?_⟩
  refine es_one (es_retO (eo_to (eo_lcc (List.range rows.length) (fun r => Dt.str (sg (L.getD r 0))) (fun r => liD (rowF rows.length (Aof rows r))) (fun r => [.val (.str (sg (L.getD r 0)))]) (fun _ => true) rfl (bc_of bk_gt) (pi_str (ee_var 1 rfl)) (pgc_name (bc_of bk_gt)) (srcx_to (srcx_str asc) hsrc) (fun a _ => tg_name) (.nil fun _ _ => rfl)
      (fun r hr' _ cc C fp s' H' G' => ?_) (szl (by rw [List.length_range]; omega))) (congrArg Own.lst (matD_is _ _))))
  have hrn := List.mem_range.mp hr'
  refine lst_of (rowD_is rows.length (Aof rows r)) (eo_lcx (List.range rows.length) (fun q => Dt.str (sg (L.getD q 0))) (fun q => Dt.int (Aof rows r q)) (fun q => [.val (.str (sg (L.getD q 0)))]) (fun _ => true) rfl (bx_of bk_gt2) (pi_str (ee_var 2 rfl)) (pgb_name (bx_of bk_gt2) rfl) (srcx_to (srcx_str asc) hsrc) (fun a _ => tg_name) (.nil fun _ _ => rfl)
    (fun q hq _ C2 fp2 s2 H2 G2 => ?_) (szl (by rw [List.length_range]; omega)))
  have hqn := List.mem_range.mp hq
  refine ee_to (ee_countS (ee_mf (fs := t.ruF six rows) (ee_var 1 rfl) h_word nox0 hr (ea_cons (ee_var 2 rfl) ea_nil) ⟨six, rows, _, rfl, ok, ?_, rfl⟩) (ee_var 0 rfl)) (congrArg Dt.int ?_)
  · rw [← eL]; exact getD_mem (by rw [hL]; exact hrn)
  · rw [count_tx]; unfold Aof; rw [if_pos hqn, ← eL]
theorem ok_ev (T : Txt K mg t) : GF P w K mg base CX 1 "even_table" 1 R_ev := by
  refine ⟨_, _, _, fnR T.F_even_table sc_even_table rfl fun cdv A outer s H E G ds r hr hl hR => ?_, T.m_even_table, T.k_even_table, T.b_even_table⟩
  obtain ⟨n, rfl, hn, rfl⟩ := hR
  refine ⟨_, .ro _, es_one (es_retO (eo_to (eo_lcc (List.range n) (fun (r : Nat) => Dt.int (r : Nat)) (fun r => liD (rowF n (Im r))) (fun (r : Nat) => [.val (.int (r : Nat))]) (fun _ => true) rfl (bc_of bk_ev) (pi_range1 rfl T.z_range (ea_cons (ee_var 0 rfl) ea_nil)) (pgc_name (bc_of bk_ev)) (srcx_range1 (j := n) ⟨by omega, by omega⟩) (fun a _ => tg_name) (.nil fun _ _ => rfl)
      (fun r hr' _ cc C fp s' H' G' => ?_) (szl (by rw [List.length_range]; omega))) (congrArg Own.lst (matD_is _ _))))⟩
  refine lst_of (rowD_is n (Im r)) (eo_lcx (List.range n) (fun (q : Nat) => Dt.int (q : Nat)) (fun q => Dt.int (Im r q)) (fun (q : Nat) => [.val (.int (q : Nat))]) (fun _ => true) rfl (bx_of bk_ev2) (pi_range1 rfl T.z_range (ea_cons (ee_var 1 rfl) ea_nil)) (pgb_name (bx_of bk_ev2) rfl) (srcx_range1 (j := n) ⟨by omega, by omega⟩) (fun a _ => tg_name) (.nil fun _ _ => rfl)
    (fun q hq _ C2 fp2 s2 H2 G2 => ?_) (szl (by rw [List.length_range]; omega)))
  refine ee_ifE (eb_eqI (ee_var 1 rfl) (ee_var 0 rfl)) (fun h => ee_to ee_int ?_) (fun h => ee_to ee_int ?_)
  · have h := of_decide_eq_true h
    have h : r = q := by omega
    show Dt.int 1 = Dt.int (Im r q)
    unfold Im; rw [if_pos h]
  · have h := of_decide_eq_false h
    have h : ¬ r = q := by omega
    show Dt.int 0 = Dt.int (Im r q)
    unfold Im; rw [if_neg h]
theorem ok_rt (T : Txt K mg t) : GF P w K mg base CX 1 "row_by_table" 2 R_rt := by
  refine ⟨_, _, _, fnR T.F_row_by_table sc_row_by_table rfl fun cdv A outer s H E G ds r hr hl hR => ?_, T.m_row_by_table, T.k_row_by_table, T.b_row_by_table⟩
  obtain ⟨n, b, v, B, rfl, hn, hv, hB, rfl⟩ := hR
  refine ⟨_, .ro _, es_one (es_retO (eo_to (eo_lcc (List.range n) (fun (q : Nat) => Dt.int (q : Nat)) (fun q => Dt.int (sm n fun p => v p * B p q)) (fun (q : Nat) => [.val (.int (q : Nat))]) (fun _ => true) rfl (bc_of bk_rt) (pi_range1 rfl T.z_range (ea_cons (ee_to (ee_lenL T.z_len (ee_var 1 rfl)) (congrArg Dt.int (show (((matD n B).length : Nat) : Int) = ((n : Nat) : Int) by rw [matD_len]))) ea_nil)) (pgc_name (bc_of bk_rt)) (srcx_range1 (j := n) ⟨by omega, by omega⟩) (fun a _ => tg_name) (.nil fun _ _ => rfl)
      (fun q hq _ cc C fp s' H' G' => ?_) (szl (by rw [List.length_range]; omega))) (congrArg Own.lst (rowD_is _ _))))⟩
  have hqn := List.mem_range.mp hq
  refine ee_to (ee_sum T.z_sum rfl (lst_of (rowD_is n fun p => v p * B p q) (eo_lcx (List.range n) (fun (k : Nat) => Dt.tup [.int k, .int (v k)]) (fun p => Dt.int (v p * B p q)) (fun (k : Nat) => [.val (.int k), .val (.int (v k))]) (fun _ => true) rfl (bx_of bk_rt2) (pi_enum rfl T.z_enumerate (ea_cons (ee_var 1 rfl) ea_nil)) (pgb_pair rfl (bx_of bk_rt2) rfl) (srcx_to srcx_enum (enum_row n v).symm) (fun a _ => tg_pair) (.nil fun _ _ => rfl)
    (fun k hk _ C2 fp2 s2 H2 G2 => ?_) (szl (by rw [List.length_range]; omega))))) (congrArg Dt.int (rowF_sum n _))
  have hkn := List.mem_range.mp hk
  exact ee_mul (ee_var 1 rfl) (ee_ixL (ee_ixL (ee_var 2 rfl) (ee_var 0 rfl) (at_mat hkn)) (ee_var 3 rfl) (at_row hqn)) (mulok_le (hv k hkn) (hB k q hkn hqn) p100 p100)
theorem ok_pr (T : Txt K mg t) : GF P w K mg base CX 2 "product" 2 R_pr := by
  refine ⟨_, _, _, fnR T.F_product sc_product rfl fun cdv A outer s H E G ds r hr hl hR => ?_, T.m_product, T.k_product, T.b_product⟩
  obtain ⟨n, M, B, rfl, hn, hM, hB, rfl⟩ := hR
  have h_rt := ok_rt (P := P) (w := w) (base := base) T
  exact ⟨_, .ro _, es_one (es_retO (eo_to (eo_lcx (List.range n) (fun r => liD (rowF n (M r))) (fun r => liD (rowF n fun q => sm n fun p => M r p * B p q)) (fun r => [.val (liD (rowF n (M r)))]) (fun _ => true) rfl (bx_of bk_pr) (pi_list (ee_var 0 rfl)) (pgb_name (bx_of bk_pr) rfl) (srcx_to srcx_list (mat_src n M)) (fun a _ => tg_name) (.nil fun _ _ => rfl)
      (fun r hr' _ C fp s' H' G' => ee_ol (eo_gf h_rt nox0 hr (ea_cons (ee_var 0 rfl) (ea_cons (ee_var 1 rfl) ea_nil)) ⟨n, 0, M r, B, rfl, hn, fun i hi => hM r i (List.mem_range.mp hr') hi, hB, rfl⟩)) (szl (by rw [List.length_range]; omega))) (congrArg Own.lst (matD_is n fun r q => sm n fun p => M r p * B p q))))⟩
theorem ok_tr (T : Txt K mg t) : GF P w K mg base CX 1 "trace" 1 R_tr := by
  refine ⟨_, _, _, fnR T.F_trace sc_trace rfl fun cdv A outer s H E G ds r hr hl hR => ?_, T.m_trace, T.k_trace, T.b_trace⟩
  obtain ⟨n, M, rfl, hn, rfl⟩ := hR
  exact ⟨_, .rt _, es_one (es_ret (ee_to (ee_sum T.z_sum rfl (lst_of (rowD_is n fun k => M k k) (eo_lcx (List.range n) (fun (k : Nat) => Dt.tup [.int k, liD (rowF n (M k))]) (fun k => Dt.int (M k k)) (fun (k : Nat) => [.val (.int k), .val (liD (rowF n (M k)))]) (fun _ => true) rfl (bx_of bk_tr) (pi_enum rfl T.z_enumerate (ea_cons (ee_var 0 rfl) ea_nil)) (pgb_pair rfl (bx_of bk_tr) rfl) (srcx_to srcx_enum (enum_mat n M).symm) (fun a _ => tg_pair) (.nil fun _ _ => rfl)
    (fun k hk _ C2 fp2 s2 H2 G2 => ee_ixL (ee_var 1 rfl) (ee_var 0 rfl) (at_row (List.mem_range.mp hk))) (szl (by rw [List.length_range]; omega))))) (congrArg Dt.int (rowF_sum n _))))⟩
theorem ok_le (T : Txt K mg t) : GF P w K mg base CX 2 "less_along_diagonal" 2 R_le := by
  refine ⟨_, _, _, fnR T.F_less_along_diagonal sc_less_along_diagonal rfl fun cdv A outer s H E G ds r hr hl hR => ?_, T.m_less_along_diagonal, T.k_less_along_diagonal, T.b_less_along_diagonal⟩
  obtain ⟨n, M, c, rfl, hn, hc, rfl⟩ := hR
  have h_ev := ok_ev (P := P) (w := w) (base := base) T
  have nd := sc_less_along_diagonal.nd
  refine ⟨_, .ro _, es_cons (dl1 := [.val (.lst (matD n M)), .val (.int c), .val (.lst (matD n Im))]) (es_set 2 nd (ee_ol (eo_gf h_ev nox0 hr (ea_cons (ee_to (ee_lenL T.z_len (ee_var 0 rfl)) (congrArg Dt.int (show (((matD n M).length : Nat) : Int) = ((n : Nat) : Int) by rw [matD_len]))) ea_nil) ⟨n, rfl, hn, rfl⟩))) ?_⟩
  refine es_one (es_retO (eo_to (eo_lcx (List.range n) (fun (k : Nat) => Dt.tup [.int k, liD (rowF n (M k))]) (fun k => liD (rowF n fun q => M k q - c * Im k q)) (fun (k : Nat) => [.val (.int k), .val (liD (rowF n (M k)))]) (fun _ => true) rfl (bx_of bk_le) (pi_enum rfl T.z_enumerate (ea_cons (ee_var 0 rfl) ea_nil)) (pgb_pair rfl (bx_of bk_le) rfl) (srcx_to srcx_enum (enum_mat n M).symm) (fun a _ => tg_pair) (.nil fun _ _ => rfl)
    (fun k hk _ C2 fp2 s2 H2 G2 => ?_) (szl (by rw [List.length_range]; omega))) (congrArg Own.lst (matD_is n fun r q => M r q - c * Im r q))))
  have hkn := List.mem_range.mp hk
  refine lst_of (rowD_is n fun q => M k q - c * Im k q) (eo_lcx (List.range n) (fun (q : Nat) => Dt.tup [.int (M k q), .int (Im k q)]) (fun q => Dt.int (M k q - c * Im k q)) (fun (q : Nat) => [.val (.int (M k q)), .val (.int (Im k q))]) (fun _ => true) rfl (bx_of bk_le2) (pi_zip rfl T.z_zip (ea_cons (ee_var 1 rfl) (ea_cons (ee_ixL (ee_var 3 rfl) (ee_var 0 rfl) (at_mat hkn)) ea_nil))) (pgb_pair rfl (bx_of bk_le2) rfl) (srcx_to (srcx_zip (.lst _) (.lst _)) (zip_row n (M k) (Im k)).symm) (fun a _ => tg_pair) (.nil fun _ _ => rfl)
    (fun q hq _ C3 fp3 s3 H3 G3 => ?_) (szl (by rw [List.length_range]; omega)))
  refine ee_sub (ee_var 0 rfl) (ee_mul (ee_var 2 rfl) (ee_var 1 rfl) (mulok_le (y := 1) hc ?_ p100 (by decide)))
  unfold Im
  by_cases h : k = q <;> simp [h]
end
theorem b336 {k : Nat} (h : k ≤ 6) : 336 ^ k ≤ 2 ^ 100 := Nat.le_trans (pow_336 h) (by decide)
theorem b336' {k : Nat} (h : k ≤ 6) : 288 * 336 ^ k ≤ 2 ^ 100 := Nat.le_trans (Nat.mul_le_mul_left _ (pow_336 h)) (by decide)
section
variable {P : Program} {w : World} {K : PySem.W.Frag} {mg : Str → Option Value} {base : Heap} {t : Adr}
theorem ok_ru (T : Txt K mg t) : GF P w K mg base CX 4 "rule" 1 (R_ru t) := by
  refine ⟨_, _, _, fnR T.F_rule sc_rule rfl fun cdv A outer s H E G ds r hr hl hR => ?_, T.m_rule, T.k_rule, T.b_rule⟩
  obtain ⟨six, rows, rfl, ok, rfl⟩ := hR
  have h_gt := ok_gt (P := P) (w := w) (base := base) T
  have h_ev := ok_ev (P := P) (w := w) (base := base) T
  have h_pr := ok_pr (P := P) (w := w) (base := base) T
  have h_tr := ok_tr (P := P) (w := w) (base := base) T
  have h_le := ok_le (P := P) (w := w) (base := base) T
  have nd := sc_rule.nd
  obtain ⟨n, en⟩ : ∃ n, n = rows.length := ⟨_, rfl⟩
  obtain ⟨M, eM⟩ : ∃ M, M = Aof rows := ⟨_, rfl⟩
  have h6 : n ≤ 6 := by rw [en]; exact ok.le
  have bA : bdd n 8 M := by rw [en, eM]; exact Aof_bd ok
  rw [← en, ← eM]
  let S : Nat → List Slot := fun k => [.val (t.ruD six rows), .val (.lst (matD n M)), .own (.lst ((rowF k (flN n M)).map .int)), .val (.lst (matD n (flB n M k))), .unk, .unk, .unk]
  refine ⟨_, .ro _, es_cons (dl1 := [.val (t.ruD six rows), .val (.lst (matD n M)), .unk, .unk, .unk, .unk, .unk]) (es_set 1 nd (ee_to (ee_ol (eo_gf h_gt nox0 hr (ea_cons (ee_var 0 rfl) ea_nil) ⟨six, rows, rfl, ok, rfl⟩)) (by rw [en, eM]))) ?_⟩
  refine es_cons (dl1 := [.val (t.ruD six rows), .val (.lst (matD n M)), .own (.lst []), .unk, .unk, .unk, .unk]) (es_setO 2 nd (eo_lst ea_nil (Nat.le_of_ble_eq_true rfl))) ?_
  refine es_cons (dl1 := S 0) (es_set 3 nd (ee_to (ee_ol (eo_gf h_ev nox0 hr (ea_cons (ee_to (ee_lenL T.z_len (ee_var 1 rfl)) (congrArg Dt.int (show (((matD n M).length : Nat) : Int) = ((n : Nat) : Int) by rw [matD_len]))) ea_nil) ⟨n, rfl, h6, rfl⟩)) rfl)) ?_
  have e1 : (List.range n).map (fun (k : Nat) => Dt.int (1 + (k : Int))) = (List.range (((n : Int) + 1 - 1).toNat)).map fun (k : Nat) => .int (1 + (k : Int)) := by rw [show ((n : Int) + 1 - 1).toNat = n by omega]
  refine es_cons (dl1 := S n) (es_forx (o := .nx (S n)) (m := n) (List.range n) (fun (k : Nat) => Dt.int (1 + (k : Int))) (fun (k : Nat) dl => dl.set 4 (.val (.int (1 + (k : Int))))) S rfl PassesOwn.leaving (pi_range2 rfl T.z_range (ea_cons ee_int (ea_cons (ee_add (ee_to (ee_lenL T.z_len (ee_var 1 rfl)) (congrArg Dt.int (show (((matD n M).length : Nat) : Int) = ((n : Nat) : Int) by rw [matD_len]))) ee_int) ea_nil))) (srcx_to (srcx_range2 ⟨by omega, by omega, by omega, by omega⟩) e1) (pg_name nd rfl (.inl rfl)) (fun a _ => ts_name) (Le.of ⟨rfl, rfl, rfl, rfl, trivial⟩) (by rw [List.length_range]; exact Nat.le_refl _) (fun k a hk ha => ?body) (by rw [List.length_range]; exact .all rfl)) (es_one (es_retV 2))
  case body =>
    rw [List.getElem?_range hk] at ha
    cases ha
    have hk6 : k ≤ 6 := by omega
    have bk := fl_bd h6 bA k
    have bn := flN_bd h6 bA k
    obtain ⟨g, eg⟩ : ∃ g : Nat → Vc, g = fun r q => sm n fun p => M r p * flB n M k p q := ⟨_, rfl⟩
    have etr : (sm n fun q => g q q) / (1 + (k : Int)) = flN n M k := by rw [eg]; unfold flN; rw [Int.add_comm 1]
    have ele : (matD n fun r q => g r q - flN n M k * Im r q) = matD n (flB n M (k + 1)) := by
      unfold matD
      rw [matF_congr]
      intro r q _ _
      rw [eg]
      show _ - flN n M k * Im r q = (sm n fun p => M r p * flB n M k p q) - (if r = q then flN n M k else 0)
      unfold Im
      by_cases h : r = q <;> simp [h]
    have eap : (rowF (k + 1) (flN n M)).map Dt.int = (rowF k (flN n M)).map Dt.int ++ [.int (flN n M k)] := by
      unfold rowF; rw [List.range_succ, List.map_append, List.map_append]; rfl
    let D : Slot → Slot → Slot → Slot → List Slot := fun a b c d => [.val (t.ruD six rows), .val (.lst (matD n M)), a, b, .val (.int (1 + (k : Int))), c, d]
    let a0 : Slot := .own (.lst ((rowF k (flN n M)).map .int))
    let b0 : Slot := .val (.lst (matD n (flB n M k)))
    refine .nx (dl' := D (.own (.lst ((rowF (k + 1) (flN n M)).map .int))) (.val (.lst (matD n (flB n M (k + 1))))) (.val (.lst (matD n g))) (.val (.int (flN n M k)))) ?_ (Le.of ⟨rfl, rfl, rfl, rfl, trivial⟩)
    refine es_cons (dl1 := D a0 b0 (.val (.lst (matD n g))) .unk) (es_set 5 nd (ee_to (ee_ol (eo_gf h_pr nox0 hr (ea_cons (ee_var 1 rfl) (ea_cons (ee_var 3 rfl) ea_nil)) ⟨n, M, flB n M k, rfl, h6, fun r q h1 h2 => Nat.le_trans (bA r q h1 h2) (by decide), fun r q h1 h2 => Nat.le_trans (bk r q h1 h2) (b336 hk6), rfl⟩)) (by rw [eg]))) ?_
    refine es_cons (dl1 := D a0 b0 (.val (.lst (matD n g))) (.val (.int (flN n M k)))) (es_set 6 nd (ee_to (ee_fdiv (ee_gf h_tr nox0 hr (ea_cons (ee_var 5 rfl) ea_nil) ⟨n, g, rfl, h6, rfl⟩) (ee_var 4 rfl) ⟨by omega, ?_⟩) (congrArg Dt.int etr))) ?_
    · have : (1 + (k : Int)).natAbs = k + 1 := by omega
      rw [this]
      exact Nat.lt_of_le_of_lt (Nat.log2_le_self _) (by omega)
    refine es_cons (dl1 := D (.own (.lst ((rowF (k + 1) (flN n M)).map .int))) b0 (.val (.lst (matD n g))) (.val (.int (flN n M k)))) ?_ ?_
    · rw [eap]
      exact es_append (ds := (rowF k (flN n M)).map .int) 2 (ee_var 6 rfl) (by rw [List.length_map, rowF_len]; exact Nat.lt_of_le_of_lt (show k ≤ 1000 by omega) (by decide))
    · exact es_one (es_set 3 nd (ee_to (ee_ol (eo_gf h_le nox0 hr (ea_cons (ee_var 5 rfl) (ea_cons (ee_var 6 rfl) ea_nil)) ⟨n, g, flN n M k, rfl, h6, Nat.le_trans bn (b336' hk6), rfl⟩)) (congrArg Dt.lst ele)))
end
def cntV (L w : List Nat) : Vc := fun i => ((w.count (L.getD i 0) : Nat) : Int)
def rdD (wd M : Nat) (V : Nat → Vc) : List Dt := (List.range M).map fun t => liD (rowF wd (V t))
theorem rdD_len (wd M : Nat) (V : Nat → Vc) : (rdD wd M V).length = M := by unfold rdD; rw [List.length_map, List.length_range]
theorem rdD_get {wd M : Nat} {V : Nat → Vc} {t : Nat} (h : t < M) : (rdD wd M V)[t]? = some (liD (rowF wd (V t))) := by
  unfold rdD; rw [List.getElem?_map, List.getElem?_range h]; rfl
theorem at_rd {wd M : Nat} {V : Nat → Vc} {t : Nat} (h : t < M) : atI (rdD wd M V) (t : Int) = some (liD (rowF wd (V t))) := atI_nat (rdD_get h)
theorem at_rdb {wd M : Nat} {V : Nat → Vc} {k : Nat} (h : k < M) : atI (rdD wd M V) (-((k + 1 : Nat) : Int)) = some (liD (rowF wd (V (M - 1 - k)))) := by
  unfold atI ixN
  rw [if_neg (by omega), rdD_len, if_pos (by omega)]
  show (rdD wd M V)[(-((k + 1 : Nat) : Int) + (M : Int)).toNat]? = _
  rw [show (-((k + 1 : Nat) : Int) + (M : Int)).toNat = M - 1 - k by omega, rdD_get (by omega)]
theorem rdD_S (wd M : Nat) (V : Nat → Vc) : rdD wd (M + 1) V = rdD wd M V ++ [liD (rowF wd (V M))] := by
  unfold rdD; rw [List.range_succ, List.map_append]; rfl
theorem rdD_take {wd M k : Nat} {V : Nat → Vc} (h : k ≤ M) : (rdD wd M V).take k = rdD wd k V := by
  unfold rdD; rw [← List.map_take, List.take_range, Nat.min_eq_left h]
theorem enum1_row (n : Nat) (v : Vc) : enumD1 ((rowF n v).map Dt.int) = (List.range n).map fun (k : Nat) => .tup [.int ((k + 1 : Nat) : Int), .int (v k)] := by
  unfold enumD1
  rw [List.length_map, rowF_len]
  refine List.map_congr_left fun k hk => ?_
  rw [List.getD_eq_getElem?_getD, List.getElem?_map, rowF_get (List.mem_range.mp hk)]; rfl
def R_nr : Rl := fun ds r => ∃ (n wd M : Nat) (f : Vc) (V : Nat → Vc), ds = [.lst ((rowF n f).map .int), .lst (rdD wd M V)] ∧ (n ≤ 6 ∧ wd ≤ 10 ∧ n ≤ M ∧ 0 < M ∧ M ≤ 100) ∧ (∀ k, k < n → (f k).natAbs ≤ 2 ^ 2000) ∧ (∀ t c, t < M → c < wd → (V t c).natAbs ≤ 2 ^ 2000) ∧ r = .own (.lst ((rowF wd fun c => sm n fun k => f k * V (M - 1 - k) c).map .int))
theorem p2000 : 2 ^ 2000 < 2 ^ 3000 := Nat.pow_lt_pow_right (by decide) (by decide)
abbrev bS_nr : Scope := scR1 ((defBody s_next_row).getD 0 (.Pass ⟨0, 0, 0, 0⟩))
abbrev bS_nr2 : Scope := scR3 ((defBody s_next_row).getD 0 (.Pass ⟨0, 0, 0, 0⟩))
abbrev rl_nr : Scope := relabel bS_nr (envS (defScope s_next_row))
theorem bk_nr : chkBc bS_nr (defScope s_next_row) n_next_row ["column", "rule", "rows"] "column" [0, 1] = true := by decide +kernel
theorem bk_nr2 : chkBx bS_nr2 rl_nr ["column", "rule", "rows"] ["back", "number", "rows", "column"] ["back", "number"] [2, 0] = true := by decide +kernel
section
variable {P : Program} {w : World} {K : PySem.W.Frag} {mg : Str → Option Value} {base : Heap} {t : Adr}
theorem ok_nr (T : Txt K mg t) : GF P w K mg base CX 1 "next_row" 2 R_nr := by
  refine ⟨_, _, _, fnR T.F_next_row sc_next_row rfl fun cdv A outer s H E G ds r hr hl hR => ?_, T.m_next_row, T.k_next_row, T.b_next_row⟩
  obtain ⟨n, wd, M, f, V, rfl, ⟨hn, hwd, hnM, hM0, hM⟩, bf, bV, rfl⟩ := hR
  have elast : atI (rdD wd M V) (-1) = some (liD (rowF wd (V (M - 1 - 0)))) := at_rdb (k := 0) hM0
  refine ⟨_, .ro _, es_one (es_retO (eo_to (eo_lcc (List.range wd) (fun (c : Nat) => Dt.int (c : Nat)) (fun c => Dt.int (sm n fun k => f k * V (M - 1 - k) c)) (fun (c : Nat) => [.val (.int (c : Nat))]) (fun _ => true) rfl (bc_of bk_nr) (pi_range1 rfl T.z_range (ea_cons (ee_to (ee_lenL T.z_len (ee_ixL (ee_var 1 rfl) (ee_neg ee_int) elast)) (congrArg Dt.int (show ((((rowF wd (V (M - 1 - 0))).map Dt.int).length : Nat) : Int) = ((wd : Nat) : Int) by rw [List.length_map, rowF_len]))) ea_nil)) (pgc_name (bc_of bk_nr)) (srcx_range1 (j := wd) ⟨by omega, by omega⟩) (fun a _ => tg_name) (.nil fun _ _ => rfl)
      (fun c hc _ cc C fp s' H' G' => ?_) (szl (by rw [List.length_range]; omega))) (congrArg Own.lst (rowD_is _ _))))⟩
  have hcw : c < wd := List.mem_range.mp hc
  refine ee_to (ee_sum T.z_sum rfl (lst_of (rowD_is n fun k => f k * V (M - 1 - k) c) (eo_lcx (List.range n) (fun k => Dt.tup [.int ((k + 1 : Nat) : Int), .int (f k)]) (fun k => Dt.int (f k * V (M - 1 - k) c)) (fun k => [.val (.int ((k + 1 : Nat) : Int)), .val (.int (f k))]) (fun _ => true) rfl (bx_of bk_nr2) (pi_enum1 rfl T.z_enumerate (ea_cons (ee_var 1 rfl) ea_nil)) (pgb_pair rfl (bx_of bk_nr2) rfl) (srcx_to srcx_enum1 (enum1_row n f).symm) (fun a _ => tg_pair) (.nil fun _ _ => rfl)
    (fun k hk _ C2 fp2 s2 H2 G2 => ?_) (szl (by rw [List.length_range]; omega))))) (congrArg Dt.int (rowF_sum n _))
  have hkn : k < n := List.mem_range.mp hk
  exact ee_mul (ee_var 1 rfl) (ee_ixL (ee_ixL (ee_var 2 rfl) (ee_neg (ee_var 0 rfl)) (at_rdb (by omega))) (ee_var 3 rfl) (at_row hcw)) (mulok_le (bf k hkn) (bV _ c (by omega) hcw) p2000 p2000)
end
theorem vgr_bd {n : Nat} {A : Nat → Vc} {v : Vc} (hn : n ≤ 6) (hA : bdd n 8 A) (hv : ∀ i, i < n → (v i).natAbs ≤ 2 ^ 10) : ∀ (t q : Nat), q < n → (vgr n A v t q).natAbs ≤ 2 ^ (10 + 6 * t)
  | 0, q, hq => hv q hq
  | t + 1, q, hq => by
    have i := vgr_bd hn hA hv t
    refine Nat.le_trans (sm_abs (b := 2 ^ (10 + 6 * t) * 8) fun r hr => mul_abs (i r hr) (hA r q hr hq)) ?_
    rw [show 10 + 6 * (t + 1) = (10 + 6 * t) + 6 by omega, Nat.pow_add 2 (10 + 6 * t) 6]
    generalize 2 ^ (10 + 6 * t) = z
    have : n * (z * 8) ≤ 6 * (z * 8) := Nat.mul_le_mul_right _ hn
    omega
def Vlt (n : Nat) (A : Nat → Vc) (v : Vc) (t : Nat) : Vc := fun c => if c < n then vgr n A v t c else sm n (vgr n A v t)
theorem Vlt_rule {n : Nat} {A : Nat → Vc} (hA : ∀ r p, n ≤ p → A r p = 0) (v : Vc) {a c : Nat} (ha : n ≤ a) (hc : c < n + 1) : (sm n fun j => flN n A j * Vlt n A v (a - 1 - j) c) = Vlt n A v a c := by
  have r := fun q (hq : q < n) => fl_rule n A hA v (a - n) q hq
  rw [show a - n + n = a by omega] at r
  unfold Vlt
  by_cases h : c < n
  · rw [if_pos h, r c h]
    exact sm_congr fun j _ => by rw [if_pos h]
  · rw [if_neg h, sm_congr r, sm_swap]
    exact sm_congr fun j _ => by rw [if_neg h, sm_mul]
theorem Vlt_bd {n : Nat} {A : Nat → Vc} {v : Vc} (hn : n ≤ 6) (hA : bdd n 8 A) (hv : ∀ i, i < n → (v i).natAbs ≤ 2 ^ 10) {t : Nat} (ht : t ≤ 250) (c : Nat) : (Vlt n A v t c).natAbs ≤ 2 ^ 2000 := by
  have b : ∀ q, q < n → (vgr n A v t q).natAbs ≤ 2 ^ 1600 := fun q hq => Nat.le_trans (vgr_bd hn hA hv t q hq) (Nat.pow_le_pow_right (by decide) (by omega))
  have e : 2 ^ 1603 ≤ 2 ^ 2000 := Nat.pow_le_pow_right (by decide) (by decide)
  have e3 : 2 ^ 1603 = 2 ^ 1600 * 8 := by rw [show 1603 = 1600 + 3 by rfl, Nat.pow_add]
  unfold Vlt
  split
  · rename_i h
    exact Nat.le_trans (b c h) (Nat.pow_le_pow_right (by decide) (by decide))
  · refine Nat.le_trans (sm_abs b) (Nat.le_trans ?_ e)
    rw [e3, Nat.mul_comm]
    exact Nat.mul_le_mul_left _ (by omega)
theorem cntV_bd {L w : List Nat} (h : w.length ≤ 1000) (i : Nat) : (cntV L w i).natAbs ≤ 2 ^ 10 := by
  unfold cntV
  rw [Int.natAbs_natCast]
  exact Nat.le_trans List.count_le_length (by omega)
theorem flN_b {n : Nat} {A : Nat → Vc} (hn : n ≤ 6) (hA : bdd n 8 A) {k : Nat} (hk : k < n) : (flN n A k).natAbs ≤ 2 ^ 2000 := Nat.le_trans (flN_bd hn hA k) (Nat.le_trans (b336' (by omega)) (Nat.pow_le_pow_right (by decide) (by decide)))
section
variable {X : Cx} {G : Gr} {dl : List Slot} {a : Expr} {p pos : Pos}
theorem call_lenDF : CallR X (.builtin "len") (fun xs H Q => ∃ a kvs, xs = [V.ref a] ∧ Rd H a (.dK kvs) ∧ Q (.int kvs.length) H) := by
  intro pins s σ H xs us Q I r h
  obtain ⟨a, kvs, rfl, ha, q⟩ := h
  obtain ⟨u, rfl, ru⟩ := vals1 r
  cases ru
  exact d_len I ha fun t s' I' => ⟨.int kvs.length, H, I', ⟨t, rfl⟩, q⟩
theorem ee_lenF {kds : List (Key × Dt)} (hm : X.mg "len" = none) (ha : EE X G dl a (.dicF kds)) (hg : Gl X "len" := by rfl) (he : starEach [a] X.env = [(false, eval a X.env)] := by rfl) : EE X G dl (.Call (.Name "len" p) [a] [] pos) (.int kds.length) :=
  peI (pe_callB call_lenDF hg hm PySem.boot_len (ea_cons ha ea_nil he) (he := he)) fun st H Q ⟨Hf, S, k⟩ => ⟨Hf, S, fun vs Hf1 H1 g1 r1 => by
    cases r1 with
    | cons r t => cases t; cases r with
      | @dicF q ob kvs _ z w => exact ⟨q, kvs, rfl, .inr (.inl ⟨ob, g1.sub _ _ z⟩), by rw [w.length]; exact k _ Hf1 H1 g1 (.int _)⟩⟩
def NonD (d : Dt) (u : Bool) : Prop := ∀ K H v, Rep K H v d → decide (v = V.non) = u
theorem nonD_lst {ds : List Dt} : NonD (.lst ds) false := fun K H v r => by cases r; rfl
theorem eb_isN {jk : Nat} {pq : Pos} {d : Dt} {u : Bool} (hd : NonD d u) (ha : EE X G dl a d) : EB X G dl (.Compare a [.Is] [.Constant .none jk pq] pos) u :=
  ptI (pt_cmp (pc_isN ha)) fun st H Q ⟨Hf, S, k⟩ => ⟨Hf, S, fun v Hf1 H1 g1 r1 => ⟨u, congrArg V.bl (hd _ _ _ r1), k Hf1 H1 g1⟩⟩
end
def CV (rows : List Row) (w : List Nat) (age : Nat) : Vc := fun c => if c < rows.length then cnT rows w age ((rows.map (·.c)).getD c 0) else lnT rows w age
theorem map_range {L : List Nat} (f : Nat → Int) : L.map f = (List.range L.length).map fun i => f (L.getD i 0) := by
  refine List.ext_getElem (by simp) fun i h1 h2 => ?_
  simp only [List.getElem_map, List.getElem_range]
  rw [List.getD_eq_getElem?_getD, List.getElem?_eq_getElem (by simpa using h1)]; rfl
theorem sum_idx (L : List Nat) (f : Nat → Int) : (L.map f).sum = sm L.length fun i => f (L.getD i 0) := by rw [map_range, sum_sm]
theorem cn_vgr {rows : List Row} {w : List Nat} (ok : GrOk rows w) : ∀ (k q : Nat), q < rows.length → cnT rows w k ((rows.map (·.c)).getD q 0) = vgr rows.length (Aof rows) (cntV (rows.map (·.c)) w) k q
  | 0, q, _ => cnT_0 rows w _
  | k + 1, q, hq => by
    rw [cnT_lin ok, sum_idx, List.length_map]
    show _ = sm rows.length fun r => vgr rows.length (Aof rows) (cntV (rows.map (·.c)) w) k r * Aof rows r q
    refine sm_congr fun r hr => ?_
    rw [cn_vgr ok k r hr]
    unfold Aof
    rw [if_pos hq]
theorem ln_vgr {rows : List Row} {w : List Nat} (ok : GrOk rows w) (k : Nat) : lnT rows w k = sm rows.length (vgr rows.length (Aof rows) (cntV (rows.map (·.c)) w) k) := by
  rw [lnT_sum, sum_idx, List.length_map]
  exact sm_congr fun r hr => cn_vgr ok k r hr
theorem CV_is {rows : List Row} {w : List Nat} (ok : GrOk rows w) (k : Nat) : CV rows w k = Vlt rows.length (Aof rows) (cntV (rows.map (·.c)) w) k := by
  funext c
  unfold CV Vlt
  by_cases h : c < rows.length
  · rw [if_pos h, if_pos h, cn_vgr ok k c h]
  · rw [if_neg h, if_neg h, ln_vgr ok]
theorem valD_kc {L : List Nat} {T : Nat → Int} {x : Nat} (h : x ∈ L) : valD (dI (kc L T)) (.inr (sg x)) = some (.int (T x)) := by rw [dI_kc]; exact valD_kd h
def R_lrow (t : Adr) : Rl := fun ds r => ∃ six rows w l ls n age, ds = [.obj t.C_Growth (t.groO six rows w l ls n), .int ((age : Nat) : Int), .str (tx (rows.map (·.c)))] ∧ GrOk rows w ∧ ls.map (·.2) = gsOf rows ∧ age ≤ 200 ∧ r = .own (.lst ((rowF (rows.length + 1) (CV rows w age)).map .int))
def dC3 (ns : List Int) : Bool := decide (cellAt ns 3 % 4 = 1)
def dAge (ns : List Int) : Nat := (if dC3 ns then cellAt ns 3 / 4 % 195 else cellAt ns 3 / 4 % 13).toNat
def dL (ns : List Int) : List Nat := if dC3 ns then (lets (cellAt ns 1)).take 3 else lets (cellAt ns 1)
def dRows (ns : List Int) : List Row := rowsOf (dL ns) (ns.drop 4) (if dC3 ns then 3 else 8)
def R_drawn : Rl := fun ds r => ∃ ns : List Int, ds = [.scr ns] ∧ ns.length ≤ 63 ∧ r = .ret (.tup [.int ((dAge ns : Nat) : Int), .str (tx (dL ns)), .lst ((dRows ns).map rwD)])
theorem dL_ok (ns : List Int) : 0 < (dL ns).length ∧ (dL ns).length ≤ 6 ∧ (dL ns).Nodup ∧ ∀ x ∈ dL ns, small x := by
  obtain ⟨h1, h2, h3, h4⟩ := lets_ok (cellAt ns 1)
  unfold dL
  split
  · exact ⟨by rw [List.length_take]; omega, by rw [List.length_take]; omega, h3.sublist (List.take_sublist _ _), fun x hx => h4 x (List.mem_of_mem_take hx)⟩
  · exact ⟨h1, h2, h3, h4⟩
theorem dRows_ok (ns : List Int) : RowsOk (dRows ns) := by
  obtain ⟨h1, h2, h3, h4⟩ := dL_ok ns
  exact rows_ok _ (by split <;> omega) h1 h2 h3 h4
theorem dAge_b (ns : List Int) : dAge ns ≤ 194 := by unfold dAge; split <;> omega
theorem okD_li (l : List Int) : plains (l.map Dt.int) = true ∧ PyData.canLayAll0 (pds (l.map Dt.int)) = true ∧ PyData.depthAll (pds (l.map Dt.int)) = 0 := by
  induction l with
  | nil => simp [plains, pds, PyData.canLayAll0, PyData.depthAll]
  | cons y ys ih =>
    obtain ⟨i1, i2, i3⟩ := ih
    rw [List.map_cons]
    refine ⟨by rw [plains, i1]; simp [Sg.plain], by simp [pds, pd, PyData.canLayAll0, PyData.canLay0, i2], by simp [pds, pd, PyData.depthAll, PyData.depth, i3]⟩
theorem okD_l1 (l : List Int) : okD (.lst (l.map .int)) := by
  obtain ⟨j1, j2, j3⟩ := okD_li l
  refine ⟨by rw [Sg.plain]; exact j1, ?_⟩
  unfold SeqAt.shaped
  rw [pd]
  simp [PyData.canLay0, PyData.depth, j2, j3]
abbrev scAs : Stmt → Scope
  | .Assign _ (.ListComp _ _ sc _) _ => sc
  | _ => defScope (.Pass ⟨0, 0, 0, 0⟩)
abbrev bS_ah : Scope := scAs ((defBody s_law).getD 8 (.Pass ⟨0, 0, 0, 0⟩))
theorem bk_ah : chkBx bS_ah (defScope s_law) n_law ["_law_line"] ["_law_line"] [] = true := by decide +kernel
theorem cut_last {wd n : Nat} {V : Nat → Vc} : Sg.cutD (rdD wd (n + 1) V) none (some (-1)) = rdD wd n V := by
  unfold Sg.cutD
  rw [rdD_len]
  have e1 : HT.sIx (n + 1) 0 none = 0 := rfl
  have e2 : HT.sIx (n + 1) (n + 1) (some (-1)) = n := by
    unfold HT.sIx
    simp
    try omega
  rw [e1, e2, List.drop_zero, Nat.sub_zero, rdD_take (by omega)]
section
variable {P : Program} {w : World} {K : PySem.W.Frag} {mg : Str → Option Value} {base : Heap} {t : Adr}
theorem ok_drawn (T : Txt K mg t) : GF P w K mg base CX 3 "_law_drawn" 1 R_drawn := by
  refine ⟨_, _, _, fnR T.F_drawn sc_drawn rfl fun cdv A outer s H E G ds r hr hl hR => ?_, T.m_drawn, T.k_drawn, T.b_drawn⟩
  obtain ⟨ns, rfl, hlen, rfl⟩ := hR
  have nd := sc_drawn.nd
  have h_cell := ok_cell (P := P) (w := w) (base := base) T
  have h_letters := ok_letters (P := P) (w := w) (base := base) T
  have h_rows := ok_rows (P := P) (w := w) (base := base) T
  have hL := dL_ok ns
  have h6 := (lets_ok (cellAt ns 1)).2.1
  have c1 := cellAt_nn ns 1
  have c3 := cellAt_nn ns 3
  refine ⟨_, .rt _, es_cons (dl1 := [.val (.scr ns), .val (.int (cellAt ns 3)), .unk]) (es_set 1 nd (ee_gf h_cell nox0 hr (ea_cons (ee_var 0 rfl) (ea_cons ee_int ea_nil)) ⟨ns, 3, rfl, by decide, rfl⟩)) ?_⟩
  by_cases h : cellAt ns 3 % 4 = 1
  · have e : dC3 ns = true := decide_eq_true h
    have eL : dL ns = (lets (cellAt ns 1)).take 3 := by unfold dL; rw [if_pos e]
    have eA : cellAt ns 3 / 4 % 195 = ((dAge ns : Nat) : Int) := by unfold dAge; rw [if_pos e]; omega
    have eR : dRows ns = rowsOf (dL ns) (ns.drop 4) 3 := by unfold dRows; rw [if_pos e]
    refine es_stop (es_if (u := true) (eb_to (eb_eqI (ee_mod (ee_var 1 rfl) ee_int (by decide)) ee_int) (decide_eq_true h)) (fun _ => ?_) (fun h => nomatch h))
    refine es_cons (dl1 := [.val (.scr ns), .val (.int (cellAt ns 3)), .val (.str (tx (dL ns)))]) (es_set 2 nd (ee_to (ee_toN (k := 3) (ee_gf h_letters nox0 hr (ea_cons (ee_gf h_cell nox0 hr (ea_cons (ee_var 0 rfl) (ea_cons ee_int ea_nil)) ⟨ns, 1, rfl, by decide, rfl⟩) ea_nil) ⟨cellAt ns 1, rfl, c1, rfl⟩) ee_int (by omega)) (by rw [eL]))) ?_
    exact es_one (es_ret (ee_tup (ea_cons (ee_to (ee_mod (ee_fdiv (ee_var 1 rfl) ee_int ⟨by decide, by decide⟩) ee_int (by decide)) (congrArg Dt.int eA)) (ea_cons (ee_var 2 rfl) (ea_cons (ee_to (ee_ol (eo_gf h_rows nox0 hr (ea_cons (ee_var 2 rfl) (ea_cons (ee_fromC (k := 4) (ee_var 0 rfl) ee_int) (ea_cons ee_int ea_nil))) ⟨dL ns, ns.drop 4, 3, rfl, ⟨hL.1, hL.2.1⟩, ⟨by decide, by decide⟩, rfl⟩)) (by rw [eR])) ea_nil))) (Nat.le_of_ble_eq_true rfl)))
  · have e : dC3 ns = false := decide_eq_false h
    have eL : dL ns = lets (cellAt ns 1) := by unfold dL; rw [e]; rfl
    have eA : cellAt ns 3 / 4 % 13 = ((dAge ns : Nat) : Int) := by unfold dAge; rw [e]; simp; omega
    have eR : dRows ns = rowsOf (dL ns) (ns.drop 4) 8 := by unfold dRows; rw [e]; rfl
    refine es_cons (dl1 := [.val (.scr ns), .val (.int (cellAt ns 3)), .unk]) (es_if (u := false) (eb_to (eb_eqI (ee_mod (ee_var 1 rfl) ee_int (by decide)) ee_int) (decide_eq_false h)) (fun h => nomatch h) (fun _ => es_nil)) ?_
    refine es_cons (dl1 := [.val (.scr ns), .val (.int (cellAt ns 3)), .val (.str (tx (dL ns)))]) (es_set 2 nd (ee_to (ee_gf h_letters nox0 hr (ea_cons (ee_gf h_cell nox0 hr (ea_cons (ee_var 0 rfl) (ea_cons ee_int ea_nil)) ⟨ns, 1, rfl, by decide, rfl⟩) ea_nil) ⟨cellAt ns 1, rfl, c1, rfl⟩) (by rw [eL]))) ?_
    exact es_one (es_ret (ee_tup (ea_cons (ee_to (ee_mod (ee_fdiv (ee_var 1 rfl) ee_int ⟨by decide, by decide⟩) ee_int (by decide)) (congrArg Dt.int eA)) (ea_cons (ee_var 2 rfl) (ea_cons (ee_to (ee_ol (eo_gf h_rows nox0 hr (ea_cons (ee_var 2 rfl) (ea_cons (ee_fromC (k := 4) (ee_var 0 rfl) ee_int) (ea_cons ee_int ea_nil))) ⟨dL ns, ns.drop 4, 8, rfl, ⟨hL.1, hL.2.1⟩, ⟨by decide, by decide⟩, rfl⟩)) (by rw [eR])) ea_nil))) (Nat.le_of_ble_eq_true rfl)))
theorem ok_lrow (T : Txt K mg t) : GF P w K mg base CX 7 "_law_row" 3 (R_lrow t) := by
  refine ⟨_, _, _, fnR T.F_row sc_row rfl fun cdv A outer s H E G ds r hr hl hR => ?_, T.m_row, T.k_row, T.b_row⟩
  obtain ⟨six, rows, wd, l, ls, n, age, rfl, ok, hgs, hage, rfl⟩ := hR
  have nd := sc_row.nd
  have m_cnt := ok_gcnt (P := P) (w := w) (base := base) T
  have m_len := ok_glen (P := P) (w := w) (base := base) T
  have h_whole := ok_whole (P := P) (w := w) (base := base) T
  have hu : (A.deeper (envOfC "_law_row" (defScope s_row) s.heap.objs.size t.f_row cdv)).units + 1 < cLine := by have := hr.units; omega
  obtain ⟨L, eL⟩ : ∃ L, L = rows.map (·.c) := ⟨_, rfl⟩
  have hL : L.length = rows.length := by rw [eL, List.length_map]
  have h6 := ok.ok.le
  have h7 : ∀ x ∈ L, x < 128 := by rw [eL]; exact ok.ok.lt
  obtain ⟨C, eC⟩ : ∃ C, C = cnT rows wd age := ⟨_, rfl⟩
  rw [← eL]
  let D : Slot → Slot → Slot → Slot → List Slot := fun a b c d => [.val (.obj t.C_Growth (t.groO six rows wd l ls n)), .val (.int ((age : Nat) : Int)), .val (.str (tx L)), a, b, c, d]
  let ct : Slot := .val (.dicF (dI (kc L C)))
  let S : Nat → List Slot := fun k => D ct (.own (.lst (((L.take k).map C).map .int))) .unk .unk
  refine ⟨_, .ro _, es_cons (dl1 := D ct .unk .unk .unk) (es_set 3 nd (ee_oF (eo_to (eo_mf (fs := t.groO six rows wd l ls n) (ee_var 0 rfl) (mf_d m_cnt) nox0 hr (ea_cons (ee_var 1 rfl) ea_nil) ⟨six, rows, wd, l, ls, n, age, rfl, ok, hgs, hage, rfl⟩) (by rw [eL, eC])))) ?_⟩
  refine es_cons (dl1 := D ct .unk .unk .unk) (es_if (u := false) (eb_w (ew_or (u := false) (v := false) (eb_not (u := true) (eb_of (ee_isi (d := .dicF (dI (kc L C))) T.z_isinstance (ee_var 3 rfl) (ee_ty T.z_dict Sg.boot_dict) rfl trivial rfl))) fun _ => ew_or1 (eb_to (eb_neI (ee_lenF T.z_len (ee_var 3 rfl)) (ee_lenTx T.z_len (ee_var 2 rfl) (by omega))) (by rw [kc_len]; simp)))) (fun h => nomatch h) (fun h => es_nil)) ?_
  refine es_cons (dl1 := S 0) (es_setO 4 nd (eo_lst ea_nil (Nat.le_of_ble_eq_true rfl))) ?_
  refine es_cons (dl1 := S L.length) (es_forx (o := .nx (S L.length)) (m := L.length) L (fun x => Dt.str (sg x)) (fun x dl => dl.set 5 (.val (.str (sg x)))) S rfl PassesOwn.leaving (pi_str (ee_var 2 rfl)) (srcx_to (srcx_str (ascii_tx h7)) (map_sgL L)) (pg_name nd rfl (.inl rfl)) (fun a _ => ts_name) (Le.of ⟨rfl, rfl, rfl, rfl, rfl, trivial⟩) (Nat.le_refl _) (fun k a hk ha => ?body) (.all rfl)) ?_
  case body =>
    have ea : a = L[k] := by rw [List.getElem?_eq_getElem hk] at ha; exact (Option.some.inj ha).symm
    have am : a ∈ L := by rw [ea]; exact List.getElem_mem hk
    have e : ((L.take (k + 1)).map C).map Dt.int = ((L.take k).map C).map Dt.int ++ [.int (C a)] := by
      rw [List.take_add_one, List.getElem?_eq_getElem hk, List.map_append, List.map_append, ea]; rfl
    refine .nx (dl' := D ct (.own (.lst (((L.take (k + 1)).map C).map .int))) (.val (.str (sg a))) .unk) ?_ (Le.of ⟨rfl, rfl, rfl, rfl, rfl, trivial⟩)
    refine es_cons (dl1 := D ct (.own (.lst (((L.take k).map C).map .int))) (.val (.str (sg a))) .unk) (es_if (u := false) (eb_w (ew_or (u := false) (v := false) (eb_to (eb_ninF hu (ee_var 5 rfl) (ee_var 3 rfl)) (by rw [valD_kc am]; rfl)) fun _ => ew_or1 (eb_not (u := true) (eb_of (ee_gf h_whole nox0 hr (ea_cons (ee_dgetF hu (ee_var 3 rfl) (ee_var 5 rfl) (valD_kc am) (fun _ _ => rfl)) ea_nil) ⟨_, rfl, rfl⟩))))) (fun h => nomatch h) (fun h => es_nil)) ?_
    rw [e]
    exact es_one (es_append (ds := ((L.take k).map C).map .int) 4 (ee_dgetF hu (ee_var 3 rfl) (ee_var 5 rfl) (valD_kc am) (fun _ _ => rfl)) (by rw [List.length_map, List.length_map, List.length_take]; exact Nat.lt_of_le_of_lt (show min k L.length ≤ 1000 by omega) (by decide)))
  obtain ⟨sz, esz⟩ : ∃ sz, sz = lnT rows wd age := ⟨_, rfl⟩
  have esum : sz = (L.map C).sum := by rw [esz, eL, eC]; exact lnT_sum rows wd age
  show ESs _ _ _ (D ct (.own (.lst (((L.take L.length).map C).map .int))) .unk .unk) _ _
  rw [List.take_length]
  refine es_frz 4 (w := .lst ((L.map C).map .int)) ?_
  show ESs _ _ _ (D ct (.val (.lst ((L.map C).map .int))) .unk .unk) _ _
  refine es_cons (dl1 := D ct (.val (.lst ((L.map C).map .int))) .unk (.val (.int sz))) (es_set 6 nd (ee_to (ee_mf (fs := t.groO six rows wd l ls n) (ee_var 0 rfl) m_len nox0 hr (ea_cons (ee_var 1 rfl) ea_nil) ⟨six, rows, wd, l, ls, n, age, rfl, ok, hgs, hage, rfl⟩) (by rw [esz]))) ?_
  refine es_cons (dl1 := D ct (.val (.lst ((L.map C).map .int))) .unk (.val (.int sz))) (es_if (u := false) (eb_w (ew_or (u := false) (v := false) (eb_not (u := true) (eb_of (ee_gf h_whole nox0 hr (ea_cons (ee_var 6 rfl) ea_nil) ⟨_, rfl, rfl⟩))) fun _ => ew_or1 (eb_to (eb_neI (ee_var 6 rfl) (ee_sum T.z_sum rfl (ee_var 4 rfl))) (by rw [esum]; simp)))) (fun h => nomatch h) (fun h => es_nil)) ?_
  refine es_one (es_retO (eo_to (eo_cat (ee_var 4 rfl) (ee_lst (ea_cons (ee_var 6 rfl) ea_nil) (Nat.le_of_ble_eq_true rfl)) (szl (by rw [List.length_map, List.length_map]; show L.length + 1 ≤ 2000; omega))) (congrArg Own.lst ?_)))
  unfold rowF
  rw [List.range_succ, List.map_append, List.map_append]
  congr 1
  · rw [map_range, hL]
    refine congrArg _ (List.map_congr_left fun i hi => ?_)
    unfold CV
    rw [if_pos (List.mem_range.mp hi), eC, eL]
  · show [Dt.int sz] = [Dt.int (CV rows wd age rows.length)]
    unfold CV
    rw [if_neg (by omega), esz]
theorem law_fn (T : Txt K mg t) : FnOk P w K mg base CX 12 t.f_law t.d_law ["_law_script"] (spLaw K) := by
  refine fnR T.F_law sc_law rfl fun cdv A outer s H E G ds r hr hl hR => ?_
  obtain ⟨ns, hlen, rfl, rfl⟩ := hR
  have h_cell := ok_cell (P := P) (w := w) (base := base) T
  have h_drawn := ok_drawn (P := P) (w := w) (base := base) T
  have h_rules := ok_rinit (P := P) (w := w) (base := base) T
  have h_grow := ok_ginit (P := P) (w := w) (base := base) T
  have h_word := ok_word (P := P) (w := w) (base := base) T
  have h_rule := ok_ru (P := P) (w := w) (base := base) T
  have h_nr := ok_nr (P := P) (w := w) (base := base) T
  have h_row := ok_lrow (P := P) (w := w) (base := base) T
  have nd := sc_law.nd
  obtain ⟨six, esix⟩ : ∃ six, six = sixOf ns := ⟨_, rfl⟩
  obtain ⟨L, eL⟩ : ∃ L, L = dL ns := ⟨_, rfl⟩
  have hL : 0 < L.length ∧ L.length ≤ 6 ∧ L.Nodup ∧ ∀ x ∈ L, small x := by rw [eL]; exact dL_ok ns
  obtain ⟨rows, erows⟩ : ∃ rows, rows = dRows ns := ⟨_, rfl⟩
  have ok : RowsOk rows := by rw [erows]; exact dRows_ok ns
  have ec : rows.map (·.c) = L := by rw [erows, eL]; exact map_c _ _ _
  obtain ⟨n, en⟩ : ∃ n, n = rows.length := ⟨_, rfl⟩
  have hn : L.length = n := by rw [en, ← ec, List.length_map]
  have hn6 : n ≤ 6 := by omega
  have hn0 : 0 < n := by omega
  obtain ⟨M, eM⟩ : ∃ M, M = Aof rows := ⟨_, rfl⟩
  have bA : bdd n 8 M := by rw [en, eM]; exact Aof_bd ok
  have hz : ∀ r p, n ≤ p → M r p = 0 := fun r p h => by rw [eM]; exact Aof_z rows r p (by omega)
  obtain ⟨wd, ewd⟩ : ∃ wd, wd = wordL L (cellAt ns 2) 8 := ⟨_, rfl⟩
  have hw := word_ok hL.1 (cellAt ns 2) 8 (by decide)
  rw [← ewd] at hw
  have gok : GrOk rows wd := ⟨ok, hw.1, hw.2.1, by rw [ec]; exact hw.2.2⟩
  have hw8 := gok.w8
  obtain ⟨v, ev⟩ : ∃ v, v = cntV L wd := ⟨_, rfl⟩
  have bv : ∀ i, i < n → (v i).natAbs ≤ 2 ^ 10 := fun i _ => by rw [ev]; exact cntV_bd (by omega) i
  obtain ⟨f, ef⟩ : ∃ f, f = flN n M := ⟨_, rfl⟩
  have bf : ∀ k, k < n → (f k).natAbs ≤ 2 ^ 2000 := fun k hk => by rw [ef]; exact flN_b hn6 bA hk
  obtain ⟨ag, eag⟩ : ∃ ag, ag = dAge ns := ⟨_, rfl⟩
  have hag : ag ≤ 194 := by rw [eag]; exact dAge_b ns
  obtain ⟨V, eV⟩ : ∃ V : Nat → Vc, V = fun k => Vlt n M v (ag + k) := ⟨_, rfl⟩
  have bV : ∀ t c, t < n + 1 → c < n + 1 → (V t c).natAbs ≤ 2 ^ 2000 := fun t c ht _ => by rw [eV]; exact Vlt_bd hn6 bA bv (by omega) c
  have ru : ∀ c, c < n + 1 → (sm n fun k => f k * V (n - 1 - k) c) = V n c := fun c hc => by
    rw [eV, ef]
    show _ = Vlt n M v (ag + n) c
    rw [← Vlt_rule hz v (show n ≤ ag + n by omega) hc]
    refine sm_congr fun j hj => ?_
    show _ * Vlt n M v (ag + (n - 1 - j)) c = _
    rw [show ag + (n - 1 - j) = ag + n - 1 - j by omega]
  have rru : R_ru t [t.ruD six rows] (.own (.lst ((rowF n f).map .int))) := ⟨six, rows, rfl, ok, by rw [ef, en, eM]⟩
  let kp : Slot := .val (t.ruD six rows)
  let nu : Slot := .val (.lst ((rowF n f).map .int))
  have elen : ∀ {X : Cx} {G : Gr} {dl : List Slot} {p pos : Pos} {a : Expr}, X.mg "len" = none → EE X G dl a (.str (tx L)) → Gl X "len" → starEach [a] X.env = [(false, eval a X.env)] → EE X G dl (.Call (.Name "len" p) [a] [] pos) (.int ((n : Nat) : Int)) := fun hm ha hg he => ee_to (ee_lenTx hm ha (by omega) hg he) (by rw [hn])
  let D0 : Slot → Slot → List Slot := fun a b => [.val (.scr ns), .val (.int (ag : Int)), .val (.str (tx L)), .val (.lst (rows.map rwD)), a, b, .unk, .unk, .unk, .unk, .unk, .unk, .unk, .unk, .unk]
  refine ⟨_, .rt _, ?_⟩
  refine es_cons (dl1 := D0 .unk .unk) (es_unp3 1 2 3 nd rfl (ee_to (ee_gf h_drawn nox0 hr (ea_cons (ee_var 0 rfl) ea_nil) ⟨ns, rfl, hlen, rfl⟩) (by rw [← eag, ← eL, ← erows]))) ?_
  refine es_cons (dl1 := D0 kp .unk) (es_set 4 nd (ee_oo (eo_make h_rules nox0 hr (ea_cons (ee_to (ee_add ee_int (ee_mul ee_int (ee_mod (ee_gf h_cell nox0 hr (ea_cons (ee_var 0 rfl) (ea_cons ee_int ea_nil)) ⟨ns, 0, rfl, by decide, rfl⟩) ee_int (by decide)) (CMul.ok (Or.inl ⟨by decide, by decide⟩)))) (by rw [six_wy, ← esix])) (ea_cons (ee_ol (eo_list T.z_list (ee_var 3 rfl))) ea_nil)) ⟨six, rows, rfl, ok, rfl⟩))) ?_
  refine es_cons (dl1 := D0 kp (.val (t.groD six rows wd 1))) (es_set 5 nd (d := t.groD six rows wd 1) (ee_o (eo_makeG h_grow nox0 hr (ea_cons (ee_var 4 rfl) (ea_cons (ee_to (ee_gf h_word nox0 hr (ea_cons (ee_gf h_cell nox0 hr (ea_cons (ee_var 0 rfl) (ea_cons ee_int ea_nil)) ⟨ns, 2, rfl, by decide, rfl⟩) (ea_cons (ee_var 2 rfl) (ea_cons ee_int ea_nil))) ⟨L, cellAt ns 2, 8, rfl, ⟨hL.1, by omega⟩, ⟨cellAt_nn ns 2, by decide, by decide⟩, rfl⟩) (by rw [ewd])) ea_nil)) ⟨six, rows, wd, rfl, gok, rfl⟩))) ?_
  refine es_openG 5 fun l ls hgs => ?_
  let gw : Slot := .val (.obj t.C_Growth (t.groO six rows wd l ls 1))
  let D : Slot → Slot → Slot → Slot → Slot → Slot → Slot → Slot → Slot → List Slot := fun a b c d e f g h i => [.val (.scr ns), .val (.int (ag : Int)), .val (.str (tx L)), .val (.lst (rows.map rwD)), kp, gw, a, b, c, d, e, f, g, h, i]
  refine es_cons (dl1 := D nu .unk .unk .unk .unk .unk .unk .unk .unk) (es_set 6 nd (ee_ol (eo_gf h_rule nox0 hr (ea_cons (ee_var 4 rfl) ea_nil) rru))) ?_
  let tb : Nat → Slot := fun k => .own (.lst (rdD (n + 1) k V))
  let S : Nat → List Slot := fun k => D nu (tb k) .unk .unk .unk .unk .unk .unk .unk
  refine es_cons (dl1 := S 0) (es_setO 7 nd (eo_lst ea_nil (Nat.le_of_ble_eq_true rfl))) ?_
  refine es_cons (dl1 := S (n + 1)) (es_range1 (o := .nx (S (n + 1))) (m := n + 1) 8 S nd rfl PassesOwn.leaving T.z_range (ea_cons (ee_add (elen T.z_len (ee_var 2 rfl) rfl rfl) ee_int) ea_nil) ⟨by omega, by omega⟩ (Le.of ⟨rfl, rfl, rfl, rfl, rfl, rfl, rfl, rfl, trivial⟩) (by omega) (fun k hk => ?b1) (by rw [show ((n : Int) + 1).toNat = n + 1 by omega]; exact .all rfl)) ?_
  case b1 =>
    let kk : Slot := .val (.int (k : Int))
    let rw_ : Slot := .val (.lst ((rowF (n + 1) (V k)).map .int))
    refine .nx (dl' := D nu (tb (k + 1)) kk rw_ .unk .unk .unk .unk .unk) ?_ (Le.of ⟨rfl, rfl, rfl, rfl, rfl, rfl, rfl, rfl, trivial⟩)
    refine es_cons (dl1 := D nu (tb k) kk rw_ .unk .unk .unk .unk .unk) (es_set 9 nd (ee_to (ee_ol (eo_gf h_row nox0 hr (ea_cons (ee_var 5 rfl) (ea_cons (ee_to (ee_add (ee_var 1 rfl) (ee_var 8 rfl)) (congrArg Dt.int (show (ag : Int) + (k : Int) = ((ag + k : Nat) : Int) by omega))) (ea_cons (ee_var 2 rfl) ea_nil))) ⟨six, rows, wd, l, ls, 1, ag + k, by rw [ec], gok, hgs, by omega, rfl⟩)) ?_)) ?_
    · rw [CV_is gok, ← en, ← eM, ec, ← ev, eV]
    refine es_cons (dl1 := D nu (tb k) kk rw_ .unk .unk .unk .unk .unk) (es_if (u := false) (eb_isN nonD_lst (ee_var 9 rfl)) (fun h => nomatch h) (fun h => es_nil)) ?_
    show ESs _ _ _ _ _ (.nx (D nu (.own (.lst (rdD (n + 1) (k + 1) V))) kk rw_ .unk .unk .unk .unk .unk))
    rw [rdD_S]
    exact es_one (es_append (ds := rdD (n + 1) k V) 7 (ee_var 9 rfl) (by rw [rdD_len]; exact Nat.lt_of_le_of_lt (show k ≤ 1000 by omega) (by decide)))
  show ESs _ _ _ (D nu (.own (.lst (rdD (n + 1) (n + 1) V))) .unk .unk .unk .unk .unk .unk .unk) _ _
  refine es_frz 7 (w := .lst (rdD (n + 1) (n + 1) V)) ?_
  let td : Slot := .val (.lst (rdD (n + 1) (n + 1) V))
  show ESs _ _ _ (D nu td .unk .unk .unk .unk .unk .unk .unk) _ _
  let mn : Slot := .val (.int (n : Int))
  let U : Nat → List Slot := fun _ => D nu td .unk .unk mn .unk .unk .unk .unk
  refine es_cons (dl1 := U 0) (es_set 10 nd (elen T.z_len (ee_var 2 rfl) rfl rfl)) ?_
  refine es_cons (dl1 := U (n + 1)) (es_range1 (o := .nx (U (n + 1))) (m := n + 1) 11 U nd rfl PassesOwn.leaving T.z_range (ea_cons (ee_add (ee_var 10 rfl) ee_int) ea_nil) ⟨by omega, by omega⟩ (Le.of ⟨rfl, rfl, rfl, rfl, rfl, rfl, rfl, rfl, rfl, trivial⟩) (by omega) (fun c hc => ?b2) (by rw [show ((n : Int) + 1).toNat = n + 1 by omega]; exact .all rfl)) ?_
  case b2 =>
    let cc : Slot := .val (.int (c : Int))
    let W : Nat → List Slot := fun j => D nu td .unk .unk mn cc (.val (.int (sm j fun k => f k * V (n - 1 - k) c))) .unk .unk
    refine .nx (dl' := W n) ?_ (Le.of ⟨rfl, rfl, rfl, rfl, rfl, rfl, rfl, rfl, rfl, trivial⟩)
    refine es_cons (dl1 := W 0) (es_set 12 nd ee_int) ?_
    refine es_cons (dl1 := W n) (es_range1 (o := .nx (W n)) (m := n) 13 W nd rfl PassesOwn.leaving T.z_range (ea_cons (ee_var 10 rfl) ea_nil) ⟨by omega, by omega⟩ (Le.of ⟨rfl, rfl, rfl, rfl, rfl, rfl, rfl, rfl, rfl, rfl, rfl, trivial⟩) (by omega) (fun k hk => ?b3) (.all (Int.toNat_natCast n).symm)) ?_
    case b3 =>
      refine .nx (dl' := D nu td .unk .unk mn cc (.val (.int (sm (k + 1) fun k => f k * V (n - 1 - k) c))) (.val (.int (k : Int))) .unk) ?_ (Le.of ⟨rfl, rfl, rfl, rfl, rfl, rfl, rfl, rfl, rfl, rfl, rfl, trivial⟩)
      exact es_one (es_set 12 nd (ee_add (ee_var 12 rfl) (ee_mul (ee_ixL (ee_var 6 rfl) (ee_var 13 rfl) (at_row hk)) (ee_ixL (ee_ixL (ee_var 7 rfl) (ee_to (ee_sub (ee_sub (ee_var 10 rfl) ee_int) (ee_var 13 rfl)) (congrArg Dt.int (show (n : Int) - 1 - (k : Int) = ((n - 1 - k : Nat) : Int) by omega))) (at_rd (by omega))) (ee_var 11 rfl) (at_row hc)) (mulok_le (bf k hk) (bV _ c (by omega) hc) p2000 p2000))))
    exact es_one (es_if (u := false) (eb_to (eb_neI (ee_var 12 rfl) (ee_ixL (ee_ixL (ee_var 7 rfl) (ee_var 10 rfl) (at_rd (by omega))) (ee_var 11 rfl) (at_row hc))) (by rw [ru c hc]; simp)) (fun h => nomatch h) (fun h => es_nil))
  have ecl : ((List.range n).filter fun _ => true).map (fun t => liD (rowF (n + 1) (V t))) = rdD (n + 1) n V := by rw [flt]; rfl
  refine es_cons (es_lcx 14 (List.range n) (fun t => liD (rowF (n + 1) (V t))) (fun t => liD (rowF (n + 1) (V t))) (fun t => [.val (liD (rowF (n + 1) (V t)))]) (fun _ => true) rfl nd (bx_of bk_ah) (pi_list (ee_to (ee_ol (eo_slL (ee_var 7 rfl) ept_no (ept_int (ee_neg ee_int)))) (congrArg Dt.lst cut_last))) (pgb_name (bx_of bk_ah) rfl) srcx_list (fun a _ => tg_name) (.nil fun _ _ => rfl)
      (fun r hr' _ C fp s' H' G' => ee_ol (eo_list T.z_list (ee_var 0 rfl))) (szl (by rw [List.length_range]; omega))) ?_
  rw [ecl]
  refine es_frz 14 (w := .lst (rdD (n + 1) n V)) ?_
  show ESs _ _ _ (D nu td .unk .unk mn .unk .unk .unk (.val (.lst (rdD (n + 1) n V)))) _ _
  refine es_one (es_ret (ee_eq hr.units (ee_ol (eo_gf h_nr nox0 hr (ea_cons (ee_var 6 rfl) (ea_cons (ee_var 14 rfl) ea_nil)) ⟨n, n + 1, n, f, V, rfl, ⟨hn6, by omega, by omega, by omega, by omega⟩, bf, fun t c ht hc => bV t c (by omega) hc, rfl⟩)) (ee_ixL (ee_var 7 rfl) (ee_neg ee_int) (at_rdb (k := 0) (by omega))) (okD_l1 _) (okD_l1 _) ?_))
  rw [rowF_congr (v := V n) fun c hc => ru c hc]
  exact eqv_refl _ (okD_l1 _).1
end
end Pf
namespace PySem.W.Fast
def tw13484826688073362643:Unit:=()
def tw1569989672800359189:Unit:=()
def tw17906160139999007128:Unit:=()
def tw2216904327813302143:Unit:=()
def tw4690125657010046147:Unit:=()
def tw12108488716477160460:Unit:=()
def tw17286413177412269609:Unit:=()
def tw16881851493501170378:Unit:=()
def tw17424310370143888202:Unit:=()
def tw110014142785282624:Unit:=()
def tw2298250904597206164:Unit:=()
def tw844786470490501197:Unit:=()
def tw9036385532508671354:Unit:=()
def tw461183676333531275:Unit:=()
def tw11989390463484518999:Unit:=()
def tw11787244076762904337:Unit:=()
def tw9713734049770712673:Unit:=()
def tw7065193788722370627:Unit:=()
def tw8005592843848855956:Unit:=()
def tw7156651187798658457:Unit:=()
def tw13873255190428757645:Unit:=()
def tw15215959292648236754:Unit:=()
def tw11886636243634810547:Unit:=()
def tw9873076913881771018:Unit:=()
def tw9564597515937441257:Unit:=()
def tw16335590894443577608:Unit:=()
def tw10886255203494617337:Unit:=()
def tw13918516033099653041:Unit:=()
def tw13452209682499393690:Unit:=()
def tw13528467403381464687:Unit:=()
def tw10483479529975721479:Unit:=()
def tw8228336365150337874:Unit:=()
def tw2023216436183337768:Unit:=()
def tw16317842280233575026:Unit:=()
def tw4813821910796913402:Unit:=()
def tw4405346536618710159:Unit:=()
def tw15915033382788495657:Unit:=()
def tw11983899259913831834:Unit:=()
def tw7588135376134256353:Unit:=()
def tw8851609023360012607:Unit:=()
def tw138645955823645664:Unit:=()
def tw4535772577498820907:Unit:=()
def tw11075090192209515906:Unit:=()
def tw6391983104294277732:Unit:=()
def tw15777597012980791491:Unit:=()
def tw16188624572094730411:Unit:=()
def tw13719259847528876591:Unit:=()
def tw11398908736587208465:Unit:=()
def tw4398531013028580307:Unit:=()
def tw17507846542996800331:Unit:=()
def tw10422677571788789324:Unit:=()
def tw15347460078636548634:Unit:=()
def tw18024615494818925422:Unit:=()
def tw9413105437483008213:Unit:=()
def tw14091749361105655243:Unit:=()
def tw13222075466867847847:Unit:=()
def tw16692763121183121027:Unit:=()
def tw14229586321826942007:Unit:=()
def tw4240676171333558498:Unit:=()
def tw11879367224066760375:Unit:=()
def tw7625286848159782439:Unit:=()
def tw2820219659316747920:Unit:=()
def tw14690850332961423012:Unit:=()
def tw4225551950552058028:Unit:=()
def tw15019922569782256713:Unit:=()
def tw7572752363033647489:Unit:=()
def tw11425050636428739640:Unit:=()
def tw10852218183580399528:Unit:=()
def tw9403234422025533605:Unit:=()
def tw17468104487818863019:Unit:=()
def tw18017951605330515910:Unit:=()
def tw6193801631482877408:Unit:=()
def tw17421431145797489101:Unit:=()
def tw915205561693197956:Unit:=()
def tw11001677003871579799:Unit:=()
def tw530718858540184528:Unit:=()
def tw2164992039403440051:Unit:=()
def tw8840296356538550109:Unit:=()
def tw1712998495085445564:Unit:=()
def tw5352090641256251628:Unit:=()
def tw7214981659011408160:Unit:=()
def tw1630341717849003392:Unit:=()
def tw2268425338936956442:Unit:=()
def tw14264793705124499763:Unit:=()
def tw8666057901787142609:Unit:=()
def tw9076128206510158121:Unit:=()
def tw17160319220050536593:Unit:=()
def tw18158919159131604381:Unit:=()
def tw8917306648689672360:Unit:=()
def tw12183050368088759379:Unit:=()
def tw8300812164010962059:Unit:=()
def tw10192453408062283603:Unit:=()
def tw552513575822514256:Unit:=()
def tw9637177848528274669:Unit:=()
def tw9615150451048877343:Unit:=()
def tw16448461493056216415:Unit:=()
def tw8295345671207971060:Unit:=()
def tw9087465973192827975:Unit:=()
def tw369921390858987110:Unit:=()
def tw4972118727666568153:Unit:=()
def tw10377499490066725663:Unit:=()
def tw13980116237755941935:Unit:=()
def tw14766381639029252842:Unit:=()
def tw7932132198267013762:Unit:=()
def tw10803125143655170032:Unit:=()
def tw17248703469904428552:Unit:=()
def tw16841928788665828155:Unit:=()
def tw8591152071474714671:Unit:=()
def tw1098782332815157786:Unit:=()
def tw10677713714473186214:Unit:=()
def tw8532552330561533633:Unit:=()
def tw5979505371195923446:Unit:=()
def tw2256859819327410377:Unit:=()
def tw3082295530754093655:Unit:=()
def tw3791107224667503194:Unit:=()
def tw7725193464065751425:Unit:=()
def tw7159514734402204801:Unit:=()
def tw8167384597848644263:Unit:=()
def tw10981654758243888529:Unit:=()
def tw11954976468117298200:Unit:=()
def tw4700207517865414614:Unit:=()
def tw17752305663945897993:Unit:=()
def tw9651588697737784148:Unit:=()
def tw2572438895395882560:Unit:=()
def tw7575905716149514744:Unit:=()
def tw13126990152684010551:Unit:=()
def tw15816406751037449469:Unit:=()
def tw1784558263489162441:Unit:=()
def tw8293561502171528188:Unit:=()
def tw16491941707325820251:Unit:=()
def tw15117348012865711929:Unit:=()
def tw9449119281504523092:Unit:=()
def tw14607341411062332901:Unit:=()
def tw15699971945166006458:Unit:=()
def tw9786081918750297035:Unit:=()
def tw10471811464684084831:Unit:=()
def tw1540542048969218811:Unit:=()
def tw9360577048887014892:Unit:=()
def tw9965683341302152455:Unit:=()
def tw8807988179701187999:Unit:=()
def tw7799076321500860219:Unit:=()
def tw4759212947778630815:Unit:=()
def tw17976181172485246302:Unit:=()
def tw115266783821326502:Unit:=()
def tw6945141042078097199:Unit:=()
def tw18300077734267675209:Unit:=()
def tw13777786110299086096:Unit:=()
def tw14512052398836365960:Unit:=()
def tw4605538660027575169:Unit:=()
def tw7651805109267228705:Unit:=()
def tw447972333732057415:Unit:=()
def tw5430479303680242527:Unit:=()
def tw1457373099838412205:Unit:=()
def tw13826420182839936813:Unit:=()
def tw2470024449751664596:Unit:=()
def tw1611391725110810345:Unit:=()
def tw18156814839027862403:Unit:=()
end PySem.W.Fast
open PySem PySem.W PyProof.Rows
set_option maxRecDepth 100000 in
set_option maxHeartbeats 0 in
theorem PySem.Challenge.cw_strokegrow_k74_whole_rule_at_great_round_holds : PySem.Challenge.rw_strokegrow_k74_whole_rule_at_great_round.Holds := by
  w_on; o_law; k_head; (case hw => w_witness2)
  k_fill
  refine L2.walk_ofK (l := PySem.Challenge.rw_strokegrow_k74_whole_rule_at_great_round) (n := 63) (k := 12) (x := "_law_script") (CX := Pf.CX) (sp := fun K => Pf.spLaw K) rfl (by decide) rfl ⟨rfl, by decide, by decide⟩ (fun w h Y => PySem.W.kIn_of Y) ?F ?S ?C
  case F =>
    intro w mg fa h KX G hmg
    have T : ∃ t, Pf.Txt (L2.KOf KX) mg t ∧ t.f_law = fa := by
      dsimp only [L2.KOf]
      obtain ⟨t, T, e⟩ : ∃ t, Pf.Txt _ mg t ∧ t.f_law = _ := by
        refine' Pf.txt_mk KX G ?aQuarter ?pgQuarter ?hdQuarter ?poQuarter ?saQuarter ?kcQuarter ?aSixth ?pgSixth ?hdSixth ?poSixth ?saSixth ?kcSixth ?aRules ?pgRules ?hdRules ?poRules ?saRules ?kcRules ?aGrowth ?pgGrowth ?hdGrowth ?poGrowth ?saGrowth ?kcGrowth ?mkQuarter ?inQuarter ?mkSixth ?inSixth ?mkRules ?inRules ?fiRules ?mkGrowth ?inGrowth ?fiGrowth ?na_Rules_drawer ?na_Rules_row_by_letter ?na_Growth_rules ?na_Growth_seed ?na_Growth_tallies ?na_Growth_lengths ?ag_DEEDS ?lg_DEEDS ?ag_MOST_ROWS ?ag_MOST_IN_WORD ?ag_LAST_ROUND ?y307 ?y308 ?y309 ?y310 ?y311 ?y312 ?y313 ?y314 ?y315 ?y316 ?y317 ?y318 ?y319 ?y320 ?y321 ?y322 ?y323 ?y324 ?y325 ?y326 ?y327 ?y328 ?y329 ?y330 ?y331 ?y332 ?y333 ?y334 ?y335 ?y336 ?y337 ?y338 ?y339 ?y340 ?y341 ?y342 ?y343 ?y344 ?y345 ?y346 ?y347 ?y348 ?y349 ?y350 ?y351 ?y352 ?y353 ?y354 ?y355 ?y356 ?y357 ?y358 ?y359 ?y360 ?y361 ?y362 ?y363 ?y364 ?y365 ?y366 ?y367 ?y368 ?y369 ?y370 ?y371 ?y372 ?y373 ?y374 ?y375 ?y376 ?y377 ?y378 ?y379 ?y380 ?y381 ?y382 ?y383 ?y384 ?y385 ?y386 ?y387 ?y388 ?y389 ?y390 ?y391 ?y392 ?y393 ?y394 ?y395 ?y396 ?y397 ?y398 ?y399 ?y400 ?y401 ?y402 ?y403 ?y404 ?y405 ?y406 ?y407 ?y408 ?y409 ?y410 ?y411 ?y412 ?y413 ?y414 ?y415 ?y416 ?y417 ?y418 ?y419 ?y420 ?y421 ?y422 ?y423 ?y424 ?y425 ?y426 ?y427 ?y428 ?y429 ?y430 ?y431 ?y432 ?y433 ?y434 ?y435 ?y436 ?y437 ?y438 ?y439 ?y440 ?y441 ?y442 ?y443 ?y444 ?y445 ?z_range ?z_len ?z_isinstance ?z_int ?z_bool ?z_tuple ?z_list ?z_all ?z_enumerate ?z_dict ?z_sum ?z_zip
        (case aQuarter => k_is);(case pgQuarter => k_is);(case hdQuarter => k_is);(case poQuarter => k_is);(case saQuarter => k_is);(case kcQuarter => k_is);(case aSixth => k_is);(case pgSixth => k_is);(case hdSixth => k_is);(case poSixth => k_is);(case saSixth => k_is);(case kcSixth => k_is);(case aRules => k_is);(case pgRules => k_is);(case hdRules => k_is);(case poRules => k_is);(case saRules => k_is);(case kcRules => k_is);(case aGrowth => k_is);(case pgGrowth => k_is);(case hdGrowth => k_is);(case poGrowth => k_is);(case saGrowth => k_is);(case kcGrowth => k_is);(case mkQuarter => k_is);(case inQuarter => k_is);(case mkSixth => k_is);(case inSixth => k_is);(case mkRules => k_is);(case inRules => k_is);(case fiRules => k_is);(case mkGrowth => k_is);(case inGrowth => k_is);(case fiGrowth => k_is);(case na_Rules_drawer => k_is);(case na_Rules_row_by_letter => k_is);(case na_Growth_rules => k_is);(case na_Growth_seed => k_is);(case na_Growth_tallies => k_is);(case na_Growth_lengths => k_is);(case ag_DEEDS => k_is);(case lg_DEEDS => k_is);(case ag_MOST_ROWS => k_is);(case ag_MOST_IN_WORD => k_is);(case ag_LAST_ROUND => k_is);(case y307 => k_is);(case y308 => k_is);(case y309 => k_is);(case y310 => k_is);(case y311 => k_is);(case y312 => k_is);(case y313 => k_is);(case y314 => k_is);(case y315 => k_is);(case y316 => k_is);(case y317 => k_is);(case y318 => k_is);(case y319 => k_is);(case y320 => k_is);(case y321 => k_is);(case y322 => k_is);(case y323 => k_is);(case y324 => k_is);(case y325 => k_is);(case y326 => k_is);(case y327 => k_is);(case y328 => k_is);(case y329 => k_is);(case y330 => k_is);(case y331 => k_is);(case y332 => k_is);(case y333 => k_is);(case y334 => k_is);(case y335 => k_is);(case y336 => k_is);(case y337 => k_is);(case y338 => k_is);(case y339 => k_is);(case y340 => k_is);(case y341 => k_is);(case y342 => k_is);(case y343 => k_is);(case y344 => k_is);(case y345 => k_is);(case y346 => k_is);(case y347 => k_is);(case y348 => k_is);(case y349 => k_is);(case y350 => k_is);(case y351 => k_is);(case y352 => k_is);(case y353 => k_is);(case y354 => k_is);(case y355 => k_is);(case y356 => k_is);(case y357 => k_is);(case y358 => k_is);(case y359 => k_is);(case y360 => k_is);(case y361 => k_is);(case y362 => k_is);(case y363 => k_is);(case y364 => k_is);(case y365 => k_is);(case y366 => k_is);(case y367 => k_is);(case y368 => k_is);(case y369 => k_is);(case y370 => k_is);(case y371 => k_is);(case y372 => k_is);(case y373 => k_is);(case y374 => k_is);(case y375 => k_is);(case y376 => k_is);(case y377 => k_is);(case y378 => k_is);(case y379 => k_is);(case y380 => k_is);(case y381 => k_is);(case y382 => k_is);(case y383 => k_is);(case y384 => k_is);(case y385 => k_is);(case y386 => k_is);(case y387 => k_is);(case y388 => k_is);(case y389 => k_is);(case y390 => k_is);(case y391 => k_is);(case y392 => k_is);(case y393 => k_is);(case y394 => k_is);(case y395 => k_is);(case y396 => k_is);(case y397 => k_is);(case y398 => k_is);(case y399 => k_is);(case y400 => k_is);(case y401 => k_is);(case y402 => k_is);(case y403 => k_is);(case y404 => k_is);(case y405 => k_is);(case y406 => k_is);(case y407 => k_is);(case y408 => k_is);(case y409 => k_is);(case y410 => k_is);(case y411 => k_is);(case y412 => k_is);(case y413 => k_is);(case y414 => k_is);(case y415 => k_is);(case y416 => k_is);(case y417 => k_is);(case y418 => k_is);(case y419 => k_is);(case y420 => k_is);(case y421 => k_is);(case y422 => k_is);(case y423 => k_is);(case y424 => k_is);(case y425 => k_is);(case y426 => k_is);(case y427 => k_is);(case y428 => k_is);(case y429 => k_is);(case y430 => k_is);(case y431 => k_is);(case y432 => k_is);(case y433 => k_is);(case y434 => k_is);(case y435 => k_is);(case y436 => k_is);(case y437 => k_is);(case y438 => k_is);(case y439 => k_is);(case y440 => k_is);(case y441 => k_is);(case y442 => k_is);(case y443 => k_is);(case y444 => k_is);(case y445 => k_is);(case z_range => k_is);(case z_len => k_is);(case z_isinstance => k_is);(case z_int => k_is);(case z_bool => k_is);(case z_tuple => k_is);(case z_list => k_is);(case z_all => k_is);(case z_enumerate => k_is);(case z_dict => k_is);(case z_sum => k_is);(case z_zip => k_is)
      refine ⟨t, T, ?_⟩
      have e0 := hmg.symm.trans T.m_law
      cases e0
      rfl
    obtain ⟨t, T, e⟩ := T
    subst e
    refine' ⟨t.d_law, ?b, fun base kb nb => Pf.law_fn T⟩
    exact T.bl_law
  case S => exact fun K H a ns hl hO hS => Pf.law_sp hl hS
  case C => exact fun H s e s' h => h
