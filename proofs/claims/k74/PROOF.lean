import PyProof.Rows.All
import Wide.All
import OpenK.AllK
import Wide.FinOn
import Lean
import PyProof.EqAt
import PyProof.EqKinds
import PyProof.TupleCall
import PyProof.ZipIter
import PyProof.SumWalkG
import PyProof.ListCopy
import PyProof.ListStr
import PyProof.DictItems
import PyProof.DictWalks
import PyProof.DictTruth
import PyProof.EnumMake
import PyProof.Rows.SortWalk
import PyProof.ListRange
import PyProof.DictValues
import KE.KRevSl
import KE.KDictOf
import PyProof.DictIter
import PyProof.FactsAll.dict_1
import PyProof.AttrMissHeap
import KE.KEqDict
import PyProof.Rows.Range3
import PySem.Challenge.RW_trussyard_k74_a_price
set_option Elab.async false
set_option linter.all false
set_option maxRecDepth 100000
def PySem.W.Fast.tw12880671111523153952 : Unit := ()
def PySem.W.Fast.tw11578546016555285490 : Unit := ()
def PySem.W.Fast.tw18393020619336041043 : Unit := ()
def PySem.W.Fast.tw13306434186111320591 : Unit := ()
def PySem.W.Fast.tw14969611225824502455 : Unit := ()
def PySem.W.Fast.tw8940250012629287123 : Unit := ()
def PySem.W.Fast.tw14040038749956407441 : Unit := ()
def PySem.W.Fast.tw18251554416833125611 : Unit := ()
def PySem.W.Fast.tw16399338721043074493 : Unit := ()
def PySem.W.Fast.tw16472887084733557460 : Unit := ()
def PySem.W.Fast.tw14366638814312681322 : Unit := ()
def PySem.W.Fast.tw4323687570339636041 : Unit := ()
def PySem.W.Fast.tw3690122982656770633 : Unit := ()
def PySem.W.Fast.tw4925211288710165801 : Unit := ()
def PySem.W.Fast.tw11292699637374524897 : Unit := ()
def PySem.W.Fast.tw16796153038083824984 : Unit := ()
def PySem.W.Fast.tw55716060638274678 : Unit := ()
def PySem.W.Fast.tw5566483002057432232 : Unit := ()
def PySem.W.Fast.tw5550737517818905207 : Unit := ()
def PySem.W.Fast.tw9706036772437634103 : Unit := ()
def PySem.W.Fast.tw15220183236801014936 : Unit := ()

namespace L2
open PySem PySem.Spec PyProof.Rows

abbrev Key := Sum Int Str
def keyIs : Key → Value → Bool
  | .inl k, v => Value.isInt k v
  | .inr x, v => Value.isStrOf x v
def keyH (w : World) : Key → Int
  | .inl k => hashInt k
  | .inr x => hashStr w x
theorem keyIs_shape : ∀ {k : Key} {v : Value}, keyIs k v = true → (∃ i t, k = Sum.inl i ∧ v = Value.int i t) ∨ (∃ x t, k = Sum.inr x ∧ v = Value.str x t)
  | .inl i, v, h => by
    obtain ⟨t, e⟩ := Value.isInt_shape (k := i) (v := v) h
    exact .inl ⟨i, t, rfl, e⟩
  | .inr x, v, h => by
    obtain ⟨t, e⟩ := Value.isStrOf_shape (x := x) (v := v) h
    exact .inr ⟨x, t, rfl, e⟩
theorem keyIs_int (i : Int) (t : Tok) : keyIs (.inl i) (.int i t) = true := by simp [keyIs, Value.isInt]
theorem keyIs_str (x : Str) (t : Tok) : keyIs (.inr x) (.str x t) = true := by simp [keyIs, Value.isStrOf]
theorem key_ll (a b : Int) : decide ((Sum.inl a : Key) = Sum.inl b) = (a == b) := by
  by_cases e : a = b
  · subst e; simp
  · have h : ¬ (Sum.inl a : Key) = Sum.inl b := fun q => e (Sum.inl.inj q)
    rw [decide_eq_false h]
    exact (beq_eq_false_iff_ne.mpr e).symm
theorem key_rr (a b : Str) : decide ((Sum.inr a : Key) = Sum.inr b) = decide (a = b) := by
  by_cases e : a = b
  · subst e; simp
  · have h : ¬ (Sum.inr a : Key) = Sum.inr b := fun q => e (Sum.inr.inj q)
    rw [decide_eq_false h, decide_eq_false e]
theorem key_lr (a : Int) (b : Str) : decide ((Sum.inl a : Key) = Sum.inr b) = false := decide_eq_false (fun q => nomatch q)
theorem key_rl (a : Str) (b : Int) : decide ((Sum.inr a : Key) = Sum.inl b) = false := decide_eq_false (fun q => nomatch q)

def mixKind (prog : Program) (w : World) : PySem.KeyKind prog w Key where
  is := keyIs
  hash := keyH w
  inj := fun v a b ha hb => by
    rcases keyIs_shape ha with ⟨i, t, rfl, rfl⟩ | ⟨x, t, rfl, rfl⟩
    · rcases keyIs_shape hb with ⟨j, u, rfl, e⟩ | ⟨y, u, rfl, e⟩
      · injection e with e1 _; rw [e1]
      · exact nomatch e
    · rcases keyIs_shape hb with ⟨j, u, rfl, e⟩ | ⟨y, u, rfl, e⟩
      · exact nomatch e
      · injection e with e1 _; rw [e1]
  byValue := fun k v h => by
    rcases keyIs_shape h with ⟨i, t, rfl, rfl⟩ | ⟨x, t, rfl, rfl⟩ <;> rfl
  pyHash := fun hv h => by
    rcases keyIs_shape hv with ⟨i, t, rfl, rfl⟩ | ⟨x, t, rfl, rfl⟩
    · exact wpAny_pyHash_int h
    · exact wpAny_pyHash_str h
  eqBool := fun hu hv h => by
    rcases keyIs_shape hu with ⟨i, t, rfl, rfl⟩ | ⟨x, t, rfl, rfl⟩
    · rcases keyIs_shape hv with ⟨j, u, rfl, rfl⟩ | ⟨y, u, rfl, rfl⟩
      · rw [key_ll] at h; exact wpAny_eqBool_int h
      · rw [key_lr] at h; exact SeqAt.EqAt.int_str i t y u _ _ _ _ h
    · rcases keyIs_shape hv with ⟨j, u, rfl, rfl⟩ | ⟨y, u, rfl, rfl⟩
      · rw [key_rl] at h; exact SeqAt.EqAt.str_int x t j u _ _ _ _ h
      · rw [key_rr] at h; exact wpAny_eqBool_str h
  «strs» := fun k x t v h => by
    rcases keyIs_shape h with ⟨i, u, rfl, e⟩ | ⟨y, u, rfl, e⟩
    · exact nomatch e
    · injection e with e1 _
      subst e1
      cases v <;> rfl

theorem mixKind_int (prog : Program) (w : World) (i : Int) (t : Tok) : (mixKind prog w).is (.inl i) (.int i t) = true := keyIs_int i t
theorem mixKind_str (prog : Program) (w : World) (x : Str) (t : Tok) : (mixKind prog w).is (.inr x) (.str x t) = true := keyIs_str x t
end L2

namespace L2
open PySem PySem.Spec PyProof.Rows

inductive V where
  | non | bl (b : Bool) | int (i : Int) | str (x : Str) | byt (b : Array UInt8) | flt (b : UInt64) | ref (a : Addr) | ty (n : String)
  deriving DecidableEq

def RelV : V → Value → Prop
  | .non, u => u = Value.none
  | .bl b, u => u = Value.bool b
  | .int i, u => ∃ t, u = Value.int i t
  | .str x, u => ∃ t, u = Value.str x t
  | .byt b, u => ∃ t, u = Value.bytes b t
  | .flt b, u => ∃ t, u = Value.float b t
  | .ref a, u => u = Value.ref a
  | .ty n, u => u = Value.type n

abbrev Vals : List V → List Value → Prop := Paired RelV
theorem Vals.length {xs : List V} {us : List Value} (r : Vals xs us) : xs.length = us.length := Paired.length r
theorem Vals.get : ∀ {xs : List V} {us : List Value} {i : Nat} {x : V}, Vals xs us → xs[i]? = some x → ∃ u, us[i]? = some u ∧ RelV x u
  | _, _, _, _, .nil, e => by simp at e
  | _, _, 0, _, .cons r _, e => by simp at e; subst e; exact ⟨_, rfl, r⟩
  | _, _, i + 1, x, .cons _ t, e => by
    obtain ⟨u, h1, h2⟩ := Vals.get (i := i) (x := x) t (by simpa using e)
    exact ⟨u, by simpa using h1, h2⟩
theorem Vals.set {x : V} {u : Value} (r : RelV x u) : ∀ {xs : List V} {us : List Value} (i : Nat), Vals xs us → Vals (xs.set i x) (us.set i u)
  | _, _, _, .nil => .nil
  | _, _, 0, .cons _ t => .cons r t
  | _, _, i + 1, .cons q t => .cons q (Vals.set r i t)
theorem Vals.append : ∀ {xs ys : List V} {us ws : List Value}, Vals xs us → Vals ys ws → Vals (xs ++ ys) (us ++ ws)
  | _, _, _, _, .nil, s => s
  | _, _, _, _, .cons r t, s => .cons r (Vals.append t s)
theorem Vals.take : ∀ {xs : List V} {us : List Value} (n : Nat), Vals xs us → Vals (xs.take n) (us.take n)
  | _, _, 0, _ => .nil
  | _, _, _ + 1, .nil => .nil
  | _, _, n + 1, .cons r t => .cons r (Vals.take n t)
theorem Vals.drop : ∀ {xs : List V} {us : List Value} (n : Nat), Vals xs us → Vals (xs.drop n) (us.drop n)
  | _, _, 0, r => r
  | _, _, _ + 1, .nil => .nil
  | _, _, n + 1, .cons _ t => Vals.drop n t
theorem Vals.none_of : ∀ {xs : List V} {us : List Value} {i : Nat}, Vals xs us → xs[i]? = none → us[i]? = none := fun {xs us i} r e => by
  have h1 := r.length
  have h2 : xs.length ≤ i := List.getElem?_eq_none_iff.mp e
  exact List.getElem?_eq_none_iff.mpr (by omega)

def RelO : Option V → Option Value → Prop
  | some v, some u => RelV v u
  | none, none => True
  | _, _ => False
def KV {κ : Type} : List (κ × V) → List (κ × Value) → Prop := Paired fun (p : κ × V) (q : κ × Value) => p.1 = q.1 ∧ RelV p.2 q.2

def kV : Key → V
  | .inl i => .int i
  | .inr x => .str x

inductive HO where
  /-- a list -/
  | lst (xs : List V)
  /-- a tuple (never changes) -/
  | tup (xs : List V)
  /-- a dict whose keys are ints and texts; one whose keys are tuples of ints and texts (the empty one is both) -/
  | dK (kvs : List (Key × V)) | dT (kvs : List (List Key × V))
  /-- a set of ints: its members, its size -/
  | set (S : Int → Bool) (n : Nat)
  /-- an instance of the class at C, its dict at dx, its attributes -/
  | ins (C dx : Addr) (fs : List (Str × V))
  /-- the dict of the instance at x -/
  | own (x : Addr)
  /-- the dict of an exception -/
  | xd (fs : List (Str × V))
  /-- a bound method, f of x -/
  | met (f x : Addr)
  /-- a range object lo, lo + 1, .. below hi -/
  | rng (lo hi : Int)
  /-- a thing that is known to the object (the script; a dict while a loop walks it): read, never written while it is so -/
  | frz (o : Obj) (u : HO)
  /-- a code object's table -/
  | tbl (ps : Array Value)
  /-- any other thing, by what is true of its one object (a def of one's own: SetO a S n := HO.ext fun h => ..) -/
  | ext (φ : Heap → Prop)

abbrev Hp := Addr → Option HO
def upd (H : Hp) (a : Addr) (o : HO) : Hp := fun b => if b = a then some o else H b
theorem upd_same {H : Hp} {a : Addr} {o : HO} : upd H a o a = some o := by unfold upd; rw [if_pos rfl]
theorem upd_ne {H : Hp} {a b : Addr} {o : HO} (h : b ≠ a) : upd H a o b = H b := by unfold upd; rw [if_neg h]
theorem ne_of {H : Hp} {a b : Addr} {o u : HO} (h : H a = some o) (h' : H b = some u) (d : o ≠ u) : a ≠ b := by
  intro e; subst e; rw [h] at h'; exact d (Option.some.inj h')
theorem ne_of_none {H : Hp} {a b : Addr} {o : HO} (h : H a = some o) (h' : H b = none) : a ≠ b := by
  intro e; subst e; rw [h] at h'; cases h'

section
variable (P : Program) (w : World)
def ObjOk (H : Hp) (h : Heap) (a : Addr) : HO → Prop
  | .lst xs => xs.length ≤ sizeLine ∧ ∃ (its : List Value) (n : Nat), Vals xs its ∧ h.get? a = some { cls := .type "list", data := .seq its.toArray n }
  | .tup xs => xs.length ≤ sizeLine ∧ ∃ its : List Value, Vals xs its ∧ IsTup h a its.toArray
  | .dK kvs => kvs.length ≤ sizeLine ∧ (a == sysModules) = false ∧ ∃ vs, KV kvs vs ∧ h.DictOf (mixKind P w) a vs
  | .dT kvs => kvs.length ≤ sizeLine ∧ (a == sysModules) = false ∧ ∃ xs : List (List Key × Addr × Value),
      Paired (fun (p : List Key × V) (q : List Key × Addr × Value) => p.1 = q.1 ∧ H q.2.1 = some (.tup (p.1.map kV)) ∧ RelV p.2 q.2.2) kvs xs ∧
      ∃ o es ep, h.get? a = some o ∧ o.ExactDict ∧ o.data = .dict es ep ∧ es.toList = xs.map (entryOfKey (tupleKind (mixKind P w))) ∧ (xs.map (·.1)).Nodup
  | .set S n => h.SetOf (intKind P w) a S n
  | .ins C dx fs => H dx = some (.own a) ∧ fs.length ≤ 1000 ∧ dx ≠ a ∧ h.get? a = some (PySem.W.instObj C dx) ∧
      ∃ mA, h.Ns1 dx mA ∧ (∀ f, RelO (fs.lookup f) (mA f)) ∧ PySem.Within mA (fs.map (·.1))
  | .own _ => ∃ o, h.get? a = some o
  | .xd fs => ∃ mA, h.Ns1 a mA ∧ ∀ f, RelO (fs.lookup f) (mA f)
  | .rng lo hi => ∃ t u v, h.get? a = some { cls := .type "range", data := .fields #[.int lo t, .int hi u, .int 1 v] }
  | .frz o u => h.get? a = some o ∧ ObjOk H h a u
  | .tbl ps => h.get? a = some { cls := .none, data := .fields ps }
  | .met f x => h.get? a = some (PySem.W.methodObj (.ref f) (.ref x))
  | .ext φ => φ h ∧ (∃ o, h.get? a = some o) ∧ ∀ h1 h2 : Heap, φ h1 → (∀ o, h1.get? a = some o → h2.get? a = some o) → φ h2
def HOk (H : Hp) (h : Heap) : Prop := ∀ a o, H a = some o → ObjOk P w H h a o
end

section
variable {P : Program} {w : World} {H H' : Hp} {h h' : Heap} {a : Addr} {o : HO}
theorem ObjOk.lt (x : ObjOk P w H h a o) : a < h.objs.size := by
  cases o with
  | lst xs => obtain ⟨_, _, _, _, e⟩ := x; exact Heap.lt_size e
  | tup xs => obtain ⟨_, _, _, p⟩ := x; exact p.lt
  | dK kvs => obtain ⟨_, _, _, _, o, _, _, e, _⟩ := x; exact Heap.lt_size e
  | dT kvs => obtain ⟨_, _, _, _, o, _, _, e, _⟩ := x; exact Heap.lt_size e
  | set S n => obtain ⟨o, _, _, _, e, _⟩ := x; exact Heap.lt_size e
  | ins C dx fs => obtain ⟨_, _, _, e, _⟩ := x; exact Heap.lt_size e
  | own y => obtain ⟨_, e⟩ := x; exact Heap.lt_size e
  | xd fs => obtain ⟨_, ⟨_, _, _, e, _⟩, _⟩ := x; exact Heap.lt_size e
  | rng lo hi => obtain ⟨_, _, _, e⟩ := x; exact Heap.lt_size e
  | frz ob u => obtain ⟨e, _⟩ := x; exact Heap.lt_size e
  | tbl ps => exact Heap.lt_size (show h.get? a = some _ from x)
  | met f y => exact Heap.lt_size (show h.get? a = some _ from x)
  | ext φ => obtain ⟨_, ⟨_, e⟩, _⟩ := x; exact Heap.lt_size e
theorem Paired.mapP {α β : Type} {F G : α → β → Prop} : ∀ {l₁ : List α} {l₂ : List β}, Paired F l₁ l₂ → (∀ a b, F a b → G a b) → Paired G l₁ l₂
  | _, _, .nil, _ => .nil
  | _, _, .cons r t, f => .cons (f _ _ r) (Paired.mapP t f)
theorem ObjOk.stay (x : ObjOk P w H h a o) (k : ∀ b u, (b = a ∨ H b = some (.own a)) → h.get? b = some u → h'.get? b = some u)
    (ho : ∀ b, H b = some (.own a) → H' b = some (.own a)) (ht : ∀ b xs, H b = some (.tup xs) → H' b = some (.tup xs)) : ObjOk P w H' h' a o := by
  induction o with
  | lst xs => obtain ⟨z, its, n, r, e⟩ := x; exact ⟨z, its, n, r, k _ _ (.inl rfl) e⟩
  | tup xs => obtain ⟨z, its, r, ob, e, c⟩ := x; exact ⟨z, its, r, ob, k _ _ (.inl rfl) e, c⟩
  | dK kvs => obtain ⟨z, y, vs, r, ob, es, ep, e, c⟩ := x; exact ⟨z, y, vs, r, ob, es, ep, k _ _ (.inl rfl) e, c⟩
  | dT kvs =>
    obtain ⟨z, y, xs, r, ob, es, ep, e, c⟩ := x
    exact ⟨z, y, xs, Paired.mapP r fun p q z => ⟨z.1, ht _ _ z.2.1, z.2.2⟩, ob, es, ep, k _ _ (.inl rfl) e, c⟩
  | set S n => obtain ⟨ob, es, ep, t, e, c⟩ := x; exact ⟨ob, es, ep, t, k _ _ (.inl rfl) e, c⟩
  | ins C dx fs =>
    obtain ⟨d, z, ne, e, mA, ⟨od, es, ep, e2, c⟩, r⟩ := x
    exact ⟨ho _ d, z, ne, k _ _ (.inl rfl) e, mA, ⟨od, es, ep, k _ _ (.inr d) e2, c⟩, r⟩
  | own y => obtain ⟨ob, e⟩ := x; exact ⟨ob, k _ _ (.inl rfl) e⟩
  | xd fs => obtain ⟨mA, ⟨od, es, ep, e, c⟩, r⟩ := x; exact ⟨mA, ⟨od, es, ep, k _ _ (.inl rfl) e, c⟩, r⟩
  | rng lo hi => obtain ⟨t, u, v, e⟩ := x; exact ⟨t, u, v, k _ _ (.inl rfl) e⟩
  | frz ob u ih => obtain ⟨e, q⟩ := x; exact ⟨k _ _ (.inl rfl) e, ih q⟩
  | tbl ps =>
    have e : h.get? a = some { cls := .none, data := .fields ps } := x
    show h'.get? a = some { cls := .none, data := .fields ps }
    exact k a _ (.inl rfl) e
  | met f y =>
    have e : h.get? a = some (PySem.W.methodObj (.ref f) (.ref y)) := x
    show h'.get? a = some (PySem.W.methodObj (.ref f) (.ref y))
    exact k a _ (.inl rfl) e
  | ext φ => obtain ⟨p, ⟨o, e⟩, st⟩ := x; exact ⟨st _ _ p fun o q => k _ _ (.inl rfl) q, ⟨o, k _ _ (.inl rfl) e⟩, st⟩
theorem HOk.lt (x : HOk P w H h) (e : H a = some o) : a < h.objs.size := (x a o e).lt
theorem HOk.fresh (x : HOk P w H h) (e : h.objs.size ≤ a) : H a = none := by
  cases q : H a with
  | none => rfl
  | some u => exact absurd (Nat.lt_of_lt_of_le (x.lt q) e) (Nat.lt_irrefl _)
theorem HOk.kept (x : HOk P w H h) (k : ∀ b u, h.get? b = some u → h'.get? b = some u) : HOk P w H h' := fun a o e =>
  (x a o e).stay (fun b u _ q => k b u q) (fun _ q => q) fun _ _ q => q
theorem HOk.laid (x : HOk P w H h) (k : ∀ b u, h.get? b = some u → h'.get? b = some u) (hp : h.objs.size ≤ a) (new : ObjOk P w (upd H a o) h' a o) : HOk P w (upd H a o) h' := fun b u e => by
  have hn := x.fresh hp
  by_cases hb : b = a
  · subst hb; rw [upd_same] at e; cases e; exact new
  · rw [upd_ne hb] at e
    exact (x b u e).stay (fun c v _ q => k c v q) (fun c q => by rw [upd_ne (ne_of_none q hn)]; exact q) fun c xs q => by rw [upd_ne (ne_of_none q hn)]; exact q
end

def Rd (H : Hp) (a : Addr) (u : HO) : Prop := H a = some u ∨ ∃ o, H a = some (.frz o u)
theorem Rd.of {H : Hp} {a : Addr} {u : HO} (h : H a = some u) : Rd H a u := .inl h
theorem Rd.ok {P : Program} {w : World} {H : Hp} {h : Heap} {a : Addr} {u : HO} (r : Rd H a u) (x : HOk P w H h) : ObjOk P w H h a u := by
  rcases r with r | ⟨o, r⟩
  · exact x a u r
  · obtain ⟨_, q⟩ := x a _ r
    exact q
def Mut : Option HO → Prop
  | some (.lst _) => True
  | some (.dK _) => True
  | some (.dT _) => True
  | some (.set _ _) => True
  | some (.ins _ _ _) => True
  | some (.ext _) => True
  | _ => False
section
variable {P : Program} {w : World} {H : Hp} {h h' : Heap} {x e : Addr} {o' : HO}
theorem HOk.write (ok : HOk P w H h) (mu : Mut (H x)) (he : e = x ∨ H e = some (.own x)) (k : ∀ b u, b ≠ e → h.get? b = some u → h'.get? b = some u) (heo : ∃ u, h'.get? e = some u)
    (new : ObjOk P w (upd H x o') h' x o') : HOk P w (upd H x o') h' := fun b u q => by
  have nown : ∀ c y, H c = some (.own y) → c ≠ x := fun c y r z => by subst z; rw [r] at mu; exact mu
  have ntup : ∀ c xs, H c = some (.tup xs) → c ≠ x := fun c xs r z => by subst z; rw [r] at mu; exact mu
  by_cases hb : b = x
  · subst hb; rw [upd_same] at q; cases q; exact new
  · rw [upd_ne hb] at q
    by_cases hbe : b = e
    · have q' : H b = some (.own x) := by
        rcases he with z | z
        · exact absurd (hbe.trans z) hb
        · rw [hbe]; exact z
      rw [q] at q'; cases q'
      obtain ⟨v, hv⟩ := heo
      exact ⟨v, by rw [hbe]; exact hv⟩
    · refine (ok b u q).stay (fun c v hc r => k c v ?_ r) (fun c r => by rw [upd_ne (nown c b r)]; exact r) fun c xs r => by rw [upd_ne (ntup c xs r)]; exact r
      rcases hc with rfl | hc
      · exact hbe
      · rintro rfl
        rcases he with z | z
        · exact nown c b hc z
        · rw [hc] at z; cases z; exact hb rfl
end

structure Un (fs ex : List Addr) (H H' : Hp) (h h' : Heap) : Prop where
  keep : ∀ b o, h.get? b = some o → H b = none → b ∉ fs → b ∉ ex → h'.get? b = some o
  slot : ∀ b o, h.get? b = some o → H b = none → b ∈ fs → b ∉ ex → ∃ sl, h'.get? b = some { o with slots := sl }
  free : ∀ b o, h.get? b = some o → H b = none → b ∉ ex → H' b = none
  there : ∀ b o, h.get? b = some o → b ∉ ex → ∃ o', h'.get? b = some o'
  tups : ∀ b xs, H b = some (.tup xs) → H' b = some (.tup xs)
  frzs : ∀ b o u, H b = some (.frz o u) → H' b = some (.frz o u)
  tbls : ∀ b ps, H b = some (.tbl ps) → ∃ more, H' b = some (.tbl (ps ++ more))
section
variable {fs fs' ex ex' : List Addr} {H H1 H2 : Hp} {h h1 h2 h' : Heap} {a x e : Addr} {o : HO}
theorem Un.any (u : Un fs ex H H1 h h1) {b : Addr} {ob : Obj} (q : h.get? b = some ob) (n : H b = none) (hx : b ∉ ex) : ∃ sl, h1.get? b = some { ob with slots := sl } := by
  by_cases hb : b ∈ fs
  · exact u.slot b ob q n hb hx
  · exact ⟨ob.slots, u.keep b ob q n hb hx⟩
theorem Un.trans (a : Un fs ex H H1 h h1) (b : Un fs ex H1 H2 h1 h2) : Un fs ex H H2 h h2 where
  keep := fun c ob q n hc hx => b.keep c ob (a.keep c ob q n hc hx) (a.free c ob q n hx) hc hx
  slot := fun c ob q n hc hx => by
    obtain ⟨sl, e1⟩ := a.slot c ob q n hc hx
    obtain ⟨sl', e2⟩ := b.slot c _ e1 (a.free c ob q n hx) hc hx
    exact ⟨sl', e2⟩
  free := fun c ob q n hx => by
    obtain ⟨o', e1⟩ := a.there c ob q hx
    exact b.free c o' e1 (a.free c ob q n hx) hx
  there := fun c ob q hx => by
    obtain ⟨o', e1⟩ := a.there c ob q hx
    exact b.there c o' e1 hx
  tups := fun c xs q => b.tups c xs (a.tups c xs q)
  frzs := fun c ob xs q => b.frzs c ob xs (a.frzs c ob xs q)
  tbls := fun c ps q => by
    obtain ⟨m1, e1⟩ := a.tbls c ps q
    obtain ⟨m2, e2⟩ := b.tbls c _ e1
    exact ⟨m1 ++ m2, by rw [e2, Array.append_assoc]⟩
theorem Un.kept (k : ∀ b u, h.get? b = some u → h'.get? b = some u) : Un fs ex H H h h' :=
  ⟨fun b ob q _ _ _ => k b ob q, fun b ob q _ _ _ => ⟨ob.slots, k b ob q⟩, fun _ _ _ n _ => n, fun b ob q _ => ⟨ob, k b ob q⟩, fun _ _ q => q, fun _ _ _ q => q, fun _ ps q => ⟨#[], by rw [q]; simp⟩⟩
theorem Un.refl : Un fs ex H H h h := Un.kept fun _ _ q => q
theorem Un.laid (k : ∀ b u, h.get? b = some u → h'.get? b = some u) (hp : h.objs.size ≤ a) (hn : H a = none) : Un fs ex H (upd H a o) h h' where
  keep := fun b u q _ _ _ => k b u q
  slot := fun b u q _ _ _ => ⟨u.slots, k b u q⟩
  free := fun b u q n _ => by rw [upd_ne (Nat.ne_of_lt (Nat.lt_of_lt_of_le (Heap.lt_size q) hp))]; exact n
  there := fun b u q _ => ⟨u, k b u q⟩
  tups := fun b xs q => by rw [upd_ne (ne_of_none q hn)]; exact q
  frzs := fun b u xs q => by rw [upd_ne (ne_of_none q hn)]; exact q
  tbls := fun b ps q => ⟨#[], by rw [upd_ne (ne_of_none q hn), q]; simp⟩
theorem Un.write (mu : Mut (H x)) (he : e = x ∨ H e = some (.own x)) (k : ∀ b u, b ≠ e → h.get? b = some u → h'.get? b = some u) (heo : ∃ u, h'.get? e = some u) : Un fs ex H (upd H x o) h h' := by
  have hx : ∀ b, H b = none → b ≠ x := fun b n z => by subst z; rw [n] at mu; exact mu
  have hb : ∀ b, H b = none → b ≠ e := fun b n z => by
    subst z
    rcases he with r | r
    · exact hx b n r
    · rw [n] at r; cases r
  have hm : ∀ b u, H b = some u → ¬ Mut (some u) → b ≠ x := fun b u q nm z => by subst z; rw [q] at mu; exact nm mu
  refine ⟨fun b u q n _ _ => k b u (hb b n) q, fun b u q n _ _ => ⟨u.slots, k b u (hb b n) q⟩, fun b u q n _ => by rw [upd_ne (hx b n)]; exact n, fun b u q _ => ?_,
    fun b xs q => by rw [upd_ne (hm b _ q fun z => z)]; exact q, fun b u xs q => by rw [upd_ne (hm b _ q fun z => z)]; exact q, fun b ps q => ⟨#[], by rw [upd_ne (hm b _ q fun z => z), q]; simp⟩⟩
  by_cases hbe : b = e
  · subst hbe; exact heo
  · exact ⟨u, k b u hbe q⟩
theorem Un.mono (u : Un fs ex H H1 h h1) (hs : ∀ b ∈ fs, b ∈ fs') (hx : ∀ b ∈ ex, b ∈ ex') : Un fs' ex' H H1 h h1 :=
  ⟨fun b ob q n hb he => u.keep b ob q n (fun z => hb (hs b z)) fun z => he (hx b z), fun _ _ q n _ he => u.any q n fun z => he (hx _ z), fun b ob q n he => u.free b ob q n fun z => he (hx b z), fun b ob q he => u.there b ob q fun z => he (hx b z), u.tups, u.frzs, u.tbls⟩
end

def trk (h : Heap) (H : Hp) : List Addr := (List.range h.objs.size).filter fun a => (H a).isSome
def hidT (h : Heap) (H : Hp) : Heap := PySem.W.hideAll h (trk h H)
theorem hidT_size (h : Heap) (H : Hp) : (hidT h H).objs.size = h.objs.size := PySem.W.hideAll_size _ _
theorem hidT_get {h : Heap} {H : Hp} {b : Addr} {o : Obj} (e : h.get? b = some o) (n : H b = none) : (hidT h H).get? b = some o :=
  PySem.W.hideAll_get _ e fun hm => by
    have q : (H b).isSome = true := (List.mem_filter.mp hm).2
    rw [n] at q; simp at q
theorem of_hidT {h : Heap} {H : Hp} {b : Addr} {o : Obj} (e : (hidT h H).get? b = some o) : h.get? b = some o ∧ H b = none := by
  have e' : h.get? b = some o := PySem.W.of_hideAll (trk h H) e
  refine ⟨e', ?_⟩
  cases q : H b with
  | none => rfl
  | some x =>
    have hm : b ∈ trk h H := List.mem_filter.mpr ⟨List.mem_range.mpr (Heap.lt_size e'), by simp [q]⟩
    have z : (hidT h H).get? b = none := PySem.W.hideAll_none (trk h H) hm
    rw [z] at e; cases e

def allNews (g h : Heap) (L : Addr) : List (Addr × Obj) := (List.range h.objs.size).filterMap fun a => if a = L ∨ (g.get? a).isSome = true then none else (h.get? a).map fun o => (a, o)
def rest (g h : Heap) (L d : Addr) : List (Addr × Obj) := (allNews g h L).filter fun p => decide (p.1 ≠ d)
end L2

namespace L2
open PySem PySem.Spec PyProof.Rows

structure Mod (K : PySem.W.Frag) (mg : Str → Option Value) (base : Heap) : Prop where
  kin : K.In base
  glob : base.Ns mainGlobals mg
  blt : ∃ mb, base.Ns builtinsNs mb ∧ ∀ x : Str, x ≠ "__name__" → mb x = bootBuiltins x
  nolimit : base.NoLimit
  seer : base.NoSeer

structure Cx where
  prog : Program
  w : World
  K : PySem.W.Frag
  mg : Str → Option Value
  base : Heap
  A : Around
  N : List Str
  s₀ : Shared
  H₀ : Hp
  env : Env
  outer : List Env
  stack : List Env
  ex : List Addr
  fn : Str → Bool
  calm : Bool
  pn : List (Addr × Obj)
  xe : Value → Shared → Prop
def frs (l : List Env) : List Addr := l.filterMap (·.frame)
abbrev Cx.fs (X : Cx) : List Addr := frs X.outer

def Vis (sc : Scope) (x : Str) : Prop := sc.names.lookup x = some .local ∨ sc.names.lookup x = some .cell ∨ sc.names.lookup x = some .free
def Loc (sc : Scope) (x : Str) : Prop := sc.names.lookup x = some .local ∨ sc.names.lookup x = some .cell
def Look (env : Env) (h : Heap) (m : Str → Option Value) (x : Str) (u : Value) : Prop :=
  (env.kindOf x = some .local ∧ m x = some u) ∨ ((env.kindOf x = some .cell ∨ env.kindOf x = some .free) ∧ ∃ c, env.cells.lookup x = some c ∧ h.IsCell c (some u))

structure Cx.Ok (X : Cx) : Prop where
  mod : Mod X.K X.mg X.base
  kind : X.env.scope.kind = .function
  glob : X.env.globals = mainGlobals
  blt : X.env.builtins = builtinsNs
  above : X.s₀.heap.objs.size ≤ X.env.locals
  inj : ∀ x y c, X.env.cells.lookup x = some c → X.env.cells.lookup y = some c → x = y
  has : ∀ x, (X.env.kindOf x = some .cell ∨ X.env.kindOf x = some .free) → ∃ c, X.env.cells.lookup x = some c
  cab : ∀ x c, X.fn x = true → X.env.cells.lookup x = some c → X.s₀.heap.objs.size ≤ c
  hd : X.calm = true → X.A.handled = none
  frames : X.A.frames = some X.stack
  stk : X.stack = X.outer ∨ (X.stack = X.env :: X.outer ∧ X.env.frame = some X.env.locals)
  exf : ∀ b ∈ X.ex, b ≠ X.env.locals ∧ ∀ x c, X.env.cells.lookup x = some c → c ≠ b
  bs : ∀ b o, X.base.get? b = some o → X.s₀.heap.get? b = some o ∧ X.H₀ b = none
  bsz : X.base.objs.size ≤ X.s₀.heap.objs.size
  noex : ∀ b o, X.base.get? b = some o → b ∉ X.ex
  exfs : ∀ b ∈ X.ex, b ∉ X.fs
  funs : X.s₀.heap.FunFrames X.base X.outer
  frf : ∀ b ∈ X.fs, X.H₀ b = none

structure Inv (X : Cx) (pins : List (Addr × Obj)) (σ : List (Option V)) (H : Hp) (s : Shared) : Prop where
  ok : X.Ok
  os : s.os = X.s₀.os
  bare : AllBare s.gens
  base : Un X.fs X.ex X.H₀ H X.s₀.heap s.heap
  loc : ∃ m, s.heap.Ns X.env.locals m ∧ ∀ (i : Nat) (x : Str) (v : V), X.N[i]? = some x → σ[i]? = some (some v) → Vis X.env.scope x → ∃ u, RelV v u ∧ Look X.env s.heap m x u
  cell : ∀ x c, X.env.cells.lookup x = some c → ∃ v, s.heap.IsCell c v
  free : H X.env.locals = none
  freeC : ∀ x c, X.env.cells.lookup x = some c → H c = none
  pin : ∀ p ∈ X.pn ++ pins, s.heap.get? p.1 = some p.2 ∧ H p.1 = none ∧ p.1 ≠ X.env.locals ∧ p.1 ∉ X.fs ∧ ∀ v, p.2.data ≠ .cell v
  hok : HOk X.prog X.w H s.heap
  len : σ.length = X.N.length

section
variable {X : Cx} {pins : List (Addr × Obj)} {σ : List (Option V)} {H H' : Hp} {s : Shared} {h' : Heap}

theorem Cx.Ok.nofr (ok : X.Ok) {b : Addr} {o : Obj} (e : X.base.get? b = some o) : b ∉ X.fs := fun hb => by
  have := (ok.funs.mem hb).1
  rw [e] at this; cases this
theorem Inv.bs (I : Inv X pins σ H s) : ∀ b o, X.base.get? b = some o → s.heap.get? b = some o ∧ H b = none := fun b o e =>
  ⟨I.base.keep b o (I.ok.bs b o e).1 (I.ok.bs b o e).2 (I.ok.nofr e) (I.ok.noex b o e), I.base.free b o (I.ok.bs b o e).1 (I.ok.bs b o e).2 (I.ok.noex b o e)⟩
theorem Inv.bk (I : Inv X pins σ H s) : ∀ b o, X.base.get? b = some o → s.heap.get? b = some o := fun b o e => (I.bs b o e).1
theorem Inv.mod (I : Inv X pins σ H s) : Mod X.K X.mg X.base := I.ok.mod
theorem Inv.kIn (I : Inv X pins σ H s) : X.K.In s.heap := I.ok.mod.kin.keeps I.bk
theorem Inv.nolimit (I : Inv X pins σ H s) : s.heap.NoLimit := I.ok.mod.nolimit.keeps I.bk
theorem Inv.fr (I : Inv X pins σ H s) : ∃ m, Fr X.base X.env.locals s.heap m :=
  let ⟨m, hn, _⟩ := I.loc
  ⟨m, hn, I.bk, Nat.le_trans I.ok.bsz I.ok.above⟩
theorem Inv.lt (I : Inv X pins σ H s) : X.env.locals < s.heap.objs.size := let ⟨_, hn, _⟩ := I.loc; hn.lt
theorem Inv.sz (I : Inv X pins σ H s) : X.s₀.heap.objs.size ≤ s.heap.objs.size := Nat.le_trans I.ok.above (Nat.le_of_lt I.lt)
theorem Inv.nofs (I : Inv X pins σ H s) {a : Addr} (h : s.heap.objs.size ≤ a) : a ∉ X.fs := fun hb => by
  obtain ⟨_, o, ho, _⟩ := I.ok.funs.mem hb
  exact absurd (Nat.lt_of_lt_of_le (Heap.lt_size ho) (Nat.le_trans I.sz h)) (Nat.lt_irrefl _)
theorem Inv.cne (I : Inv X pins σ H s) : ∀ x c, X.env.cells.lookup x = some c → c ≠ X.env.locals := fun x c e z => by
  obtain ⟨v, o, ho, hd⟩ := I.cell x c e
  obtain ⟨m, ⟨o', es, ep, ho', hd', _⟩, _⟩ := I.loc
  rw [z, ho'] at ho; cases ho; rw [hd'] at hd; cases hd
theorem Inv.funs (I : Inv X pins σ H s) : s.heap.FunFrames X.base X.outer := by
  have all : ∀ (l : List Env), (∀ b ∈ frs l, b ∈ X.fs) → X.s₀.heap.FunFrames X.base l → s.heap.FunFrames X.base l := by
    intro l
    induction l with
    | nil => intro _ _; trivial
    | cons env r ih =>
      intro hs hl
      obtain ⟨hk, ⟨L, o, hf, hn, ho, hd⟩, hr⟩ := hl
      have hL : L ∈ X.fs := hs L (by unfold frs; rw [List.filterMap_cons, hf]; exact List.mem_cons_self)
      obtain ⟨sl, e⟩ := I.base.slot L o ho (I.ok.frf L hL) hL fun z => I.ok.exfs L z hL
      exact ⟨hk, ⟨L, _, hf, hn, e, hd⟩, ih (fun b hb => hs b (by unfold frs; rw [List.filterMap_cons, hf]; exact List.mem_cons_of_mem _ hb)) hr⟩
  exact all X.outer (fun _ hb => hb) I.ok.funs

theorem Inv.stack (I : Inv X pins σ H s) : s.heap.FunFrames X.base X.stack := by
  rcases I.ok.stk with e | ⟨e, hf⟩
  · rw [e]; exact I.funs
  · rw [e]
    obtain ⟨m, hn, _⟩ := I.loc
    refine .cons (by rw [I.ok.kind]; decide) hf hn ?_ I.funs
    exact Heap.get?_none_of_le (Nat.le_trans I.ok.bsz I.ok.above)
theorem Inv.stkSub (I : Inv X pins σ H s) : ∀ b ∈ frs X.stack, b ∈ X.env.locals :: X.fs := fun b hb => by
  rcases I.ok.stk with e | ⟨e, hf⟩
  · rw [e] at hb; exact List.mem_cons_of_mem _ hb
  · rw [e] at hb
    unfold frs at hb
    rw [List.filterMap_cons, hf] at hb
    exact hb
theorem Inv.stkFree (I : Inv X pins σ H s) : ∀ b ∈ frs X.stack, H b = none := fun b hb => by
  rcases List.mem_cons.mp (I.stkSub b hb) with e | hb
  · rw [e]; exact I.free
  · obtain ⟨_, o, ho, _⟩ := I.ok.funs.mem hb
    exact I.base.free b o ho (I.ok.frf b hb) fun z => I.ok.exfs b z hb

theorem Inv.step {g' : Array GenState} {t' : Nat} {d' : Drawn} {ch : List Addr} (I : Inv X pins σ H s)
    (hch : ∀ b ∈ ch, (b ∈ X.ex ∨ X.s₀.heap.objs.size ≤ b) ∧ b ≠ X.env.locals ∧ (∀ x c, X.env.cells.lookup x = some c → c ≠ b) ∧ ∀ p ∈ X.pn ++ pins, p.1 ≠ b)
    (keep : ∀ b o, b ≠ X.env.locals → b ∉ X.fs → b ∉ ch → s.heap.get? b = some o → H b = none → h'.get? b = some o)
    (slot : ∀ b o, b ≠ X.env.locals → b ∈ X.fs → b ∉ ch → s.heap.get? b = some o → H b = none → ∃ sl, h'.get? b = some { o with slots := sl }) (free : ∀ b o, b ∉ ch → s.heap.get? b = some o → H b = none → H' b = none)
    (there : ∀ b o, b ∉ ch → s.heap.get? b = some o → ∃ o', h'.get? b = some o')
    (tups : ∀ b xs, H b = some (.tup xs) → H' b = some (.tup xs)) (frzs : ∀ b o u, H b = some (.frz o u) → H' b = some (.frz o u)) (tbls : ∀ b ps, H b = some (.tbl ps) → ∃ more, H' b = some (.tbl (ps ++ more)))
    (ns : ∀ m, s.heap.Ns X.env.locals m → h'.Ns X.env.locals m) (hok : HOk X.prog X.w H' h') (hg : AllBare g') :
    Inv X pins σ H' { s with heap := h', gens := g', drawn := d', toks := t' } := by
  have neL : ∀ b o, X.s₀.heap.get? b = some o → b ≠ X.env.locals := fun b o e => Nat.ne_of_lt (Nat.lt_of_lt_of_le (Heap.lt_size e) I.ok.above)
  have neC : ∀ b o, X.s₀.heap.get? b = some o → b ∉ X.ex → b ∉ ch := fun b o e hx hb => by
    rcases (hch b hb).1 with z | z
    · exact hx z
    · exact absurd (Nat.lt_of_lt_of_le (Heap.lt_size e) z) (Nat.lt_irrefl _)
  have cellK : ∀ x c, X.env.cells.lookup x = some c → ∀ v, s.heap.IsCell c v → h'.IsCell c v := fun x c e v ⟨o, ho, hd⟩ => by
    have nch : c ∉ ch := fun z => (hch c z).2.2.1 x c e rfl
    by_cases hc : c ∈ X.fs
    · obtain ⟨sl, q⟩ := slot c o (I.cne x c e) hc nch ho (I.freeC x c e)
      exact ⟨_, q, hd⟩
    · exact ⟨o, keep c o (I.cne x c e) hc nch ho (I.freeC x c e), hd⟩
  refine ⟨I.ok, I.os, hg, ⟨fun b o e n hb hx => ?_, fun b o e n hb hx => ?_, fun b o e n hx => ?_, fun b o e hx => ?_, fun b xs e => tups b xs (I.base.tups b xs e), fun b o xs e => frzs b o xs (I.base.frzs b o xs e), fun b ps e => ?_⟩, ?_, fun x c e => ?_, ?_, fun x c e => ?_, fun p hp => ?_, hok, I.len⟩
  · exact keep b o (neL b o e) hb (neC b o e hx) (I.base.keep b o e n hb hx) (I.base.free b o e n hx)
  · obtain ⟨sl, e1⟩ := I.base.slot b o e n hb hx
    obtain ⟨sl', e2⟩ := slot b _ (neL b o e) hb (neC b o e hx) e1 (I.base.free b o e n hx)
    exact ⟨sl', e2⟩
  · obtain ⟨o', e1⟩ := I.base.there b o e hx
    exact free b o' (neC b o e hx) e1 (I.base.free b o e n hx)
  · obtain ⟨o', e1⟩ := I.base.there b o e hx
    exact there b o' (neC b o e hx) e1
  · obtain ⟨m1, e1⟩ := I.base.tbls b ps e
    obtain ⟨m2, e2⟩ := tbls b _ e1
    exact ⟨m1 ++ m2, by rw [e2, Array.append_assoc]⟩
  · obtain ⟨m, hn, hl⟩ := I.loc
    refine ⟨m, ns m hn, fun i x v e1 e2 e3 => ?_⟩
    obtain ⟨u, r, l⟩ := hl i x v e1 e2 e3
    refine ⟨u, r, ?_⟩
    rcases l with l | ⟨k, c, e, z⟩
    · exact .inl l
    · exact .inr ⟨k, c, e, cellK x c e _ z⟩
  · obtain ⟨v, z⟩ := I.cell x c e
    exact ⟨v, cellK x c e v z⟩
  · obtain ⟨m, ⟨o, _, _, ho, _⟩, _⟩ := I.loc
    exact free _ o (fun z => (hch _ z).2.1 rfl) ho I.free
  · obtain ⟨v, o, ho, hd⟩ := I.cell x c e
    exact free c o (fun z => (hch c z).2.2.1 x c e rfl) ho (I.freeC x c e)
  · obtain ⟨e, n, ne, nf, d⟩ := I.pin p hp
    have nch : p.1 ∉ ch := fun z => (hch p.1 z).2.2.2 p hp rfl
    exact ⟨keep p.1 p.2 ne nf nch e n, free p.1 p.2 nch e n, ne, nf, d⟩
theorem Inv.un {t' : Nat} (I : Inv X pins σ H s) (u : Un X.fs [] H H' s.heap h') (hok : HOk X.prog X.w H' h') : Inv X pins σ H' { s with heap := h', toks := t' } := by
  obtain ⟨m, ⟨o, es, ep, ho, r⟩, _⟩ := id I.loc
  obtain ⟨sl, hL⟩ := u.any ho I.free (by simp)
  exact I.step (g' := s.gens) (d' := s.drawn) (ch := []) (fun _ z => nomatch z) (fun b o _ hb _ e n => u.keep b o e n hb (by simp)) (fun b o _ hb _ e n => u.slot b o e n hb (by simp)) (fun b o _ e n => u.free b o e n (by simp)) (fun b o _ e => u.there b o e (by simp)) u.tups u.frzs u.tbls (fun m' hm => by
    obtain ⟨o', es', ep', ho', r'⟩ := hm
    rw [ho] at ho'; cases ho'
    exact ⟨_, es', ep', hL, r'⟩) hok I.bare
theorem Inv.call {g' : Array GenState} {t' : Nat} {d' : Drawn} {ch : List Addr} (I : Inv X pins σ H s) (u : Un (frs X.stack) ch H H' s.heap h') (hok : HOk X.prog X.w H' h') (hg : AllBare g')
    (hch : ∀ b ∈ ch, (b ∈ X.ex ∨ X.s₀.heap.objs.size ≤ b) ∧ b ≠ X.env.locals ∧ (∀ x c, X.env.cells.lookup x = some c → c ≠ b) ∧ ∀ p ∈ X.pn ++ pins, p.1 ≠ b) :
    Inv X pins σ H' { s with heap := h', gens := g', drawn := d', toks := t' } := by
  obtain ⟨m, ⟨o, es, ep, ho, r⟩, _⟩ := id I.loc
  obtain ⟨sl, hL⟩ := u.any ho I.free fun z => (hch _ z).2.1 rfl
  exact I.step (ch := ch) hch (fun b o hL hb hc e n => u.keep b o e n (fun z => (List.mem_cons.mp (I.stkSub b z)).elim hL hb) hc) (fun b o _ _ hc e n => u.any e n hc) (fun b o hc e n => u.free b o e n hc) (fun b o hc e => u.there b o e hc) u.tups u.frzs u.tbls (fun m' hm => by
    obtain ⟨o', es', ep', ho', r'⟩ := hm
    rw [ho] at ho'; cases ho'
    exact ⟨_, es', ep', hL, r'⟩) hok hg
theorem Inv.turned {t' : Nat} {it : Addr} (I : Inv X pins σ H s) (k : ∀ b o, b ≠ it → s.heap.get? b = some o → h'.get? b = some o) (hn : H it = none) (hL : it ≠ X.env.locals)
    (h1 : it ∈ X.ex ∨ X.s₀.heap.objs.size ≤ it) (h2 : ∀ x c, X.env.cells.lookup x = some c → c ≠ it) (h3 : ∀ p ∈ X.pn ++ pins, p.1 ≠ it) : Inv X pins σ H { s with heap := h', toks := t' } := by
  have nit : ∀ b u, H b = some u → b ≠ it := fun b u e z => by rw [z, hn] at e; cases e
  refine I.step (g' := s.gens) (d' := s.drawn) (ch := [it]) (fun b hb => ?_) (fun b o _ _ hc e _ => k b o (fun z => hc (by simp [z])) e) (fun b o _ _ hc e _ => ⟨o.slots, k b o (fun z => hc (by simp [z])) e⟩) (fun _ _ _ _ n => n)
    (fun b o hc e => ⟨o, k b o (fun z => hc (by simp [z])) e⟩) (fun _ _ e => e) (fun _ _ _ e => e) (fun b ps e => ⟨#[], by rw [e]; simp⟩) (fun m hm => ?_) (fun b u e => ?_) I.bare
  · have e : b = it := by simpa using hb
    subst e
    exact ⟨h1, hL, h2, h3⟩
  · obtain ⟨o, es, ep, ho, r⟩ := hm
    exact ⟨o, es, ep, k _ o (Ne.symm hL) ho, r⟩
  · refine (I.hok b u e).stay (fun c v hc q => k c v ?_ q) (fun _ q => q) fun _ _ q => q
    rcases hc with z | z
    · rw [z]; exact nit b u e
    · exact nit c _ z
theorem Inv.tok (I : Inv X pins σ H s) (t : Nat) : Inv X pins σ H { s with toks := t } := I.un (h' := s.heap) (t' := t) Un.refl I.hok
theorem Inv.kept {t' : Nat} (I : Inv X pins σ H s) (k : ∀ b u, s.heap.get? b = some u → h'.get? b = some u) : Inv X pins σ H { s with heap := h', toks := t' } := I.un (Un.kept k) (I.hok.kept k)
theorem Inv.laid {a : Addr} {o : HO} {t' : Nat} (I : Inv X pins σ H s) (k : ∀ b u, s.heap.get? b = some u → h'.get? b = some u) (hp : s.heap.objs.size ≤ a) (new : ObjOk X.prog X.w (upd H a o) h' a o) :
    Inv X pins σ (upd H a o) { s with heap := h', toks := t' } := I.un (Un.laid k hp (I.hok.fresh hp)) (I.hok.laid k hp new)
theorem Inv.write {x e : Addr} {o : HO} {t' : Nat} (I : Inv X pins σ H s) (mu : Mut (H x)) (he : e = x ∨ H e = some (.own x)) (k : ∀ b u, b ≠ e → s.heap.get? b = some u → h'.get? b = some u) (heo : ∃ u, h'.get? e = some u)
    (new : ObjOk X.prog X.w (upd H x o) h' x o) : Inv X pins σ (upd H x o) { s with heap := h', toks := t' } := I.un (Un.write mu he k heo) (I.hok.write mu he k heo new)
theorem Inv.pins_of {pins' : List (Addr × Obj)} (I : Inv X pins σ H s) (h : ∀ p ∈ pins', s.heap.get? p.1 = some p.2 ∧ H p.1 = none ∧ p.1 ≠ X.env.locals ∧ p.1 ∉ X.fs ∧ ∀ v, p.2.data ≠ .cell v) : Inv X pins' σ H s :=
  ⟨I.ok, I.os, I.bare, I.base, I.loc, I.cell, I.free, I.freeC, fun p hp => (List.mem_append.mp hp).elim (fun z => I.pin p (List.mem_append_left _ z)) (h p), I.hok, I.len⟩

theorem nodup_ix {N : List Str} (hN : N.Nodup) {i j : Nat} {x : Str} (a : N[i]? = some x) (b : N[j]? = some x) : i = j := by
  obtain ⟨h1, e1⟩ := List.getElem?_eq_some_iff.mp a
  obtain ⟨h2, e2⟩ := List.getElem?_eq_some_iff.mp b
  exact (List.getElem_inj hN).mp (e1.trans e2.symm)

theorem store_ok2 {M : Model} {A : Around} {E : Value → Shared → Prop} {i : Nat} {x : Str} {v : V} {u : Value} {Q : Unit → Shared → Prop} (I : Inv X pins σ H s) (hN : X.N.Nodup) (hi : X.N[i]? = some x) (hx : Loc X.env.scope x) (r : RelV v u)
    (h : ∀ s', Inv X pins (σ.set i (some v)) H s' → (∃ a, Heap.SameBut a s.heap s'.heap ∧ (a = X.env.locals ∨ X.env.cells.lookup x = some a)) → Q () s') (hf : X.fn x = true ∨ X.env.scope.names.lookup x = some .local := by first | exact .inl rfl | exact .inr rfl | assumption) : wpAny M A (storeName X.env x u) Q E s := by
  obtain ⟨m, hn, hl⟩ := id I.loc
  have hcls : (X.env.scope.kind == .class || (X.env.scope.kind == .module && X.env.locals != X.env.globals)) = false := by rw [I.ok.kind]; rfl
  have hiσ : i < σ.length := by rw [I.len]; exact (List.getElem?_eq_some_iff.mp hi).1
  have cne := I.cne
  have tracked : ∀ {a : Addr} {h' : Heap}, (∃ o, s.heap.get? a = some o ∧ H a = none) → Heap.SameBut a s.heap h' → HOk X.prog X.w H h' := fun {a h'} ha hs b ob e => by
    obtain ⟨_, _, hfree⟩ := ha
    refine (I.hok b ob e).stay (fun c w' hc q => (hs.2 c ?_).trans q) (fun _ q => q) fun _ _ q => q
    rintro rfl
    rcases hc with rfl | hc
    · rw [hfree] at e; cases e
    · rw [hfree] at hc; cases hc
  rcases hx with hk | hk
  · refine wpAny_storeName_local hk hn (fun h' hn' hs => ?_) hcls
    obtain ⟨oL, _, _, hoL, _⟩ := id hn
    refine h _ ⟨I.ok, I.os, I.bare, ⟨fun b o e n hb hx => ?_, fun b o e n hb hx => ?_, I.base.free, fun b o e hx => ?_, I.base.tups, I.base.frzs, I.base.tbls⟩, ⟨_, hn', fun j y v' e1 e2 e3 => ?_⟩, fun y c e => ?_, I.free, I.freeC, fun p hp => ?_, tracked ⟨oL, hoL, I.free⟩ hs, by simpa using I.len⟩ ⟨_, hs, .inl rfl⟩
    · exact (hs.2 b (Nat.ne_of_lt (Nat.lt_of_lt_of_le (Heap.lt_size e) I.ok.above))).trans (I.base.keep b o e n hb hx)
    · obtain ⟨sl, e1⟩ := I.base.slot b o e n hb hx
      exact ⟨sl, (hs.2 b (Nat.ne_of_lt (Nat.lt_of_lt_of_le (Heap.lt_size e) I.ok.above))).trans e1⟩
    · obtain ⟨o', e1⟩ := I.base.there b o e hx
      exact ⟨o', (hs.2 b (Nat.ne_of_lt (Nat.lt_of_lt_of_le (Heap.lt_size e) I.ok.above))).trans e1⟩
    · by_cases hj : j = i
      · subst hj
        rw [hi] at e1; cases e1
        rw [List.getElem?_set_self hiσ] at e2
        cases e2
        exact ⟨u, r, .inl ⟨hk, by simp⟩⟩
      · rw [List.getElem?_set_ne (Ne.symm hj)] at e2
        obtain ⟨u', r', q⟩ := hl j y v' e1 e2 e3
        refine ⟨u', r', ?_⟩
        rcases q with ⟨k, e⟩ | ⟨k, c, e, z⟩
        · refine .inl ⟨k, ?_⟩
          have : y ≠ x := fun e => hj (nodup_ix hN e1 (e ▸ hi))
          simp [this, e]
        · exact .inr ⟨k, c, e, z.sameBut hs (cne y c e)⟩
    · obtain ⟨w', z⟩ := I.cell y c e
      exact ⟨w', z.sameBut hs (cne y c e)⟩
    · obtain ⟨e, n, ne, nf, d⟩ := I.pin p hp
      exact ⟨(hs.2 p.1 ne).trans e, n, ne, nf, d⟩
  · have hfn : X.fn x = true := by
      rcases hf with z | z
      · exact z
      · rw [z] at hk; cases hk
    obtain ⟨c, hc⟩ := I.ok.has x (.inl hk)
    obtain ⟨w', z⟩ := I.cell x c hc
    refine wpAny_storeName_cell I.ok.kind hk hc z (fun h' hc' hs => ?_)
    obtain ⟨oc, hoc, hocd⟩ := id z
    refine h { s with heap := h' } ⟨I.ok, I.os, I.bare, ⟨fun b o e n hb hx => ?_, fun b o e n hb hx => ?_, I.base.free, fun b o e hx => ?_, I.base.tups, I.base.frzs, I.base.tbls⟩, ⟨m, hn.sameBut hs (Ne.symm (cne x c hc)), fun j y v' e1 e2 e3 => ?_⟩, fun y c' e => ?_, I.free, I.freeC, fun p hp => ?_, tracked ⟨oc, hoc, I.freeC x c hc⟩ hs, by simpa using I.len⟩ ⟨c, hs, .inr hc⟩
    · exact (hs.2 b (Nat.ne_of_lt (Nat.lt_of_lt_of_le (Heap.lt_size e) (I.ok.cab x c hfn hc)))).trans (I.base.keep b o e n hb hx)
    · obtain ⟨sl, e1⟩ := I.base.slot b o e n hb hx
      exact ⟨sl, (hs.2 b (Nat.ne_of_lt (Nat.lt_of_lt_of_le (Heap.lt_size e) (I.ok.cab x c hfn hc)))).trans e1⟩
    · obtain ⟨o', e1⟩ := I.base.there b o e hx
      exact ⟨o', (hs.2 b (Nat.ne_of_lt (Nat.lt_of_lt_of_le (Heap.lt_size e) (I.ok.cab x c hfn hc)))).trans e1⟩
    · by_cases hj : j = i
      · subst hj
        rw [hi] at e1; cases e1
        rw [List.getElem?_set_self hiσ] at e2
        cases e2
        exact ⟨u, r, .inr ⟨.inl hk, c, hc, hc'⟩⟩
      · rw [List.getElem?_set_ne (Ne.symm hj)] at e2
        obtain ⟨u', r', q⟩ := hl j y v' e1 e2 e3
        refine ⟨u', r', ?_⟩
        rcases q with q | ⟨k, c', e, z'⟩
        · exact .inl q
        · refine .inr ⟨k, c', e, z'.sameBut hs ?_⟩
          rintro rfl
          exact hj (nodup_ix hN e1 (I.ok.inj _ _ _ e hc ▸ hi))
    · by_cases hcc : c' = c
      · subst hcc; exact ⟨_, hc'⟩
      · obtain ⟨w2, z2⟩ := I.cell y c' e
        exact ⟨w2, z2.sameBut hs hcc⟩
    · obtain ⟨e, n, ne, nf, d⟩ := I.pin p hp
      refine ⟨(hs.2 p.1 ?_).trans e, n, ne, nf, d⟩
      intro q
      rw [q, hoc] at e
      have q' : oc = p.2 := Option.some.inj e
      exact d w' (by rw [← q']; exact hocd)
theorem store_ok {M : Model} {A : Around} {E : Value → Shared → Prop} {i : Nat} {x : Str} {v : V} {u : Value} {Q : Unit → Shared → Prop} (I : Inv X pins σ H s) (hN : X.N.Nodup) (hi : X.N[i]? = some x) (hx : Loc X.env.scope x) (r : RelV v u)
    (h : ∀ s', Inv X pins (σ.set i (some v)) H s' → Q () s') (hf : X.fn x = true ∨ X.env.scope.names.lookup x = some .local := by first | exact .inl rfl | exact .inr rfl | assumption) : wpAny M A (storeName X.env x u) Q E s :=
  store_ok2 I hN hi hx r (fun s' I' _ => h s' I') hf
theorem Inv.call' {s' : Shared} {ch : List Addr} (I : Inv X pins σ H s) (ho : s'.os = s.os) (u : Un (frs X.stack) ch H H' s.heap s'.heap) (hok : HOk X.prog X.w H' s'.heap) (hg : AllBare s'.gens)
    (hch : ∀ b ∈ ch, (b ∈ X.ex ∨ X.s₀.heap.objs.size ≤ b) ∧ b ≠ X.env.locals ∧ (∀ x c, X.env.cells.lookup x = some c → c ≠ b) ∧ ∀ p ∈ X.pn ++ pins, p.1 ≠ b) : Inv X pins σ H' s' := by
  obtain ⟨h', g', d', t', o'⟩ := s'
  have e : o' = s.os := ho
  subst e
  exact I.call (g' := g') (t' := t') (d' := d') u hok hg hch
end

abbrev XK := Value → Option Addr → Hp → Prop
abbrev St := List (Option V)
abbrev VK := V → Hp → Prop
abbrev TE := St → Hp → VK → Prop
abbrev TT := St → Hp → (Bool → Hp → Prop) → Prop
abbrev TA := St → Hp → (List V → Hp → Prop) → Prop
structure Ends where
  nx : St → Hp → Prop
  rt : VK
  bk : St → Hp → Prop := fun _ _ => False
  ct : St → Hp → Prop := fun _ _ => False
abbrev TS := Ends → St → Hp → Prop

def EP (X : Cx) (pins : List (Addr × Obj)) (σ : St) (Q : VK) (u : Value) (s' : Shared) : Prop := ∃ v H', Inv X pins σ H' s' ∧ RelV v u ∧ Q v H'
def TP (X : Cx) (pins : List (Addr × Obj)) (σ : St) (Q : Bool → Hp → Prop) (b : Bool) (s' : Shared) : Prop := ∃ H', Inv X pins σ H' s' ∧ Q b H'
def AP (X : Cx) (pins : List (Addr × Obj)) (σ : St) (Q : List V → Hp → Prop) (us : List Value) (s' : Shared) : Prop := ∃ vs H', Inv X pins σ H' s' ∧ Vals vs us ∧ Q vs H'
def SP (X : Cx) (pins : List (Addr × Obj)) (D : Ends) (f : Flow) (s' : Shared) : Prop :=
  match f with
  | .next => ∃ σ' H', Inv X pins σ' H' s' ∧ D.nx σ' H'
  | .brk => ∃ σ' H', Inv X pins σ' H' s' ∧ D.bk σ' H'
  | .cont => ∃ σ' H', Inv X pins σ' H' s' ∧ D.ct σ' H'
  | .ret u => ∃ v σ' H', Inv X pins σ' H' s' ∧ RelV v u ∧ D.rt v H'

def PE (X : Cx) (e : Expr) (t : TE) : Prop :=
  ∀ (pins : List (Addr × Obj)) (s : Shared) (σ : St) (H : Hp) (Q : VK), Inv X pins σ H s → t σ H Q → wpAny (model X.prog X.w) X.A (eval e X.env) (EP X pins σ Q) X.xe s
def PT (X : Cx) (e : Expr) (t : TT) : Prop :=
  ∀ (pins : List (Addr × Obj)) (s : Shared) (σ : St) (H : Hp) (Q : Bool → Hp → Prop), Inv X pins σ H s → t σ H Q → wpAny (model X.prog X.w) X.A (isTrue e X.env (eval e X.env)) (TP X pins σ Q) X.xe s
def PW (X : Cx) (e : Expr) (t : TT) : Prop :=
  ∀ (whole : Sem Value) (pins : List (Addr × Obj)) (s : Shared) (σ : St) (H : Hp) (Q : Bool → Hp → Prop), Inv X pins σ H s → t σ H Q → wpAny (model X.prog X.w) X.A (isTrue e X.env whole) (TP X pins σ Q) X.xe s
theorem PW.pt {X : Cx} {e : Expr} {t : TT} (h : PW X e t) : PT X e t := h _
def PA (X : Cx) (es : List Expr) (t : TA) : Prop :=
  ∀ (pos : Pos) (pins : List (Addr × Obj)) (s : Shared) (σ : St) (H : Hp) (Q : List V → Hp → Prop), Inv X pins σ H s → t σ H Q → wpAny (model X.prog X.w) X.A (spliced (backTo pos (starEach es X.env))) (AP X pins σ Q) X.xe s
def PS (X : Cx) (st : Stmt) (t : TS) : Prop :=
  ∀ (pins : List (Addr × Obj)) (s : Shared) (σ : St) (H : Hp) (D : Ends), Inv X pins σ H s → t D σ H → wpAny (model X.prog X.w) X.A (exec st X.env) (SP X pins D) X.xe s
def PSs (X : Cx) (st : List Stmt) (t : TS) : Prop :=
  ∀ (pins : List (Addr × Obj)) (s : Shared) (σ : St) (H : Hp) (D : Ends), Inv X pins σ H s → t D σ H → wpAny (model X.prog X.w) X.A (execs st X.env) (SP X pins D) X.xe s
theorem thn {α : Type} {t : Sem α} {Q Q' : α → Shared → Prop} {M : Model} {A : Around} {E : Value → Shared → Prop} {s : Shared} (h : wpAny M A t Q E s) (hQ : ∀ a s, Q a s → Q' a s) : wpAny M A t Q' E s := wpAny_mono h hQ fun _ _ x => x
end L2

namespace L2
open PySem PySem.Spec PyProof.Rows
section
variable {X : Cx}

def tVar (i : Nat) : TE := fun σ H Q => ∃ v, σ[i]? = some (some v) ∧ Q v H
def tC (v : V) : TE := fun _ H Q => Q v H
theorem pe_var {i : Nat} {x : Str} {pos : Pos} (hN : X.N[i]? = some x) (hv : Vis X.env.scope x) (hd : (x == ("__debug__" : Str)) = false := by decide) (hcd : (x == ("__classdict__" : Str)) = false := by decide) : PE X (.Name x pos) (tVar i) := by
  intro pins s σ H Q I h
  obtain ⟨v, e, h⟩ := h
  obtain ⟨m, hn, hl⟩ := I.loc
  obtain ⟨u, r, l⟩ := hl i x v hN e hv
  have fin : EP X pins σ Q u s := ⟨v, H, I, r, h⟩
  rcases l with ⟨hk, hm⟩ | ⟨hk, c, hc, hcell⟩
  · exact wpAny_Name (wpAny_loadName_local I.ok.kind hk hn hm fin) hd
  · rcases hk with hk | hk
    · exact wpAny_Name (wpAny_loadName_cell I.ok.kind hk hc hcell fin) hd
    · exact wpAny_Name (wpAny_loadName_free I.ok.kind hk hc hcell fin hcd) hd
theorem pe_int {i j pos} : PE X (.Constant (.int i) j pos) (tC (.int i)) := fun _ _ _ H _ I h => wpAny_Constant_int ⟨.int i, H, I.tok _, ⟨_, rfl⟩, h⟩
theorem pe_bl {b j pos} : PE X (.Constant (.bool b) j pos) (tC (.bl b)) := fun _ _ _ H _ I h => Constant_bool ⟨.bl b, H, I, rfl, h⟩
theorem pe_non {j pos} : PE X (.Constant .none j pos) (tC .non) := fun _ _ _ H _ I h => Constant_none ⟨.non, H, I, rfl, h⟩
theorem pe_str {x j pos} : PE X (.Constant (.str x) j pos) (tC (.str x)) := fun _ _ _ H _ I h => Calls.Constant_str ⟨.str x, H, I.tok _, ⟨_, rfl⟩, h⟩

def Gl (X : Cx) (x : Str) : Prop := X.env.kindOf x = some .globalImplicit
theorem ld_glob {E : Value → Shared → Prop} {pins : List (Addr × Obj)} {s : Shared} {σ : St} {H : Hp} {x : Str} {u : Value} {pos : Pos} {Q : Value → Shared → Prop} (I : Inv X pins σ H s) (hg : Gl X x) (hm : X.mg x = some u) (h : Q u s)
    (hd : (x == ("__debug__" : Str)) = false := by decide) : wpAny (model X.prog X.w) X.A (eval (.Name x pos) X.env) Q E s :=
  Calls.Name_function_global I.ok.kind hg (Calls.loadGlobal_global (by rw [I.ok.glob]; exact I.mod.glob.keeps I.bk) hm h) hd
theorem ld_blt {E : Value → Shared → Prop} {pins : List (Addr × Obj)} {s : Shared} {σ : St} {H : Hp} {x : Str} {u : Value} {pos : Pos} {Q : Value → Shared → Prop} (I : Inv X pins σ H s) (hg : Gl X x) (hm : X.mg x = none) (hv : bootBuiltins x = some u) (h : Q u s)
    (hn : x ≠ "__name__" := by decide) (hd : (x == ("__debug__" : Str)) = false := by decide) : wpAny (model X.prog X.w) X.A (eval (.Name x pos) X.env) Q E s := by
  obtain ⟨mb, h1, h2⟩ := I.mod.blt
  exact Calls.Name_function_global I.ok.kind hg (Calls.loadGlobal_builtin (by rw [I.ok.glob]; exact I.mod.glob.keeps I.bk) hm (by rw [I.ok.blt]; exact h1.keeps I.bk) ((h2 x hn).trans hv) h) hd
theorem pe_glob {x : Str} {v : V} {u : Value} {pos : Pos} (hg : Gl X x) (hm : X.mg x = some u) (r : RelV v u) (hd : (x == ("__debug__" : Str)) = false := by decide) : PE X (.Name x pos) (tC v) :=
  fun _ _ _ H _ I h => ld_glob I hg hm ⟨v, H, I, r, h⟩ hd
theorem pe_bltn {x : Str} {v : V} {u : Value} {pos : Pos} (hg : Gl X x) (hm : X.mg x = none) (hv : bootBuiltins x = some u) (r : RelV v u) (hn : x ≠ "__name__" := by decide) (hd : (x == ("__debug__" : Str)) = false := by decide) : PE X (.Name x pos) (tC v) :=
  fun _ _ _ H _ I h => ld_blt I hg hm hv ⟨v, H, I, r, h⟩ hn hd

def t2I (ta tb : TE) (k : Int → Int → Hp → Prop) : St → Hp → Prop := fun σ H => ta σ H fun x H1 => tb σ H1 fun y H2 => ∃ i j, x = .int i ∧ y = .int j ∧ k i j H2
def tAdd (ta tb : TE) : TE := fun σ H Q => t2I ta tb (fun i j H2 => Q (.int (i + j)) H2) σ H
def tSub (ta tb : TE) : TE := fun σ H Q => t2I ta tb (fun i j H2 => Q (.int (i - j)) H2) σ H
def tMul (ta tb : TE) : TE := fun σ H Q => t2I ta tb (fun i j H2 => (-(2 ^ 64) < i ∧ i < 2 ^ 64) ∧ Q (.int (i * j)) H2) σ H
variable {a b : Expr} {ta tb : TE} {pos : Pos}
def PC (X : Cx) (op : CmpOp) (a b : Expr) (t : TE) : Prop :=
  ∀ (pins : List (Addr × Obj)) (s : Shared) (σ : St) (H : Hp) (Q : VK), Inv X pins σ H s → t σ H Q →
    wpAny (model X.prog X.w) X.A (eval a X.env) (fun v s₁ => wpAny (model X.prog X.w) X.A (eval b X.env) (fun u s₂ => wpAny (model X.prog X.w) X.A (compareOp op v u) (EP X pins σ Q) X.xe s₂) X.xe s₁) X.xe s
theorem nobehind (b : Expr) {op : CmpOp} (h : op ≠ .In) (h2 : op ≠ .NotIn) : behindInMarks op b = false := by
  have e1 : (op == CmpOp.In) = false := by cases op <;> first | rfl | exact absurd rfl h
  have e2 : (op == CmpOp.NotIn) = false := by cases op <;> first | rfl | exact absurd rfl h2
  cases b <;> simp [behindInMarks, e1, e2]
def tCmp (p : Int → Int → Bool) (ta tb : TE) : TE := fun σ H Q => t2I ta tb (fun i j H2 => Q (.bl (p i j)) H2) σ H
abbrev tLt : TE → TE → TE := tCmp fun i j => decide (i < j)
abbrev tLe : TE → TE → TE := tCmp fun i j => decide (i ≤ j)
abbrev tGt : TE → TE → TE := tCmp fun i j => decide (j < i)
abbrev tGe : TE → TE → TE := tCmp fun i j => decide (j ≤ i)
abbrev tEqI : TE → TE → TE := tCmp fun i j => decide (i = j)
abbrev tNeI : TE → TE → TE := tCmp fun i j => !decide (i = j)
def tIsN (ta : TE) : TE := fun σ H Q => ta σ H fun x H1 => Q (.bl (decide (x = .non))) H1
def tNotN (ta : TE) : TE := fun σ H Q => ta σ H fun x H1 => Q (.bl (!decide (x = .non))) H1
def tB (t : TE) : TT := fun σ H Q => t σ H fun x H1 => ∃ c, x = .bl c ∧ Q c H1
theorem pt_cmp {op : CmpOp} {t : TE} (h : PC X op a b t) (h1 : behindInMarks op b = false := by first | exact nobehind _ (by decide) (by decide) | rfl) : PT X (.Compare a [op] [b] pos) (tB t) := by
  intro pins s σ H Q I hw
  refine wpAny_isTrue_Compare1 (thn (h pins s σ H _ I hw) fun v s1 h1 => thn h1 fun u s2 h2 => thn h2 fun c s3 ⟨x, H1, I1, r1, q1⟩ => ?_) h1
  obtain ⟨d, rfl, q⟩ := q1
  cases r1
  exact wpAny_truthy_bool ⟨H1, I1, q⟩
theorem pt_val {e : Expr} {t : TE} (h : PE X e t) (he : ∀ whole, isTrue e X.env whole = (do let v ← whole; standAt e.pos; holding [v] (truthy v)) := by intro _; rfl) : PT X e (tB t) := by
  intro pins s σ H Q I hw
  refine isTrue_plain (thn (h pins s σ H _ I hw) fun v s1 ⟨x, H1, I1, r1, q1⟩ => ?_) (he _)
  obtain ⟨d, rfl, q⟩ := q1
  cases r1
  exact wpAny_truthy_bool ⟨H1, I1, q⟩

variable {tA tB' : TT} {rest : List Expr}
def tAnd (t u : TT) : TT := fun σ H Q => t σ H fun c H1 => if c = true then u σ H1 Q else Q false H1
def tOr (t u : TT) : TT := fun σ H Q => t σ H fun c H1 => if c = true then Q true H1 else u σ H1 Q
def tNot (t : TT) : TT := fun σ H Q => t σ H fun c H1 => Q (!c) H1
theorem pw_and1 (ha : PT X a tA) : PW X (.BoolOp .And [a] pos) tA := by
  intro wh pins s σ H Q I h
  refine isTrue_and (thn (ha pins s σ H Q I h) fun c s1 e => ?_)
  cases c with
  | true => exact isTrue_and_nil e
  | false => exact e
theorem pw_or1 (ha : PT X a tA) : PW X (.BoolOp .Or [a] pos) tA := by
  intro wh pins s σ H Q I h
  refine isTrue_or (thn (ha pins s σ H Q I h) fun c s1 e => ?_)
  cases c with
  | false => exact isTrue_or_nil e
  | true => exact e
theorem pw_and (ha : PT X a tA) (hb : PW X (.BoolOp .And (b :: rest) pos) tB') : PW X (.BoolOp .And (a :: b :: rest) pos) (tAnd tA tB') := by
  intro wh pins s σ H Q I h
  refine isTrue_and (thn (ha pins s σ H _ I h) fun c s1 ⟨H1, I1, q1⟩ => ?_)
  cases c with
  | true => exact hb wh pins s1 σ H1 Q I1 q1
  | false => exact ⟨H1, I1, q1⟩
theorem pw_or (ha : PT X a tA) (hb : PW X (.BoolOp .Or (b :: rest) pos) tB') : PW X (.BoolOp .Or (a :: b :: rest) pos) (tOr tA tB') := by
  intro wh pins s σ H Q I h
  refine isTrue_or (thn (ha pins s σ H _ I h) fun c s1 ⟨H1, I1, q1⟩ => ?_)
  cases c with
  | true => exact ⟨H1, I1, q1⟩
  | false => exact hb wh pins s1 σ H1 Q I1 q1
theorem pt_not (ha : PT X a tA) : PT X (.UnaryOp .Not a pos) (tNot tA) := by
  intro pins s σ H Q I h
  exact isTrue_not (ha pins s σ H (fun c H1 => Q (!c) H1) I h)
def tAndV (ta tb : TE) : TE := fun σ H Q => ta σ H fun x H1 => ∃ c, x = .bl c ∧ if c = true then tb σ H1 Q else Q (.bl false) H1
def tOrV (ta tb : TE) : TE := fun σ H Q => ta σ H fun x H1 => ∃ c, x = .bl c ∧ if c = true then Q (.bl true) H1 else tb σ H1 Q
def tNotV (ta : TE) : TE := fun σ H Q => ta σ H fun x H1 => ∃ c, x = .bl c ∧ Q (.bl (!c)) H1
theorem pe_one {op} {t : TE} (h : PE X a t) : PE X (.BoolOp op [a] pos) t := fun pins s σ H Q I hw => BoolOp_one (h pins s σ H Q I hw)
theorem pe_and (ha : PE X a ta) (hb : PE X (.BoolOp .And (b :: rest) pos) tb) : PE X (.BoolOp .And (a :: b :: rest) pos) (tAndV ta tb) := by
  intro pins s σ H Q I h
  refine BoolOp_and (thn (ha pins s σ H _ I h) fun v s1 ⟨x, H1, I1, r1, q1⟩ => ?_)
  obtain ⟨c, rfl, q1⟩ := q1
  cases r1
  refine wpAny_truthy_bool ?_
  cases c with
  | true => exact hb pins s1 σ H1 Q I1 q1
  | false => exact ⟨.bl false, H1, I1, rfl, q1⟩
theorem pe_not (ha : PE X a ta) : PE X (.UnaryOp .Not a pos) (tNotV ta) := by
  intro pins s σ H Q I h
  refine UnaryOp_ (thn (ha pins s σ H _ I h) fun v s1 ⟨x, H1, I1, r1, q1⟩ => ?_)
  obtain ⟨c, rfl, q1⟩ := q1
  cases r1
  exact not_of (wpAny_truthy_bool ⟨.bl (!c), H1, I1, rfl, q1⟩)
def tIf (t : TT) (ta tb : TE) : TE := fun σ H Q => t σ H fun c H1 => if c = true then ta σ H1 Q else tb σ H1 Q
theorem pe_ifExp {c : Expr} (hc : PT X c tA) (ha : PE X a ta) (hb : PE X b tb) : PE X (.IfExp c a b pos) (tIf tA ta tb) := by
  intro pins s σ H Q I h
  refine wpAny_IfExp (thn (hc pins s σ H _ I h) fun d s1 ⟨H1, I1, q1⟩ => ?_)
  cases d with
  | true => exact ha pins s1 σ H1 Q I1 q1
  | false => exact hb pins s1 σ H1 Q I1 q1
end
end L2

namespace L2
open PySem PySem.Spec PyProof.Rows

def SqL (K : PySem.W.Frag) (H : Hp) (a : Addr) (xs : List V) : Prop :=
  Rd H a (.lst xs) ∨
    ∃ (o : Obj) (its : Array Value) (n : Nat), K.lookup a = some o ∧ o.cls = .type "list" ∧ o.dict = none ∧ o.data = .seq its n ∧ its.size ≤ sizeLine ∧ Vals xs its.toList
def SqT (K : PySem.W.Frag) (H : Hp) (a : Addr) (xs : List V) : Prop :=
  Rd H a (.tup xs) ∨
    ∃ (o : Obj) (its : Array Value) (n : Nat), K.lookup a = some o ∧ o.cls = .type "tuple" ∧ o.data = .seq its n ∧ its.size ≤ sizeLine ∧ Vals xs its.toList
def absV : Value → Option V
  | .none => some .non
  | .bool b => some (.bl b)
  | .int i _ => some (.int i)
  | .str x _ => some (.str x)
  | .bytes b _ => some (.byt b)
  | .float b _ => some (.flt b)
  | .ref a => some (.ref a)
  | .type n => some (.ty n)
  | _ => none
theorem RelV.abs {x : V} {u : Value} (r : RelV x u) : absV u = some x := by
  cases x with
  | non => cases r; rfl
  | bl _ => cases r; rfl
  | int _ => obtain ⟨t, rfl⟩ := r; rfl
  | str _ => obtain ⟨t, rfl⟩ := r; rfl
  | byt _ => obtain ⟨t, rfl⟩ := r; rfl
  | flt _ => obtain ⟨t, rfl⟩ := r; rfl
  | ref _ => cases r; rfl
  | ty _ => cases r; rfl
theorem RelV.inj {x y : V} {u : Value} (r : RelV x u) (q : RelV y u) : x = y := Option.some.inj (r.abs.symm.trans q.abs)
theorem Vals.inj : ∀ {xs ys : List V} {us : List Value}, Vals xs us → Vals ys us → xs = ys
  | _, _, _, .nil, .nil => rfl
  | _, _, _, .cons r t, .cons r' t' => by rw [r.inj r', Vals.inj t t']
section
variable {X : Cx} {pins : List (Addr × Obj)} {σ : St} {H : Hp} {s : Shared} {a : Addr} {xs ys : List V}
theorem SqL.of {K : PySem.W.Frag} (h : H a = some (.lst xs)) : SqL K H a xs := .inl (.inl h)
theorem SqT.of {K : PySem.W.Frag} (h : H a = some (.tup xs)) : SqT K H a xs := .inl (.inl h)
theorem Inv.list (I : Inv X pins σ H s) (h : SqL X.K H a xs) : ∃ its : List Value, Vals xs its ∧ PlainL s.heap a its.toArray ∧ xs.length ≤ sizeLine := by
  rcases h with h | ⟨o, its, n, hk, hc, hd, hs, hz, r⟩
  · obtain ⟨z, its, n, r, e⟩ := h.ok I.hok
    exact ⟨its, r, ⟨_, n, e, rfl, rfl, rfl⟩, z⟩
  · refine ⟨its.toList, r, ⟨o, n, I.kIn a o hk, hc, hd, by simpa using hs⟩, ?_⟩
    have e := r.length
    simp only [Array.length_toList] at e
    omega
theorem Inv.tuple (I : Inv X pins σ H s) (h : SqT X.K H a xs) : ∃ its : List Value, Vals xs its ∧ IsTup s.heap a its.toArray ∧ xs.length ≤ sizeLine := by
  rcases h with h | ⟨o, its, n, hk, hc, hs, hz, r⟩
  · obtain ⟨z, its, r, p⟩ := h.ok I.hok
    exact ⟨its, r, p, z⟩
  · refine ⟨its.toList, r, ⟨o, I.kIn a o hk, hc, n, by simpa using hs⟩, ?_⟩
    have e := r.length
    simp only [Array.length_toList] at e
    omega
theorem Inv.list_inj (I : Inv X pins σ H s) (h : SqL X.K H a xs) (h' : SqL X.K H a ys) : xs = ys := by
  obtain ⟨its, r, ⟨o, n, e, _, _, d⟩, _⟩ := I.list h
  obtain ⟨its', r', ⟨o', n', e', _, _, d'⟩, _⟩ := I.list h'
  rw [e] at e'; cases e'
  rw [d] at d'
  injection d' with d1 _
  have : its = its' := by simpa using congrArg Array.toList d1
  subst this
  exact r.inj r'
theorem Inv.tuple_inj (I : Inv X pins σ H s) (h : SqT X.K H a xs) (h' : SqT X.K H a ys) : xs = ys := by
  obtain ⟨its, r, ⟨o, e, _, n, d⟩, _⟩ := I.tuple h
  obtain ⟨its', r', ⟨o', e', _, n', d'⟩, _⟩ := I.tuple h'
  rw [e] at e'; cases e'
  rw [d] at d'
  injection d' with d1 _
  have : its = its' := by simpa using congrArg Array.toList d1
  subst this
  exact r.inj r'
end

abbrev Cx.wish (X : Cx) (E : Value → Shared → Prop) : Cx := { X with xe := E }
abbrev Cx.nox (X : Cx) : Cx := X.wish fun _ _ => False
theorem Cx.Ok.wish {X : Cx} (ok : X.Ok) (E : Value → Shared → Prop) : (X.wish E).Ok :=
  ⟨ok.mod, ok.kind, ok.glob, ok.blt, ok.above, ok.inj, ok.has, ok.cab, ok.hd, ok.frames, ok.stk, ok.exf, ok.bs, ok.bsz, ok.noex, ok.exfs, ok.funs, ok.frf⟩
theorem Cx.Ok.unwish {X : Cx} {E : Value → Shared → Prop} (ok : (X.wish E).Ok) : X.Ok :=
  ⟨ok.mod, ok.kind, ok.glob, ok.blt, ok.above, ok.inj, ok.has, ok.cab, ok.hd, ok.frames, ok.stk, ok.exf, ok.bs, ok.bsz, ok.noex, ok.exfs, ok.funs, ok.frf⟩
section
variable {X : Cx} {pins : List (Addr × Obj)} {σ : St} {H : Hp} {s : Shared} {E : Value → Shared → Prop}
theorem Inv.wish (I : Inv X pins σ H s) (E : Value → Shared → Prop) : Inv (X.wish E) pins σ H s := ⟨I.ok.wish E, I.os, I.bare, I.base, I.loc, I.cell, I.free, I.freeC, I.pin, I.hok, I.len⟩
theorem Inv.unwish (I : Inv (X.wish E) pins σ H s) : Inv X pins σ H s := ⟨I.ok.unwish, I.os, I.bare, I.base, I.loc, I.cell, I.free, I.freeC, I.pin, I.hok, I.len⟩
theorem SP.unwish {D : Ends} {f : Flow} {s' : Shared} (h : SP (X.wish E) pins D f s') : SP X pins D f s' := by
  cases f with
  | next => obtain ⟨σ', H', I, q⟩ := h; exact ⟨σ', H', I.unwish, q⟩
  | brk => obtain ⟨σ', H', I, q⟩ := h; exact ⟨σ', H', I.unwish, q⟩
  | cont => obtain ⟨σ', H', I, q⟩ := h; exact ⟨σ', H', I.unwish, q⟩
  | ret u => obtain ⟨v, σ', H', I, r, q⟩ := h; exact ⟨v, σ', H', I.unwish, r, q⟩
theorem PE.nox {e : Expr} {t : TE} (h : PE X.nox e t) : PE X e t := fun pins s σ H Q I hw =>
  wpAny_mono (h pins s σ H Q (I.wish _) hw) (fun _ _ ⟨v, H', I', r, q⟩ => ⟨v, H', I'.unwish, r, q⟩) fun _ _ z => False.elim z
theorem PT.nox {e : Expr} {t : TT} (h : PT X.nox e t) : PT X e t := fun pins s σ H Q I hw =>
  wpAny_mono (h pins s σ H Q (I.wish _) hw) (fun _ _ ⟨H', I', q⟩ => ⟨H', I'.unwish, q⟩) fun _ _ z => False.elim z
theorem PSs.nox {st : List Stmt} {t : TS} (h : PSs X.nox st t) : PSs X st t := fun pins s σ H D I hw =>
  wpAny_mono (h pins s σ H D (I.wish _) hw) (fun _ _ q => q.unwish) fun _ _ z => False.elim z
end

section
variable {X : Cx} {st : Stmt} {rest : List Stmt} {t u : TS} {e : Expr} {te : TE} {pos : Pos}
def tNext : TS := fun D σ H => D.nx σ H
def tSeq (t u : TS) : TS := fun D σ H => t { D with nx := u D } σ H
theorem pss_nil : PSs X [] tNext := fun _ _ σ H _ I h => wpAny_execs_nil ⟨σ, H, I, h⟩
theorem pss_cons (h1 : PS X st t) (h2 : PSs X rest u) : PSs X (st :: rest) (tSeq t u) := by
  intro pins s σ H D I h
  refine wpAny_execs_cons (thn (h1 pins s σ H { D with nx := u D } I h) fun f s1 q => ?_)
  cases f with
  | next =>
    obtain ⟨σ', H', I', q⟩ := q
    exact h2 pins s1 σ' H' D I' q
  | ret v => exact q
  | brk => exact q
  | cont => exact q
theorem pss_one (h1 : PS X st t) : PSs X [st] t := by
  intro pins s σ H D I h
  refine wpAny_execs_cons (thn (h1 pins s σ H D I h) fun f s1 q => ?_)
  cases f with
  | next => exact wpAny_execs_nil q
  | ret v => exact q
  | brk => exact q
  | cont => exact q
def tBreak : TS := fun D σ H => D.bk σ H
def tCont : TS := fun D σ H => D.ct σ H
theorem Inv.quiet {pins : List (Addr × Obj)} {σ : St} {H : Hp} {s : Shared} (I : Inv X pins σ H s) : interactive X.env = false := by simp [interactive, I.ok.kind]
def tDrop (te : TE) : TS := fun D σ H => te σ H fun _ H1 => D.nx σ H1
theorem ps_expr (he : PE X e te) (hs : swapsWith e none pos.line X.env = pure false := by rfl) : PS X (.Expr e pos) (tDrop te) := by
  intro pins s σ H D I h
  exact wpAny_Expr_any (thn (he pins s σ H _ I h) fun v s1 ⟨x, H1, I1, r1, q1⟩ => ⟨σ, H1, I1, q1⟩) I.quiet hs
def tRet (te : TE) : TS := fun D σ H => te σ H D.rt
theorem ps_ret (he : PE X e te) : PS X (.Return (some e) pos) (tRet te) := by
  intro pins s σ H D I h
  exact wpAny_Return_some (thn (he pins s σ H _ I h) fun v s1 ⟨x, H1, I1, r1, q1⟩ => ⟨x, σ, H1, I1, r1, q1⟩)
def tRetN : TS := fun D _ H => D.rt .non H
def tIfS (c : TT) (t u : TS) : TS := fun D σ H => c σ H fun b H1 => if b = true then t D σ H1 else u D σ H1
theorem ps_if {c : Expr} {a b : List Stmt} {tc : TT} (hc : PT X c tc) (ha : PSs X a t) (hb : PSs X b u) : PS X (.If c a b pos) (tIfS tc t u) := by
  intro pins s σ H D I h
  refine wpAny_If (thn (hc pins s σ H _ I h) fun d s1 ⟨H1, I1, q1⟩ => ?_)
  cases d with
  | true => exact ha pins s1 σ H1 D I1 q1
  | false => exact hb pins s1 σ H1 D I1 q1
def tNever : TS := fun _ _ _ => False
theorem ps_never : PS X st tNever := fun _ _ _ _ _ _ h => h.elim
end

abbrev TG := V → St → Hp → (St → Hp → Prop) → Prop
abbrev TGs := List V → St → Hp → (St → Hp → Prop) → Prop
def PG (X : Cx) (target : Expr) (t : TG) : Prop :=
  ∀ (pins : List (Addr × Obj)) (s : Shared) (σ : St) (H : Hp) (v : V) (u : Value) (Q : St → Hp → Prop), Inv X pins σ H s → RelV v u → t v σ H Q →
    wpAny (model X.prog X.w) X.A (assign target X.env u) (fun _ s' => ∃ σ' H', Inv X pins σ' H' s' ∧ Q σ' H') X.xe s
def PGs (X : Cx) (ts : List Expr) (t : TGs) : Prop :=
  ∀ (pins : List (Addr × Obj)) (s : Shared) (σ : St) (H : Hp) (vs : List V) (us : List Value) (Q : St → Hp → Prop), Inv X pins σ H s → Vals vs us → t vs σ H Q →
    wpAny (model X.prog X.w) X.A (assignInOrder ((assignEach ts X.env).map (·.2)) us) (fun _ s' => ∃ σ' H', Inv X pins σ' H' s' ∧ Q σ' H') X.xe s
abbrev TSet := V → V → V → Hp → (Hp → Prop) → Prop
def PSet (X : Cx) (t : TSet) : Prop :=
  ∀ (pins : List (Addr × Obj)) (s : Shared) (σ : St) (H : Hp) (o i v : V) (ov iv u : Value) (Q : Hp → Prop), Inv X pins σ H s → RelV o ov → RelV i iv → RelV v u → t o i v H Q →
    wpAny (model X.prog X.w) X.A (setItem ov iv u) (fun _ s' => ∃ H', Inv X pins σ H' s' ∧ Q H') X.xe s
abbrev TIp := V → V → Hp → VK → Prop
def PIp (X : Cx) (op : Operator) (t : TIp) : Prop :=
  ∀ (pins : List (Addr × Obj)) (s : Shared) (σ : St) (H : Hp) (x y : V) (v u : Value) (Q : VK), Inv X pins σ H s → RelV x v → RelV y u → t x y H Q →
    wpAny (model X.prog X.w) X.A (inplaceOp op v u) (EP X pins σ Q) X.xe s
section
variable {X : Cx} {pos : Pos}
def gName (i : Nat) : TG := fun v σ H Q => Q (σ.set i (some v)) H
theorem pg_name {i : Nat} {x : Str} (hN : X.N.Nodup) (hi : X.N[i]? = some x) (hx : Loc X.env.scope x) (hf : X.fn x = true ∨ X.env.scope.names.lookup x = some .local := by first | exact .inl rfl | exact .inr rfl | assumption) : PG X (.Name x pos) (gName i) := by
  intro pins s σ H v u Q I r h
  exact wpAny_assign_Name (store_ok I hN hi hx r (fun s' I' => ⟨_, H, I', h⟩) hf)
def gNil : TGs := fun vs σ H Q => vs = [] ∧ Q σ H
def gCons (t : TG) (u : TGs) : TGs := fun vs σ H Q => ∃ v r, vs = v :: r ∧ t v σ H fun σ' H' => u r σ' H' Q
theorem pgs_nil : PGs X [] gNil := by
  intro pins s σ H vs us Q I r h
  obtain ⟨e, h⟩ := h
  subst e
  cases r
  exact assignInOrder_nil ⟨σ, H, I, h⟩
theorem pgs_cons {e : Expr} {es : List Expr} {t : TG} {u : TGs} (h1 : PG X e t) (h2 : PGs X es u)
    (hs : (assignEach (e :: es) X.env).map (·.2) = assign e X.env :: (assignEach es X.env).map (·.2) := by rfl) : PGs X (e :: es) (gCons t u) := by
  intro pins s σ H vs us Q I r h
  obtain ⟨v, vr, e1, h⟩ := h
  subst e1
  cases r with
  | cons r rr =>
    rw [hs]
    refine assignInOrder_cons (thn (h1 pins s σ H _ _ _ I r h) fun _ s1 ⟨σ1, H1, I1, q1⟩ => ?_)
    exact h2 pins s1 σ1 H1 _ _ Q I1 rr q1
def gTup (K : PySem.W.Frag) (n : Nat) (t : TGs) : TG := fun v σ H Q => ∃ a xs, v = .ref a ∧ SqT K H a xs ∧ xs.length = n ∧ t xs σ H Q
theorem pg_tup {es : List Expr} {k : Nat} {t : TGs} {n : Nat} (hc : X.calm = true) (h : PGs X es t)
    (hn : (assignEach es X.env).length = n := by rfl) (hst : (assignEach es X.env).findIdx? (·.1) = none := by rfl) : PG X (.Tuple es k pos) (gTup X.K n t) := by
  intro pins s σ H v u Q I r hw
  obtain ⟨a, xs, e1, hq, hl, hw⟩ := hw
  subst e1
  cases r
  obtain ⟨its, rv, ht, hz⟩ := I.tuple hq
  refine assign_Tuple_tuple (I.ok.hd hc) ht (by simp [hn, ← hl, rv.length]) hst fun h' hx => ?_
  have I1 : Inv X pins σ H { s with heap := h' } := I.kept (t' := s.toks) fun b o e => hx b o (Nat.ne_of_lt (Heap.lt_size e)) e
  exact h pins _ σ H xs _ Q I1 (by simpa using rv) hw
def gSub (to ti : TE) (t : TSet) : TG := fun v σ H Q => to σ H fun o H1 => ti σ H1 fun i H2 => t o i v H2 fun H3 => Q σ H3
def tAsg (te : TE) (g : TG) : TS := fun D σ H => te σ H fun x H1 => g x σ H1 D.nx
theorem ps_set {i : Nat} {x : Str} {e : Expr} {te : TE} {pos' : Pos} (hN : X.N.Nodup) (hi : X.N[i]? = some x) (hx : Loc X.env.scope x) (he : PE X e te) (hs : swapsWith e (some (.Name x pos')) pos.line X.env = pure false := by rfl) (hf : X.fn x = true ∨ X.env.scope.names.lookup x = some .local := by first | exact .inl rfl | exact .inr rfl | assumption) :
    PS X (.Assign [.Name x pos'] e pos) (tAsg te (gName i)) := by
  intro pins s σ H D I h
  refine wpAny_Assign_Name (thn (he pins s σ H _ I h) fun v s1 ⟨y, H1, I1, r1, q1⟩ => ?_) hs
  exact store_ok I1 hN hi hx r1 (fun s2 I2 => ⟨_, H1, I2, q1⟩) hf
def tPar (i j : Nat) (ta : TA) : TS := fun D σ H => ta σ H fun vs H1 => ∃ v w, vs = [v, w] ∧ D.nx ((σ.set i (some v)).set j (some w)) H1
theorem ps_par {i j : Nat} {x y : Str} {a b : Expr} {ta : TA} {px py pt : Pos} {kt k2 pt2} (hc : X.calm = true) (hN : X.N.Nodup) (hi : X.N[i]? = some x) (hj : X.N[j]? = some y) (hij : i ≠ j)
    (hx : X.env.scope.names.lookup x = some .local) (hy : X.env.scope.names.lookup y = some .local) (ha : PA X [a, b] ta)
    (hw : swappedStores [.Tuple [.Name x px, .Name y py] kt pt] (.Tuple [a, b] k2 pt2) X.env = pure (some [x, y]))
    (hs : swapsWithSole [.Tuple [.Name x px, .Name y py] kt pt] (.Tuple [a, b] k2 pt2) pos.line X.env = pure false := by rfl) :
    PS X (.Assign [.Tuple [.Name x px, .Name y py] kt pt] (.Tuple [a, b] k2 pt2) pos) (tPar i j ta) := by
  intro pins s σ H D I h
  rw [exec_Assign_arm]
  refine wpAny_bind (wpAny_standAt ?_)
  rw [hs]
  refine wpAny_bind (wpAny_pure ?_)
  rw [if_neg (by decide)]
  refine wpAny_bind (Tuple_ (thn (ha _ pins s σ H _ I h) fun us s1 ⟨vs, H1, I1, r1, q1⟩ => ?_))
  obtain ⟨v, w, e1, q1⟩ := q1
  subst e1
  obtain ⟨u1, u2, rfl, rv, rw'⟩ : ∃ u1 u2, us = [u1, u2] ∧ RelV v u1 ∧ RelV w u2 := by
    cases r1 with
    | cons p q =>
      cases q with
      | cons p' q' =>
        cases q'
        exact ⟨_, _, rfl, p, p'⟩
  refine wpAny_newObj_type ?_ (by show 2 ≤ sizeLine; decide)
  have I2 : Inv X pins σ H1 { s1 with heap := s1.heap.push { cls := .type "tuple", data := .seq [u1, u2].toArray } } := I1.kept (t' := s1.toks) fun b o e => Heap.get?_push_of_some _ e
  rw [hw]
  refine wpAny_bind (wpAny_pure ?_)
  show wpAny (model X.prog X.w) X.A (do rule "assign.swapped-stores"; let items ← unpackItems (.ref s1.heap.objs.size) 2 none; assignInOrder [fun v => bindName X.env y v, fun v => bindName X.env x v] items.reverse; pure Flow.next) _ _ _
  refine wpAny_bind (wpAny_rule (wpAny_bind (unpackItems_tuple (items := #[u1, u2]) (I.ok.hd hc) (IsTup.new s1.heap _) fun h' hx' => ?_)))
  have I3 := I2.kept (h' := h') (t' := s1.toks) fun b o e => hx' b o (Nat.ne_of_lt (Heap.lt_size e)) e
  show wpAny _ _ (assignInOrder [fun v => bindName X.env y v, fun v => bindName X.env x v] [u2, u1] >>= fun _ => pure Flow.next) _ _ _
  refine wpAny_bind (assignInOrder_cons (wpAny_bindName (store_ok I3 hN hj (.inl hy) rw' (fun s2 I4 => ?_) (.inr hy))))
  refine assignInOrder_cons (wpAny_bindName (store_ok I4 hN hi (.inl hx) rv (fun s3 I5 => assignInOrder_nil (wpAny_pure ?_)) (.inr hx)))
  rw [List.set_comm _ _ (Ne.symm hij)] at I5
  exact ⟨_, H1, I5, q1⟩
def tAug (i : Nat) (te : TE) (ti : TIp) : TS := fun D σ H => ∃ x, σ[i]? = some (some x) ∧ te σ H fun y H1 => ti x y H1 fun z H2 => D.nx (σ.set i (some z)) H2
def tAugS (to ti te : TE) (tget : V → V → Hp → VK → Prop) (tip : TIp) (tset : TSet) : TS := fun D σ H => to σ H fun o H1 => ti σ H1 fun i H2 => tget o i H2 fun x H3 => te σ H3 fun y H4 => tip x y H4 fun z H5 => tset o i z H5 fun H6 => D.nx σ H6
def PGet (X : Cx) (t : V → V → Hp → VK → Prop) : Prop :=
  ∀ (pins : List (Addr × Obj)) (s : Shared) (σ : St) (H : Hp) (o i : V) (ov iv : Value) (Q : VK), Inv X pins σ H s → RelV o ov → RelV i iv → t o i H Q →
    wpAny (model X.prog X.w) X.A (getItem ov iv) (EP X pins σ Q) X.xe s
def ipI (f : Int → Int → Int) : TIp := fun x y H Q => ∃ i j, x = .int i ∧ y = .int j ∧ Q (.int (f i j)) H
end

section
variable {X : Cx} {pos : Pos}
def tWhile (c : TT) (tb : TS) : TS := fun D σ H => ∃ W : Nat → St → Hp → Prop, (∃ m, W m σ H) ∧ ∀ m σ H, W m σ H →
  c σ H fun b H1 => if b = true then ∃ N : St → Hp → Prop, (∀ σ' H', N σ' H' → ∃ m', m' < m ∧ W m' σ' H') ∧ tb { D with nx := N, ct := N, bk := D.nx } σ H1 else D.nx σ H1
theorem ps_while {c : Expr} {body : List Stmt} {tc : TT} {tb : TS} (hp : PassesOwn (model X.prog X.w) X.A X.env X.xe) (hc : PT X c tc) (hb : PSs X body tb) : PS X (.While c body [] pos) (tWhile tc tb) := by
  intro pins s σ H D I h
  obtain ⟨W, ⟨m0, w0⟩, turn⟩ := h
  refine wpAny_While (codeAny_whileLoop (fun n s' => ∃ σ' H', Inv X pins σ' H' s' ∧ W n σ' H') ?_ m0 ⟨σ, H, I, w0⟩)
  rintro n s1 ⟨σ1, H1, I1, w1⟩
  refine wpAny_passesOwn hp (thn (hc pins s1 σ1 H1 _ I1 (turn n σ1 H1 w1)) fun b s2 ⟨H2, I2, q2⟩ => ?_)
  cases b with
  | true =>
    obtain ⟨N, hN, q2⟩ := q2
    rw [if_pos rfl]
    refine wpAny_passesOwn hp (thn (hb pins s2 σ1 H2 _ I2 q2) fun f s3 q3 => ?_)
    cases f with
    | next =>
      obtain ⟨σ3, H3, I3, n3⟩ := q3
      obtain ⟨m', hm, w3⟩ := hN σ3 H3 n3
      exact ⟨m', hm, σ3, H3, I3, w3⟩
    | cont =>
      obtain ⟨σ3, H3, I3, n3⟩ := q3
      obtain ⟨m', hm, w3⟩ := hN σ3 H3 n3
      exact ⟨m', hm, σ3, H3, I3, w3⟩
    | brk => exact q3
    | ret v => exact q3
  | false =>
    rw [if_neg Bool.false_ne_true]
    exact wpAny_execs_nil ⟨σ1, H2, I2, q2⟩
end

structure It where
  go : Nat → Hp → Prop
  yld : Nat → Hp → V → Hp → Prop
  stop : Nat → Hp → Prop
def FpOk (X : Cx) (pins : List (Addr × Obj)) (H : Hp) (b : Addr) : Prop :=
  H b = none ∧ b ≠ X.env.locals ∧ b ∉ X.fs ∧ (b ∈ X.ex ∨ X.s₀.heap.objs.size ≤ b) ∧ (∀ x c, X.env.cells.lookup x = some c → c ≠ b) ∧ ∀ p ∈ X.pn ++ pins, p.1 ≠ b
theorem Inv.fpOk {X : Cx} {pins : List (Addr × Obj)} {σ : St} {H H' : Hp} {s : Shared} {b : Addr} (I : Inv X pins σ H s) (hb : s.heap.objs.size ≤ b) (hn : H' b = none) : FpOk X pins H' b := by
  refine ⟨hn, Nat.ne_of_gt (Nat.lt_of_lt_of_le I.lt hb), I.nofs hb, .inr (Nat.le_trans I.sz hb), fun x c e z => ?_, fun p hp z => ?_⟩
  · obtain ⟨v, q⟩ := I.cell x c e
    exact absurd (Nat.lt_of_lt_of_le q.lt (by rw [z]; exact hb)) (Nat.lt_irrefl _)
  · exact absurd (Nat.lt_of_lt_of_le (Heap.lt_size (I.pin p hp).1) (by rw [z]; exact hb)) (Nat.lt_irrefl _)
structure Turn (P : Program) (w : World) (K : PySem.W.Frag) (tg : Expr) (J : It) (fp : List Addr) (it : Addr) (tn : Nat → Heap → Prop) : Prop where
  mem : it ∈ fp
  obj : ∀ i h, tn i h → ∀ b ∈ fp, ∃ o, h.get? b = some o ∧ ∀ v, o.data ≠ .cell v
  keep : ∀ i h h', tn i h → (∀ b ∈ fp, ∀ o, h.get? b = some o → h'.get? b = some o) → tn i h'
  item : ∀ (X : Cx), X.prog = P → X.w = w → X.K = K → X.calm = true → ∀ (i : Nat) (pins : List (Addr × Obj)) (s : Shared) (σ : St) (H : Hp) (E : Value → Shared → Prop), Inv X pins σ H s → (∀ b ∈ fp, FpOk X pins H b) → tn i s.heap → J.go i H →
    wpAny (model P w) X.A (pyNext (.ref it)) (fun r s1 => ∃ u, r = some u ∧
      wpAny (model P w) X.A (letOwnedTupleGo tg (.ref it) u) (fun _ s2 => ∃ x H', Inv X pins σ H' s2 ∧ RelV x u ∧ J.yld i H x H' ∧ tn (i + 1) s2.heap ∧ ∀ b ∈ fp, H' b = none) E s1) E s
  done : ∀ (X : Cx), X.prog = P → X.w = w → X.K = K → X.calm = true → ∀ (i : Nat) (pins : List (Addr × Obj)) (s : Shared) (σ : St) (H : Hp) (E : Value → Shared → Prop), Inv X pins σ H s → (∀ b ∈ fp, FpOk X pins H b) → tn i s.heap → J.stop i H →
    wpAny (model P w) X.A (pyNext (.ref it)) (fun r s1 => r = none ∧ Inv X pins σ H s1) E s
  self : ∀ (A : Around) (i : Nat) (s : Shared) (Q : Value → Shared → Prop) (E : Value → Shared → Prop), tn i s.heap → Q (.ref it) s → wpAny (model P w) A (pyIter (.ref it)) Q E s
abbrev TI := St → Hp → (It → Hp → Prop) → Prop
def PIE (X : Cx) (pins : List (Addr × Obj)) (σ : St) (tg : Expr) (R : It → Hp → Prop) (itv : Value) (s2 : Shared) : Prop :=
  ∃ (it : Addr) (fp : List Addr) (tn : Nat → Heap → Prop) (J : It) (H' : Hp), itv = .ref it ∧ Inv X pins σ H' s2 ∧ Turn X.prog X.w X.K tg J fp it tn ∧ tn 0 s2.heap ∧ (∀ b ∈ fp, FpOk X pins H' b) ∧ R J H'
def PI (X : Cx) (tg iter : Expr) (wi : TI) : Prop :=
  ∀ (pins : List (Addr × Obj)) (s : Shared) (σ : St) (H : Hp) (R : It → Hp → Prop), Inv X pins σ H s → wi σ H R →
    wpAny (model X.prog X.w) X.A (eval iter X.env) (fun v s1 => wpAny (model X.prog X.w) X.A (pyIter v) (PIE X pins σ tg R) X.xe s1) X.xe s

theorem go_of {M : Model} {A : Around} {E : Value → Shared → Prop} {s : Shared} {tg : Expr} {it : Addr} {u : Value} {o : Obj} {n : String} {vs : Array Value} {Q : Unit → Shared → Prop} (ho : s.heap.get? it = some o) (hc : o.cls = .type n) (hd : o.data = .fields vs)
    (hn : ["enumerate", "zip", "dict_itemiterator", "dict_reverseitemiterator", "odict_iterator", "itertools.zip_longest", "itertools.pairwise"].contains n = false) (hQ : Q () s) : wpAny M A (letOwnedTupleGo tg (.ref it) u) Q E s := by
  unfold letOwnedTupleGo
  cases tg <;> first
    | exact wpAny_pure hQ
    | (cases u <;> first
        | exact wpAny_pure hQ
        | (refine wpAny_bind (wpAny_load ho ?_)
           rw [hc, hd]
           show wpAny M A (if (["enumerate", "zip", "dict_itemiterator", "dict_reverseitemiterator", "odict_iterator", "itertools.zip_longest", "itertools.pairwise"].contains n && vs[0]? == some (rawInt _)) = true then _ else _) Q E s
           rw [if_neg (by intro h; rw [hn, Bool.false_and] at h; cases h)]
           exact wpAny_pure hQ))

def Itl (K : PySem.W.Frag) (a : Addr) : It :=
  ⟨fun i H => ∃ xs x, SqL K H a xs ∧ xs[i]? = some x, fun i H x H' => H' = H ∧ ∀ xs, SqL K H a xs → xs[i]? = some x, fun i H => ∃ xs, SqL K H a xs ∧ xs.length ≤ i⟩
def Itt (K : PySem.W.Frag) (a : Addr) : It :=
  ⟨fun i H => ∃ xs x, SqT K H a xs ∧ xs[i]? = some x, fun i H x H' => H' = H ∧ ∀ xs, SqT K H a xs → xs[i]? = some x, fun i H => ∃ xs, SqT K H a xs ∧ xs.length ≤ i⟩
def Itr (lo : Int) (n : Nat) : It := ⟨fun i _ => i < n, fun i H x H' => H' = H ∧ x = .int (lo + i), fun i _ => n ≤ i⟩
theorem turn_list {P : Program} {w : World} {K : PySem.W.Frag} {tg : Expr} (a it : Addr) : Turn P w K tg (Itl K a) [it] it (fun i h => h.IsListIter it a i) where
  mem := by simp
  obj := fun i h st b hb => by
    have e : b = it := by simpa using hb
    subst e
    obtain ⟨o, e, c, d⟩ := st
    exact ⟨o, e, fun v z => by rw [d] at z; cases z⟩
  keep := fun i h h' st k => st.at fun o e => k it (by simp) o e
  item := by
    intro X hP hw hK hc i pins s σ H E I hf st hg
    subst hP hw hK
    obtain ⟨xs, x, hq, hx⟩ := hg
    obtain ⟨its, rv, p, hz⟩ := I.list hq
    obtain ⟨u, hu, ru⟩ := rv.get hx
    obtain ⟨f0, f1, f2, f3, f4, f5⟩ := hf it (by simp)
    refine wpAny_pyNext_list_item st p.isList (x := u) (by simpa using hu) fun h' st' sb => ?_
    have I1 : Inv X pins σ H { s with heap := h' } := I.turned (t' := s.toks) (fun b o hb e => (sb.2 b hb).trans e) f0 f1 f3 f4 f5
    obtain ⟨o, e, c, d⟩ := id st'
    exact ⟨u, rfl, go_of (s := { s with heap := h' }) e c d (by decide) ⟨x, H, I1, ru, ⟨rfl, fun ys hy => by rw [I.list_inj hy hq]; exact hx⟩, st', fun b hb => (hf b hb).1⟩⟩
  done := by
    intro X hP hw hK hc i pins s σ H E I hf st hg
    subst hP hw hK
    obtain ⟨xs, hq, hx⟩ := hg
    obtain ⟨its, rv, p, hz⟩ := I.list hq
    obtain ⟨f0, f1, f2, f3, f4, f5⟩ := hf it (by simp)
    have hl := rv.length
    exact wpAny_pyNext_list_end (I.ok.hd hc) st p.isList (by simp; omega) fun h' eb => ⟨rfl, I.turned (t' := s.toks) (fun b o hb e => eb b o hb e) f0 f1 f3 f4 f5⟩
  self := fun _ _ _ _ _ st h => wpAny_pyIter_listiter st h
theorem turn_tuple {P : Program} {w : World} {K : PySem.W.Frag} {tg : Expr} (a it : Addr) : Turn P w K tg (Itt K a) [it] it (fun i h => h.IsTupleIter it a i) where
  mem := by simp
  obj := fun i h st b hb => by
    have e : b = it := by simpa using hb
    subst e
    obtain ⟨o, e, c, d⟩ := st
    exact ⟨o, e, fun v z => by rw [d] at z; cases z⟩
  keep := fun i h h' st k => st.at fun o e => k it (by simp) o e
  item := by
    intro X hP hw hK hc i pins s σ H E I hf st hg
    subst hP hw hK
    obtain ⟨xs, x, hq, hx⟩ := hg
    obtain ⟨its, rv, p, hz⟩ := I.tuple hq
    obtain ⟨u, hu, ru⟩ := rv.get hx
    obtain ⟨f0, f1, f2, f3, f4, f5⟩ := hf it (by simp)
    refine wpAny_pyNext_tuple_item st (show s.heap.IsTuple a its.toArray from p) (x := u) (by simpa using hu) fun h' st' sb => ?_
    have I1 : Inv X pins σ H { s with heap := h' } := I.turned (t' := s.toks) (fun b o hb e => (sb.2 b hb).trans e) f0 f1 f3 f4 f5
    obtain ⟨o, e, c, d⟩ := id st'
    exact ⟨u, rfl, go_of (s := { s with heap := h' }) e c d (by decide) ⟨x, H, I1, ru, ⟨rfl, fun ys hy => by rw [I.tuple_inj hy hq]; exact hx⟩, st', fun b hb => (hf b hb).1⟩⟩
  done := by
    intro X hP hw hK hc i pins s σ H E I hf st hg
    subst hP hw hK
    obtain ⟨xs, hq, hx⟩ := hg
    obtain ⟨its, rv, p, hz⟩ := I.tuple hq
    obtain ⟨f0, f1, f2, f3, f4, f5⟩ := hf it (by simp)
    have hl := rv.length
    exact wpAny_pyNext_tuple_end (I.ok.hd hc) st (show s.heap.IsTuple a its.toArray from p) (by simp; omega) fun h' eb => ⟨rfl, I.turned (t' := s.toks) (fun b o hb e => eb b o hb e) f0 f1 f3 f4 f5⟩
  self := fun _ _ _ _ _ st h => wpAny_pyIter_tupleiter st h
theorem turn_range {P : Program} {w : World} {K : PySem.W.Frag} {tg : Expr} (it : Addr) (lo : Int) (n : Nat) : Turn P w K tg (Itr lo n) [it] it (fun i h => IsRangeIter h it (lo + (i : Nat) * 1) ((n : Int) - (i : Nat)) 1) where
  mem := by simp
  obj := fun i h st b hb => by
    have e : b = it := by simpa using hb
    subst e
    exact ⟨_, st, fun v z => by
      have z' : Data.fields _ = Data.cell v := z
      cases z'⟩
  keep := fun i h h' st k => k it (by simp) _ st
  item := by
    intro X hP hw hK hc i pins s σ H E I hf st hg
    subst hP hw hK
    obtain ⟨f0, f1, f2, f3, f4, f5⟩ := hf it (by simp)
    have W := Walks.range (prog := X.prog) (w := X.w) (I.ok.hd hc) it lo 1 n
    refine W.item i s _ _ hg st fun v h' tk hv st' kk => ?_
    obtain ⟨t, rfl⟩ := hv
    have I1 : Inv X pins σ H { s with heap := h', toks := tk } := I.turned (fun b o hb e => kk b o (by simpa using hb) e) f0 f1 f3 f4 f5
    refine ⟨_, rfl, go_of (s := { s with heap := h', toks := tk }) (n := "range_iterator") st' rfl rfl (by decide) ⟨.int (lo + i), H, I1, ⟨t, ?_⟩, ⟨rfl, rfl⟩, st', fun b hb => (hf b hb).1⟩⟩
    rw [Int.mul_one]
  done := by
    intro X hP hw hK hc i pins s σ H E I hf st hg
    subst hP hw hK
    obtain ⟨f0, f1, f2, f3, f4, f5⟩ := hf it (by simp)
    exact wpAny_pyNext_range_end (I.ok.hd hc) st (by have : n ≤ i := hg; omega) fun h' eb => ⟨rfl, I.turned (t' := s.toks) (fun b o hb e => eb b o hb e) f0 f1 f3 f4 f5⟩
  self := fun _ _ _ _ _ st h => wpAny_pyIter_rangeiter st h
end L2

namespace L2
open PySem PySem.Spec PyProof.Rows
section
variable {X : Cx} {tg : Expr}
def iList (K : PySem.W.Frag) (tl : TE) : TI := fun σ H R => tl σ H fun x H1 => ∃ a, x = .ref a ∧ (∃ xs, SqL K H1 a xs) ∧ R (Itl K a) H1
def iTup (K : PySem.W.Frag) (tl : TE) : TI := fun σ H R => tl σ H fun x H1 => ∃ a, x = .ref a ∧ (∃ xs, SqT K H1 a xs) ∧ R (Itt K a) H1
theorem pi_list {l : Expr} {tl : TE} (hl : PE X l tl) : PI X tg l (iList X.K tl) := by
  intro pins s σ H R I h
  refine thn (hl pins s σ H _ I h) fun v s1 ⟨x, H1, I1, r1, q1⟩ => ?_
  obtain ⟨a, e, ⟨xs, hq⟩, q⟩ := q1
  subst e
  cases r1
  obtain ⟨its, rv, p, hz⟩ := I1.list hq
  refine wpAny_pyIter_list p.isList ?_
  refine ⟨s1.heap.objs.size, [s1.heap.objs.size], _, _, H1, rfl, I1.kept (t' := s1.toks) fun b o e => Heap.get?_push_of_some _ e, turn_list a _, ⟨_, Heap.get?_push_size _ rfl, rfl, rfl⟩, fun b hb => ?_, q⟩
  have e : b = s1.heap.objs.size := by simpa using hb
  subst e
  exact I1.fpOk (Nat.le_refl _) (I1.hok.fresh (Nat.le_refl _))
theorem pi_tup {l : Expr} {tl : TE} (hl : PE X l tl) : PI X tg l (iTup X.K tl) := by
  intro pins s σ H R I h
  refine thn (hl pins s σ H _ I h) fun v s1 ⟨x, H1, I1, r1, q1⟩ => ?_
  obtain ⟨a, e, ⟨xs, hq⟩, q⟩ := q1
  subst e
  cases r1
  obtain ⟨its, rv, p, hz⟩ := I1.tuple hq
  refine wpAny_pyIter_tuple (show s1.heap.IsTuple a its.toArray from p) ?_
  refine ⟨s1.heap.objs.size, [s1.heap.objs.size], _, _, H1, rfl, I1.kept (t' := s1.toks) fun b o e => Heap.get?_push_of_some _ e, turn_tuple a _, ⟨_, Heap.get?_push_size _ rfl, rfl, rfl⟩, fun b hb => ?_, q⟩
  have e : b = s1.heap.objs.size := by simpa using hb
  subst e
  exact I1.fpOk (Nat.le_refl _) (I1.hok.fresh (Nat.le_refl _))
theorem range_it {pins : List (Addr × Obj)} {σ : St} {H : Hp} {s : Shared} {R : It → Hp → Prop} {E : Value → Shared → Prop} {lo hi : Int} {t u v : Tok} {tk : Nat} (I : Inv X pins σ H s) (h1 : -(2 ^ 62) ≤ lo) (h2 : lo < 2 ^ 62) (h3 : -(2 ^ 62) ≤ hi) (h4 : hi < 2 ^ 62)
    (q : R (Itr lo (hi - lo).toNat) H) : wpAny (model X.prog X.w) X.A (pyIter (.ref s.heap.objs.size)) (PIE X pins σ tg R) E { s with heap := s.heap.push { cls := .type "range", data := .fields #[.int lo t, .int hi u, .int 1 v] }, toks := tk } := by
  refine wpAny_pyIter_range (IsRange.new ..) (small_one h1 h2 h3 h4) ?_
  have I1 : Inv X pins σ H { s with heap := s.heap.push { cls := .type "range", data := .fields #[.int lo t, .int hi u, .int 1 v] }, toks := tk } := I.kept fun b o e => Heap.get?_push_of_some _ e
  refine ⟨(s.heap.push { cls := .type "range", data := .fields #[.int lo t, .int hi u, .int 1 v] }).objs.size, [(s.heap.push { cls := .type "range", data := .fields #[.int lo t, .int hi u, .int 1 v] }).objs.size], _, _, H, rfl,
    I1.kept (t' := tk) fun b o e => Heap.get?_push_of_some _ e, turn_range _ lo (hi - lo).toNat, ?_, fun b hb => ?_, q⟩
  · have e1 : lo + ((0 : Nat) : Int) * 1 = lo := by simp
    have e2 : (((hi - lo).toNat : Nat) : Int) - ((0 : Nat) : Int) = Builtin.Range.rangeSize lo hi 1 := by rw [rangeSize_one]; split <;> omega
    show IsRangeIter _ _ (lo + ((0 : Nat) : Int) * 1) ((((hi - lo).toNat : Nat) : Int) - ((0 : Nat) : Int)) 1
    rw [e1, e2]
    exact Heap.get?_push_size _ rfl
  · have e : b = (s.heap.push { cls := .type "range", data := .fields #[.int lo t, .int hi u, .int 1 v] }).objs.size := by simpa using hb
    subst e
    exact I1.fpOk (Nat.le_refl _) (I1.hok.fresh (Nat.le_refl _))
def iRng1 (ta : TA) : TI := fun σ H R => ta σ H fun vs H1 => ∃ j : Int, vs = [.int j] ∧ -(2 ^ 62) ≤ j ∧ j < 2 ^ 62 ∧ R (Itr 0 j.toNat) H1
def iRng2 (ta : TA) : TI := fun σ H R => ta σ H fun vs H1 => ∃ i j : Int, vs = [.int i, .int j] ∧ (-(2 ^ 62) ≤ i ∧ i < 2 ^ 62 ∧ -(2 ^ 62) ≤ j ∧ j < 2 ^ 62) ∧ R (Itr i (j - i).toNat) H1
theorem pi_range1 {a : Expr} {ta : TA} {p pos : Pos} (hg : Gl X "range") (hm : X.mg "range" = none) (ha : PA X [a] ta) (hs : starEach [a] X.env = [(false, eval a X.env)] := by rfl) : PI X tg (.Call (.Name "range" p) [a] [] pos) (iRng1 ta) := by
  intro pins s σ H R I h
  refine Call_ (ld_blt I hg hm boot_range (PyProof.Rows.callWith_type1 (thn (ha pos pins s σ H _ I h) fun us s1 ⟨vs, H1, I1, r1, q1⟩ => ?_) hs rfl))
  obtain ⟨j, e, q1, q2, q⟩ := q1
  subst e
  cases r1 with
  | cons r rr =>
    cases rr
    obtain ⟨t, rfl⟩ := r
    exact call_range_1 (range_it I1 (by omega) (by omega) q1 q2 (by simpa using q))
def tFor (wi : TI) (g : TG) (tb : TS) : TS := fun D σ H => wi σ H fun J H1 => ∃ W : Nat → Nat → St → Hp → Prop, (∃ m, W 0 m σ H1) ∧ ∀ i m σ H, W i m σ H →
  (J.stop i H ∧ D.nx σ H) ∨ (J.go i H ∧ ∃ N : St → Hp → Prop, (∀ σ' H', N σ' H' → ∃ m', m' < m ∧ W (i + 1) m' σ' H') ∧ ∀ x H', J.yld i H x H' → g x σ H' fun σ2 H2 => tb { D with nx := N, ct := N, bk := D.nx } σ2 H2)
def pinsAt (fp : List Addr) (h : Heap) : List (Addr × Obj) := fp.filterMap fun b => (h.get? b).map fun o => (b, o)
theorem mem_pinsAt {fp : List Addr} {h : Heap} {b : Addr} {o : Obj} (hb : b ∈ fp) (e : h.get? b = some o) : (b, o) ∈ pinsAt fp h := List.mem_filterMap.mpr ⟨b, hb, by rw [e]; rfl⟩
theorem of_pinsAt {fp : List Addr} {h : Heap} {p : Addr × Obj} (hp : p ∈ pinsAt fp h) : p.1 ∈ fp ∧ h.get? p.1 = some p.2 := by
  obtain ⟨b, hb, e⟩ := List.mem_filterMap.mp hp
  cases q : h.get? b with
  | none => rw [q] at e; cases e
  | some o =>
    rw [q] at e
    have e' : (b, o) = p := Option.some.inj e
    subst e'
    exact ⟨hb, q⟩
theorem Inv.pinned {pins : List (Addr × Obj)} {σ : St} {H : Hp} {s : Shared} {fp : List Addr} (I : Inv X pins σ H s) (hf : ∀ b ∈ fp, FpOk X pins H b) (ho : ∀ b ∈ fp, ∃ o, s.heap.get? b = some o ∧ ∀ v, o.data ≠ .cell v) : Inv X (pins ++ pinsAt fp s.heap) σ H s :=
  I.pins_of fun p hp => (List.mem_append.mp hp).elim (fun z => I.pin p (List.mem_append_right _ z)) fun z => by
    obtain ⟨hb, e⟩ := of_pinsAt z
    obtain ⟨f0, f1, f2, _⟩ := hf p.1 hb
    obtain ⟨o, e', d⟩ := ho p.1 hb
    rw [e] at e'; cases e'
    exact ⟨e, f0, f1, f2, d⟩
theorem Inv.unpinned {pins pl : List (Addr × Obj)} {σ : St} {H : Hp} {s : Shared} (I : Inv X (pins ++ pl) σ H s) : Inv X pins σ H s := I.pins_of fun p hp => I.pin p (List.mem_append_right _ (List.mem_append_left _ hp))
theorem ps_for {iter : Expr} {body : List Stmt} {wi : TI} {g : TG} {tb : TS} {pos : Pos} (hp : PassesOwn (model X.prog X.w) X.A X.env X.xe) (hc : X.calm = true) (hi : PI X tg iter wi) (hg : PG X tg g) (hb : PSs X body tb)
    (hs : ∀ x, foldedSetIterable iter X.env x = pure x := by intro _; rfl) : PS X (.For tg iter body [] pos) (tFor wi g tb) := by
  intro pins s σ H D I h
  refine wpAny_For (thn (hi pins s σ H _ I h) fun v s1 h1 => thn h1 fun itv s2 h2 => ?_) hs
  obtain ⟨it, fp, tn, J, H2, e, I2, T, st2, f2, W, ⟨m0, w0⟩, turn⟩ := h2
  subst e
  -- what stays true of the iterator's objects through the loop
  have stat : ∀ {H' : Hp}, (∀ b ∈ fp, H' b = none) → ∀ b ∈ fp, FpOk X pins H' b := fun hn b hb => ⟨hn b hb, (f2 b hb).2⟩
  refine codeAny_forLoop_any (fun n s' => ∃ i σ' H', Inv X pins σ' H' s' ∧ tn i s'.heap ∧ (∀ b ∈ fp, H' b = none) ∧ W i n σ' H') ?_ m0 ⟨0, σ, H2, I2, st2, fun b hb => (f2 b hb).1, w0⟩
  rintro n s3 ⟨i, σ3, H3, I3, st3, fr3, w3⟩
  rcases turn i n σ3 H3 w3 with ⟨stop, qn⟩ | ⟨go, N, hN, step⟩
  · refine wpAny_passesOwn hp (thn (T.done X rfl rfl rfl hc i pins s3 σ3 H3 X.xe I3 (stat fr3) st3 stop) fun r s4 ⟨hr, I4⟩ => ?_)
    subst hr
    exact wpAny_execs_nil ⟨σ3, H3, I4, qn⟩
  · refine wpAny_passesOwn hp (thn (T.item X rfl rfl rfl hc i pins s3 σ3 H3 X.xe I3 (stat fr3) st3 go) fun r s4 ⟨u, hr, h4⟩ => ?_)
    subst hr
    refine wpAny_passesOwn hp (thn h4 fun _ s5 ⟨x, H5, I5, r5, y5, st5, fr5⟩ => ?_)
    have I5' := I5.pinned (stat fr5) (T.obj _ _ st5)
    refine wpAny_passesOwn hp (thn (hg _ s5 σ3 H5 x u _ I5' r5 (step x H5 y5)) fun _ s6 ⟨σ6, H6, I6, q6⟩ => ?_)
    refine wpAny_passesOwn hp (thn (hb _ s6 σ6 H6 _ I6 q6) fun f s7 q7 => ?_)
    have again : ∀ {σ7 : St} {H7 : Hp}, Inv X (pins ++ pinsAt fp s5.heap) σ7 H7 s7 → N σ7 H7 → ∃ m, m < n ∧ ∃ i σ' H', Inv X pins σ' H' s7 ∧ tn i s7.heap ∧ (∀ b ∈ fp, H' b = none) ∧ W i m σ' H' := fun {σ7 H7} I7 n7 => by
      obtain ⟨m', hm, w7⟩ := hN σ7 H7 n7
      refine ⟨m', hm, i + 1, σ7, H7, I7.unpinned, T.keep _ _ _ st5 fun b hb o e => (I7.pin (b, o) (List.mem_append_right _ (List.mem_append_right _ (mem_pinsAt hb e)))).1, fun b hb => ?_, w7⟩
      obtain ⟨o, e, d⟩ := T.obj _ _ st5 b hb
      exact (I7.pin (b, o) (List.mem_append_right _ (List.mem_append_right _ (mem_pinsAt hb e)))).2.1
    cases f with
    | next => obtain ⟨σ7, H7, I7, n7⟩ := q7; exact again I7 n7
    | cont => obtain ⟨σ7, H7, I7, n7⟩ := q7; exact again I7 n7
    | brk => obtain ⟨σ7, H7, I7, q7⟩ := q7; exact ⟨σ7, H7, I7.unpinned, q7⟩
    | ret v => obtain ⟨x7, σ7, H7, I7, r7, q7⟩ := q7; exact ⟨x7, σ7, H7, I7.unpinned, r7, q7⟩
end

theorem for_list {K : PySem.W.Frag} {a : Addr} {xs : List V} {g : TG} {tb : TS} {D : Ends} {σ : St} {H : Hp} (Pv : Nat → St → Hp → Prop) (h0 : Pv 0 σ H) (hl : ∀ i σ H, i ≤ xs.length → Pv i σ H → SqL K H a xs)
    (hs : ∀ i x σ H, xs[i]? = some x → Pv i σ H → g x σ H fun σ2 H2 => tb { D with nx := Pv (i + 1), ct := Pv (i + 1), bk := D.nx } σ2 H2) (hd : ∀ σ H, Pv xs.length σ H → D.nx σ H) :
    ∃ W : Nat → Nat → St → Hp → Prop, (∃ m, W 0 m σ H) ∧ ∀ i m σ H, W i m σ H →
      ((Itl K a).stop i H ∧ D.nx σ H) ∨ ((Itl K a).go i H ∧ ∃ N : St → Hp → Prop, (∀ σ' H', N σ' H' → ∃ m', m' < m ∧ W (i + 1) m' σ' H') ∧ ∀ x H', (Itl K a).yld i H x H' → g x σ H' fun σ2 H2 => tb { D with nx := N, ct := N, bk := D.nx } σ2 H2) := by
  refine ⟨fun i m σ H => m = xs.length - i ∧ i ≤ xs.length ∧ Pv i σ H, ⟨xs.length, by simp, Nat.zero_le _, h0⟩, ?_⟩
  rintro i m σ H ⟨rfl, hi, p⟩
  have q := hl i σ H hi p
  by_cases hlt : i < xs.length
  · refine .inr ⟨⟨xs, xs[i], q, by simp [hlt]⟩, Pv (i + 1), fun σ' H' p' => ⟨xs.length - (i + 1), by omega, rfl, hlt, p'⟩, fun x H' y => ?_⟩
    obtain ⟨e, y⟩ := y
    subst e
    exact hs i x σ _ (y xs q) p
  · have e : i = xs.length := by omega
    subst e
    exact .inl ⟨⟨xs, q, Nat.le_refl _⟩, hd σ H p⟩
theorem for_tup {K : PySem.W.Frag} {a : Addr} {xs : List V} {g : TG} {tb : TS} {D : Ends} {σ : St} {H : Hp} (Pv : Nat → St → Hp → Prop) (h0 : Pv 0 σ H) (hl : ∀ i σ H, i ≤ xs.length → Pv i σ H → SqT K H a xs)
    (hs : ∀ i x σ H, xs[i]? = some x → Pv i σ H → g x σ H fun σ2 H2 => tb { D with nx := Pv (i + 1), ct := Pv (i + 1), bk := D.nx } σ2 H2) (hd : ∀ σ H, Pv xs.length σ H → D.nx σ H) :
    ∃ W : Nat → Nat → St → Hp → Prop, (∃ m, W 0 m σ H) ∧ ∀ i m σ H, W i m σ H →
      ((Itt K a).stop i H ∧ D.nx σ H) ∨ ((Itt K a).go i H ∧ ∃ N : St → Hp → Prop, (∀ σ' H', N σ' H' → ∃ m', m' < m ∧ W (i + 1) m' σ' H') ∧ ∀ x H', (Itt K a).yld i H x H' → g x σ H' fun σ2 H2 => tb { D with nx := N, ct := N, bk := D.nx } σ2 H2) := by
  refine ⟨fun i m σ H => m = xs.length - i ∧ i ≤ xs.length ∧ Pv i σ H, ⟨xs.length, by simp, Nat.zero_le _, h0⟩, ?_⟩
  rintro i m σ H ⟨rfl, hi, p⟩
  have q := hl i σ H hi p
  by_cases hlt : i < xs.length
  · refine .inr ⟨⟨xs, xs[i], q, by simp [hlt]⟩, Pv (i + 1), fun σ' H' p' => ⟨xs.length - (i + 1), by omega, rfl, hlt, p'⟩, fun x H' y => ?_⟩
    obtain ⟨e, y⟩ := y
    subst e
    exact hs i x σ _ (y xs q) p
  · have e : i = xs.length := by omega
    subst e
    exact .inl ⟨⟨xs, q, Nat.le_refl _⟩, hd σ H p⟩
theorem for_range {lo : Int} {n : Nat} {g : TG} {tb : TS} {D : Ends} {σ : St} {H : Hp} (Pv : Nat → St → Hp → Prop) (h0 : Pv 0 σ H)
    (hs : ∀ i σ H, i < n → Pv i σ H → g (.int (lo + i)) σ H fun σ2 H2 => tb { D with nx := Pv (i + 1), ct := Pv (i + 1), bk := D.nx } σ2 H2) (hd : ∀ σ H, Pv n σ H → D.nx σ H) :
    ∃ W : Nat → Nat → St → Hp → Prop, (∃ m, W 0 m σ H) ∧ ∀ i m σ H, W i m σ H →
      ((Itr lo n).stop i H ∧ D.nx σ H) ∨ ((Itr lo n).go i H ∧ ∃ N : St → Hp → Prop, (∀ σ' H', N σ' H' → ∃ m', m' < m ∧ W (i + 1) m' σ' H') ∧ ∀ x H', (Itr lo n).yld i H x H' → g x σ H' fun σ2 H2 => tb { D with nx := N, ct := N, bk := D.nx } σ2 H2) := by
  refine ⟨fun i m σ H => m = n - i ∧ i ≤ n ∧ Pv i σ H, ⟨n, by simp, Nat.zero_le _, h0⟩, ?_⟩
  rintro i m σ H ⟨rfl, hi, p⟩
  by_cases hlt : i < n
  · refine .inr ⟨hlt, Pv (i + 1), fun σ' H' p' => ⟨n - (i + 1), by omega, rfl, hlt, p'⟩, fun x H' y => ?_⟩
    obtain ⟨e, y⟩ := y
    subst e y
    exact hs i σ _ hlt p
  · have e : i = n := by omega
    subst e
    exact .inl ⟨Nat.le_refl _, hd σ H p⟩
theorem while_by {c : TT} {tb : TS} {D : Ends} {σ : St} {H : Hp} (Pv : St → Hp → Prop) (μ : St → Hp → Nat) (h0 : Pv σ H)
    (hs : ∀ σ H, Pv σ H → c σ H fun b H1 => if b = true then tb { D with nx := fun σ' H' => Pv σ' H' ∧ μ σ' H' < μ σ H, ct := fun σ' H' => Pv σ' H' ∧ μ σ' H' < μ σ H, bk := D.nx } σ H1 else D.nx σ H1)
    (mono : ∀ σ H Q Q', (∀ b H1, Q b H1 → Q' b H1) → c σ H Q → c σ H Q') : tWhile c tb D σ H := by
  refine ⟨fun m σ H => m = μ σ H ∧ Pv σ H, ⟨_, rfl, h0⟩, ?_⟩
  rintro m σ H ⟨rfl, p⟩
  refine mono σ H _ _ (fun b H1 q => ?_) (hs σ H p)
  cases b with
  | true => exact ⟨_, fun σ' H' ⟨p', l⟩ => ⟨_, l, rfl, p'⟩, q⟩
  | false => exact q
end L2

namespace L2
open PySem PySem.Spec PyProof.Rows

abbrev R2 := V → V → Hp → VK → Prop
def OpR (X : Cx) (f : Value → Value → Sem Value) (r : R2) : Prop :=
  ∀ (pins : List (Addr × Obj)) (s : Shared) (σ : St) (H : Hp) (x y : V) (v u : Value) (Q : VK), Inv X pins σ H s → RelV x v → RelV y u → r x y H Q →
    wpAny (model X.prog X.w) X.A (f v u) (EP X pins σ Q) X.xe s
def UnR (X : Cx) (f : Value → Sem Value) (r : V → Hp → VK → Prop) : Prop :=
  ∀ (pins : List (Addr × Obj)) (s : Shared) (σ : St) (H : Hp) (x : V) (v : Value) (Q : VK), Inv X pins σ H s → RelV x v → r x H Q →
    wpAny (model X.prog X.w) X.A (f v) (EP X pins σ Q) X.xe s
def CallR (X : Cx) (f : Value) (r : List V → Hp → VK → Prop) : Prop :=
  ∀ (pins : List (Addr × Obj)) (s : Shared) (σ : St) (H : Hp) (xs : List V) (us : List Value) (Q : VK), Inv X pins σ H s → Vals xs us → r xs H Q →
    wpAny (model X.prog X.w) X.A (call f us) (EP X pins σ Q) X.xe s
def TruR (X : Cx) (r : V → Hp → (Bool → Hp → Prop) → Prop) : Prop :=
  ∀ (pins : List (Addr × Obj)) (s : Shared) (σ : St) (H : Hp) (x : V) (v : Value) (Q : Bool → Hp → Prop), Inv X pins σ H s → RelV x v → r x H Q →
    wpAny (model X.prog X.w) X.A (truthy v) (TP X pins σ Q) X.xe s

def tOp (r : R2) (ta tb : TE) : TE := fun σ H Q => ta σ H fun x H1 => tb σ H1 fun y H2 => r x y H2 Q
def tUn (r : V → Hp → VK → Prop) (ta : TE) : TE := fun σ H Q => ta σ H fun x H1 => r x H1 Q
def rI (C : Int → Int → Prop) (g : Int → Int → V) : R2 := fun x y H Q => ∃ i j, x = .int i ∧ y = .int j ∧ C i j ∧ Q (g i j) H
def rI0 (g : Int → Int → V) : R2 := fun x y H Q => ∃ i j, x = .int i ∧ y = .int j ∧ Q (g i j) H
def rU (g : Int → V) : V → Hp → VK → Prop := fun x H Q => ∃ i, x = .int i ∧ Q (g i) H

section
variable {X : Cx} {a b c : Expr} {ta tb tc : TE} {pos : Pos}

theorem binT (ha : PE X a ta) (hb : PE X b tb) {pins : List (Addr × Obj)} {s : Shared} {σ : St} {H : Hp} {R : V → V → Hp → Prop} (I : Inv X pins σ H s)
    (h : ta σ H fun x H1 => tb σ H1 fun y H2 => R x y H2) {Q : Value → Shared → Prop} {f : Value → Value → Sem Value}
    (hf : ∀ v u s2 x y H2, Inv X pins σ H2 s2 → RelV x v → RelV y u → R x y H2 → wpAny (model X.prog X.w) X.A (f v u) Q X.xe s2) :
    wpAny (model X.prog X.w) X.A (eval a X.env) (fun v s₁ => wpAny (model X.prog X.w) X.A (eval b X.env) (fun u s₂ => wpAny (model X.prog X.w) X.A (f v u) Q X.xe s₂) X.xe s₁) X.xe s := by
  refine thn (ha pins s σ H _ I h) fun v s1 ⟨x, H1, I1, r1, q1⟩ => ?_
  refine thn (hb pins s1 σ H1 _ I1 q1) fun u s2 ⟨y, H2, I2, r2, q2⟩ => ?_
  exact hf v u s2 x y H2 I2 r1 r2 q2

theorem pe_op {op : Operator} {r : R2} (ho : OpR X (binaryOp op) r) (ha : PE X a ta) (hb : PE X b tb) : PE X (.BinOp a op b pos) (tOp r ta tb) := by
  intro pins s σ H Q I h
  exact wpAny_BinOp (binT ha hb I h fun v u s2 x y H2 I2 rx ry q => ho pins s2 σ H2 x y v u Q I2 rx ry q)
theorem pe_un {op : UnaryOp} {r : V → Hp → VK → Prop} (ho : UnR X (unaryOp op) r) (ha : PE X a ta) : PE X (.UnaryOp op a pos) (tUn r ta) := by
  intro pins s σ H Q I h
  exact UnaryOp_ (thn (ha pins s σ H _ I h) fun v s1 ⟨x, H1, I1, r1, q1⟩ => ho pins s1 σ H1 x v Q I1 r1 q1)
theorem opI {f : Value → Value → Sem Value} {C : Int → Int → Prop} {g : Int → Int → Int}
    (rule : ∀ (i j : Int) (t u : Tok) (s : Shared) (Q : Value → Shared → Prop) (E : Value → Shared → Prop), C i j → Q (.int (g i j) s.toks) { s with toks := s.toks + 1 } → wpAny (model X.prog X.w) X.A (f (.int i t) (.int j u)) Q E s) :
    OpR X f (rI C fun i j => .int (g i j)) := by
  intro pins s σ H x y v u Q I rx ry h
  obtain ⟨i, j, rfl, rfl, hc, q⟩ := h
  obtain ⟨t, rfl⟩ := rx
  obtain ⟨t', rfl⟩ := ry
  exact rule i j t t' s _ _ hc ⟨.int (g i j), H, I.tok _, ⟨_, rfl⟩, q⟩
theorem opI0 {f : Value → Value → Sem Value} {g : Int → Int → Int}
    (rule : ∀ (i j : Int) (t u : Tok) (s : Shared) (Q : Value → Shared → Prop) (E : Value → Shared → Prop), Q (.int (g i j) s.toks) { s with toks := s.toks + 1 } → wpAny (model X.prog X.w) X.A (f (.int i t) (.int j u)) Q E s) :
    OpR X f (rI0 fun i j => .int (g i j)) := by
  intro pins s σ H x y v u Q I rx ry h
  obtain ⟨i, j, rfl, rfl, q⟩ := h
  obtain ⟨t, rfl⟩ := rx
  obtain ⟨t', rfl⟩ := ry
  exact rule i j t t' s _ _ ⟨.int (g i j), H, I.tok _, ⟨_, rfl⟩, q⟩
theorem opB0 {f : Value → Value → Sem Value} {g : Int → Int → Bool}
    (rule : ∀ (i j : Int) (t u : Tok) (s : Shared) (Q : Value → Shared → Prop) (E : Value → Shared → Prop), Q (.bool (g i j)) s → wpAny (model X.prog X.w) X.A (f (.int i t) (.int j u)) Q E s) :
    OpR X f (rI0 fun i j => .bl (g i j)) := by
  intro pins s σ H x y v u Q I rx ry h
  obtain ⟨i, j, rfl, rfl, q⟩ := h
  obtain ⟨t, rfl⟩ := rx
  obtain ⟨t', rfl⟩ := ry
  exact rule i j t t' s _ _ ⟨.bl (g i j), H, I, rfl, q⟩

def CDiv (i j : Int) : Prop := 0 < j ∧ j < 1073741824
def CDivN (i j : Int) : Prop := j ≠ 0 ∧ j.natAbs < 1073741824
def CPow (i j : Int) : Prop := 0 ≤ j ∧ j ≤ 1000000 ∧ i.natAbs < 2 ^ 64
def CMul (i j : Int) : Prop := (-(2 ^ 64) < i ∧ i < 2 ^ 64) ∨ (-(2 ^ 64) < j ∧ j < 2 ^ 64)
theorem CMul.ok {i j : Int} (h : CMul i j) : IntMulOk i j := by
  rcases h with ⟨h1, h2⟩ | ⟨h1, h2⟩
  · exact .of_left (intBits_le_64 h1 h2)
  · exact .of_right (intBits_le_64 h1 h2)
theorem op_add : OpR X (binaryOp .Add) (rI0 fun i j => .int (i + j)) := opI0 fun _ _ _ _ _ _ _ q => add_int q
theorem op_sub : OpR X (binaryOp .Sub) (rI0 fun i j => .int (i - j)) := opI0 fun _ _ _ _ _ _ _ q => sub_int q
theorem op_modN : OpR X (binaryOp .Mod) (rI (fun _ j => j ≠ 0) fun i j => .int (i.fmod j)) := opI fun _ _ _ _ _ _ _ hc q => mod_int' hc q
theorem op_pow : OpR X (binaryOp .Pow) (rI CPow fun i j => .int (i ^ j.toNat)) := opI fun _ _ _ _ _ _ _ hc q => pow_int_small hc.1 hc.2.1 hc.2.2 q
theorem unI {f : Value → Sem Value} {g : Int → Int}
    (rule : ∀ (i : Int) (t : Tok) (s : Shared) (Q : Value → Shared → Prop) (E : Value → Shared → Prop), Q (.int (g i) s.toks) { s with toks := s.toks + 1 } → wpAny (model X.prog X.w) X.A (f (.int i t)) Q E s) :
    UnR X f (rU fun i => .int (g i)) := by
  intro pins s σ H x v Q I rx h
  obtain ⟨i, rfl, q⟩ := h
  obtain ⟨t, rfl⟩ := rx
  exact rule i t s _ _ ⟨.int (g i), H, I.tok _, ⟨_, rfl⟩, q⟩
theorem un_neg : UnR X (unaryOp .USub) (rU fun i => .int (-i)) := unI fun _ _ _ _ _ q => neg_int q
end

def scal : V → V → Bool
  | .non, .non => true | .non, .int _ => true | .int _, .non => true | .non, .bl _ => true | .bl _, .non => true | .non, .str _ => true | .str _, .non => true
  | .int _, .int _ => true | .bl _, .bl _ => true | .str _, .str _ => true | .byt _, .byt _ => true
  | .int _, .str _ => true | .str _, .int _ => true | .bl _, .str _ => true | .str _, .bl _ => true
  | _, _ => false
def rEq : R2 := fun x y H Q => scal x y = true ∧ Q (.bl (decide (x = y))) H
def rNe : R2 := fun x y H Q => scal x y = true ∧ Q (.bl (!decide (x = y))) H

theorem dec_int {i j : Int} : decide (V.int i = V.int j) = (i == j) := by
  rw [Bool.eq_iff_iff]
  simp
theorem dec_bl {i j : Bool} : decide (V.bl i = V.bl j) = (i == j) := by
  rw [Bool.eq_iff_iff]
  simp
theorem dec_str {i j : Str} : decide (V.str i = V.str j) = (i == j) := by
  rw [Bool.eq_iff_iff]
  simp
theorem dec_byt {i j : Array UInt8} : decide (V.byt i = V.byt j) = (i.toList == j.toList) := by
  rw [Bool.eq_iff_iff]
  cases i
  cases j
  simp

section
variable {X : Cx} {a b c : Expr} {ta tb tc : TE} {pos : Pos}
theorem fin_bl {pins : List (Addr × Obj)} {σ : St} {H : Hp} {s : Shared} {Q : VK} {k k' : Bool} (I : Inv X pins σ H s) (q : Q (.bl k) H) (e : k = k') : EP X pins σ Q (.bool k') s := by
  subst e
  exact ⟨.bl k, H, I, rfl, q⟩
theorem op_eq : OpR X (compareOp .Eq) rEq := by
  intro pins s σ H x y v u Q I rx ry h
  obtain ⟨hs, q⟩ := h
  cases x with
  | non =>
    cases rx
    cases y with
    | non => cases ry; exact PySem.EqNone.eq_none_none (fin_bl I q (by simp))
    | bl j => cases ry; exact PySem.EqNone.eq_none_bool (fin_bl I q (by simp))
    | int j => obtain ⟨t', rfl⟩ := ry; exact PySem.EqNone.eq_none_int (fin_bl I q (by simp))
    | str j => obtain ⟨t', rfl⟩ := ry; exact PySem.EqNone.eq_none_str (fin_bl I q (by simp))
    | _ => exact absurd (show false = true from hs) Bool.false_ne_true
  | bl i =>
    cases rx
    cases y with
    | non => cases ry; exact PySem.EqNone.eq_bool_none (fin_bl I q (by simp))
    | bl j => cases ry; exact eq_bool (fin_bl I q dec_bl)
    | str j => obtain ⟨t', rfl⟩ := ry; exact PySem.EqMixed.eq_bool_str (fin_bl I q (by simp))
    | _ => exact absurd (show false = true from hs) Bool.false_ne_true
  | int i =>
    obtain ⟨t, rfl⟩ := rx
    cases y with
    | non => cases ry; exact PySem.EqNone.eq_int_none (fin_bl I q (by simp))
    | int j => obtain ⟨t', rfl⟩ := ry; exact eq_int (fin_bl I q dec_int)
    | str j => obtain ⟨t', rfl⟩ := ry; exact PySem.EqMixed.eq_int_str (fin_bl I q (by simp))
    | _ => exact absurd (show false = true from hs) Bool.false_ne_true
  | str i =>
    obtain ⟨t, rfl⟩ := rx
    cases y with
    | non => cases ry; exact PySem.EqNone.eq_str_none (fin_bl I q (by simp))
    | bl j => cases ry; exact PySem.EqMixed.eq_str_bool (fin_bl I q (by simp))
    | int j => obtain ⟨t', rfl⟩ := ry; exact PySem.EqMixed.eq_str_int (fin_bl I q (by simp))
    | str j => obtain ⟨t', rfl⟩ := ry; exact eq_str (fin_bl I q dec_str)
    | _ => exact absurd (show false = true from hs) Bool.false_ne_true
  | byt i =>
    obtain ⟨t, rfl⟩ := rx
    cases y with
    | byt j => obtain ⟨t', rfl⟩ := ry; exact PySem.W.eq_bytes (fin_bl I q dec_byt)
    | _ => exact absurd (show false = true from hs) Bool.false_ne_true
  | _ => cases y <;> exact absurd (show false = true from hs) Bool.false_ne_true
theorem op_ne : OpR X (compareOp .NotEq) rNe := by
  intro pins s σ H x y v u Q I rx ry h
  obtain ⟨hs, q⟩ := h
  cases x with
  | non =>
    cases rx
    cases y with
    | non => cases ry; exact PySem.EqNone.ne_none_none (fin_bl I q (by simp))
    | bl j => cases ry; exact PySem.EqNone.ne_none_bool (fin_bl I q (by simp))
    | int j => obtain ⟨t', rfl⟩ := ry; exact PySem.EqNone.ne_none_int (fin_bl I q (by simp))
    | str j => obtain ⟨t', rfl⟩ := ry; exact PySem.EqNone.ne_none_str (fin_bl I q (by simp))
    | _ => exact absurd (show false = true from hs) Bool.false_ne_true
  | bl i =>
    cases rx
    cases y with
    | non => cases ry; exact PySem.EqNone.ne_bool_none (fin_bl I q (by simp))
    | bl j => cases ry; exact ne_bool (fin_bl I q (congrArg not dec_bl))
    | str j => obtain ⟨t', rfl⟩ := ry; exact PySem.EqMixed.ne_bool_str (fin_bl I q (by simp))
    | _ => exact absurd (show false = true from hs) Bool.false_ne_true
  | int i =>
    obtain ⟨t, rfl⟩ := rx
    cases y with
    | non => cases ry; exact PySem.EqNone.ne_int_none (fin_bl I q (by simp))
    | int j => obtain ⟨t', rfl⟩ := ry; exact ne_int (fin_bl I q (congrArg not dec_int))
    | str j => obtain ⟨t', rfl⟩ := ry; exact PySem.EqMixed.ne_int_str (fin_bl I q (by simp))
    | _ => exact absurd (show false = true from hs) Bool.false_ne_true
  | str i =>
    obtain ⟨t, rfl⟩ := rx
    cases y with
    | non => cases ry; exact PySem.EqNone.ne_str_none (fin_bl I q (by simp))
    | bl j => cases ry; exact PySem.EqMixed.ne_str_bool (fin_bl I q (by simp))
    | int j => obtain ⟨t', rfl⟩ := ry; exact PySem.EqMixed.ne_str_int (fin_bl I q (by simp))
    | str j => obtain ⟨t', rfl⟩ := ry; exact ne_str (fin_bl I q (congrArg not dec_str))
    | _ => exact absurd (show false = true from hs) Bool.false_ne_true
  | byt i =>
    obtain ⟨t, rfl⟩ := rx
    cases y with
    | byt j => obtain ⟨t', rfl⟩ := ry; exact PySem.W.ne_bytes (fin_bl I q (congrArg not dec_byt))
    | _ => exact absurd (show false = true from hs) Bool.false_ne_true
  | _ => cases y <;> exact absurd (show false = true from hs) Bool.false_ne_true

theorem op_lt : OpR X (compareOp .Lt) (rI0 fun i j => .bl (decide (i < j))) := opB0 fun _ _ _ _ _ _ _ q => lt_int q
theorem op_le : OpR X (compareOp .LtE) (rI0 fun i j => .bl (decide (i ≤ j))) := opB0 fun _ _ _ _ _ _ _ q => le_int q
theorem op_gt : OpR X (compareOp .Gt) (rI0 fun i j => .bl (decide (j < i))) := opB0 fun _ _ _ _ _ _ _ q => gt_int q
theorem op_ge : OpR X (compareOp .GtE) (rI0 fun i j => .bl (decide (j ≤ i))) := opB0 fun _ _ _ _ _ _ _ q => ge_int q
theorem op_isN : OpR X (compareOp .Is) (fun x y H Q => y = .non ∧ Q (.bl (decide (x = .non))) H) := by
  intro pins s σ H x y v u Q I rx ry h
  obtain ⟨rfl, q⟩ := h
  cases ry
  refine is_none_gen (fin_bl I q ?_)
  cases x <;> first
    | (cases rx; rfl)
    | (obtain ⟨t, rfl⟩ := rx; rfl)
def isObj : HO → Bool
  | .lst _ => true
  | .ins _ _ _ => true
  | _ => false
theorem OpR.or {f : Value → Value → Sem Value} {r r' : R2} (h : OpR X f r) (h' : OpR X f r') : OpR X f (fun x y H Q => r x y H Q ∨ r' x y H Q) := by
  intro pins s σ H x y v u Q I rx ry q
  rcases q with q | q
  · exact h pins s σ H x y v u Q I rx ry q
  · exact h' pins s σ H x y v u Q I rx ry q

theorem nomark (b : Expr) {op : CmpOp} (h : op ≠ .In := by decide) (h2 : op ≠ .NotIn := by decide) : behindInMarks op b = false := by
  have e1 : (op == CmpOp.In) = false := by cases op <;> first | rfl | exact absurd rfl h
  have e2 : (op == CmpOp.NotIn) = false := by cases op <;> first | rfl | exact absurd rfl h2
  cases b <;> simp [behindInMarks, e1, e2]
theorem pe_cmpR {op : CmpOp} {r : R2} (ho : OpR X (compareOp op) r) (ha : PE X a ta) (hb : PE X b tb) (hm : behindInMarks op b = false) : PE X (.Compare a [op] [b] pos) (tOp r ta tb) := by
  intro pins s σ H Q I h
  exact wpAny_Compare1 (binT ha hb I h fun v u s2 x y H2 I2 rx ry q => ho pins s2 σ H2 x y v u Q I2 rx ry q) hm
def tTest (t : TE) : TT := fun σ H Q => t σ H fun x H' => ∃ k, x = .bl k ∧ Q k H'
theorem pt_cmpR {op : CmpOp} {r : R2} (ho : OpR X (compareOp op) r) (ha : PE X a ta) (hb : PE X b tb) (hm : behindInMarks op b = false) : PT X (.Compare a [op] [b] pos) (tTest (tOp r ta tb)) := by
  intro pins s σ H Q I h
  refine wpAny_isTrue_Compare1 (thn (ha pins s σ H _ I h) fun v s1 ⟨x, H1, I1, r1, q1⟩ => thn (hb pins s1 σ H1 _ I1 q1) fun u s2 ⟨y, H2, I2, r2, q2⟩ =>
    thn (ho pins s2 σ H2 x y v u _ I2 r1 r2 q2) fun c s3 ⟨z, H3, I3, r3, k, e, q3⟩ => ?_) hm
  subst e
  cases r3
  exact wpAny_truthy_bool ⟨H3, I3, q3⟩
def tChain (r r' : R2) (ta tb tc : TE) : TE := fun σ H Q => ta σ H fun x H1 => tb σ H1 fun y H2 => r x y H2 fun z H3 => ∃ k, z = .bl k ∧
  (if k = true then tc σ H3 fun w' H4 => r' y w' H4 Q else Q (.bl false) H3)
theorem pe_chain {op op' : CmpOp} {r r' : R2} (ho : OpR X (compareOp op) r) (ho' : OpR X (compareOp op') r') (ha : PE X a ta) (hb : PE X b tb) (hc : PE X c tc)
    (hm : lastMarks [op, op'] [b, c] = false := by with_unfolding_all rfl) : PE X (.Compare a [op, op'] [b, c] pos) (tChain r r' ta tb tc) := by
  intro pins s σ H Q I h
  refine Compare_chain (thn (ha pins s σ H _ I h) fun v s1 ⟨x, H1, I1, r1, q1⟩ => chain_link (thn (hb pins s1 σ H1 _ I1 q1) fun u s2 ⟨y, H2, I2, r2, q2⟩ =>
    thn (ho pins s2 σ H2 x y v u _ I2 r1 r2 q2) fun d s3 ⟨z, H3, I3, r3, k, e, q3⟩ => ?_)) hm
  subst e
  cases r3
  refine wpAny_truthy_bool ?_
  cases k with
  | false => exact ite_ff ⟨.bl false, H3, I3, rfl, q3⟩
  | true => exact ite_tt (chain_last (thn (hc pins s3 σ H3 _ I3 q3) fun w' s4 ⟨z', H4, I4, r4, q4⟩ => ho' pins s4 σ H4 y z' u w' Q I4 r2 r4 q4))
def TruV (K : PySem.W.Frag) (x : V) (H : Hp) (k : Bool) : Prop :=
  match x with
  | .non => k = false
  | .bl b => k = b
  | .int i => k = (i != 0)
  | .str y => y.length ≤ sizeLine ∧ k = ((y.length : Int) != 0)
  | .byt y => y.size ≤ sizeLine ∧ k = ((y.size : Int) != 0)
  | .ref p => (∃ xs, SqL K H p xs ∧ k = !xs.isEmpty) ∨ (∃ xs, SqT K H p xs ∧ k = !xs.isEmpty) ∨ ∃ kvs, H p = some (.dK kvs) ∧ k = !kvs.isEmpty
  | _ => False
theorem line63 : (sizeLine : Nat) < 2 ^ 63 := by rw [sizeLine_eq]; decide
theorem op_add_str : OpR X (binaryOp .Add) (fun x y H Q => ∃ i j, x = .str i ∧ y = .str j ∧ i.length + j.length ≤ sizeLine ∧ Q (.str (i ++ j)) H) := by
  intro pins s σ H x y v u Q I rx ry h
  obtain ⟨i, j, rfl, rfl, hz, q⟩ := h
  obtain ⟨t, rfl⟩ := rx
  obtain ⟨t', rfl⟩ := ry
  exact add_str (fun t' tk => ⟨.str (i ++ j), H, I.tok _, ⟨_, rfl⟩, q⟩) hz
def PlainIxT (b : Expr) : Prop := ∀ o i, subscripted b false o i = operate [o, i] (getItem o i)
theorem vals1 {x : V} {us : List Value} (r : Vals [x] us) : ∃ u, us = [u] ∧ RelV x u := by
  cases r with
  | cons r1 r2 => cases r2; exact ⟨_, rfl, r1⟩
theorem vals2 {x y : V} {us : List Value} (r : Vals [x, y] us) : ∃ u w', us = [u, w'] ∧ RelV x u ∧ RelV y w' := by
  cases r with
  | cons r1 r2 =>
    cases r2 with
    | cons r3 r4 => cases r4; exact ⟨_, _, rfl, r1, r3⟩
theorem call_abs : CallR X (.builtin "abs") (fun xs H Q => ∃ i, xs = [.int i] ∧ Q (.int (if i < 0 then -i else i)) H) := by
  intro pins s σ H xs us Q I r h
  obtain ⟨i, rfl, q⟩ := h
  obtain ⟨u, rfl, t, rfl⟩ := vals1 r
  exact call_abs_int fun u tk => ⟨.int (if i < 0 then -i else i), H, I.tok _, ⟨_, rfl⟩, q⟩
theorem call_min2 (hc : X.calm = true) : CallR X (.builtin "min") (fun xs H Q => ∃ i j, xs = [.int i, .int j] ∧ Q (.int (if j < i then j else i)) H) := by
  intro pins s σ H xs us Q I r h
  obtain ⟨i, j, rfl, q⟩ := h
  obtain ⟨u, w', rfl, ⟨t, rfl⟩, ⟨t', rfl⟩⟩ := vals2 r
  refine min_two_ints (I.ok.hd hc) fun h' tk k => ⟨_, H, I.kept k, ?_, q⟩
  by_cases hj : j < i
  · rw [if_pos hj, if_pos hj]; exact ⟨_, rfl⟩
  · rw [if_neg hj, if_neg hj]; exact ⟨_, rfl⟩
theorem call_int1 : CallR X (.type "int") (fun xs H Q => (∃ i, xs = [.int i] ∧ Q (.int i) H) ∨ ∃ k, xs = [.bl k] ∧ Q (.int (if k then 1 else 0)) H) := by
  intro pins s σ H xs us Q I r h
  rcases h with ⟨i, rfl, q⟩ | ⟨k, rfl, q⟩
  · obtain ⟨u, rfl, t, rfl⟩ := vals1 r
    exact call_int_int ⟨.int i, H, I, ⟨_, rfl⟩, q⟩
  · obtain ⟨u, rfl, r1⟩ := vals1 r
    cases r1
    exact call_int_bool ⟨.int (if k then 1 else 0), H, I.tok _, ⟨_, rfl⟩, q⟩
theorem call_str_int : CallR X (.type "str") (fun xs H Q => ∃ i, xs = [.int i] ∧ i.natAbs.log2 < 1920 ∧ Q (.str (toString i)) H) := by
  intro pins s σ H xs us Q I r h
  obtain ⟨i, rfl, hz, q⟩ := h
  obtain ⟨u, rfl, t, rfl⟩ := vals1 r
  exact PySem.P.str_of_int hz ⟨.str _, H, I.tok _, ⟨_, rfl⟩, q⟩
def LenV (K : PySem.W.Frag) (x : V) (H : Hp) (n : Nat) : Prop :=
  match x with
  | .str y => y.length ≤ sizeLine ∧ n = y.length
  | .byt y => y.size ≤ sizeLine ∧ n = y.size
  | .ref p => (∃ xs, SqL K H p xs ∧ n = xs.length) ∨ ∃ xs, SqT K H p xs ∧ n = xs.length
  | _ => False
end
end L2

namespace L2
open PySem PySem.Spec PyProof.Rows

structure ObjM (h : Heap) (x dx C : Addr) (mA : Str → Option Value) : Prop where
  obj : h.get? x = some (PySem.W.instObj C dx)
  ns : h.Ns1 dx mA
  ne : dx ≠ x

theorem lookIn_ns {h : Heap} {dx : Addr} {mA : Str → Option Value} (n : h.Ns1 dx mA) : ∃ od, h.get? dx = some od ∧ ∀ name, PySem.W.lookIn name od = some (mA name) := by
  obtain ⟨o, es, ep, ho, hd, hk, _, hm⟩ := n
  refine ⟨o, ho, fun name => ?_⟩
  have e := hm name
  unfold nsFind findBy at e
  rw [← Array.find?_toList] at e
  unfold PySem.W.lookIn
  rw [hd]
  dsimp only
  split
  · rename_i y q
    rw [q] at e
    exact congrArg some e
  · rename_i q
    rw [q] at e
    have a : es.toList.any (·.refKey) = false := by
      rw [List.any_eq_false]
      intro y hy
      obtain ⟨z, t, hkey⟩ := hk y (Array.mem_toList_iff.mp hy)
      simp [DictEntry.refKey, hkey]
    have a' : ¬ es.toList.any (·.refKey) = true := by rw [a]; exact Bool.false_ne_true
    rw [if_neg a']
    exact congrArg some e

theorem ObjM.look {h : Heap} {x dx C : Addr} {mA : Str → Option Value} (I : ObjM h x dx C mA) : ∃ od, PySem.W.InstAt h x (PySem.W.instObj C dx) C (some od) ∧ ∀ name, PySem.W.lookIn name od = some (mA name) :=
  let ⟨od, ho, hl⟩ := lookIn_ns I.ns
  ⟨od, ⟨I.obj, rfl, rfl, ho⟩, hl⟩

section
variable {prog : Program} {w : World} {A : Around} {E : Value → Shared → Prop} {s : Shared} {K : PySem.W.Frag} {x dx C f : Addr} {mA : Str → Option Value} {name : Str} {v : Value}

theorem get_map {expr : Bool} {Q : Value → Shared → Prop} (X : K.In s.heap) (I : ObjM s.heap x dx C mA) (hg : PySem.W.plainGet K C name = true) (hh : PySem.W.hasDictIn K C = true)
    (ha : PySem.W.findIn K (.ref C) name = some none) (hv : mA name = some v) (hv' : PySem.W.handedIn v = true) (h : Q v { s with toks := s.toks + 1 }) :
    wpAny (model prog w) A (getAttr (.ref x) name expr) Q E s := by
  obtain ⟨od, J, hl⟩ := I.look
  exact PySem.W.get_value X J (PySem.W.plainGet_of hg).1 (PySem.W.findObj_own hh ha rfl (by rw [hl, hv])) hv' h

theorem get_meth {pl : Sem Bool} {Q : Value × List Value → Shared → Prop} (X : K.In s.heap) (I : ObjM s.heap x dx C mA) (hg : PySem.W.plainGet K C name = true)
    (hf : PySem.W.findIn K (.ref C) name = some (some (.ref f))) (ht : PySem.W.isFn K (.ref f) = true) (hv : mA name = none) (h : Q (.ref f, [.ref x]) s) :
    wpAny (model prog w) A (getMethod (.ref x) name pl) Q E s := by
  obtain ⟨od, J, hl⟩ := I.look
  exact PySem.W.method_fn X J (PySem.W.plainGet_of hg).1 (PySem.W.plainGet_of hg).2 hf (beq_iff_eq.mp ht) (by show (PySem.W.lookIn name od).map (·.isSome) = some false; rw [hl, hv]; rfl) h

theorem set_map {ns : List Str} {Q : Unit → Shared → Prop} (X : K.In s.heap) (I : ObjM s.heap x dx C mA)
    (hs : PySem.W.findIn K (.ref C) "__setattr__" = some (some (.builtin "object.__setattr__"))) (hp : PySem.W.plainOver K C = true) (ht : PySem.W.takerIn K C name = some none) (hh : PySem.W.hasDictIn K C = true)
    (hw : PySem.Within mA ns) (hsz : ns.length ≤ sizeLine)
    (h : ∀ h', ObjM h' x dx C (fun y => if y = name then some v else mA y) → Heap.SameBut dx s.heap h' → Q () { s with heap := h', toks := s.toks + 2 }) :
    wpAny (model prog w) A (setAttr (.ref x) name v) Q E s := by
  obtain ⟨od, J, hl⟩ := I.look
  refine PySem.W.set_plain X J hs (PySem.W.osa_open (s := { s with toks := s.toks + 1 }) (r := none) X J hp ht fun b => ?_)
  obtain ⟨cd, hc, hd'⟩ := PySem.W.any_some hh
  have hx : s.heap.get? x = some ⟨.ref C, some dx, .plain, #[]⟩ := I.obj
  refine wpAny_bind (wpAny_pure (wpAny_bind (wpAny_bind (wpAny_loadPart hx (wpAny_bind (PySem.W.Looks.here (s := { s with toks := s.toks + 1 }) (PySem.W.looks_clsIn X hc) ?_))))))
  rw [hd']
  refine wpAny_pure (a := some dx) (wpAny_bind (wpAny_pure (wpAny_bind ?_)))
  refine wpAny_nsSet1 (s := { s with toks := s.toks + 1 }) I.ns fun h' hn2 hs2 => ?_
  obtain ⟨oD, esD, epD, hoD, hdD, hcD⟩ := hn2.count (PySem.Within.cons name v hw)
  refine wpAny_bind (wpAny_lookBehind hoD (by rw [hdD]; exact pastItsLine_dict (Nat.le_trans hcD (by rw [List.length_cons]; omega))) ?_)
  exact wpAny_pure (h _ ⟨(hs2.2 _ (Ne.symm I.ne)).trans I.obj, hn2, I.ne⟩ hs2)

theorem make_map {R : Result → Shared → Prop} {vs : List Value} {kw : List (Str × Value)} (X : K.In s.heap) (hm : PySem.W.makesIn K C = true)
    (hi : PySem.W.findIn K (.ref C) "__init__" = some (some (.ref f))) (hf : PySem.W.typeIn K (.ref f) = some (.type "function"))
    (h : codeAny (model prog w) (A.under (.builtin "type.__call__" ⟨.ref C :: vs, kw⟩)) (.call (.ref f) ⟨.ref (s.heap.objs.size + 1) :: vs, kw⟩) (PySem.W.InitBack (s.heap.objs.size + 1) R)
      { s with heap := (s.heap.push PySem.W.emptyDict).push (PySem.W.instObj C s.heap.objs.size) }) :
    codeAny (model prog w) A (.call (.ref C) ⟨vs, kw⟩) R s := by
  obtain ⟨hh, g, d, t, os⟩ := s
  exact PySem.W.make_core (PySem.W.makes_of X hm) (PySem.W.looks_findIn X hi) (fun self => PySem.W.bind_fn X self hf) (.inl rfl) h
theorem make_map0 {R : Result → Shared → Prop} (X : K.In s.heap) (hm : PySem.W.makesIn K C = true)
    (hi : PySem.W.findIn K (.ref C) "__init__" = some (some (.builtin "object.__init__")))
    (hb : ∀ self, PySem.W.Looks (model prog w) s.heap (bindSpecial (.builtin "object.__init__") self) (.builtin "object.__init__", [self]))
    (h : codeAny (model prog w) (A.under (.builtin "type.__call__" ⟨[.ref C], []⟩)) (.call (.builtin "object.__init__") ⟨[.ref (s.heap.objs.size + 1)], []⟩) (PySem.W.InitBack (s.heap.objs.size + 1) R)
      { s with heap := (s.heap.push PySem.W.emptyDict).push (PySem.W.instObj C s.heap.objs.size) }) :
    codeAny (model prog w) A (.call (.ref C) ⟨[], []⟩) R s := by
  obtain ⟨hh, g, d, t, os⟩ := s
  exact PySem.W.make_core (PySem.W.makes_of X hm) (PySem.W.looks_findIn X hi) hb (.inr ⟨rfl, rfl⟩) h
end

def putF (f : Str) (v : V) : List (Str × V) → List (Str × V)
  | [] => [(f, v)]
  | (g, x) :: r => if g = f then (g, v) :: r else (g, x) :: putF f v r
theorem lookup_putF (f g : Str) (v : V) : ∀ fs : List (Str × V), (putF f v fs).lookup g = if g = f then some v else fs.lookup g
  | [] => by
    show List.lookup g [(f, v)] = _
    by_cases h : g = f
    · have hb : (g == f) = true := beq_iff_eq.mpr h
      simp only [List.lookup, hb, if_pos h]
    · have hb : (g == f) = false := beq_eq_false_iff_ne.mpr h
      simp only [List.lookup, hb, if_neg h]
  | (k, x) :: r => by
    have ih := lookup_putF f g v r
    rw [show putF f v ((k, x) :: r) = (if k = f then (k, v) :: r else (k, x) :: putF f v r) from rfl]
    by_cases hk : k = f
    · rw [if_pos hk]
      by_cases h : g = k
      · have hb : (g == k) = true := beq_iff_eq.mpr h
        simp only [List.lookup, hb, if_pos (h.trans hk)]
      · have hb : (g == k) = false := beq_eq_false_iff_ne.mpr h
        simp only [List.lookup, hb, if_neg (fun e : g = f => h (e.trans hk.symm))]
    · rw [if_neg hk]
      by_cases h : g = k
      · have hb : (g == k) = true := beq_iff_eq.mpr h
        simp only [List.lookup, hb, if_neg (fun e : g = f => hk (h.symm.trans e))]
      · have hb : (g == k) = false := beq_eq_false_iff_ne.mpr h
        simp only [List.lookup, hb]
        exact ih
theorem keys_putF (f : Str) (v : V) : ∀ fs : List (Str × V), f ∈ (putF f v fs).map (·.1) ∧ ∀ g, g ∈ fs.map (·.1) → g ∈ (putF f v fs).map (·.1)
  | [] => ⟨by simp [putF], fun g h => by simp at h⟩
  | (k, x) :: r => by
    obtain ⟨i1, i2⟩ := keys_putF f v r
    rw [show putF f v ((k, x) :: r) = (if k = f then (k, v) :: r else (k, x) :: putF f v r) from rfl]
    by_cases hk : k = f
    · rw [if_pos hk]
      subst hk
      exact ⟨by simp, fun g h => by simpa using h⟩
    · rw [if_neg hk]
      refine ⟨?_, fun g h => ?_⟩
      · rw [List.map_cons]
        exact List.mem_cons_of_mem _ i1
      · rw [List.map_cons] at h ⊢
        rcases List.mem_cons.mp h with e | e
        · exact List.mem_cons.mpr (.inl e)
        · exact List.mem_cons_of_mem _ (i2 g e)
theorem length_putF (f : Str) (v : V) : ∀ fs : List (Str × V), (putF f v fs).length ≤ fs.length + 1
  | [] => by simp [putF]
  | (k, x) :: r => by
    have ih := length_putF f v r
    rw [show putF f v ((k, x) :: r) = (if k = f then (k, v) :: r else (k, x) :: putF f v r) from rfl]
    by_cases hk : k = f
    · rw [if_pos hk, List.length_cons, List.length_cons]; omega
    · rw [if_neg hk, List.length_cons, List.length_cons]; omega

theorem RelO.some_of {v : V} {o : Option Value} (r : RelO (some v) o) : ∃ u, o = some u ∧ RelV v u := by
  cases o with
  | none => exact (show False from r).elim
  | some u => exact ⟨u, rfl, r⟩
theorem RelO.none_of {o : Option Value} (r : RelO none o) : o = none := by
  cases o with
  | none => rfl
  | some u => exact (show False from r).elim
theorem handed_of {v : V} {u : Value} (r : RelV v u) : PySem.W.handedIn u = true := by
  cases v with
  | non => cases (show u = Value.none from r); rfl
  | bl b => cases (show u = Value.bool b from r); rfl
  | int i => obtain ⟨t, e⟩ := (show ∃ t, u = Value.int i t from r); cases e; rfl
  | str x => obtain ⟨t, e⟩ := (show ∃ t, u = Value.str x t from r); cases e; rfl
  | byt b => obtain ⟨t, e⟩ := (show ∃ t, u = Value.bytes b t from r); cases e; rfl
  | flt b => obtain ⟨t, e⟩ := (show ∃ t, u = Value.float b t from r); cases e; rfl
  | ref a => cases (show u = Value.ref a from r); rfl
  | ty n => cases (show u = Value.type n from r); rfl

section
variable {P : Program} {w : World} {H H' : Hp} {h h' : Heap} {a C dx : Addr} {fs fs' : List (Str × V)}
theorem ins_get (hok : HOk P w H h) (e : H a = some (.ins C dx fs)) : ∃ mA, ObjM h a dx C mA ∧ (∀ f, RelO (fs.lookup f) (mA f)) ∧ PySem.Within mA (fs.map (·.1)) ∧ fs.length ≤ 1000 ∧ H dx = some (.own a) := by
  obtain ⟨d, z, ne, ob, mA, n, r, q⟩ := (show ObjOk P w H h a (.ins C dx fs) from hok a _ e)
  exact ⟨mA, ⟨ob, n, ne⟩, r, q, z, d⟩
end

structure Cls (K : PySem.W.Frag) (C : Addr) : Prop where
  pg : PySem.W.plainGet K C Str.empty = true
  hd : PySem.W.hasDictIn K C = true
  po : PySem.W.plainOver K C = true
  sa : PySem.W.findIn K (.ref C) "__setattr__" = some (some (.builtin "object.__setattr__"))
theorem Cls.get {K : PySem.W.Frag} {C : Addr} (c : Cls K C) (f : Str) : PySem.W.plainGet K C f = true := c.pg
def NoAttr (K : PySem.W.Frag) (C : Addr) (f : Str) : Prop := PySem.W.findIn K (.ref C) f = some none
theorem NoAttr.taker {K : PySem.W.Frag} {C : Addr} {f : Str} (n : NoAttr K C f) : PySem.W.takerIn K C f = some none := by
  unfold PySem.W.takerIn
  rw [show PySem.W.findIn K (.ref C) f = some none from n]
  rfl
structure Con (K : PySem.W.Frag) (C : Addr) (f : Str) (v : V) (u : Value) : Prop where
  at_ : PySem.W.findIn K (.ref C) f = some (some u)
  rel : RelV v u
  get : PySem.W.specialIn K u "__get__" = some none
  cp : PySem.W.copiedNames.contains f = false
structure Meth (K : PySem.W.Frag) (C : Addr) (m : Str) (f : Addr) : Prop where
  at_ : PySem.W.findIn K (.ref C) m = some (some (.ref f))
  fn : PySem.W.isFn K (.ref f) = true
  kp : PySem.W.keepIn K (.ref f) = true

section
variable {X : Cx} {pins : List (Addr × Obj)} {σ : St} {H : Hp} {s : Shared} {a C dx : Addr} {fs : List (Str × V)} {f : Str} {v : V} {A : Around} {E : Value → Shared → Prop}

theorem getattr_ok {b : Bool} {Q : Value → Shared → Prop} (I : Inv X pins σ H s) (e : H a = some (.ins C dx fs)) (c : Cls X.K C) (n : NoAttr X.K C f) (l : fs.lookup f = some v)
    (h : ∀ u s', Inv X pins σ H s' → RelV v u → Q u s') : wpAny (model X.prog X.w) A (getAttr (.ref a) f b) Q E s := by
  obtain ⟨mA, O, r, _, _, _⟩ := ins_get I.hok e
  obtain ⟨u, hu, ru⟩ := RelO.some_of (v := v) (o := mA f) (by rw [← l]; exact r f)
  exact get_map I.kIn O (c.get f) c.hd n hu (handed_of ru) (h u _ (I.tok _) ru)

theorem getmeth_ok {m : Str} {g : Addr} {pl : Sem Bool} {Q : Value × List Value → Shared → Prop} (I : Inv X pins σ H s) (e : H a = some (.ins C dx fs)) (c : Cls X.K C) (k : Meth X.K C m g) (l : fs.lookup m = none)
    (h : Q (.ref g, [.ref a]) s) : wpAny (model X.prog X.w) A (getMethod (.ref a) m pl) Q E s := by
  obtain ⟨mA, O, r, _, _, _⟩ := ins_get I.hok e
  have hn : mA m = none := RelO.none_of (by rw [← l]; exact r m)
  exact get_meth I.kIn O (c.get m) k.at_ k.fn hn h

theorem setattr_ok {y : V} {u : Value} {Q : Unit → Shared → Prop} (I : Inv X pins σ H s) (e : H a = some (.ins C dx fs)) (c : Cls X.K C) (n : NoAttr X.K C f) (hl : fs.length < 1000) (ry : RelV y u)
    (h : ∀ s', Inv X pins σ (upd H a (.ins C dx (putF f y fs))) s' → Q () s') : wpAny (model X.prog X.w) A (setAttr (.ref a) f u) Q E s := by
  obtain ⟨mA, O, r, wi, _, ho⟩ := ins_get I.hok e
  have hz : (fs.map (·.1)).length ≤ sizeLine := by rw [List.length_map, sizeLine_eq]; omega
  refine set_map I.kIn O c.sa c.po n.taker c.hd wi hz fun h' O' sb => h _ ?_
  have hd : ∃ o, h'.get? dx = some o := let ⟨o, _, _, e', _⟩ := O'.ns; ⟨o, e'⟩
  refine I.write (x := a) (e := dx) (by rw [e]; exact True.intro) (.inr ho) (fun b q hb z => (sb.2 b hb).trans z) hd ?_
  refine ⟨by rw [upd_ne O.ne]; exact ho, ?_, O.ne, O'.obj, _, O'.ns, fun g => ?_, fun g hg => ?_⟩
  · have := length_putF f y fs; omega
  · show RelO ((putF f y fs).lookup g) (if g = f then some u else mA g)
    rw [lookup_putF]
    by_cases q : g = f
    · rw [if_pos q, if_pos q]; exact ry
    · rw [if_neg q, if_neg q]; exact r g
  · by_cases q : g = f
    · rw [q]; exact (keys_putF f y fs).1
    · refine (keys_putF f y fs).2 g (wi g fun z => hg ?_)
      show (if g = f then some u else mA g) = none
      rw [if_neg q]; exact z

theorem Inv.made (I : Inv X pins σ H s) : Inv X pins σ (upd (upd H s.heap.objs.size (.own (s.heap.objs.size + 1))) (s.heap.objs.size + 1) (.ins C s.heap.objs.size []))
    { s with heap := (s.heap.push PySem.W.emptyDict).push (PySem.W.instObj C s.heap.objs.size) } := by
  have e1 : (s.heap.push PySem.W.emptyDict).get? s.heap.objs.size = some PySem.W.emptyDict := Heap.get?_push_size s.heap rfl
  have e2 : ((s.heap.push PySem.W.emptyDict).push (PySem.W.instObj C s.heap.objs.size)).get? (s.heap.objs.size + 1) = some (PySem.W.instObj C s.heap.objs.size) := by
    have := Heap.get?_push_size (s.heap.push PySem.W.emptyDict) (o := PySem.W.instObj C s.heap.objs.size) rfl
    rwa [Heap.size_push] at this
  have e3 : (s.heap.push PySem.W.emptyDict).Ns s.heap.objs.size (fun _ => none) := ⟨PySem.W.emptyDict, #[], _, e1, rfl, (fun e he => absurd he (by simp)), fun _ => rfl⟩
  have I1 := I.laid (a := s.heap.objs.size) (o := .own (s.heap.objs.size + 1)) (h' := s.heap.push PySem.W.emptyDict) (t' := s.toks) (fun b u q => Heap.get?_push_of_some _ q) (Nat.le_refl _) ⟨_, e1⟩
  refine I1.laid (a := s.heap.objs.size + 1) (o := .ins C s.heap.objs.size []) (t' := s.toks) (fun b u q => Heap.get?_push_of_some _ q) (Nat.le_of_eq (Heap.size_push _ _)) ?_
  have ne : s.heap.objs.size ≠ s.heap.objs.size + 1 := Nat.ne_of_lt (Nat.lt_succ_self _)
  refine ⟨by rw [upd_ne ne, upd_same], Nat.zero_le _, ne, e2, fun _ => none, (Heap.Ns1.of_empty e3).at fun o q => Heap.get?_push_of_some _ q, fun _ => True.intro, fun y hy => absurd rfl hy⟩

theorem attr_of {prog : Program} {w : World} {env : Env} {e : Expr} {f : Str} {pos : Pos} {s : Shared} {Q : Value → Shared → Prop} (hb : attributeBase e f env (eval e env) = eval e env)
    (h : wpAny (model prog w) A (eval e env) (fun o s₁ => wpAny (model prog w) A (getAttr o f true) Q E s₁) E s) : wpAny (model prog w) A (eval (.Attribute e f pos) env) Q E s :=
  Attribute_any_ h (by rw [arm_eval_Attribute, hb])
end

def tFld (K : PySem.W.Frag) (ta : TE) (f : Str) : TE := fun σ H Q => ta σ H fun x H1 => ∃ a C dx fs v, x = .ref a ∧ H1 a = some (.ins C dx fs) ∧ Cls K C ∧ NoAttr K C f ∧ fs.lookup f = some v ∧ Q v H1
def tCon (K : PySem.W.Frag) (ta : TE) (f : Str) : TE := fun σ H Q => ta σ H fun x H1 => ∃ a C dx fs v u, x = .ref a ∧ H1 a = some (.ins C dx fs) ∧ Cls K C ∧ Con K C f v u ∧ fs.lookup f = none ∧ Q v H1
def sFld (K : PySem.W.Frag) (ta tv : TE) (f : Str) : TS := fun D σ H => tv σ H fun y H1 => ta σ H1 fun x H2 => ∃ a C dx fs, x = .ref a ∧ H2 a = some (.ins C dx fs) ∧ Cls K C ∧ NoAttr K C f ∧ fs.length < 1000 ∧
  D.nx σ (upd H2 a (.ins C dx (putF f y fs)))
def InOp (X : Cx) (op : Operator) (rd : V → V → Hp → VK → Prop) : Prop :=
  ∀ (pins : List (Addr × Obj)) (s : Shared) (σ : St) (H : Hp) (x y : V) (u v : Value) (Q : VK), Inv X pins σ H s → RelV x u → RelV y v → rd x y H Q → wpAny (model X.prog X.w) X.A (inplaceOp op u v) (EP X pins σ Q) X.xe s
def sFldAug (K : PySem.W.Frag) (ta tv : TE) (rd : V → V → Hp → VK → Prop) (f : Str) : TS := fun D σ H => ta σ H fun x H1 => ∃ a C dx fs v, x = .ref a ∧ H1 a = some (.ins C dx fs) ∧ Cls K C ∧ NoAttr K C f ∧ fs.lookup f = some v ∧
  tv σ H1 fun y H2 => rd v y H2 fun z H3 => ∃ dx' fs', H3 a = some (.ins C dx' fs') ∧ fs'.length < 1000 ∧ D.nx σ (upd H3 a (.ins C dx' (putF f z fs')))

section
variable {X : Cx} {o e value : Expr} {f : Str} {pos pos' tpos : Pos} {ta tv : TE}
theorem pe_fld (he : PE X e ta) (hb : attributeBase e f X.env (eval e X.env) = eval e X.env) : PE X (.Attribute e f pos) (tFld X.K ta f) := by
  intro pins s σ H Q I h
  refine attr_of hb (thn (he pins s σ H _ I h) fun u s1 ⟨x, H1, I1, rx, a, C, dx, fs, v, ex, ea, c, n, l, q⟩ => ?_)
  subst ex
  obtain rfl : u = Value.ref a := rx
  exact getattr_ok I1 ea c n l fun u' s2 I2 ru => ⟨v, H1, I2, ru, q⟩
theorem ps_fld (ha : PE X o ta) (hv : PE X value tv) (hs : swapsWith value (some (.Attribute o f pos')) pos.line X.env = pure false) : PS X (.Assign [.Attribute o f pos'] value pos) (sFld X.K ta tv f) := by
  intro pins s σ H D I h
  refine plainObj_wpAny_Assign_Attribute (thn (hv pins s σ H _ I h) fun u s1 ⟨y, H1, I1, ry, q⟩ => thn (ha pins s1 σ H1 _ I1 q) fun ov s2 ⟨x, H2, I2, rx, a, C, dx, fs, ex, ea, c, n, l, q2⟩ => ?_) hs
  subst ex
  obtain rfl : ov = Value.ref a := rx
  exact setattr_ok I2 ea c n l ry fun s3 I3 => ⟨σ, _, I3, q2⟩
def rAdd : V → V → Hp → VK → Prop := fun x y H Q => ∃ i j, x = .int i ∧ y = .int j ∧ Q (.int (i + j)) H
def rSub : V → V → Hp → VK → Prop := fun x y H Q => ∃ i j, x = .int i ∧ y = .int j ∧ Q (.int (i - j)) H
end

section
variable {X : Cx} {pins : List (Addr × Obj)} {σ : St} {H : Hp} {s : Shared} {A : Around} {E : Value → Shared → Prop} {Q : Value → Shared → Prop} {c : Value} {b : Bool}
inductive TyOf (K : PySem.W.Frag) (H : Hp) : V → Value → Prop where
  | non : TyOf K H .non (.type "NoneType")
  | bl (x : Bool) : TyOf K H (.bl x) (.type "bool")
  | int (i : Int) : TyOf K H (.int i) (.type "int")
  | str (x : Str) : TyOf K H (.str x) (.type "str")
  | flt (x : UInt64) : TyOf K H (.flt x) (.type "float")
  | lst {a : Addr} {xs : List V} (e : H a = some (.lst xs)) : TyOf K H (.ref a) (.type "list")
  | frz {a : Addr} {o : Obj} {xs : List V} (e : H a = some (.frz o (.lst xs))) : TyOf K H (.ref a) (.type "list")
  | tup {a : Addr} {xs : List V} (e : H a = some (.tup xs)) : TyOf K H (.ref a) (.type "tuple")
  | dK {a : Addr} {kvs : List (Key × V)} (e : H a = some (.dK kvs)) : TyOf K H (.ref a) (.type "dict")
  | dT {a : Addr} {kvs : List (List Key × V)} (e : H a = some (.dT kvs)) : TyOf K H (.ref a) (.type "dict")
  | ins {a C dx : Addr} {fs : List (Str × V)} (e : H a = some (.ins C dx fs)) (cl : Cls K C) (ha : PySem.W.findIn K (.ref C) "__class__" = some (some (.builtin "object.__class__")))
      (hn : PySem.W.specialIn K (.builtin "object.__class__") "__get__" = some (some (.builtin "getset_descriptor.__get__"))) (htk : PySem.W.takesIn K (.builtin "object.__class__") = some true)
      (hm : PySem.W.mroIn K C (.type "object") = some true) : TyOf K H (.ref a) (.ref C)
theorem isinst_ok {x : V} {u t : Value} (I : Inv X pins σ H s) (rx : RelV x u) (ty : TyOf X.K H x t) (e : PySem.W.kitOne X.K t c = some b) (h : ∀ tk, Q (.bool b) { s with toks := tk }) :
    wpAny (model X.prog X.w) A (call (.builtin "isinstance") [u, c]) Q E s := by
  cases ty with
  | non => cases (show u = Value.none from rx); exact PySem.W.kia_one PySem.W.kitx_none I.kIn True.intro e (fun z => nomatch z) h
  | bl y => cases (show u = Value.bool y from rx); exact PySem.W.kia_one PySem.W.kitx_bool I.kIn True.intro e (fun z => nomatch z) h
  | int i => obtain ⟨t, q⟩ := (show ∃ t, u = Value.int i t from rx); cases q; exact PySem.W.kia_one PySem.W.kitx_int I.kIn True.intro e (fun z => nomatch z) h
  | str y => obtain ⟨t, q⟩ := (show ∃ t, u = Value.str y t from rx); cases q; exact PySem.W.kia_one PySem.W.kitx_str I.kIn True.intro e (fun z => nomatch z) h
  | flt y => obtain ⟨t, q⟩ := (show ∃ t, u = Value.float y t from rx); cases q; exact PySem.W.kia_one PySem.W.kitx_float I.kIn True.intro e (fun z => nomatch z) h
  | @lst a xs ea =>
    cases (show u = Value.ref a from rx)
    obtain ⟨_, _, n, _, h1⟩ := (show ObjOk X.prog X.w H s.heap a (.lst xs) from I.hok a _ ea)
    exact PySem.W.kia_one PySem.W.kitx_list I.kIn ⟨_, h1, rfl⟩ e (fun z => nomatch z) h
  | @frz a ob xs ea =>
    cases (show u = Value.ref a from rx)
    obtain ⟨_, _, _, n, _, h1⟩ := (show ObjOk X.prog X.w H s.heap a (.frz ob (.lst xs)) from I.hok a _ ea)
    exact PySem.W.kia_one PySem.W.kitx_list I.kIn ⟨_, h1, rfl⟩ e (fun z => nomatch z) h
  | @tup a xs ea =>
    cases (show u = Value.ref a from rx)
    obtain ⟨_, _, _, p⟩ := (show ObjOk X.prog X.w H s.heap a (.tup xs) from I.hok a _ ea)
    obtain ⟨o, h1, h2, _⟩ := p
    exact PySem.W.kia_one PySem.W.kitx_tuple I.kIn ⟨o, h1, h2⟩ e (fun z => nomatch z) h
  | @dK a kvs ea =>
    cases (show u = Value.ref a from rx)
    obtain ⟨_, _, vs, _, p⟩ := (show ObjOk X.prog X.w H s.heap a (.dK kvs) from I.hok a _ ea)
    obtain ⟨o, es, ep, h1, h2, _⟩ := p
    exact PySem.W.kia_one PySem.W.kitx_dict I.kIn ⟨o, h1, h2.1⟩ e (fun z => nomatch z) h
  | @dT a kvs ea =>
    cases (show u = Value.ref a from rx)
    obtain ⟨_, _, xs, _, o, es, ep, h1, h2, _⟩ := (show ObjOk X.prog X.w H s.heap a (.dT kvs) from I.hok a _ ea)
    exact PySem.W.kia_one PySem.W.kitx_dict I.kIn ⟨o, h1, h2.1⟩ e (fun z => nomatch z) h
  | @ins a C dx fs ea cl ha hn htk hm =>
    cases (show u = Value.ref a from rx)
    obtain ⟨mA, O, _⟩ := ins_get I.hok ea
    obtain ⟨od, J, _⟩ := O.look
    exact PySem.W.kia_one (PySem.W.kitx_own (cl.get _) cl.hd ha hn htk hm) I.kIn J e (fun z => nomatch z) h
end
end L2

namespace L2
open PySem PySem.Spec PyProof.Rows

structure Room (k : Nat) (A : Around) : Prop where
  hd : A.handled = none
  dp : A.depth + 3 * k + 5 < recursionLimit
  un : A.units + 16 * k + 200 < cLine
theorem Room.mono {j k : Nat} {A : Around} (r : Room k A) (h : j ≤ k) : Room j A := ⟨r.hd, by have := r.dp; omega, by have := r.un; omega⟩
theorem Room.deeper {k : Nat} {A : Around} (r : Room (k + 1) A) (env : Env) : Room k (A.deeper env) :=
  ⟨r.hd, by have := r.dp; show A.depth + 1 + 3 * k + 5 < _; omega, by have := r.un; show A.units + 3 + 16 * k + 200 < _; omega⟩
theorem Room.in1 {k : Nat} {A : Around} (r : Room (k + 1) A) : Room k A.in1 :=
  ⟨r.hd, by have := r.dp; show A.depth + 3 * k + 5 < _; omega, by have := r.un; show A.units + 1 + 16 * k + 200 < _; omega⟩
theorem make_depth {A : Around} {C : Addr} {us : List Value} {kw : List (Str × Value)} : (A.under (.builtin "type.__call__" ⟨.ref C :: us, kw⟩)).depth = A.depth + 1 := by
  first | rfl | simp [Around.under, Code.weight, Code.isCreation, Code.isGuard, Code.isCaller, Code.frames, Code.isFrame, guardIds]
theorem make_units {A : Around} {C : Addr} {us : List Value} {kw : List (Str × Value)} : (A.under (.builtin "type.__call__" ⟨.ref C :: us, kw⟩)).units = A.units + 1 := by
  first | rfl | simp [Around.under, Code.cUnits, Code.frames, Code.isFrame]
theorem Room.make {k : Nat} {A : Around} (r : Room (k + 1) A) (C : Addr) (us : List Value) (kw : List (Str × Value)) : Room k (A.under (.builtin "type.__call__" ⟨.ref C :: us, kw⟩)) :=
  ⟨r.hd, by have := r.dp; rw [make_depth]; omega, by have := r.un; rw [make_units]; omega⟩
theorem Room.depth {k : Nat} {A : Around} (r : Room k A) : A.depth < recursionLimit := by have := r.dp; omega
theorem Room.units {k : Nat} {A : Around} (r : Room k A) : A.units + 64 < cLine := by have := r.un; omega
def tNil : TA := fun _ H Q => Q [] H
def tCons (ta : TE) (tr : TA) : TA := fun σ H Q => ta σ H fun x H1 => tr σ H1 fun xs H2 => Q (x :: xs) H2
section
variable {X : Cx} {e : Expr} {es : List Expr} {te : TE} {t : TA} {pos : Pos}
theorem pa_nil : PA X [] tNil := fun _ _ _ _ H Q I h => Calls.spliced_nil ⟨[], H, I, .nil, h⟩
theorem pa_cons (ha : PE X e te) (hr : PA X es t) (hs : starEach (e :: es) X.env = (false, eval e X.env) :: starEach es X.env := by rfl) : PA X (e :: es) (tCons te t) := by
  intro pos pins s σ H Q I h
  rw [hs]
  show wpAny _ _ (spliced ((false, eval e X.env) :: backTo pos (starEach es X.env))) _ _ s
  refine Calls.spliced_cons (thn (ha pins s σ H _ I h) fun u s1 ⟨x, H1, I1, r1, q1⟩ => ?_)
  exact thn (hr pos pins s1 σ H1 _ I1 q1) fun us s2 ⟨xs, H2, I2, r2, q2⟩ => ⟨x :: xs, H2, I2, .cons r1 r2, q2⟩

def tTup (t : TA) : TE := fun σ H Q => t σ H fun xs H1 => xs.length ≤ sizeLine ∧ ∀ p, H1 p = none → Q (.ref p) (upd H1 p (.tup xs))
def tLst (t : TA) : TE := fun σ H Q => t σ H fun xs H1 => xs.length ≤ sizeLine ∧ ∀ p, H1 p = none → Q (.ref p) (upd H1 p (.lst xs))
theorem pe_tup {x1} (h : PA X es t) : PE X (.Tuple es x1 pos) (tTup t) := by
  intro pins s σ H Q I hq
  refine wpAny_Tuple_spliced (thn (h pos pins s σ H _ I hq) fun us s1 ⟨xs, H1, I1, r, z, q⟩ => ⟨by rw [← r.length]; exact z, ?_⟩)
  have hf : H1 s1.heap.objs.size = none := I1.hok.fresh (Nat.le_refl _)
  refine ⟨.ref s1.heap.objs.size, upd H1 s1.heap.objs.size (.tup xs), I1.laid (t' := s1.toks) (fun b u e => Heap.get?_push_of_some _ e) (Nat.le_refl _) ?_, rfl, q _ hf⟩
  exact ⟨z, us, r, ⟨_, Heap.get?_push_size _ rfl, rfl, _, rfl⟩⟩
theorem pe_lst (h : PA X es t) : PE X (.List es pos) (tLst t) := by
  intro pins s σ H Q I hq
  refine wpAny_List_spliced (thn (h pos pins s σ H _ I hq) fun us s1 ⟨xs, H1, I1, r, z, q⟩ => ⟨by rw [← r.length]; exact z, ?_⟩)
  have hf : H1 s1.heap.objs.size = none := I1.hok.fresh (Nat.le_refl _)
  refine ⟨.ref s1.heap.objs.size, upd H1 s1.heap.objs.size (.lst xs), I1.laid (t' := s1.toks) (fun b u e => Heap.get?_push_of_some _ e) (Nat.le_refl _) ?_, rfl, q _ hf⟩
  exact ⟨z, us, 0, r, Heap.get?_push_size _ rfl⟩
end

abbrev Sp := List V → Hp → VK → XK → Prop
abbrev CXT := List Env → Hp → Shared → XK → Value → Shared → Prop

structure Env0 (P : Program) (w : World) (K : PySem.W.Frag) (mg : Str → Option Value) (base : Heap) (A : Around) (outer : List Env) (s : Shared) (H : Hp) : Prop where
  frames : A.frames = some outer
  mod : Mod K mg base
  bs : ∀ b o, base.get? b = some o → s.heap.get? b = some o ∧ H b = none
  bsz : base.objs.size ≤ s.heap.objs.size
  funs : s.heap.FunFrames base outer
  frf : ∀ b ∈ frs outer, H b = none
  hok : HOk P w H s.heap
  bare : AllBare s.gens
def CE (outer : List Env) (P : Program) (w : World) (H : Hp) (s : Shared) (Q : VK) (u : Value) (s' : Shared) : Prop :=
  ∃ v H', s'.os = s.os ∧ AllBare s'.gens ∧ Un (frs outer) [] H H' s.heap s'.heap ∧ HOk P w H' s'.heap ∧ RelV v u ∧ Q v H'
def CR (CX : CXT) (outer : List Env) (P : Program) (w : World) (H : Hp) (s : Shared) (Q : VK) (E : XK) (r : Result) (s' : Shared) : Prop :=
  match r with
  | .ok (.ret u) => CE outer P w H s Q u s'
  | .ok _ => False
  | .error e => CX outer H s E e s'
structure FnOk (P : Program) (w : World) (K : PySem.W.Frag) (mg : Str → Option Value) (base : Heap) (CX : CXT) (k : Nat) (f : Addr) (fd : FuncData) (ps : List Str) (sp : Sp) : Prop where
  len : ∀ vs H Q E, sp vs H Q E → vs.length = ps.length
  run : ∀ (A : Around) (outer : List Env) (s : Shared) (H : Hp) (args : Args) (us : List Value) (vs : List V) (Q : VK) (E : XK), Room k A → Env0 P w K mg base A outer s H → BindsTo s fd args (ps.zip us) → Vals vs us → sp vs H Q E →
    codeAny (model P w) A (.call (.ref f) args) (CR CX outer P w H s Q E) s
theorem FnOk.mono {P : Program} {w : World} {K : PySem.W.Frag} {mg : Str → Option Value} {base : Heap} {CX : CXT} {j k : Nat} {f : Addr} {fd : FuncData} {ps : List Str} {sp : Sp} (F : FnOk P w K mg base CX j f fd ps sp) (h : j ≤ k) :
    FnOk P w K mg base CX k f fd ps sp := ⟨F.len, fun A outer s H args us vs Q E hr => F.run A outer s H args us vs Q E (hr.mono h)⟩
theorem FnOk.imp {P : Program} {w : World} {K : PySem.W.Frag} {mg : Str → Option Value} {base : Heap} {CX : CXT} {k : Nat} {f : Addr} {fd : FuncData} {ps : List Str} {sp sp' : Sp} (F : FnOk P w K mg base CX k f fd ps sp)
    (h : ∀ vs H Q E, sp' vs H Q E → sp vs H Q E) : FnOk P w K mg base CX k f fd ps sp' :=
  ⟨fun vs H Q E q => F.len vs H Q E (h _ _ _ _ q), fun A outer s H args us vs Q E hr he hb hv hs => F.run A outer s H args us vs Q E hr he hb hv (h _ _ _ _ hs)⟩

theorem Env0.make {P : Program} {w : World} {K : PySem.W.Frag} {mg : Str → Option Value} {base : Heap} {A : Around} {outer : List Env} {s : Shared} {H : Hp} (e : Env0 P w K mg base A outer s H) (C : Addr) (us : List Value) (kw : List (Str × Value)) :
    Env0 P w K mg base (A.under (.builtin "type.__call__" ⟨.ref C :: us, kw⟩)) outer s H := ⟨by first | exact e.frames | (simpa [Around.under, Code.envs, Code.isFrame, pushEnvs] using e.frames), e.mod, e.bs, e.bsz, e.funs, e.frf, e.hok, e.bare⟩
theorem Env0.in1 {P : Program} {w : World} {K : PySem.W.Frag} {mg : Str → Option Value} {base : Heap} {A : Around} {outer : List Env} {s : Shared} {H : Hp} (e : Env0 P w K mg base A outer s H) :
    Env0 P w K mg base A.in1 outer s H := ⟨e.frames, e.mod, e.bs, e.bsz, e.funs, e.frf, e.hok, e.bare⟩

section
variable {X : Cx} {pins : List (Addr × Obj)} {σ : St} {H : Hp} {s s' : Shared}
theorem Inv.env0 (I : Inv X pins σ H s) : Env0 X.prog X.w X.K X.mg X.base X.A X.stack s H :=
  ⟨I.ok.frames, I.ok.mod, I.bs, Nat.le_trans I.ok.bsz I.sz, I.stack, I.stkFree, I.hok, I.bare⟩
theorem Inv.after {Q : VK} {u : Value} (I : Inv X pins σ H s) (h : CE X.stack X.prog X.w H s Q u s') : EP X pins σ Q u s' := by
  obtain ⟨v, H', os, bare, un, hok, r, q⟩ := h
  obtain ⟨hh, g, d, t, os'⟩ := s'
  obtain rfl : os' = s.os := os
  exact ⟨v, H', I.call (h' := hh) (g' := g) (d' := d) (t' := t) (ch := []) un hok bare (fun b z => absurd z (by simp)), r, q⟩
end

def tCall (sp : Sp) (dvs : List V) (E : XK) (t : TA) : TE := fun σ H Q => t σ H fun vs H1 => sp (vs ++ dvs) H1 Q E
def tMeth (C : Addr) (m : Str) (sp : Sp) (dvs : List V) (E : XK) (ta : TE) (t : TA) : TE := fun σ H Q => ta σ H fun x H1 => ∃ a dx fs, x = .ref a ∧ H1 a = some (.ins C dx fs) ∧ fs.lookup m = none ∧
  t σ H1 fun vs H2 => sp (x :: (vs ++ dvs)) H2 Q E
def tMake (C : Addr) (sp : Sp) (dvs : List V) (E : XK) (t : TA) : TE := fun σ H Q => t σ H fun vs H1 => ∀ x dx, H1 x = none → H1 dx = none → dx ≠ x →
  sp (.ref x :: (vs ++ dvs)) (upd (upd H1 dx (.own x)) x (.ins C dx [])) (fun v H2 => v = .non ∧ Q (.ref x) H2) E

def Binds (K : PySem.W.Frag) (fd : FuncData) (ps : List Str) (ds : List Value) : Prop :=
  ∀ (s : Shared) (us : List Value), K.In s.heap → (us ++ ds).length = ps.length → BindsTo s fd ⟨us, []⟩ (ps.zip (us ++ ds))
theorem Binds.all {K : PySem.W.Frag} {fd : FuncData} {ps : List Str} (h : ∀ us : List Value, us.length = ps.length → bindArgs fd ⟨us, []⟩ = pure (ps.zip us)) : Binds K fd ps [] := fun s us _ hl => by
  rw [List.append_nil] at hl ⊢
  exact .of_eq (h us hl)

def Passes (CX : CXT) (X : Cx) (E : XK) : Prop := ∀ (pins : List (Addr × Obj)) (σ : St) (H : Hp) (s : Shared) (e : Value) (s' : Shared), Inv X pins σ H s → CX X.stack H s E e s' → X.xe e s'

section
variable {X : Cx} {CX : CXT} {k : Nat} {f C : Addr} {fd : FuncData} {ps : List Str} {sp : Sp} {dvs : List V} {ds : List Value} {E : XK} {x m : Str} {p pos apos : Pos} {e o : Expr} {es : List Expr} {ta : TE} {t : TA}

theorem run_fn {pins : List (Addr × Obj)} {σ : St} {H : Hp} {s : Shared} {Q : VK} {us : List Value} {vs : List V} (F : FnOk X.prog X.w X.K X.mg X.base CX k f fd ps sp) (hr : Room k X.A) (hb : Binds X.K fd ps ds) (hd : Vals dvs ds) (hx : Passes CX X E)
    (I : Inv X pins σ H s) (r : Vals vs us) (h : sp (vs ++ dvs) H Q E) : wpAny (model X.prog X.w) X.A (call (.ref f) us) (EP X pins σ Q) X.xe s := by
  have r2 : Vals (vs ++ dvs) (us ++ ds) := r.append hd
  have hl : (us ++ ds).length = ps.length := by rw [← r2.length]; exact F.len _ _ _ _ h
  refine wpAny_call (codeAny_mono (F.run X.A X.stack s H ⟨us, []⟩ (us ++ ds) (vs ++ dvs) Q E hr I.env0 (hb s us I.kIn hl) r2 h) fun r s' hq => ?_)
  cases r with
  | error e => exact hx pins σ H s e s' I hq
  | ok fl =>
    cases fl with
    | ret u => exact I.after hq
    | next => exact False.elim hq
    | brk => exact False.elim hq
    | cont => exact False.elim hq

theorem pe_call (F : FnOk X.prog X.w X.K X.mg X.base CX k f fd ps sp) (hr : Room k X.A) (hg : Gl X x) (hm : X.mg x = some (.ref f)) (hk : PySem.W.keepIn X.K (.ref f) = true) (hb : Binds X.K fd ps ds) (hd : Vals dvs ds) (hx : Passes CX X E)
    (ha : PA X (e :: es) t) (hdb : (x == ("__debug__" : Str)) = false := by decide) (he : starEach (e :: es) X.env = (false, eval e X.env) :: starEach es X.env := by rfl) (hpl : (backTo pos (starEach es X.env)).any (·.1) = false := by rfl) :
    PE X (.Call (.Name x p) (e :: es) [] pos) (tCall sp dvs E t) := by
  intro pins s σ H Q I h
  refine wpAny_Call_Name_kw (ld_glob I hg hm ?_ hdb)
  refine PySem.W.callWith_K (h₀ := X.base) I.ok.mod.kin hk (thn (ha pos pins s σ H _ I h) fun us s1 ⟨vs, H1, I1, r, q⟩ => ⟨I1.kIn, ?_⟩) he hpl
  exact run_fn F hr hb hd hx I1 r q
structure Mk (K : PySem.W.Frag) (C f : Addr) : Prop where
  makes : PySem.W.makesIn K C = true
  init : PySem.W.findIn K (.ref C) "__init__" = some (some (.ref f))
  fn : PySem.W.isFn K (.ref f) = true
  kp : PySem.W.keepIn K (.ref C) = true

theorem run_make {pins : List (Addr × Obj)} {σ : St} {H : Hp} {s : Shared} {Q : VK} {us : List Value} {vs : List V} (M : Mk X.K C f) (F : FnOk X.prog X.w X.K X.mg X.base CX k f fd ps sp) (hr : Room (k + 1) X.A) (hb : Binds X.K fd ps ds) (hd : Vals dvs ds)
    (hx : Passes CX X E) (I : Inv X pins σ H s) (r : Vals vs us)
    (h : ∀ x dx, H x = none → H dx = none → dx ≠ x → sp (.ref x :: (vs ++ dvs)) (upd (upd H dx (.own x)) x (.ins C dx [])) (fun v H2 => v = .non ∧ Q (.ref x) H2) E) :
    wpAny (model X.prog X.w) X.A (call (.ref C) us) (EP X pins σ Q) X.xe s := by
  have hq := h (s.heap.objs.size + 1) s.heap.objs.size (I.hok.fresh (Nat.le_succ _)) (I.hok.fresh (Nat.le_refl _)) (Nat.ne_of_lt (Nat.lt_succ_self _))
  have I2 := Inv.made (C := C) I
  have r2 : Vals (V.ref (s.heap.objs.size + 1) :: (vs ++ dvs)) (Value.ref (s.heap.objs.size + 1) :: (us ++ ds)) := .cons rfl (r.append hd)
  have hl : (Value.ref (s.heap.objs.size + 1) :: us ++ ds).length = ps.length := by
    have e := r2.length
    rw [F.len _ _ _ _ hq] at e
    exact e.symm
  refine wpAny_call (make_map (f := f) I.kIn M.makes M.init (beq_iff_eq.mp M.fn) (codeAny_mono (F.run _ X.stack _ _ ⟨Value.ref (s.heap.objs.size + 1) :: us, []⟩ (Value.ref (s.heap.objs.size + 1) :: (us ++ ds)) _ _ E (hr.make C us [])
    (I2.env0.make C us []) (hb _ (Value.ref (s.heap.objs.size + 1) :: us) I2.kIn hl) r2 hq) fun r s' hq' => ?_))
  cases r with
  | error e => exact hx pins σ _ _ e s' I2 hq'
  | ok fl =>
    cases fl with
    | ret u =>
      obtain ⟨v, H', I3, rv, ev, q3⟩ := I2.after hq'
      subst ev
      exact ⟨rv, ⟨V.ref (s.heap.objs.size + 1), H', I3, rfl, q3⟩⟩
    | next => exact False.elim hq'
    | brk => exact False.elim hq'
    | cont => exact False.elim hq'
theorem pe_make (M : Mk X.K C f) (F : FnOk X.prog X.w X.K X.mg X.base CX k f fd ps sp) (hr : Room (k + 1) X.A) (hg : Gl X x) (hm : X.mg x = some (.ref C)) (hb : Binds X.K fd ps ds) (hd : Vals dvs ds) (hx : Passes CX X E)
    (ha : PA X (e :: es) t) (hdb : (x == ("__debug__" : Str)) = false := by decide) (he : starEach (e :: es) X.env = (false, eval e X.env) :: starEach es X.env := by rfl) (hpl : (backTo pos (starEach es X.env)).any (·.1) = false := by rfl) :
    PE X (.Call (.Name x p) (e :: es) [] pos) (tMake C sp dvs E t) := by
  intro pins s σ H Q I h
  refine wpAny_Call_Name_kw (ld_glob I hg hm ?_ hdb)
  refine PySem.W.callWith_K (h₀ := X.base) I.ok.mod.kin M.kp (thn (ha pos pins s σ H _ I h) fun us s1 ⟨vs, H1, I1, r, q⟩ => ⟨I1.kIn, ?_⟩) he hpl
  exact run_make M F hr hb hd hx I1 r q
theorem pe_make0 (M : Mk X.K C f) (F : FnOk X.prog X.w X.K X.mg X.base CX k f fd ps sp) (hr : Room (k + 1) X.A) (hg : Gl X x) (hm : X.mg x = some (.ref C)) (hb : Binds X.K fd ps ds) (hd : Vals dvs ds) (hx : Passes CX X E)
    (hdb : (x == ("__debug__" : Str)) = false := by decide) : PE X (.Call (.Name x p) [] [] pos) (tMake C sp dvs E tNil) := by
  intro pins s σ H Q I h
  refine wpAny_Call_Name_kw (ld_glob I hg hm ?_ hdb)
  exact PySem.W.callWith_K0 I.kIn M.kp (run_make (us := []) M F hr hb hd hx I .nil h)
end

def PK (X : Cx) (kws : List Keyword) (t : TA) : Prop :=
  ∀ (pos : Pos) (pins : List (Addr × Obj)) (s : Shared) (σ : St) (H : Hp) (Q : List V → Hp → Prop), Inv X pins σ H s → t σ H Q → wpAny (model X.prog X.w) X.A (evalAll ((backToKw pos (keywordEach kws X.env)).map (·.2))) (AP X pins σ Q) X.xe s
section
variable {X : Cx} {CX : CXT} {k : Nat} {f C : Addr} {fd : FuncData} {ps ks : List Str} {sp : Sp} {E : XK} {x m : Str} {p pos apos kpos : Pos} {e o : Expr} {es : List Expr} {kws : List Keyword} {te ta : TE} {t tk : TA} {nm : Option Str}
structure KBinds (K : PySem.W.Frag) (fd : FuncData) (ps ks : List Str) (g : List Value → List Value → List Value) (gV : List V → List V → List V) : Prop where
  to : ∀ (s : Shared) (us ws : List Value), K.In s.heap → (g us ws).length = ps.length → BindsTo s fd ⟨us, ks.zip ws⟩ (ps.zip (g us ws))
  rel : ∀ {vs : List V} {us : List Value} {zs : List V} {ws : List Value}, Vals vs us → Vals zs ws → Vals (gV vs zs) (g us ws)
def tCallK (sp : Sp) (gV : List V → List V → List V) (E : XK) (t tk : TA) : TE := fun σ H Q => t σ H fun vs H1 => tk σ H1 fun zs H2 => sp (gV vs zs) H2 Q E
variable {g : List Value → List Value → List Value} {gV : List V → List V → List V}
end

structure FnScope (N P : List Str) (sc : Scope) : Prop where
  kind : sc.kind = .function
  co : sc.isCoroutine = false
  gen : sc.isGenerator = false
  nd : N.Nodup
  pre : N.take P.length = P
  par : ∀ x ∈ P, sc.names.lookup x = some .local ∨ sc.names.lookup x = some .cell
  nofree : ∀ y ∈ sc.names, y.2 ≠ .free

theorem bindL_out {kindOf : Str → Option NameKind} {x : Str} : ∀ {binds : List (Str × Value)} {m : Str → Option Value}, (∀ v, (x, v) ∉ binds) → bindL kindOf binds m x = m x
  | [], _, _ => rfl
  | (n, v) :: r, m, h => by
    unfold bindL
    rw [bindL_out fun w hw => h w (List.mem_cons_of_mem _ hw)]
    split
    · have : x ≠ n := by rintro rfl; exact h v List.mem_cons_self
      simp [this]
    · rfl
theorem bindC_out {kindOf : Str → Option NameKind} {x : Str} : ∀ {binds : List (Str × Value)} {m : Str → Option Value}, (∀ v, (x, v) ∉ binds) → bindC kindOf binds m x = m x
  | [], _, _ => rfl
  | (n, v) :: r, m, h => by
    unfold bindC
    rw [bindC_out fun w hw => h w (List.mem_cons_of_mem _ hw)]
    split
    · rfl
    · have : x ≠ n := by rintro rfl; exact h v List.mem_cons_self
      simp [this]
theorem bindL_get {kindOf : Str → Option NameKind} {x : Str} {v : Value} : ∀ {P : List Str} {vs : List Value} {i : Nat} {m : Str → Option Value}, P.Nodup → P[i]? = some x → vs[i]? = some v → kindOf x = some .local →
    bindL kindOf (P.zip vs) m x = some v
  | [], _, _, _, _, h, _, _ => by simp at h
  | _ :: _, [], _, _, _, _, h, _ => by simp at h
  | p :: P, w :: vs, 0, m, nd, h1, h2, hk => by
    simp at h1 h2; subst h1; subst h2
    show bindL kindOf ((p, w) :: P.zip vs) m p = _
    unfold bindL
    rw [bindL_out fun v hv => (List.nodup_cons.mp nd).1 (List.of_mem_zip hv).1, if_pos hk]
    simp
  | p :: P, w :: vs, i + 1, m, nd, h1, h2, hk => by
    show bindL kindOf ((p, w) :: P.zip vs) m x = _
    unfold bindL
    exact bindL_get (i := i) (List.nodup_cons.mp nd).2 (by simpa using h1) (by simpa using h2) hk
theorem bindC_get {kindOf : Str → Option NameKind} {x : Str} {v : Value} : ∀ {P : List Str} {vs : List Value} {i : Nat} {m : Str → Option Value}, P.Nodup → P[i]? = some x → vs[i]? = some v → kindOf x ≠ some .local →
    bindC kindOf (P.zip vs) m x = some v
  | [], _, _, _, _, h, _, _ => by simp at h
  | _ :: _, [], _, _, _, _, h, _ => by simp at h
  | p :: P, w :: vs, 0, m, nd, h1, h2, hk => by
    simp at h1 h2; subst h1; subst h2
    show bindC kindOf ((p, w) :: P.zip vs) m p = _
    unfold bindC
    rw [bindC_out fun v hv => (List.nodup_cons.mp nd).1 (List.of_mem_zip hv).1, if_neg hk]
    simp
  | p :: P, w :: vs, i + 1, m, nd, h1, h2, hk => by
    show bindC kindOf ((p, w) :: P.zip vs) m x = _
    unfold bindC
    exact bindC_get (i := i) (List.nodup_cons.mp nd).2 (by simpa using h1) (by simpa using h2) hk

def start (N : List Str) (vs : List V) : St := vs.map some ++ List.replicate (N.length - vs.length) none

def cxOf (CX : CXT) (P : Program) (w : World) (K : PySem.W.Frag) (mg : Str → Option Value) (base : Heap) (N : List Str) (qual : Str) (scope : Scope) (f : Addr) (cd : Value) (A : Around) (outer : List Env) (s : Shared) (H : Hp) (E : XK) : Cx where
  prog := P
  w := w
  K := K
  mg := mg
  base := base
  A := A.deeper (envOfC qual scope s.heap.objs.size f cd)
  N := N
  s₀ := s
  H₀ := H
  env := envOfC qual scope s.heap.objs.size f cd
  outer := outer
  stack := envOfC qual scope s.heap.objs.size f cd :: outer
  ex := []
  calm := true
  fn := fun _ => true
  pn := []
  xe := fun e s' => wpAny (model P w) (A.deeper (envOfC qual scope s.heap.objs.size f cd)) (leaving (envOfC qual scope s.heap.objs.size f cd) e) (fun _ s'' => CX outer H s E e s'') (fun e' s'' => CX outer H s E e' s'') s'

theorem cell_has {sc : Scope} {n : Nat} {x : Str} (h : sc.names.lookup x = some .cell) : ∃ c, (cellsFrom n sc.names []).lookup x = some c := by
  have q := PySem.W.cellsFrom_some sc.names n [] (.inl h)
  exact Option.isSome_iff_exists.mp q

theorem inv_start {CX : CXT} {P : Program} {w : World} {K : PySem.W.Frag} {mg : Str → Option Value} {base : Heap} {N ps : List Str} {qual : Str} {scope : Scope} {f : Addr} {cd : Value} {A : Around} {outer : List Env} {s s1 : Shared} {H : Hp} {E : XK} {us : List Value} {vs : List V}
    (S : FnScope N ps scope) (hd : A.handled = none) (e0 : Env0 P w K mg base A outer s H) (hl : vs.length = ps.length) (r : Vals vs us)
    (x : InCallC s s.heap.objs.size (bindL (envOfC qual scope s.heap.objs.size f cd).kindOf (ps.zip us) fun _ => none) (cellsFrom (s.heap.objs.size + 1) scope.names []) (bindC (envOfC qual scope s.heap.objs.size f cd).kindOf (ps.zip us) fun _ => none) s1) :
    Inv (cxOf CX P w K mg base N qual scope f cd A outer s H E) [] (start N vs) H s1 := by
  have hpl : ps.length ≤ N.length := by have := congrArg List.length S.pre; rw [List.length_take] at this; omega
  obtain ⟨h1, tk, rfl, hk⟩ := x.done
  have noA : ∀ b : Addr, b ∉ (cxOf CX P w K mg base N qual scope f cd A outer s H E).ex := fun b z => absurd (show b ∈ ([] : List Addr) from z) (by simp)
  refine ⟨⟨e0.mod, S.kind, rfl, rfl, Nat.le_refl _, fun y z c h1 h2 => ?_, fun y hy => ?_, fun y c _ h => ?_, fun _ => hd, Around.frames_deeper e0.frames, .inr ⟨rfl, rfl⟩, fun b z => absurd z (noA b), e0.bs, e0.bsz, fun b _ _ => noA b, fun b z => absurd z (noA b), e0.funs, e0.frf⟩,
    rfl, e0.bare, Un.kept hk, ⟨_, x.toInCall.ns, fun i y v h1 h2 h3 => ?_⟩, fun y c h => ⟨_, x.cell y c h⟩, e0.hok.fresh (Nat.le_refl _), fun y c h => ?_, fun p hp => absurd (show p ∈ ([] : List (Addr × Obj)) from hp) (by simp), e0.hok.kept hk, ?_⟩
  · exact name_of_addr x.apart (PySem.mem_of_lookup h1) (PySem.mem_of_lookup h2)
  · have hy : scope.names.lookup y = some .cell ∨ scope.names.lookup y = some .free := hy
    rcases hy with hy | hy
    · exact cell_has hy
    · exact absurd rfl (S.nofree _ (PySem.mem_of_lookup hy))
  · exact Nat.le_of_lt (x.above y c (PySem.mem_of_lookup h))
  · have hi : i < vs.length := by
      unfold start at h2
      by_cases hi : i < vs.length
      · exact hi
      · rw [List.getElem?_append_right (by simpa using hi)] at h2
        rw [List.getElem?_replicate] at h2
        split at h2 <;> cases h2
    have ha : vs[i]? = some v := by
      unfold start at h2
      rw [List.getElem?_append_left (by simpa using hi), List.getElem?_map] at h2
      cases e : vs[i]? with
      | none => rw [e] at h2; cases h2
      | some a => rw [e] at h2; cases h2; rfl
    obtain ⟨u, hu, rv⟩ := r.get ha
    have hp : ps[i]? = some y := by
      rw [← S.pre, List.getElem?_take_of_lt (by omega)]; exact h1
    have ndP : ps.Nodup := by rw [← S.pre]; exact S.nd.sublist (List.take_sublist _ _)
    refine ⟨u, rv, ?_⟩
    rcases S.par y (List.mem_of_getElem? hp) with k | k
    · exact .inl ⟨k, bindL_get ndP hp hu k⟩
    · obtain ⟨c, e⟩ := cell_has (n := s.heap.objs.size + 1) k
      refine .inr ⟨.inl k, c, e, ?_⟩
      have q := x.cell y c e
      rw [bindC_get ndP hp hu (by show scope.names.lookup y ≠ _; rw [k]; decide)] at q
      exact q
  · exact e0.hok.fresh (Nat.le_of_lt (x.above y c (PySem.mem_of_lookup h)))
  · unfold start
    show _ = N.length
    rw [List.length_append, List.length_map, List.length_replicate]
    omega

theorem fn_of {CX : CXT} {P : Program} {w : World} {K : PySem.W.Frag} {mg : Str → Option Value} {base : Heap} {k : Nat} {f : Addr} {name qual : Str} {params : Arguments} {body : List Stmt} {scope : Scope} {dV kV doc pm cdv ct oc : Value} {an od : Option Addr}
    {osl : Array (Option Value)} {N ps : List Str} {sp : Sp} (lk : K.lookup f = some ⟨oc, od, .func (PySem.W.fnOf name qual params body scope dV kV doc pm an cdv ct), osl⟩) (hcd : PySem.W.codeIn K cdv qual = true) (S : FnScope N ps scope)
    (len : ∀ vs H Q E, sp vs H Q E → vs.length = ps.length)
    (hbody : ∀ (A : Around) (outer : List Env) (s : Shared) (H : Hp) (vs : List V) (Q : VK) (E : XK), Room k (A.deeper (envOfC qual scope s.heap.objs.size f cdv)) → sp vs H Q E →
      ∃ t, PSs (cxOf CX P w K mg base N qual scope f cdv A outer s H E) body t ∧ t { nx := fun _ H' => Q .non H', rt := Q } (start N vs) H) :
    FnOk P w K mg base CX (k + 1) f (PySem.W.fnOf name qual params body scope dV kV doc pm an cdv ct) ps sp := by
  refine ⟨len, fun A outer s H args us vs Q E hr e0 hb r hsp => ?_⟩
  have hl := len _ _ _ _ hsp
  have KX : K.In s.heap := e0.mod.kin.keeps fun b o e => (e0.bs b o e).1
  have lim : s.heap.NoLimit := e0.mod.nolimit.keeps fun b o e => (e0.bs b o e).1
  have hkind : ∀ y ∈ ps.zip us, scope.names.lookup y.1 = some .local ∨ (scope.names.lookup y.1 = some .cell ∧ ((cellsFrom (s.heap.objs.size + 1) scope.names []).lookup y.1).isSome = true) := fun ⟨n, v⟩ hy => by
    rcases S.par n (List.of_mem_zip hy).1 with q | q
    · exact .inl q
    · exact .inr ⟨q, PySem.W.cellsFrom_some _ _ _ (.inl q)⟩
  refine codeAny_call_function hr.depth (KX _ _ lk) rfl S.co S.gen rfl (PySem.W.codeRec_of KX hcd) (hb _ _ _ _ ?_)
  refine wpAny_newFunctionEnv_cells S.kind hkind fun env he s1 x => ?_
  subst he
  refine ⟨lim.keeps x.toInCall.keep, codeAny_func ?_⟩
  obtain ⟨t, ht, hq⟩ := hbody A outer s H vs Q E (hr.deeper _) hsp
  have I : Inv (cxOf CX P w K mg base N qual scope f cdv A outer s H E) [] (start N vs) H s1 := inv_start S hr.hd e0 hl r x
  refine wpAny_mono (ht [] s1 (start N vs) H _ I hq) (fun fl s' hs => ?_) fun e s' hs => hs
  have fin : ∀ {σ' : St} {H' : Hp} {v : V} {u : Value}, Inv (cxOf CX P w K mg base N qual scope f cdv A outer s H E) [] σ' H' s' → RelV v u → Q v H' → CE outer P w H s Q u s' :=
    fun {σ' H' v u} J rv q => ⟨v, H', J.os, J.bare, J.base, J.hok, rv, q⟩
  cases fl with
  | ret u =>
    obtain ⟨v, σ', H', J, rv, q⟩ := hs
    exact fin J rv q
  | next =>
    obtain ⟨σ', H', J, q⟩ := hs
    exact fin (v := V.non) (u := Value.none) J rfl q
  | brk =>
    obtain ⟨_, _, _, q⟩ := hs
    exact False.elim q
  | cont =>
    obtain ⟨_, _, _, q⟩ := hs
    exact False.elim q
end L2

namespace L2
open PySem PySem.Spec PyProof.Rows
section
variable {X : Cx} {x : Str} {p pos : Pos} {e : Expr} {es : List Expr} {t : TA} {id T : String} {r : List V → Hp → VK → Prop}

def tCB (r : List V → Hp → VK → Prop) (t : TA) : TE := fun σ H Q => t σ H fun vs H1 => r vs H1 Q
theorem pe_callB (hc : CallR X (.builtin id) r) (hg : Gl X x) (hm : X.mg x = none) (hv : bootBuiltins x = some (.builtin id)) (ha : PA X (e :: es) t) (hn : x ≠ "__name__" := by decide) (hdb : (x == ("__debug__" : Str)) = false := by decide)
    (he : starEach (e :: es) X.env = (false, eval e X.env) :: starEach es X.env := by rfl) (hpl : (backTo pos (starEach es X.env)).any (·.1) = false := by rfl) : PE X (.Call (.Name x p) (e :: es) [] pos) (tCB r t) := by
  intro pins s σ H Q I h
  refine wpAny_Call_Name_kw (ld_blt I hg hm hv ?_ hn hdb)
  exact PyProof.Rows.callWith_builtin1 (thn (ha pos pins s σ H _ I h) fun us s1 ⟨vs, H1, I1, r1, q1⟩ => hc pins s1 σ H1 vs us Q I1 r1 q1) he hpl
theorem pe_callTy (hc : CallR X (.type T) r) (hg : Gl X x) (hm : X.mg x = none) (hv : bootBuiltins x = some (.type T)) (ha : PA X (e :: es) t) (hn : x ≠ "__name__" := by decide) (hdb : (x == ("__debug__" : Str)) = false := by decide)
    (he : starEach (e :: es) X.env = (false, eval e X.env) :: starEach es X.env := by rfl) (hpl : (backTo pos (starEach es X.env)).any (·.1) = false := by rfl) : PE X (.Call (.Name x p) (e :: es) [] pos) (tCB r t) := by
  intro pins s σ H Q I h
  refine wpAny_Call_Name_kw (ld_blt I hg hm hv ?_ hn hdb)
  exact PyProof.Rows.callWith_type1 (thn (ha pos pins s σ H _ I h) fun us s1 ⟨vs, H1, I1, r1, q1⟩ => hc pins s1 σ H1 vs us Q I1 r1 q1) he hpl
end
end L2

namespace HT
open PySem PyProof.Rows

def lexLt : List Int → List Int → Bool
  | [], [] => false
  | [], _ :: _ => true
  | _ :: _, [] => false
  | x :: xs, y :: ys => if x = y then lexLt xs ys else decide (x < y)
section
open PySem.SeqAt
open PySem.AutoSeq1 (wpAny_loadPart')
open PySem.MeetsSeq PySem.MeetsSeq2 PySem.MeetsSeq3

end

section
variable {prog : Program} {w : World} {A : Around} {E : Value → Shared → Prop} {s : Shared}

def sIx (n d : Nat) : Option Int → Nat
  | none => d
  | some v => if v < 0 then (v + (n : Int)).toNat else min v.toNat n
end
end HT

namespace L2
open PySem PySem.Spec PyProof.Rows

abbrev TO := St → Hp → (Option Int → Hp → Prop) → Prop
def PO (X : Cx) (e : Option Expr) (t : TO) : Prop :=
  ∀ (pins : List (Addr × Obj)) (s : Shared) (σ : St) (H : Hp) (Q : Option Int → Hp → Prop), Inv X pins σ H s → t σ H Q →
    wpAny (model X.prog X.w) X.A (evalPart e X.env) (fun u s' => ∃ o H', Inv X pins σ H' s' ∧ IsPart u o ∧ Q o H') X.xe s
def tNoPart : TO := fun _ H Q => Q none H
def tPart (t : TE) : TO := fun σ H Q => t σ H fun x H1 => ∃ i, x = .int i ∧ Q (some i) H1

section
variable {X : Cx} {e : Expr} {te : TE} {lo hi : Option Expr} {tl th : TO} {pos p2 : Pos}

theorem po_none : PO X none tNoPart := by
  intro pins s σ H Q I h
  rw [evalPart_none]
  exact wpAny_pure ⟨none, H, I, .none, h⟩
theorem po_some (h : PE X e te) : PO X (some e) (tPart te) := by
  intro pins s σ H Q I hw
  rw [evalPart_some]
  refine thn (h pins s σ H _ I hw) fun u s1 ⟨x, H1, I1, r1, q1⟩ => ?_
  obtain ⟨i, rfl, q⟩ := q1
  obtain ⟨t, rfl⟩ := r1
  exact ⟨some i, H1, I1, .int i t, q⟩

def SlR (X : Cx) (r : V → Option Int → Option Int → Hp → VK → Prop) : Prop :=
  ∀ (pins : List (Addr × Obj)) (s : Shared) (σ : St) (H : Hp) (x : V) (v vl vu : Value) (lo hi : Option Int) (sl : Addr) (Q : VK), Inv X pins σ H s → RelV x v → s.heap.IsSliceOf sl vl vu .none → IsPart vl lo → IsPart vu hi → r x lo hi H Q →
    ∃ T id, typeLookup (.type T) "__getitem__" = pure (some (.builtin id)) ∧ s.TypeIs v T ∧ wpAny (model X.prog X.w) X.A (getItem v (.ref sl)) (EP X pins σ Q) X.xe s
theorem SlR.or {r r' : V → Option Int → Option Int → Hp → VK → Prop} (h : SlR X r) (h' : SlR X r') : SlR X (fun x lo hi H Q => r x lo hi H Q ∨ r' x lo hi H Q) := by
  intro pins s σ H x v vl vu lo hi sl Q I rx hs pl pu q
  rcases q with q | q
  · exact h pins s σ H x v vl vu lo hi sl Q I rx hs pl pu q
  · exact h' pins s σ H x v vl vu lo hi sl Q I rx hs pl pu q
def tSl (r : V → Option Int → Option Int → Hp → VK → Prop) (te : TE) (tl th : TO) : TE := fun σ H Q => te σ H fun x H1 => tl σ H1 fun l H2 => th σ H2 fun u H3 => r x l u H3 Q
theorem pe_slice {r : V → Option Int → Option Int → Hp → VK → Prop} (hr : SlR X r) (he : PE X e te) (hl : PO X lo tl) (hu : PO X hi th) : PE X (.Subscript e (.Slice lo hi none p2) pos) (tSl r te tl th) := by
  intro pins s σ H Q I h
  refine Subscript_ (thn (he pins s σ H _ I h) fun v s1 ⟨x, H1, I1, r1, q1⟩ => ?_)
  refine wpAny_Slice (thn (hl pins s1 σ H1 _ I1 q1) fun vl s2 ⟨l, H2, I2, pl, q2⟩ => thn (hu pins s2 σ H2 _ I2 q2) fun vu s3 ⟨u, H3, I3, pu, q3⟩ => ?_)
  rw [evalPart_none]
  refine wpAny_pure ?_
  have I4 : Inv X pins σ H3 { s3 with heap := s3.heap.push { cls := .type "slice", data := .fields #[vl, vu, .none] } } := I3.kept (t' := s3.toks) fun b ob q => Heap.get?_push_of_some _ q
  obtain ⟨T, id, hT, ht, hg⟩ := hr pins { s3 with heap := s3.heap.push { cls := .type "slice", data := .fields #[vl, vu, .none] } } σ H3 x v vl vu l u s3.heap.objs.size Q I4 r1 (Heap.IsSliceOf.new ..) pl pu q3
  show wpAny (model X.prog X.w) X.A (subscriptTail e (.Slice lo hi none p2) v (.ref s3.heap.objs.size)) (EP X pins σ Q) X.xe { s3 with heap := s3.heap.push { cls := .type "slice", data := .fields #[vl, vu, .none] } }
  exact tail_any (ops := [.ref s3.heap.objs.size, v]) ht hT hg (by with_unfolding_all rfl)

def cutV (xs : List V) (lo hi : Option Int) : List V := (xs.drop (HT.sIx xs.length 0 lo)).take (HT.sIx xs.length xs.length hi - HT.sIx xs.length 0 lo)
def rSlT (K : PySem.W.Frag) : V → Option Int → Option Int → Hp → VK → Prop := fun x lo hi H Q => ∃ a xs, x = .ref a ∧ SqT K H a xs ∧
  ¬ (HT.sIx xs.length 0 lo = 0 ∧ HT.sIx xs.length xs.length hi = xs.length) ∧ ∀ p, H p = none → Q (.ref p) (upd H p (.tup (cutV xs lo hi)))
def rLtT (K : PySem.W.Frag) : R2 := fun x y H Q => ∃ a b ns ms, x = .ref a ∧ y = .ref b ∧ SqT K H a (ns.map V.int) ∧ SqT K H b (ms.map V.int) ∧ Q (.bl (HT.lexLt ns ms)) H
def rCatT (K : PySem.W.Frag) : R2 := fun x y H Q => ∃ a b xs ys, x = .ref a ∧ y = .ref b ∧ SqT K H a xs ∧ SqT K H b ys ∧ xs ≠ [] ∧ xs.length + ys.length ≤ sizeLine ∧
  (ys = [] → Q (.ref a) H) ∧ (ys ≠ [] → ∀ p, H p = none → Q (.ref p) (upd H p (.tup (xs ++ ys))))
end
end L2

namespace L2
open PySem PySem.Spec PyProof.Rows

def ixN (n : Nat) (i : Int) : Option Nat := if 0 ≤ i then (if i < n then some i.toNat else none) else if -(n : Int) ≤ i then some (i + n).toNat else none
def atI {α : Type} (xs : List α) (i : Int) : Option α := (ixN xs.length i).bind fun j => xs[j]?
theorem ixN_seq {n : Nat} {i : Int} {j : Nat} (h : ixN n i = some j) : seqIndex? i n = some j ∧ j < n ∧ -(n : Int) ≤ i ∧ i < n := by
  unfold ixN at h
  by_cases h0 : 0 ≤ i
  · rw [if_pos h0] at h
    by_cases h1 : i < n
    · rw [if_pos h1] at h
      have e : i.toNat = j := Option.some.inj h
      exact ⟨by rw [seqIndex_of h0 h1, e], by omega, by omega, h1⟩
    · rw [if_neg h1] at h; cases h
  · rw [if_neg h0] at h
    by_cases h1 : -(n : Int) ≤ i
    · rw [if_pos h1] at h
      have e : (i + n).toNat = j := Option.some.inj h
      exact ⟨by rw [seqIndex_neg (by omega) h1, e], by omega, h1, by omega⟩
    · rw [if_neg h1] at h; cases h
theorem atI_get {α : Type} {xs : List α} {i : Int} {v : α} (h : atI xs i = some v) : ∃ j, seqIndex? i xs.length = some j ∧ xs[j]? = some v ∧ j < xs.length ∧ -(xs.length : Int) ≤ i ∧ i < xs.length := by
  unfold atI at h
  cases e : ixN xs.length i with
  | none => rw [e] at h; cases h
  | some j =>
    rw [e] at h
    obtain ⟨h1, h2, h3, h4⟩ := ixN_seq e
    exact ⟨j, h1, h, h2, h3, h4⟩
theorem atI_nat {α : Type} {xs : List α} {j : Nat} {v : α} (h : xs[j]? = some v) : atI xs (j : Int) = some v := by
  have hj : j < xs.length := (List.getElem?_eq_some_iff.mp h).1
  have e : ixN xs.length (j : Int) = some j := by
    unfold ixN
    rw [if_pos (by omega), if_pos (by omega)]; simp
  unfold atI; rw [e]; exact h
def PlainIx (b : Expr) : Prop := ∀ o i, subscripted b false o i = operate [o, i] (getItem o i)
def IxR (X : Cx) (r : R2) : Prop :=
  ∀ (value slice : Expr) (pins : List (Addr × Obj)) (s : Shared) (σ : St) (H : Hp) (x y : V) (v u : Value) (Q : VK), Inv X pins σ H s → RelV x v → RelV y u → r x y H Q →
    subscripted slice false v u = operate [v, u] (getItem v u) → wpAny (model X.prog X.w) X.A (subscriptTail value slice v u) (EP X pins σ Q) X.xe s
def MtR (X : Cx) (id : String) (r : V → List V → Hp → VK → Prop) : Prop :=
  ∀ (pins : List (Addr × Obj)) (s : Shared) (σ : St) (H : Hp) (x : V) (xs : List V) (v : Value) (us : List Value) (Q : VK), Inv X pins σ H s → RelV x v → Vals xs us → r x xs H Q →
    wpAny (model X.prog X.w) X.A (call (.builtin id) (v :: us)) (EP X pins σ Q) X.xe s
section
variable {X : Cx} {a b : Expr} {ta tb : TE} {pos : Pos}
theorem IxR.or {r r' : R2} (h : IxR X r) (h' : IxR X r') : IxR X (fun x y H Q => r x y H Q ∨ r' x y H Q) := by
  intro value slice pins s σ H x y v u Q I rx ry q hs
  rcases q with q | q
  · exact h value slice pins s σ H x y v u Q I rx ry q hs
  · exact h' value slice pins s σ H x y v u Q I rx ry q hs
theorem MtR.or {id : String} {r r' : V → List V → Hp → VK → Prop} (h : MtR X id r) (h' : MtR X id r') : MtR X id (fun x xs H Q => r x xs H Q ∨ r' x xs H Q) := by
  intro pins s σ H x xs v us Q I rx rs q
  rcases q with q | q
  · exact h pins s σ H x xs v us Q I rx rs q
  · exact h' pins s σ H x xs v us Q I rx rs q
theorem pe_ix {r : R2} (hr : IxR X r) (ha : PE X a ta) (hb : PE X b tb) (hs : PlainIx b) : PE X (.Subscript a b pos) (tOp r ta tb) := by
  intro pins s σ H Q I h
  exact Subscript_ (binT ha hb I h fun v u s2 x y H2 I2 rx ry q => hr a b pins s2 σ H2 x y v u Q I2 rx ry q (hs _ _))

def rIxL (K : PySem.W.Frag) : R2 := fun x y H Q => ∃ p xs i v, x = .ref p ∧ y = .int i ∧ SqL K H p xs ∧ atI xs i = some v ∧ Q v H
def rIxT (K : PySem.W.Frag) : R2 := fun x y H Q => ∃ p xs i v, x = .ref p ∧ y = .int i ∧ SqT K H p xs ∧ atI xs i = some v ∧ Q v H
def rIxS : R2 := fun x y H Q => ∃ z i c, x = .str z ∧ y = .int i ∧ z.length ≤ sizeLine ∧ atI z.cps.toList i = some c ∧ Q (.str ⟨#[c]⟩) H
theorem ix_list : IxR X (rIxL X.K) := by
  intro value slice pins s σ H x y v u Q I rx ry h hs
  obtain ⟨p, xs, i, z, rfl, rfl, hq, he, q⟩ := h
  cases rx
  obtain ⟨t, rfl⟩ := ry
  obtain ⟨its, r, pl, hz⟩ := I.list hq
  obtain ⟨j, h1, h2, h3, h4, h5⟩ := atI_get he
  obtain ⟨w, ew, rw'⟩ := r.get h2
  have hl := r.length
  have hn := line63
  have fin : EP X pins σ Q w s := ⟨z, H, I, rw', q⟩
  by_cases h0 : 0 ≤ i
  · have hj : i.toNat = j := by
      rw [seqIndex_of h0 h5] at h1
      exact Option.some.inj h1
    exact item_listR pl.isList h0 (by omega) (by rw [hj]; simpa using ew) fin hs
  · have hj : (i + (its.toArray.size : Int)).toNat = j := by
      rw [seqIndex_neg (by omega) h4] at h1
      rw [List.size_toArray, ← hl]
      exact Option.some.inj h1
    exact subscriptTail_builtinR (x := w) pl.isList.typeIs slot_list_getitem.lookup
      (wpAny_getItem_list_neg (Q := fun r s' => r = w ∧ EP X pins σ Q r s') pl.isList (by omega) (by rw [List.size_toArray] <;> omega) (by omega) (by rw [hj]; simpa using ew) ⟨rfl, fin⟩) hs
theorem ix_tup : IxR X (rIxT X.K) := by
  intro value slice pins s σ H x y v u Q I rx ry h hs
  obtain ⟨p, xs, i, z, rfl, rfl, hq, he, q⟩ := h
  cases rx
  obtain ⟨t, rfl⟩ := ry
  obtain ⟨its, r, pl, hz⟩ := I.tuple hq
  obtain ⟨j, h1, h2, h3, h4, h5⟩ := atI_get he
  obtain ⟨w, ew, rw'⟩ := r.get h2
  have hl := r.length
  have hn := line63
  have fin : EP X pins σ Q w s := ⟨z, H, I, rw', q⟩
  exact subscriptTail_builtinR (x := w) pl.typeIs slot_tuple_getitem.lookup
    (getItem_tuple (j := j) (Q := fun r s' => r = w ∧ EP X pins σ Q r s') pl (by omega) (by omega) (by rw [List.size_toArray, ← hl]; exact h1) (by simpa using ew) ⟨rfl, fin⟩) hs
theorem ix_str : IxR X rIxS := by
  intro value slice pins s σ H x y v u Q I rx ry h hs
  obtain ⟨z, i, c, rfl, rfl, hz, he, q⟩ := h
  obtain ⟨t, rfl⟩ := rx
  obtain ⟨t', rfl⟩ := ry
  obtain ⟨j, h1, h2, h3, h4, h5⟩ := atI_get he
  have hl : z.cps.toList.length = z.length := by simp [Str.length]
  rw [hl] at h1 h4 h5
  have hn := line63
  exact tail_any (typeIs_str s z t) slot_str_getitem.lookup (getItem_str (c := c) (by
    have e1 : decide (i < -(2 ^ 63 : Int)) = false := decide_eq_false (by omega)
    have e2 : decide (i ≥ 2 ^ 63) = false := decide_eq_false (by omega)
    rw [e1, e2, Bool.or_false]) (by rw [h1]; simpa using h2) ⟨.str ⟨#[c]⟩, H, I.tok _, ⟨_, rfl⟩, q⟩) hs
def rIx (K : PySem.W.Frag) : R2 := fun x y H Q => rIxL K x y H Q ∨ rIxT K x y H Q ∨ rIxS x y H Q
theorem Inv.lst {pins : List (Addr × Obj)} {σ : St} {H : Hp} {s : Shared} {p : Addr} {xs : List V} (I : Inv X pins σ H s) (h : H p = some (.lst xs)) :
    ∃ (its : List Value) (n : Nat), Vals xs its ∧ s.heap.get? p = some { cls := .type "list", data := .seq its.toArray n } ∧ xs.length ≤ sizeLine := by
  obtain ⟨z, its, n, r, e⟩ := I.hok p _ h
  exact ⟨its, n, r, e, z⟩
def rSetL : V → V → V → Hp → (Hp → Prop) → Prop := fun o i v H Q => ∃ p xs k j, o = .ref p ∧ i = .int k ∧ H p = some (.lst xs) ∧ ixN xs.length k = some j ∧ Q (upd H p (.lst (xs.set j v)))
def rSlL (K : PySem.W.Frag) : V → Option Int → Option Int → Hp → VK → Prop := fun x lo hi H Q => ∃ a xs, x = .ref a ∧ SqL K H a xs ∧ ∀ p, H p = none → Q (.ref p) (upd H p (.lst (cutV xs lo hi)))
def flatV : V → Bool
  | .non => true
  | .bl _ => true
  | .int _ => true
  | .str _ => true
  | _ => false
def eqV : V → V → Bool
  | .non, .non => true
  | .bl a, .bl b => a == b
  | .bl a, .int b => (if a then 1 else 0) == b
  | .int a, .bl b => a == (if b then 1 else 0)
  | .int a, .int b => a == b
  | .str a, .str b => a == b
  | _, _ => false
theorem eqAt_V {A : Around} {s : Shared} {y x : V} {u v : Value} (ry : RelV y u) (rx : RelV x v) (fy : flatV y = true) (fx : flatV x = true) : SeqAt.EqAt A s u v (eqV y x) := by
  cases y with
  | non =>
    cases ry
    cases x with
    | non => cases rx; exact SeqAt.EqAt.same _
    | bl b => cases rx; exact SeqAt.EqAt.none_bool b
    | int b => obtain ⟨t, rfl⟩ := rx; exact SeqAt.EqAt.none_int b t
    | str b => obtain ⟨t, rfl⟩ := rx; exact SeqAt.EqAt.none_str b t
    | _ => exact absurd (show false = true from fx) Bool.false_ne_true
  | bl a =>
    cases ry
    cases x with
    | non => cases rx; exact SeqAt.EqAt.bool_none a
    | bl b => cases rx; exact SeqAt.EqAt.bool_bool a b
    | int b => obtain ⟨t, rfl⟩ := rx; exact SeqAt.EqAt.bool_int a b t
    | str b => obtain ⟨t, rfl⟩ := rx; exact SeqAt.EqAt.bool_str a b t
    | _ => exact absurd (show false = true from fx) Bool.false_ne_true
  | int a =>
    obtain ⟨t', rfl⟩ := ry
    cases x with
    | non => cases rx; exact SeqAt.EqAt.int_none a t'
    | bl b => cases rx; exact SeqAt.EqAt.int_bool a t' b
    | int b => obtain ⟨t, rfl⟩ := rx; exact SeqAt.EqAt.int_int a t' b t
    | str b => obtain ⟨t, rfl⟩ := rx; exact SeqAt.EqAt.int_str a t' b t
    | _ => exact absurd (show false = true from fx) Bool.false_ne_true
  | str a =>
    obtain ⟨t', rfl⟩ := ry
    cases x with
    | non => cases rx; exact SeqAt.EqAt.str_none a t'
    | bl b => cases rx; exact SeqAt.EqAt.str_bool a t' b
    | int b => obtain ⟨t, rfl⟩ := rx; exact SeqAt.EqAt.str_int a t' b t
    | str b => obtain ⟨t, rfl⟩ := rx; exact SeqAt.EqAt.str_str a t' b t
    | _ => exact absurd (show false = true from fx) Bool.false_ne_true
  | _ => exact absurd (show false = true from fy) Bool.false_ne_true
def eqU (x : V) (u : Value) : Bool := match u with
  | .none => eqV .non x
  | .bool b => eqV (.bl b) x
  | .int i _ => eqV (.int i) x
  | .str z _ => eqV (.str z) x
  | _ => false
theorem eqU_of {x y : V} {u : Value} (r : RelV y u) (f : flatV y = true) : eqU x u = eqV y x := by
  cases y with
  | non => cases r; rfl
  | bl b => cases r; rfl
  | int i => obtain ⟨t, rfl⟩ := r; rfl
  | str z => obtain ⟨t, rfl⟩ := r; rfl
  | _ => exact absurd (show false = true from f) Bool.false_ne_true
theorem any_eqU {x : V} : ∀ {xs : List V} {us : List Value}, Vals xs us → xs.all flatV = true → us.any (eqU x) = xs.any fun y => eqV y x
  | _, _, .nil, _ => rfl
  | y :: xs, u :: us, .cons r t, f => by
    rw [List.all_cons, Bool.and_eq_true] at f
    rw [List.any_cons, List.any_cons, eqU_of r f.1, any_eqU t f.2]
theorem mem_eqAt {A : Around} {s : Shared} {x : V} {v : Value} (rx : RelV x v) (fx : flatV x = true) : ∀ {xs : List V} {us : List Value}, Vals xs us → xs.all flatV = true → ∀ u ∈ us, SeqAt.EqAt A s u v (eqU x u)
  | _, _, .nil, _ => fun u hu => by cases hu
  | y :: xs, u :: us, .cons r t, f => fun u' hu => by
    rw [List.all_cons, Bool.and_eq_true] at f
    rcases List.mem_cons.mp hu with rfl | hu
    · rw [eqU_of r f.1]; exact eqAt_V r rx f.1 fx
    · exact mem_eqAt rx fx t f.2 u' hu
def inV (x : V) (xs : List V) : Bool := xs.any fun y => eqV y x
def rIn (K : PySem.W.Frag) (neg : Bool) : R2 := fun x y H Q => ∃ p xs, y = .ref p ∧ (SqL K H p xs ∨ SqT K H p xs) ∧ flatV x = true ∧ xs.all flatV = true ∧ Q (.bl (if neg then !inV x xs else inV x xs)) H
theorem op_notIn_seq : OpR X (compareOp .NotIn) (rIn X.K true) := by
  intro pins s σ H x y v u Q I rx ry h
  obtain ⟨p, xs, rfl, hq, fx, fs, q⟩ := h
  cases ry
  rcases hq with hq | hq
  · obtain ⟨its, r, pl, hz⟩ := I.list hq
    refine SeqAt.notIn_listAt (eqU x) pl.isList (fun w hw => mem_eqAt rx fx r fs w (by simpa using hw)) ⟨.bl _, H, I, rfl, ?_⟩
    rw [show its.toArray.any (eqU x) = its.any (eqU x) by simp, any_eqU r fs]
    exact q
  · obtain ⟨its, r, pl, hz⟩ := I.tuple hq
    refine SeqAt.notIn_tupleAt (eqU x) pl (fun w hw => mem_eqAt rx fx r fs w (by simpa using hw)) ⟨.bl _, H, I, rfl, ?_⟩
    rw [show its.toArray.any (eqU x) = its.any (eqU x) by simp, any_eqU r fs]
    exact q
theorem call_len_seq : CallR X (.builtin "len") (fun xs H Q => ∃ p ys, xs = [.ref p] ∧ (SqL X.K H p ys ∨ SqT X.K H p ys) ∧ Q (.int ys.length) H) := by
  intro pins s σ H xs us Q I r h
  obtain ⟨p, ys, rfl, hq, q⟩ := h
  obtain ⟨u, rfl, rx⟩ := vals1 r
  cases rx
  have hn := line63
  rcases hq with hq | hq
  · obtain ⟨its, r', pl, hz⟩ := I.list hq
    have hlen := r'.length
    exact Calls.call_len_list pl.isList (by simp only [List.size_toArray] <;> omega) ⟨.int ys.length, H, I.tok _, ⟨s.toks + 1, by rw [List.size_toArray, hlen]⟩, q⟩
  · obtain ⟨its, r', pl, hz⟩ := I.tuple hq
    have hlen := r'.length
    exact len_tuple pl (by simp only [List.size_toArray] <;> omega) ⟨.int ys.length, H, I.tok _, ⟨s.toks + 1, by rw [List.size_toArray, hlen]⟩, q⟩
theorem CallR.or {f : Value} {r r' : List V → Hp → VK → Prop} (h : CallR X f r) (h' : CallR X f r') : CallR X f (fun xs H Q => r xs H Q ∨ r' xs H Q) := by
  intro pins s σ H xs us Q I rs q
  rcases q with q | q
  · exact h pins s σ H xs us Q I rs q
  · exact h' pins s σ H xs us Q I rs q
def tyV (K : PySem.W.Frag) (T : String) (x : V) (H : Hp) : Prop := match x with
  | .str _ => T = "str"
  | .int _ => T = "int"
  | .ref p => (T = "list" ∧ ∃ xs, SqL K H p xs) ∨ (T = "tuple" ∧ ∃ o, K.lookup p = some o ∧ o.cls = .type "tuple" ∧ o.dict = none) ∨
      (T = "dict" ∧ ((∃ kvs, H p = some (.dK kvs)) ∨ ∃ kvs, H p = some (.dT kvs))) ∨ (T = "set" ∧ ∃ S n, H p = some (.set S n))
  | _ => False
theorem tyV_is {pins : List (Addr × Obj)} {σ : St} {H : Hp} {s : Shared} {T : String} {x : V} {v : Value} (I : Inv X pins σ H s) (r : RelV x v) (ty : tyV X.K T x H) :
    s.TypeIs v T ∧ ∀ a, v = .ref a → ∃ ob, s.heap.get? a = some ob ∧ ob.dict = none := by
  cases x with
  | str z =>
    obtain ⟨t, rfl⟩ := r
    cases (show T = "str" from ty)
    exact ⟨typeIs_str s z t, fun _ e => nomatch e⟩
  | int i =>
    obtain ⟨t, rfl⟩ := r
    cases (show T = "int" from ty)
    exact ⟨typeIs_int s i t, fun _ e => nomatch e⟩
  | ref p =>
    cases r
    rcases ty with ⟨rfl, xs, hq⟩ | ⟨rfl, o, hk, hc, hd⟩ | ⟨rfl, hk⟩ | ⟨rfl, S, n, hk⟩
    · obtain ⟨its, _, pl, _⟩ := I.list hq
      refine ⟨pl.isList.typeIs, fun a e => ?_⟩
      cases e
      obtain ⟨o, n, e, c, hd, _⟩ := pl
      exact ⟨o, e, hd⟩
    · refine ⟨⟨o, I.kIn p o hk, hc⟩, fun a e => ?_⟩
      cases e
      exact ⟨o, I.kIn _ o hk, hd⟩
    · have z : ∃ o, s.heap.get? p = some o ∧ o.ExactDict := by
        rcases hk with ⟨kvs, hk⟩ | ⟨kvs, hk⟩
        · obtain ⟨_, _, _, _, o, _, _, e, ex, _⟩ := I.hok p _ hk
          exact ⟨o, e, ex⟩
        · obtain ⟨_, _, _, _, o, _, _, e, ex, _⟩ := I.hok p _ hk
          exact ⟨o, e, ex⟩
      obtain ⟨o, e, ex⟩ := z
      refine ⟨⟨o, e, ex.1⟩, fun a e2 => ?_⟩
      cases e2
      exact ⟨o, e, ex.2.1⟩
    · obtain ⟨o, _, _, _, e, ex, _⟩ := I.hok p _ hk
      refine ⟨⟨o, e, ex.1⟩, fun a e2 => ?_⟩
      cases e2
      exact ⟨o, e, ex.2.1⟩
  | _ => exact False.elim ty
def tBM0 (K : PySem.W.Frag) (T : String) (r : V → List V → Hp → VK → Prop) (to : TE) : TE := fun σ H Q => to σ H fun x H1 => tyV K T x H1 ∧ r x [] H1 Q
def tBM (K : PySem.W.Frag) (T : String) (r : V → List V → Hp → VK → Prop) (to : TE) (t : TA) : TE := fun σ H Q => to σ H fun x H1 => tyV K T x H1 ∧ t σ H1 fun xs H2 => r x xs H2 Q
variable {o e : Expr} {es : List Expr} {to : TE} {t : TA} {name : Str} {apos cpos : Pos} {T id : String} {r : V → List V → Hp → VK → Prop}
theorem pe_bm (pa : PlainAttrs T) (slot : Slot T name id) (hty : typeOf (.builtin id) = pure (.type "method_descriptor")) (hm : MtR X id r) (ho : PE X o to) (ha : PA X (e :: es) t)
    (hbase : attributeBase o name X.env (eval o X.env) = eval o X.env := by rfl)
    (hfew : ((backTo cpos (starEach (e :: es) X.env)).all (fun x => !x.1) && (backToKw cpos (keywordEach [] X.env)).all (fun x => x.1.isSome)
      && decide ((e :: es).length + ([] : List Keyword).length + (if ([] : List Keyword).isEmpty then 0 else 1) < 30)) = true := by rfl)
    (hline : (apos.endLine == cpos.line) = true := by rfl) (hs : starEach (e :: es) X.env = (false, eval e X.env) :: starEach es X.env := by rfl) (hplain : (backTo cpos (starEach es X.env)).any (·.1) = false := by rfl) :
    PE X (.Call (.Attribute o name apos) (e :: es) [] cpos) (tBM X.K T r to t) := by
  intro pins s σ H Q I h
  refine wpAny_Call_method_late hbase hfew hline rfl (thn (ho pins s σ H _ I h) fun v s1 ⟨x, H1, I1, r1, ty, q1⟩ => ?_)
  obtain ⟨h1, h2⟩ := tyV_is I1 r1 ty
  refine ⟨T, id, pa, slot, hty, h1, h2, ?_⟩
  have hA := ha cpos pins s1 σ H1 _ I1 q1
  rw [hs] at hA ⊢
  refine Calls.callWith_builtin (by show (false || (backTo cpos (starEach es X.env)).any (·.1)) = false; rw [hplain] <;> rfl) (Calls.evalArgs_plain ?_)
  exact thn hA fun us s2 ⟨vs, H2, I2, r2, q2⟩ => hm pins s2 σ H2 x vs v us Q I2 r1 r2 q2
end
end L2

namespace L2
open PySem PySem.Spec PyProof.Rows

def MtM (X : Cx) (id : String) (r : V → List V → Hp → VK → Prop) : Prop :=
  ∀ (pins : List (Addr × Obj)) (s : Shared) (σ : St) (H : Hp) (x : V) (xs : List V) (v : Value) (us : List Value) (Q : VK), Inv X pins σ H s → RelV x v → Vals xs us → r x xs H Q →
    wpAny (model X.prog X.w) X.A (call (.builtin id) (v :: us)) (EP X pins σ Q) X.xe s

theorem Vals.one : ∀ {x : V} {us : List Value}, Vals [x] us → ∃ u, us = [u] ∧ RelV x u
  | _, _, .cons r .nil => ⟨_, rfl, r⟩
theorem Vals.two : ∀ {x y : V} {us : List Value}, Vals [x, y] us → ∃ u v, us = [u, v] ∧ RelV x u ∧ RelV y v
  | _, _, _, .cons r (.cons q .nil) => ⟨_, _, rfl, r, q⟩
theorem Vals.zero : ∀ {us : List Value}, Vals [] us → us = []
  | _, .nil => rfl
theorem Vals.dropLast {xs : List V} {us : List Value} (h : Vals xs us) : Vals xs.dropLast us.dropLast := by
  induction h with
  | nil => exact .nil
  | cons r t ih =>
    cases t with
    | nil => exact .nil
    | cons q t' => exact .cons r ih
theorem Vals.eraseIdx : ∀ {xs : List V} {us : List Value} (i : Nat), Vals xs us → Vals (xs.eraseIdx i) (us.eraseIdx i)
  | _, _, _, .nil => .nil
  | _, _, 0, .cons _ t => t
  | _, _, i + 1, .cons r t => .cons r (Vals.eraseIdx i t)
theorem Vals.reverse {xs : List V} {us : List Value} (h : Vals xs us) : Vals xs.reverse us.reverse := by
  induction h with
  | nil => exact .nil
  | cons r t ih => rw [List.reverse_cons, List.reverse_cons]; exact Vals.append ih (.cons r .nil)
section
variable {X : Cx} {pins : List (Addr × Obj)} {σ : St} {H : Hp} {s : Shared} {l b : Addr} {xs ys zs : List V}

theorem Inv.lset {its its' : List Value} {n : Nat} {f : Array Value → Array Value} {t' : Nat} (I : Inv X pins σ H s) (hH : H l = some (.lst xs))
    (e : s.heap.get? l = some { cls := .type "list", data := .seq its.toArray n }) (hf : f its.toArray = its'.toArray) (hv : Vals ys its') (hz : ys.length ≤ sizeLine) :
    Inv X pins σ (upd H l (.lst ys)) { s with heap := s.heap.update l (Obj.mapSeq f), toks := t' } := by
  have q := PySem.IsL.update e f
  rw [hf] at q
  refine I.write (x := l) (e := l) (by rw [hH]; exact trivial) (.inl rfl) (fun b' u hb hu => (Heap.get?_update_other s.heap (Obj.mapSeq f) (Ne.symm hb)).trans hu) ⟨_, q⟩ ?_
  exact ⟨hz, its', _, hv, q⟩
theorem Inv.lnew {its : List Value} {t' : Nat} (I : Inv X pins σ H s) (hv : Vals ys its) (hz : ys.length ≤ sizeLine) :
    Inv X pins σ (upd H s.heap.objs.size (.lst ys)) { s with heap := s.heap.push { cls := .type "list", data := .seq its.toArray }, toks := t' } :=
  I.laid (fun _ _ q => Heap.get?_push_of_some _ q) (Nat.le_refl _) ⟨hz, its, 0, hv, Heap.get?_push_size _ rfl⟩
theorem Inv.fresh (I : Inv X pins σ H s) : H s.heap.objs.size = none := I.hok.fresh (Nat.le_refl _)
theorem Inv.lstM (I : Inv X pins σ H s) (hH : H l = some (.lst xs)) : xs.length ≤ sizeLine ∧ ∃ (its : List Value) (n : Nat), Vals xs its ∧ xs.length = its.length ∧ s.heap.get? l = some { cls := .type "list", data := .seq its.toArray n } := by
  obtain ⟨z, its, n, r, e⟩ := I.hok l _ hH
  exact ⟨z, its, n, r, r.length, e⟩

end

section
variable {X : Cx}

def rAppend : V → List V → Hp → VK → Prop := fun x vs H Q => ∃ l xs y, x = .ref l ∧ vs = [y] ∧ H l = some (.lst xs) ∧ xs.length < sizeLine ∧ Q .non (upd H l (.lst (xs ++ [y])))
theorem mt_append : MtM X "list.append" rAppend := by
  intro pins s σ H x vs v us Q I rx rv h
  obtain ⟨l, xs, y, rfl, rfl, hH, hz, q⟩ := h
  cases rx
  obtain ⟨u, rfl, ru⟩ := rv.one
  obtain ⟨z, its, n, r, hl, e⟩ := I.lstM hH
  refine call_meets F.slot_list_append ⟨_, e, rfl⟩ F.entry_list_append (F.args_list_append_2 _ _) (PySem.list_append l its.toArray n u (by rw [List.size_toArray]; omega)) ⟨e, ?_⟩
  refine ⟨.non, _, I.lset (its' := its ++ [u]) hH e (by simp) (r.append (.cons ru .nil)) ?_, rfl, q⟩
  rw [List.length_append, List.length_singleton]
  omega

def rExtend : V → List V → Hp → VK → Prop := fun x vs H Q => ∃ l b xs zs, x = .ref l ∧ vs = [.ref b] ∧ H l = some (.lst xs) ∧ H b = some (.lst zs) ∧ xs.length + zs.length ≤ sizeLine ∧ Q .non (upd H l (.lst (xs ++ zs)))
def rPop : V → List V → Hp → VK → Prop := fun x vs H Q => ∃ l xs y, x = .ref l ∧ vs = [] ∧ H l = some (.lst xs) ∧ xs[xs.length - 1]? = some y ∧ Q y (upd H l (.lst xs.dropLast))
def rPopAt : V → List V → Hp → VK → Prop := fun x vs H Q => ∃ l xs i k y, x = .ref l ∧ vs = [.int i] ∧ H l = some (.lst xs) ∧ -(2 ^ 63) ≤ i ∧ i < 2 ^ 63 ∧ seqIndex? i xs.length = some k ∧ xs[k]? = some y ∧ Q y (upd H l (.lst (xs.eraseIdx k)))
def rReverse : V → List V → Hp → VK → Prop := fun x vs H Q => ∃ l xs, x = .ref l ∧ vs = [] ∧ H l = some (.lst xs) ∧ Q .non (upd H l (.lst xs.reverse))
def rClear : V → List V → Hp → VK → Prop := fun x vs H Q => ∃ l xs, x = .ref l ∧ vs = [] ∧ H l = some (.lst xs) ∧ Q .non (upd H l (.lst []))
def rCat : R2 := fun x y H Q => ∃ l b xs zs, x = .ref l ∧ y = .ref b ∧ H l = some (.lst xs) ∧ H b = some (.lst zs) ∧ xs.length + zs.length ≤ sizeLine ∧ ∀ p, H p = none → Q (.ref p) (upd H p (.lst (xs ++ zs)))
def rRep : R2 := fun x y H Q => ∃ l k xs, x = .ref l ∧ y = .int k ∧ H l = some (.lst xs) ∧ -(2 ^ 63) ≤ k ∧ k < 2 ^ 63 ∧ xs.length * k.toNat ≤ sizeLine ∧
  ∀ p, H p = none → Q (.ref p) (upd H p (.lst (List.replicate k.toNat xs).flatten))
end

section
variable {prog : Program} {w : World} {A : Around} {E : Value → Shared → Prop} {s : Shared}
set_option maxRecDepth 100000 in
end

section
variable {X : Cx}
end
end L2

namespace Att
open PySem PySem.W PySem.Calls PyProof.Rows

theorem ints_of_wellAll {P : Params} {h : Heap} : ∀ (ns : List Int) (vs : List Value), WellAll P h vs (ns.map WData.int) → IntsAre vs ns := by
  intro ns
  induction ns with
  | nil =>
    intro vs w
    rw [List.map_nil] at w
    cases w
    exact .nil
  | cons n ns ih =>
    intro vs w
    rw [List.map_cons] at w
    cases w with
    | cons a b =>
      cases a
      exact .cons _ _ (ih _ b)

theorem script_of {l : OpenLaw} {n : Nat} (hn : l.most = some n) {P : Params} {h : Heap} {args : List WData} {vals : List Value}
    (hpre : l.row.toRowW.claim.pre args = true) (hwl : WellAll P h vals args) :
    ∃ a vs ns, vals = [Value.ref a] ∧ args = [WData.list (ns.map WData.int)] ∧ h.get? a = some { cls := .type "list", data := .seq vs.toArray } ∧ IntsAre vs ns ∧ ns.length ≤ n := by
  have hsh : WShape.hasAll [] args [.list .int] = true := (pre_splitW hpre).1
  have hc : l.pre.holds [] { args := args } = true := (pre_splitW hpre).2
  obtain ⟨d, r, rfl, h1, h2⟩ := hasAllW_cons hsh
  obtain rfl := hasAllW_nil h2
  obtain ⟨xs, rfl, h3⟩ := hasW_list h1
  obtain ⟨ns, rfl⟩ := items_int h3
  have hlen : ns.length ≤ n := by
    unfold OpenLaw.pre at hc
    have h4 : (WTm.not (.lt (.lit (.int (n : Int))) (.len (.arg 0)))).holds [] { args := [.list (ns.map .int)] } = true := by
      have h4 := (holds_andW hc).1
      rw [hn] at h4
      exact h4
    have h5 := condW_of h4 (w_not (w_lt w_lit (w_len_list (w_arg rfl))))
    rw [List.length_map] at h5
    refine Nat.le_of_not_lt fun q => ?_
    have q' : (n : Int) < ((ns.length : Nat) : Int) := by omega
    first
      | (rw [decide_eq_true q'] at h5; exact absurd h5 (by decide))
      | (simp at h5; omega)
  cases hwl with
  | cons w1 w2 =>
    cases w2
    cases w1 with
    | list ho hall => exact ⟨_, _, ns, rfl, rfl, ho, ints_of_wellAll ns _ hall, hlen⟩

theorem post_true (l : OpenLaw) (args : List WData) : l.row.toRowW.claim.post args (.bool true) args = true :=
  postW_of (r := l.row.toRowW) (X := (true == true))
    (show WShape.has [] (.bool true) .bool = true by first | rfl | decide | simp [WShape.has, WShape.arms, WShape.armsAll])
    (show (WTm.eq .res (.lit (.bool true))).value [] { args := args, res := some (.bool true), after := args } = some (.bool (true == true)) from w_eq_bool (w_res rfl) w_lit) rfl

section
variable {prog : Program} {w : World} {A : Around} {E : Value → Shared → Prop} {s : Shared} {K : Frag}

def noObjs (h : Heap) : Heap := { h with objs := #[] }
def ledger (h : Heap) (L d : Addr) : List (Addr × Obj) := (List.range h.objs.size).filterMap fun a => if a = L ∨ a = d then none else (h.get? a).map fun o => (a, o)
end
end Att

namespace L2
open PySem PySem.Spec PyProof.Rows

theorem vals_ints : ∀ {vs : List Value} {ns : List Int}, IntsAre vs ns → Vals (ns.map V.int) vs
  | _, _, .nil => .nil
  | _, _, .cons n t h => .cons ⟨t, rfl⟩ (vals_ints h)

def Only (H : Hp) : Prop := ∀ b, H b = none ∨ ∃ o xs, H b = some (.frz o (.lst xs))

theorem law_call {P : Program} {w : World} {K : PySem.W.Frag} {mg mb : Str → Option Value} {CX : CXT} {k : Nat} {fa a : Addr} {fd : FuncData} {x : Str} {sp : Sp} {s₁ : Shared} {vs : List Value} {ns : List Int}
    (KX : K.In s₁.heap) (hns : s₁.heap.Ns mainGlobals mg) (hb : s₁.heap.Ns builtinsNs mb) (hbb : ∀ x : Str, x ≠ "__name__" → mb x = bootBuiltins x) (hlim : s₁.heap.NoLimit) (hsee : s₁.heap.NoSeer) (hg : s₁.gens = #[])
    (ha : s₁.heap.get? a = some { cls := .type "list", data := .seq vs.toArray }) (hi : IntsAre vs ns) (hl : ns.length ≤ sizeLine) (hr : Room k callerA)
    (F : ∀ base : Heap, K.In base → base.Ns mainGlobals mg → FnOk P w K mg base CX k fa fd [x] sp) (hbind : ∀ (s : Shared) (u : Value), BindsTo s fd ⟨[u], []⟩ [(x, u)])
    (hsp : ∀ H : Hp, Only H → SqL K H a (ns.map V.int) → sp [.ref a] H (fun v _ => v = .bl true) fun _ _ _ => False)
    (hCX : ∀ H e s', CX [] H s₁ (fun _ _ _ => False) e s' → False) :
    codeAny (model P w) callerA (.call (.ref fa) ⟨[.ref a], []⟩) (fun r s' => r = .ok (.ret (.bool true)) ∧ OldK s₁.heap s'.heap ∧ s'.os = s₁.os ∧ AllBare s'.gens) s₁ := by
  have rv := vals_ints hi
  have lenV := hi.length
  -- from an abstract heap in which nothing but the script may be tracked
  have core : ∀ H : Hp, Only H → SqL K H a (ns.map V.int) → HOk P w H s₁.heap → (∀ b, H b ≠ none → b = a) → (H a ≠ none → K.lookup a = none) →
      codeAny (model P w) callerA (.call (.ref fa) ⟨[.ref a], []⟩) (fun r s' => r = .ok (.ret (.bool true)) ∧ OldK s₁.heap s'.heap ∧ s'.os = s₁.os ∧ AllBare s'.gens) s₁ := by
    intro H hO hS hok hA hK
    have base_of : ∀ {b : Addr} {o : Obj}, s₁.heap.get? b = some o → H b = none → (hidT s₁.heap H).get? b = some o := fun e n => hidT_get e n
    have noA : ∀ {b : Addr} {o : Obj} {es : Array DictEntry} {ep : Nat}, s₁.heap.get? b = some o → o.data = .dict es ep → H b = none := fun {b o es ep} e d => by
      cases q : H b with
      | none => rfl
      | some u =>
        have e' : b = a := hA b (by rw [q]; simp)
        subst e'
        rw [ha] at e; cases e
        have d' : Data.seq vs.toArray _ = Data.dict es ep := d
        cases d'
    have nsK : ∀ {b : Addr} {m : Str → Option Value}, s₁.heap.Ns b m → (hidT s₁.heap H).Ns b m := fun {b m} ⟨o, es, ep, e, d, r⟩ => ⟨o, es, ep, base_of e (noA e d), d, r⟩
    have hKb : K.In (hidT s₁.heap H) := fun b o e => base_of (KX b o e) (by
      cases q : H b with
      | none => rfl
      | some u =>
        have e' : b = a := hA b (by rw [q]; simp)
        subst e'
        rw [hK (by rw [q]; simp)] at e; cases e)
    have hM : Mod K mg (hidT s₁.heap H) := ⟨hKb, nsK hns, ⟨mb, nsK hb, hbb⟩, let ⟨mc, h1, h2⟩ := hlim; ⟨mc, nsK h1, h2⟩,
      ⟨let ⟨mc, h1, h2⟩ := hsee.statics; ⟨mc, nsK h1, h2⟩, let ⟨mc, h1, h2⟩ := hsee.mods; ⟨mc, nsK h1, h2⟩, let ⟨mc, h1, h2⟩ := hsee.imp; ⟨mc, nsK h1, h2⟩,
        let ⟨mg', bm, ob, h1, h2, h3, h4, h5⟩ := hsee.main; ⟨mg', bm, ob, nsK h1, h2, base_of h3 (by
          cases q : H bm with
          | none => rfl
          | some u =>
            have e' : bm = a := hA bm (by rw [q]; simp)
            subst e'
            rw [ha] at h3
            cases h3
            have h4' : Value.type "list" = Value.type "module" := h4
            injection h4' with e9
            exact absurd e9 (by decide)), h4, h5⟩⟩⟩
    have e0 : Env0 P w K mg (hidT s₁.heap H) callerA [] s₁ H := ⟨rfl, hM, fun b o e => of_hidT e, Nat.le_of_eq (hidT_size _ _), trivial, fun b hb => absurd (show b ∈ ([] : List Addr) from hb) (by simp), hok, .of_eq hg⟩
    refine codeAny_mono ((F _ hKb (nsK hns)).run callerA [] s₁ H ⟨[.ref a], []⟩ [.ref a] [.ref a] _ _ hr e0 (hbind s₁ (.ref a)) (.cons rfl .nil) (hsp H hO hS)) fun r s' h => ?_
    cases r with
    | error e => exact (hCX H e s' h).elim
    | ok fl =>
      cases fl with
      | next => exact False.elim h
      | brk => exact False.elim h
      | cont => exact False.elim h
      | ret u =>
        obtain ⟨v, H', os, bare, un, hok', r', q⟩ := h
        have q' : v = .bl true := q
        subst q'
        obtain rfl : u = Value.bool true := r'
        refine ⟨rfl, OldK.of_keep fun b o e => ?_, os, bare⟩
        cases q : H b with
        | none => exact un.keep b o e q (by intro z; exact absurd (show b ∈ ([] : List Addr) from z) (by simp)) (by simp)
        | some u =>
          rcases hO b with z | ⟨ob, xs, z⟩
          · rw [q] at z; cases z
          · have z2 := un.frzs b ob _ z
            obtain ⟨e1, _⟩ := hok b _ z
            obtain ⟨e2, _⟩ := hok' b _ z2
            rw [e] at e1; cases e1
            exact e2
  cases hk : K.lookup a with
  | some o =>
    -- the script is one of the module's own objects
    have e := KX a o hk
    rw [ha] at e
    cases e
    refine core (fun _ => none) (fun _ => .inl rfl) (.inr ⟨_, vs.toArray, _, hk, rfl, rfl, rfl, by rw [List.size_toArray, lenV]; exact hl, by simpa using rv⟩) (fun b u z => by have z' : (none : Option HO) = some u := z; cases z') (fun b z => absurd rfl z) fun z => absurd rfl z
  | none =>
    refine core (fun b => if b = a then some (.frz { cls := .type "list", data := .seq vs.toArray } (.lst (ns.map V.int))) else none) (fun b => ?_) (.inl (.inr ⟨{ cls := .type "list", data := .seq vs.toArray }, if_pos rfl⟩)) (fun b u z => ?_) (fun b z => ?_) fun _ => hk
    · by_cases hb : b = a
      · exact .inr ⟨_, _, if_pos hb⟩
      · exact .inl (if_neg hb)
    · by_cases hb : b = a
      · have z' := (if_pos hb).symm.trans z
        cases z'
        subst hb
        exact ⟨ha, by rw [List.length_map]; exact hl, vs, _, rv, ha⟩
      · have z' := (if_neg hb).symm.trans z
        cases z'
    · by_cases hb : b = a
      · exact hb
      · exact absurd (if_neg hb) z
end L2

namespace L2
open PySem PySem.Spec PyProof.Rows

abbrev KOf {K : PySem.W.Frag} {h : Heap} (_ : K.In h) : PySem.W.Frag := K


end L2

/- THE LAST THEOREM (shape; LID, My.* are yours):
   My.Adr: a structure of the addresses that your layer names (classes, functions); My.Txt K t: a structure (Prop) of the equations over K;
   My.txt_mk : {K} {implicit addresses ..} (e1 : nsIn K mainGlobals "law" = some (some (.ref f))) (e2 : K.lookup f = some ⟨oc, od, .func (fnOf "law" "law" params body scope dV kV doc pm an cdv ct), sl⟩) (e3 : codeIn K cdv "law" = true) .. : ∃ t, My.Txt K t

set_option maxRecDepth 100000 in
set_option maxHeartbeats 0 in
theorem PySem.Challenge.cw_LID_holds : PySem.Challenge.rw_LID.Holds := by
  w_on; o_law; k_head; (case hw => w_witness2)
  k_fill
  refine L2.walk_of (l := PySem.Challenge.rw_LID) (n := 63) (k := 40) (x := "script") (CX := fun w => ..) (sp := fun _ => My.sp_law) rfl (by decide) rfl ⟨rfl, by decide, by decide⟩ (fun w h Y => PySem.W.kIn_of Y) ?F ?S ?C
  case F =>
    intro w mg fa h KX G hmg
    have T : ∃ t, My.Txt (L2.KOf KX) t := by
      dsimp only [L2.KOf]                          -- K must stand as «<heap const> w.params» for k_is
      refine' My.txt_mk ?e1 ?e2 ?e3 ..
      (case e1 => PySem.W.k_is)                    -- in the order: a name -> its address -> its object -> its parts
      (case e2 => PySem.W.k_is)
      ..
    obtain ⟨t, T⟩ := T
    have e0 := hmg.symm.trans (PySem.W.mg_of KX G T.law)
    cases e0                                       -- fa is the law's own address
    exact ⟨_, fun s u => .of_eq rfl, fun base kb nb => My.law_fn T kb nb⟩     -- if «.of_eq rfl» comes too early: refine' ⟨_, ?b, fun base kb nb => My.law_fn T kb nb⟩; exact fun s u => .of_eq rfl
  case S => exact fun w H a ns hl hO hS => ..
  case C => exact ..
(the tactic k_is has no namespace: write k_is) -/

namespace L2
open PySem PySem.Spec PyProof.Rows

def inClass (s : Stmt) (j : Nat) : Stmt := match s with
  | .ClassDef _ _ _ body _ _ _ _ _ _ _ => body.getD j (.Pass ⟨0, 0, 0, 0⟩)
  | _ => .Pass ⟨0, 0, 0, 0⟩
def defArgs (s : Stmt) : Arguments := match s with
  | .FunctionDef _ a _ _ _ _ _ _ _ _ => a
  | _ => { posonlyargs := [], args := [], vararg := none, kwonlyargs := [], kw_defaults := [], kwarg := none, defaults := [] }
def defBody (s : Stmt) : List Stmt := match s with
  | .FunctionDef _ _ b _ _ _ _ _ _ _ => b
  | _ => []
def defScope (s : Stmt) : Scope := match s with
  | .FunctionDef _ _ _ _ _ _ sc _ _ _ => sc
  | _ => { kind := .function, names := [], isGenerator := false, isCoroutine := false }

abbrev CX0 : CXT := fun _ _ _ _ _ _ => False
abbrev E0 : XK := fun _ _ _ => False
structure Fun (K : PySem.W.Frag) (x qual : Str) (st : Stmt) (f : Addr) (fd : FuncData) : Prop where
  ex : ∃ (oc : Value) (od : Option Addr) (kV doc pm : Value) (an : Option Addr) (cdv ct : Value) (osl : Array (Option Value)),
    fd = PySem.W.fnOf x qual (defArgs st) (defBody st) (defScope st) .none kV doc pm an cdv ct ∧ K.lookup f = some ⟨oc, od, .func fd, osl⟩ ∧ PySem.W.codeIn K cdv qual = true
  kp : PySem.W.keepIn K (.ref f) = true
section
variable {P : Program} {w : World} {K : PySem.W.Frag} {mg : Str → Option Value} {base : Heap}
theorem Fun.ok {x qual : Str} {st : Stmt} {f : Addr} {fd : FuncData} {N ps : List Str} {k : Nat} {sp : Sp} (F : Fun K x qual st f fd) (S : FnScope N ps (defScope st)) (len : ∀ vs H Q E, sp vs H Q E → vs.length = ps.length)
    (hbody : ∀ (cdv : Value) (A : Around) (outer : List Env) (s : Shared) (H : Hp) (vs : List V) (Q : VK) (E : XK), Room k (A.deeper (envOfC qual (defScope st) s.heap.objs.size f cdv)) → sp vs H Q E →
      ∃ t, PSs (cxOf CX0 P w K mg base N qual (defScope st) f cdv A outer s H E).nox (defBody st) t ∧ t { nx := fun _ H' => Q .non H', rt := Q } (start N vs) H) : FnOk P w K mg base CX0 (k + 1) f fd ps sp := by
  obtain ⟨oc, od, kV, doc, pm, an, cdv, ct, osl, rfl, lk, hcd⟩ := F.ex
  refine fn_of lk hcd S len fun A outer s H vs Q E hr hsp => ?_
  obtain ⟨t, h, q⟩ := hbody cdv A outer s H vs Q E hr hsp
  exact ⟨t, h.nox, q⟩
theorem Fun.binds {x qual : Str} {st : Stmt} {f : Addr} {fd : FuncData} {ps : List Str} (F : Fun K x qual st f fd)
    (h : ∀ (kV doc pm : Value) (an : Option Addr) (cdv ct : Value) (us : List Value), us.length = ps.length → bindArgs (PySem.W.fnOf x qual (defArgs st) (defBody st) (defScope st) .none kV doc pm an cdv ct) ⟨us, []⟩ = pure (ps.zip us)) : Binds K fd ps [] := by
  obtain ⟨oc, od, kV, doc, pm, an, cdv, ct, osl, rfl, lk, hcd⟩ := F.ex
  exact .all (h kV doc pm an cdv ct)
theorem fun_mk {x qual : Str} {st : Stmt} {f : Addr} {oc : Value} {od an : Option Addr} {osl : Array (Option Value)} {kV doc pm cdv ct : Value} (l : K.lookup f = some ⟨oc, od, .func (PySem.W.fnOf x qual (defArgs st) (defBody st) (defScope st) .none kV doc pm an cdv ct), osl⟩)
    (c : PySem.W.codeIn K cdv qual = true) (k : PySem.W.keepIn K (.ref f) = true) : Fun K x qual st f (PySem.W.fnOf x qual (defArgs st) (defBody st) (defScope st) .none kV doc pm an cdv ct) := ⟨⟨oc, od, kV, doc, pm, an, cdv, ct, osl, rfl, l, c⟩, k⟩
end
theorem hu_of {A : Around} {k : Nat} (hr : Room k A) : A.units + 1 < cLine := Nat.lt_of_le_of_lt (Nat.add_le_add_left (by decide : 1 ≤ 64) _) hr.units
section
variable {X : Cx}
theorem pv (i : Nat) {x : Str} {pos : Pos} (hN : X.N[i]? = some x := by rfl) (hv : Vis X.env.scope x := by first | exact Or.inl rfl | exact Or.inr (Or.inl rfl) | exact Or.inr (Or.inr rfl)) (hd : (x == ("__debug__" : Str)) = false := by decide)
    (hcd : (x == ("__classdict__" : Str)) = false := by decide) : PE X (.Name x pos) (tVar i) := pe_var hN hv hd hcd
end

theorem iteF {A B : Prop} (h : B) : if false = true then A else B := by
  rw [if_neg Bool.false_ne_true]
  exact h
theorem ite2 {c A B : Prop} [Decidable c] (h1 : c → A) (h2 : ¬ c → B) : if c then A else B := by
  by_cases h : c
  · rw [if_pos h]
    exact h1 h
  · rw [if_neg h]
    exact h2 h
theorem iteNS {c A B : Prop} [Decidable c] (hc : c) (h : B) : if (!decide c) = true then A else B := by
  rw [decide_eq_true hc]
  exact iteF h

def Same (H H' : Hp) : Prop := ∀ b o, H b = some o → H' b = some o
theorem Same.refl (H : Hp) : Same H H := fun _ _ h => h
theorem Same.trans {H H1 H2 : Hp} (a : Same H H1) (b : Same H1 H2) : Same H H2 := fun c o h => b c o (a c o h)
theorem Same.free {H H' : Hp} (e : Same H H') {l : Addr} (h : H' l = Option.none) : H l = Option.none := by
  cases q : H l with
  | none => rfl
  | some o =>
    rw [e l o q] at h
    cases h
theorem Same.seq {K : PySem.W.Frag} {H H' : Hp} {a : Addr} {xs : List V} (e : Same H H') (h : SqL K H a xs) : SqL K H' a xs := by
  rcases h with (h | ⟨o, h⟩) | h
  · exact .inl (.inl (e _ _ h))
  · exact .inl (.inr ⟨o, e _ _ h⟩)
  · exact .inr h

end L2

namespace Ty
def gz (t b : Int) : Int := (Int.gcd t b : Nat)
def sg (t b : Int) : Int := if b < 0 then -gz t b else gz t b
def low (t b : Int) : Int × Int := (t.fdiv (sg t b), b.fdiv (sg t b))

theorem gcd_step (a b : Int) : Int.gcd b (a.fmod b) = Int.gcd a b := by
  rw [Int.fmod_def, Int.gcd_sub_mul_left_right, Int.gcd_comm]
theorem fmod_less {a b : Int} (h : b ≠ 0) : (a.fmod b).natAbs < b.natAbs := by
  rcases Int.lt_trichotomy b 0 with q | q | q
  · have h1 : (-a).fmod (-b) = -(a.fmod b) := by
      rw [Int.fmod_def, Int.fmod_def, Int.neg_fdiv_neg, Int.neg_mul]
      omega
    have h2 := Int.fmod_nonneg_of_pos (-a) (show 0 < -b by omega)
    have h3 := Int.fmod_lt_of_pos (-a) (show 0 < -b by omega)
    omega
  · exact absurd q h
  · have h2 := Int.fmod_nonneg_of_pos a q
    have h3 := Int.fmod_lt_of_pos a q
    omega
theorem gz_pos {t b : Int} (h : b ≠ 0) : 0 < gz t b := by
  have := Int.gcd_pos_iff.mpr (Or.inr h : t ≠ 0 ∨ b ≠ 0)
  show (0 : Int) < ((Int.gcd t b : Nat) : Int)
  omega
theorem sg_ne {t b : Int} (h : b ≠ 0) : sg t b ≠ 0 := by
  have := gz_pos (t := t) h
  unfold sg
  split <;> omega
theorem sg_abs {t b : Int} : (sg t b).natAbs = (gz t b).natAbs := by
  unfold sg
  split
  · exact Int.natAbs_neg _
  · rfl
theorem sg_dvd_left (t b : Int) : sg t b ∣ t := by
  unfold sg gz
  split
  · exact Int.neg_dvd.mpr (Int.gcd_dvd_left t b)
  · exact Int.gcd_dvd_left t b
theorem sg_dvd_right (t b : Int) : sg t b ∣ b := by
  unfold sg gz
  split
  · exact Int.neg_dvd.mpr (Int.gcd_dvd_right t b)
  · exact Int.gcd_dvd_right t b
theorem fdiv_of_dvd {a g : Int} (h : g ≠ 0) (d : g ∣ a) : a = g * a.fdiv g := by
  obtain ⟨c, hc⟩ := d
  have := Int.fdiv_eq_of_eq_mul_right h hc
  rw [this]
  exact hc
theorem low_top {t b : Int} (h : b ≠ 0) : t = sg t b * (low t b).1 := fdiv_of_dvd (sg_ne h) (sg_dvd_left t b)
theorem low_bot {t b : Int} (h : b ≠ 0) : b = sg t b * (low t b).2 := fdiv_of_dvd (sg_ne h) (sg_dvd_right t b)
theorem low_pos {t b : Int} (h : b ≠ 0) : 0 < (low t b).2 := by
  have e := low_bot (t := t) h
  have g := gz_pos (t := t) h
  rcases Int.lt_trichotomy (low t b).2 0 with q | q | q
  · exfalso
    by_cases c : b < 0
    · have s : sg t b = -gz t b := by unfold sg; rw [if_pos c]
      rw [s] at e
      have := Int.mul_pos_of_neg_of_neg (show -gz t b < 0 by omega) q
      omega
    · have s : sg t b = gz t b := by unfold sg; rw [if_neg c]
      rw [s] at e
      have := Int.mul_neg_of_pos_of_neg g q
      omega
  · exfalso
    rw [q, Int.mul_zero] at e
    exact h e
  · exact q
theorem low_cross {t b : Int} (h : b ≠ 0) : (low t b).1 * b = t * (low t b).2 := by
  have e1 := low_top (t := t) h
  have e2 := low_bot (t := t) h
  calc (low t b).1 * b = (low t b).1 * (sg t b * (low t b).2) := by rw [← e2]
    _ = sg t b * (low t b).1 * (low t b).2 := by rw [← Int.mul_assoc, Int.mul_comm (low t b).1]
    _ = t * (low t b).2 := by rw [← e1]
theorem low_gcd {t b : Int} (h : b ≠ 0) : Int.gcd (low t b).1 (low t b).2 = 1 := by
  have e1 := low_top (t := t) h
  have e2 := low_bot (t := t) h
  have k : Int.gcd t b = (sg t b).natAbs * Int.gcd (low t b).1 (low t b).2 := by
    have q := Int.gcd_mul_left (sg t b) (low t b).1 (low t b).2
    rw [← e1, ← e2] at q
    exact q
  have g : (sg t b).natAbs = Int.gcd t b := by
    rw [sg_abs]
    rfl
  have p := Int.gcd_pos_iff.mpr (Or.inr h : t ≠ 0 ∨ b ≠ 0)
  rw [g] at k
  have k' : Int.gcd t b * 1 = Int.gcd t b * Int.gcd (low t b).1 (low t b).2 := by rw [Nat.mul_one]; exact k
  exact (Nat.eq_of_mul_eq_mul_left p k').symm
theorem natAbs_factor {g a : Int} (h : g ≠ 0) : a.natAbs ≤ (g * a).natAbs := by
  rw [Int.natAbs_mul]
  have : 1 ≤ g.natAbs := by omega
  have := Nat.mul_le_mul_right a.natAbs this
  omega
theorem low_top_le {t b : Int} (h : b ≠ 0) : (low t b).1.natAbs ≤ t.natAbs := by
  have e := low_top (t := t) h
  have := natAbs_factor (g := sg t b) (a := (low t b).1) (sg_ne h)
  rw [← e] at this
  exact this
theorem low_bot_le {t b : Int} (h : b ≠ 0) : (low t b).2.natAbs ≤ b.natAbs := by
  have e := low_bot (t := t) h
  have := natAbs_factor (g := sg t b) (a := (low t b).2) (sg_ne h)
  rw [← e] at this
  exact this
theorem low_of {t b g x y : Int} (hg : g ≠ 0) (ht : t = g * x) (hb : b = g * y) (hy : 0 < y) (h1 : Int.gcd x y = 1) : low t b = (x, y) := by
  have hbn : b ≠ 0 := by
    rw [hb]
    exact Int.mul_ne_zero hg (by omega)
  have gg : Int.gcd t b = g.natAbs := by
    rw [ht, hb, Int.gcd_mul_left, h1, Nat.mul_one]
  have s : sg t b = g := by
    unfold sg gz
    rw [gg]
    by_cases c : g < 0
    · have : b < 0 := by rw [hb]; exact Int.mul_neg_of_neg_of_pos c hy
      rw [if_pos this]
      omega
    · have : ¬ b < 0 := by
        have := Int.mul_nonneg (show 0 ≤ g by omega) (show 0 ≤ y by omega)
        omega
      rw [if_neg this]
      omega
  unfold low
  rw [s]
  rw [Int.fdiv_eq_of_eq_mul_right hg ht, Int.fdiv_eq_of_eq_mul_right hg hb]
theorem low_self {x y : Int} (hy : 0 < y) (h : Int.gcd x y = 1) : low x y = (x, y) := low_of (g := 1) (by decide) (by omega) (by omega) hy h
theorem low_scale {t b k : Int} (hk : k ≠ 0) (h : b ≠ 0) : low (k * t) (k * b) = low t b := by
  refine low_of (g := k * sg t b) (Int.mul_ne_zero hk (sg_ne h)) ?_ ?_ (low_pos h) (low_gcd h)
  · rw [Int.mul_assoc]
    exact congrArg (k * ·) (low_top h)
  · rw [Int.mul_assoc]
    exact congrArg (k * ·) (low_bot h)
theorem low_cross_iff {t b u c : Int} (hb : b ≠ 0) (hc : c ≠ 0) (h : t * c = u * b) : low t b = low u c := by
  rw [← low_scale (t := t) (b := b) hc hb, ← low_scale (t := u) (b := c) hb hc]
  rw [Int.mul_comm c t, h, Int.mul_comm u b, Int.mul_comm c b]
end Ty

set_option maxHeartbeats 4000000
namespace Ty
open PySem PySem.Spec PyProof.Rows L2
open Builtin.Int (intBits)
section
variable {X : Cx}
def CMulB (i j : Int) : Prop := intBits i ≤ 33554432 ∧ intBits j ≤ 33554432
theorem op_mulB : OpR X (binaryOp .Mult) (rI CMulB fun i j => .int (i * j)) :=
  opI fun _ _ _ _ _ _ _ hc q => mul_int q (IntMulOk.of_le hc.1 hc.2 (by decide))
def CDivB (i j : Int) : Prop := j ≠ 0 ∧ intBits j ≤ 9000
theorem noPy {i j : Int} (h : intBits j ≤ 9000) : Builtin.divisionGoesByPylong i j = false := by
  refine PyProof.noPylong_of_log2 ?_
  have h1 := intBits_le_iff.mp h
  by_cases h0 : j.natAbs = 0
  · rw [h0]
    decide +kernel
  · exact (Nat.log2_lt h0).mpr h1
theorem op_fdivB : OpR X (binaryOp .FloorDiv) (rI CDivB fun i j => .int (i.fdiv j)) :=
  opI fun _ _ _ _ _ _ _ hc q => floordiv_int hc.1 q (.inl (noPy hc.2))
end
inductive Da where
  | v (x : V)
  | t (ds : List Da)
  | l (ds : List Da)
mutual
def Is (K : PySem.W.Frag) (H : Hp) : Da → V → Prop
  | .v x, u => u = x ∧ flatV x = true
  | .t ds, u => ∃ p xs, u = .ref p ∧ SqT K H p xs ∧ Iss K H ds xs
  | .l ds, u => ∃ p xs, u = .ref p ∧ SqL K H p xs ∧ Iss K H ds xs
def Iss (K : PySem.W.Frag) (H : Hp) : List Da → List V → Prop
  | [], [] => True
  | d :: ds, x :: xs => Is K H d x ∧ Iss K H ds xs
  | _, _ => False
end
mutual
def eqDa : Da → Da → Bool
  | .v x, .v y => eqV x y
  | .t ds, .t es => eqDas ds es
  | .l ds, .l es => eqDas ds es
  | _, _ => false
def eqDas : List Da → List Da → Bool
  | [], [] => true
  | d :: ds, e :: es => eqDa d e && eqDas ds es
  | _, _ => false
end
mutual
def alike : Da → Da → Bool
  | .v _, .v _ => true
  | .t ds, .t es => alikes ds es
  | .l ds, .l es => alikes ds es
  | _, _ => false
def alikes : List Da → List Da → Bool
  | d :: ds, e :: es => alike d e && alikes ds es
  | _, _ => true
end
mutual
def dep : Da → Nat
  | .v _ => 0
  | .t ds => deps ds + 1
  | .l ds => deps ds + 1
def deps : List Da → Nat
  | [] => 0
  | d :: ds => max (dep d) (deps ds)
end
theorem Iss.length {K : PySem.W.Frag} {H : Hp} : ∀ {ds : List Da} {xs : List V}, Iss K H ds xs → ds.length = xs.length
  | [], [], _ => rfl
  | _ :: _, _ :: _, h => congrArg (· + 1) (Iss.length (by unfold Iss at h; exact h.2))
  | [], _ :: _, h => by unfold Iss at h; exact h.elim
  | _ :: _, [], h => by unfold Iss at h; exact h.elim
def bitDa (ds es : List Da) (j : Nat) : Bool := match ds[j]?, es[j]? with
  | some d, some e => eqDa d e
  | _, _ => true
theorem eqDas_bits : ∀ ds es : List Da, eqDas ds es = ((List.range (min ds.length es.length)).all (bitDa ds es) && ds.length == es.length)
  | [], [] => rfl
  | [], _ :: _ => by simp [eqDas]
  | _ :: _, [] => by simp [eqDas]
  | d :: ds, e :: es => by
    have ih := eqDas_bits ds es
    have r : min (d :: ds).length (e :: es).length = min ds.length es.length + 1 := by simp [Nat.succ_min_succ]
    rw [r, List.range_succ_eq_map, List.all_cons, List.all_map]
    have b0 : bitDa (d :: ds) (e :: es) 0 = eqDa d e := rfl
    have b1 : (bitDa (d :: ds) (e :: es) ∘ Nat.succ) = bitDa ds es := by
      funext j
      rfl
    have l1 : ((d :: ds).length == (e :: es).length) = (ds.length == es.length) := by simp
    rw [b0, b1, l1, Bool.and_assoc, ← ih]
    rfl
section
variable {X : Cx} {pins : List (Addr × Obj)} {σ : L2.St} {H : Hp} {s : Shared}
theorem eqV_refl {x : V} (h : flatV x = true) : eqV x x = true := by
  cases x <;> first | rfl | (simp [eqV]; done) | (cases h; done)
mutual
theorem is_same (I : Inv X pins σ H s) : ∀ (d e : Da) (x : V), Is X.K H d x → Is X.K H e x → alike d e = true → eqDa d e = true
  | .v a, .v b, x, h1, h2, _ => by
    unfold Is at h1 h2
    obtain ⟨rfl, f⟩ := h1
    obtain ⟨rfl, _⟩ := h2
    unfold eqDa
    exact eqV_refl f
  | .t ds, .t es, x, h1, h2, a => by
    unfold Is at h1 h2
    obtain ⟨p, xs, rfl, q1, k1⟩ := h1
    obtain ⟨p', ys, e', q2, k2⟩ := h2
    cases e'
    cases I.tuple_inj q1 q2
    unfold eqDa
    unfold alike at a
    exact iss_same I ds es xs k1 k2 a
  | .l ds, .l es, x, h1, h2, a => by
    unfold Is at h1 h2
    obtain ⟨p, xs, rfl, q1, k1⟩ := h1
    obtain ⟨p', ys, e', q2, k2⟩ := h2
    cases e'
    cases I.list_inj q1 q2
    unfold eqDa
    unfold alike at a
    exact iss_same I ds es xs k1 k2 a
  | .v _, .t _, _, _, _, a => by unfold alike at a; cases a
  | .v _, .l _, _, _, _, a => by unfold alike at a; cases a
  | .t _, .v _, _, _, _, a => by unfold alike at a; cases a
  | .t _, .l _, _, _, _, a => by unfold alike at a; cases a
  | .l _, .v _, _, _, _, a => by unfold alike at a; cases a
  | .l _, .t _, _, _, _, a => by unfold alike at a; cases a
theorem iss_same (I : Inv X pins σ H s) : ∀ (ds es : List Da) (xs : List V), Iss X.K H ds xs → Iss X.K H es xs → alikes ds es = true → eqDas ds es = true
  | [], [], _, _, _, _ => by unfold eqDas; rfl
  | d :: ds, e :: es, x :: xs, h1, h2, a => by
    unfold Iss at h1 h2
    unfold alikes at a
    rw [Bool.and_eq_true] at a
    unfold eqDas
    rw [is_same I d e x h1.1 h2.1 a.1, iss_same I ds es xs h1.2 h2.2 a.2]
    rfl
  | [], _ :: _, [], _, h2, _ => by unfold Iss at h2; exact h2.elim
  | [], _ :: _, _ :: _, h1, _, _ => by unfold Iss at h1; exact h1.elim
  | _ :: _, [], [], h1, _, _ => by unfold Iss at h1; exact h1.elim
  | _ :: _, [], _ :: _, _, h2, _ => by unfold Iss at h2; exact h2.elim
  | _ :: _, _ :: _, [], h1, _, _ => by unfold Iss at h1; exact h1.elim
end
theorem in1_units (A : Around) : A.in1.units = A.units + 1 := rfl
mutual
theorem eqAt_da (I : Inv X pins σ H s) : ∀ (d e : Da) (x y : V) (u w : Value) (A : Around), Is X.K H d x → Is X.K H e y → alike d e = true → RelV x u → RelV y w → A.units + dep d < cLine → SeqAt.EqAt A s u w (eqDa d e)
  | .v a, .v b, x, y, u, w, A, h1, h2, _, r1, r2, _ => by
    unfold Is at h1 h2
    obtain ⟨rfl, f1⟩ := h1
    obtain ⟨rfl, f2⟩ := h2
    unfold eqDa
    exact eqAt_V r1 r2 f1 f2
  | .t ds, .t es, x, y, u, w, A, h1, h2, a, r1, r2, hu => by
    have h1' := h1
    have h2' := h2
    unfold Is at h1 h2
    obtain ⟨p, xs, rfl, q1, k1⟩ := h1
    obtain ⟨p', ys, rfl, q2, k2⟩ := h2
    cases r1
    cases r2
    by_cases e : p = p'
    · subst e
      rw [is_same I _ _ _ h1' h2' a]
      exact .same _
    · refine .of_refs e ?_
      obtain ⟨its, v1, t1, _⟩ := I.tuple q1
      obtain ⟨its2, v2, t2, _⟩ := I.tuple q2
      unfold eqDa
      rw [eqDas_bits, k1.length, k2.length, v1.length, v2.length]
      have z := SeqAt.RcAt.tuples (A := A) (e := bitDa ds es) t1 t2 (by unfold dep at hu; omega) fun j g1 g2 => by
        unfold dep at hu
        unfold alike at a
        exact eqAt_das I ds es xs ys its its2 A.in1 k1 k2 a v1 v2 (by rw [in1_units]; omega) j (by simpa using g1) (by simpa using g2)
      simpa using z
  | .l ds, .l es, x, y, u, w, A, h1, h2, a, r1, r2, hu => by
    have h1' := h1
    have h2' := h2
    unfold Is at h1 h2
    obtain ⟨p, xs, rfl, q1, k1⟩ := h1
    obtain ⟨p', ys, rfl, q2, k2⟩ := h2
    cases r1
    cases r2
    by_cases e : p = p'
    · subst e
      rw [is_same I _ _ _ h1' h2' a]
      exact .same _
    · refine .of_refs e ?_
      obtain ⟨its, v1, t1, _⟩ := I.list q1
      obtain ⟨its2, v2, t2, _⟩ := I.list q2
      unfold eqDa
      unfold dep at hu
      unfold alike at a
      by_cases el : its.length = its2.length
      · rw [eqDas_bits, k1.length, k2.length, v1.length, v2.length]
        have z := SeqAt.RcAt.lists (A := A) (e := bitDa ds es) t1.isList t2.isList (by simpa using el) (by omega) fun j g1 g2 =>
          eqAt_das I ds es xs ys its its2 A.in1 k1 k2 a v1 v2 (by rw [in1_units]; omega) j (by simpa using g1) (by simpa using g2)
        rw [el, Nat.min_self, beq_self_eq_true, Bool.and_true]
        rw [List.size_toArray, el] at z
        exact z
      · have ne : eqDas ds es = false := by
          rw [eqDas_bits, k1.length, k2.length, v1.length, v2.length, beq_eq_false_iff_ne.mpr el, Bool.and_false]
        rw [ne]
        exact SeqAt.RcAt.lists_lengths t1.isList t2.isList (by simpa using el) (by omega)
  | .v _, .t _, _, _, _, _, _, _, _, a, _, _, _ => by unfold alike at a; cases a
  | .v _, .l _, _, _, _, _, _, _, _, a, _, _, _ => by unfold alike at a; cases a
  | .t _, .v _, _, _, _, _, _, _, _, a, _, _, _ => by unfold alike at a; cases a
  | .t _, .l _, _, _, _, _, _, _, _, a, _, _, _ => by unfold alike at a; cases a
  | .l _, .v _, _, _, _, _, _, _, _, a, _, _, _ => by unfold alike at a; cases a
  | .l _, .t _, _, _, _, _, _, _, _, a, _, _, _ => by unfold alike at a; cases a
theorem eqAt_das (I : Inv X pins σ H s) : ∀ (ds es : List Da) (xs ys : List V) (us ws : List Value) (A : Around), Iss X.K H ds xs → Iss X.K H es ys → alikes ds es = true → Vals xs us → Vals ys ws → A.units + deps ds < cLine →
    ∀ (j : Nat) (h1 : j < us.length) (h2 : j < ws.length), SeqAt.EqAt A s us[j] ws[j] (bitDa ds es j)
  | d :: ds, e :: es, x :: xs, y :: ys, u :: us, w :: ws, A, k1, k2, a, .cons r1 v1, .cons r2 v2, hu, 0, _, _ => by
    unfold Iss at k1 k2
    unfold alikes at a
    rw [Bool.and_eq_true] at a
    unfold deps at hu
    exact eqAt_da I d e x y u w A k1.1 k2.1 a.1 r1 r2 (by omega)
  | d :: ds, e :: es, x :: xs, y :: ys, u :: us, w :: ws, A, k1, k2, a, .cons r1 v1, .cons r2 v2, hu, j + 1, h1, h2 => by
    unfold Iss at k1 k2
    unfold alikes at a
    rw [Bool.and_eq_true] at a
    unfold deps at hu
    exact eqAt_das I ds es xs ys us ws A k1.2 k2.2 a.2 v1 v2 (by omega) j (by simpa using h1) (by simpa using h2)
  | [], _, [], _, _, _, _, _, _, _, .nil, _, _, _, h1, _ => absurd h1 (Nat.not_lt_zero _)
  | _, [], _, [], _, _, _, _, _, _, _, .nil, _, _, _, h2 => absurd h2 (Nat.not_lt_zero _)
  | [], _, _ :: _, _, _, _, _, k1, _, _, _, _, _, _, _, _ => by unfold Iss at k1; exact k1.elim
  | _ :: _, _, [], _, _, _, _, k1, _, _, _, _, _, _, _, _ => by unfold Iss at k1; exact k1.elim
  | _, [], _, _ :: _, _, _, _, _, k2, _, _, _, _, _, _, _ => by unfold Iss at k2; exact k2.elim
  | _, _ :: _, _, [], _, _, _, _, k2, _, _, _, _, _, _, _ => by unfold Iss at k2; exact k2.elim
end
end

section
variable {X : Cx}
def rEqDa (K : PySem.W.Frag) : R2 := fun x y H Q => ∃ ds es, ((Is K H (.t ds) x ∧ Is K H (.t es) y) ∨ (Is K H (.l ds) x ∧ Is K H (.l es) y)) ∧ alikes ds es = true ∧ deps ds ≤ 60 ∧ Q (.bl (eqDas ds es)) H
def rNeDa (K : PySem.W.Frag) : R2 := fun x y H Q => ∃ ds es, ((Is K H (.t ds) x ∧ Is K H (.t es) y) ∨ (Is K H (.l ds) x ∧ Is K H (.l es) y)) ∧ alikes ds es = true ∧ deps ds ≤ 60 ∧ Q (.bl (!eqDas ds es)) H
theorem op_eqDa (hu : X.A.units + 64 < cLine) : OpR X (compareOp .Eq) (rEqDa X.K) := by
  intro pins s σ H x y v u Q I rx ry h
  obtain ⟨ds, es, h, a, hd, q⟩ := h
  rcases h with ⟨h1, h2⟩ | ⟨h1, h2⟩
  · unfold Is at h1 h2
    obtain ⟨p, xs, rfl, q1, k1⟩ := h1
    obtain ⟨p', ys, rfl, q2, k2⟩ := h2
    cases rx
    cases ry
    obtain ⟨its, v1, t1, _⟩ := I.tuple q1
    obtain ⟨its2, v2, t2, _⟩ := I.tuple q2
    have z := SeqAt.RcAt.tuples (A := X.A) (e := bitDa ds es) t1 t2 (by omega) fun j g1 g2 =>
      eqAt_das I ds es xs ys its its2 X.A.in1 k1 k2 a v1 v2 (by rw [in1_units]; omega) j (by simpa using g1) (by simpa using g2)
    refine z X.prog X.w X.xe _ ⟨.bl _, H, I, rfl, ?_⟩
    have e := eqDas_bits ds es
    rw [k1.length, k2.length, v1.length, v2.length] at e
    simpa [e] using q
  · unfold Is at h1 h2
    obtain ⟨p, xs, rfl, q1, k1⟩ := h1
    obtain ⟨p', ys, rfl, q2, k2⟩ := h2
    cases rx
    cases ry
    obtain ⟨its, v1, t1, _⟩ := I.list q1
    obtain ⟨its2, v2, t2, _⟩ := I.list q2
    have e := eqDas_bits ds es
    rw [k1.length, k2.length, v1.length, v2.length] at e
    by_cases el : its.length = its2.length
    · have z := SeqAt.RcAt.lists (A := X.A) (e := bitDa ds es) t1.isList t2.isList (by simpa using el) (by omega) fun j g1 g2 =>
        eqAt_das I ds es xs ys its its2 X.A.in1 k1 k2 a v1 v2 (by rw [in1_units]; omega) j (by simpa using g1) (by simpa using g2)
      refine z X.prog X.w X.xe _ ⟨.bl _, H, I, rfl, ?_⟩
      rw [el, Nat.min_self, beq_self_eq_true, Bool.and_true] at e
      simpa [e, el] using q
    · have ne : eqDas ds es = false := by rw [e, beq_eq_false_iff_ne.mpr el, Bool.and_false]
      rw [ne] at q
      exact SeqAt.RcAt.lists_lengths t1.isList t2.isList (by simpa using el) (by omega) X.prog X.w X.xe _ ⟨.bl _, H, I, rfl, q⟩
def clsV : V → Value
  | .ty n => .type n
  | .ref a => .ref a
  | _ => .none
def isCls : V → Bool
  | .ty _ => true
  | .ref _ => true
  | _ => false
theorem cls_rel {c : V} {u : Value} (h : isCls c = true) (r : RelV c u) : u = clsV c := by
  cases c <;> first | exact r | (cases h; done)
def rIsi (K : PySem.W.Frag) : List V → Hp → VK → Prop := fun xs H Q => ∃ x c t b, xs = [x, c] ∧ isCls c = true ∧ TyOf K H x t ∧ PySem.W.kitOne K t (clsV c) = some b ∧ Q (.bl b) H
theorem call_isi : CallR X (.builtin "isinstance") (rIsi X.K) := by
  intro pins s σ H xs us Q I r h
  obtain ⟨x, c, t, b, rfl, hc, ty, e, q⟩ := h
  obtain ⟨u, w, rfl, r1, r2⟩ := vals2 r
  obtain rfl := cls_rel hc r2
  exact isinst_ok I r1 ty e fun tk => ⟨.bl b, H, I.tok tk, rfl, q⟩
end
section
variable {K : PySem.W.Frag}
theorem kind_sub {a b : String} {v : Bool} (h : ((Value.type a == Value.type b) = true → v = true) ∧ ((Value.type a == Value.type b) = false → PySem.W.kitMeta b = true ∧ (fastBuiltinMro a).map (·.contains (Value.type b)) = some v)) : PySem.W.kitOne K (.type a) (.type b) = some v := by
  unfold PySem.W.kitOne
  by_cases e : (Value.type a == Value.type b) = true
  · rw [if_pos e, h.1 e]
  · rw [if_neg e]
    obtain ⟨h1, h2⟩ := h.2 (by simpa using e)
    unfold PySem.W.kitCls
    dsimp only
    rw [if_pos h1]
    exact h2
end
theorem b_len : bootBuiltins "len" = some (.builtin "len") := by decide +kernel
theorem b_abs : bootBuiltins "abs" = some (.builtin "abs") := by decide +kernel
theorem b_isinstance : bootBuiltins "isinstance" = some (.builtin "isinstance") := by decide +kernel
theorem b_int : bootBuiltins "int" = some (.type "int") := by decide +kernel
theorem b_bool : bootBuiltins "bool" = some (.type "bool") := by decide +kernel
theorem b_str : bootBuiltins "str" = some (.type "str") := by decide +kernel
theorem b_list : bootBuiltins "list" = some (.type "list") := by decide +kernel
theorem b_tuple : bootBuiltins "tuple" = some (.type "tuple") := by decide +kernel
theorem b_dict : bootBuiltins "dict" = some (.type "dict") := by decide +kernel
theorem pe_ty {X : Cx} {x : Str} {n : String} {pos : Pos} (hg : Gl X x) (hm : X.mg x = none) (hv : bootBuiltins x = some (.type n)) (hn : x ≠ "__name__" := by decide) (hd : (x == ("__debug__" : Str)) = false := by decide) : PE X (.Name x pos) (tC (.ty n)) := pe_bltn (v := .ty n) hg hm hv rfl hn hd
def CMod (_ j : Int) : Prop := j ≠ 0
theorem nz {i j : Int} (h : j ≠ 0) : CMod i j := h
theorem op_modB {X : Cx} : OpR X (binaryOp .Mod) (rI CMod fun i j => .int (i.fmod j)) := op_modN
theorem dep_num {a b : V} : deps [.v a, .v b] ≤ 60 := by simp [deps, dep]
end Ty

set_option maxHeartbeats 4000000
namespace TyAtt
open PySem PySem.W PySem.Calls PyProof.Rows
open Builtin.Int (intBits)
theorem bits_item {ns : List Int} {n : Int} (h : (WData.list (ns.map WData.int)).layable = true) (hn : n ∈ ns) : intBits n ≤ 1048576 := by
  obtain ⟨_, _, hw⟩ := layableW_iff.mp h
  have a : ∀ (l : List Int), n ∈ l → intBits n ≤ WData.weightAll (l.map WData.int) := by
    intro l
    induction l with
    | nil => intro q; cases q
    | cons y r ih =>
      intro q
      rw [List.map_cons]
      unfold WData.weightAll
      rcases List.mem_cons.mp q with z | z
      · subst z
        have : intBits n ≤ WData.weight (.int n) := by
          unfold WData.weight
          exact Nat.le_refl _
        omega
      · have := ih z
        omega
  have b := a ns hn
  unfold WData.weight at hw
  omega
theorem attach_bits {l : OpenLaw} {n : Nat} {q : Program} {loose : List Str} {XP : (Str → Option Value) → Heap → Prop} {YP : World → Heap → Prop} {d : DefRec}
    (hn : l.most = some n) (hdf : d.params.defaults = [])
    (call : ∀ (w : World) (s₀ s₁ : Shared) (mg mb : Str → Option Value) (fa : Addr) (o : Obj) (pm cd doc : Value) (a : Addr) (vs : List Value) (ns : List Int),
      Ground q loose [] XP w s₀ mg mb s₁.heap → YP w s₁.heap →
      s₁.heap.get? fa = some o → o.data = .func (docDef d.name d.params d.body d.scope pm cd doc) → s₁.heap.CodeRec cd d.name → mg d.name = some (.ref fa) →
      s₁.heap.get? a = some { cls := .type "list", data := .seq vs.toArray } → IntsAre vs ns → ns.length ≤ n → (∀ i ∈ ns, intBits i ≤ 1048576) → s₁.gens = #[] →
      codeAny (model l.prog w) callerA (.call (.ref fa) ⟨[.ref a], []⟩) (fun r s' => r = .ok (.ret (.bool true)) ∧ OldK s₁.heap s'.heap ∧ s'.os = s₁.os ∧ AllBare s'.gens) s₁) :
    WalkO q loose XP YP l.row.toRowW d [] (fun f vs => PySem.call f vs) := by
  intro w s₀ s₁ mg mb G Y fa o pm cd doc dV kV ho hd hcd hD hmg hg args vals as hpre hlay hrd hwl hlo
  obtain rfl : dV = .none := Dflts.none hD hdf
  obtain rfl : kV = .none := Dflts.noKw hD
  obtain ⟨a, vs, ns, rfl, rfl, hobj, hints, hlen⟩ := Att.script_of hn hpre hwl
  have hb : ∀ i ∈ ns, intBits i ≤ 1048576 := fun i hi => bits_item (layW_cons hlay).1 hi
  refine enter_call (codeAny_mono (call w s₀ s₁ mg mb fa o pm cd doc a vs ns G Y ho (fd_plain hd) hcd hmg hobj hints hlen hb hg) fun r s' hq => ?_)
  obtain ⟨rfl, h2, h3, h4⟩ := hq
  exact ⟨.inl ⟨.bool true, .bool true, [], rfl, fun _ => rfl, .bool true, Att.post_true l _, fun _ => ⟨List.Pairwise.nil, fun _ hm => (nomatch hm)⟩⟩, h2, h3, h4⟩
end TyAtt
namespace Ty
open PySem PySem.Spec PyProof.Rows L2
open Builtin.Int (intBits)
structure Fn (P : Program) (w : World) (K : PySem.W.Frag) (mg : Str → Option Value) (base : Heap) (CX : CXT) (k : Nat) (x : Str) (ps : List Str) (sp : Sp) : Prop where
  ex : ∃ (f : Addr) (fd : FuncData), FnOk P w K mg base CX k f fd ps sp ∧ Binds K fd ps [] ∧ mg x = some (.ref f) ∧ PySem.W.keepIn K (.ref f) = true
structure Def (K : PySem.W.Frag) (mg : Str → Option Value) (x : Str) (st : Stmt) (ps : List Str) : Prop where
  ex : ∃ (f : Addr) (dV oc : Value) (od : Option Addr) (kV doc pm : Value) (an : Option Addr) (cdv ct : Value) (osl : Array (Option Value)),
    K.lookup f = some ⟨oc, od, .func (PySem.W.fnOf x x (defArgs st) (defBody st) (defScope st) dV kV doc pm an cdv ct), osl⟩ ∧ PySem.W.codeIn K cdv x = true ∧ PySem.W.keepIn K (.ref f) = true ∧
    Binds K (PySem.W.fnOf x x (defArgs st) (defBody st) (defScope st) dV kV doc pm an cdv ct) ps [] ∧ mg x = some (.ref f)
theorem Def.of {K : PySem.W.Frag} {mg : Str → Option Value} {x : Str} {st : Stmt} {ps : List Str} {f : Addr} {fd : FuncData} (F : Fun K x x st f fd) (b : Binds K fd ps []) (m : mg x = some (.ref f)) : Def K mg x st ps := by
  obtain ⟨oc, od, kV, doc, pm, an, cdv, ct, osl, rfl, lk, hcd⟩ := F.ex
  exact ⟨f, .none, oc, od, kV, doc, pm, an, cdv, ct, osl, lk, hcd, F.kp, b, m⟩
structure DefD (K : PySem.W.Frag) (mg : Str → Option Value) (x : Str) (st : Stmt) (ps : List Str) (ds : List Value) : Prop where
  ex : ∃ (f : Addr) (dV oc : Value) (od : Option Addr) (kV doc pm : Value) (an : Option Addr) (cdv ct : Value) (osl : Array (Option Value)),
    K.lookup f = some ⟨oc, od, .func (PySem.W.fnOf x x (defArgs st) (defBody st) (defScope st) dV kV doc pm an cdv ct), osl⟩ ∧ PySem.W.codeIn K cdv x = true ∧ PySem.W.keepIn K (.ref f) = true ∧
    Binds K (PySem.W.fnOf x x (defArgs st) (defBody st) (defScope st) dV kV doc pm an cdv ct) ps [] ∧ Binds K (PySem.W.fnOf x x (defArgs st) (defBody st) (defScope st) dV kV doc pm an cdv ct) ps ds ∧ mg x = some (.ref f)
section
variable {P : Program} {w : World} {K : PySem.W.Frag} {mg : Str → Option Value} {base : Heap} {CX : CXT}
theorem Fn.mono {j k : Nat} {x : Str} {ps : List Str} {sp : Sp} (F : Fn P w K mg base CX j x ps sp) (h : j ≤ k) : Fn P w K mg base CX k x ps sp := by
  obtain ⟨f, fd, a, b⟩ := F.ex
  exact ⟨f, fd, a.mono h, b⟩
theorem Def.ok {x : Str} {st : Stmt} {N ps : List Str} {k : Nat} {sp : Sp} (D : Def K mg x st ps) (S : FnScope N ps (defScope st)) (len : ∀ vs H Q E, sp vs H Q E → vs.length = ps.length)
    (hbody : ∀ (f : Addr) (cdv : Value) (A : Around) (outer : List Env) (s : Shared) (H : Hp) (vs : List V) (Q : VK) (E : XK), Room k (A.deeper (envOfC x (defScope st) s.heap.objs.size f cdv)) → sp vs H Q E →
      ∃ t, PSs (cxOf CX P w K mg base N x (defScope st) f cdv A outer s H E).nox (defBody st) t ∧ t { nx := fun _ H' => Q .non H', rt := Q } (start N vs) H) : Fn P w K mg base CX (k + 1) x ps sp := by
  obtain ⟨f, dV, oc, od, kV, doc, pm, an, cdv, ct, osl, lk, hcd, kp, b, m⟩ := D.ex
  refine ⟨f, _, fn_of lk hcd S len fun A outer s H vs Q E hr hsp => ?_, b, m, kp⟩
  obtain ⟨t, h, q⟩ := hbody f cdv A outer s H vs Q E hr hsp
  exact ⟨t, h.nox, q⟩
theorem _root_.L2.Fun.okG {x : Str} {st : Stmt} {f : Addr} {fd : FuncData} {N ps : List Str} {k : Nat} {sp : Sp} (F : Fun K x x st f fd) (S : FnScope N ps (defScope st)) (len : ∀ vs H Q E, sp vs H Q E → vs.length = ps.length)
    (hbody : ∀ (cdv : Value) (A : Around) (outer : List Env) (s : Shared) (H : Hp) (vs : List V) (Q : VK) (E : XK), Room k (A.deeper (envOfC x (defScope st) s.heap.objs.size f cdv)) → sp vs H Q E →
      ∃ t, PSs (cxOf CX P w K mg base N x (defScope st) f cdv A outer s H E).nox (defBody st) t ∧ t { nx := fun _ H' => Q .non H', rt := Q } (start N vs) H) : FnOk P w K mg base CX (k + 1) f fd ps sp := by
  obtain ⟨oc, od, kV, doc, pm, an, cdv, ct, osl, rfl, lk, hcd⟩ := F.ex
  refine fn_of lk hcd S len fun A outer s H vs Q E hr hsp => ?_
  obtain ⟨t, h, q⟩ := hbody cdv A outer s H vs Q E hr hsp
  exact ⟨t, h.nox, q⟩
def Mute (CX : CXT) : Prop := ∀ outer H s e s', CX outer H s E0 e s' → False
theorem passM {X : Cx} (h : Mute CX) : Passes CX X.nox E0 := fun _ _ _ _ _ _ _ q => (h _ _ _ _ _ q).elim
section
variable {X : Cx} {k : Nat} {ps : List Str} {sp : Sp} {E : XK} {x : Str} {p pos : Pos} {e : Expr} {es : List Expr} {t : TA}
theorem pe_fn (F : Fn X.prog X.w X.K X.mg X.base CX k x ps sp) (hr : Room k X.A) (hx : Passes CX X E) (ha : PA X (e :: es) t) (hg : Gl X x := by rfl) (hdb : (x == ("__debug__" : Str)) = false := by decide)
    (he : starEach (e :: es) X.env = (false, eval e X.env) :: starEach es X.env := by rfl) (hpl : (backTo pos (starEach es X.env)).any (·.1) = false := by rfl) : PE X (.Call (.Name x p) (e :: es) [] pos) (tCall sp [] E t) := by
  obtain ⟨f, fd, G, b, m, kp⟩ := F.ex
  exact pe_call G hr hg m kp b .nil hx ha hdb he hpl
structure FnD (P : Program) (w : World) (K : PySem.W.Frag) (mg : Str → Option Value) (base : Heap) (CX : CXT) (k : Nat) (x : Str) (ps : List Str) (ds : List Value) (sp : Sp) : Prop where
  ex : ∃ (f : Addr) (fd : FuncData), FnOk P w K mg base CX k f fd ps sp ∧ Binds K fd ps ds ∧ mg x = some (.ref f) ∧ PySem.W.keepIn K (.ref f) = true
end
end
def spLaw (K : PySem.W.Frag) : Sp := fun vs H Q _ => ∃ (a : Addr) (ns : List Int), vs = [.ref a] ∧ SqL K H a (ns.map V.int) ∧ ns.length ≤ 63 ∧ (∀ i ∈ ns, intBits i ≤ 1048576) ∧ ∀ H', Q (.bl true) H'
theorem walk {l : PySem.W.OpenLaw} {q : Program} {loose : List Str} {XP : (Str → Option Value) → Heap → Prop} {YP : World → Heap → Prop} {d : DefRec} {K : Params → PySem.W.Frag} {CX : World → CXT} {x : Str} {k : Nat}
    (hn : l.most = some 63) (hdf : d.params.defaults = []) (hi : importsNone q = true) (hr : Room k callerA)
    (hY : ∀ (w : World) (h : Heap), YP w h → (K w.params).In h) (hm : ∀ w, Mute (CX w))
    (F : ∀ (w : World) (mg : Str → Option Value) (fa : Addr) (h : Heap), (K w.params).In h → h.Ns mainGlobals mg → mg d.name = some (.ref fa) →
      ∃ fd : FuncData, (∀ (s : Shared) (u : Value), BindsTo s fd ⟨[u], []⟩ [(x, u)]) ∧
        ∀ base : Heap, (K w.params).In base → base.Ns mainGlobals mg → FnOk l.prog w (K w.params) mg base (CX w) k fa fd [x] (spLaw (K w.params))) :
    PySem.W.WalkO q loose XP YP l.row.toRowW d [] (fun f vs => PySem.call f vs) := by
  refine TyAtt.attach_bits hn hdf fun w s₀ s₁ mg mb fa o pm cd doc a vs ns G Y ho hd hcd hmg hobj hints hlen hb hg => ?_
  have KX := hY w _ Y
  obtain ⟨fd, hbd, hF⟩ := F w mg fa _ KX G.T.g hmg
  exact law_call KX G.T.g G.T.b G.T.builtins G.T.nolimit (G.T.seer hi) hg hobj hints (Nat.le_trans hlen (by decide)) hr hF hbd (fun H hO hS => ⟨a, ns, rfl, hS, hlen, hb, fun _ => rfl⟩) fun H e s' => hm w [] H s₁ e s'
end Ty

set_option maxHeartbeats 4000000
namespace Ty
open PySem PySem.Spec PyProof.Rows L2
def DictAt (h : Heap) (a : Addr) (dx : Option Addr) : Prop := ∃ o, h.get? a = some o ∧ o.dict = dx
def CXr (P : Program) (w : World) : CXT := fun outer H s E e s' => ∃ (a : Addr) (cls a0 : Value) (dx : Option Addr) (H' : Hp) (B : Heap),
  e = .ref a ∧ Heap.FlyingW B outer a cls a0 s'.heap ∧ DictAt s'.heap a dx ∧ Un (frs outer) [] H H' s.heap s'.heap ∧ HOk P w H' s'.heap ∧ s'.os = s.os ∧ AllBare s'.gens ∧
  (∀ b o, s.heap.get? b = some o → b ∉ frs outer → ∃ o', B.get? b = some o') ∧ (∀ b u, H' b = some u → ∃ o, B.get? b = some o) ∧ E cls dx H'
theorem CXr.mute {P : Program} {w : World} : Mute (CXr P w) := fun _ _ _ _ _ ⟨_, _, _, _, _, _, _, _, _, _, _, _, _, _, _, z⟩ => z
section
variable {P : Program} {w : World} {K : PySem.W.Frag} {mg : Str → Option Value} {base : Heap} {N : List Str} {qual : Str} {scope : Scope} {f : Addr} {cdv : Value} {A : Around} {outer : List Env} {s0 : Shared} {H0 : Hp} {E : XK}
abbrev cxr (P : Program) (w : World) (K : PySem.W.Frag) (mg : Str → Option Value) (base : Heap) (N : List Str) (qual : Str) (scope : Scope) (f : Addr) (cdv : Value) (A : Around) (outer : List Env) (s0 : Shared) (H0 : Hp) (E : XK) : Cx := cxOf (CXr P w) P w K mg base N qual scope f cdv A outer s0 H0 E
def tRaise (C : Addr) (E : XK) (ta : TA) : TS := fun _ σ H => ta σ H fun vs H1 => vs.length ≤ sizeLine ∧ E (.ref C) none H1
end
end Ty

set_option maxHeartbeats 4000000
namespace Ty
open PySem PySem.Spec PyProof.Rows L2
section
variable {X : Cx} {pins : List (Addr × Obj)} {σ : L2.St} {H H' : Hp} {s : Shared}
abbrev hnd (X : Cx) (a : Addr) : Cx := { X with A := X.A.mark (some (.ref a)), calm := false, xe := fun _ _ => False }
def excO (cls : Value) (a : Addr) (dx : Option Addr) : HO := .ext fun h => ∃ o vs, h.get? a = some o ∧ o.cls = cls ∧ o.data = .fields vs ∧ o.dict = dx
structure Ld (X : Cx) (pins : List (Addr × Obj)) (σ : L2.St) (H : Hp) (a : Addr) (cls : Value) (dx : Option Addr) (s : Shared) : Prop where
  ex : ∃ (H0 : Hp) (s0 : Shared) (a0 : Value) (B : Heap), Inv X pins σ H0 s0 ∧ Heap.FlyingW B X.stack a cls a0 s.heap ∧ DictAt s.heap a dx ∧ Un (frs X.stack) [] H0 H s0.heap s.heap ∧ HOk X.prog X.w H s.heap ∧ s.os = s0.os ∧ AllBare s.gens ∧
    (∀ b o, s0.heap.get? b = some o → b ∉ frs X.stack → ∃ o', B.get? b = some o') ∧ (∀ b u, H b = some u → ∃ o, B.get? b = some o)
theorem Ld.inv {a : Addr} {cls : Value} {dx : Option Addr} (L : Ld X pins σ H a cls dx s) : Inv X pins σ H s := by
  obtain ⟨H0, s0, a0, B, I, fl, da, un, ok, os, bare, th, tr⟩ := L.ex
  exact I.call' (ch := []) os un ok bare fun b z => absurd z (by simp)
theorem Ld.free {a : Addr} {cls : Value} {dx : Option Addr} (L : Ld X pins σ H a cls dx s) : H a = none := by
  obtain ⟨H0, s0, a0, B, I, fl, da, un, ok, os, bare, th, tr⟩ := L.ex
  cases q : H a with
  | none => rfl
  | some u =>
    obtain ⟨o, e⟩ := tr a u q
    rw [fl.2.1] at e
    cases e
abbrev TH := Value → Option Addr → Ends → L2.St → Hp → Prop
def PH (X : Cx) (hs : List ExceptHandler) (t : TH) : Prop :=
  ∀ (pins : List (Addr × Obj)) (s : Shared) (σ : L2.St) (H : Hp) (a : Addr) (cls : Value) (dx : Option Addr) (D : Ends), Ld X pins σ H a cls dx s → t cls dx D σ H → wpAny (model X.prog X.w) X.A (handleBy (.ref a) X.env hs) (SP X pins D) X.xe s
structure ClsN (X : Cx) (c : Str) (cv : Value) : Prop where
  ld : ∀ (a : Addr) (pins : List (Addr × Obj)) (s : Shared) (σ : L2.St) (H : Hp) (np : Pos) (Q : Value → Shared → Prop) (E : Value → Shared → Prop), Inv (hnd X a) pins σ H s → Q cv s → wpAny (model X.prog X.w) (X.A.mark (some (.ref a))) (eval (.Name c np) X.env) Q E s
theorem ClsN.own {c : Str} {C : Addr} (hm : X.mg c = some (.ref C)) (hg : Gl X c := by rfl) (hd : (c == ("__debug__" : Str)) = false := by decide) : ClsN X c (.ref C) :=
  ⟨fun a pins s σ H np Q E I h => ld_glob (X := hnd X a) I hg hm h hd⟩
def tAs (i : Nat) (cv : Value) (K : PySem.W.Frag) (ts : TS) (tr : TH) : TH := fun cls dx D σ H => ∃ b, PySem.W.exmOne K cls cv = some b ∧
  if b = true then ∀ a, H a = none → ts { nx := fun σ2 H2 => D.nx (σ2.set i none) H2, rt := D.rt, bk := fun σ2 H2 => D.bk (σ2.set i none) H2, ct := fun σ2 H2 => D.ct (σ2.set i none) H2 } (σ.set i (some (.ref a))) (upd H a (excO cls a dx)) else tr cls dx D σ H
def XP (X : Cx) (pins : List (Addr × Obj)) (σ : L2.St) (E : XK) (e : Value) (s' : Shared) : Prop := ∃ H s, Inv X pins σ H s ∧ CXr X.prog X.w X.stack H s E e s'
abbrev TEx := L2.St → Hp → VK → XK → Prop
abbrev TSx := Ends → (L2.St → XK) → L2.St → Hp → Prop
def PEx (X : Cx) (e : Expr) (t : TEx) : Prop :=
  ∀ (pins : List (Addr × Obj)) (s : Shared) (σ : L2.St) (H : Hp) (Q : VK) (E : XK), Inv X pins σ H s → t σ H Q E → wpAny (model X.prog X.w) X.A (eval e X.env) (EP X pins σ Q) (XP X pins σ E) s
def PSx (X : Cx) (st : Stmt) (t : TSx) : Prop :=
  ∀ (pins : List (Addr × Obj)) (s : Shared) (σ : L2.St) (H : Hp) (D : Ends) (E : L2.St → XK), Inv X pins σ H s → t D E σ H → wpAny (model X.prog X.w) X.A (exec st X.env) (SP X pins D) (fun e s' => ∃ σ', XP X pins σ' (E σ') e s') s
end
end Ty

set_option maxHeartbeats 4000000
namespace TyExc
open PySem PySem.W PySem.Calls PyProof.Rows Builtin Builtin.ObjectAttr Builtin.Getset_descriptor
structure ExcK (K : Frag) (C : Addr) : Prop where
  ga : findIn K (.ref C) "__getattribute__" = some (some (.builtin "BaseException.__getattribute__"))
  gt : findIn K (.ref C) "__getattr__" = some none
  cl : findIn K (.ref C) "__class__" = some (some (.builtin "object.__class__"))
  mo : mroIn K C (.type "object") = some true
  mb : mroIn K C (.type "BaseException") = some true
  is : (clsIn K C).isSome = true
section
variable {prog : Program} {w : World} {A : Around} {E : Value → Shared → Prop} {K : Frag} {h : Heap} {g : Array GenState} {d : Drawn} {t : Nat} {os : OsState} {a C : Addr} {o : Obj}
end
def ExcAt (a C : Addr) (h : Heap) : Prop := ∃ o vs, h.get? a = some o ∧ o.cls = .ref C ∧ o.data = .fields vs
end TyExc

set_option maxHeartbeats 4000000
namespace Ty
open PySem PySem.Spec PyProof.Rows L2
section
variable {X : Cx}
def rIsiX (K : PySem.W.Frag) : List V → Hp → VK → Prop := fun xs H Q => ∃ a C c b dx, xs = [.ref a, c] ∧ isCls c = true ∧ H a = some (excO (.ref C) a dx) ∧ TyExc.ExcK K C ∧ PySem.W.kitOne K (.ref C) (clsV c) = some b ∧ Q (.bl b) H
def rCount (K : PySem.W.Frag) : V → List V → Hp → VK → Prop := fun x vs H Q => ∃ l xs y, x = .ref l ∧ vs = [y] ∧ SqL K H l xs ∧ flatV y = true ∧ xs.all flatV = true ∧ Q (.int (xs.countP (fun z => eqV z y) : Nat)) H
end
structure RoomH (k : Nat) (A : Around) : Prop where
  dp : A.depth + 3 * k + 5 < recursionLimit
  un : A.units + 16 * k + 200 < cLine
theorem RoomH.of {k : Nat} {A : Around} (r : Room k A) : RoomH k A := ⟨r.dp, r.un⟩
theorem RoomH.mono {j k : Nat} {A : Around} (r : RoomH k A) (h : j ≤ k) : RoomH j A := ⟨by have := r.dp; omega, by have := r.un; omega⟩
theorem RoomH.deeper {k : Nat} {A : Around} (r : RoomH (k + 1) A) (env : Env) : RoomH k (A.deeper env) :=
  ⟨by have := r.dp; show A.depth + 1 + 3 * k + 5 < _; omega, by have := r.un; show A.units + 3 + 16 * k + 200 < _; omega⟩
theorem RoomH.mark {k : Nat} {A : Around} (r : Room k A) (e : Option Value) : RoomH k (A.mark e) := ⟨r.dp, r.un⟩
theorem RoomH.units {k : Nat} {A : Around} (r : RoomH k A) : A.units + 64 < cLine := by have := r.un; omega
structure FnOkH (P : Program) (w : World) (K : PySem.W.Frag) (mg : Str → Option Value) (base : Heap) (k : Nat) (f : Addr) (fd : FuncData) (ps : List Str) (sp : Sp) : Prop where
  len : ∀ vs H Q E, sp vs H Q E → vs.length = ps.length
  run : ∀ (A : Around) (outer : List Env) (s : Shared) (H : Hp) (args : Args) (us : List Value) (vs : List V) (Q : VK), RoomH k A → Env0 P w K mg base A outer s H → BindsTo s fd args (ps.zip us) → Vals vs us → sp vs H Q E0 →
    codeAny (model P w) A (.call (.ref f) args) (CR CX0 outer P w H s Q E0) s
def cxh (P : Program) (w : World) (K : PySem.W.Frag) (mg : Str → Option Value) (base : Heap) (N : List Str) (qual : Str) (scope : Scope) (f : Addr) (cdv : Value) (A : Around) (outer : List Env) (s : Shared) (H : Hp) : Cx :=
  { cxOf CX0 P w K mg base N qual scope f cdv A outer s H E0 with calm := false, xe := fun _ _ => False }
structure FnH (P : Program) (w : World) (K : PySem.W.Frag) (mg : Str → Option Value) (base : Heap) (k : Nat) (x : Str) (ps : List Str) (sp : Sp) : Prop where
  ex : ∃ (f : Addr) (fd : FuncData), FnOkH P w K mg base k f fd ps sp ∧ Binds K fd ps [] ∧ mg x = some (.ref f) ∧ PySem.W.keepIn K (.ref f) = true
theorem Def.okX {P : Program} {w : World} {K : PySem.W.Frag} {mg : Str → Option Value} {base : Heap} {x : Str} {st : Stmt} {N ps : List Str} {k : Nat} {sp : Sp} (D : Def K mg x st ps) (S : FnScope N ps (defScope st)) (len : ∀ vs H Q E, sp vs H Q E → vs.length = ps.length)
    (hbody : ∀ (f : Addr) (cdv : Value) (A : Around) (outer : List Env) (s : Shared) (H : Hp) (vs : List V) (Q : VK) (E : XK), Room k (A.deeper (envOfC x (defScope st) s.heap.objs.size f cdv)) → sp vs H Q E →
      ∃ t, PSs (cxr P w K mg base N x (defScope st) f cdv A outer s H E) (defBody st) t ∧ t { nx := fun _ H' => Q .non H', rt := Q } (start N vs) H) : Fn P w K mg base (CXr P w) (k + 1) x ps sp := by
  obtain ⟨f, dV, oc, od, kV, doc, pm, an, cdv, ct, osl, lk, hcd, kp, b, m⟩ := D.ex
  exact ⟨f, _, fn_of lk hcd S len fun A outer s H vs Q E hr hsp => hbody f cdv A outer s H vs Q E hr hsp, b, m, kp⟩
theorem DefD.okX {P : Program} {w : World} {K : PySem.W.Frag} {mg : Str → Option Value} {base : Heap} {x : Str} {st : Stmt} {N ps : List Str} {ds : List Value} {k : Nat} {sp : Sp} (D : DefD K mg x st ps ds) (S : FnScope N ps (defScope st)) (len : ∀ vs H Q E, sp vs H Q E → vs.length = ps.length)
    (hbody : ∀ (f : Addr) (cdv : Value) (A : Around) (outer : List Env) (s : Shared) (H : Hp) (vs : List V) (Q : VK) (E : XK), Room k (A.deeper (envOfC x (defScope st) s.heap.objs.size f cdv)) → sp vs H Q E →
      ∃ t, PSs (cxr P w K mg base N x (defScope st) f cdv A outer s H E) (defBody st) t ∧ t { nx := fun _ H' => Q .non H', rt := Q } (start N vs) H) : Fn P w K mg base (CXr P w) (k + 1) x ps sp ∧ FnD P w K mg base (CXr P w) (k + 1) x ps ds sp := by
  obtain ⟨f, dV, oc, od, kV, doc, pm, an, cdv, ct, osl, lk, hcd, kp, b, b2, m⟩ := D.ex
  have F := fn_of (CX := CXr P w) (P := P) (w := w) (mg := mg) (base := base) lk hcd S len fun A outer s H vs Q E hr hsp => hbody f cdv A outer s H vs Q E hr hsp
  exact ⟨⟨f, _, F, b, m, kp⟩, ⟨f, _, F, b2, m, kp⟩⟩
abbrev bmVE : List Value := [.type "ValueError", .type "Exception", .type "BaseException", .type "object"]
end Ty

set_option maxHeartbeats 4000000
namespace Ty
open PySem PySem.Spec PyProof.Rows L2
section
variable {prog : Program} {w : World} {A : Around} {R : Result → Shared → Prop} {s : Shared}
theorem compLoop_any {elt target iter : Expr} {ifs : List Expr} {scope : Scope} {pos : Pos} {it acc : Value} {env : Env} (I : Nat → Shared → Prop)
    (turn : ∀ n s, I n s → wpAny (model prog w) A (pyNext it) (fun r s₁ => match r with
      | none => R (.ok .next) s₁
      | some v => wpAny (model prog w) A (letOwnedTupleGo target it v) (fun _ s₁' => wpAny (model prog w) A (assign target env v) (fun _ s₂ =>
          wpAny (model prog w) A (forIn ifs true fun c r => if r = true then do let ok ← isTrue c env (eval c env); pure (ForInStep.yield ok) else pure (ForInStep.yield r)) (fun ok s₃ =>
            if ok = true then wpAny (model prog w) A (eval elt env) (fun x s₄ =>
              wpAny (model prog w) A (call (.builtin "list.append") [acc, x]) (fun _ s₅ => ∃ m, m < n ∧ I m s₅) (fun _ _ => False) s₄) (fun _ _ => False) s₃
            else ∃ m, m < n ∧ I m s₃) (fun _ _ => False) s₂) (fun _ _ => False) s₁') (fun _ _ => False) s₁) (fun _ _ => False) s)
    (n : Nat) (h : I n s) :
    codeAny (model prog w) A (.compLoop (.ListComp elt [⟨target, iter, ifs, 0⟩] scope pos) 0 it acc env) R s := by
  refine codeAny_loop rfl I (fun n s hI => ?_) n h
  show wpAny _ A ((compTurn (.ListComp elt [⟨target, iter, ifs, 0⟩] scope pos) 0 it acc env).onRaise (fun x => do noteFrame x env; theTreesLotGoes x)) _ _ s
  refine wpAny_noted ?_
  rw [compTurn_list]
  refine wpAny_bind (wpAny_standAt (wpAny_bind (wpAny_mono (turn n s hI) (fun r s₁ h₁ => ?_) fun _ _ h' => h'.elim)))
  cases r with
  | none => exact wpAny_pure h₁
  | some v =>
    refine wpAny_bind (wpAny_mono h₁ (fun _ s₁' h₁' => ?_) fun _ _ h' => h'.elim)
    refine wpAny_bind (wpAny_mono h₁' (fun _ s₂ h₂ => wpAny_bind (wpAny_mono h₂ (fun ok s₃ h₃ => ?_) fun _ _ h' => h'.elim)) fun _ _ h' => h'.elim)
    cases ok with
    | false => exact wpAny_pure ⟨rfl, h₃⟩
    | true =>
      exact wpAny_bind (wpAny_bind (wpAny_mono h₃ (fun x s₄ h₄ => wpAny_bind (wpAny_mono h₄ (fun _ s₅ h₅ => wpAny_pure (wpAny_pure ⟨rfl, h₅⟩)) fun _ _ h' => h'.elim)) fun _ _ h' => h'.elim))
end
def capCl (env : Env) (fr : List Str) : List (Str × Addr) := fr.filterMap fun n => (env.cells.lookup n).map fun c => (n, c)
theorem lookup_mem {α : Type} {x : Str} {c : α} : ∀ {l : List (Str × α)}, l.lookup x = some c → (x, c) ∈ l
  | [], h => by simp at h
  | (y, d) :: r, h => by
    rw [List.lookup_cons] at h
    cases e : x == y with
    | true =>
      rw [e] at h
      have e1 : x = y := by simpa using e
      cases h
      rw [e1]
      exact List.mem_cons_self
    | false =>
      rw [e] at h
      exact List.mem_cons_of_mem _ (lookup_mem h)
theorem capCl_mem {env : Env} {fr : List Str} {x : Str} {c : Addr} (h : (x, c) ∈ capCl env fr) : env.cells.lookup x = some c := by
  obtain ⟨n, _, e⟩ := List.mem_filterMap.mp h
  cases q : env.cells.lookup n with
  | none => rw [q] at e; cases e
  | some d =>
    rw [q] at e
    have e' : (n, d) = (x, c) := Option.some.inj e
    cases e'
    exact q
theorem capCl_get {env : Env} {fr : List Str} {x : Str} {c : Addr} (h : (capCl env fr).lookup x = some c) : env.cells.lookup x = some c := capCl_mem (lookup_mem h)
theorem capCl_has {env : Env} {x : Str} {c : Addr} (q : env.cells.lookup x = some c) : ∀ {fr : List Str}, x ∈ fr → (capCl env fr).lookup x = some c
  | [], h => nomatch h
  | y :: r, h => by
    unfold capCl
    rw [List.filterMap_cons]
    by_cases e : x = y
    · subst e
      rw [q]
      simp
    · have hr : x ∈ r := by
        rcases List.mem_cons.mp h with z | z
        · exact absurd z e
        · exact z
      have ih := capCl_has q hr
      cases z : env.cells.lookup y with
      | none => exact ih
      | some d =>
        show List.lookup x ((y, d) :: _) = _
        rw [List.lookup_cons]
        have ne : (x == y) = false := by simpa using e
        rw [ne]
        exact ih
def AllCap (env : Env) : List Str → Prop
  | [] => True
  | y :: r => (env.kindOf y = some .cell ∨ env.kindOf y = some .free) ∧ AllCap env r
theorem AllCap.at {env : Env} {x : Str} : ∀ {fr : List Str}, AllCap env fr → x ∈ fr → env.kindOf x = some .cell ∨ env.kindOf x = some .free
  | [], _, h => nomatch h
  | y :: r, a, h => by
    rcases List.mem_cons.mp h with z | z
    · rw [z]
      exact a.1
    · exact AllCap.at a.2 z
section
variable {X : Cx}
def cxB (X : Cx) (NB : List Str) (scope : Scope) (cl : List (Str × Addr)) (C : Addr) (s : Shared) (H : Hp) (fp : List Addr) : Cx :=
  { prog := X.prog, w := X.w, K := X.K, mg := X.mg, base := X.base, A := X.A, N := NB, s₀ := s, H₀ := H, env := compEnvC scope cl C X.env, outer := X.stack, stack := X.stack, ex := fp, fn := fun _ => false, calm := X.calm, pn := [], xe := fun _ _ => False }
structure BlkS (X : Cx) (scope : Scope) (fr : List Str) (caps : List Nat) : Prop where
  clos : closureFor scope X.env = pure (capCl X.env fr)
  cell : ∀ y ∈ scope.names, y.2 ≠ .cell
  kind : scope.kind = .function
  names : ∀ y ∈ scope.names, y.2 = .local → scope.names.lookup y.1 = some .local
  free : ∀ y ∈ scope.names, y.2 = .free → y.1 ∈ fr
  caps : caps.map (fun i => X.N[i]?) = fr.map some
  out : AllCap X.env fr
  inn : AllCap (compEnvC scope [] 0 X.env) fr
def PF (X : Cx) (ifs : List Expr) (t : TT) : Prop :=
  ∀ (pins : List (Addr × Obj)) (s : Shared) (σ : L2.St) (H : Hp) (Q : Bool → Hp → Prop), Inv X pins σ H s → t σ H Q →
    wpAny (model X.prog X.w) X.A (forIn ifs true fun c r => if r = true then do let ok ← isTrue c X.env (eval c X.env); pure (ForInStep.yield ok) else pure (ForInStep.yield r)) (TP X pins σ Q) X.xe s
def tYes : TT := fun _ H Q => Q true H
theorem pf_nil : PF X [] tYes := fun _ _ _ H _ I h => wpAny_tests_nil ⟨H, I, h⟩
def sB (k : Nat) (caps : List Nat) (σ : L2.St) : L2.St := List.replicate k none ++ caps.map fun i => (σ[i]?).getD none
def tBlk (D : Addr) (g : TG) (tt : TT) (te : TE) (J : It) (σ0 : L2.St) (H1 : Hp) (Q : VK) : Prop := ∃ W : Nat → Nat → L2.St → List V → Hp → Prop,
  (∃ m, W 0 m σ0 [] (upd H1 D (.lst []))) ∧ ∀ i m σ2 ys H2, W i m σ2 ys H2 → (J.stop i H2 ∧ Q (.ref D) H2) ∨ (J.go i H2 ∧ ∀ x H3, J.yld i H2 x H3 → g x σ2 H3 fun σ4 H4 => tt σ4 H4 fun b H5 =>
    if b = true then te σ4 H5 fun v H6 => H6 D = some (.lst ys) ∧ ys.length < sizeLine ∧ ∃ m', m' < m ∧ W (i + 1) m' σ4 (ys ++ [v]) (upd H6 D (.lst (ys ++ [v]))) else ∃ m', m' < m ∧ W (i + 1) m' σ4 ys H5)
def tComp (k : Nat) (caps : List Nat) (wi : TI) (g : TG) (tt : TT) (te : TE) : TE := fun σ H Q => wi σ H fun J H1 => ∀ D, H1 D = none → tBlk D g tt te J (sB k caps σ) H1 Q
theorem sB_get {k : Nat} {caps : List Nat} {σ : L2.St} {i : Nat} {v : V} (h : (sB k caps σ)[i]? = some (some v)) : k ≤ i ∧ ∃ j, caps[i - k]? = some j ∧ σ[j]? = some (some v) := by
  unfold sB at h
  by_cases c : i < k
  · rw [List.getElem?_append_left (by simpa using c), List.getElem?_replicate, if_pos c] at h
    cases h
  · rw [List.getElem?_append_right (by simpa using Nat.le_of_not_lt c), List.length_replicate, List.getElem?_map] at h
    refine ⟨Nat.le_of_not_lt c, ?_⟩
    cases e : caps[i - k]? with
    | none => rw [e] at h; cases h
    | some j =>
      rw [e] at h
      refine ⟨j, rfl, ?_⟩
      have h' : (σ[j]?).getD none = some v := Option.some.inj h
      cases z : σ[j]? with
      | none => rw [z] at h'; cases h'
      | some o =>
        rw [z] at h'
        exact congrArg some h'
theorem comp_block {elt target iter : Expr} {ifs : List Expr} {scope : Scope} {pos : Pos} {tn fr : List Str} {caps : List Nat} {g : TG} {tt : TT} {te : TE} {pins : List (Addr × Obj)} {σ : L2.St} {H2 : Hp} {s2 : Shared} {J : It} {fp : List Addr} {it : Addr}
    {tnn : Nat → Heap → Prop} {Q : VK} {RR : Value → Addr → Result → Shared → Prop} {E : Value → Shared → Prop} (hc : X.calm = true) (B : BlkS X scope fr caps)
    (hg : ∀ C s H fp, PG (cxB X (tn ++ fr) scope (capCl X.env fr) C s H fp) target g) (ht : ∀ C s H fp, PF (cxB X (tn ++ fr) scope (capCl X.env fr) C s H fp) ifs tt) (he : ∀ C s H fp, PE (cxB X (tn ++ fr) scope (capCl X.env fr) C s H fp) elt te)
    (I2 : Inv X pins σ H2 s2) (T : Turn X.prog X.w X.K target J fp it tnn) (st2 : tnn 0 s2.heap) (f2 : ∀ b ∈ fp, FpOk X pins H2 b) (q : ∀ D, H2 D = none → tBlk D g tt te J (sB tn.length caps σ) H2 Q)
    (fin : ∀ D C H' s' m, Inv X pins σ H' s' → s'.heap.Ns C m → FpOk X pins H' C → Q (.ref D) H' → RR (.ref D) C (.ok .next) s') :
    wpAny (model X.prog X.w) X.A (newList []) (fun acc s₃ => wpAny (model X.prog X.w) X.A (newFunctionEnv scope X.env.globals (capCl X.env fr) [] X.env.qual none .none (some X.env)) (fun cenv s₄ =>
      codeAny (model X.prog X.w) X.A (.compStart (.ListComp elt [⟨target, iter, ifs, 0⟩] scope pos) 0 (.ref it) acc { cenv with scope := relabel scope X.env }) (RR acc cenv.locals) s₄) E s₃) E s2 := by
  refine wpAny_newObj_type (wpAny_newFunctionEnv B.cell (by intro y hy; simp at hy) (fun h₁ hns₁ hsb₁ => ?_) B.kind)
  have I3 : Inv X pins σ (upd H2 s2.heap.objs.size (.lst [])) { s2 with heap := s2.heap.push { cls := .type "list", data := .seq ([] : List Value).toArray } } := I2.lnew (t' := s2.toks) (its := []) .nil (Nat.zero_le _)
  obtain ⟨W, ⟨m0, w0⟩, turn⟩ := q s2.heap.objs.size (I2.hok.fresh (Nat.le_refl _))
  generalize hH3 : upd H2 s2.heap.objs.size (.lst []) = H3 at I3 w0
  have f3 : ∀ b ∈ fp, FpOk X pins H3 b := fun b hb => by
    obtain ⟨a0, a1⟩ := f2 b hb
    refine ⟨?_, a1⟩
    obtain ⟨o, e, _⟩ := T.obj _ _ st2 b hb
    rw [← hH3, upd_ne (Nat.ne_of_lt (Heap.lt_size e))]
    exact a0
  generalize hD : s2.heap.objs.size = D at *
  generalize hs3 : ({ s2 with heap := s2.heap.push { cls := .type "list", data := .seq ([] : List Value).toArray } } : Shared) = s3 at *
  have e3 : s3.heap = s2.heap.push { cls := .type "list", data := .seq ([] : List Value).toArray } := by rw [← hs3]
  have st3 : tnn 0 s3.heap := T.keep _ _ _ st2 fun b _ o e => by rw [e3]; exact Heap.get?_push_of_some _ e
  have kept : ∀ b o, s3.heap.get? b = some o → h₁.get? b = some o := fun b o e => (hsb₁.2 b (Nat.ne_of_lt (Heap.lt_size e))).trans (Heap.get?_push_of_some _ e)
  generalize hC : s3.heap.objs.size = C at *
  have hCs : s3.heap.objs.size ≤ C := Nat.le_of_eq hC
  have I4 : Inv X pins σ H3 { s3 with heap := h₁, toks := s3.toks + ([] : List (Str × Value)).length } := I3.kept kept
  have fpC : ∀ b ∈ fp, b ≠ C := fun b hb z => by
    obtain ⟨o, e, _⟩ := T.obj _ _ st3 b hb
    exact absurd z (Nat.ne_of_lt (Nat.lt_of_lt_of_le (Heap.lt_size e) hCs))
  have nst : ∀ b ∈ fp, b ∉ frs X.stack := fun b hb z => (List.mem_cons.mp (I3.stkSub b z)).elim (f3 b hb).2.1 (f3 b hb).2.2.1
  have okB : (cxB X (tn ++ fr) scope (capCl X.env fr) C s3 H3 fp).Ok := by
    refine ⟨I3.ok.mod, B.kind, I3.ok.glob, I3.ok.blt, hCs, fun x y c e1 e2 => I3.ok.inj x y c (capCl_get e1) (capCl_get e2), fun x hx => ?_, fun x c z => (nomatch z), I3.ok.hd, I3.ok.frames, .inl rfl,
      fun b hb => ⟨fpC b hb, fun x c e => (f3 b hb).2.2.2.2.1 x c (capCl_get e)⟩, I3.bs, Nat.le_trans I3.ok.bsz I3.sz, fun b o e hb => ?_, nst, I3.stack, I3.stkFree⟩
    · have hm : ∃ k, (x, k) ∈ scope.names ∧ k ≠ .local ∧ (k = .cell ∨ k = .free) := by
        have : ∃ k', (relabel scope X.env).names.lookup x = some k' ∧ (k' = .cell ∨ k' = .free) := by
          rcases hx with z | z
          · exact ⟨_, z, .inl rfl⟩
          · exact ⟨_, z, .inr rfl⟩
        obtain ⟨k', e', h'⟩ := this
        obtain ⟨⟨n, k⟩, hn, en⟩ := List.mem_map.mp (lookup_mem e')
        dsimp only at en
        by_cases cc : (k == NameKind.free && X.env.scope.kind == .function && X.env.kindOf n == some .cell) = true
        · rw [if_pos cc] at en
          cases en
          have kf : k = .free := by
            rw [Bool.and_eq_true, Bool.and_eq_true] at cc
            simpa using cc.1.1
          exact ⟨k, hn, (by intro z; rw [kf] at z; cases z), .inr kf⟩
        · rw [if_neg cc] at en
          cases en
          exact ⟨k', hn, fun z' => by rcases h' with y | y <;> (rw [y] at z'; cases z'), h'⟩
      obtain ⟨k, hk, _, h2⟩ := hm
      rcases h2 with z | z
      · exact absurd z (B.cell _ hk)
      · have hf := B.free _ hk z
        obtain ⟨c, ec⟩ := I3.ok.has x (B.out.at hf)
        exact ⟨c, capCl_has ec hf⟩
    · obtain ⟨_, _, _, h1, _⟩ := f3 b hb
      rcases h1 with z | z
      · exact I3.ok.noex b o e z
      · exact Nat.lt_irrefl _ (Nat.lt_of_lt_of_le (Nat.lt_of_lt_of_le (Heap.lt_size e) I3.ok.bsz) z)
  have IB : Inv (cxB X (tn ++ fr) scope (capCl X.env fr) C s3 H3 fp) [] (sB tn.length caps σ) H3 { s3 with heap := h₁, toks := s3.toks + ([] : List (Str × Value)).length } := by
    refine ⟨okB, rfl, I3.bare, Un.kept kept, ⟨_, hns₁, fun i x v e1 e2 _ => ?_⟩, fun x c e => I4.cell x c (capCl_get e), ?_, fun x c e => I3.freeC x c (capCl_get e), fun p hp => (nomatch hp), I3.hok.kept kept, ?_⟩
    · obtain ⟨hk, j, ej, es⟩ := sB_get e2
      have e1' : fr[i - tn.length]? = some x := by
        have z : (tn ++ fr)[i]? = some x := e1
        rw [List.getElem?_append_right hk] at z
        exact z
      have hx : x ∈ fr := List.mem_of_getElem? e1'
      have eN : X.N[j]? = some x := by
        have z := congrArg (fun l : List (Option Str) => l[i - tn.length]?) B.caps
        simp only [List.getElem?_map, ej, e1', Option.map_some] at z
        exact Option.some.inj z
      have ko := B.out.at hx
      obtain ⟨m, hn, hl⟩ := I4.loc
      obtain ⟨u, r, lk⟩ := hl j x v eN es (by rcases ko with z | z; exact .inr (.inl z); exact .inr (.inr z))
      refine ⟨u, r, ?_⟩
      rcases lk with ⟨k1, _⟩ | ⟨_, c, ec, ic⟩
      · rcases ko with z | z <;> (rw [z] at k1; cases k1)
      · exact .inr ⟨B.inn.at hx, c, capCl_has ec hx, ic⟩
    · exact I3.hok.fresh hCs
    · have := congrArg List.length B.caps
      simp only [List.length_map] at this
      show (sB tn.length caps σ).length = (tn ++ fr).length
      unfold sB
      simp [this]
  have statB : ∀ {H' : Hp}, (∀ b ∈ fp, H' b = none) → ∀ b ∈ fp, FpOk (cxB X (tn ++ fr) scope (capCl X.env fr) C s3 H3 fp) [] H' b := fun hn b hb =>
    ⟨hn b hb, fpC b hb, nst b hb, .inl hb, fun x c e => (f3 b hb).2.2.2.2.1 x c (capCl_get e), fun p hp => (nomatch hp)⟩
  have st4 : tnn 0 h₁ := T.keep _ _ _ st3 fun b _ o e => kept b o e
  have loop : codeAny (model X.prog X.w) X.A (.compLoop (.ListComp elt [⟨target, iter, ifs, 0⟩] scope pos) 0 (.ref it) (.ref D) (compEnvC scope (capCl X.env fr) C X.env)) (RR (.ref D) C) { s3 with heap := h₁, toks := s3.toks + ([] : List (Str × Value)).length } := by
    refine compLoop_any (fun n s' => ∃ i σ' ys H', Inv (cxB X (tn ++ fr) scope (capCl X.env fr) C s3 H3 fp) [] σ' H' s' ∧ tnn i s'.heap ∧ (∀ b ∈ fp, H' b = none) ∧ W i n σ' ys H') ?_ m0 ⟨0, _, [], H3, IB, st4, fun b hb => (f3 b hb).1, w0⟩
    rintro n s5 ⟨i, σ5, ys, H5, I5, st5, fr5, w5⟩
    rcases turn i n σ5 ys H5 w5 with ⟨stop, qn⟩ | ⟨go, step⟩
    · refine wpAny_mono (T.done (cxB X (tn ++ fr) scope (capCl X.env fr) C s3 H3 fp) rfl rfl rfl hc i [] s5 σ5 H5 (fun _ _ => False) I5 (statB fr5) st5 stop) (fun r s6 ⟨hr, I6⟩ => ?_) fun _ _ z => z
      subst hr
      obtain ⟨m, hn, _⟩ := I6.loc
      have J6 : Inv X pins σ H5 s6 := I3.call' (ch := fp) I6.os I6.base I6.hok I6.bare fun b hb => ⟨(f3 b hb).2.2.2.1, (f3 b hb).2.1, (f3 b hb).2.2.2.2.1, (f3 b hb).2.2.2.2.2⟩
      exact fin D C H5 s6 m J6 hn (I3.fpOk hCs I6.free) qn
    · refine wpAny_mono (T.item (cxB X (tn ++ fr) scope (capCl X.env fr) C s3 H3 fp) rfl rfl rfl hc i [] s5 σ5 H5 (fun _ _ => False) I5 (statB fr5) st5 go) (fun r s6 ⟨u, hr, h6⟩ => ?_) fun _ _ z => z
      subst hr
      refine wpAny_mono h6 (fun _ s7 ⟨x, H7, I7, r7, y7, st7, fr7⟩ => ?_) fun _ _ z => z
      have I7' := I7.pinned (statB fr7) (T.obj _ _ st7)
      have held : ∀ {σ' : L2.St} {H' : Hp} {s' : Shared}, Inv (cxB X (tn ++ fr) scope (capCl X.env fr) C s3 H3 fp) ([] ++ pinsAt fp s7.heap) σ' H' s' → tnn (i + 1) s'.heap ∧ ∀ b ∈ fp, H' b = none := fun {σ' H' s'} I' => by
        refine ⟨T.keep _ _ _ st7 fun b hb o e => (I'.pin (b, o) (List.mem_append_right _ (List.mem_append_right _ (mem_pinsAt hb e)))).1, fun b hb => ?_⟩
        obtain ⟨o, e, d⟩ := T.obj _ _ st7 b hb
        exact (I'.pin (b, o) (List.mem_append_right _ (List.mem_append_right _ (mem_pinsAt hb e)))).2.1
      refine wpAny_mono (hg C s3 H3 fp _ s7 σ5 H7 x u _ I7' r7 (step x H7 y7)) (fun _ s8 ⟨σ8, H8, I8, q8⟩ => ?_) fun _ _ z => z
      refine wpAny_mono (ht C s3 H3 fp _ s8 σ8 H8 _ I8 q8) (fun ok s9 ⟨H9, I9, q9⟩ => ?_) fun _ _ z => z
      cases ok with
      | false =>
        rw [if_neg Bool.false_ne_true] at q9
        obtain ⟨m', hm, w9⟩ := q9
        rw [if_neg Bool.false_ne_true]
        obtain ⟨a, b⟩ := held I9
        exact ⟨m', hm, i + 1, σ8, ys, H9, I9.unpinned, a, b, w9⟩
      | true =>
        rw [if_pos rfl] at q9
        rw [if_pos rfl]
        refine wpAny_mono (he C s3 H3 fp _ s9 σ8 H9 _ I9 q9) (fun v s10 ⟨y, H10, I10, r10, hDD, hl, m', hm, w10⟩ => ?_) fun _ _ z => z
        refine wpAny_mono (mt_append (X := cxB X (tn ++ fr) scope (capCl X.env fr) C s3 H3 fp) _ s10 σ8 H10 (.ref D) [y] (.ref D) [v] (fun _ H' => W (i + 1) m' σ8 (ys ++ [y]) H') I10 rfl (.cons r10 .nil) ⟨D, ys, y, rfl, rfl, hDD, hl, w10⟩) (fun _ s11 ⟨z, H11, I11, _, q11⟩ => ?_) fun _ _ z => z
        obtain ⟨a, b⟩ := held I11
        exact ⟨m', hm, i + 1, σ8, ys ++ [y], H11, I11.unpinned, a, b, q11⟩
  exact codeAny_compStart_list loop (T.self X.A 0 _ _ _ st4 loop)
theorem pe_comp {elt target iter : Expr} {ifs : List Expr} {scope : Scope} {pos : Pos} {tn fr : List Str} {caps : List Nat} {wi : TI} {g : TG} {tt : TT} {te : TE} (hc : X.calm = true) (B : BlkS X scope fr caps) (hi : PI X target iter wi)
    (hg : ∀ C s H fp, PG (cxB X (tn ++ fr) scope (capCl X.env fr) C s H fp) target g) (ht : ∀ C s H fp, PF (cxB X (tn ++ fr) scope (capCl X.env fr) C s H fp) ifs tt) (he : ∀ C s H fp, PE (cxB X (tn ++ fr) scope (capCl X.env fr) C s H fp) elt te)
    (hs : ∀ x, foldedSetIterable iter X.env x = pure x := by intro _; rfl) : PE X (.ListComp elt [⟨target, iter, ifs, 0⟩] scope pos) (tComp tn.length caps wi g tt te) := by
  intro pins s σ H Q I h
  rw [eval_ListComp]
  refine wpAny_comprehension_free (use := none) rfl hs B.clos B.kind B.names (thn (hi pins s σ H _ I h) fun v s1 h1 => thn h1 fun itv s2 h2 => ?_)
  obtain ⟨it, fp, tnn, J, H2, rfl, I2, T, st2, f2, q⟩ := h2
  refine comp_block (Q := Q) (RR := fun acc C => compPost (model X.prog X.w) X.A X.xe none (EP X pins σ Q) acc C) hc B hg ht he I2 T st2 f2 q ?_
  intro D C H' s' m I' hn fc qq
  obtain ⟨g0, g1, g2, g3, g4, g5⟩ := fc
  exact ⟨m, hn, fun h' hs' => ⟨.ref D, H', I'.turned (t' := s'.toks) (fun b o hb e => (hs'.2 b hb).trans e) g0 g1 g3 g4 g5, rfl, qq⟩⟩
theorem ps_setC {i : Nat} {y : Str} {py : Pos} {spos : Pos} {elt target iter : Expr} {ifs : List Expr} {scope : Scope} {pos : Pos} {tn fr : List Str} {caps : List Nat} {wi : TI} {g : TG} {tt : TT} {te : TE} (hN : X.N.Nodup) (hiN : X.N[i]? = some y) (hx : Loc X.env.scope y)
    (hc : X.calm = true) (B : BlkS X scope fr caps) (hi : PI X target iter wi)
    (hg : ∀ C s H fp, PG (cxB X (tn ++ fr) scope (capCl X.env fr) C s H fp) target g) (ht : ∀ C s H fp, PF (cxB X (tn ++ fr) scope (capCl X.env fr) C s H fp) ifs tt) (he : ∀ C s H fp, PE (cxB X (tn ++ fr) scope (capCl X.env fr) C s H fp) elt te)
    (hsw : swapsWith (.ListComp elt [⟨target, iter, ifs, 0⟩] scope pos) (some (.Name y py)) spos.line X.env = pure true := by rfl)
    (hs : ∀ x, foldedSetIterable iter X.env x = pure x := by intro _; rfl) (hf : X.fn y = true ∨ X.env.scope.names.lookup y = some .local := by first | exact .inl rfl | exact .inr rfl | assumption) :
    PS X (.Assign [.Name y py] (.ListComp elt [⟨target, iter, ifs, 0⟩] scope pos) spos) (tAsg (tComp tn.length caps wi g tt te) (gName i)) := by
  intro pins s σ H D I h
  rw [exec_Assign_Name_used _ _ _ _ hsw]
  refine wpAny_bind (wpAny_standAt (wpAny_bind ?_))
  show wpAny _ X.A (do let _ ← comprehension (.ListComp elt [⟨target, iter, ifs, 0⟩] scope pos) scope X.env _ (newList []) false (eval iter X.env) (some (assign (.Name y py) X.env))) _ _ s
  refine wpAny_bind (wpAny_mono (wpAny_comprehension_free (use := some (assign (.Name y py) X.env)) (Q := fun _ s' => SP X pins D .next s') rfl hs B.clos B.kind B.names
    (thn (hi pins s σ H _ I h) fun v s1 h1 => thn h1 fun itv s2 h2 => ?_)) (fun _ s' hq => wpAny_pure (wpAny_pure hq)) fun _ _ e => e)
  obtain ⟨it, fp, tnn, J, H2, rfl, I2, T, st2, f2, q⟩ := h2
  refine comp_block (Q := fun v H1 => gName i v σ H1 D.nx) (RR := fun acc C => compPost (model X.prog X.w) X.A X.xe (some (assign (.Name y py) X.env)) (fun _ s' => SP X pins D .next s') acc C) hc B hg ht he I2 T st2 f2 q ?_
  intro DD C H' s' m I' hn fc qq
  obtain ⟨g0, g1, g2, g3, g4, g5⟩ := fc
  show wpAny _ X.A (assign (.Name y py) X.env (.ref DD)) _ _ _
  refine wpAny_assign_Name (store_ok2 I' hN hiN hx (v := .ref DD) (u := .ref DD) rfl (fun s'' I'' ⟨a, sb, ha⟩ => ?_) hf)
  have hCa : C ≠ a := by
    rcases ha with z | z
    · rw [z]
      exact g1
    · exact fun e => g4 y a z e.symm
  exact ⟨m, hn.sameBut sb hCa, fun h' hs' => ⟨_, H', I''.turned (t' := s''.toks) (fun b o hb e => (hs'.2 b hb).trans e) g0 g1 g3 g4 g5, qq⟩⟩
end
section
variable {D : Addr} {te : TE} {cap : L2.St} {H1 : Hp} {Q : VK}
theorem blk_of {J : It} (n : Nat) (xs : Nat → V) (Pv : Nat → List V → Hp → Prop) (h0 : Pv 0 [] (upd H1 D (.lst [])))
    (go : ∀ i ys H, i < n → Pv i ys H → J.go i H ∧ ∀ x H', J.yld i H x H' → H' = H ∧ x = xs i) (stop : ∀ ys H, Pv n ys H → J.stop n H)
    (hs : ∀ i ys H (R : VK), i < n → Pv i ys H → H D = some (.lst ys) → (∀ v H6, H6 D = some (.lst ys) → ys.length < sizeLine → Pv (i + 1) (ys ++ [v]) (upd H6 D (.lst (ys ++ [v]))) → R v H6) → te (some (xs i) :: cap) H R)
    (hd : ∀ ys H, Pv n ys H → H D = some (.lst ys) → Q (.ref D) H) : tBlk D (gName 0) tYes te J (none :: cap) H1 Q := by
  refine ⟨fun i m σ ys H => m = n - i ∧ i ≤ n ∧ (∃ o, σ = o :: cap) ∧ Pv i ys H ∧ H D = some (.lst ys), ⟨n, by simp, Nat.zero_le _, ⟨none, rfl⟩, h0, upd_same⟩, ?_⟩
  rintro i m σ ys H ⟨rfl, hi, ⟨o, rfl⟩, p, hD⟩
  by_cases hlt : i < n
  · obtain ⟨g1, g2⟩ := go i ys H hlt p
    refine .inr ⟨g1, fun x H' y => ?_⟩
    obtain ⟨e1, e2⟩ := g2 x H' y
    subst e1 e2
    unfold gName tYes
    dsimp only
    rw [if_pos rfl]
    exact hs i ys _ _ hlt p hD fun v H6 a b c => ⟨a, b, n - (i + 1), by omega, rfl, by omega, ⟨_, rfl⟩, c, upd_same⟩
  · have e : i = n := by omega
    subst e
    exact .inl ⟨stop ys H p, hd ys H p hD⟩
end
def Its (x : Str) : It := ⟨fun i _ => i < x.cps.size, fun i H v H' => H' = H ∧ ∃ c, x.cps[i]? = some c ∧ v = .str ⟨#[c]⟩, fun i _ => i = x.cps.size⟩
section
variable {X : Cx} {tg : Expr}
def iStr (tl : TE) : TI := fun σ H R => tl σ H fun x H1 => ∃ z, x = .str z ∧ R (Its z) H1
end
end Ty

set_option maxHeartbeats 4000000
namespace Ty
open PySem PySem.Spec PyProof.Rows L2
section
variable {prog : Program} {w : World} {A : Around} {E : Value → Shared → Prop}
end
def gLst (K : PySem.W.Frag) (n : Nat) (t : TGs) : TG := fun v σ H Q => ∃ a xs, v = .ref a ∧ SqL K H a xs ∧ xs.length = n ∧ t xs σ H Q
structure Mk0 (K : PySem.W.Frag) (C : Addr) : Prop where
  makes : PySem.W.makesIn K C = true
  init : PySem.W.findIn K (.ref C) "__init__" = some (some (.builtin "object.__init__"))
  kp : PySem.W.keepIn K (.ref C) = true
def tMk0 (C : Addr) : TE := fun _ H Q => ∀ x dx, H x = none → H dx = none → dx ≠ x → Q (.ref x) (upd (upd H dx (.own x)) x (.ins C dx []))
section
variable {X : Cx}
theorem run_mk0 {pins : List (Addr × Obj)} {σ : L2.St} {H : Hp} {s : Shared} {Q : VK} {C : Addr} (M : Mk0 X.K C) (I : Inv X pins σ H s) (h : tMk0 C σ H Q) : wpAny (model X.prog X.w) X.A (call (.ref C) []) (EP X pins σ Q) X.xe s := by
  have hq := h (s.heap.objs.size + 1) s.heap.objs.size (I.hok.fresh (Nat.le_succ _)) (I.hok.fresh (Nat.le_refl _)) (Nat.ne_of_lt (Nat.lt_succ_self _))
  have I2 := Inv.made (C := C) I
  have Y := PySem.W.makes_of (M := model X.prog X.w) I.kIn M.makes
  refine wpAny_call (make_map0 I.kIn M.makes M.init (fun self => PySem.W.Looks.of_pure (PySem.W.oi_bind self)) ?_)
  have ho : ((s.heap.push PySem.W.emptyDict).push (PySem.W.instObj C s.heap.objs.size)).get? (s.heap.objs.size + 1) = some (PySem.W.instObj C s.heap.objs.size) := by
    have := Heap.get?_push_size (s.heap.push PySem.W.emptyDict) (o := PySem.W.instObj C s.heap.objs.size) rfl
    rwa [Heap.size_push] at this
  have t1 : PySem.W.Looks (model X.prog X.w) ((s.heap.push PySem.W.emptyDict).push (PySem.W.instObj C s.heap.objs.size)) (typeOf (.ref (s.heap.objs.size + 1))) (.ref C) := (PySem.W.Looks.ld ho).andThen .now
  have t2 : PySem.W.Looks (model X.prog X.w) ((s.heap.push PySem.W.emptyDict).push (PySem.W.instObj C s.heap.objs.size)) (isInstance (.ref (s.heap.objs.size + 1)) (.type "object")) true :=
    t1.andThen (Y.top.keeps fun b o e => Heap.get?_push_of_some _ (Heap.get?_push_of_some _ e))
  refine codeAny_call_builtin PySem.W.oi_plain PySem.W.entry_oi (@PySem.W.check_slot (model X.prog X.w) _ _ _ "object.__init__" "object" "__init__" (.ref (s.heap.objs.size + 1)) [] [] _ PySem.W.oi_kind PySem.W.oi_split t2 (PySem.W.oi_args (.ref (s.heap.objs.size + 1))) ?_)
  rw [PySem.W.oi_run]
  exact wpAny_pure (And.intro rfl ⟨V.ref (s.heap.objs.size + 1), _, I2, rfl, hq⟩)
theorem pe_mk0 {x : Str} {p pos : Pos} {C : Addr} (M : Mk0 X.K C) (hg : Gl X x) (hm : X.mg x = some (.ref C)) (hdb : (x == ("__debug__" : Str)) = false := by decide) : PE X (.Call (.Name x p) [] [] pos) (tMk0 C) := by
  intro pins s σ H Q I h
  refine wpAny_Call_Name_kw (ld_glob I hg hm ?_ hdb)
  exact PySem.W.callWith_K0 I.kIn M.kp (run_mk0 M I h)
end
structure MtdOk (P : Program) (w : World) (K : PySem.W.Frag) (mg : Str → Option Value) (base : Heap) (CX : CXT) (k : Nat) (C : Addr) (m : Str) (ps : List Str) (sp : Sp) : Prop where
  ex : ∃ (f : Addr) (fd : FuncData), Cls K C ∧ Meth K C m f ∧ FnOk P w K mg base CX k f fd ps sp ∧ Binds K fd ps []
theorem MtdOk.mono {P : Program} {w : World} {K : PySem.W.Frag} {mg : Str → Option Value} {base : Heap} {CX : CXT} {j k : Nat} {C : Addr} {m : Str} {ps : List Str} {sp : Sp} (M : MtdOk P w K mg base CX j C m ps sp) (h : j ≤ k) : MtdOk P w K mg base CX k C m ps sp := by
  obtain ⟨f, fd, a, b, c, d⟩ := M.ex
  exact ⟨f, fd, a, b, c.mono h, d⟩
section
variable {X : Cx} {CX : CXT} {k : Nat} {E : XK} {m : Str} {pos apos : Pos} {e o : Expr} {es : List Expr} {ta : TE} {t : TA}
def tMtd (P : Program) (w : World) (K : PySem.W.Frag) (mg : Str → Option Value) (base : Heap) (CX : CXT) (k : Nat) (m : Str) (E : XK) (ta : TE) (t : TA) : TE := fun σ H Q => ta σ H fun x H1 => ∃ a C dx fs ps sp, x = .ref a ∧ H1 a = some (.ins C dx fs) ∧ fs.lookup m = none ∧
  MtdOk P w K mg base CX k C m ps sp ∧ t σ H1 fun vs H2 => sp (x :: vs) H2 Q E
theorem pe_mtd0 {pl : Sem Bool} (he : PE X o ta) (hr : Room k X.A) (hx : Passes CX X E)
    (ht : eval (.Call (.Attribute o m apos) [] [] pos) X.env = (do
      let ov ← eval o X.env
      standAt apos.atName
      let (f, first) ← holding [ov] (getMethod ov m pl)
      callWith pos f first (backTo pos (starEach [] X.env)) (backToKw pos (keywordEach [] X.env))) := by rfl) :
    PE X (.Call (.Attribute o m apos) [] [] pos) (tMtd X.prog X.w X.K X.mg X.base CX k m E ta tNil) := by
  intro pins s σ H Q I h
  refine PySem.W.methodCall_KW (pl := pl) (thn (he pins s σ H _ I h) fun u s1 ⟨x, H1, I1, rx, a, C, dx, fs, ps, sp, ex, ea, l, M, q⟩ => ?_) ht
  subst ex
  obtain rfl : u = Value.ref a := rx
  obtain ⟨f, fd, c, hm, F, hb⟩ := M.ex
  refine getmeth_ok I1 ea c hm l ?_
  exact PySem.W.callWith_K0 (first := [.ref a]) I1.kIn hm.kp (run_fn (us := [.ref a]) (vs := [.ref a]) (dvs := []) F hr hb .nil hx I1 (.cons rfl .nil) q)
theorem pe_mtd {pl : Sem Bool} (he : PE X o ta) (hr : Room k X.A) (hx : Passes CX X E) (ha : PA X (e :: es) t)
    (hst : starEach (e :: es) X.env = (false, eval e X.env) :: starEach es X.env := by rfl) (hpl : (backTo pos (starEach es X.env)).any (·.1) = false := by rfl)
    (ht : eval (.Call (.Attribute o m apos) (e :: es) [] pos) X.env = (do
      let ov ← eval o X.env
      standAt apos.atName
      let (f, first) ← holding [ov] (getMethod ov m pl)
      callWith pos f first (backTo pos (starEach (e :: es) X.env)) (backToKw pos (keywordEach [] X.env))) := by rfl) :
    PE X (.Call (.Attribute o m apos) (e :: es) [] pos) (tMtd X.prog X.w X.K X.mg X.base CX k m E ta t) := by
  intro pins s σ H Q I h
  refine PySem.W.methodCall_KW (pl := pl) (thn (he pins s σ H _ I h) fun u s1 ⟨x, H1, I1, rx, a, C, dx, fs, ps, sp, ex, ea, l, M, q⟩ => ?_) ht
  subst ex
  obtain rfl : u = Value.ref a := rx
  obtain ⟨f, fd, c, hm, F, hb⟩ := M.ex
  refine getmeth_ok I1 ea c hm l ?_
  refine PySem.W.callWith_K (first := [.ref a]) (h₀ := X.base) I.ok.mod.kin hm.kp (thn (ha pos pins s1 σ H1 _ I1 q) fun us s2 ⟨vs, H2, I2, r, q2⟩ => ⟨I2.kIn, ?_⟩) hst hpl
  refine run_fn (us := .ref a :: us) (vs := .ref a :: vs) (dvs := []) F hr hb .nil hx I2 (.cons rfl r) ?_
  rw [List.append_nil]
  exact q2
end
theorem passB {X : Cx} {CX : CXT} (h : Mute CX) (e : X.xe = fun _ _ => False) : Passes CX X E0 := fun _ _ _ _ _ _ _ q => (h _ _ _ _ _ q).elim
end Ty

set_option maxHeartbeats 4000000
namespace Ty
open PySem PySem.Spec PyProof.Rows L2
section
variable {σ : L2.St} {H : Hp} {Q : VK} {QB : Bool → Hp → Prop} {QA : List V → Hp → Prop} {D : Ends} {t u : TS} {ta tb te : TE} {tc td : TT} {t1 : TA}
end
end Ty

set_option maxHeartbeats 4000000
namespace Ty
open PySem PySem.Spec PyProof.Rows L2
section
variable {X : Cx}
def tFmt (te : TE) : TE := fun σ H Q => te σ H fun x H1 => ∃ z, x = .str z ∧ z.length ≤ sizeLine ∧ Q (.str z) H1
abbrev TJ := L2.St → Hp → (List Str → Hp → Prop) → Prop
def PJ (X : Cx) (es : List Expr) (t : TJ) : Prop :=
  ∀ (pins : List (Addr × Obj)) (s : Shared) (σ : L2.St) (H : Hp) (acc : Str) (Q : List Str → Hp → Prop), Inv X pins σ H s → acc.length + 5000 * es.length ≤ sizeLine → t σ H Q →
    Joins (model X.prog X.w) X.A X.xe (evalEach es X.env) acc (fun out s1 => ∃ ys H1, Inv X pins σ H1 s1 ∧ out = ys.foldl (· ++ ·) acc ∧ out.length ≤ sizeLine ∧ Q ys H1) s
def jNil : TJ := fun _ H Q => Q [] H
def jCons (te : TE) (t : TJ) : TJ := fun σ H Q => te σ H fun x H1 => ∃ z, x = .str z ∧ z.length ≤ 5000 ∧ t σ H1 fun ys H2 => Q (z :: ys) H2
def tJoin (t : TJ) : TE := fun σ H Q => t σ H fun ys H1 => Q (.str (ys.foldl (· ++ ·) Str.empty)) H1
def rStarts : V → List V → Hp → VK → Prop := fun x vs H Q => ∃ z y, x = .str z ∧ vs = [.str y] ∧ Q (.bl (Txt.startswith z y)) H
def rFind : V → List V → Hp → VK → Prop := fun x vs H Q => ∃ z y, x = .str z ∧ vs = [.str y] ∧ Q (.int (Txt.find z y)) H
def rPartition : V → List V → Hp → VK → Prop := fun x vs H Q => ∃ z y, x = .str z ∧ vs = [.str y] ∧ (y.length == 0) = false ∧ z.length ≤ sizeLine ∧
  ∀ p, H p = none → Q (.ref p) (upd H p (.tup [.str (Txt.partition z y).1, .str (Txt.partition z y).2.1, .str (Txt.partition z y).2.2]))
def rSlS : V → Option Int → Option Int → Hp → VK → Prop := fun x lo hi H Q => ∃ z, x = .str z ∧ z.length ≤ sizeLine ∧ Q (.str (Txt.slice z lo hi)) H
theorem sl_str : SlR X rSlS := by
  intro pins s σ H x v vl vu lo hi sl Q I rx hs pl pu h
  obtain ⟨z, rfl, hz, q⟩ := h
  obtain ⟨t, rfl⟩ := rx
  refine ⟨"str", _, F.slot_str_getitem.lookup, typeIs_str _ _ _, ?_⟩
  cases pl <;> cases pu
  · exact wpAny_getItem_str_slice (l := none) (u := none) (st := none) hs rfl (post_val_or_str ⟨Nat.le_trans (Txt.slice_le z _ _) hz, fun t' k => ⟨.str _, H, I.tok k, ⟨t', rfl⟩, q⟩⟩)
  · rename_i j uj
    exact wpAny_getItem_str_slice (l := none) (u := some (j, uj)) (st := none) hs rfl (post_val_or_str ⟨Nat.le_trans (Txt.slice_le z _ _) hz, fun t' k => ⟨.str _, H, I.tok k, ⟨t', rfl⟩, q⟩⟩)
  · rename_i i ui
    exact wpAny_getItem_str_slice (l := some (i, ui)) (u := none) (st := none) hs rfl (post_val_or_str ⟨Nat.le_trans (Txt.slice_le z _ _) hz, fun t' k => ⟨.str _, H, I.tok k, ⟨t', rfl⟩, q⟩⟩)
  · rename_i i ui j uj
    exact wpAny_getItem_str_slice (l := some (i, ui)) (u := some (j, uj)) (st := none) hs rfl (post_val_or_str ⟨Nat.le_trans (Txt.slice_le z _ _) hz, fun t' k => ⟨.str _, H, I.tok k, ⟨t', rfl⟩, q⟩⟩)
def rIntText : List V → Hp → VK → Prop := fun xs H Q => ∃ z n, xs = [.str z] ∧ PySem.intText? z = some n ∧ z.length ≤ 640 ∧ Q (.int n) H
def rMulS : R2 := fun x y H Q => ∃ z n, x = .str z ∧ y = .int n ∧ MulOk z n ∧ Q (.str (Txt.mul z n)) H
theorem op_mulS : OpR X (binaryOp .Mult) rMulS := by
  intro pins s σ H x y v u Q I rx ry h
  obtain ⟨z, n, rfl, rfl, ok, q⟩ := h
  obtain ⟨t, rfl⟩ := rx
  obtain ⟨t', rfl⟩ := ry
  exact SB.mul ok fun t' k => ⟨.str _, H, I.tok k, ⟨t', rfl⟩, q⟩
def rAll (K : PySem.W.Frag) : List V → Hp → VK → Prop := fun xs H Q => ∃ (p : Addr) (bs : List Bool), xs = [.ref p] ∧ SqL K H p (bs.map V.bl) ∧ Q (.bl (bs.all id)) H
end
end Ty

set_option maxHeartbeats 4000000
namespace Ty
open PySem PySem.Spec PyProof.Rows L2 PySem.NumText
def dg (m : Nat) : List Nat := (Nat.toDigits 10 m).map Char.toNat
def tx (n : Int) : Str := Str.ofString (toString n)
def slash : Str := Str.ofString "/"
def nt (q : Int × Int) : Str := if q.2 = 1 then tx q.1 else tx q.1 ++ slash ++ tx q.2
end Ty

set_option maxHeartbeats 4000000
namespace Ty
open PySem PySem.Spec PyProof.Rows L2 PySem.NumText
structure Txk (x : Str) : Prop where
  len : x.length ≤ 400
  cod : ∀ c ∈ x.cps.toList, c < 1000
section
variable {X : Cx}
def tRep (te : TE) : TE := fun σ H Q => te σ H fun x H1 => ∃ z, x = .str z ∧ Txk z ∧ ∀ y : Str, y.length ≤ 5000 → Q (.str y) H1
def rJoinL (K : PySem.W.Frag) : V → List V → Hp → VK → Prop := fun x vs H Q => ∃ (z : Str) (p : Addr) (ys : List Str), x = .str z ∧ vs = [.ref p] ∧ SqL K H p (ys.map V.str) ∧ (ys.map (·.length)).sum + ys.length * z.length ≤ 16777216 ∧ Q (.str (Txt.join z ys)) H
end
def isStar : Expr → Bool
  | .Starred .. => true
  | _ => false
theorem star_cons {e : Expr} {es : List Expr} {env : Env} (h : isStar e = false) : starEach (e :: es) env = (false, eval e env) :: starEach es env := by
  cases e <;> first | rfl | (cases h; done)
theorem pac {X : Cx} {e : Expr} {es : List Expr} {te : TE} {t : TA} (ha : PE X e te) (hr : PA X es t) (h : isStar e = false := by rfl) : PA X (e :: es) (tCons te t) := pa_cons ha hr (star_cons h)
def writs : List Expr → Option (List Str)
  | [] => some []
  | .Constant (.str x) _ _ :: r => (writs r).map (x :: ·)
  | _ => none
def tStrs (xs : List Str) : TA := fun _ H Q => Q (xs.map V.str) H
end Ty

set_option maxHeartbeats 4000000
namespace Ty
open PySem PySem.Spec PyProof.Rows L2
section
variable {D : Addr} {te : TE} {cap : L2.St} {H1 : Hp} {Q : VK}
def KSame (D : Addr) (H H' : Hp) : Prop := ∀ b o, b ≠ D → H b = some o → H' b = some o
theorem KSame.of {H H' : Hp} (s : Same H H') : KSame D H H' := fun b o _ e => s b o e
theorem KSame.upd {H : Hp} {o : HO} : KSame D H (upd H D o) := fun b o' n e => by rw [upd_ne n]; exact e
theorem comp_gen {J : It} (n : Nat) (xs : Nat → V) (Rel : Nat → V → Hp → Prop) (nD : H1 D = none) (hn : n < sizeLine)
    (go : ∀ i H, i < n → Same H1 H → J.go i H ∧ ∀ x H', J.yld i H x H' → H' = H ∧ x = xs i) (stop : ∀ H, Same H1 H → J.stop n H)
    (hR : ∀ i v H H' ys, H D = some (.lst ys) → KSame D H H' → Rel i v H → Rel i v H')
    (he : ∀ i H (R : VK), i < n → Same H1 H → (∀ v H6, Same H H6 → Rel i v H6 → R v H6) → te (some (xs i) :: cap) H R)
    (hd : ∀ ys H, ys.length = n → (∀ i v, ys[i]? = some v → Rel i v H) → Same H1 H → H D = some (.lst ys) → Q (.ref D) H) :
    tBlk D (gName 0) tYes te J (none :: cap) H1 Q := by
  refine blk_of n xs (fun i ys H => ys.length = i ∧ (∀ i v, ys[i]? = some v → Rel i v H) ∧ Same H1 H) ⟨rfl, fun i v e => by simp at e, fun b o e => by rw [upd_ne (ne_of_none e nD)]; exact e⟩ ?_ ?_ ?_ ?_
  · rintro i ys H hi ⟨_, _, s⟩
    exact go i H hi s
  · rintro ys H ⟨_, _, s⟩
    exact stop H s
  · rintro i ys H R hi ⟨l, r, s⟩ hD k
    refine he i H R hi s fun v H6 s6 rv => k v H6 (s6 _ _ hD) (by omega) ⟨by simp [l], fun j u e => ?_, fun b o e => ?_⟩
    · by_cases c : j < ys.length
      · rw [List.getElem?_append_left c] at e
        have ru := hR j u H H6 ys hD (KSame.of s6) (r j u e)
        exact hR j u H6 _ ys (s6 _ _ hD) KSame.upd ru
      · rw [List.getElem?_append_right (by omega)] at e
        have ej : j = i := by
          by_cases z : j - ys.length = 0
          · omega
          · rw [List.getElem?_eq_none (by simp; omega)] at e
            cases e
        subst ej
        have : v = u := by
          rw [show j - ys.length = 0 by omega] at e
          exact Option.some.inj e
        subst this
        exact hR j v H6 _ ys (s6 _ _ hD) KSame.upd rv
    · rw [upd_ne (ne_of_none e nD)]
      exact s6 _ _ (s _ _ e)
  · rintro ys H ⟨l, r, s⟩ hD
    exact hd ys H l r s hD
theorem comp_list {K : PySem.W.Frag} {a : Addr} {xs : List V} (Rel : Nat → V → Hp → Prop) (nD : H1 D = none) (hn : xs.length < sizeLine) (hS : ∀ H, Same H1 H → SqL K H a xs)
    (hR : ∀ i v H H' ys, H D = some (.lst ys) → KSame D H H' → Rel i v H → Rel i v H')
    (he : ∀ i x H (R : VK), xs[i]? = some x → Same H1 H → (∀ v H6, Same H H6 → Rel i v H6 → R v H6) → te (some x :: cap) H R)
    (hd : ∀ ys H, ys.length = xs.length → (∀ i v, ys[i]? = some v → Rel i v H) → Same H1 H → H D = some (.lst ys) → Q (.ref D) H) :
    tBlk D (gName 0) tYes te (Itl K a) (none :: cap) H1 Q := by
  refine comp_gen xs.length (fun i => (xs[i]?).getD .non) Rel nD hn (fun i H hi s => ⟨⟨xs, xs[i], hS H s, List.getElem?_eq_getElem hi⟩, fun x H' y => ⟨y.1, ?_⟩⟩) (fun H s => ⟨xs, hS H s, Nat.le_refl _⟩) hR (fun i H R hi s k => ?_) hd
  · rw [y.2 xs (hS H s)]; rfl
  · have e : xs[i]? = some xs[i] := List.getElem?_eq_getElem hi
    have k' := he i _ H R e s k
    rw [← (show (xs[i]?).getD .non = xs[i] by rw [e]; rfl)] at k'
    exact k'
theorem comp_range {lo : Int} {n : Nat} (Rel : Nat → V → Hp → Prop) (nD : H1 D = none) (hn : n < sizeLine)
    (hR : ∀ i v H H' ys, H D = some (.lst ys) → KSame D H H' → Rel i v H → Rel i v H')
    (he : ∀ (i : Nat) H (R : VK), i < n → Same H1 H → (∀ v H6, Same H H6 → Rel i v H6 → R v H6) → te (some (.int (lo + i)) :: cap) H R)
    (hd : ∀ ys H, ys.length = n → (∀ i v, ys[i]? = some v → Rel i v H) → Same H1 H → H D = some (.lst ys) → Q (.ref D) H) :
    tBlk D (gName 0) tYes te (Itr lo n) (none :: cap) H1 Q :=
  comp_gen n (fun i => .int (lo + i)) Rel nD hn (fun i H hi s => ⟨hi, fun x H' y => y⟩) (fun H s => Nat.le_refl n) hR he hd
end
end Ty

set_option maxHeartbeats 4000000
namespace Ty
open PySem PySem.Spec PyProof.Rows L2
section
variable {X : Cx} {pins : List (Addr × Obj)} {σ : L2.St} {H : Hp} {s : Shared} {h' : Heap}
theorem Inv.turnedL {t' : Nat} {fp : List Addr} (I : Inv X pins σ H s) (k : ∀ b o, b ∉ fp → s.heap.get? b = some o → h'.get? b = some o) (hf : ∀ b ∈ fp, FpOk X pins H b) : Inv X pins σ H { s with heap := h', toks := t' } := by
  have nit : ∀ b u, H b = some u → b ∉ fp := fun b u e z => by rw [(hf b z).1] at e; cases e
  refine I.step (g' := s.gens) (d' := s.drawn) (ch := fp) (fun b hb => ?_) (fun b o _ _ hc e _ => k b o hc e) (fun b o _ _ hc e _ => ⟨o.slots, k b o hc e⟩) (fun _ _ _ _ n => n)
    (fun b o hc e => ⟨o, k b o hc e⟩) (fun _ _ e => e) (fun _ _ _ e => e) (fun b ps e => ⟨#[], by rw [e]; simp⟩) (fun m hm => ?_) (fun b u e => ?_) I.bare
  · obtain ⟨f0, f1, f2, f3, f4, f5⟩ := hf b hb
    exact ⟨f3, f1, f4, f5⟩
  · obtain ⟨o, es, ep, ho, r⟩ := hm
    exact ⟨o, es, ep, k _ o (fun z => (hf _ z).2.1 rfl) ho, r⟩
  · refine (I.hok b u e).stay (fun c v hc q => k c v ?_ q) (fun _ q => q) fun _ _ q => q
    rcases hc with z | z
    · rw [z]; exact nit b u e
    · exact nit c _ z
theorem Inv.turnedT {t' : Nat} {fp : List Addr} {T : Addr} {xs : List V} {its : List Value} (I : Inv X pins σ H s) (k : ∀ b o, b ∉ fp → s.heap.get? b = some o → h'.get? b = some o) (hf : ∀ b ∈ fp, FpOk X pins H b) (hT : s.heap.objs.size ≤ T)
    (hz : xs.length ≤ sizeLine) (rv : Vals xs its) (ht : IsTup h' T its.toArray) : Inv X pins σ (upd H T (.tup xs)) { s with heap := h', toks := t' } := by
  have hn := I.hok.fresh hT
  have nit : ∀ b u, H b = some u → b ∉ fp := fun b u e z => by rw [(hf b z).1] at e; cases e
  have ne : ∀ b o, s.heap.get? b = some o → b ≠ T := fun b o e => Nat.ne_of_lt (Nat.lt_of_lt_of_le (Heap.lt_size e) hT)
  refine I.step (g' := s.gens) (d' := s.drawn) (ch := fp) (fun b hb => ?_) (fun b o _ _ hc e _ => k b o hc e) (fun b o _ _ hc e _ => ⟨o.slots, k b o hc e⟩) (fun b o _ e n => by rw [upd_ne (ne b o e)]; exact n)
    (fun b o hc e => ⟨o, k b o hc e⟩) (fun b ys e => by rw [upd_ne (ne_of_none e hn)]; exact e) (fun b o u e => by rw [upd_ne (ne_of_none e hn)]; exact e) (fun b ps e => ⟨#[], by rw [upd_ne (ne_of_none e hn), e]; simp⟩) (fun m hm => ?_) (fun b u e => ?_) I.bare
  · obtain ⟨f0, f1, f2, f3, f4, f5⟩ := hf b hb
    exact ⟨f3, f1, f4, f5⟩
  · obtain ⟨o, es, ep, ho, r⟩ := hm
    exact ⟨o, es, ep, k _ o (fun z => (hf _ z).2.1 rfl) ho, r⟩
  · by_cases hb : b = T
    · subst hb
      rw [upd_same] at e
      cases e
      exact ⟨hz, its, rv, ht⟩
    · rw [upd_ne hb] at e
      refine (I.hok b u e).stay (fun c v hc q => k c v ?_ q) (fun c q => by rw [upd_ne (ne_of_none q hn)]; exact q) fun c ys q => by rw [upd_ne (ne_of_none q hn)]; exact q
      rcases hc with z | z
      · rw [z]; exact nit b u e
      · exact nit c _ z
end
def Itz (K : PySem.W.Frag) (a b : Addr) : It :=
  ⟨fun i H => ∃ xs ys x y, SqL K H a xs ∧ SqL K H b ys ∧ xs[i]? = some x ∧ ys[i]? = some y,
   fun i H v H' => ∃ p x y, (∀ xs, SqL K H a xs → xs[i]? = some x) ∧ (∀ ys, SqL K H b ys → ys[i]? = some y) ∧ v = .ref p ∧ H p = none ∧ H' = upd H p (.tup [x, y]),
   fun i H => ∃ xs ys, SqL K H a xs ∧ SqL K H b ys ∧ (xs.length ≤ i ∨ ys.length ≤ i)⟩
theorem boot_zip : bootBuiltins "zip" = some (.type "zip") := by decide +kernel
section
variable {X : Cx}
def iZip (K : PySem.W.Frag) (ta : TA) : TI := fun σ H R => ta σ H fun vs H1 => ∃ a b, vs = [.ref a, .ref b] ∧ (∃ xs, SqL K H1 a xs) ∧ (∃ ys, SqL K H1 b ys) ∧ R (Itz K a b) H1
def rSum (K : PySem.W.Frag) : List V → Hp → VK → Prop := fun xs H Q => ∃ (p : Addr) (ns : List Int), xs = [.ref p] ∧ SqL K H p (ns.map V.int) ∧ Q (.int ns.sum) H
def rListL (K : PySem.W.Frag) : List V → Hp → VK → Prop := fun xs H Q => ∃ (p : Addr) (ys : List V), xs = [.ref p] ∧ SqL K H p ys ∧ ∀ l, H l = none → Q (.ref l) (upd H l (.lst ys))
theorem call_listL : CallR X (.type "list") (rListL X.K) := by
  intro pins s σ H xs us Q I r h
  obtain ⟨p, ys, rfl, hq, q⟩ := h
  obtain ⟨u, rfl, r1⟩ := vals1 r
  cases r1
  obtain ⟨its, rv, ⟨o, n, e, c, d1, d⟩, hz⟩ := I.list hq
  have hlen := rv.length
  refine call_list_seq p (.inl rfl) e c d (fun h' c' hk hl => ?_) (by simp; omega)
  have hn := I.hok.fresh (Nat.le_refl s.heap.objs.size)
  have I2 : Inv X pins σ (upd H s.heap.objs.size (.lst ys)) { s with heap := h', toks := s.toks } := I.laid (t' := s.toks) hk (Nat.le_refl _) ⟨hz, its, c', rv, hl⟩
  exact ⟨.ref _, _, I2, rfl, q _ hn⟩
end
section
variable {X : Cx} {K : PySem.W.Frag}
theorem ix_tupK (h : X.K = K) : IxR X (rIxT K) := by subst h; exact ix_tup
end
section
variable {D : Addr} {te : TE} {cap : L2.St} {H1 : Hp} {Q : VK}
end
end Ty

set_option maxHeartbeats 4000000
namespace Ty
open PySem PySem.Spec PyProof.Rows L2
open Builtin.Int (intBits)
def vl (q : Int × Int) : Rat := (q.1 : Rat) / (q.2 : Rat)
structure Sm (T B : Nat) (q : Int × Int) : Prop where
  pos : 0 < q.2
  low : Int.gcd q.1 q.2 = 1
  top : q.1.natAbs ≤ 2 ^ T
  bot : q.2.natAbs ≤ 2 ^ B
theorem ratne {b : Int} (h : b ≠ 0) : (b : Rat) ≠ 0 := by simpa using h
theorem vl_low {t b : Int} (h : b ≠ 0) : vl (low t b) = (t : Rat) / (b : Rat) := by
  have c := low_cross (t := t) h
  have p := low_pos (t := t) h
  have h1 := ratne h
  have h2 := ratne (b := (low t b).2) (by omega)
  have c' : ((low t b).1 : Rat) * b = t * (low t b).2 := by exact_mod_cast c
  unfold vl
  grind
theorem cross_of_vl {t b u c : Int} (hb : b ≠ 0) (hc : c ≠ 0) (h : (t : Rat) / b = (u : Rat) / c) : t * c = u * b := by
  have h1 := ratne hb
  have h2 := ratne hc
  have : (t : Rat) * c = u * b := by grind
  exact_mod_cast this
theorem vl_inj {q r : Int × Int} (hq : 0 < q.2) (hr : 0 < r.2) (gq : Int.gcd q.1 q.2 = 1) (gr : Int.gcd r.1 r.2 = 1) (h : vl q = vl r) : q = r := by
  have c := cross_of_vl (t := q.1) (b := q.2) (u := r.1) (c := r.2) (by omega) (by omega) h
  have e := low_cross_iff (t := q.1) (b := q.2) (u := r.1) (c := r.2) (by omega) (by omega) c
  rw [low_self hq gq, low_self hr gr] at e
  exact Prod.ext (congrArg Prod.fst e) (congrArg Prod.snd e)
def dotZ (xs ys : List Int) : Int := (List.zipWith (fun a b => a * b) xs ys).sum
def dotQ (xs ys : List (Int × Int)) : Rat := (List.zipWith (fun a b => vl a * vl b) xs ys).sum
def Whole (ts : List Int) (qs : List (Int × Int)) (b : Int) : Prop := ts.length = qs.length ∧ ∀ (i : Nat) (t : Int) (q : Int × Int), ts[i]? = some t → qs[i]? = some q → (t : Rat) = vl q * b
theorem pw_up {a : Int} {m n : Nat} (h : a.natAbs ≤ 2 ^ m) (hm : m ≤ n) : a.natAbs ≤ 2 ^ n := Nat.le_trans h (Nat.pow_le_pow_right (by decide) hm)
theorem pw_bits {a : Int} {m n : Nat} (h : a.natAbs ≤ 2 ^ m) (hm : m < n) : intBits a ≤ n := intBits_le_iff.mpr (Nat.lt_of_le_of_lt h (Nat.pow_lt_pow_right (by decide) hm))
theorem Sm.up {T B T' B' : Nat} {q : Int × Int} (h : Sm T B q) (hT : T ≤ T') (hB : B ≤ B') : Sm T' B' q := ⟨h.pos, h.low, pw_up h.top hT, pw_up h.bot hB⟩
end Ty

set_option maxHeartbeats 4000000
namespace Ty
open PySem PySem.Spec PyProof.Rows L2
section
variable {D : Addr} {te : TE} {cap : L2.St} {H1 : Hp} {Q : VK}
end
section
variable {X : Cx}
def cxB1 (X : Cx) (NB : List Str) (scope : Scope) (y : Str) (cl : List (Str × Addr)) (C : Addr) (s : Shared) (H : Hp) (fp : List Addr) : Cx :=
  { prog := X.prog, w := X.w, K := X.K, mg := X.mg, base := X.base, A := X.A, N := NB, s₀ := s, H₀ := H, env := compEnvC scope ((y, C + 1) :: cl) C X.env, outer := X.stack, stack := X.stack, ex := fp, fn := fun x => x == y, calm := X.calm, pn := [], xe := fun _ _ => False }
structure Blk1 (X : Cx) (scope : Scope) (y : Str) (fr : List Str) (caps : List Nat) : Prop where
  clos : closureFor scope X.env = pure (capCl X.env fr)
  kind : scope.kind = .function
  names : ∀ y ∈ scope.names, y.2 = .local → scope.names.lookup y.1 = some .local
  free : ∀ y ∈ scope.names, y.2 = .free → y.1 ∈ fr
  caps : caps.map (fun i => X.N[i]?) = fr.map some
  out : AllCap X.env fr
  inn : AllCap (compEnvC scope [] 0 X.env) fr
  cells1 : ∀ n acc, cellsFrom n scope.names acc = (y, n) :: acc
  push1 : ∀ h, pushCells h scope.names = h.push { cls := .type "cell", data := .cell none }
  only : ∀ z ∈ scope.names, z.2 = .cell → z.1 = y
  ny : y ∉ fr
end
end Ty

namespace L2
open PySem PySem.Spec PyProof.Rows

section
variable {κ : Type} [DecidableEq κ]
def valV (kvs : List (κ × V)) (k : κ) : Option V := (kvs.find? fun kv => decide (kv.1 = k)).map (·.2)
def putK (kvs : List (κ × V)) (k : κ) (v : V) : List (κ × V) :=
  if (kvs.any fun kv => decide (kv.1 = k)) = true then kvs.map (fun kv => if kv.1 = k then (kv.1, v) else kv) else kvs ++ [(k, v)]
def dropK (kvs : List (κ × V)) (k : κ) : List (κ × V) := kvs.filter fun kv => decide (kv.1 ≠ k)

theorem valV_pos {p : κ × V} {r : List (κ × V)} {k : κ} (e : p.1 = k) : valV (p :: r) k = some p.2 := by simp [valV, List.find?_cons, e]
theorem valV_neg {p : κ × V} {r : List (κ × V)} {k : κ} (e : ¬ p.1 = k) : valV (p :: r) k = valV r k := by simp [valV, List.find?_cons, e]
theorem valV_any (k : κ) : ∀ kvs : List (κ × V), (kvs.any fun kv => decide (kv.1 = k)) = (valV kvs k).isSome
  | [] => rfl
  | p :: r => by
    rw [List.any_cons]
    by_cases e : p.1 = k
    · simp only [valV_pos e, decide_eq_true e, Bool.true_or, Option.isSome_some]
    · rw [valV_neg e, decide_eq_false e, Bool.false_or]; exact valV_any k r
theorem valV_map (k j : κ) (y : V) : ∀ kvs : List (κ × V), valV (kvs.map fun kv => if kv.1 = k then (kv.1, y) else kv) j = (valV kvs j).map fun x => if j = k then y else x
  | [] => rfl
  | p :: r => by
    have ih := valV_map k j y r
    rw [List.map_cons]
    by_cases h : p.1 = k
    · rw [if_pos h]
      by_cases e : p.1 = j
      · rw [valV_pos (p := (p.1, y)) e, valV_pos e, Option.map_some, if_pos (e.symm.trans h)]
      · rw [valV_neg (p := (p.1, y)) e, valV_neg e, ih]
    · rw [if_neg h]
      by_cases e : p.1 = j
      · rw [valV_pos (p := p) e, valV_pos e, Option.map_some, if_neg (fun z => h (e.trans z))]
      · rw [valV_neg (p := p) e, valV_neg e, ih]
theorem valV_snoc (k j : κ) (y : V) : ∀ kvs : List (κ × V), valV kvs k = none → valV (kvs ++ [(k, y)]) j = if j = k then some y else valV kvs j
  | [], _ => by
    by_cases e : k = j
    · rw [if_pos e.symm]; exact valV_pos (p := (k, y)) e
    · rw [if_neg (fun z => e z.symm)]; exact valV_neg (p := (k, y)) e
  | p :: r, hn => by
    rw [List.cons_append]
    have hk : ¬ p.1 = k := fun z => by rw [valV_pos z] at hn; cases hn
    rw [valV_neg hk] at hn
    have ih := valV_snoc k j y r hn
    by_cases e : p.1 = j
    · rw [valV_pos e, valV_pos e, if_neg (fun z => hk (e.trans z))]
    · rw [valV_neg e, valV_neg e, ih]
theorem valV_put (kvs : List (κ × V)) (k j : κ) (y : V) : valV (putK kvs k y) j = if j = k then some y else valV kvs j := by
  unfold putK
  by_cases a : (kvs.any fun kv => decide (kv.1 = k)) = true
  · rw [if_pos a, valV_map]
    rw [valV_any] at a
    by_cases e : j = k
    · obtain ⟨x, hx⟩ := Option.isSome_iff_exists.mp a
      rw [if_pos e, e, hx, Option.map_some, if_pos rfl]
    · rw [if_neg e]
      cases valV kvs j with
      | none => rfl
      | some x => rw [Option.map_some, if_neg e]
  · rw [if_neg a]
    refine valV_snoc k j y kvs ?_
    rw [valV_any] at a
    cases q : valV kvs k with
    | none => rfl
    | some x => rw [q] at a; exact (a rfl).elim
theorem length_putK (kvs : List (κ × V)) (k : κ) (v : V) : (putK kvs k v).length ≤ kvs.length + 1 := by
  unfold putK
  split
  · rw [List.length_map]; omega
  · rw [List.length_append, List.length_cons, List.length_nil]; omega
theorem putK_new {kvs : List (κ × V)} {k : κ} (v : V) (h : valV kvs k = none) : putK kvs k v = kvs ++ [(k, v)] := by
  unfold putK
  rw [valV_any, h]
  exact if_neg (by decide)

theorem RelO.isSome_eq {o : Option V} {u : Option Value} (r : RelO o u) : o.isSome = u.isSome := by
  cases o with
  | none => cases u with
    | none => rfl
    | some _ => exact (show False from r).elim
  | some _ => cases u with
    | none => exact (show False from r).elim
    | some _ => rfl
theorem RelO.getD {o : Option V} {u : Option Value} {d : V} {d' : Value} (r : RelO o u) (rd : RelV d d') : RelV (o.getD d) (u.getD d') := by
  cases o with
  | none => cases u with
    | none => exact rd
    | some _ => exact (show False from r).elim
  | some _ => cases u with
    | none => exact (show False from r).elim
    | some _ => exact r

theorem KV.val {kvs : List (κ × V)} {vs : List (κ × Value)} (r : KV kvs vs) (k : κ) : RelO (valV kvs k) (valueAt vs k) := by
  unfold KV at r
  induction r with
  | nil => exact True.intro
  | @cons p q ps qs h t ih =>
    obtain ⟨h1, h2⟩ := h
    by_cases e : p.1 = k
    · have e' : q.1 = k := h1.symm.trans e
      have b : valueAt (q :: qs) k = some q.2 := by simp [valueAt, List.find?_cons, e']
      rw [valV_pos e, b]; exact h2
    · have e' : ¬ q.1 = k := fun z => e (h1.trans z)
      have b : valueAt (q :: qs) k = valueAt qs k := by simp [valueAt, List.find?_cons, e']
      rw [valV_neg e, b]; exact ih
theorem KV.any {kvs : List (κ × V)} {vs : List (κ × Value)} (r : KV kvs vs) (k : κ) : (kvs.any fun kv => decide (kv.1 = k)) = vs.any fun kv => decide (kv.1 = k) := by
  unfold KV at r
  induction r with
  | nil => rfl
  | cons h t ih => rw [List.any_cons, List.any_cons, ih, h.1]
theorem KV.repl {kvs : List (κ × V)} {vs : List (κ × Value)} (r : KV kvs vs) (k : κ) {y : V} {u : Value} (ry : RelV y u) :
    KV (kvs.map fun kv => if kv.1 = k then (kv.1, y) else kv) (vs.map fun kv => if kv.1 = k then (kv.1, u) else kv) := by
  unfold KV at r ⊢
  induction r with
  | nil => exact .nil
  | @cons p q ps qs h t ih =>
    rw [List.map_cons, List.map_cons]
    refine .cons ?_ ih
    obtain ⟨h1, h2⟩ := h
    by_cases e : p.1 = k
    · rw [if_pos e, if_pos (h1.symm.trans e)]; exact ⟨h1, ry⟩
    · rw [if_neg e, if_neg (fun z => e (h1.trans z))]; exact ⟨h1, h2⟩
theorem KV.put {kvs : List (κ × V)} {vs : List (κ × Value)} (r : KV kvs vs) (k : κ) {y : V} {u : Value} (ry : RelV y u) : KV (putK kvs k y) (stored vs k u) := by
  unfold putK stored
  rw [r.any k]
  by_cases e : (vs.any fun kv => decide (kv.1 = k)) = true
  · rw [if_pos e, if_pos e]; exact r.repl k ry
  · rw [if_neg e, if_neg e]; exact Paired.snoc r ⟨rfl, ry⟩
theorem KV.drop {kvs : List (κ × V)} {vs : List (κ × Value)} (r : KV kvs vs) (k : κ) : KV (dropK kvs k) (without vs k) := by
  unfold KV at r ⊢
  unfold dropK without
  induction r with
  | nil => exact .nil
  | @cons p q ps qs h t ih =>
    obtain ⟨h1, h2⟩ := h
    rw [List.filter_cons, List.filter_cons]
    by_cases e : p.1 = k
    · have a : ¬ decide (p.1 ≠ k) = true := by simp [e]
      have b : ¬ decide (q.1 ≠ k) = true := by simp [h1.symm.trans e]
      rw [if_neg a, if_neg b]; exact ih
    · have e' : ¬ q.1 = k := fun z => e (h1.trans z)
      have a : decide (p.1 ≠ k) = true := by simp [e]
      have b : decide (q.1 ≠ k) = true := by simp [e']
      rw [if_pos a, if_pos b]; exact .cons ⟨h1, h2⟩ ih
theorem KV.keys {kvs : List (κ × V)} {vs : List (κ × Value)} (r : KV kvs vs) : kvs.map (·.1) = vs.map (·.1) := by
  unfold KV at r
  induction r with
  | nil => rfl
  | cons h t ih => rw [List.map_cons, List.map_cons, ih, h.1]
theorem KV.length {kvs : List (κ × V)} {vs : List (κ × Value)} (r : KV kvs vs) : kvs.length = vs.length := Paired.length r
end


theorem kV_is {P : Program} {w : World} {k : Key} {u : Value} (r : RelV (kV k) u) : (mixKind P w).is k u = true := by
  cases k with
  | inl i => obtain ⟨t, e⟩ := (show ∃ t, u = Value.int i t from r); subst e; exact mixKind_int P w i t
  | inr x => obtain ⟨t, e⟩ := (show ∃ t, u = Value.str x t from r); subst e; exact mixKind_str P w x t
theorem items_are {P : Program} {w : World} : ∀ {ks : List Key} {us : List Value}, Vals (ks.map kV) us → ItemsAre (mixKind P w) ks us
  | [], _, r => by rw [List.map_nil] at r; cases r; exact .nil
  | k :: ks, _, r => by
    rw [List.map_cons] at r
    cases r with
    | cons h t => exact .cons (kV_is h) (items_are t)

abbrev KT (H : Hp) : List (List Key × V) → List (List Key × Addr × Value) → Prop := Paired fun p q => p.1 = q.1 ∧ H q.2.1 = some (.tup (p.1.map kV)) ∧ RelV p.2 q.2.2
theorem KT.val {H : Hp} {kvs : List (List Key × V)} {xs : List (List Key × Addr × Value)} (r : KT H kvs xs) (k : List Key) : RelO (valV kvs k) ((atKey xs k).map (·.2)) := by
  induction r with
  | nil => exact True.intro
  | @cons p q ps qs h t ih =>
    obtain ⟨h1, _, h2⟩ := h
    by_cases e : p.1 = k
    · have e' : q.1 = k := h1.symm.trans e
      have b : atKey (q :: qs) k = some q.2 := by simp [atKey, List.find?_cons, e']
      rw [valV_pos e, b]; exact h2
    · have e' : ¬ q.1 = k := fun z => e (h1.trans z)
      have b : atKey (q :: qs) k = atKey qs k := by simp [atKey, List.find?_cons, e']
      rw [valV_neg e, b]; exact ih
theorem KT.repl {H : Hp} {kvs : List (List Key × V)} {xs : List (List Key × Addr × Value)} (r : KT H kvs xs) (k : List Key) {y : V} {u : Value} (ry : RelV y u) :
    KT H (kvs.map fun kv => if kv.1 = k then (kv.1, y) else kv) (xs.map (putAt k u)) := by
  induction r with
  | nil => exact .nil
  | @cons p q ps qs h t ih =>
    rw [List.map_cons, List.map_cons]
    refine .cons ?_ ih
    obtain ⟨h1, h2, h3⟩ := h
    unfold putAt
    by_cases e : p.1 = k
    · rw [if_pos e, if_pos (h1.symm.trans e)]; exact ⟨h1, h2, ry⟩
    · rw [if_neg e, if_neg (fun z => e (h1.trans z))]; exact ⟨h1, h2, h3⟩
theorem KT.put {H : Hp} {kvs : List (List Key × V)} {xs : List (List Key × Addr × Value)} (r : KT H kvs xs) (k : List Key) {b : Addr} {y : V} {u : Value} (hb : H b = some (.tup (k.map kV))) (ry : RelV y u) :
    KT H (putK kvs k y) (storedH xs k b u) := by
  have e : (kvs.any fun kv => decide (kv.1 = k)) = (atKey xs k).isSome := by
    rw [valV_any, (r.val k).isSome_eq, Option.isSome_map]
  unfold putK storedH
  rw [e]
  by_cases q : (atKey xs k).isSome = true
  · rw [if_pos q, if_pos q]; exact r.repl k ry
  · rw [if_neg q, if_neg q]; exact Paired.snoc r ⟨rfl, hb, ry⟩
theorem KT.keeps {H H' : Hp} {kvs : List (List Key × V)} {xs : List (List Key × Addr × Value)} (r : KT H kvs xs) (ht : ∀ b ys, H b = some (.tup ys) → H' b = some (.tup ys)) : KT H' kvs xs :=
  Paired.mapP r fun _ _ z => ⟨z.1, ht _ _ z.2.1, z.2.2⟩

section
variable {P : Program} {w : World} {H : Hp} {h : Heap} {a : Addr}
theorem rd_of {u : HO} (ok : HOk P w H h) (e : Rd H a u) : ObjOk P w H h a u := e.ok ok
theorem dk_rd {kvs : List (Key × V)} (ok : HOk P w H h) (e : Rd H a (.dK kvs)) : kvs.length ≤ sizeLine ∧ (a == sysModules) = false ∧ ∃ vs, KV kvs vs ∧ h.DictOf (mixKind P w) a vs :=
  show ObjOk P w H h a (.dK kvs) from rd_of ok e
theorem dk_of {kvs : List (Key × V)} (ok : HOk P w H h) (e : H a = some (.dK kvs)) : kvs.length ≤ sizeLine ∧ (a == sysModules) = false ∧ ∃ vs, KV kvs vs ∧ h.DictOf (mixKind P w) a vs := dk_rd ok (.inl e)
theorem key_of {ks : List Key} (ok : HOk P w H h) (e : H a = some (.tup (ks.map kV))) : (tupleKind (mixKind P w)).is h ks a := by
  obtain ⟨_, its, r, o, h1, h2, n, h3⟩ := (show ObjOk P w H h a (.tup (ks.map kV)) from ok a _ e)
  exact ⟨o, its.toArray, n, h1, h2, h3, by simpa using items_are r⟩
theorem dt_rd {kvs : List (List Key × V)} (ok : HOk P w H h) (e : Rd H a (.dT kvs)) : kvs.length ≤ sizeLine ∧ (a == sysModules) = false ∧
    ∃ xs, KT H kvs xs ∧ h.DictOfH (tupleKind (mixKind P w)) a xs := by
  obtain ⟨z, y, xs, r, o, es, ep, h1, h2, h3, h4, h5⟩ := (show ObjOk P w H h a (.dT kvs) from rd_of ok e)
  refine ⟨z, y, xs, r, o, es, ep, h1, h2, h3, h4, fun x hx => ?_, h5⟩
  have all : ∀ {l : List (List Key × V)} {m : List (List Key × Addr × Value)}, KT H l m → ∀ x ∈ m, (tupleKind (mixKind P w)).is h x.1 x.2.1 := by
    intro l m q
    induction q with
    | nil => intro x hx; exact nomatch hx
    | @cons p q ps qs hq t ih =>
      intro x hx
      rcases List.mem_cons.mp hx with e | hx
      · subst e
        exact key_of ok (by rw [← hq.1]; exact hq.2.1)
      · exact ih x hx
  exact all r x hx
theorem dt_of {kvs : List (List Key × V)} (ok : HOk P w H h) (e : H a = some (.dT kvs)) : kvs.length ≤ sizeLine ∧ (a == sysModules) = false ∧
    ∃ xs, KT H kvs xs ∧ h.DictOfH (tupleKind (mixKind P w)) a xs := dt_rd ok (.inl e)
end

def DGet (H : Hp) (a : Addr) (y : V) (r : Option V) : Prop :=
  (∃ kvs k, Rd H a (.dK kvs) ∧ y = kV k ∧ r = valV kvs k) ∨ ∃ kvs k b, Rd H a (.dT kvs) ∧ y = .ref b ∧ H b = some (.tup (k.map kV)) ∧ r = valV kvs k
def DPut (H : Hp) (a : Addr) (y v : V) (H' : Hp) : Prop :=
  (∃ kvs k, H a = some (.dK kvs) ∧ y = kV k ∧ kvs.length < sizeLine ∧ H' = upd H a (.dK (putK kvs k v))) ∨
  ∃ kvs k b, H a = some (.dT kvs) ∧ y = .ref b ∧ H b = some (.tup (k.map kV)) ∧ kvs.length < sizeLine ∧ H' = upd H a (.dT (putK kvs k v))
theorem DGet.k {H : Hp} {a : Addr} {kvs : List (Key × V)} {k : Key} (e : H a = some (.dK kvs)) : DGet H a (kV k) (valV kvs k) := .inl ⟨kvs, k, .inl e, rfl, rfl⟩
theorem DGet.t {H : Hp} {a b : Addr} {kvs : List (List Key × V)} {k : List Key} (e : H a = some (.dT kvs)) (eb : H b = some (.tup (k.map kV))) : DGet H a (.ref b) (valV kvs k) := .inr ⟨kvs, k, b, .inl e, rfl, eb, rfl⟩
theorem DPut.k {H : Hp} {a : Addr} {kvs : List (Key × V)} {k : Key} {v : V} (e : H a = some (.dK kvs)) (hl : kvs.length < sizeLine) : DPut H a (kV k) v (upd H a (.dK (putK kvs k v))) := .inl ⟨kvs, k, e, rfl, hl, rfl⟩
theorem DPut.t {H : Hp} {a b : Addr} {kvs : List (List Key × V)} {k : List Key} {v : V} (e : H a = some (.dT kvs)) (eb : H b = some (.tup (k.map kV))) (hl : kvs.length < sizeLine) :
    DPut H a (.ref b) v (upd H a (.dT (putK kvs k v))) := .inr ⟨kvs, k, b, e, rfl, eb, hl, rfl⟩


section
variable {X : Cx} {pins : List (Addr × Obj)} {σ : St} {H : Hp} {s : Shared} {a : Addr} {y v : V} {u r : Value} {o : Option V} {A : Around} {E : Value → Shared → Prop}

theorem Inv.big (I : Inv X pins σ H s) : sysModules < s.heap.objs.size := by
  have h : mainGlobals < s.heap.objs.size := (I.mod.glob.keeps I.bk).lt
  exact Nat.lt_trans (by decide) h

theorem d_getItem {Q : Value → Shared → Prop} (hu : A.units + 1 < cLine) (I : Inv X pins σ H s) (g : DGet H a y (some v)) (ry : RelV y u) (h : ∀ w' s', Inv X pins σ H s' → RelV v w' → Q w' s') :
    wpAny (model X.prog X.w) A (getItem (.ref a) u) Q E s := by
  rcases g with ⟨kvs, k, e, ey, l⟩ | ⟨kvs, k, b, e, ey, eb, l⟩
  · subst ey
    obtain ⟨z, hd, vs, rel, dd⟩ := dk_rd I.hok e
    obtain ⟨w', hw, rw'⟩ := RelO.some_of (v := v) (o := valueAt vs k) (by rw [l]; exact rel.val k)
    exact wpAny_getItem_of (kV_is ry) dd.mapOf hw (h w' _ (I.tok _) rw')
  · subst ey
    cases (show u = Value.ref b from ry)
    obtain ⟨z, hd, xs, rel, dd⟩ := dt_rd I.hok e
    obtain ⟨w', hw, rw'⟩ := RelO.some_of (v := v) (o := (atKey xs k).map (·.2)) (by rw [l]; exact rel.val k)
    obtain ⟨p, hp, hp2⟩ := Option.map_eq_some_iff.mp hw
    refine wpAny_getItem_heap (tupleKind_room_in1 hu) (key_of I.hok eb) dd hp ?_
    rw [hp2]
    exact h w' _ (I.tok _) rw'
theorem d_in {Q : Value → Shared → Prop} (hu : A.units + 1 < cLine) (I : Inv X pins σ H s) (g : DGet H a y o) (ry : RelV y u) (h : ∀ s', Inv X pins σ H s' → Q (.bool o.isSome) s') :
    wpAny (model X.prog X.w) A (compareOp .In u (.ref a)) Q E s := by
  rcases g with ⟨kvs, k, e, ey, l⟩ | ⟨kvs, k, b, e, ey, eb, l⟩
  · subst ey
    obtain ⟨z, hd, vs, rel, dd⟩ := dk_rd I.hok e
    refine wpAny_in_of (kV_is ry) hd dd.mapOf ?_
    rw [← (rel.val k).isSome_eq, ← l]
    exact h _ (I.tok _)
  · subst ey
    cases (show u = Value.ref b from ry)
    obtain ⟨z, hd, xs, rel, dd⟩ := dt_rd I.hok e
    refine wpAny_in_heap (tupleKind_room_in1 hu) (key_of I.hok eb) hd dd ?_
    have q := (rel.val k).isSome_eq
    rw [Option.isSome_map] at q
    rw [← q, ← l]
    exact h _ (I.tok _)
theorem d_notIn {Q : Value → Shared → Prop} (hu : A.units + 1 < cLine) (I : Inv X pins σ H s) (g : DGet H a y o) (ry : RelV y u) (h : ∀ s', Inv X pins σ H s' → Q (.bool (!o.isSome)) s') :
    wpAny (model X.prog X.w) A (compareOp .NotIn u (.ref a)) Q E s := by
  rcases g with ⟨kvs, k, e, ey, l⟩ | ⟨kvs, k, b, e, ey, eb, l⟩
  · subst ey
    obtain ⟨z, hd, vs, rel, dd⟩ := dk_rd I.hok e
    refine wpAny_notIn_of (kV_is ry) hd dd.mapOf ?_
    rw [← (rel.val k).isSome_eq, ← l]
    exact h _ (I.tok _)
  · subst ey
    cases (show u = Value.ref b from ry)
    obtain ⟨z, hd, xs, rel, dd⟩ := dt_rd I.hok e
    refine wpAny_notIn_heap (tupleKind_room_in1 hu) (key_of I.hok eb) hd dd ?_
    have q := (rel.val k).isSome_eq
    rw [Option.isSome_map] at q
    rw [← q, ← l]
    exact h _ (I.tok _)
theorem d_write {h' : Heap} {t' : Nat} {ob : HO} (I : Inv X pins σ H s) (mu : Mut (H a)) (hs : Heap.SameBut a s.heap h') (he : ∃ q, h'.get? a = some q) (new : ObjOk X.prog X.w (upd H a ob) h' a ob) :
    Inv X pins σ (upd H a ob) { s with heap := h', toks := t' } :=
  I.write (x := a) (e := a) mu (.inl rfl) (fun b q hb z => (hs.2 b hb).trans z) he new
theorem dk_new {P : Program} {w : World} {H' : Hp} {h' : Heap} {kvs : List (Key × V)} {vs : List (Key × Value)} (z : kvs.length ≤ sizeLine) (hd : (a == sysModules) = false) (rel : KV kvs vs) (dd : h'.DictOf (mixKind P w) a vs) :
    ObjOk P w H' h' a (.dK kvs) := ⟨z, hd, vs, rel, dd⟩
theorem d_setItem {H' : Hp} {Q : Unit → Shared → Prop} (hu : A.units + 1 < cLine) (I : Inv X pins σ H s) (g : DPut H a y v H') (ry : RelV y u) (rv : RelV v r) (h : ∀ s', Inv X pins σ H' s' → Q () s') :
    wpAny (model X.prog X.w) A (setItem (.ref a) u r) Q E s := by
  rcases g with ⟨kvs, k, e, ey, l, eH⟩ | ⟨kvs, k, b, e, ey, eb, l, eH⟩
  · subst ey eH
    obtain ⟨z, hd, vs, rel, dd⟩ := dk_of I.hok e
    have hz : vs.length ≤ sizeLine := by rw [← rel.length]; exact z
    have hl : (putK kvs k v).length ≤ sizeLine := by have := length_putK kvs k v; omega
    refine wpAny_setItem_pairs (hsz := hz) (kV_is ry) dd fun h' dd' hs => h _ ?_
    have he : ∃ q, h'.get? a = some q := let ⟨q, _, _, hq, _⟩ := dd'; ⟨q, hq⟩
    exact d_write I (by rw [e]; exact True.intro) hs he (dk_new hl hd (rel.put k rv) dd')
  · subst ey eH
    cases (show u = Value.ref b from ry)
    obtain ⟨z, hd, xs, rel, dd⟩ := dt_of I.hok e
    have hz : xs.length ≤ sizeLine := by rw [← Paired.length rel]; exact z
    have hl : (putK kvs k v).length ≤ sizeLine := by have := length_putK kvs k v; omega
    refine wpAny_setItem_heap (hsz := hz) (tupleKind_room_in1 hu) (key_of I.hok eb) dd fun h' dd' hs => h _ ?_
    obtain ⟨q, es, ep, hq, h2, h3, h4, _, h5⟩ := dd'
    refine d_write I (by rw [e]; exact True.intro) hs ⟨q, hq⟩ ⟨hl, hd, _, (rel.put k eb rv).keeps fun c ys ec => ?_, q, es, ep, hq, h2, h3, h4, h5⟩
    rw [upd_ne (ne_of ec e (fun z => nomatch z))]
    exact ec
end

section
variable {X : Cx} {pins : List (Addr × Obj)} {σ : St} {H : Hp} {s : Shared} {a : Addr} {kvs : List (Key × V)} {k : Key} {u : Value} {A : Around} {E : Value → Shared → Prop}
theorem d_len {Q : Value → Shared → Prop} (I : Inv X pins σ H s) (e : Rd H a (.dK kvs)) (h : ∀ t s', Inv X pins σ H s' → Q (.int kvs.length t) s') : wpAny (model X.prog X.w) A (call (.builtin "len") [.ref a]) Q E s := by
  obtain ⟨z, hd, vs, rel, dd⟩ := dk_rd I.hok e
  refine call_len_dict hd dd (by rw [← rel.length]; rw [sizeLine_eq] at z; omega) ?_
  rw [← rel.length]
  exact h _ _ (I.tok _)
end


def NoSl (i : Expr) : Prop := ∀ ov iv, subscripted i false ov iv = operate [ov, iv] (getItem ov iv)
theorem subD_of {prog : Program} {w : World} {A : Around} {E : Value → Shared → Prop} {s : Shared} {env : Env} {value slice : Expr} {pos : Pos} {T id : String} {Q : Value → Shared → Prop}
    (hl : typeLookup (.type T) "__getitem__" = pure (some (.builtin id))) (hs : NoSl slice)
    (h : wpAny (model prog w) A (eval value env) (fun o s₁ => wpAny (model prog w) A (eval slice env) (fun i s₂ => s₂.TypeIs o T ∧ wpAny (model prog w) A (getItem o i) Q E s₂) E s₁) E s) :
    wpAny (model prog w) A (eval (.Subscript value slice pos) env) Q E s := by
  refine Subscript_ (wpAny_mono h (fun o s₁ h₁ => wpAny_mono h₁ (fun i s₂ h₂ => ?_) fun _ _ x => x) fun _ _ x => x)
  obtain ⟨hT, h₂⟩ := h₂
  unfold subscriptTail
  refine wpAny_bind ?_
  rw [getitemInPython_of_ne hT.not_modules]
  refine wpAny_bind (wpAny_specialOf hT hl ?_)
  have fin : wpAny (model prog w) A (subscripted slice false o i) (fun r s₃ => wpAny (model prog w) A (letTemporaryGo value o r >>= fun _ => pure r) Q E s₃) E s₂ := by
    rw [hs o i]
    exact wpAny_operating (wpAny_mono h₂ (fun r s₃ h₃ => wpAny_bind (wpAny_letTemporaryGo (wpAny_pure h₃))) fun _ _ x => x)
  first
    | exact wpAny_pure (wpAny_bind fin)
    | exact wpAny_bind (wpAny_pure (wpAny_bind fin))
    | exact wpAny_bind fin

theorem dict_typeIs {X : Cx} {pins : List (Addr × Obj)} {σ : St} {H : Hp} {s : Shared} {a : Addr} {y : V} {o : Option V} (I : Inv X pins σ H s) (g : DGet H a y o) : s.TypeIs (.ref a) "dict" := by
  rcases g with ⟨kvs, k, e, _, _⟩ | ⟨kvs, k, b, e, _, _, _⟩
  · obtain ⟨_, _, vs, _, dd⟩ := dk_rd I.hok e
    exact dd.typeIs
  · obtain ⟨_, _, xs, _, dd⟩ := dt_rd I.hok e
    exact dd.typeIs
def tDGet (td ty : TE) : TE := fun σ H Q => td σ H fun x H1 => ty σ H1 fun y H2 => ∃ a v, x = .ref a ∧ DGet H2 a y (some v) ∧ Q v H2
def tDIn (ty td : TE) : TE := fun σ H Q => ty σ H fun y H1 => td σ H1 fun x H2 => ∃ a o, x = .ref a ∧ DGet H2 a y o ∧ Q (.bl o.isSome) H2
def tDNotIn (ty td : TE) : TE := fun σ H Q => ty σ H fun y H1 => td σ H1 fun x H2 => ∃ a o, x = .ref a ∧ DGet H2 a y o ∧ Q (.bl (!o.isSome)) H2
def sDPut (td ty tv : TE) : TS := fun D σ H => tv σ H fun v H1 => td σ H1 fun x H2 => ty σ H2 fun y H3 => ∃ a H4, x = .ref a ∧ DPut H3 a y v H4 ∧ D.nx σ H4
def sDAug (td ty tv : TE) (rd : V → V → Hp → VK → Prop) : TS := fun D σ H => td σ H fun x H1 => ty σ H1 fun y H2 => ∃ a v, x = .ref a ∧ DGet H2 a y (some v) ∧
  tv σ H2 fun y2 H3 => rd v y2 H3 fun z H4 => ∃ H5, DPut H4 a y z H5 ∧ D.nx σ H5
def sDDel (td ty : TE) : TS := fun D σ H => td σ H fun x H1 => ty σ H1 fun y H2 => ∃ a kvs k, x = .ref a ∧ H2 a = some (.dK kvs) ∧ y = kV k ∧ (valV kvs k).isSome = true ∧ D.nx σ (upd H2 a (.dK (dropK kvs k)))

section
variable {X : Cx} {o i e value : Expr} {pos pos' tpos : Pos} {td ty tv : TE}
theorem pe_dget (hu : X.A.units + 1 < cLine) (ho : PE X o td) (hi : PE X i ty) (hs : NoSl i) : PE X (.Subscript o i pos) (tDGet td ty) := by
  intro pins s σ H Q I h
  refine subD_of PySem.F.slot_dict_getitem.lookup hs (thn (ho pins s σ H _ I h) fun u s1 ⟨x, H1, I1, rx, q1⟩ => thn (hi pins s1 σ H1 _ I1 q1) fun iv s2 ⟨y, H2, I2, ry, a, v, ex, g, q2⟩ => ?_)
  subst ex
  obtain rfl : u = Value.ref a := rx
  exact ⟨dict_typeIs I2 g, d_getItem hu I2 g ry fun w' s3 I3 rw' => ⟨v, H2, I3, rw', q2⟩⟩
theorem pc_din (hu : X.A.units + 1 < cLine) (hi : PE X i ty) (ho : PE X o td) : PC X .In i o (tDIn ty td) := by
  intro pins s σ H Q I h
  refine thn (hi pins s σ H _ I h) fun iv s1 ⟨y, H1, I1, ry, q1⟩ => thn (ho pins s1 σ H1 _ I1 q1) fun u s2 ⟨x, H2, I2, rx, a, ov, ex, g, q2⟩ => ?_
  subst ex
  obtain rfl : u = Value.ref a := rx
  exact d_in hu I2 g ry fun s3 I3 => ⟨.bl ov.isSome, H2, I3, rfl, q2⟩
theorem pc_dnotin (hu : X.A.units + 1 < cLine) (hi : PE X i ty) (ho : PE X o td) : PC X .NotIn i o (tDNotIn ty td) := by
  intro pins s σ H Q I h
  refine thn (hi pins s σ H _ I h) fun iv s1 ⟨y, H1, I1, ry, q1⟩ => thn (ho pins s1 σ H1 _ I1 q1) fun u s2 ⟨x, H2, I2, rx, a, ov, ex, g, q2⟩ => ?_
  subst ex
  obtain rfl : u = Value.ref a := rx
  exact d_notIn hu I2 g ry fun s3 I3 => ⟨.bl (!ov.isSome), H2, I3, rfl, q2⟩
theorem ps_dput (hu : X.A.units + 1 < cLine) (ho : PE X o td) (hi : PE X i ty) (hv : PE X value tv) (hs : swapsWith value (some (.Subscript o i pos')) pos.line X.env = pure false) :
    PS X (.Assign [.Subscript o i pos'] value pos) (sDPut td ty tv) := by
  intro pins s σ H D I h
  refine wpAny_Assign_Subscript (thn (hv pins s σ H _ I h) fun r s1 ⟨v, H1, I1, rv, q1⟩ => thn (ho pins s1 σ H1 _ I1 q1) fun u s2 ⟨x, H2, I2, rx, q2⟩ => thn (hi pins s2 σ H2 _ I2 q2) fun iv s3 ⟨y, H3, I3, ry, a, H4, ex, g, q3⟩ => ?_) hs
  subst ex
  obtain rfl : u = Value.ref a := rx
  exact d_setItem hu I3 g ry rv fun s4 I4 => ⟨σ, H4, I4, q3⟩
end


theorem dk_empty {P : Program} {w : World} {H : Hp} (h : Heap) (hb : sysModules < h.objs.size) : ObjOk P w H (h.push { cls := .type "dict", data := .dict #[] }) h.objs.size (.dK []) :=
  ⟨Nat.zero_le _, beq_eq_false_iff_ne.mpr (Ne.symm (Nat.ne_of_lt hb)), [], .nil, Heap.DictOf.new h⟩
def tDNewK : TE := fun _ H Q => ∀ p, H p = none → Q (.ref p) (upd H p (.dK []))
def tDNewT : TE := fun _ H Q => ∀ p, H p = none → Q (.ref p) (upd H p (.dT []))
section
variable {X : Cx} {pos : Pos}
theorem pe_dnewK : PE X (.Dict [] [] pos) tDNewK := fun pins s σ H Q I h =>
  wpAny_Dict_empty ⟨.ref s.heap.objs.size, _, I.laid (a := s.heap.objs.size) (o := .dK []) (t' := s.toks) (fun _ _ q => Heap.get?_push_of_some _ q) (Nat.le_refl _) (dk_empty s.heap I.big), rfl, h _ (I.hok.fresh (Nat.le_refl _))⟩
end

def tPairs : List (TE × TE) → St → Hp → (List (V × V) → Hp → Prop) → Prop
  | [], _, H, Q => Q [] H
  | (tk, tv) :: r, σ, H, Q => tk σ H fun x H1 => tv σ H1 fun y H2 => tPairs r σ H2 fun ps H3 => Q ((x, y) :: ps) H3
abbrev VV : List (V × V) → List (Value × Value) → Prop := Paired fun p q => RelV p.1 q.1 ∧ RelV p.2 q.2
def PPs (X : Cx) (pos : Pos) (keys : List (Option Expr)) (values : List Expr) (trs : List (TE × TE)) : Prop :=
  ∀ (pins : List (Addr × Obj)) (s : Shared) (σ : St) (H : Hp) (Q : List (V × V) → Hp → Prop), Inv X pins σ H s → tPairs trs σ H Q →
    wpAny (model X.prog X.w) X.A (evalPairs (pairTrees keys values X.env pos)) (fun vs s' => ∃ ps H', Inv X pins σ H' s' ∧ VV ps vs ∧ Q ps H') X.xe s
def mergeK (kvs more : List (Key × V)) : List (Key × V) := more.foldl (fun acc kv => putK acc kv.1 kv.2) kvs
def tDisp (trs : List (TE × TE)) : TE := fun σ H Q => ∀ p, H p = none → tPairs trs σ (upd H p (.dK [])) fun ps H2 => H2 p = some (.dK []) ∧ ∃ kvs : List (Key × V), ps = kvs.map (fun kv => (kV kv.1, kv.2)) ∧ kvs.length ≤ 15 ∧ Q (.ref p) (upd H2 p (.dK (mergeK [] kvs)))
structure M1 (X : Cx) (o : Expr) (m : Str) (apos : Pos) (e : Expr) (cpos : Pos) : Prop where
  base : attributeBase o m X.env (eval o X.env) = eval o X.env
  few : ((backTo cpos (starEach [e] X.env)).all (fun x => !x.1) && (backToKw cpos (keywordEach [] X.env)).all (fun x => x.1.isSome)
    && decide (([e] : List Expr).length + ([] : List Keyword).length + (if ([] : List Keyword).isEmpty then 0 else 1) < 30)) = true
  line : (apos.endLine == cpos.line) = true
  trees : backTo cpos (starEach [e] X.env) = [(false, eval e X.env)]
structure M2 (X : Cx) (o : Expr) (m : Str) (apos : Pos) (e f : Expr) (cpos : Pos) : Prop where
  base : attributeBase o m X.env (eval o X.env) = eval o X.env
  few : ((backTo cpos (starEach [e, f] X.env)).all (fun x => !x.1) && (backToKw cpos (keywordEach [] X.env)).all (fun x => x.1.isSome)
    && decide (([e, f] : List Expr).length + ([] : List Keyword).length + (if ([] : List Keyword).isEmpty then 0 else 1) < 30)) = true
  line : (apos.endLine == cpos.line) = true
  trees : backTo cpos (starEach [e, f] X.env) = [(false, eval e X.env), (false, eval f X.env)]

def IsD (H : Hp) (a : Addr) : Prop := (∃ kvs, Rd H a (.dK kvs)) ∨ ∃ kvs, Rd H a (.dT kvs)
theorem isD_at {X : Cx} {pins : List (Addr × Obj)} {σ : St} {H : Hp} {s : Shared} {a : Addr} (I : Inv X pins σ H s) (d : IsD H a) :
    s.TypeIs (.ref a) "dict" ∧ (∀ b, Value.ref a = .ref b → ∃ ob, s.heap.get? b = some ob ∧ ob.dict = none) ∧ (a == sysModules) = false := by
  rcases d with ⟨kvs, e⟩ | ⟨kvs, e⟩
  · obtain ⟨_, hd, vs, _, dd⟩ := dk_rd I.hok e
    refine ⟨dd.typeIs, fun b q => ?_, hd⟩
    cases q
    obtain ⟨ob, _, _, h1, h2, _⟩ := dd
    exact ⟨ob, h1, h2.2.1⟩
  · obtain ⟨_, hd, xs, _, dd⟩ := dt_rd I.hok e
    refine ⟨dd.typeIs, fun b q => ?_, hd⟩
    cases q
    obtain ⟨ob, _, _, h1, h2, _⟩ := dd
    exact ⟨ob, h1, h2.2.1⟩

section
variable {X : Cx} {pins : List (Addr × Obj)} {σ : St} {H : Hp} {s : Shared} {a : Addr} {y d : V} {u r : Value} {o : Option V} {A : Around} {E : Value → Shared → Prop}
theorem d_get2 {Q : Value → Shared → Prop} (hu : A.units + 1 < cLine) (I : Inv X pins σ H s) (g : DGet H a y o) (ry : RelV y u) (rd : RelV d r) (h : ∀ w' s', Inv X pins σ H s' → RelV (o.getD d) w' → Q w' s') :
    wpAny (model X.prog X.w) A (call (.builtin "dict.get") [.ref a, u, r]) Q E s := by
  rcases g with ⟨kvs, k, e, ey, l⟩ | ⟨kvs, k, b, e, ey, eb, l⟩
  · subst ey
    obtain ⟨z, hd, vs, rel, dd⟩ := dk_rd I.hok e
    refine call_meetsIn PySem.F.slot_dict_get dd.typeIs PySem.F.entry_dict_get (PySem.F.args_dict_get_3 _ _ _) (meets_dict_get_default (mixKind X.prog X.w) a (kV_is ry) hd r) ⟨_, dd.mapOf, h _ _ (I.tok _) ?_⟩
    rw [l]
    exact (rel.val k).getD rd
  · subst ey
    cases (show u = Value.ref b from ry)
    obtain ⟨z, hd, xs, rel, dd⟩ := dt_rd I.hok e
    refine call_meetsIn PySem.F.slot_dict_get dd.typeIs PySem.F.entry_dict_get (PySem.F.args_dict_get_3 _ _ _) (meetsH_dict_get_default (tupleKind (mixKind X.prog X.w)) a b hd r) ⟨tupleKind_room_in1 hu, k, xs, key_of I.hok eb, dd, h _ _ (I.tok _) ?_⟩
    rw [l]
    exact (rel.val k).getD rd
end

def tDGet1 (td ty : TE) : TE := fun σ H Q => td σ H fun x H1 => ∃ a, x = .ref a ∧ IsD H1 a ∧ ty σ H1 fun y H2 => ∃ o, DGet H2 a y o ∧ Q (o.getD .non) H2
def tDGet2 (td ty tx : TE) : TE := fun σ H Q => td σ H fun x H1 => ∃ a, x = .ref a ∧ IsD H1 a ∧ ty σ H1 fun y H2 => tx σ H2 fun z H3 => ∃ o, DGet H3 a y o ∧ Q (o.getD z) H3
def tDPop1 (td ty : TE) : TE := fun σ H Q => td σ H fun x H1 => ∃ a, x = .ref a ∧ IsD H1 a ∧ ty σ H1 fun y H2 => ∃ kvs k v, H2 a = some (.dK kvs) ∧ y = kV k ∧ valV kvs k = some v ∧ Q v (upd H2 a (.dK (dropK kvs k)))
def tDPop2 (td ty tx : TE) : TE := fun σ H Q => td σ H fun x H1 => ∃ a, x = .ref a ∧ IsD H1 a ∧ ty σ H1 fun y H2 => tx σ H2 fun z H3 => ∃ kvs k, H3 a = some (.dK kvs) ∧ y = kV k ∧
  (∀ v, valV kvs k = some v → Q v (upd H3 a (.dK (dropK kvs k)))) ∧ (valV kvs k = none → Q z H3)
section
variable {X : Cx} {o e f : Expr} {apos cpos : Pos} {td ty tx : TE}
theorem pe_dget2 (hu : X.A.units + 1 < cLine) (ho : PE X o td) (he : PE X e ty) (hf : PE X f tx) (m : M2 X o "get" apos e f cpos) : PE X (.Call (.Attribute o "get" apos) [e, f] [] cpos) (tDGet2 td ty tx) := by
  intro pins s σ H Q I h
  refine wpAny_Call_method m.base m.few m.line PySem.F.plainAttrs_dict PySem.F.slot_dict_get PySem.F.type_dict_get (thn (ho pins s σ H _ I h) fun u s1 ⟨x, H1, I1, rx, a, ex, d, q1⟩ => ?_)
  subst ex
  obtain rfl : u = Value.ref a := rx
  obtain ⟨t1, t2, _⟩ := isD_at I1 d
  refine ⟨t1, t2, ?_⟩
  rw [m.trees]
  refine Calls.callWith_builtin rfl (Calls.evalArgs_plain (Calls.spliced_cons (thn (he pins s1 σ H1 _ I1 q1) fun iv s2 ⟨y, H2, I2, ry, q2⟩ =>
    Calls.spliced_cons (thn (hf pins s2 σ H2 _ I2 q2) fun fv s3 ⟨z, H3, I3, rz, ov, g, q3⟩ => Calls.spliced_nil ?_))))
  exact d_get2 hu I3 g ry rz fun w' s4 I4 rw' => ⟨_, H3, I4, rw', q3⟩
end

section
variable {X : Cx} {pins : List (Addr × Obj)} {σ : St} {H : Hp} {s : Shared} {a : Addr} {kvs : List (Key × V)} {A : Around} {E : Value → Shared → Prop}
end


section
variable {X : Cx} {pins : List (Addr × Obj)} {σ : St} {H : Hp} {s : Shared} {a : Addr} {y : V} {u : Value} {A : Around} {E : Value → Shared → Prop}
end
end L2

set_option maxHeartbeats 4000000
namespace Ty
open PySem PySem.Spec PyProof.Rows L2
section
variable {X : Cx}
theorem seer_of {pins : List (Addr × Obj)} {σ : L2.St} {H : Hp} {s : Shared} (I : Inv X pins σ H s) : s.heap.NoSeer := I.ok.mod.seer.keeps I.bk
theorem Room.py {k : Nat} {A : Around} (r : Room k A) (h : 32 ≤ k) : A.depth + Builtin.pylongFrames < recursionLimit := by
  have := r.dp
  have : Builtin.pylongFrames = 100 := rfl
  omega
theorem op_fdivU {env : Env} {l : List Env} (ht : X.prog.given.tree = none) (hd : X.A.depth + Builtin.pylongFrames < recursionLimit) (hst : X.stack = env :: l) (h1 : env.scope.isGenerator = false) (h2 : env.scope.isCoroutine = false) (h3 : env.builtins = builtinsNs) (h4 : env.globals = mainGlobals) :
    OpR X (binaryOp .FloorDiv) (rI CMod fun i j => .int (i.fdiv j)) := by
  intro pins s σ H x y v u Q I rx ry h
  obtain ⟨i, j, rfl, rfl, hc, q⟩ := h
  obtain ⟨t, rfl⟩ := rx
  obtain ⟨t', rfl⟩ := ry
  exact floordiv_int hc ⟨.int _, H, I.tok _, ⟨_, rfl⟩, q⟩ (.inr (PylongRoom.of I.nolimit hd (SeerAt.of (seer_of I) ht (by rw [I.ok.frames, hst]) h1 h2 h3 h4)))
end
end Ty

set_option maxHeartbeats 4000000
namespace Ty
open PySem PySem.Spec PyProof.Rows L2
section
variable {prog : Program} {w : World} {A : Around} {E : Value → Shared → Prop} {s : Shared} {KK : Type} [DecidableEq KK] {knd : KeyKind prog w KK}
theorem hint_dict {d : Addr} {kvs : List (KK × Value)} {Q : Bool → Shared → Prop} (hm : s.heap.DictOf knd d kvs) (h : Q false s) : wpAny (model prog w) A (Builtin.List.listLengthHint (.ref d)) Q E s := by
  unfold Builtin.List.listLengthHint
  refine wpAny_bind (wpAny_specialOf (name := Str.ofString "__len__") hm.typeIs F.slot_dict_len.lookup ?_)
  generalize hid : ("dict.__len__" : String) = id0
  wp_delta
  rw [show splitId id0 = some ("dict", "__len__") from by subst hid; decide +kernel]
  subst hid
  refine wpAny_bind (wpAny_isInstance (T := "dict") (b := true) hm.typeIs (by rw [isSubtype_type]; kernel_rfl) ?_)
  refine wpAny_ite_split (fun hab => absurd hab (by decide)) (fun _ => ?_)
  refine wpAny_ite_split (fun _ => ?_) (fun hab => absurd (by decide +kernel) hab)
  refine wpAny_bind (wpAny_typeOf (T := "dict") hm.typeIs ?_)
  exact wpAny_pure h
theorem extend_dict {R : Result → Shared → Prop} {d : Addr} {kvs : List (KK × Value)} {ep : Nat} (hh : A.handled = none) (hd : (d == sysModules) = false) (hm : s.heap.DictAt knd d kvs ep) (hlen : kvs.length ≤ sizeLine) (S : Addr) (res : Value) (c₀ : Nat) (hS : s.heap.get? S = some { cls := .type "list", data := .seq #[] c₀ })
    (hR : ∀ h' tk acc' c', (∀ b o, b ≠ S → s.heap.get? b = some o → h'.get? b = some o) → h'.get? S = some { cls := .type "list", dict := none, data := .seq acc' c', slots := #[] } →
      ItemsOf (fun i v => ∃ k x, kvs[i]? = some (k, x) ∧ knd.is k v = true) acc' kvs.length → R (.ok (.ret res)) { s with heap := h', toks := tk }) :
    wpAny (model prog w) A.in1 (Builtin.List.listExtendWith (.ref S) (.ref d) res)
      (fun fin s' => match fin with | .done f => R (.ok f) s' | .again c' => c'.quiet = true ∧ codeAny (model prog w) A c' R s') (fun e s' => R (.error e) s') s := by
  obtain ⟨od, es, hod, hcd, hdat, hk0, hp0, hn0⟩ := id hm
  have hT : s.TypeIs (.ref d) "dict" := hm.dictOf.typeIs
  have hSd : S ≠ d := fun e => by
    rw [e] at hS
    rw [hS] at hod
    cases hod
    cases hdat
  have hdI : d ≠ s.heap.objs.size := Nat.ne_of_lt (Heap.lt_size hod)
  have hSI : S ≠ s.heap.objs.size := Nat.ne_of_lt (Heap.lt_size hS)
  have hSf : S ∉ [s.heap.objs.size, d] := fun hm => by
    rcases List.mem_cons.mp hm with z | z
    · exact hSI z
    · exact hSd (List.mem_singleton.mp z)
  have W := (Walks.dictKeys (knd := knd) (A := A.in1) hh s.heap.objs.size d hdI kvs ep).toS
  unfold Builtin.List.listExtendWith
  refine wpAny_bind (wpAny_typeOf (T := "dict") hT ?_)
  have h1 : Builtin.List.listSameRef (.ref S) (.ref d) = false := by simp [Builtin.List.listSameRef, hSd]
  have h2 : (Value.type "dict" == Value.type "list") = false := by decide
  have h3 : (Value.type "dict" == Value.type "tuple") = false := by decide
  simp only [h1, h2, h3, Bool.or_false, Bool.false_eq_true, if_false]
  refine wpAny_bind (wpAny_pyIter_dict hd hm ?_)
  have hm1 : (s.heap.push { cls := .type "dict_keyiterator", data := .fields #[.ref d, .int 0 0, .int kvs.length 0, .int ep 0] }).DictAt knd d kvs ep := hm.at' fun o e => Heap.get?_push_of_some _ e
  refine wpAny_bind (wpAny_holding (hint_dict (knd := knd) hm1.dictOf ?_))
  have hS₁ := Heap.get?_push_of_some { cls := .type "dict_keyiterator", data := .fields #[.ref d, .int 0 0, .int kvs.length 0, .int ep 0] } hS
  have it₁ : (s.heap.push { cls := .type "dict_keyiterator", data := .fields #[.ref d, .int 0 0, .int kvs.length 0, .int ep 0] }).IsKeyIter s.heap.objs.size d 0 kvs.length ep := ⟨_, Heap.get?_push_size _ rfl, rfl, rfl⟩
  have key : ∀ (h : Heap) (c₁ tk : Nat), h.IsKeyIter s.heap.objs.size d 0 kvs.length ep → h.DictAt knd d kvs ep → (∀ b o, b ≠ S → s.heap.get? b = some o → h.get? b = some o) →
      h.get? S = some { cls := .type "list", data := .seq #[] c₁ } → codeAny (model prog w) A (.builtin "list.extend.loop" ⟨[.ref S, .ref s.heap.objs.size, res], []⟩) R { s with heap := h, toks := tk } := by
    intro h c₁ tk hit hdm hk hS₁
    refine codeAny_extend_loopS W hlen S hSf res kvs.length 0 _ #[] c₁ rfl (Nat.zero_le _) ⟨hit, hdm⟩ hS₁ (ItemsOf.nil _) fun s' acc' c' hm' hS' hacc => ?_
    rw [Moved.eq_with hm']
    refine hR s'.heap s'.toks acc' c' (fun b o hb e => hm'.heap b o (fun hmem => ?_) (hk b o hb e)) hS' hacc
    rcases List.mem_cons.mp hmem with e' | hmem
    · exact hb e'
    · exact absurd (Heap.lt_size e) (by rw [List.mem_singleton.mp hmem]; exact Nat.lt_irrefl _)
  refine wpAny_ite_split (fun _ => ?_) (fun _ => wpAny_pure ⟨plainId_quiet F.plain_extend_loop _, key _ c₀ _ it₁ hm1 (fun b o _ e => Heap.get?_push_of_some _ e) hS₁⟩)
  refine wpAny_bind (wpAny_rule ?_)
  refine wpAny_bind ?_
  show wpAny _ _ (updateSeq S (·.push .none) >>= fun _ => updateSeq S (·.pop)) _ _ _
  refine wpAny_bind (wpAny_updateSeq hS₁ rfl ?_)
  have hS₂ := Heap.get?_update_self (Obj.mapSeq (·.push Value.none)) hS₁ rfl
  refine wpAny_updateSeq (hz := by seq_fits) hS₂ rfl ?_
  have hS₃ := Heap.get?_update_self (Obj.mapSeq (·.pop)) hS₂ rfl
  refine wpAny_pure ⟨plainId_quiet F.plain_extend_loop _, key _ _ _ (it₁.at fun o e => ?_) (hm1.at' fun o e => ?_) (fun b o hb e => ?_) hS₃⟩
  · exact (Heap.get?_update_other _ _ hSI).trans ((Heap.get?_update_other _ _ hSI).trans e)
  · exact (Heap.get?_update_other _ _ hSd).trans ((Heap.get?_update_other _ _ hSd).trans e)
  · exact (Heap.get?_update_other _ _ (Ne.symm hb)).trans ((Heap.get?_update_other _ _ (Ne.symm hb)).trans (Heap.get?_push_of_some _ e))
theorem list_init_dict {R : Result → Shared → Prop} {d : Addr} {kvs : List (KK × Value)} {ep : Nat} (hh : A.handled = none) (hd : (d == sysModules) = false) (hm : s.heap.DictAt knd d kvs ep) (hlen : kvs.length ≤ sizeLine) (S : Addr) (hS : s.heap.get? S = some { cls := .type "list", data := .seq #[] })
    (hR : ∀ h' tk acc' c', (∀ b o, b ≠ S → s.heap.get? b = some o → h'.get? b = some o) → h'.get? S = some { cls := .type "list", dict := none, data := .seq acc' c', slots := #[] } →
      ItemsOf (fun i v => ∃ k x, kvs[i]? = some (k, x) ∧ knd.is k v = true) acc' kvs.length → R (.ok (.ret .none)) { s with heap := h', toks := tk }) :
    wpAny (model prog w) A.in1 (Builtin.«list.__init__» ⟨[.ref S, .ref d], []⟩)
      (fun fin s' => match fin with | .done f => R (.ok f) s' | .again c' => c'.quiet = true ∧ codeAny (model prog w) A c' R s') (fun e s' => R (.error e) s') s := by
  obtain ⟨od, es, hod, hcd, hdat, hk0, hp0, hn0⟩ := id hm
  have hSd : S ≠ d := fun e => by
    rw [e] at hS
    rw [hS] at hod
    cases hod
    cases hdat
  show wpAny _ _ (do let old ← Builtin.List.listItems (.ref S); Builtin.List.listUpdate (.ref S) (fun _ => #[]); letGo old.toList.reverse; Builtin.List.listExtendWith (.ref S) (.ref d) .none) _ _ s
  refine wpAny_bind ?_
  unfold Builtin.List.listItems
  refine wpAny_bind (wpAny_seqItems hS rfl (wpAny_pure ?_))
  show wpAny _ _ (updateSeq S (fun _ => #[]) >>= fun _ => letGo (#[] : Array Value).toList.reverse >>= fun _ => Builtin.List.listExtendWith (.ref S) (.ref d) .none) _ _ s
  refine wpAny_bind (wpAny_updateSeq hS rfl ?_)
  have hS₂ := Heap.get?_update_self (Obj.mapSeq (fun _ => (#[] : Array Value))) hS rfl
  have oth : ∀ b o, b ≠ S → s.heap.get? b = some o → (s.heap.update S (Obj.mapSeq (fun _ => (#[] : Array Value)))).get? b = some o :=
    fun b o hb e => (Heap.get?_update_other _ _ (Ne.symm hb)).trans e
  refine wpAny_bind (wpAny_letGo ?_)
  refine extend_dict hh hd (hm.at' fun o e => oth d o (Ne.symm hSd) e) hlen S .none _ hS₂ fun h' tk acc' c' hk hS' hacc => ?_
  exact hR h' tk acc' c' (fun b o hb e => hk b o hb (oth b o hb e)) hS' hacc
theorem call_list_dict {Q : Value → Shared → Prop} {d : Addr} {kvs : List (KK × Value)} {ep : Nat} (hh : A.handled = none) (hd : (d == sysModules) = false) (hm : s.heap.DictAt knd d kvs ep) (hlen : kvs.length ≤ sizeLine)
    (hQ : ∀ h' tk acc' c', (∀ b o, s.heap.get? b = some o → h'.get? b = some o) →
      h'.get? s.heap.objs.size = some { cls := .type "list", dict := none, data := .seq acc' c', slots := #[] } → ItemsOf (fun i v => ∃ k x, kvs[i]? = some (k, x) ∧ knd.is k v = true) acc' kvs.length → Q (.ref s.heap.objs.size) { s with heap := h', toks := tk }) :
    wpAny (model prog w) A (call (.type "list") [.ref d]) Q E s := by
  refine callType_codes (Q₁ := fun obj s₁ => obj = .ref s.heap.objs.size ∧ s₁ = { s with heap := s.heap.push { cls := .type "list", data := .seq #[] } }) F.called_list (F.typeCall_list_1 _) F.entry_list_init
    (code_list_new _ ⟨rfl, rfl⟩) fun obj s₁ h₁ => ?_
  obtain ⟨rfl, rfl⟩ := h₁
  have hS : (s.heap.push { cls := .type "list", data := .seq #[] }).get? s.heap.objs.size = some { cls := .type "list", data := .seq #[] } := Heap.get?_push_size _ rfl
  refine ⟨⟨_, hS, rfl⟩, F.args_list_init_2 _ _, list_init_dict (A := A.in1) hh hd (hm.at' fun o e => Heap.get?_push_of_some _ e) hlen _ hS fun h' tk acc' c' hk hS' hacc => ?_⟩
  exact ⟨rfl, hQ h' tk acc' c' (fun b o e => hk b o (Nat.ne_of_lt (Heap.lt_size e)) (Heap.get?_push_of_some _ e)) hS' hacc⟩
end
theorem paired_get {α β : Type} {F : α → β → Prop} : ∀ {l₁ : List α} {l₂ : List β} {i : Nat} {a : α}, Paired F l₁ l₂ → l₁[i]? = some a → ∃ b, l₂[i]? = some b ∧ F a b
  | _, _, _, _, .nil, h => by simp at h
  | _, _, 0, _, .cons r _, h => by
    cases h
    exact ⟨_, rfl, r⟩
  | _, _, i + 1, _, .cons _ t, h => by
    obtain ⟨b, e, f⟩ := paired_get (i := i) t (by simpa using h)
    exact ⟨b, by simpa using e, f⟩
theorem paired_of {α β : Type} {F : α → β → Prop} : ∀ {l₁ : List α} {l₂ : List β}, l₁.length = l₂.length → (∀ (i : Nat) (a : α) (b : β), l₁[i]? = some a → l₂[i]? = some b → F a b) → Paired F l₁ l₂
  | [], [], _, _ => .nil
  | a :: l₁, b :: l₂, h, f => .cons (f 0 a b rfl rfl) (paired_of (by simpa using h) fun i a b e1 e2 => f (i + 1) a b (by simpa using e1) (by simpa using e2))
  | [], _ :: _, h, _ => by simp at h
  | _ :: _, [], h, _ => by simp at h
theorem key_rel {P : Program} {w : World} {k : Key} {u : Value} (h : (mixKind P w).is k u = true) : RelV (kV k) u := by
  rcases keyIs_shape h with ⟨i, t, rfl, rfl⟩ | ⟨x, t, rfl, rfl⟩
  · exact ⟨t, rfl⟩
  · exact ⟨t, rfl⟩
section
variable {X : Cx}
def rListD : List V → Hp → VK → Prop := fun xs H Q => ∃ (p : Addr) (kvs : List (Key × V)), xs = [.ref p] ∧ Rd H p (.dK kvs) ∧ ∀ l, H l = none → Q (.ref l) (upd H l (.lst (kvs.map fun kv => kV kv.1)))
theorem call_listD (hc : X.calm = true) : CallR X (.type "list") rListD := by
  intro pins s σ H xs us Q I r h
  obtain ⟨p, kvs, rfl, hq, q⟩ := h
  obtain ⟨u, rfl, r1⟩ := vals1 r
  cases r1
  obtain ⟨z, hd, vs, rel, o, es, ep, ho, hx, hdat, hk, hp, hn⟩ := dk_rd I.hok hq
  have hl := rel.length
  refine call_list_dict (knd := mixKind X.prog X.w) (I.ok.hd hc) hd ⟨o, es, ho, hx, hdat, hk, hp, hn⟩ (by omega) fun h' tk acc' c' kk hS hacc => ?_
  have hn' := I.hok.fresh (Nat.le_refl s.heap.objs.size)
  have rv : Vals (kvs.map fun kv => kV kv.1) acc'.toList := paired_of (by have := hacc.1; simp; omega) fun i a b e1 e2 => by
    rw [List.getElem?_map] at e1
    obtain ⟨kv, ek, rfl⟩ := Option.map_eq_some_iff.mp e1
    obtain ⟨q', eq, e3, _⟩ := paired_get rel ek
    obtain ⟨k, x, e4, e5⟩ := hacc.2 i b (by simpa using e2)
    rw [eq] at e4
    cases e4
    rw [e3]
    exact key_rel e5
  have I2 : Inv X pins σ (upd H s.heap.objs.size (.lst (kvs.map fun kv => kV kv.1))) { s with heap := h', toks := tk } := I.laid (t' := tk) kk (Nat.le_refl _) ⟨by rw [List.length_map]; exact z, acc'.toList, c', rv, by simpa using hS⟩
  exact ⟨.ref _, _, I2, rfl, q _ hn'⟩
theorem Inv.freeze {pins : List (Addr × Obj)} {σ : L2.St} {H : Hp} {s : Shared} {d : Addr} {kvs : List (Key × V)} {o : Obj} (I : Inv X pins σ H s) (e : H d = some (.dK kvs)) (ho : s.heap.get? d = some o) : Inv X pins σ (upd H d (.frz o (.dK kvs))) s := by
  have nx : ∀ b u, H b = some u → b ≠ d → upd H d (.frz o (.dK kvs)) b = some u := fun b u q n => by rw [upd_ne n]; exact q
  refine I.step (g' := s.gens) (t' := s.toks) (d' := s.drawn) (ch := []) (fun _ z => nomatch z) (fun b o _ _ _ e _ => e) (fun b o _ _ _ e _ => ⟨o.slots, e⟩) (fun b o _ _ n => by rw [upd_ne (fun z => by rw [z, e] at n; cases n)]; exact n) (fun b o _ e => ⟨o, e⟩)
    (fun b xs q => nx b _ q fun z => by rw [z, e] at q; cases q) (fun b o' u q => nx b _ q fun z => by rw [z, e] at q; cases q) (fun b ps q => ⟨#[], by rw [nx b _ q fun z => by rw [z, e] at q; cases q]; simp⟩) (fun m hm => hm) (fun b u q => ?_) I.bare
  by_cases hb : b = d
  · subst hb
    rw [upd_same] at q
    cases q
    exact ⟨ho, I.hok b _ e⟩
  · rw [upd_ne hb] at q
    exact (I.hok b u q).stay (fun _ _ _ k => k) (fun c k => nx c _ k fun z => by rw [z, e] at k; cases k) fun c xs k => nx c _ k fun z => by rw [z, e] at k; cases k
def Itd (d : Addr) (o : Obj) (kvs : List (Key × V)) : It :=
  ⟨fun i H => H d = some (.frz o (.dK kvs)) ∧ i < kvs.length,
   fun i H v H' => ∃ p k x, kvs[i]? = some (k, x) ∧ v = .ref p ∧ H p = none ∧ H' = upd H p (.tup [kV k, x]),
   fun i H => H d = some (.frz o (.dK kvs)) ∧ kvs.length ≤ i⟩
theorem frz_at {P : Program} {w : World} {H : Hp} {h : Heap} {d : Addr} {o : Obj} {kvs : List (Key × V)} {es0 : Array DictEntry} {ep : Nat} (ok : HOk P w H h) (e : H d = some (.frz o (.dK kvs))) (he : o.data = .dict es0 ep) :
    (d == sysModules) = false ∧ ∃ vs, KV kvs vs ∧ h.DictAt (mixKind P w) d vs ep ∧ kvs.length ≤ sizeLine := by
  obtain ⟨h1, z, hd, vs, rel, o', es, ep', ho, hx, hdat, hk, hp, hn⟩ := ok d _ e
  rw [h1] at ho
  cases ho
  rw [he] at hdat
  cases hdat
  exact ⟨hd, vs, rel, ⟨o, es0, h1, hx, he, hk, hp, hn⟩, z⟩
theorem entry_iter_items : entryFor table "dict_itemiterator.__iter__" = some Builtin.«dict_keyiterator.__iter__» :=
  entryFor_alias (id' := "dict_keyiterator.__iter__") (by kernel_rfl) (by first | rfl | decide +kernel | (unfold String.splitOn; simp +decide [String.splitOnAux])) (by decide +kernel) (by kernel_rfl)
theorem iter_items {P : Program} {w : World} {A : Around} {E : Value → Shared → Prop} {s : Shared} {it d : Addr} {i n ep : Nat} {ok ov : Value} {Q : Value → Shared → Prop} (st : IsItemIter s.heap it d i n ep ok ov) (h : Q (.ref it) s) : wpAny (model P w) A (pyIter (.ref it)) Q E s := by
  have hT : s.TypeIs (.ref it) "dict_itemiterator" := ⟨_, st, rfl⟩
  refine wpAny_pyIter_slot hT F.slot_dict_itemiterator_iter (wpAny_call_entry F.slot_dict_itemiterator_iter hT entry_iter_items ?_ (F.args_dict_itemiterator_iter_1 _))
  show wpAny _ _ (ret (.ref it)) _ _ s
  exact wpAny_pure ⟨_, rfl, "dict_itemiterator", _, hT, F.slot_dict_itemiterator_next.lookup, h⟩
theorem turn_items {P : Program} {w : World} {K : PySem.W.Frag} {es : List Expr} {k : Nat} {pos : Pos} (d it : Addr) (o : Obj) (kvs : List (Key × V)) {es0 : Array DictEntry} {ep : Nat} (he : o.data = .dict es0 ep) (hne : it ≠ d) :
    Turn P w K (.Tuple es k pos) (Itd d o kvs) [it] it (fun i h => ∃ ok ov, IsItemIter h it d i kvs.length ep ok ov) where
  mem := by simp
  obj := fun i h st b hb => by
    have e : b = it := by simpa using hb
    subst e
    obtain ⟨ok, ov, st⟩ := st
    exact ⟨_, st, fun v z => by cases z⟩
  keep := fun i h h' st k => by
    obtain ⟨ok, ov, st⟩ := st
    exact ⟨ok, ov, k it (by simp) _ st⟩
  item := by
    intro X hP hw hK hc i pins s σ H E I hf st hg
    subst hP hw hK
    obtain ⟨ok, ov, st⟩ := st
    obtain ⟨fz, hi⟩ := hg
    obtain ⟨hd, vs, rel, da, _⟩ := frz_at I.hok fz he
    have ek : kvs[i]? = some kvs[i] := List.getElem?_eq_getElem hi
    obtain ⟨⟨k', u⟩, ev, e1, ru⟩ := paired_get rel ek
    have lv := rel.length
    rw [lv] at st
    refine wpAny_pyNext_items_item st da ev fun key h' hkey out tup sz kk => ?_
    refine ⟨_, rfl, wpAny_letOwnedTupleGo_items (s := { s with heap := h' }) out fun h'' it'' sb => ?_⟩
    have hsz : ∀ c o, s.heap.get? c = some o → s.heap.objs.size ≠ c := fun c o e => Nat.ne_of_gt (Heap.lt_size e)
    have tz : s.heap.objs.size ≠ it := hsz _ _ st
    have nz : ∀ c, c ≠ it → ∀ o, h'.get? c = some o → h''.get? c = some o := fun c hc o e => (sb.2 c hc).trans e
    have hn := I.hok.fresh (Nat.le_refl s.heap.objs.size)
    have e1' : kvs[i].1 = k' := e1
    have I2 : Inv X pins σ (upd H s.heap.objs.size (.tup [kV kvs[i].1, kvs[i].2])) { s with heap := h'', toks := s.toks } :=
      Inv.turnedT I (fun b o hb e => nz b (by simpa using hb) o (kk b o (by simpa using hb) e)) hf (Nat.le_refl _) (by show 2 ≤ sizeLine; decide) (its := [key, u]) (.cons (by rw [e1']; exact key_rel hkey) (.cons ru .nil)) ⟨_, nz _ tz _ tup, rfl, _, rfl⟩
    refine ⟨.ref s.heap.objs.size, _, I2, rfl, ⟨s.heap.objs.size, kvs[i].1, kvs[i].2, ek, rfl, hn, rfl⟩, ⟨_, _, by rw [lv]; exact it''⟩, fun b hb => ?_⟩
    have eb : b = it := by simpa using hb
    rw [upd_ne (by rw [eb]; exact Ne.symm tz)]
    exact (hf b hb).1
  done := by
    intro X hP hw hK hc i pins s σ H E I hf st hg
    subst hP hw hK
    obtain ⟨ok, ov, st⟩ := st
    obtain ⟨fz, hi⟩ := hg
    obtain ⟨hd, vs, rel, da, _⟩ := frz_at I.hok fz he
    have lv := rel.length
    rw [lv] at st
    obtain ⟨f0, f1, f2, f3, f4, f5⟩ := hf it (by simp)
    exact wpAny_pyNext_items_end (I.ok.hd hc) st da (List.getElem?_eq_none (by omega)) fun h' eb => ⟨rfl, I.turned (t' := s.toks) (fun b o hb e => eb b o hb e) f0 f1 f3 f4 f5⟩
  self := fun _ _ _ _ _ st h => by
    obtain ⟨ok, ov, st⟩ := st
    exact iter_items st h
def iItems (te : TE) : TI := fun σ H R => te σ H fun x H1 => ∃ d kvs, x = .ref d ∧ H1 d = some (.dK kvs) ∧ ∀ o, R (Itd d o kvs) (upd H1 d (.frz o (.dK kvs)))
theorem pi_items {e : Expr} {te : TE} {apos cpos : Pos} {es : List Expr} {k : Nat} {tpos : Pos} (ho : PE X e te) (hbase : attributeBase e "items" X.env (eval e X.env) = eval e X.env := by rfl) (hline : (apos.endLine == cpos.line) = true := by rfl) :
    PI X (.Tuple es k tpos) (.Call (.Attribute e "items" apos) [] [] cpos) (iItems te) := by
  intro pins s σ H R I h
  refine wpAny_Call_method0_late hbase hline (thn (ho pins s σ H _ I h) fun v s1 ⟨x, H1, I1, r1, q1⟩ => ?_)
  obtain ⟨d, kvs, rfl, e, q⟩ := q1
  cases r1
  obtain ⟨z, hd, vs, rel, o, es1, ep, ho1, hx, hdat, hk, hp, hn⟩ := dk_of I1.hok e
  obtain ⟨h1, h2⟩ := tyV_is (T := "dict") I1 (show RelV (.ref d) (.ref d) from rfl) (.inr (.inr (.inl ⟨rfl, .inl ⟨kvs, e⟩⟩)))
  have da : s1.heap.DictAt (mixKind X.prog X.w) d vs ep := ⟨o, es1, ho1, hx, hdat, hk, hp, hn⟩
  have lv := rel.length
  refine ⟨"dict", "dict.items", F.plainAttrs_dict, F.slot_dict_items, F.type_dict_items, h1, h2, Calls.callWith_builtin rfl (PySem.evalArgs_none ?_)⟩
  refine call_meetsIn F.slot_dict_items h1 F.entry_dict_items (F.args_dict_items_1 _) (meets_dict_items (mixKind X.prog X.w) d hd) ⟨⟨vs, da.dictOf⟩, ?_⟩
  have I2 := Inv.freeze I1 e ho1
  have da2 : (s1.heap.push { cls := .type "dict_items", data := .fields #[.ref d] }).DictAt (mixKind X.prog X.w) d vs ep := da.at' fun o e => Heap.get?_push_of_some _ e
  show wpAny (model X.prog X.w) X.A (pyIter (.ref s1.heap.objs.size)) _ _ _
  refine wpAny_pyIter_items (s := { s1 with heap := s1.heap.push { cls := .type "dict_items", data := .fields #[.ref d] } }) ⟨_, Heap.get?_push_size _ rfl, rfl, rfl⟩ da2 ?_
  have sz : (s1.heap.push { cls := .type "dict_items", data := .fields #[.ref d] }).objs.size = s1.heap.objs.size + 1 := Heap.size_push ..
  have ne : (s1.heap.push { cls := .type "dict_items", data := .fields #[.ref d] }).objs.size ≠ d := by
    rw [sz]
    exact Ne.symm (Nat.ne_of_lt (Nat.lt_succ_of_lt (Heap.lt_size ho1)))
  have I3 : Inv X pins σ (upd H1 d (.frz o (.dK kvs))) { s1 with heap := (s1.heap.push { cls := .type "dict_items", data := .fields #[.ref d] }).push { cls := .type "dict_itemiterator", data := .fields #[.none, .bool false, .ref d, .int 0 0, .int vs.length 0, .int ep 0, .none, .none] } } := I2.kept (t' := s1.toks) fun b o e => Heap.get?_push_of_some _ (Heap.get?_push_of_some _ e)
  refine ⟨_, [_], _, _, _, rfl, I3, turn_items d _ o kvs hdat ne, ⟨_, _, by rw [lv]; exact Heap.get?_push_size _ rfl⟩, fun b hb => ?_, q o⟩
  have eb : b = (s1.heap.push { cls := .type "dict_items", data := .fields #[.ref d] }).objs.size := by simpa using hb
  have le : s1.heap.objs.size ≤ b := by rw [eb, sz]; exact Nat.le_succ _
  exact I2.fpOk le (I2.hok.fresh le)
end
end Ty

set_option maxHeartbeats 4000000
namespace Ty
def ev : List Int → (Nat → Rat) → Rat
  | [], _ => 0
  | a :: r, z => (a : Rat) * z 0 + ev r (fun i => z (i + 1))
theorem ev_lin {s t u : Int} : ∀ {new line lead : List Int}, new.length = line.length → lead.length = line.length → (∀ j, s * new.getD j 0 = t * line.getD j 0 - u * lead.getD j 0) → ∀ z : Nat → Rat, (s : Rat) * ev new z = t * ev line z - u * ev lead z
  | [], [], [], _, _, _, z => by simp [ev]; grind
  | a :: new, b :: line, c :: lead, h1, h2, h, z => by
    have h0 := h 0
    have ih := ev_lin (by simpa using h1) (by simpa using h2) (fun j => by simpa using h (j + 1)) (fun i => z (i + 1))
    simp at h0
    have h0' : (s : Rat) * a = t * b - u * c := by exact_mod_cast h0
    simp only [ev]
    grind
  | [], _ :: _, _, h, _, _, _ => by simp at h
  | _ :: _, [], _, h, _, _, _ => by simp at h
  | _, [], _ :: _, _, h, _, _ => by simp at h
  | _, _ :: _, [], _, h, _, _ => by simp at h
def csum : List Rat → List (List Int) → Nat → Rat
  | c :: y, o :: os, j => c * ((o.getD j 0 : Int) : Rat) + csum y os j
  | _, _, _ => 0
def Comb (os : List (List Int)) (l : List Int) : Prop := ∃ y : List Rat, y.length = os.length ∧ ∀ j, ((l.getD j 0 : Int) : Rat) = csum y os j
def zOf (y : List Rat) : Nat → Rat := fun i => if i < y.length then y.getD i 0 else -1
structure Clr (line lead new : List Int) (c : Nat) : Prop where
  len : new.length = line.length
  nought : new.getD c 0 = 0
  lin : ∃ s t u : Int, s ≠ 0 ∧ t ≠ 0 ∧ ∀ j, s * new.getD j 0 = t * line.getD j 0 - u * lead.getD j 0
theorem Clr.zero {line lead new : List Int} {c : Nat} (h : Clr line lead new c) {j : Nat} (h1 : line.getD j 0 = 0) (h2 : lead.getD j 0 = 0) : new.getD j 0 = 0 := by
  obtain ⟨s, t, u, hs, _, e⟩ := h.lin
  have := e j
  rw [h1, h2, Int.mul_zero, Int.mul_zero, Int.sub_self] at this
  rcases Int.mul_eq_zero.mp this with z | z
  · exact absurd z hs
  · exact z
theorem Clr.at {line lead new : List Int} {c : Nat} (h : Clr line lead new c) {j : Nat} (h2 : lead.getD j 0 = 0) (h1 : line.getD j 0 ≠ 0) : new.getD j 0 ≠ 0 := by
  obtain ⟨s, t, u, hs, ht, e⟩ := h.lin
  have := e j
  rw [h2] at this
  intro z
  rw [z, Int.mul_zero, Int.mul_zero, Int.sub_zero] at this
  rcases Int.mul_eq_zero.mp this.symm with y | y
  · exact ht y
  · exact h1 y
theorem Clr.ev {line lead new : List Int} {c : Nat} (h : Clr line lead new c) (hl : lead.length = line.length) {z : Nat → Rat} (h2 : Ty.ev lead z = 0) : Ty.ev new z = 0 ↔ Ty.ev line z = 0 := by
  obtain ⟨s, t, u, hs, ht, e⟩ := h.lin
  have k := ev_lin h.len hl e z
  rw [h2] at k
  have hs' := ratne hs
  have ht' := ratne ht
  constructor
  · intro w
    rw [w] at k
    grind
  · intro w
    rw [w] at k
    grind
end Ty

set_option maxHeartbeats 4000000
namespace Ty
open PySem PySem.Spec PyProof.Rows L2
def Itn (K : PySem.W.Frag) (a : Addr) : It :=
  ⟨fun i H => ∃ xs x, SqL K H a xs ∧ xs[i]? = some x,
   fun i H v H' => ∃ p x, (∀ xs, SqL K H a xs → xs[i]? = some x) ∧ v = .ref p ∧ H p = none ∧ H' = upd H p (.tup [.int (i : Int), x]),
   fun i H => ∃ xs, SqL K H a xs ∧ xs.length ≤ i⟩
section
variable {X : Cx}
def iEnum (K : PySem.W.Frag) (ta : TA) : TI := fun σ H R => ta σ H fun vs H1 => ∃ a, vs = [.ref a] ∧ (∃ xs, SqL K H1 a xs) ∧ R (Itn K a) H1
def rAny (K : PySem.W.Frag) : List V → Hp → VK → Prop := fun xs H Q => ∃ (p : Addr) (bs : List Bool), xs = [.ref p] ∧ SqL K H p (bs.map V.bl) ∧ Q (.bl (bs.any id)) H
end
theorem for_items {d : Addr} {o : Obj} {kvs : List (Key × V)} {g : TG} {tb : TS} {D : Ends} {σ : L2.St} {H : Hp} (Pv : Nat → L2.St → Hp → Prop) (h0 : Pv 0 σ H) (hl : ∀ i σ H, i ≤ kvs.length → Pv i σ H → H d = some (.frz o (.dK kvs)))
    (hs : ∀ i k x σ H p, kvs[i]? = some (k, x) → Pv i σ H → H p = none → g (.ref p) σ (upd H p (.tup [kV k, x])) fun σ2 H2 => tb { D with nx := Pv (i + 1), ct := Pv (i + 1), bk := D.nx } σ2 H2) (hd : ∀ σ H, Pv kvs.length σ H → D.nx σ H) :
    ∃ W : Nat → Nat → L2.St → Hp → Prop, (∃ m, W 0 m σ H) ∧ ∀ i m σ H, W i m σ H →
      ((Itd d o kvs).stop i H ∧ D.nx σ H) ∨ ((Itd d o kvs).go i H ∧ ∃ N : L2.St → Hp → Prop, (∀ σ' H', N σ' H' → ∃ m', m' < m ∧ W (i + 1) m' σ' H') ∧ ∀ x H', (Itd d o kvs).yld i H x H' → g x σ H' fun σ2 H2 => tb { D with nx := N, ct := N, bk := D.nx } σ2 H2) := by
  refine ⟨fun i m σ H => m = kvs.length - i ∧ i ≤ kvs.length ∧ Pv i σ H, ⟨kvs.length, by simp, Nat.zero_le _, h0⟩, ?_⟩
  rintro i m σ H ⟨rfl, hi, p⟩
  have q := hl i σ H hi p
  by_cases hlt : i < kvs.length
  · refine .inr ⟨⟨q, hlt⟩, Pv (i + 1), fun σ' H' z => ⟨kvs.length - (i + 1), by omega, rfl, by omega, z⟩, fun x H' y => ?_⟩
    obtain ⟨pp, k, x', y1, rfl, np, rfl⟩ := y
    exact hs i k x' σ H pp y1 p np
  · have e : i = kvs.length := by omega
    subst e
    exact .inl ⟨⟨q, Nat.le_refl _⟩, hd σ H p⟩
end Ty

set_option maxHeartbeats 4000000
namespace Ty
open PySem PySem.Spec PyProof.Rows L2
open Builtin.Int (intBits)
section
variable {X : Cx}
def CMulS (i j : Int) : Prop := intBits i + intBits j ≤ 134217728
theorem op_mulZ : OpR X (binaryOp .Mult) (rI CMulS fun i j => .int (i * j)) :=
  opI fun _ _ _ _ _ _ _ hc q => mul_int q (IntMulOk.of_le (Nat.le_refl _) (Nat.le_refl _) hc)
theorem pw_cmulS {a b : Int} {m n : Nat} (h1 : a.natAbs ≤ 2 ^ m) (h2 : b.natAbs ≤ 2 ^ n) (h : m + n ≤ 134000000) : CMulS a b := by
  have x1 := pw_bits h1 (Nat.lt_succ_self m)
  have x2 := pw_bits h2 (Nat.lt_succ_self n)
  unfold CMulS
  omega
def rIsiT (K : PySem.W.Frag) : List V → Hp → VK → Prop := fun xs H Q => ∃ p ys, xs = [.ref p, .ty "tuple"] ∧ SqT K H p ys ∧ Q (.bl true) H
theorem call_isiT : CallR X (.builtin "isinstance") (rIsiT X.K) := by
  intro pins s σ H xs us Q I r h
  obtain ⟨p, ys, rfl, hq, q⟩ := h
  obtain ⟨u, w, rfl, r1, r2⟩ := vals2 r
  obtain rfl := cls_rel (c := .ty "tuple") rfl r2
  cases r1
  obtain ⟨its, rv, ⟨o, h1, h2, _⟩, _⟩ := I.tuple hq
  have e : PySem.W.kitOne X.K (.type "tuple") (clsV (.ty "tuple")) = some true := by unfold PySem.W.kitOne; rw [if_pos (by decide)]
  exact PySem.W.kia_one PySem.W.kitx_tuple I.kIn ⟨o, h1, h2⟩ e (fun z => nomatch z) fun tk => ⟨.bl true, H, I.tok tk, rfl, q⟩
end
theorem Same.seqT {K : PySem.W.Frag} {H H' : Hp} {a : Addr} {xs : List V} (e : Same H H') (h : SqT K H a xs) : SqT K H' a xs := by
  rcases h with (h | ⟨o, h⟩) | h
  · exact .inl (.inl (e _ _ h))
  · exact .inl (.inr ⟨o, e _ _ h⟩)
  · exact .inr h
section
variable {D : Addr} {te : TE} {cap : L2.St} {H1 : Hp} {Q : VK}
end
def NmK (K : PySem.W.Frag) (H : Hp) (v : V) (q : Int × Int) : Prop := ∃ p, v = .ref p ∧ SqT K H p [.int q.1, .int q.2]
theorem NmK.same {K : PySem.W.Frag} {H H' : Hp} {v : V} {q : Int × Int} (h : NmK K H v q) (s : Same H H') : NmK K H' v q := by
  obtain ⟨p, e, k⟩ := h
  exact ⟨p, e, Ty.Same.seqT s k⟩
def NmsK (K : PySem.W.Frag) (H : Hp) (us : List V) (qs : List (Int × Int)) : Prop := us.length = qs.length ∧ ∀ (i : Nat) (u : V) (q : Int × Int), us[i]? = some u → qs[i]? = some q → NmK K H u q
theorem NmsK.same {K : PySem.W.Frag} {H H' : Hp} {us : List V} {qs : List (Int × Int)} (h : NmsK K H us qs) (s : Same H H') : NmsK K H' us qs := ⟨h.1, fun i u q e1 e2 => (h.2 i u q e1 e2).same s⟩
theorem NmsK.at {K : PySem.W.Frag} {H : Hp} {us : List V} {qs : List (Int × Int)} (h : NmsK K H us qs) {i : Nat} {u : V} (e : us[i]? = some u) : ∃ q, qs[i]? = some q ∧ NmK K H u q := by
  have hi : i < us.length := (List.getElem?_eq_some_iff.mp e).1
  have hl := h.1
  have e2 : qs[i]? = some (qs[i]'(by omega)) := List.getElem?_eq_getElem (by omega)
  exact ⟨_, e2, h.2 i u _ e e2⟩
theorem NmsK.at' {K : PySem.W.Frag} {H : Hp} {us : List V} {qs : List (Int × Int)} (h : NmsK K H us qs) {i : Nat} {q : Int × Int} (e : qs[i]? = some q) : ∃ u, us[i]? = some u ∧ NmK K H u q := by
  have hi : i < qs.length := (List.getElem?_eq_some_iff.mp e).1
  have hl := h.1
  have e2 : us[i]? = some (us[i]'(by omega)) := List.getElem?_eq_getElem (by omega)
  exact ⟨_, e2, h.2 i _ q e2 e⟩
theorem NmsK.set {K : PySem.W.Frag} {H : Hp} {us : List V} {qs : List (Int × Int)} {j : Nat} {v : V} {q : Int × Int} (h : NmsK K H us qs) (n : NmK K H v q) : NmsK K H (us.set j v) (qs.set j q) := by
  refine ⟨by simp [h.1], fun i u q' e1 e2 => ?_⟩
  rw [List.getElem?_set] at e1 e2
  by_cases c : j = i
  · subst c
    rw [if_pos rfl] at e1 e2
    have l := h.1
    by_cases hj : j < us.length
    · rw [if_pos hj] at e1
      rw [if_pos (by omega)] at e2
      cases e1
      cases e2
      exact n
    · rw [if_neg hj] at e1
      cases e1
  · rw [if_neg c] at e1 e2
    exact h.2 i u q' e1 e2
def RowK (K : PySem.W.Frag) (H : Hp) (a : Addr) (qs : List (Int × Int)) : Prop := ∃ us, SqL K H a us ∧ NmsK K H us qs
theorem RowK.same {K : PySem.W.Frag} {H H' : Hp} {a : Addr} {qs : List (Int × Int)} (h : RowK K H a qs) (s : Same H H') : RowK K H' a qs := by
  obtain ⟨us, h1, h2⟩ := h
  exact ⟨us, s.seq h1, h2.same s⟩
def sumTo : Nat → (Nat → Rat) → Rat
  | 0, _ => 0
  | n + 1, f => f 0 + sumTo n (fun i => f (i + 1))
end Ty

set_option maxHeartbeats 4000000
namespace Ty
open PySem PySem.Spec PyProof.Rows L2
section
variable {X : Cx}
def iItemsR (te : TE) : TI := fun σ H R => te σ H fun x H1 => ∃ d kvs, x = .ref d ∧ Rd H1 d (.dK kvs) ∧ ∀ o, R (Itd d o kvs) (upd H1 d (.frz o (.dK kvs)))
end
section
variable {D : Addr} {te : TE} {cap : L2.St} {H1 : Hp} {Q : VK}
end
end Ty

set_option maxHeartbeats 4000000
namespace Ty
open PySem PySem.Spec PyProof.Rows L2
section
variable {X : Cx}
theorem vals_ints : ∀ {us : List Value} {ns : List Int}, IntsAre us ns → Vals (ns.map V.int) us
  | _, _, .nil => .nil
  | _, _, .cons n t h => .cons ⟨t, rfl⟩ (vals_ints h)
def rSorted (K : PySem.W.Frag) : List V → Hp → VK → Prop := fun xs H Q => ∃ (p : Addr) (ns : List Int), xs = [.ref p] ∧ SqL K H p (ns.map V.int) ∧ ns.length < 64 ∧ ∀ (l : Addr) (ms : List Int), H l = none → ms.Perm ns → ms.Pairwise (· ≤ ·) → Q (.ref l) (upd H l (.lst (ms.map V.int)))
def tListR (ta : TA) : TE := fun σ H Q => ta σ H fun vs H1 => ∃ n : Nat, vs = [.int (n : Int)] ∧ n ≤ 1000 ∧ ∀ l, H1 l = none → Q (.ref l) (upd H1 l (.lst ((List.range n).map fun (i : Nat) => V.int (i : Int))))
def Itv (d : Addr) (o : Obj) (kvs : List (Key × V)) : It :=
  ⟨fun i H => H d = some (.frz o (.dK kvs)) ∧ i < kvs.length,
   fun i H v H' => H' = H ∧ ∃ k, kvs[i]? = some (k, v),
   fun i H => H d = some (.frz o (.dK kvs)) ∧ kvs.length ≤ i⟩
def iVals (te : TE) : TI := fun σ H R => te σ H fun x H1 => ∃ d o kvs, x = .ref d ∧ H1 d = some (.frz o (.dK kvs)) ∧ R (Itv d o kvs) H1
def tClear (H0 : Hp) (te : TE) : TE := fun σ H Q => te σ H fun x H1 => ∃ d o kvs, x = .ref d ∧ H1 d = some (.frz o (.dK kvs)) ∧ H0 d = none ∧ Q .non (upd H1 d (.dK []))
end
end Ty

set_option maxHeartbeats 4000000
namespace Ty
open PySem PySem.Spec PyProof.Rows L2
section
variable {X : Cx}
def tRev (K : PySem.W.Frag) (te ts : TE) : TE := fun σ H Q => te σ H fun x H1 => ts σ H1 fun y H2 => y = .int (-1) ∧ ∃ l xs, x = .ref l ∧ SqL K H2 l xs ∧ ∀ p, H2 p = none → Q (.ref p) (upd H2 p (.lst xs.reverse))
def rLenD : List V → Hp → VK → Prop := fun xs H Q => ∃ (p : Addr) (kvs : List (Key × V)), xs = [.ref p] ∧ Rd H p (.dK kvs) ∧ Q (.int (kvs.length : Int)) H
theorem call_lenD : CallR X (.builtin "len") rLenD := by
  intro pins s σ H xs us Q I r h
  obtain ⟨p, kvs, rfl, hq, q⟩ := h
  obtain ⟨u, rfl, r1⟩ := vals1 r
  cases r1
  exact d_len I hq fun t s' I' => ⟨.int _, H, I', ⟨t, rfl⟩, q⟩
end
section
variable {D : Addr} {te : TE} {cap : L2.St} {H1 : Hp} {Q : VK}
end
end Ty

set_option maxHeartbeats 4000000
namespace Ty
open PySem PySem.Spec PyProof.Rows L2
section
variable {X : Cx}
theorem Inv.thawG {pins : List (Addr × Obj)} {σ : L2.St} {H : Hp} {s : Shared} {d : Addr} {u : HO} {o : Obj} (I : Inv X pins σ H s) (e : H d = some (.frz o u)) (n : ∀ o' u', X.H₀ d ≠ some (.frz o' u')) (nt : ∀ xs, u ≠ .tup xs) : Inv X pins σ (upd H d u) s := by
  have nx : ∀ b u', H b = some u' → b ≠ d → upd H d u b = some u' := fun b u q n => by rw [upd_ne n]; exact q
  have nn : ∀ b, H b = none → upd H d u b = none := fun b q => by rw [upd_ne (fun z => by rw [z, e] at q; cases q)]; exact q
  refine ⟨I.ok, I.os, I.bare, ⟨I.base.keep, I.base.slot, fun b ob q z hx => nn b (I.base.free b ob q z hx), I.base.there, fun b xs q => ?_, fun b ob u' q => ?_, fun b ps q => ?_⟩, I.loc, I.cell, nn _ I.free, fun x c q => nn _ (I.freeC x c q), fun p hp => ?_, ?_, I.len⟩
  · have z := I.base.tups b xs q
    exact nx b _ z fun y => by rw [y, e] at z; cases z
  · have z := I.base.frzs b ob u' q
    exact nx b _ z fun y => by rw [y] at q; exact n _ _ q
  · obtain ⟨m, z⟩ := I.base.tbls b ps q
    exact ⟨m, nx b _ z fun y => by rw [y, e] at z; cases z⟩
  · obtain ⟨a1, a2, a3⟩ := I.pin p hp
    exact ⟨a1, nn _ a2, a3⟩
  · have st : ∀ {b u'}, ObjOk X.prog X.w H s.heap b u' → ObjOk X.prog X.w (upd H d u) s.heap b u' := fun {b u'} k => k.stay (fun _ _ _ z => z) (fun c z => nx c _ z fun y => by rw [y, e] at z; cases z) fun c xs z => nx c _ z fun y => by rw [y, e] at z; cases z
    intro b u' q
    by_cases hb : b = d
    · subst hb
      rw [upd_same] at q
      cases q
      exact st (I.hok b _ e).2
    · rw [upd_ne hb] at q
      exact st (I.hok b u' q)
def tThaw (H0 : Hp) (t : TS) : TS := fun D σ H => t { D with nx := fun σ' H' => ∃ d o kvs, H' d = some (.frz o (.dK kvs)) ∧ (∀ o' u', H0 d ≠ some (.frz o' u')) ∧ D.nx σ' (upd H' d (.dK kvs)) } σ H
theorem ps_thaw {st : Stmt} {t : TS} (h : PS X st t) : PS X st (tThaw X.H₀ t) := by
  intro pins s σ H D I q
  refine wpAny_mono (h pins s σ H _ I q) (fun f s' z => ?_) fun _ _ z => z
  cases f with
  | next =>
    obtain ⟨σ', H', I', d, o, kvs, e, n, k⟩ := z
    exact ⟨σ', _, Inv.thawG I' e n (fun _ z => nomatch z), k⟩
  | brk => exact z
  | cont => exact z
  | ret u => exact z
def Itk (d : Addr) (o : Obj) (kvs : List (Key × V)) : It :=
  ⟨fun i H => H d = some (.frz o (.dK kvs)) ∧ i < kvs.length,
   fun i H v H' => H' = H ∧ ∃ k x, kvs[i]? = some (k, x) ∧ v = kV k,
   fun i H => H d = some (.frz o (.dK kvs)) ∧ kvs.length ≤ i⟩
theorem turn_keys {P : Program} {w : World} {K : PySem.W.Frag} {tg : Expr} (d it : Addr) (o : Obj) (kvs : List (Key × V)) {es0 : Array DictEntry} {ep : Nat} (he : o.data = .dict es0 ep) :
    Turn P w K tg (Itk d o kvs) [it] it (fun i h => h.IsKeyIter it d i kvs.length ep) where
  mem := by simp
  obj := fun i h st b hb => by
    have e : b = it := by simpa using hb
    subst e
    obtain ⟨o, e, c, d⟩ := st
    exact ⟨o, e, fun v z => by rw [d] at z; cases z⟩
  keep := fun i h h' st k => st.at fun o e => k it (by simp) o e
  item := by
    intro X hP hw hK hc i pins s σ H E I hf st hg
    subst hP hw hK
    obtain ⟨fz, hi⟩ := hg
    obtain ⟨hd, vs, rel, da, _⟩ := frz_at I.hok fz he
    have ek : kvs[i]? = some kvs[i] := List.getElem?_eq_getElem hi
    obtain ⟨⟨k', u⟩, ev, e1, ru⟩ := paired_get rel ek
    have lv := rel.length
    rw [lv] at st
    obtain ⟨f0, f1, f2, f3, f4, f5⟩ := hf it (by simp)
    refine wpAny_pyNext_dict_item st da ev fun key h' hkey st' sb => ?_
    have I1 : Inv X pins σ H { s with heap := h' } := I.turned (t' := s.toks) (fun b o hb e => (sb.2 b hb).trans e) f0 f1 f3 f4 f5
    rw [← lv] at st'
    obtain ⟨o', e', c', d'⟩ := id st'
    have e1' : kvs[i].1 = k' := e1
    exact ⟨key, rfl, go_of (s := { s with heap := h' }) e' c' d' (by decide) ⟨kV kvs[i].1, H, I1, by rw [e1']; exact key_rel hkey, ⟨rfl, kvs[i].1, kvs[i].2, ek, rfl⟩, st', fun b hb => (hf b hb).1⟩⟩
  done := by
    intro X hP hw hK hc i pins s σ H E I hf st hg
    subst hP hw hK
    obtain ⟨fz, hi⟩ := hg
    obtain ⟨hd, vs, rel, da, _⟩ := frz_at I.hok fz he
    have lv := rel.length
    rw [lv] at st
    obtain ⟨f0, f1, f2, f3, f4, f5⟩ := hf it (by simp)
    exact wpAny_pyNext_dict_end (I.ok.hd hc) st da (List.getElem?_eq_none (by omega)) fun h' eb => ⟨rfl, I.turned (t' := s.toks) (fun b o hb e => eb b o hb e) f0 f1 f3 f4 f5⟩
  self := fun _ _ _ _ _ st h => wpAny_pyIter_keyiter st h
def iKeys (te : TE) : TI := fun σ H R => te σ H fun x H1 => ∃ d kvs, x = .ref d ∧ H1 d = some (.dK kvs) ∧ ∀ o, R (Itk d o kvs) (upd H1 d (.frz o (.dK kvs)))
theorem pi_keys {e : Expr} {te : TE} {tg : Expr} (ho : PE X e te) : PI X tg e (iKeys te) := by
  intro pins s σ H R I h
  refine thn (ho pins s σ H _ I h) fun v s1 ⟨x, H1, I1, r1, q1⟩ => ?_
  obtain ⟨d, kvs, rfl, e, q⟩ := q1
  cases r1
  obtain ⟨z, hd, vs, rel, o, es1, ep, ho1, hx, hdat, hk, hp, hn⟩ := dk_of I1.hok e
  have da : s1.heap.DictAt (mixKind X.prog X.w) d vs ep := ⟨o, es1, ho1, hx, hdat, hk, hp, hn⟩
  have lv := rel.length
  have I2 := Inv.freeze I1 e ho1
  refine wpAny_pyIter_dict hd da ?_
  have I3 : Inv X pins σ (upd H1 d (.frz o (.dK kvs))) { s1 with heap := s1.heap.push { cls := .type "dict_keyiterator", data := .fields #[.ref d, .int 0 0, .int vs.length 0, .int ep 0] } } := I2.kept (t' := s1.toks) fun b o e => Heap.get?_push_of_some _ e
  refine ⟨s1.heap.objs.size, [s1.heap.objs.size], _, _, _, rfl, I3, turn_keys d _ o kvs hdat, (show Heap.IsKeyIter _ _ d 0 kvs.length ep from ⟨_, Heap.get?_push_size _ rfl, rfl, by rw [lv]; rfl⟩), fun b hb => ?_, q o⟩
  have eb : b = s1.heap.objs.size := by simpa using hb
  have le : s1.heap.objs.size ≤ b := by rw [eb]; exact Nat.le_refl _
  exact I2.fpOk le (I2.hok.fresh le)
theorem for_keys {d : Addr} {o : Obj} {kvs : List (Key × V)} {g : TG} {tb : TS} {D : Ends} {σ : L2.St} {H : Hp} (Pv : Nat → L2.St → Hp → Prop) (h0 : Pv 0 σ H) (hl : ∀ i σ H, i ≤ kvs.length → Pv i σ H → H d = some (.frz o (.dK kvs)))
    (hs : ∀ i k x σ H, kvs[i]? = some (k, x) → Pv i σ H → g (kV k) σ H fun σ2 H2 => tb { D with nx := Pv (i + 1), ct := Pv (i + 1), bk := D.nx } σ2 H2) (hd : ∀ σ H, Pv kvs.length σ H → D.nx σ H) :
    ∃ W : Nat → Nat → L2.St → Hp → Prop, (∃ m, W 0 m σ H) ∧ ∀ i m σ H, W i m σ H →
      ((Itk d o kvs).stop i H ∧ D.nx σ H) ∨ ((Itk d o kvs).go i H ∧ ∃ N : L2.St → Hp → Prop, (∀ σ' H', N σ' H' → ∃ m', m' < m ∧ W (i + 1) m' σ' H') ∧ ∀ x H', (Itk d o kvs).yld i H x H' → g x σ H' fun σ2 H2 => tb { D with nx := N, ct := N, bk := D.nx } σ2 H2) := by
  refine ⟨fun i m σ H => m = kvs.length - i ∧ i ≤ kvs.length ∧ Pv i σ H, ⟨kvs.length, by simp, Nat.zero_le _, h0⟩, ?_⟩
  rintro i m σ H ⟨rfl, hi, p⟩
  have q := hl i σ H hi p
  by_cases hlt : i < kvs.length
  · refine .inr ⟨⟨q, hlt⟩, Pv (i + 1), fun σ' H' z => ⟨kvs.length - (i + 1), by omega, rfl, by omega, z⟩, fun x H' y => ?_⟩
    obtain ⟨rfl, k, x', ek, rfl⟩ := y
    exact hs i k x' σ _ ek p
  · have e : i = kvs.length := by omega
    subst e
    exact .inl ⟨⟨q, Nat.le_refl _⟩, hd σ H p⟩
def rDictD : List V → Hp → VK → Prop := fun xs H Q => ∃ (p : Addr) (kvs : List (Key × V)), xs = [.ref p] ∧ Rd H p (.dK kvs) ∧ ∀ l, H l = none → Q (.ref l) (upd H l (.dK kvs))
theorem call_dictD : CallR X (.type "dict") rDictD := by
  intro pins s σ H vs us Q I r h
  obtain ⟨p, kvs, rfl, e, q⟩ := h
  obtain ⟨u, rfl⟩ : ∃ u, us = [u] := by cases r with | cons h t => cases t; exact ⟨_, rfl⟩
  cases r with
  | cons h _ =>
  cases h
  obtain ⟨z, hd, vs, rel, dd⟩ := dk_rd I.hok e
  have hn := I.hok.fresh (Nat.le_refl s.heap.objs.size)
  refine kt_call_dict hd dd (by rw [← rel.length]; exact z) fun h' dd' sb => ?_
  have kk : ∀ b o, s.heap.get? b = some o → h'.get? b = some o := fun b o eb => (sb.2 b (fun z => absurd (Heap.lt_size eb) (by rw [z]; exact Nat.lt_irrefl _))).trans (Heap.get?_push_of_some _ eb)
  have I2 : Inv X pins σ (upd H s.heap.objs.size (.dK kvs)) { s with heap := h', toks := s.toks } := I.laid (t' := s.toks) kk (Nat.le_refl _) (dk_new z (beq_eq_false_iff_ne.mpr (Ne.symm (Nat.ne_of_lt I.big))) rel dd')
  exact ⟨.ref _, _, I2, rfl, q _ hn⟩
end
end Ty

set_option maxHeartbeats 4000000
namespace Ty
open PySem PySem.Spec PyProof.Rows L2
section
variable {prog : Program} {w : World} {KK : Type} [DecidableEq KK] {knd : KeyKind prog w KK} {A : Around} {E : Value → Shared → Prop} {s : Shared}
theorem wpAny_samePairs {nm : String} {a b : Addr} {vs ws : List (KK × Value)} {Q : Bool → Shared → Prop} (ha : (a == sysModules) = false) (hb : (b == sysModules) = false) (da : s.heap.DictOf knd a vs) (db : s.heap.DictOf knd b ws)
    (hk : vs.map (·.1) = ws.map (·.1)) (he : ∀ (i : Nat) (x y : KK × Value), vs[i]? = some x → ws[i]? = some y → SeqAt.EqAt A s x.2 y.2 true) (h : Q true s) : wpAny (model prog w) A (Builtin.Dict.samePairs nm a b) Q E s := by
  obtain ⟨oa, ea, pa, hoa, hca, hda, hka, hpa, hna⟩ := id da
  obtain ⟨ob, eb, pb, hob, hcb, hdb, hkb, hpb, hnb⟩ := id db
  have la : ea.size = vs.length := by rw [← hpa.length]; simp
  have lb : eb.size = ws.length := by rw [← hpb.length]; simp
  have lvw : vs.length = ws.length := by have := congrArg List.length hk; simpa using this
  unfold Builtin.Dict.samePairs Builtin.Dict.showsAll
  rw [if_neg (by rw [ha]; exact Bool.false_ne_true), if_neg (by rw [hb]; exact Bool.false_ne_true)]
  refine wpAny_bind (wpAny_pure (wpAny_bind (wpAny_pure ?_)))
  refine wpAny_bind (wpAny_dictEntries hoa hda ?_)
  refine wpAny_bind (wpAny_dictEntries hob hdb ?_)
  rw [if_neg (by rw [la, lb, lvw]; simp)]
  refine wpAny_bind (wpAny_dictEpoch hoa hda ?_)
  refine wpAny_bind ?_
  rw [Std.Legacy.Range.forIn_eq_forIn_range']
  simp only [Std.Legacy.Range.size, Nat.sub_zero, Nat.add_sub_cancel, Nat.div_one]
  refine wpAny_forIn_list _ (fun rest r s' => r = ⟨none, PUnit.unit⟩ ∧ s' = s ∧ ∃ i, rest = List.range' i (ea.size - i) ∧ i ≤ ea.size) _ ?_ ?_ _ _ ⟨rfl, rfl, 0, by simp, Nat.zero_le _⟩
  · rintro x rest r s' ⟨rfl, rfl, i, hr, hi⟩
    have hlt : i < ea.size := by
      rcases Nat.lt_or_ge i ea.size with h | h
      · exact h
      · rw [Nat.sub_eq_zero_of_le h] at hr; simp at hr
    obtain ⟨rfl, hrest⟩ : x = i ∧ rest = List.range' (i + 1) (ea.size - (i + 1)) := by
      have e : ea.size - i = (ea.size - (i + 1)) + 1 := by omega
      rw [e, List.range'_succ] at hr
      injection hr with h1 h2
      exact ⟨h1, h2⟩
    have hlb : x < eb.size := by omega
    obtain ⟨kv, hkv⟩ : ∃ kv, vs[x]? = some kv := ⟨vs[x]'(by omega), List.getElem?_eq_getElem _⟩
    obtain ⟨kw, hkw⟩ : ∃ kw, ws[x]? = some kw := ⟨ws[x]'(by omega), List.getElem?_eq_getElem _⟩
    obtain ⟨k, v⟩ := kv
    obtain ⟨k2, v2⟩ := kw
    obtain rfl : k = k2 := by
      have e1 : (vs.map (·.1))[x]? = some k := by rw [List.getElem?_map, hkv]; rfl
      have e2 : (ws.map (·.1))[x]? = some k2 := by rw [List.getElem?_map, hkw]; rfl
      rw [hk, e2] at e1
      injection e1 with e1
      exact e1.symm
    obtain ⟨hkey, hval⟩ := hpa.get? (e := ea[x]) (by simp [hlt]) hkv
    obtain ⟨hkey2, hval2⟩ := hpb.get? (e := eb[x]) (by simp [hlb]) hkw
    obtain ⟨k', hkey', hhash⟩ := hka ea[x] (Array.getElem_mem hlt)
    obtain rfl : k' = k := knd.inj _ _ _ hkey' hkey
    have hf : eb.findIdx? (fun e => knd.is k' e.key) = some x := by
      rw [Array.findIdx?_eq_some_iff_getElem]
      refine ⟨hlb, hkey2, fun j hj z => ?_⟩
      have hjb : j < eb.size := by omega
      obtain ⟨⟨kj, vj⟩, hkj⟩ : ∃ kv, ws[j]? = some kv := ⟨ws[j]'(by omega), List.getElem?_eq_getElem _⟩
      obtain ⟨hkeyj, _⟩ := hpb.get? (e := eb[j]) (by simp [hjb]) hkj
      have e := knd.inj _ _ _ z hkeyj
      have e1 : (ws.map (·.1))[j]? = some k' := by rw [List.getElem?_map, hkj, e]; rfl
      have e2 : (ws.map (·.1))[x]? = some k' := by rw [List.getElem?_map, hkw]; rfl
      have := (List.getElem?_inj (by simp; omega) hnb).mp (e1.trans e2.symm)
      omega
    refine wpAny_bind (wpAny_dictEntries hoa hda ?_)
    rw [Array.getElem?_eq_getElem hlt]
    refine wpAny_bind (wpAny_holding (wpAny_bind ?_))
    rw [hhash]
    refine wpAny_dictFind_of hkey hob hdb hkb ?_
    rw [hf]
    refine wpAny_bind (wpAny_dictEntries hob hdb ?_)
    rw [Array.getElem?_eq_getElem hlb]
    refine wpAny_holding ?_
    rw [hval, hval2]
    refine he x _ _ hkv hkw prog w _ _ ?_
    rw [if_neg (by decide)]
    refine wpAny_bind (wpAny_dictEpoch hoa hda ?_)
    rw [if_neg (by simp)]
    exact wpAny_pure ⟨rfl, rfl, x + 1, hrest, by omega⟩
  · rintro r s' ⟨rfl, rfl, i, hr, hi⟩
    exact wpAny_pure h
def EqIn (prog : Program) (w : World) (A : Around) (s : Shared) (y x : Value) : Prop := ∀ (E : Value → Shared → Prop) (Q : Bool → Shared → Prop), Q true s → wpAny (model prog w) A (eqBool y x) Q E s
theorem EqIn.of {y x : Value} (h : SeqAt.EqAt A s y x true) : EqIn prog w A s y x := fun E Q q => h prog w E Q q
theorem EqIn.refs {a b : Addr} (h : a ≠ b → ∀ (E : Value → Shared → Prop) (Q : Value → Shared → Prop), Q (.bool true) s → wpAny (model prog w) A (richCompare .Eq (.ref a) (.ref b)) Q E s) : EqIn prog w A s (.ref a) (.ref b) := by
  by_cases e : a = b
  · subst e
    exact .of (.same _)
  · intro E Q q
    unfold eqBool
    refine wpAny_holding (wpAny_ite_split (fun z => absurd (by have := eq_of_beq z; injection this) e) (fun _ => ?_))
    exact wpAny_bind (h e E _ (wpAny_truthy_bool q))
theorem rc_dicts {a b : Addr} {vs ws : List (KK × Value)} (hu : A.units < cLine) (ha : (a == sysModules) = false) (hb : (b == sysModules) = false) (da : s.heap.DictOf knd a vs) (db : s.heap.DictOf knd b ws)
    (hk : vs.map (·.1) = ws.map (·.1)) (he : ∀ (i : Nat) (x y : KK × Value), vs[i]? = some x → ws[i]? = some y → SeqAt.EqAt A.in1 s x.2 y.2 true) {Q : Value → Shared → Prop} (q : Q (.bool true) s) :
    wpAny (model prog w) A (richCompare .Eq (.ref a) (.ref b)) Q E s := by
  refine wpAny_richCompare_same_room da.typeIs db.typeIs F.slot_dict_eq (wpAny_call_entry F.slot_dict_eq da.typeIs F.entry_dict_eq ?_ (F.args_dict_eq_2 _ _)) hu
  unfold Builtin.«dict.__eq__»
  show wpAny _ _ (Builtin.Dict.dictSlotArgs "__eq__" ⟨[.ref a, .ref b], []⟩ >>= _) _ _ s
  unfold Builtin.Dict.dictSlotArgs
  refine wpAny_bind (wpAny_bind (wpAny_notOrdered_dict da.typeIs ?_))
  show wpAny _ _ (pure (Value.ref a, Value.ref b)) _ _ s
  refine wpAny_pure ?_
  refine wpAny_bind (wpAny_isInstance db.typeIs isSubtype_dict_dict ?_)
  rw [if_neg (by decide)]
  show wpAny _ _ (Builtin.Dict.samePairs _ a b >>= _) _ _ s
  refine wpAny_bind (wpAny_samePairs ha hb da db hk he ?_)
  exact wpAny_pure ⟨.bool true, rfl, (fun z => nomatch z), q⟩
open MeetsSeq MeetsSeq2 MeetsSeq3 SeqRoads2 in
open MeetsSeq MeetsSeq2 MeetsSeq3 SeqRoads2 in
end
section
variable {X : Cx}
def SameD (H : Hp) (u v : V) : Prop := ∃ a b kvs, u = .ref a ∧ v = .ref b ∧ Rd H a (.dK kvs) ∧ Rd H b (.dK kvs) ∧ ∀ kv ∈ kvs, flatV kv.2 = true ∨ ∃ c, kv.2 = .ref c
theorem SameD.eqIn {pins : List (Addr × Obj)} {σ : L2.St} {H : Hp} {s : Shared} {A : Around} {u v : V} {x y : Value} (I : Inv X pins σ H s) (h : SameD H u v) (r1 : RelV u x) (r2 : RelV v y) (hu : A.units < cLine) : EqIn X.prog X.w A s x y := by
  obtain ⟨a, b, kvs, rfl, rfl, e1, e2, fl⟩ := h
  cases r1
  cases r2
  obtain ⟨z, hd, vs, rel, dd⟩ := dk_rd I.hok e1
  obtain ⟨z2, hd2, ws, rel2, dd2⟩ := dk_rd I.hok e2
  refine .refs fun _ E Q q => rc_dicts hu hd hd2 dd dd2 (by rw [← rel.keys, ← rel2.keys]) (fun i x y hx hy => ?_) q
  have li : i < kvs.length := by
    have := (List.getElem?_eq_some_iff.mp hx).1
    rw [rel.length]
    exact this
  have ek : kvs[i]? = some kvs[i] := List.getElem?_eq_getElem li
  obtain ⟨x', ex, _, rx⟩ := paired_get rel ek
  obtain ⟨y', ey, _, ry⟩ := paired_get rel2 ek
  rw [hx] at ex
  rw [hy] at ey
  cases ex
  cases ey
  rcases fl kvs[i] (List.getElem_mem li) with f | ⟨c, f⟩
  · have := eqAt_V (A := A.in1) (s := s) rx ry f f
    rw [eqV_refl f] at this
    exact this
  · rw [f] at rx ry
    have h1' : x.2 = Value.ref c := rx
    have h2' : y.2 = Value.ref c := ry
    rw [h1', h2']
    exact .same _
theorem vat {xs : List V} {us : List Value} (r : Vals xs us) {j : Nat} (k1 : j < xs.length) (k2 : j < us.toArray.size) : RelV xs[j] us.toArray[j] := by
  obtain ⟨u, e, ru⟩ := paired_get r (List.getElem?_eq_getElem k1)
  have k2' : j < us.length := by simpa using k2
  rw [List.getElem?_eq_getElem k2'] at e
  injection e with e
  simpa [e] using ru
def rEqLD (K : PySem.W.Frag) : R2 := fun x y H Q => ∃ p p' xs ys, x = .ref p ∧ y = .ref p' ∧ SqL K H p xs ∧ SqL K H p' ys ∧ xs.length = ys.length ∧ (∀ (j : Nat) (u v : V), xs[j]? = some u → ys[j]? = some v → SameD H u v) ∧ Q (.bl true) H
end
end Ty

set_option maxHeartbeats 4000000
namespace Ty
open PySem PySem.Spec PyProof.Rows L2
structure FunD (K : PySem.W.Frag) (x qual : Str) (st : Stmt) (f : Addr) (fd : FuncData) : Prop where
  ex : ∃ (dV oc : Value) (od : Option Addr) (kV doc pm : Value) (an : Option Addr) (cdv ct : Value) (osl : Array (Option Value)),
    fd = PySem.W.fnOf x qual (defArgs st) (defBody st) (defScope st) dV kV doc pm an cdv ct ∧ K.lookup f = some ⟨oc, od, .func fd, osl⟩ ∧ PySem.W.codeIn K cdv qual = true
  kp : PySem.W.keepIn K (.ref f) = true
section
variable {P : Program} {w : World} {K : PySem.W.Frag} {mg : Str → Option Value} {base : Heap} {CX : CXT}
theorem fun_mkD {x qual : Str} {st : Stmt} {f : Addr} {dV oc : Value} {od an : Option Addr} {osl : Array (Option Value)} {kV doc pm cdv ct : Value} (l : K.lookup f = some ⟨oc, od, .func (PySem.W.fnOf x qual (defArgs st) (defBody st) (defScope st) dV kV doc pm an cdv ct), osl⟩)
    (c : PySem.W.codeIn K cdv qual = true) (k : PySem.W.keepIn K (.ref f) = true) : FunD K x qual st f (PySem.W.fnOf x qual (defArgs st) (defBody st) (defScope st) dV kV doc pm an cdv ct) := ⟨⟨dV, oc, od, kV, doc, pm, an, cdv, ct, osl, rfl, l, c⟩, k⟩
theorem fun_okF {name qual : Str} {st : Stmt} {f : Addr} {fd : FuncData} {N ps : List Str} {k : Nat} {sp : Sp} (F : Fun K name qual st f fd) (S : FnScope N ps (defScope st)) (len : ∀ vs H Q E, sp vs H Q E → vs.length = ps.length)
    (hbody : ∀ (cdv : Value) (A : Around) (outer : List Env) (s : Shared) (H : Hp) (vs : List V) (Q : VK) (E : XK), Room k (A.deeper (envOfC qual (defScope st) s.heap.objs.size f cdv)) → sp vs H Q E →
      ∃ t, PSs (cxr P w K mg base N qual (defScope st) f cdv A outer s H E).nox (defBody st) t ∧ t { nx := fun _ H' => Q .non H', rt := Q } (start N vs) H) : FnOk P w K mg base (CXr P w) (k + 1) f fd ps sp := by
  obtain ⟨oc, od, kV, doc, pm, an, cdv, ct, osl, rfl, lk, hcd⟩ := F.ex
  exact fn_of lk hcd S len fun A outer s H vs Q E hr hsp => by
    obtain ⟨t, h, q⟩ := hbody cdv A outer s H vs Q E hr hsp
    exact ⟨t, h.nox, q⟩
theorem fun_okFD {name qual : Str} {st : Stmt} {f : Addr} {fd : FuncData} {N ps : List Str} {k : Nat} {sp : Sp} (F : FunD K name qual st f fd) (S : FnScope N ps (defScope st)) (len : ∀ vs H Q E, sp vs H Q E → vs.length = ps.length)
    (hbody : ∀ (cdv : Value) (A : Around) (outer : List Env) (s : Shared) (H : Hp) (vs : List V) (Q : VK) (E : XK), Room k (A.deeper (envOfC qual (defScope st) s.heap.objs.size f cdv)) → sp vs H Q E →
      ∃ t, PSs (cxr P w K mg base N qual (defScope st) f cdv A outer s H E).nox (defBody st) t ∧ t { nx := fun _ H' => Q .non H', rt := Q } (start N vs) H) : FnOk P w K mg base (CXr P w) (k + 1) f fd ps sp := by
  obtain ⟨dV, oc, od, kV, doc, pm, an, cdv, ct, osl, rfl, lk, hcd⟩ := F.ex
  exact fn_of lk hcd S len fun A outer s H vs Q E hr hsp => by
    obtain ⟨t, h, q⟩ := hbody cdv A outer s H vs Q E hr hsp
    exact ⟨t, h.nox, q⟩
end
structure MtdOkD (P : Program) (w : World) (K : PySem.W.Frag) (mg : Str → Option Value) (base : Heap) (CX : CXT) (k : Nat) (C : Addr) (m : Str) (ps : List Str) (ds : List Value) (sp : Sp) : Prop where
  ex : ∃ (f : Addr) (fd : FuncData), Cls K C ∧ Meth K C m f ∧ FnOk P w K mg base CX k f fd ps sp ∧ Binds K fd ps ds
section
variable {X : Cx} {CX : CXT} {k : Nat} {E : XK} {m : Str} {pos apos : Pos} {e o : Expr} {es : List Expr} {ta : TE} {t : TA}
def tMtdD (P : Program) (w : World) (K : PySem.W.Frag) (mg : Str → Option Value) (base : Heap) (CX : CXT) (k : Nat) (m : Str) (E : XK) (ta : TE) (t : TA) : TE := fun σ H Q => ta σ H fun x H1 => ∃ a C dx fs ps sp, x = .ref a ∧ H1 a = some (.ins C dx fs) ∧ fs.lookup m = none ∧
  MtdOkD P w K mg base CX k C m ps [.none] sp ∧ t σ H1 fun vs H2 => sp (x :: vs ++ [.non]) H2 Q E
theorem pe_mtdD {pl : Sem Bool} (he : PE X o ta) (hr : Room k X.A) (hx : Passes CX X E) (ha : PA X (e :: es) t)
    (hst : starEach (e :: es) X.env = (false, eval e X.env) :: starEach es X.env := by rfl) (hpl : (backTo pos (starEach es X.env)).any (·.1) = false := by rfl)
    (ht : eval (.Call (.Attribute o m apos) (e :: es) [] pos) X.env = (do
      let ov ← eval o X.env
      standAt apos.atName
      let (f, first) ← holding [ov] (getMethod ov m pl)
      callWith pos f first (backTo pos (starEach (e :: es) X.env)) (backToKw pos (keywordEach [] X.env))) := by rfl) :
    PE X (.Call (.Attribute o m apos) (e :: es) [] pos) (tMtdD X.prog X.w X.K X.mg X.base CX k m E ta t) := by
  intro pins s σ H Q I h
  refine PySem.W.methodCall_KW (pl := pl) (thn (he pins s σ H _ I h) fun u s1 ⟨x, H1, I1, rx, a, C, dx, fs, ps, sp, ex, ea, l, M, q⟩ => ?_) ht
  subst ex
  obtain rfl : u = Value.ref a := rx
  obtain ⟨f, fd, c, hm, F, hb⟩ := M.ex
  refine getmeth_ok I1 ea c hm l ?_
  refine PySem.W.callWith_K (first := [.ref a]) (h₀ := X.base) I.ok.mod.kin hm.kp (thn (ha pos pins s1 σ H1 _ I1 q) fun us s2 ⟨vs, H2, I2, r, q2⟩ => ⟨I2.kIn, ?_⟩) hst hpl
  exact run_fn (us := .ref a :: us) (vs := .ref a :: vs) (dvs := [.non]) F hr hb (.cons rfl .nil) hx I2 (.cons rfl r) q2
end
theorem valV_drop {κ : Type} [DecidableEq κ] (k j : κ) : ∀ kvs : List (κ × V), valV (dropK kvs k) j = if j = k then none else valV kvs j
  | [] => by
    show none = _
    split <;> rfl
  | p :: r => by
    have ih := valV_drop k j r
    unfold dropK at ih ⊢
    rw [List.filter_cons]
    by_cases h : p.1 = k
    · rw [if_neg (by simp [h]), ih]
      by_cases e : j = k
      · rw [if_pos e, if_pos e]
      · rw [if_neg e, if_neg e, valV_neg (fun z => e (z.symm.trans h))]
    · rw [if_pos (by simp [h])]
      by_cases e : p.1 = j
      · rw [valV_pos e, valV_pos e, if_neg (fun z => h (e.trans z))]
      · rw [valV_neg e, valV_neg e, ih]
theorem valV_none {κ : Type} [DecidableEq κ] {k : κ} : ∀ {kvs : List (κ × V)}, k ∉ kvs.map (·.1) → valV kvs k = none
  | [], _ => rfl
  | p :: r, h => by
    rw [List.map_cons, List.mem_cons, not_or] at h
    rw [valV_neg (fun e => h.1 e.symm)]
    exact valV_none h.2
theorem valV_some {κ : Type} [DecidableEq κ] {k : κ} : ∀ {kvs : List (κ × V)}, k ∈ kvs.map (·.1) → ∃ v, valV kvs k = some v
  | p :: r, h => by
    by_cases e : p.1 = k
    · exact ⟨_, valV_pos e⟩
    · rw [valV_neg e]
      rw [List.map_cons, List.mem_cons] at h
      rcases h with h | h
      · exact absurd h.symm e
      · exact valV_some h
theorem putK_keys {κ : Type} [DecidableEq κ] {kvs : List (κ × V)} {k : κ} {v : V} (P : κ → Prop) (h : ∀ kv ∈ kvs, P kv.1) (hk : P k) : ∀ kv ∈ putK kvs k v, P kv.1 := by
  unfold putK
  split
  · intro kv m
    obtain ⟨a, ha, e⟩ := List.mem_map.mp m
    have := h a ha
    by_cases z : a.1 = k
    · rw [if_pos z] at e; rw [← e]; exact this
    · rw [if_neg z] at e; rw [← e]; exact this
  · intro kv m
    rcases List.mem_append.mp m with m | m
    · exact h kv m
    · rw [List.mem_singleton] at m
      rw [m]
      exact hk
def tDPopN (td ty tx : TE) : TE := fun σ H Q => td σ H fun x H1 => ∃ a, x = .ref a ∧ IsD H1 a ∧ ty σ H1 fun y H2 => tx σ H2 fun z H3 => ∃ kvs k, H3 a = some (.dK kvs) ∧ y = kV k ∧ ∀ v, Q v (upd H3 a (.dK (dropK kvs k)))
def NmD (K : PySem.W.Frag) (H : Hp) (kvs : List (Key × V)) (F : Str → Option (Int × Int)) : Prop :=
  ∀ nm, (valV kvs (.inr nm) = none ∧ F nm = none) ∨ ∃ v q, valV kvs (.inr nm) = some v ∧ F nm = some q ∧ NmK K H v q
theorem NmD.same {K : PySem.W.Frag} {H H' : Hp} {kvs : List (Key × V)} {F : Str → Option (Int × Int)} (h : NmD K H kvs F) (s : Same H H') : NmD K H' kvs F := fun nm => by
  rcases h nm with h | ⟨v, q, h1, h2, h3⟩
  · exact .inl h
  · exact .inr ⟨v, q, h1, h2, h3.same s⟩
theorem NmD.nil {K : PySem.W.Frag} {H : Hp} : NmD K H [] (fun _ => none) := fun nm => .inl ⟨rfl, rfl⟩
theorem NmD.put {K : PySem.W.Frag} {H : Hp} {kvs : List (Key × V)} {F : Str → Option (Int × Int)} (h : NmD K H kvs F) {x : Str} {v : V} {q : Int × Int} (n : NmK K H v q) : NmD K H (putK kvs (.inr x) v) (fun nm => if nm = x then some q else F nm) := fun nm => by
  rw [valV_put]
  by_cases e : nm = x
  · subst e
    exact .inr ⟨v, q, by rw [if_pos rfl], by show (if nm = nm then some q else F nm) = some q; rw [if_pos rfl], n⟩
  · have e' : (Sum.inr nm : Key) ≠ .inr x := fun z => e (Sum.inr.inj z)
    show (_ ∧ (if nm = x then some q else F nm) = none) ∨ ∃ v' q', _ ∧ (if nm = x then some q else F nm) = some q' ∧ _
    rw [if_neg e', if_neg e]
    exact h nm
theorem NmD.drop {K : PySem.W.Frag} {H : Hp} {kvs : List (Key × V)} {F : Str → Option (Int × Int)} (h : NmD K H kvs F) (x : Str) : NmD K H (dropK kvs (.inr x)) (fun nm => if nm = x then none else F nm) := fun nm => by
  rw [valV_drop]
  by_cases e : nm = x
  · subst e
    exact .inl ⟨by rw [if_pos rfl], by show (if nm = nm then none else F nm) = none; rw [if_pos rfl]⟩
  · have e' : (Sum.inr nm : Key) ≠ .inr x := fun z => e (Sum.inr.inj z)
    show (_ ∧ (if nm = x then none else F nm) = none) ∨ ∃ v' q', _ ∧ (if nm = x then none else F nm) = some q' ∧ _
    rw [if_neg e', if_neg e]
    exact h nm
theorem NmD.dget {K : PySem.W.Frag} {H : Hp} {kvs : List (Key × V)} {G : Str → Option (Int × Int)} (h : NmD K H kvs G) {x : Str} {v : V} {q : Int × Int} (n : NmK K H v q) : NmK K H ((valV kvs (.inr x)).getD v) ((G x).getD q) := by
  rcases h x with ⟨h1, h2⟩ | ⟨u, q', h1, h2, h3⟩
  · rw [h1, h2]
    exact n
  · rw [h1, h2]
    exact h3
structure FrC (K : PySem.W.Frag) (C : Addr) : Prop where
  cls : Cls K C
  pl : NoAttr K C "pin_places"
  wy : NoAttr K C "pin_ways"
  br : NoAttr K C "bar_ends"
abbrev frF (pP pW pB : Addr) : List (Str × V) := [("pin_places", .ref pP), ("pin_ways", .ref pW), ("bar_ends", .ref pB)]
abbrev Pt := (Int × Int) × (Int × Int)
abbrev spotD (p : Pt) : List Da := [.t [.v (.int p.1.1), .v (.int p.1.2)], .t [.v (.int p.2.1), .v (.int p.2.2)]]
def SameT (H H' : Hp) : Prop := ∀ b xs, Rd H b (.tup xs) → Rd H' b (.tup xs)
theorem SameT.of {H H' : Hp} (s : Same H H') : SameT H H' := fun b xs e => by
  rcases e with e | ⟨o, e⟩
  · exact .inl (s _ _ e)
  · exact .inr ⟨o, s _ _ e⟩
theorem SameT.trans {H H1 H2 : Hp} (a : SameT H H1) (b : SameT H1 H2) : SameT H H2 := fun c xs e => b c xs (a c xs e)
theorem SameT.dict {H : Hp} {d : Addr} {kvs : List (Key × V)} {o : HO} (e : H d = some (.dK kvs)) : SameT H (upd H d o) := fun b xs r => by
  rcases r with r | ⟨o, r⟩
  · exact .inl (by rw [upd_ne (fun z => by rw [z, e] at r; cases r)]; exact r)
  · exact .inr ⟨o, by rw [upd_ne (fun z => by rw [z, e] at r; cases r)]; exact r⟩
theorem SameT.list {H : Hp} {d : Addr} {xs : List V} {o : HO} (e : H d = some (.lst xs)) : SameT H (upd H d o) := fun b xs r => by
  rcases r with r | ⟨o, r⟩
  · exact .inl (by rw [upd_ne (fun z => by rw [z, e] at r; cases r)]; exact r)
  · exact .inr ⟨o, by rw [upd_ne (fun z => by rw [z, e] at r; cases r)]; exact r⟩
theorem SameT.seqT {K : PySem.W.Frag} {H H' : Hp} (s : SameT H H') {p : Addr} {xs : List V} (q : SqT K H p xs) : SqT K H' p xs := by
  rcases q with q | q
  · exact .inl (s _ _ q)
  · exact .inr q
theorem NmK.sameT {K : PySem.W.Frag} {H H' : Hp} {v : V} {q : Int × Int} (h : NmK K H v q) (s : SameT H H') : NmK K H' v q := by
  obtain ⟨p, e, k⟩ := h
  exact ⟨p, e, s.seqT k⟩
theorem NmD.sameT {K : PySem.W.Frag} {H H' : Hp} {kvs : List (Key × V)} {F : Str → Option (Int × Int)} (h : NmD K H kvs F) (s : SameT H H') : NmD K H' kvs F := fun nm => by
  rcases h nm with h | ⟨v, q, h1, h2, h3⟩
  · exact .inl h
  · exact .inr ⟨v, q, h1, h2, h3.sameT s⟩
def Spot (K : PySem.W.Frag) (H : Hp) (v : V) (p : Pt) : Prop := ∃ a u1 u2, v = .ref a ∧ SqT K H a [u1, u2] ∧ NmK K H u1 p.1 ∧ NmK K H u2 p.2
theorem Spot.sameT {K : PySem.W.Frag} {H H' : Hp} {v : V} {p : Pt} (h : Spot K H v p) (s : SameT H H') : Spot K H' v p := by
  obtain ⟨a, u1, u2, e, h1, h2, h3⟩ := h
  exact ⟨a, u1, u2, e, s.seqT h1, h2.sameT s, h3.sameT s⟩
theorem is_numF {K : PySem.W.Frag} {H : Hp} {v : V} {q : Int × Int} (h : NmK K H v q) : Is K H (.t [.v (.int q.1), .v (.int q.2)]) v := by
  obtain ⟨p, rfl, e⟩ := h
  unfold Is
  refine ⟨p, _, rfl, e, ?_⟩
  unfold Iss
  refine ⟨by unfold Is; exact ⟨rfl, rfl⟩, ?_⟩
  unfold Iss
  refine ⟨by unfold Is; exact ⟨rfl, rfl⟩, ?_⟩
  unfold Iss
  trivial
theorem Spot.is {K : PySem.W.Frag} {H : Hp} {v : V} {p : Pt} (h : Spot K H v p) : Is K H (.t (spotD p)) v := by
  obtain ⟨a, u1, u2, rfl, h1, h2, h3⟩ := h
  unfold Is
  refine ⟨a, _, rfl, h1, ?_⟩
  unfold Iss
  refine ⟨is_numF h2, ?_⟩
  unfold Iss
  refine ⟨is_numF h3, ?_⟩
  unfold Iss
  trivial
theorem eq_spots (p q : Pt) : eqDas (spotD p) (spotD q) = decide (p = q) := by
  have e : eqDas (spotD p) (spotD q) = ((p.1.1 == q.1.1 && (p.1.2 == q.1.2 && true)) && ((p.2.1 == q.2.1 && (p.2.2 == q.2.2 && true)) && true)) := by
    simp only [spotD, eqDas, eqDa, eqV]
  rw [e]
  obtain ⟨⟨a, b⟩, c, d⟩ := p
  obtain ⟨⟨a', b'⟩, c', d'⟩ := q
  by_cases h : a = a' <;> by_cases h1 : b = b' <;> by_cases h2 : c = c' <;> by_cases h3 : d = d' <;> simp [h, h1, h2, h3, Prod.mk.injEq]
theorem alike_spots (p q : Pt) : alikes (spotD p) (spotD q) = true := by simp [spotD, alikes, alike]
theorem dep_spots (p : Pt) : deps (spotD p) ≤ 60 := by simp [spotD, deps, dep]
structure FrR (K : PySem.W.Frag) (H : Hp) (C a dx pP pW pB : Addr) (ps : List (Str × Pt)) (bs : List (Str × Str × Str)) (kP kW kB : List (Key × V)) : Prop where
  obj : H a = some (.ins C dx (frF pP pW pB))
  pl : H pP = some (.dK kP)
  wy : H pW = some (.dK kW)
  br : H pB = some (.dK kB)
  ne1 : pP ≠ pW
  ne2 : pP ≠ pB
  ne3 : pW ≠ pB
  rp : Paired (fun (p : Str × Pt) (kv : Key × V) => kv.1 = .inr p.1 ∧ Spot K H kv.2 p.2) ps kP
  rb : Paired (fun (b : Str × Str × Str) (kv : Key × V) => kv.1 = .inr b.1 ∧ ∃ p, kv.2 = .ref p ∧ Rd H p (.tup [.str b.2.1, .str b.2.2])) bs kB
section
variable {K : PySem.W.Frag} {H H' : Hp} {C a dx pP pW pB : Addr} {ps : List (Str × Pt)} {bs : List (Str × Str × Str)} {kP kW kB : List (Key × V)}
theorem paired_keys {α : Type} {R : (Str × α) → (Key × V) → Prop} : ∀ {l : List (Str × α)} {kvs : List (Key × V)}, Paired (fun b kv => kv.1 = .inr b.1 ∧ R b kv) l kvs → kvs.map (·.1) = l.map (fun b => (Sum.inr b.1 : Key))
  | _, _, .nil => rfl
  | _, _, .cons h t => by rw [List.map_cons, List.map_cons, h.1, paired_keys t]
theorem key_mem {l : List Str} {x : Str} : (Sum.inr x : Key) ∈ l.map (fun b => (Sum.inr b : Key)) ↔ x ∈ l := by
  constructor
  · intro h
    obtain ⟨y, hy, e⟩ := List.mem_map.mp h
    exact Sum.inr.inj e ▸ hy
  · exact fun h => List.mem_map.mpr ⟨x, h, rfl⟩
theorem FrR.sameT_of (R : FrR K H C a dx pP pW pB ps bs kP kW kB) (s : SameT H H') (h1 : H' a = H a) (h2 : H' pP = H pP) (h3 : H' pW = H pW) (h4 : H' pB = H pB) : FrR K H' C a dx pP pW pB ps bs kP kW kB :=
  ⟨h1.trans R.obj, h2.trans R.pl, h3.trans R.wy, h4.trans R.br, R.ne1, R.ne2, R.ne3, Paired.mapP R.rp fun _ _ h => ⟨h.1, h.2.sameT s⟩, Paired.mapP R.rb fun _ _ h => ⟨h.1, by obtain ⟨p, e, k⟩ := h.2; exact ⟨p, e, s _ _ k⟩⟩⟩
theorem FrR.same (R : FrR K H C a dx pP pW pB ps bs kP kW kB) (s : Same H H') : FrR K H' C a dx pP pW pB ps bs kP kW kB :=
  R.sameT_of (.of s) ((s _ _ R.obj).trans R.obj.symm) ((s _ _ R.pl).trans R.pl.symm) ((s _ _ R.wy).trans R.wy.symm) ((s _ _ R.br).trans R.br.symm)
theorem FrR.keysB (R : FrR K H C a dx pP pW pB ps bs kP kW kB) : kB.map (·.1) = (bs.map (·.1)).map (fun b => (Sum.inr b : Key)) := by
  rw [paired_keys R.rb, List.map_map]
  rfl
theorem FrR.keysP (R : FrR K H C a dx pP pW pB ps bs kP kW kB) : kP.map (·.1) = (ps.map (·.1)).map (fun b => (Sum.inr b : Key)) := by
  rw [paired_keys R.rp, List.map_map]
  rfl
theorem FrR.bar (R : FrR K H C a dx pP pW pB ps bs kP kW kB) (x : Str) : (valV kB (.inr x)).isSome = decide (x ∈ bs.map (·.1)) := by
  by_cases h : x ∈ bs.map (·.1)
  · obtain ⟨v, e⟩ := valV_some (kvs := kB) (k := .inr x) (by rw [R.keysB]; exact key_mem.mpr h)
    rw [e, decide_eq_true h]
    rfl
  · rw [valV_none (by rw [R.keysB]; exact fun z => h (key_mem.mp z)), decide_eq_false h]
    rfl
theorem FrR.pin (R : FrR K H C a dx pP pW pB ps bs kP kW kB) (x : Str) : (valV kP (.inr x)).isSome = decide (x ∈ ps.map (·.1)) := by
  by_cases h : x ∈ ps.map (·.1)
  · obtain ⟨v, e⟩ := valV_some (kvs := kP) (k := .inr x) (by rw [R.keysP]; exact key_mem.mpr h)
    rw [e, decide_eq_true h]
    rfl
  · rw [valV_none (by rw [R.keysP]; exact fun z => h (key_mem.mp z)), decide_eq_false h]
    rfl
theorem FrR.ab (R : FrR K H C a dx pP pW pB ps bs kP kW kB) : a ≠ pP ∧ a ≠ pW ∧ a ≠ pB :=
  ⟨fun z => (by have h := R.obj; rw [z, R.pl] at h; cases h), fun z => (by have h := R.obj; rw [z, R.wy] at h; cases h), fun z => (by have h := R.obj; rw [z, R.br] at h; cases h)⟩
theorem FrR.putBar (R : FrR K H C a dx pP pW pB ps bs kP kW kB) {x one other : Str} {t : Addr} (ht : Rd H t (.tup [.str one, .str other])) :
    FrR K (upd H pB (.dK (kB ++ [(.inr x, .ref t)]))) C a dx pP pW pB ps (bs ++ [(x, one, other)]) kP kW (kB ++ [(.inr x, .ref t)]) := by
  have s : SameT H (upd H pB (.dK (kB ++ [(.inr x, .ref t)]))) := .dict R.br
  exact ⟨by rw [upd_ne R.ab.2.2]; exact R.obj, by rw [upd_ne R.ne2]; exact R.pl, by rw [upd_ne R.ne3]; exact R.wy, upd_same, R.ne1, R.ne2, R.ne3, Paired.mapP R.rp fun _ _ h => ⟨h.1, h.2.sameT s⟩,
    Paired.snoc (Paired.mapP R.rb fun _ _ h => ⟨h.1, by obtain ⟨p, e, k⟩ := h.2; exact ⟨p, e, s _ _ k⟩⟩) ⟨rfl, t, rfl, s _ _ ht⟩⟩
theorem paired_flip {α β : Type} {R : α → β → Prop} : ∀ {l : List α} {m : List β}, Paired R l m → Paired (fun b a => R a b) m l
  | _, _, .nil => .nil
  | _, _, .cons h t => .cons h (paired_flip t)
theorem FrR.putPin (R : FrR K H C a dx pP pW pB ps bs kP kW kB) {x : Str} {p : Pt} {t : Addr} (ht : Spot K H (.ref t) p) :
    FrR K (upd H pP (.dK (kP ++ [(.inr x, .ref t)]))) C a dx pP pW pB (ps ++ [(x, p)]) bs (kP ++ [(.inr x, .ref t)]) kW kB := by
  have s : SameT H (upd H pP (.dK (kP ++ [(.inr x, .ref t)]))) := .dict R.pl
  exact ⟨by rw [upd_ne R.ab.1]; exact R.obj, upd_same, by rw [upd_ne (Ne.symm R.ne1)]; exact R.wy, by rw [upd_ne (Ne.symm R.ne2)]; exact R.br, R.ne1, R.ne2, R.ne3,
    Paired.snoc (Paired.mapP R.rp fun _ _ h => ⟨h.1, h.2.sameT s⟩) ⟨rfl, ht.sameT s⟩, Paired.mapP R.rb fun _ _ h => ⟨h.1, by obtain ⟨p, e, k⟩ := h.2; exact ⟨p, e, s _ _ k⟩⟩⟩
theorem FrR.putWays (R : FrR K H C a dx pP pW pB ps bs kP kW kB) (kW' : List (Key × V)) : FrR K (upd H pW (.dK kW')) C a dx pP pW pB ps bs kP kW' kB := by
  have s : SameT H (upd H pW (.dK kW')) := .dict R.wy
  exact ⟨by rw [upd_ne R.ab.2.1]; exact R.obj, by rw [upd_ne R.ne1]; exact R.pl, upd_same, by rw [upd_ne (Ne.symm R.ne3)]; exact R.br, R.ne1, R.ne2, R.ne3,
    Paired.mapP R.rp fun _ _ h => ⟨h.1, h.2.sameT s⟩, Paired.mapP R.rb fun _ _ h => ⟨h.1, by obtain ⟨p, e, k⟩ := h.2; exact ⟨p, e, s _ _ k⟩⟩⟩
theorem flat_strs (xs : List Str) : (xs.map V.str).all flatV = true := by
  rw [List.all_map, List.all_eq_true]
  exact fun _ _ => rfl
theorem inV_strs {x : Str} : ∀ (xs : List Str), inV (.str x) (xs.map V.str) = decide (x ∈ xs)
  | [] => rfl
  | y :: ys => by
    have ih := inV_strs (x := x) ys
    unfold inV at ih ⊢
    rw [List.map_cons, List.any_cons, ih]
    by_cases e : y = x
    · subst e
      simp [eqV]
    · have e' : ¬ x = y := fun z => e z.symm
      simp [eqV, e, e']
end
end Ty

set_option maxHeartbeats 4000000
namespace Ty
open PySem PySem.Spec PyProof.Rows L2
open Builtin.Int (intBits)
def qr (r : Rat) : Int × Int := (r.num, (r.den : Int))
theorem qr_pos (r : Rat) : 0 < (qr r).2 := by
  have := r.den_pos
  show (0 : Int) < (r.den : Int)
  omega
theorem qr_gcd (r : Rat) : Int.gcd (qr r).1 (qr r).2 = 1 := by
  have := r.reduced
  show Int.gcd r.num (r.den : Int) = 1
  unfold Int.gcd
  simpa [Nat.Coprime] using this
theorem vl_qr (r : Rat) : vl (qr r) = r := by
  show (r.num : Rat) / ((r.den : Int) : Rat) = r
  rw [← Rat.divInt_eq_div]
  exact Rat.num_divInt_den r
theorem qr_of {q : Int × Int} (h : 0 < q.2) (g : Int.gcd q.1 q.2 = 1) : q = qr (vl q) := vl_inj h (qr_pos _) g (qr_gcd _) (vl_qr _).symm
theorem low_qr {t b : Int} (h : b ≠ 0) : low t b = qr ((t : Rat) / (b : Rat)) := by
  rw [← vl_low h]
  exact qr_of (low_pos h) (low_gcd h)
theorem qr_inj {a b : Rat} (h : qr a = qr b) : a = b := by
  rw [← vl_qr a, ← vl_qr b, h]
theorem qr_int (i : Int) : qr (i : Rat) = (i, 1) := by
  have e : (i, (1 : Int)) = qr (vl (i, 1)) := qr_of (by show (0 : Int) < 1; decide) (by show Int.gcd i 1 = 1; simp)
  have v : vl (i, (1 : Int)) = (i : Rat) := by
    unfold vl
    show (i : Rat) / ((1 : Int) : Rat) = i
    have : ((1 : Int) : Rat) = 1 := by rfl
    rw [this]
    grind
  rw [e, v]
theorem qr_neg (r : Rat) : qr (-r) = (-(qr r).1, (qr r).2) := by
  have e : ((-(qr r).1, (qr r).2) : Int × Int) = qr (vl (-(qr r).1, (qr r).2)) := qr_of (qr_pos r) (by
    have := qr_gcd r
    show Int.gcd (-(qr r).1) (qr r).2 = 1
    rw [Int.neg_gcd]
    exact this)
  have v : vl (-(qr r).1, (qr r).2) = -r := by
    have h := vl_qr r
    unfold vl at h ⊢
    push_cast
    rw [← h]
    grind
  rw [e, v]
theorem ratz {r : Rat} : ((qr r).2 : Rat) ≠ 0 := ratne (Int.ne_of_gt (qr_pos r))
theorem qr_add (a b : Rat) : low ((qr a).1 * (qr b).2 + (qr b).1 * (qr a).2) ((qr a).2 * (qr b).2) = qr (a + b) := by
  have ha := qr_pos a
  have hb := qr_pos b
  rw [low_qr (Int.ne_of_gt (Int.mul_pos ha hb))]
  have e1 := vl_qr a
  have e2 := vl_qr b
  have z1 := ratz (r := a)
  have z2 := ratz (r := b)
  unfold vl at e1 e2
  congr 1
  push_cast
  grind
theorem qr_sub (a b : Rat) : low ((qr a).1 * (qr b).2 - (qr b).1 * (qr a).2) ((qr a).2 * (qr b).2) = qr (a - b) := by
  have ha := qr_pos a
  have hb := qr_pos b
  rw [low_qr (Int.ne_of_gt (Int.mul_pos ha hb))]
  have e1 := vl_qr a
  have e2 := vl_qr b
  have z1 := ratz (r := a)
  have z2 := ratz (r := b)
  unfold vl at e1 e2
  congr 1
  push_cast
  grind
theorem qr_mul (a b : Rat) : low ((qr a).1 * (qr b).1) ((qr a).2 * (qr b).2) = qr (a * b) := by
  have ha := qr_pos a
  have hb := qr_pos b
  rw [low_qr (Int.ne_of_gt (Int.mul_pos ha hb))]
  have e1 := vl_qr a
  have e2 := vl_qr b
  have z1 := ratz (r := a)
  have z2 := ratz (r := b)
  unfold vl at e1 e2
  congr 1
  push_cast
  grind
structure Sz (k : Nat) (r : Rat) : Prop where
  top : intBits (qr r).1 ≤ k
  bot : intBits (qr r).2 ≤ k
theorem Sz.up {k l : Nat} {r : Rat} (h : Sz k r) (kl : k ≤ l) : Sz l r := ⟨Nat.le_trans h.top kl, Nat.le_trans h.bot kl⟩
theorem bits_addF {a b : Int} {k : Nat} (ha : intBits a ≤ k) (hb : intBits b ≤ k) : intBits (a + b) ≤ k + 1 := by
  rw [intBits_le_iff] at ha hb ⊢
  have := Int.natAbs_add_le a b
  rw [Nat.pow_succ]
  omega
theorem bits_subF {a b : Int} {k : Nat} (ha : intBits a ≤ k) (hb : intBits b ≤ k) : intBits (a - b) ≤ k + 1 := by
  rw [intBits_le_iff] at ha hb ⊢
  have := Int.natAbs_sub_le a b
  rw [Nat.pow_succ]
  omega
theorem sz_low {t b : Int} {k : Nat} (hb : b ≠ 0) (h1 : intBits t ≤ k) (h2 : intBits b ≤ k) : Sz k ((t : Rat) / (b : Rat)) := by
  rw [← vl_low hb]
  have e := qr_of (low_pos (t := t) hb) (low_gcd hb)
  exact ⟨by rw [← e]; exact intBits_le_of_natAbs (low_top_le hb) h1, by rw [← e]; exact intBits_le_of_natAbs (low_bot_le hb) h2⟩
theorem sz_of {t b : Int} {k : Nat} {r : Rat} (hb : b ≠ 0) (e : low t b = qr r) (h1 : intBits t ≤ k) (h2 : intBits b ≤ k) : Sz k r := by
  have z := low_qr (t := t) hb
  rw [z] at e
  have := qr_inj e
  rw [← this]
  exact sz_low hb h1 h2
theorem Sz.add {k l : Nat} {a b : Rat} (ha : Sz k a) (hb : Sz l b) : Sz (k + l + 1) (a + b) :=
  sz_of (Int.ne_of_gt (Int.mul_pos (qr_pos a) (qr_pos b))) (qr_add a b) (bits_addF (intBits_mul_le ha.top hb.bot) (by rw [Nat.add_comm]; exact intBits_mul_le hb.top ha.bot)) (Nat.le_succ_of_le (intBits_mul_le ha.bot hb.bot))
theorem Sz.sub {k l : Nat} {a b : Rat} (ha : Sz k a) (hb : Sz l b) : Sz (k + l + 1) (a - b) :=
  sz_of (Int.ne_of_gt (Int.mul_pos (qr_pos a) (qr_pos b))) (qr_sub a b) (bits_subF (intBits_mul_le ha.top hb.bot) (by rw [Nat.add_comm]; exact intBits_mul_le hb.top ha.bot)) (Nat.le_succ_of_le (intBits_mul_le ha.bot hb.bot))
theorem Sz.mul {k l : Nat} {a b : Rat} (ha : Sz k a) (hb : Sz l b) : Sz (k + l) (a * b) :=
  sz_of (Int.ne_of_gt (Int.mul_pos (qr_pos a) (qr_pos b))) (qr_mul a b) (intBits_mul_le ha.top hb.top) (intBits_mul_le ha.bot hb.bot)
theorem Sz.neg {k : Nat} {a : Rat} (ha : Sz k a) : Sz k (-a) := by
  refine ⟨?_, ?_⟩
  · rw [qr_neg]
    have := ha.top
    rw [intBits_le_iff] at this ⊢
    show (-(qr a).1).natAbs < 2 ^ k
    rw [Int.natAbs_neg]
    exact this
  · rw [qr_neg]
    exact ha.bot
theorem sz_int {i : Int} {k : Nat} (h : i.natAbs < 2 ^ k) (hk : 1 ≤ k) : Sz k (i : Rat) := by
  refine ⟨?_, ?_⟩
  · rw [qr_int]
    exact intBits_le_iff.mpr h
  · rw [qr_int]
    refine intBits_le_iff.mpr ?_
    show 1 < 2 ^ k
    exact Nat.one_lt_two_pow (by omega)
def NmR (K : PySem.W.Frag) (H : Hp) (v : V) (r : Rat) : Prop := NmK K H v (qr r)
def PtR (K : PySem.W.Frag) (H : Hp) (v : V) (p : Rat × Rat) : Prop := ∃ a u1 u2, v = .ref a ∧ SqT K H a [u1, u2] ∧ NmR K H u1 p.1 ∧ NmR K H u2 p.2
section
variable {K : PySem.W.Frag} {H H' : Hp} {v : V} {r : Rat} {p : Rat × Rat}
theorem NmR.sameT (h : NmR K H v r) (s : SameT H H') : NmR K H' v r := NmK.sameT h s
theorem NmR.same (h : NmR K H v r) (s : Same H H') : NmR K H' v r := NmK.same h s
theorem PtR.sameT (h : PtR K H v p) (s : SameT H H') : PtR K H' v p := by
  obtain ⟨a, u1, u2, e, h1, h2, h3⟩ := h
  exact ⟨a, u1, u2, e, s.seqT h1, h2.sameT s, h3.sameT s⟩
theorem PtR.same (h : PtR K H v p) (s : Same H H') : PtR K H' v p := h.sameT (.of s)
abbrev ptQ (p : Rat × Rat) : Pt := (qr p.1, qr p.2)
theorem PtR.spot (h : PtR K H v p) : Spot K H v (ptQ p) := h
def PtsR (K : PySem.W.Frag) (H : Hp) (us : List V) (ps : List (Rat × Rat)) : Prop := Paired (PtR K H) us ps
theorem PtsR.sameT {us : List V} {ps : List (Rat × Rat)} (h : PtsR K H us ps) (s : SameT H H') : PtsR K H' us ps := Paired.mapP h fun _ _ z => z.sameT s
theorem PtsR.same {us : List V} {ps : List (Rat × Rat)} (h : PtsR K H us ps) (s : Same H H') : PtsR K H' us ps := h.sameT (.of s)
end
section
variable {X : Cx}
theorem ptR_inj {pins : List (Addr × Obj)} {σ : L2.St} {H : Hp} {s : Shared} {v : V} {p q : Rat × Rat} (I : Inv X pins σ H s) (h1 : PtR X.K H v p) (h2 : PtR X.K H v q) : p = q := by
  obtain ⟨a, u1, u2, rfl, t1, ⟨b1, rfl, n1⟩, b2, rfl, n2⟩ := h1
  obtain ⟨a', w1, w2, e, t2, ⟨c1, rfl, m1⟩, c2, rfl, m2⟩ := h2
  cases e
  cases I.tuple_inj t1 t2
  have e1 := I.tuple_inj n1 m1
  have e2 := I.tuple_inj n2 m2
  simp only [List.cons.injEq, V.int.injEq, and_true] at e1 e2
  exact Prod.ext (qr_inj (Prod.ext e1.1 e1.2)) (qr_inj (Prod.ext e2.1 e2.2))
def rInPt (K : PySem.W.Frag) (neg : Bool) : R2 := fun x y H Q => ∃ p l us ps, y = .ref l ∧ SqL K H l us ∧ PtR K H x p ∧ PtsR K H us ps ∧ Q (.bl (if neg then !decide (p ∈ ps) else decide (p ∈ ps))) H
theorem in_pt {pins : List (Addr × Obj)} {σ : L2.St} {H : Hp} {s : Shared} {A : Around} {x : V} {v : Value} {p : Rat × Rat} {us : List V} {its : List Value} {ps : List (Rat × Rat)} (I : Inv X pins σ H s) (hu : A.units + 60 < cLine) (hx : PtR X.K H x p) (rx : RelV x v) (hp : PtsR X.K H us ps) (rv : Vals us its) :
    ∃ e : Value → Bool, (∀ y, y ∈ its.toArray → SeqAt.EqAt A s y v (e y)) ∧ its.toArray.any e = decide (p ∈ ps) := by
  have key : ∀ (j : Nat) (y : Value), its[j]? = some y → ∃ u q, us[j]? = some u ∧ ps[j]? = some q ∧ RelV u y ∧ PtR X.K H u q := fun j y ey => by
    obtain ⟨u, eu, ru⟩ := paired_get (paired_flip rv) ey
    obtain ⟨q, eq, hq⟩ := paired_get hp eu
    exact ⟨u, q, eu, eq, ru, hq⟩
  refine ⟨fun y => @decide (∃ u q, RelV u y ∧ PtR X.K H u q ∧ q = p) (Classical.propDecidable _), fun y hy => ?_, ?_⟩
  · obtain ⟨j, hj, ey⟩ := List.mem_iff_getElem.mp (by simpa using hy : y ∈ its)
    obtain ⟨u, q, eu, eq, ru, hq⟩ := key j y (by rw [List.getElem?_eq_getElem hj, ey])
    have z := eqAt_da (A := A) I (.t (spotD (ptQ q))) (.t (spotD (ptQ p))) u x y v hq.spot.is hx.spot.is (by unfold alike; exact alike_spots _ _) ru rx (by have := dep_spots (ptQ q); unfold dep; simp only [spotD, deps, dep] at this ⊢; omega)
    have e : eqDa (.t (spotD (ptQ q))) (.t (spotD (ptQ p))) = @decide (∃ u q, RelV u y ∧ PtR X.K H u q ∧ q = p) (Classical.propDecidable _) := by
      unfold eqDa
      rw [eq_spots]
      by_cases c : q = p
      · subst c
        rw [decide_eq_true rfl]
        symm
        exact @decide_eq_true _ (Classical.propDecidable _) ⟨u, q, ru, hq, rfl⟩
      · rw [decide_eq_false (fun z => c (Prod.ext (qr_inj (congrArg Prod.fst z)) (qr_inj (congrArg Prod.snd z))))]
        symm
        refine @decide_eq_false _ (Classical.propDecidable _) fun ⟨u', q', ru', hq', e'⟩ => ?_
        obtain ⟨a, _, _, rfl, _⟩ := id hq
        obtain ⟨a', _, _, rfl, _⟩ := id hq'
        have r1 : y = Value.ref a := ru
        have r2 : y = Value.ref a' := ru'
        rw [r1] at r2
        cases r2
        exact c ((ptR_inj I hq hq').trans e')
    rw [e] at z
    exact z
  · rw [Bool.eq_iff_iff, decide_eq_true_iff]
    simp only [List.any_toArray, List.any_eq_true]
    constructor
    · rintro ⟨y, hy, ey⟩
      obtain ⟨j, hj, ej⟩ := List.mem_iff_getElem.mp hy
      obtain ⟨u, q, eu, eq, ru, hq⟩ := key j y (by rw [List.getElem?_eq_getElem hj, ej])
      obtain ⟨u', q', ru', hq', e'⟩ := @of_decide_eq_true _ (Classical.propDecidable _) ey
      obtain ⟨a, _, _, rfl, _⟩ := id hq
      obtain ⟨a', _, _, rfl, _⟩ := id hq'
      have r1 : y = Value.ref a := ru
      have r2 : y = Value.ref a' := ru'
      rw [r1] at r2
      cases r2
      rw [← e', ← ptR_inj I hq hq']
      exact List.mem_of_getElem? eq
    · intro hm
      obtain ⟨j, hj, ej⟩ := List.mem_iff_getElem.mp hm
      have lu : us.length = ps.length := Paired.length hp
      have li : us.length = its.length := rv.length
      have hj' : j < its.length := by omega
      refine ⟨its[j], List.getElem_mem hj', ?_⟩
      obtain ⟨u, q, eu, eq, ru, hq⟩ := key j its[j] (List.getElem?_eq_getElem hj')
      rw [List.getElem?_eq_getElem hj, ej] at eq
      cases eq
      exact @decide_eq_true _ (Classical.propDecidable _) ⟨u, p, ru, hq, rfl⟩
theorem op_inPt (hu : X.A.units + 64 < cLine) : OpR X (compareOp .In) (rInPt X.K false) := by
  intro pins s σ H x y v u Q I rx ry h
  obtain ⟨p, l, us, ps, rfl, hq, hx, hp, q⟩ := h
  cases ry
  obtain ⟨its, rv, pl, hz⟩ := I.list hq
  obtain ⟨e, he, ea⟩ := in_pt (A := X.A.in1) I (by rw [in1_units]; omega) hx rx hp rv
  refine SeqAt.in_listAt e pl.isList he ⟨.bl _, H, I, rfl, ?_⟩
  rw [ea]
  exact q
end
end Ty

set_option maxHeartbeats 4000000
namespace Ty
open PySem PySem.Spec PyProof.Rows L2
theorem paired_val {α : Type} {R : (Str × α) → (Key × V) → Prop} {x : Str} {y : α} : ∀ {l : List (Str × α)} {kvs : List (Key × V)}, Paired (fun b kv => kv.1 = .inr b.1 ∧ R b kv) l kvs → (l.map (·.1)).Nodup → (x, y) ∈ l → ∃ v, valV kvs (.inr x) = some v ∧ R (x, y) (.inr x, v)
  | _ :: _, kv :: _, .cons h t, nd, m => by
    rw [List.map_cons, List.nodup_cons] at nd
    rcases List.mem_cons.mp m with e | m
    · subst e
      have h1 : kv.1 = .inr x := h.1
      refine ⟨kv.2, valV_pos h1, ?_⟩
      have h2 := h.2
      rw [← h1]
      exact h2
    · obtain ⟨v, e, r⟩ := paired_val t nd.2 m
      refine ⟨v, ?_, r⟩
      rw [valV_neg (fun z => ?_)]
      · exact e
      · rw [h.1] at z
        exact nd.1 (Sum.inr.inj z ▸ List.mem_map.mpr ⟨_, m, rfl⟩)
def WyR (K : PySem.W.Frag) (H : Hp) (pw : List (Str × List (Rat × Rat))) (kW : List (Key × V)) : Prop :=
  Paired (fun (p : Str × List (Rat × Rat)) (kv : Key × V) => kv.1 = .inr p.1 ∧ ∃ l us, kv.2 = .ref l ∧ H l = some (.lst us) ∧ PtsR K H us p.2) pw kW
theorem WyR.same {K : PySem.W.Frag} {H H' : Hp} {pw : List (Str × List (Rat × Rat))} {kW : List (Key × V)} (h : WyR K H pw kW) (s : Same H H') : WyR K H' pw kW :=
  Paired.mapP h fun _ _ z => ⟨z.1, by obtain ⟨l, us, e1, e2, e3⟩ := z.2; exact ⟨l, us, e1, s _ _ e2, e3.same s⟩⟩
theorem WyR.dict {K : PySem.W.Frag} {H : Hp} {pw : List (Str × List (Rat × Rat))} {kW kvs : List (Key × V)} {d : Addr} {o : HO} (h : WyR K H pw kW) (e : H d = some (.dK kvs)) : WyR K (upd H d o) pw kW :=
  Paired.mapP h fun _ _ z => ⟨z.1, by
    obtain ⟨l, us, e1, e2, e3⟩ := z.2
    exact ⟨l, us, e1, by rw [upd_ne (fun q => by rw [q, e] at e2; cases e2)]; exact e2, e3.sameT (.dict e)⟩⟩
theorem WyR.keys {K : PySem.W.Frag} {H : Hp} {pw : List (Str × List (Rat × Rat))} {kW : List (Key × V)} (h : WyR K H pw kW) : kW.map (·.1) = (pw.map (·.1)).map (fun b => (Sum.inr b : Key)) := by
  rw [paired_keys h, List.map_map]
  rfl
theorem FrR.ends {K : PySem.W.Frag} {H : Hp} {C a dx pP pW pB : Addr} {ps : List (Str × Pt)} {bs : List (Str × Str × Str)} {kP kW kB : List (Key × V)} (R : FrR K H C a dx pP pW pB ps bs kP kW kB) (nd : (bs.map (·.1)).Nodup) {x one other : Str} (m : (x, one, other) ∈ bs) :
    ∃ p, valV kB (.inr x) = some (.ref p) ∧ Rd H p (.tup [.str one, .str other]) := by
  obtain ⟨v, e, p, ep, r⟩ := paired_val R.rb nd m
  have ep' : v = .ref p := ep
  exact ⟨p, by rw [e, ep'], r⟩
theorem FrR.place {K : PySem.W.Frag} {H : Hp} {C a dx pP pW pB : Addr} {ps : List (Str × Pt)} {bs : List (Str × Str × Str)} {kP kW kB : List (Key × V)} (R : FrR K H C a dx pP pW pB ps bs kP kW kB) (nd : (ps.map (·.1)).Nodup) {x : Str} {p : Pt} (m : (x, p) ∈ ps) :
    ∃ v, valV kP (.inr x) = some v ∧ Spot K H v p := paired_val R.rp nd m
end Ty
namespace Ty
open PySem PySem.Spec PyProof.Rows L2
structure PinD where
  nm : Str
  sp : Rat × Rat
  ws : List (Rat × Rat)
structure BarD where
  nm : Str
  one : PinD
  other : PinD
structure FrA (K : PySem.W.Frag) (H : Hp) (C a : Addr) (pins : List PinD) (bars : List BarD) : Prop where
  ex : ∃ (dx pP pW pB : Addr) (kP kW kB : List (Key × V)), FrR K H C a dx pP pW pB (pins.map fun p => (p.nm, ptQ p.sp)) (bars.map fun b => (b.nm, b.one.nm, b.other.nm)) kP kW kB ∧ WyR K H (pins.map fun p => (p.nm, p.ws)) kW
structure GoodF (pins : List PinD) (bars : List BarD) : Prop where
  np : (pins.map (·.nm)).Nodup
  nb : (bars.map (·.nm)).Nodup
  ends : ∀ b ∈ bars, b.one ∈ pins ∧ b.other ∈ pins ∧ b.one.nm ≠ b.other.nm
  sz : ∀ p ∈ pins, Sz 50 p.sp.1 ∧ Sz 50 p.sp.2 ∧ ∀ w ∈ p.ws, Sz 50 w.1 ∧ Sz 50 w.2
  lp : pins.length ≤ 6
  lb : bars.length ≤ 8
  lw : ∀ p ∈ pins, p.ws.length ≤ 2
theorem FrA.same {K : PySem.W.Frag} {H H' : Hp} {C a : Addr} {pins : List PinD} {bars : List BarD} (h : FrA K H C a pins bars) (s : Same H H') : FrA K H' C a pins bars := by
  obtain ⟨dx, pP, pW, pB, kP, kW, kB, R, W⟩ := h.ex
  exact ⟨dx, pP, pW, pB, kP, kW, kB, R.same s, W.same s⟩
def PtD (K : PySem.W.Frag) (H : Hp) (kvs : List (Key × V)) (F : Str → Option (Rat × Rat)) : Prop :=
  ∀ nm, (valV kvs (.inr nm) = none ∧ F nm = none) ∨ ∃ v p, valV kvs (.inr nm) = some v ∧ F nm = some p ∧ PtR K H v p
def RtD (K : PySem.W.Frag) (H : Hp) (kvs : List (Key × V)) (F : Str → Option Rat) : Prop :=
  ∀ nm, (valV kvs (.inr nm) = none ∧ F nm = none) ∨ ∃ v p, valV kvs (.inr nm) = some v ∧ F nm = some p ∧ NmR K H v p
def LtD (K : PySem.W.Frag) (H : Hp) (kvs : List (Key × V)) (F : Str → Option (List Rat)) : Prop :=
  ∀ nm, (valV kvs (.inr nm) = none ∧ F nm = none) ∨ ∃ l us rs, valV kvs (.inr nm) = some (.ref l) ∧ F nm = some rs ∧ H l = some (.lst us) ∧ Paired (NmR K H) us rs
section
variable {K : PySem.W.Frag} {H H' : Hp} {kvs : List (Key × V)}
theorem PtD.same {F : Str → Option (Rat × Rat)} (h : PtD K H kvs F) (s : Same H H') : PtD K H' kvs F := fun nm => by
  rcases h nm with h | ⟨v, q, h1, h2, h3⟩
  · exact .inl h
  · exact .inr ⟨v, q, h1, h2, h3.same s⟩
theorem RtD.same {F : Str → Option Rat} (h : RtD K H kvs F) (s : Same H H') : RtD K H' kvs F := fun nm => by
  rcases h nm with h | ⟨v, q, h1, h2, h3⟩
  · exact .inl h
  · exact .inr ⟨v, q, h1, h2, h3.same s⟩
theorem LtD.same {F : Str → Option (List Rat)} (h : LtD K H kvs F) (s : Same H H') : LtD K H' kvs F := fun nm => by
  rcases h nm with h | ⟨l, us, q, h1, h2, h3, h4⟩
  · exact .inl h
  · exact .inr ⟨l, us, q, h1, h2, s _ _ h3, Paired.mapP h4 fun _ _ z => z.same s⟩
theorem PtD.dget {F : Str → Option (Rat × Rat)} (h : PtD K H kvs F) {x : Str} {v : V} {q : Rat × Rat} (n : PtR K H v q) : PtR K H ((valV kvs (.inr x)).getD v) ((F x).getD q) := by
  rcases h x with ⟨h1, h2⟩ | ⟨u, q', h1, h2, h3⟩
  · rw [h1, h2]
    exact n
  · rw [h1, h2]
    exact h3
theorem RtD.dget {F : Str → Option Rat} (h : RtD K H kvs F) {x : Str} {v : V} {q : Rat} (n : NmR K H v q) : NmR K H ((valV kvs (.inr x)).getD v) ((F x).getD q) := by
  rcases h x with ⟨h1, h2⟩ | ⟨u, q', h1, h2, h3⟩
  · rw [h1, h2]
    exact n
  · rw [h1, h2]
    exact h3
end
end Ty
namespace Ty
open PySem PySem.Spec PyProof.Rows L2
end Ty
namespace Ty
open PySem PySem.Spec PyProof.Rows L2
theorem take_new {α : Type} {nm : α → Str} {l : List α} (nd : (l.map nm).Nodup) {i : Nat} {b b' : α} (h : l[i]? = some b) (m : b' ∈ l.take i) : nm b' ≠ nm b := fun e => by
  have il := (List.getElem?_eq_some_iff.mp h).1
  obtain ⟨j, hj, ej⟩ := List.mem_iff_getElem.mp m
  rw [List.getElem_take] at ej
  rw [List.length_take] at hj
  have q1 : (l.map nm)[j]? = some (nm b) := by rw [List.getElem?_map, List.getElem?_eq_getElem (by omega), ej, ← e]; rfl
  have q2 : (l.map nm)[i]? = some (nm b) := by rw [List.getElem?_map, h]; rfl
  have := (List.getElem?_inj (by rw [List.length_map]; omega) nd).mp (q1.trans q2.symm)
  omega
theorem take_snoc {α : Type} {l : List α} {i : Nat} {b : α} (h : l[i]? = some b) : l.take (i + 1) = l.take i ++ [b] := by rw [List.take_add_one, h]; rfl
end Ty
namespace Ty
open PySem PySem.Spec PyProof.Rows L2
theorem valV_at' {κ : Type} [DecidableEq κ] : ∀ {kvs : List (κ × V)} {t : Nat} {k : κ} {y : V}, (kvs.map (·.1)).Nodup → kvs[t]? = some (k, y) → valV kvs k = some y
  | p :: r, 0, k, y, nd, e => by
    cases e
    exact valV_pos rfl
  | p :: r, t + 1, k, y, nd, e => by
    rw [List.map_cons, List.nodup_cons] at nd
    have e' : r[t]? = some (k, y) := e
    rw [valV_neg (fun z => nd.1 (z ▸ List.mem_map.mpr ⟨_, List.mem_of_getElem? e', rfl⟩))]
    exact valV_at' nd.2 e'
end Ty

set_option maxHeartbeats 4000000
namespace Ty
open PySem PySem.Spec PyProof.Rows L2
theorem none_back {H H' : Hp} (s : Same H H') {p : Addr} (n : H' p = none) : H p = none := by
  cases e : H p with
  | none => rfl
  | some o => rw [s _ _ e] at n; cases n
end Ty
namespace Ty
open PySem PySem.Spec PyProof.Rows L2
section
variable {X : Cx}
def rTupL (K : PySem.W.Frag) : List V → Hp → VK → Prop := fun xs H Q => ∃ (p : Addr) (ys : List V), xs = [.ref p] ∧ SqL K H p ys ∧ ∀ t, H t = none → Q (.ref t) (upd H t (.tup ys))
end
section
variable {D : Addr} {te : TE} {cap : L2.St} {H1 : Hp} {Q : VK}
end
end Ty

set_option maxHeartbeats 4000000
namespace Ty
open PySem PySem.Spec PyProof.Rows L2
abbrev IsZipB (h : Heap) (z TI TO : Addr) (f0 : Value) (fb : Bool) : Prop :=
  h.get? z = some { cls := .type "zip", dict := none, data := .fields #[f0, .bool fb, .bool false, .ref TI, .ref TO], slots := #[] }
section
variable {prog : Program} {w : World} {A : Around} {E : Value → Shared → Prop} {s : Shared}
theorem wpAny_alive {a : Addr} {o : Obj} {Q : Option Obj → Shared → Prop} (h : s.heap.get? a = some o) (q : Q (some o) s) : wpAny (model prog w) A (loadIfAlive a) Q E s := fun Γ p _ => by
  show Sem.wp _ _ (.loadIfAlive a .pure) _ _ _ _
  rw [Sem.wp_loadIfAlive, h]
  exact q
theorem not_free {z TI TO T : Addr} {fb : Bool} {o : Obj} {Q : Bool → Shared → Prop} (hz : IsZipB s.heap z TI TO (rawInt T) fb) (hT : s.heap.get? T = some o)
    (hQ : ∀ h', IsZipB h' z TI TO (rawInt T) true → Heap.SameBut z s.heap h' → Q false { s with heap := h' }) : wpAny (model prog w) A (Builtin.SmallTypes.ownedTupleIsFree (.ref z)) Q E s := by
  unfold Builtin.SmallTypes.ownedTupleIsFree
  refine wpAny_bind (wpAny_field hz rfl (x := rawInt T) rfl ?_)
  show wpAny _ _ (loadIfAlive ((T : Int)).toNat >>= _) _ _ _
  refine wpAny_bind (wpAny_alive (o := o) (by simpa using hT) ?_)
  simp only [Option.isNone_some, Bool.false_eq_true, if_false]
  refine wpAny_bind (wpAny_field hz rfl (x := .bool fb) rfl ?_)
  cases fb with
  | true =>
    show wpAny _ _ (if (Value.bool true != Value.bool true) = true then _ else _) _ _ _
    rw [if_neg (by decide)]
    exact wpAny_pure (hQ s.heap hz ⟨rfl, fun _ _ => rfl⟩)
  | false =>
    show wpAny _ _ (if (Value.bool false != Value.bool true) = true then _ else _) _ _ _
    rw [if_pos (by decide)]
    refine wpAny_bind (wpAny_setField_rec hz (by simp) fun h' hz' hs' => wpAny_pure (hQ h' hz' hs'))
theorem zip_item2 {z TI TO T i1 i2 l1 l2 : Addr} {fb : Bool} {o : Obj} {k1 k2 : Nat} {xs ys : Array Value} {x y : Value} {Q : Value → Shared → Prop} (D : ZipApart z TI TO i1 i2 l1 l2)
    (hz : IsZipB s.heap z TI TO (rawInt T) fb) (hT : s.heap.get? T = some o) (hTI : IsPair s.heap TI (.ref i1) (.ref i2))
    (h1 : s.heap.IsListIter i1 l1 k1) (h2 : s.heap.IsListIter i2 l2 k2) (hl1 : s.heap.IsList l1 xs) (hl2 : s.heap.IsList l2 ys) (hx : xs[k1]? = some x) (hy : ys[k2]? = some y)
    (hQ : ∀ h', IsZipB h' z TI TO (rawInt T) true → h'.IsListIter i1 l1 (k1 + 1) → h'.IsListIter i2 l2 (k2 + 1) → IsPair h' s.heap.objs.size x y → h'.objs.size = s.heap.objs.size + 1 →
      (∀ c o, c ≠ z → c ≠ i1 → c ≠ i2 → s.heap.get? c = some o → h'.get? c = some o) → Q (.ref s.heap.objs.size) { s with heap := h' }) :
    wpAny (model prog w) A (Builtin.«zip.__next__» ⟨[.ref z], []⟩) (fun fin s' => ∃ v, fin = .done (.ret v) ∧ Q v s') E s := by
  show wpAny _ _ (field (.ref z) 2 >>= _) _ _ _
  refine wpAny_bind (wpAny_field hz rfl (x := .bool false) rfl ?_)
  show wpAny _ _ (field (.ref z) 3 >>= _) _ _ _
  refine wpAny_bind (wpAny_field hz rfl (x := .ref TI) rfl ?_)
  refine wpAny_bind (wpAny_seqItems hTI rfl ?_)
  show wpAny _ _ (Builtin.SmallTypes.ownedTupleIsFree (.ref z) >>= _) _ _ _
  refine wpAny_bind (not_free hz hT fun h₁ hz₁ hs₁ => ?_)
  simp only [Bool.false_eq_true, if_false]
  refine wpAny_bind ?_
  show wpAny _ _ (forIn [Value.ref i1, Value.ref i2].toArray _ _) _ _ _
  rw [List.forIn_toArray]
  simp only [List.forIn_cons, List.forIn_nil]
  refine wpAny_bind (wpAny_bind (wpAny_holding ?_))
  show wpAny _ _ (Builtin.SmallTypes.nextOf (.ref i1) >>= _) _ _ _
  refine wpAny_bind (wpAny_nextOf_list_item (h1.extBut hs₁.extBut D.i1z) (hl1.extBut hs₁.extBut D.l1z) hx fun h₂ h1₂ hs₂ => wpAny_pure ?_)
  refine wpAny_pure ?_
  refine wpAny_bind (wpAny_bind (wpAny_holding ?_))
  show wpAny _ _ (Builtin.SmallTypes.nextOf (.ref i2) >>= _) _ _ _
  refine wpAny_bind (wpAny_nextOf_list_item ((h2.extBut hs₁.extBut D.i2z).extBut hs₂.extBut D.i12.symm) ((hl2.extBut hs₁.extBut D.l2z).extBut hs₂.extBut D.l2i1) hy fun h₄ h2₄ hs₄ => wpAny_pure ?_)
  refine wpAny_pure (wpAny_pure ?_)
  refine wpAny_bind (wpAny_newTuple (hsz := (by show 2 ≤ sizeLine; decide)) ?_)
  have hsz : h₄.objs.size = s.heap.objs.size := by rw [hs₄.1, hs₂.1, hs₁.1]
  refine wpAny_pure ⟨_, rfl, ?_⟩
  have hz₄ : IsZipB h₄ z TI TO (rawInt T) true := hs₄.extBut _ _ D.i2z.symm (hs₂.extBut _ _ D.i1z.symm hz₁)
  show Q (.ref h₄.objs.size) _
  rw [hsz]
  refine hQ _ (Heap.get?_push_of_some _ hz₄) ((h1₂.extBut hs₄.extBut D.i12).at fun o e => Heap.get?_push_of_some _ e) (h2₄.at fun o e => Heap.get?_push_of_some _ e) ?_ (by rw [Heap.size_push, hsz]) fun c o c1 c3 c4 e => Heap.get?_push_of_some _ (hs₄.extBut _ _ c4 (hs₂.extBut _ _ c3 (hs₁.extBut _ _ c1 e)))
  show (h₄.push _).get? _ = _
  rw [← hsz]
  exact Heap.get?_push_size _ rfl
theorem zip_end2 {z TI TO T i1 i2 l1 l2 : Addr} {fb : Bool} {o : Obj} {k1 k2 : Nat} {xs ys : Array Value} {Q : Fin → Shared → Prop} (hh : A.handled = none) (D : ZipApart z TI TO i1 i2 l1 l2)
    (hz : IsZipB s.heap z TI TO (rawInt T) fb) (hT : s.heap.get? T = some o) (hTI : IsPair s.heap TI (.ref i1) (.ref i2))
    (h1 : s.heap.IsListIter i1 l1 k1) (h2 : s.heap.IsListIter i2 l2 k2) (hl1 : s.heap.IsList l1 xs) (hl2 : s.heap.IsList l2 ys) (hend : xs[k1]? = none ∨ ys[k2]? = none)
    (hE : ∀ h' e, (∀ c o, c ≠ z → c ≠ i1 → c ≠ i2 → s.heap.get? c = some o → h'.get? c = some o) → (∃ o, h'.get? e = some o ∧ o.cls = .type "StopIteration") → E (.ref e) { s with heap := h' }) :
    wpAny (model prog w) A (Builtin.«zip.__next__» ⟨[.ref z], []⟩) Q E s := by
  show wpAny _ _ (field (.ref z) 2 >>= _) _ _ _
  refine wpAny_bind (wpAny_field hz rfl (x := .bool false) rfl ?_)
  show wpAny _ _ (field (.ref z) 3 >>= _) _ _ _
  refine wpAny_bind (wpAny_field hz rfl (x := .ref TI) rfl ?_)
  refine wpAny_bind (wpAny_seqItems hTI rfl ?_)
  show wpAny _ _ (Builtin.SmallTypes.ownedTupleIsFree (.ref z) >>= _) _ _ _
  refine wpAny_bind (not_free hz hT fun h₁ hz₁ hs₁ => ?_)
  simp only [Bool.false_eq_true, if_false]
  refine wpAny_bind ?_
  show wpAny _ _ (forIn [Value.ref i1, Value.ref i2].toArray _ _) _ _ _
  rw [List.forIn_toArray]
  simp only [List.forIn_cons, List.forIn_nil]
  refine wpAny_bind (wpAny_bind (wpAny_holding ?_))
  show wpAny _ _ (Builtin.SmallTypes.nextOf (.ref i1) >>= _) _ _ _
  cases hx : xs[k1]? with
  | none =>
    refine wpAny_bind (wpAny_nextOf_list_end hh (h1.extBut hs₁.extBut D.i1z) (hl1.extBut hs₁.extBut D.l1z) hx fun h₂ e hs₂ he => ?_)
    exact hE h₂ e (fun c o c1 c3 _ x => hs₂ _ _ c3 (hs₁.extBut _ _ c1 x)) he
  | some x =>
    have hy : ys[k2]? = none := by rcases hend with h | h; rw [hx] at h; cases h; exact h
    refine wpAny_bind (wpAny_nextOf_list_item (h1.extBut hs₁.extBut D.i1z) (hl1.extBut hs₁.extBut D.l1z) hx fun h₂ h1₂ hs₂ => wpAny_pure ?_)
    refine wpAny_pure ?_
    refine wpAny_bind (wpAny_bind (wpAny_holding ?_))
    show wpAny _ _ (Builtin.SmallTypes.nextOf (.ref i2) >>= _) _ _ _
    refine wpAny_bind (wpAny_nextOf_list_end hh ((h2.extBut hs₁.extBut D.i2z).extBut hs₂.extBut D.i12.symm) ((hl2.extBut hs₁.extBut D.l2z).extBut hs₂.extBut D.l2i1) hy fun h₄ e hs₄ he => ?_)
    exact hE h₄ e (fun c o c1 c3 c4 x => hs₄ _ _ c4 (hs₂.extBut _ _ c3 (hs₁.extBut _ _ c1 x))) he
theorem next_item2 {z TI TO T i1 i2 l1 l2 : Addr} {fb : Bool} {o : Obj} {k1 k2 : Nat} {xs ys : Array Value} {x y : Value} {Q : Option Value → Shared → Prop} (D : ZipApart z TI TO i1 i2 l1 l2)
    (hz : IsZipB s.heap z TI TO (rawInt T) fb) (hT : s.heap.get? T = some o) (hTI : IsPair s.heap TI (.ref i1) (.ref i2))
    (h1 : s.heap.IsListIter i1 l1 k1) (h2 : s.heap.IsListIter i2 l2 k2) (hl1 : s.heap.IsList l1 xs) (hl2 : s.heap.IsList l2 ys) (hx : xs[k1]? = some x) (hy : ys[k2]? = some y)
    (hQ : ∀ h', IsZipB h' z TI TO (rawInt T) true → h'.IsListIter i1 l1 (k1 + 1) → h'.IsListIter i2 l2 (k2 + 1) → IsPair h' s.heap.objs.size x y → h'.objs.size = s.heap.objs.size + 1 →
      (∀ c o, c ≠ z → c ≠ i1 → c ≠ i2 → s.heap.get? c = some o → h'.get? c = some o) → Q (some (.ref s.heap.objs.size)) { s with heap := h' }) :
    wpAny (model prog w) A (pyNext (.ref z)) Q E s := by
  have hT' : s.TypeIs (.ref z) "zip" := ⟨_, hz, rfl⟩
  unfold pyNext
  exact wpAny_bind (wpAny_attempt (wpAny_callSpecial?_slot (name := Str.ofString "__next__") hT' F.slot_zip_next
    (wpAny_call_entry F.slot_zip_next hT' F.entry_zip_next
      (zip_item2 D hz hT hTI h1 h2 hl1 hl2 hx hy fun h' a1 a3 a4 a5 a6 a7 => wpAny_pure (hQ h' a1 a3 a4 a5 a6 a7)) (F.args_zip_next_1 _))))
theorem next_end2 {z TI TO T i1 i2 l1 l2 : Addr} {fb : Bool} {o : Obj} {k1 k2 : Nat} {xs ys : Array Value} {Q : Option Value → Shared → Prop} (hh : A.handled = none) (D : ZipApart z TI TO i1 i2 l1 l2)
    (hz : IsZipB s.heap z TI TO (rawInt T) fb) (hT : s.heap.get? T = some o) (hTI : IsPair s.heap TI (.ref i1) (.ref i2))
    (h1 : s.heap.IsListIter i1 l1 k1) (h2 : s.heap.IsListIter i2 l2 k2) (hl1 : s.heap.IsList l1 xs) (hl2 : s.heap.IsList l2 ys) (hend : xs[k1]? = none ∨ ys[k2]? = none)
    (hQ : ∀ h', (∀ c o, c ≠ z → c ≠ i1 → c ≠ i2 → s.heap.get? c = some o → h'.get? c = some o) → Q none { s with heap := h' }) : wpAny (model prog w) A (pyNext (.ref z)) Q E s := by
  have hT' : s.TypeIs (.ref z) "zip" := ⟨_, hz, rfl⟩
  unfold pyNext
  refine wpAny_bind (wpAny_attempt (wpAny_callSpecial?_slot (name := Str.ofString "__next__") hT' F.slot_zip_next
    (wpAny_call_entry F.slot_zip_next hT' F.entry_zip_next (zip_end2 hh D hz hT hTI h1 h2 hl1 hl2 hend fun h' e hk he => ?_) (F.args_zip_next_1 _))))
  obtain ⟨o, ho, hc⟩ := he
  refine wpAny_bind (wpAny_isInstance (T := "StopIteration") (b := true) ⟨o, ho, hc⟩ isSubtype_stop ?_)
  exact wpAny_pure (hQ _ hk)
end
def ZSt (h : Heap) (z TI TO i1 i2 a b S : Addr) (i : Nat) : Prop := (IsZipB h z TI TO .none false ∨ ∃ (T : Addr) (o : Obj) (fb : Bool), IsZipB h z TI TO (rawInt T) fb ∧ h.get? T = some o ∧ T ≠ z ∧ T ≠ TO ∧ T ≠ i1 ∧ T ≠ i2 ∧ T ≠ S) ∧ IsPair h TI (.ref i1) (.ref i2) ∧ (∃ x y, IsPair h TO x y) ∧ h.IsListIter i1 a i ∧ h.IsListIter i2 b i
section
variable {prog : Program} {w : World} {A : Around} {E : Value → Shared → Prop} {s : Shared} {z TI TO i1 i2 a b S : Addr} {i : Nat}
theorem ZSt.frame {h h' : Heap} (st : ZSt h z TI TO i1 i2 a b S i) (k : ∀ c o, c ≠ S → h.get? c = some o → h'.get? c = some o) (nz : z ≠ S) (n1 : TI ≠ S) (n2 : TO ≠ S) (n3 : i1 ≠ S) (n4 : i2 ≠ S) : ZSt h' z TI TO i1 i2 a b S i := by
  obtain ⟨hz, hTI, ⟨x, y, hTO⟩, h1, h2⟩ := st
  refine ⟨?_, k _ _ n1 hTI, ⟨x, y, k _ _ n2 hTO⟩, h1.at fun o e => k _ o n3 e, h2.at fun o e => k _ o n4 e⟩
  rcases hz with hz | ⟨T, o, fb, hz, hT, t1, t2, t3, t4, t5⟩
  · exact .inl (k _ _ nz hz)
  · exact .inr ⟨T, o, fb, k _ _ nz hz, k _ _ t5 hT, t1, t2, t3, t4, t5⟩
theorem ZSt.item {oS : Obj} {xs ys : Array Value} {x y : Value} {Q : Option Value → Shared → Prop} (D : ZipApart z TI TO i1 i2 a b) (st : ZSt s.heap z TI TO i1 i2 a b S i) (hS : s.heap.get? S = some oS)
    (hl1 : s.heap.IsList a xs) (hl2 : s.heap.IsList b ys) (hx : xs[i]? = some x) (hy : ys[i]? = some y)
    (hQ : ∀ h', ZSt h' z TI TO i1 i2 a b S (i + 1) → IsPair h' s.heap.objs.size x y → (∀ c o, c ∉ [z, TI, TO, i1, i2] → s.heap.get? c = some o → h'.get? c = some o) → Q (some (.ref s.heap.objs.size)) { s with heap := h' }) :
    wpAny (model prog w) A (pyNext (.ref z)) Q E s := by
  obtain ⟨hz, hTI, ⟨x0, y0, hTO⟩, h1, h2⟩ := st
  have lt : ∀ {c o}, s.heap.get? c = some o → s.heap.objs.size ≠ c := fun e => Nat.ne_of_gt (Heap.lt_size e)
  have e1 : ∃ o, s.heap.get? i1 = some o := by obtain ⟨o, e, _⟩ := h1; exact ⟨o, e⟩
  have e2 : ∃ o, s.heap.get? i2 = some o := by obtain ⟨o, e, _⟩ := h2; exact ⟨o, e⟩
  obtain ⟨o1, e1⟩ := e1
  obtain ⟨o2, e2⟩ := e2
  have nin : ∀ {c : Addr}, c ∉ [z, TI, TO, i1, i2] → c ≠ z ∧ c ≠ TI ∧ c ≠ TO ∧ c ≠ i1 ∧ c ≠ i2 := fun h => by simpa using h
  rcases hz with hz | ⟨T, o, fb, hz, hT, t1, t2, t3, t4, t5⟩
  · refine wpAny_pyNext_zip_item D hz hTI hTO h1 h2 hl1 hl2 hx hy fun h' a1 a2 a3 a4 a5 a6 a7 => ?_
    refine hQ h' ⟨.inr ⟨_, _, false, a1, a5, lt hz, lt hTO, lt e1, lt e2, lt hS⟩, a7 _ _ D.TIz D.TITO D.TIi1 D.TIi2 hTI, ⟨_, _, a2⟩, a3, a4⟩ a5 fun c o hc e => ?_
    obtain ⟨c1, c2, c3, c4, c5⟩ := nin hc
    exact a7 c o c1 c3 c4 c5 e
  · refine next_item2 D hz hT hTI h1 h2 hl1 hl2 hx hy fun h' a1 a3 a4 a5 a6 a7 => ?_
    refine hQ h' ⟨.inr ⟨T, o, true, a1, a7 _ _ t1 t3 t4 hT, t1, t2, t3, t4, t5⟩, a7 _ _ D.TIz D.TIi1 D.TIi2 hTI, ⟨_, _, a7 _ _ D.TOz D.TOi1 D.TOi2 hTO⟩, a3, a4⟩ a5 fun c o hc e => ?_
    obtain ⟨c1, c2, c3, c4, c5⟩ := nin hc
    exact a7 c o c1 c4 c5 e
theorem ZSt.fin {xs ys : Array Value} {Q : Option Value → Shared → Prop} (hh : A.handled = none) (D : ZipApart z TI TO i1 i2 a b) (st : ZSt s.heap z TI TO i1 i2 a b S i)
    (hl1 : s.heap.IsList a xs) (hl2 : s.heap.IsList b ys) (hend : xs[i]? = none ∨ ys[i]? = none)
    (hQ : ∀ h', (∀ c o, c ∉ [z, TI, TO, i1, i2] → s.heap.get? c = some o → h'.get? c = some o) → Q none { s with heap := h' }) : wpAny (model prog w) A (pyNext (.ref z)) Q E s := by
  obtain ⟨hz, hTI, ⟨x0, y0, hTO⟩, h1, h2⟩ := st
  have nin : ∀ {c : Addr}, c ∉ [z, TI, TO, i1, i2] → c ≠ z ∧ c ≠ TI ∧ c ≠ TO ∧ c ≠ i1 ∧ c ≠ i2 := fun h => by simpa using h
  rcases hz with hz | ⟨T, o, fb, hz, hT, t1, t2, t3, t4, t5⟩
  · refine wpAny_pyNext_zip_end hh D hz hTI hTO h1 h2 hl1 hl2 hend fun h' kk => hQ h' fun c o hc e => ?_
    obtain ⟨c1, c2, c3, c4, c5⟩ := nin hc
    exact kk c o c1 c3 c4 c5 e
  · refine next_end2 hh D hz hT hTI h1 h2 hl1 hl2 hend fun h' kk => hQ h' fun c o hc e => ?_
    obtain ⟨c1, c2, c3, c4, c5⟩ := nin hc
    exact kk c o c1 c4 c5 e
end
end Ty
namespace Ty
open PySem PySem.Spec PyProof.Rows L2
section
variable {X : Cx} {pins : List (Addr × Obj)} {σ : L2.St}
def ZLs (H : Hp) (xs ys us : List V) : Prop := ∀ (j : Nat) (u : V), us[j]? = some u → ∃ (x y : V) (p : Addr), xs[j]? = some x ∧ ys[j]? = some y ∧ u = .ref p ∧ H p = some (.tup [x, y])
def tListZ (ta : TA) : TE := fun σ H Q => ta σ H fun vs H1 => ∃ (a b : Addr) (xs ys : List V), vs = [.ref a, .ref b] ∧ H1 a = some (.lst xs) ∧ H1 b = some (.lst ys) ∧
  ∀ (l : Addr) (us : List V) (H' : Hp), Same H1 H' → H1 l = none → H' l = some (.lst us) → us.length = min xs.length ys.length → ZLs H' xs ys us → Q (.ref l) H'
end
end Ty

set_option maxHeartbeats 4000000
namespace Ty
open PySem PySem.Spec PyProof.Rows L2
section
variable {X : Cx}
def rExtT (K : PySem.W.Frag) : V → List V → Hp → VK → Prop := fun x vs H Q => ∃ l b xs zs, x = .ref l ∧ vs = [.ref b] ∧ H l = some (.lst xs) ∧ SqT K H b zs ∧ xs.length + zs.length ≤ 1000 ∧ Q .non (upd H l (.lst (xs ++ zs)))
end
end Ty

set_option maxHeartbeats 4000000
namespace Ty
open PySem PySem.Spec PyProof.Rows L2
section
variable {prog : Program} {w : World} {A : Around} {E : Value → Shared → Prop} {s : Shared}
end
end Ty

set_option maxHeartbeats 4000000
namespace Ty
open PySem PySem.Spec PyProof.Rows L2
section
variable {prog : Program} {w : World} {A : Around} {E : Value → Shared → Prop} {s : Shared}
end
section
variable {X : Cx} {pins : List (Addr × Obj)} {σ : L2.St}
def tDictZ (ta : TA) : TE := fun σ H Q => ta σ H fun vs H1 => ∃ (a b : Addr) (ks : List Key) (ys : List V), vs = [.ref a, .ref b] ∧ H1 a = some (.lst (ks.map kV)) ∧ H1 b = some (.lst ys) ∧ ks.length ≤ 1000 ∧
  ∀ (l : Addr) (H' : Hp), Same H1 H' → H1 l = none → H' l = some (.dK (mergeK [] (ks.zip ys))) → Q (.ref l) H'
end
end Ty

set_option maxHeartbeats 4000000
namespace Ty
open PySem PySem.Spec PyProof.Rows L2
theorem NmsK.snoc {K : PySem.W.Frag} {H : Hp} {us : List V} {qs : List (Int × Int)} {v : V} {q : Int × Int} (h : NmsK K H us qs) (n : NmK K H v q) : NmsK K H (us ++ [v]) (qs ++ [q]) := by
  refine ⟨by simp [h.1], fun i u q' e1 e2 => ?_⟩
  have l := h.1
  by_cases c : i < us.length
  · rw [List.getElem?_append_left c] at e1
    rw [List.getElem?_append_left (by omega)] at e2
    exact h.2 i u q' e1 e2
  · rw [List.getElem?_append_right (by omega)] at e1 e2
    by_cases z : i - us.length = 0
    · rw [z] at e1
      rw [show i - qs.length = 0 by omega] at e2
      cases e1
      cases e2
      exact n
    · rw [List.getElem?_eq_none (by simp; omega)] at e1
      cases e1
theorem NmsK.sameT {K : PySem.W.Frag} {H H' : Hp} {us : List V} {qs : List (Int × Int)} (h : NmsK K H us qs) (s : SameT H H') : NmsK K H' us qs := ⟨h.1, fun i u q e1 e2 => (h.2 i u q e1 e2).sameT s⟩
end Ty

set_option maxHeartbeats 4000000
namespace Ty
open PySem PySem.Spec PyProof.Rows L2
variable {X : Cx}
def rEqD : R2 := fun x y H Q => SameD H x y ∧ Q (.bl true) H
def rNeD0 : R2 := fun x y H Q => ∃ a b, x = .ref a ∧ y = .ref b ∧ Rd H a (.dK []) ∧ Rd H b (.dK []) ∧ Q (.bl false) H
end Ty

set_option maxHeartbeats 4000000
namespace Ty
open PySem PySem.Spec PyProof.Rows L2
section
variable {prog : Program} {w : World} {Kt : Type} [DecidableEq Kt] {knd : KeyKind prog w Kt} {A : Around} {E : Value → Shared → Prop} {s : Shared}
theorem nx_val {it d : Addr} {i ep : Nat} {ps : List (Kt × Value)} {k : Kt} {v : Value} {Q : Value → Shared → Prop} (g : s.heap.IsValIter it d i ps.length ep) (m : s.heap.DictAt knd d ps ep) (hx : ps[i]? = some (k, v))
    (q : ∀ h', h'.IsValIter it d (i + 1) ps.length ep → Heap.SameBut it s.heap h' → Q v { s with heap := h' }) : wpAny (model prog w) A (Builtin.SmallTypes.nextOf (.ref it)) Q E s := by
  obtain ⟨o, g1, g2, g3⟩ := id g
  obtain ⟨od, es, t1, t2, t3, t4, t5, t6⟩ := id m
  have n0 : es.size = ps.length := by rw [← t5.length]; simp
  have lt : i < ps.length := (List.getElem?_eq_some_iff.mp hx).1
  have lt2 : i < es.size := by rw [n0]; exact lt
  have ev : es[i].val = v := (t5.get? (e := es[i]) (by simp [lt2]) hx).2
  have ow : Builtin.Dict_items.ownsTuple "dict_valueiterator" = false := by decide
  unfold Builtin.SmallTypes.nextOf
  refine wpAny_bind (wpAny_callSpecial?_slot (name := Str.ofString "__next__") g.typeIs F.slot_dict_valueiterator_next (wpAny_call_entry F.slot_dict_valueiterator_next g.typeIs F.entry_dict_valueiterator_next ?_ (F.args_dict_valueiterator_next_1 _)))
  refine wpAny_bind (wpAny_pure (wpAny_bind (wpAny_bind ?_)))
  first | refine wpAny_bind (wpAny_typeNameOfWhole_valiter g.typeIs (wpAny_pure (wpAny_bind (wpAny_fieldsOf g1 g3 ?_)))) | refine wpAny_bind (wpAny_typeNameOf_valiter g.typeIs (wpAny_pure (wpAny_bind (wpAny_fieldsOf g1 g3 ?_))))
  simp only [ow, Bool.false_eq_true, if_false]
  show wpAny _ _ (if (Value.ref d == Value.none) = true then _ else _) _ _ s
  rw [if_neg (fun z => nomatch z)]
  refine wpAny_bind (wpAny_pure (wpAny_bind (wpAny_dictEntries t1 t3 ?_)))
  rw [if_neg (by rw [n0]; simp)]
  refine wpAny_bind (wpAny_pure (wpAny_bind (wpAny_dictEpoch t1 t3 ?_)))
  rw [if_neg (by simp)]
  refine wpAny_pure ?_
  simp only [show ¬ ((i : Int) < 0) from by omega, if_false, Int.toNat_natCast, Array.getElem?_eq_getElem lt2]
  refine wpAny_bind ?_
  first | refine wpAny_bind (wpAny_typeNameOfWhole_valiter g.typeIs (wpAny_pure (wpAny_bind (wpAny_isOneOf_valiter g.typeIs ?_)))) | refine wpAny_bind (wpAny_typeNameOf_valiter g.typeIs (wpAny_pure (wpAny_bind (wpAny_isOneOf_valiter g.typeIs ?_))))
  show wpAny _ _ (setField (.ref it) 1 (rawInt ((i : Int) + 1)) >>= _) _ _ s
  refine wpAny_bind (wpAny_setField g1 g3 (by simp) ?_)
  have g' : (s.heap.update it (Obj.mapFields (·.setIfInBounds 1 (rawInt ((i : Int) + 1))))).IsValIter it d (i + 1) ps.length ep :=
    ⟨_, Heap.get?_update_self _ g1 (Obj.isFreed_of_fields (Obj.data_mapFields g3 _)), (Obj.cls_mapFields ..).trans g2, by rw [Obj.data_mapFields g3]; simp [rawInt]⟩
  have sb : Heap.SameBut it s.heap (s.heap.update it (Obj.mapFields (·.setIfInBounds 1 (rawInt ((i : Int) + 1))))) := Heap.SameBut.update ..
  generalize s.heap.update it (Obj.mapFields (·.setIfInBounds 1 (rawInt ((i : Int) + 1)))) = h' at g' sb ⊢
  have ty : Shared.TypeIs { s with heap := h' } (.ref it) "dict_valueiterator" := g'.typeIs (s := { s with heap := h' })
  refine wpAny_bind (wpAny_holding (wpAny_bind (wpAny_isOneOf_valiter ty (wpAny_bind (wpAny_isOneOf_valiter ty ?_)))))
  show wpAny _ _ (pure es[i].val) _ _ _
  exact wpAny_pure (wpAny_pure ⟨_, rfl, wpAny_pure (ev ▸ q _ g' sb)⟩)
theorem nx_val0 {it d : Addr} {i ep : Nat} {ps : List (Kt × Value)} {Q : Value → Shared → Prop} (hh : A.handled = none) (g : s.heap.IsValIter it d i ps.length ep) (m : s.heap.DictAt knd d ps ep) (hx : ps.length ≤ i)
    (q : ∀ h' e, Heap.ExtBut it s.heap h' → (∃ o, h'.get? e = some o ∧ o.cls = .type "StopIteration") → E (.ref e) { s with heap := h' }) : wpAny (model prog w) A (Builtin.SmallTypes.nextOf (.ref it)) Q E s := by
  obtain ⟨o, g1, g2, g3⟩ := id g
  obtain ⟨od, es, t1, t2, t3, t4, t5, t6⟩ := id m
  have n0 : es.size = ps.length := by rw [← t5.length]; simp
  have ge : es.size ≤ i := by rw [n0]; exact hx
  have ow : Builtin.Dict_items.ownsTuple "dict_valueiterator" = false := by decide
  unfold Builtin.SmallTypes.nextOf
  refine wpAny_bind (wpAny_callSpecial?_slot (name := Str.ofString "__next__") g.typeIs F.slot_dict_valueiterator_next (wpAny_call_entry F.slot_dict_valueiterator_next g.typeIs F.entry_dict_valueiterator_next ?_ (F.args_dict_valueiterator_next_1 _)))
  refine wpAny_bind (wpAny_pure (wpAny_bind (wpAny_bind ?_)))
  first | refine wpAny_bind (wpAny_typeNameOfWhole_valiter g.typeIs (wpAny_pure (wpAny_bind (wpAny_fieldsOf g1 g3 ?_)))) | refine wpAny_bind (wpAny_typeNameOf_valiter g.typeIs (wpAny_pure (wpAny_bind (wpAny_fieldsOf g1 g3 ?_))))
  simp only [ow, Bool.false_eq_true, if_false]
  show wpAny _ _ (if (Value.ref d == Value.none) = true then _ else _) _ _ s
  rw [if_neg (fun z => nomatch z)]
  refine wpAny_bind (wpAny_pure (wpAny_bind (wpAny_dictEntries t1 t3 ?_)))
  rw [if_neg (by rw [n0]; simp)]
  refine wpAny_bind (wpAny_pure (wpAny_bind (wpAny_dictEpoch t1 t3 ?_)))
  rw [if_neg (by simp)]
  refine wpAny_pure ?_
  simp only [show ¬ ((i : Int) < 0) from by omega, if_false, Int.toNat_natCast, Array.getElem?_eq_none ge]
  refine wpAny_bind ?_
  first | refine wpAny_bind (wpAny_typeNameOfWhole_valiter g.typeIs (wpAny_pure ?_)) | refine wpAny_bind (wpAny_typeNameOf_valiter g.typeIs (wpAny_pure ?_))
  show wpAny _ _ (setField (.ref it) 0 .none >>= _) _ _ s
  refine wpAny_bind (wpAny_setField g1 g3 (by simp) ?_)
  show wpAny _ _ (newExc (.type "StopIteration") [] >>= _) _ _ _
  refine wpAny_bind ?_
  simp only [newExc, newTuple]
  refine wpAny_bind (wpAny_newObj_type ?_ (by size_fits))
  refine wpAny_bind (m := firstArgMember _ _) (wpAny_of_eq (a := Value.none) (by first | rfl | (simp only [firstArgMember]; rfl)) ?_)
  refine wpAny_newObj_type ?_ (by size_fits)
  simp only [raiseNew]
  refine wpAny_bind (wpAny_handled ?_)
  first | rw [show A.in1.handled = none from hh] | rw [hh]
  refine wpAny_bind (wpAny_pure (wpAny_throw ?_))
  exact q _ _ (((Heap.SameBut.update ..).extBut.push _).push _) ⟨_, Heap.get?_push_size _ rfl, rfl⟩
theorem zv_item {z TI TO i1 i2 d l : Addr} {k ep : Nat} {ps : List (Kt × Value)} {ys : Array Value} {kk : Kt} {x y a b : Value} {Q : Value → Shared → Prop} (D : ZipApart z TI TO i1 i2 d l)
    (hz : IsZip s.heap z TI TO .none) (hTI : IsPair s.heap TI (.ref i1) (.ref i2)) (hTO : IsPair s.heap TO a b)
    (h1 : s.heap.IsValIter i1 d k ps.length ep) (m : s.heap.DictAt knd d ps ep) (h2 : s.heap.IsListIter i2 l k) (hl : s.heap.IsList l ys) (hx : ps[k]? = some (kk, x)) (hy : ys[k]? = some y)
    (q : ∀ h', IsZip h' z TI TO (rawInt s.heap.objs.size) → IsPair h' TO x y → h'.IsValIter i1 d (k + 1) ps.length ep → h'.IsListIter i2 l (k + 1) → IsPair h' s.heap.objs.size x y →
      (∀ c o, c ≠ z → c ≠ TO → c ≠ i1 → c ≠ i2 → s.heap.get? c = some o → h'.get? c = some o) → Q (.ref s.heap.objs.size) { s with heap := h' }) :
    wpAny (model prog w) A (Builtin.«zip.__next__» ⟨[.ref z], []⟩) (fun fin s' => ∃ v, fin = .done (.ret v) ∧ Q v s') E s := by
  show wpAny _ _ (field (.ref z) 2 >>= _) _ _ _
  refine wpAny_bind (wpAny_field hz rfl (x := .bool false) rfl ?_)
  show wpAny _ _ (field (.ref z) 3 >>= _) _ _ _
  refine wpAny_bind (wpAny_field hz rfl (x := .ref TI) rfl (wpAny_bind (wpAny_seqItems hTI rfl ?_)))
  show wpAny _ _ (Builtin.SmallTypes.ownedTupleIsFree (.ref z) >>= _) _ _ _
  refine wpAny_bind ?_
  unfold Builtin.SmallTypes.ownedTupleIsFree
  refine wpAny_bind (wpAny_field hz rfl (x := .none) rfl (wpAny_pure ?_))
  simp only [if_true]
  refine wpAny_bind (wpAny_rule (wpAny_bind (wpAny_field hz rfl (x := .ref TO) rfl (wpAny_bind (wpAny_setField_rec hz (by simp) fun p1 z1 b1 => ?_)))))
  have z1 : IsZip p1 z TI TO .ellipsis := z1
  refine wpAny_bind ?_
  simp only [List.zipIdx_cons, List.zipIdx_nil, List.forIn_cons, List.forIn_nil]
  refine wpAny_bind (wpAny_bind (wpAny_onRaise ?_))
  show wpAny _ _ (Builtin.SmallTypes.nextOf (.ref i1) >>= _) _ _ _
  have m1 : p1.DictAt knd d ps ep := m.at' fun o e => (b1.2 d D.l1z).trans e
  refine wpAny_bind (nx_val (s := { s with heap := p1 }) (h1.extBut b1.extBut D.i1z) m1 hx fun p2 g2 b2 => wpAny_pure ?_)
  have b2 : Heap.SameBut i1 p1 p2 := b2
  have o2 : IsPair p2 TO a b := b2.extBut _ _ D.TOi1 (b1.extBut _ _ D.TOz hTO)
  refine wpAny_bind (wpAny_seqItems o2 rfl (wpAny_bind (wpAny_updateSeq_pair o2 fun p3 o3 b3 => ?_)))
  have b3 : Heap.SameBut TO p2 p3 := b3
  have o3 : IsPair p3 TO x b := o3
  refine wpAny_bind (wpAny_letGo (wpAny_pure (wpAny_bind (wpAny_bind (wpAny_onRaise ?_)))))
  show wpAny _ _ (Builtin.SmallTypes.nextOf (.ref i2) >>= _) _ _ _
  have j3 : p3.IsListIter i2 l k := ((h2.extBut b1.extBut D.i2z).extBut b2.extBut D.i12.symm).extBut b3.extBut D.TOi2.symm
  have l3 : p3.IsList l ys := ((hl.extBut b1.extBut D.l2z).extBut b2.extBut D.l2i1).extBut b3.extBut D.l2TO
  refine wpAny_bind (wpAny_nextOf_list_item (s := { s with heap := p3 }) j3 l3 hy fun p4 j4 b4 => wpAny_pure ?_)
  have b4 : Heap.SameBut i2 p3 p4 := b4
  have o4 : IsPair p4 TO x b := b4.extBut _ _ D.TOi2 o3
  refine wpAny_bind (wpAny_seqItems o4 rfl (wpAny_bind (wpAny_updateSeq_pair o4 fun p5 o5 b5 => ?_)))
  have b5 : Heap.SameBut TO p4 p5 := b5
  have o5 : IsPair p5 TO x y := o5
  refine wpAny_bind (wpAny_letGo (wpAny_pure (wpAny_pure (wpAny_bind (wpAny_seqItems o5 rfl (wpAny_bind (wpAny_newTuple ?_)))))))
  have sz : p5.objs.size = s.heap.objs.size := by rw [b5.1, b4.1, b3.1, b2.1, b1.1]
  have z5 : IsZip p5 z TI TO .ellipsis := b5.extBut _ _ D.TOz.symm (b4.extBut _ _ D.i2z.symm (b3.extBut _ _ D.TOz.symm (b2.extBut _ _ D.i1z.symm z1)))
  have c5 : ∀ c o, c ≠ z → c ≠ TO → c ≠ i1 → c ≠ i2 → s.heap.get? c = some o → p5.get? c = some o := fun c o c1 c2 c3 c4 e => b5.extBut _ _ c2 (b4.extBut _ _ c4 (b3.extBut _ _ c2 (b2.extBut _ _ c3 (b1.extBut _ _ c1 e))))
  have g5 : p5.IsValIter i1 d (k + 1) ps.length ep := ((g2.extBut b3.extBut D.TOi1.symm).extBut b4.extBut D.i12).extBut b5.extBut D.TOi1.symm
  have j5 : p5.IsListIter i2 l (k + 1) := j4.extBut b5.extBut D.TOi2.symm
  have zl : z < p5.objs.size := Heap.lt_size z5
  show wpAny _ _ (Builtin.SmallTypes.ownedTupleHandOut (.ref z) (.ref p5.objs.size) >>= _) _ _ _
  refine wpAny_bind ?_
  unfold Builtin.SmallTypes.ownedTupleHandOut
  have z6 : IsZip (p5.push { cls := .type "tuple", data := .seq #[x, y] }) z TI TO .ellipsis := Heap.get?_push_of_some _ z5
  refine wpAny_bind (wpAny_setField_rec z6 (by simp) fun p7 z7 b7 => ?_)
  have z7 : IsZip p7 z TI TO (rawInt p5.objs.size) := z7
  refine wpAny_setField_rec z7 (by simp) fun p8 z8 b8 => ?_
  have z8 : IsZip p8 z TI TO (rawInt p5.objs.size) := z8
  have up : ∀ c o, c ≠ z → p5.get? c = some o → p8.get? c = some o := fun c o c1 e => b8.extBut _ _ c1 (b7.extBut _ _ c1 (Heap.get?_push_of_some _ e))
  have t8 : IsPair p8 p5.objs.size x y := b8.extBut _ _ (Nat.ne_of_gt zl) (b7.extBut _ _ (Nat.ne_of_gt zl) (Heap.get?_push_size _ rfl))
  rw [sz] at z8 t8
  refine wpAny_pure ⟨_, rfl, ?_⟩
  show Q (.ref p5.objs.size) _
  rw [sz]
  exact q p8 z8 (up _ _ D.TOz o5) (g5.at fun o e => up _ o D.i1z e) (j5.at fun o e => up _ o D.i2z e) t8 fun c o c1 c2 c3 c4 e => up c o c1 (c5 c o c1 c2 c3 c4 e)
theorem zv_end {z TI TO i1 i2 d : Addr} {k ep : Nat} {ps : List (Kt × Value)} {Q : Fin → Shared → Prop} (hh : A.handled = none) (n1 : i1 ≠ z) (n2 : d ≠ z)
    (hz : IsZip s.heap z TI TO .none) (hTI : IsPair s.heap TI (.ref i1) (.ref i2)) (h1 : s.heap.IsValIter i1 d k ps.length ep) (m : s.heap.DictAt knd d ps ep) (hx : ps.length ≤ k)
    (q : ∀ h' e, (∀ c o, c ≠ z → c ≠ i1 → s.heap.get? c = some o → h'.get? c = some o) → (∃ o, h'.get? e = some o ∧ o.cls = .type "StopIteration") → E (.ref e) { s with heap := h' }) :
    wpAny (model prog w) A (Builtin.«zip.__next__» ⟨[.ref z], []⟩) Q E s := by
  show wpAny _ _ (field (.ref z) 2 >>= _) _ _ _
  refine wpAny_bind (wpAny_field hz rfl (x := .bool false) rfl ?_)
  show wpAny _ _ (field (.ref z) 3 >>= _) _ _ _
  refine wpAny_bind (wpAny_field hz rfl (x := .ref TI) rfl (wpAny_bind (wpAny_seqItems hTI rfl ?_)))
  show wpAny _ _ (Builtin.SmallTypes.ownedTupleIsFree (.ref z) >>= _) _ _ _
  refine wpAny_bind ?_
  unfold Builtin.SmallTypes.ownedTupleIsFree
  refine wpAny_bind (wpAny_field hz rfl (x := .none) rfl (wpAny_pure ?_))
  simp only [if_true]
  refine wpAny_bind (wpAny_rule (wpAny_bind (wpAny_field hz rfl (x := .ref TO) rfl (wpAny_bind (wpAny_setField_rec hz (by simp) fun p1 z1 b1 => ?_)))))
  have z1 : IsZip p1 z TI TO .ellipsis := z1
  refine wpAny_bind ?_
  simp only [List.zipIdx_cons, List.zipIdx_nil, List.forIn_cons, List.forIn_nil]
  refine wpAny_bind (wpAny_bind (wpAny_onRaise ?_))
  show wpAny _ _ (Builtin.SmallTypes.nextOf (.ref i1) >>= _) _ _ _
  have m1 : p1.DictAt knd d ps ep := m.at' fun o e => (b1.2 d n2).trans e
  refine wpAny_bind (nx_val0 (s := { s with heap := p1 }) hh (h1.extBut b1.extBut n1) m1 hx fun p2 e b2 he => ?_)
  obtain ⟨oe, e1, e2⟩ := he
  have z2 : IsZip p2 z TI TO .ellipsis := b2 _ _ n1.symm z1
  have ne : e ≠ z := fun x => by subst x; rw [z2] at e1; cases e1; simp at e2
  exact wpAny_setField_rec (s := { s with heap := p2 }) z2 (by simp) fun p3 _ b3 => q p3 e (fun c o c1 c2 x => b3.extBut _ _ c1 (b2 _ _ c2 (b1.extBut _ _ c1 x))) ⟨oe, b3.extBut _ _ ne e1, e2⟩
end
end Ty

set_option maxHeartbeats 4000000
namespace Ty
open PySem PySem.Spec PyProof.Rows L2
section
variable {prog : Program} {w : World} {Kt : Type} [DecidableEq Kt] {knd : KeyKind prog w Kt} {A : Around} {E : Value → Shared → Prop} {s : Shared}
theorem pn_zv {z TI TO i1 i2 d l : Addr} {k ep : Nat} {ps : List (Kt × Value)} {ys : Array Value} {kk : Kt} {x y a b : Value} {Q : Option Value → Shared → Prop} (D : ZipApart z TI TO i1 i2 d l)
    (hz : IsZip s.heap z TI TO .none) (hTI : IsPair s.heap TI (.ref i1) (.ref i2)) (hTO : IsPair s.heap TO a b)
    (h1 : s.heap.IsValIter i1 d k ps.length ep) (m : s.heap.DictAt knd d ps ep) (h2 : s.heap.IsListIter i2 l k) (hl : s.heap.IsList l ys) (hx : ps[k]? = some (kk, x)) (hy : ys[k]? = some y)
    (q : ∀ h', IsZip h' z TI TO (rawInt s.heap.objs.size) → IsPair h' TO x y → h'.IsValIter i1 d (k + 1) ps.length ep → h'.IsListIter i2 l (k + 1) → IsPair h' s.heap.objs.size x y →
      (∀ c o, c ≠ z → c ≠ TO → c ≠ i1 → c ≠ i2 → s.heap.get? c = some o → h'.get? c = some o) → Q (some (.ref s.heap.objs.size)) { s with heap := h' }) :
    wpAny (model prog w) A (pyNext (.ref z)) Q E s := by
  have ty : s.TypeIs (.ref z) "zip" := ⟨_, hz, rfl⟩
  unfold pyNext
  exact wpAny_bind (wpAny_attempt (wpAny_callSpecial?_slot (name := Str.ofString "__next__") ty F.slot_zip_next (wpAny_call_entry F.slot_zip_next ty F.entry_zip_next (zv_item D hz hTI hTO h1 m h2 hl hx hy fun h' a1 a2 a3 a4 a5 a6 => wpAny_pure (q h' a1 a2 a3 a4 a5 a6)) (F.args_zip_next_1 _))))
theorem pn_zv0 {z TI TO i1 i2 d : Addr} {k ep : Nat} {ps : List (Kt × Value)} {Q : Option Value → Shared → Prop} (hh : A.handled = none) (n1 : i1 ≠ z) (n2 : d ≠ z)
    (hz : IsZip s.heap z TI TO .none) (hTI : IsPair s.heap TI (.ref i1) (.ref i2)) (h1 : s.heap.IsValIter i1 d k ps.length ep) (m : s.heap.DictAt knd d ps ep) (hx : ps.length ≤ k)
    (q : ∀ h', (∀ c o, c ≠ z → c ≠ i1 → s.heap.get? c = some o → h'.get? c = some o) → Q none { s with heap := h' }) : wpAny (model prog w) A (pyNext (.ref z)) Q E s := by
  have ty : s.TypeIs (.ref z) "zip" := ⟨_, hz, rfl⟩
  unfold pyNext
  refine wpAny_bind (wpAny_attempt (wpAny_callSpecial?_slot (name := Str.ofString "__next__") ty F.slot_zip_next (wpAny_call_entry F.slot_zip_next ty F.entry_zip_next (zv_end hh n1 n2 hz hTI h1 m hx fun h' e hk he => ?_) (F.args_zip_next_1 _))))
  obtain ⟨o, e1, e2⟩ := he
  exact wpAny_bind (wpAny_isInstance (T := "StopIteration") (b := true) ⟨o, e1, e2⟩ isSubtype_stop (wpAny_pure (q _ hk)))
abbrev zv1 (h : Heap) (d : Addr) (n ep : Nat) : Heap := h.push { cls := .type "dict_valueiterator", data := .fields #[.ref d, .int 0 0, .int n 0, .int ep 0] }
abbrev zv2 (h : Heap) (d l : Addr) (n ep : Nat) : Heap := (zv1 h d n ep).push { cls := .type "list_iterator", data := .fields #[.ref l, .int 0 0] }
abbrev zv3 (h : Heap) (d l : Addr) (n ep : Nat) : Heap := (zv2 h d l n ep).push { cls := .type "tuple", data := .seq #[.ref h.objs.size, .ref (zv1 h d n ep).objs.size] }
abbrev zv4 (h : Heap) (d l : Addr) (n ep : Nat) : Heap := (zv3 h d l n ep).push { cls := .type "tuple", data := .seq #[.none, .none] }
abbrev zv5 (h : Heap) (d l : Addr) (n ep : Nat) : Heap := (zv4 h d l n ep).push { cls := .type "zip", data := .fields #[.none, .bool false, .bool false, .ref (zv2 h d l n ep).objs.size, .ref (zv3 h d l n ep).objs.size] }
theorem mt_zipV (knd : KeyKind prog w Kt) (v l d : Addr) (ps : List (Kt × Value)) (ep : Nat) (ys : Array Value) :
    MeetsIn prog w (Builtin.«zip.__new__» ⟨[.type "zip", .ref v, .ref l], []⟩) (fun _ R s => s.heap.IsValuesView v d ∧ s.heap.DictAt knd d ps ep ∧ s.heap.IsList l ys ∧
      R (.ok (.ret (.ref (zv4 s.heap d l ps.length ep).objs.size))) { s with heap := zv5 s.heap d l ps.length ep }) :=
  .of_wp fun A R s h => by
    obtain ⟨hp, g, dr, tk, os⟩ := s
    obtain ⟨h1, h2, h3, q⟩ := h
    have hsub := sub_zip
    have hV : Heap.IsValuesView (Shared.heap ⟨hp, g, dr, tk, os⟩) v d := h1
    have hD : Heap.DictAt knd (Shared.heap ⟨hp, g, dr, tk, os⟩) d ps ep := h2
    have hL : Heap.IsList (Shared.heap ⟨hp.push { cls := .type "dict_valueiterator", data := .fields #[.ref d, .int 0 0, .int ps.length 0, .int ep 0] }, g, dr, tk, os⟩) l ys := Heap.IsList.push h3 _
    wp_walk using wpAny_pyIter_values hV hD, wpAny_pyIter_list hL
    exact ⟨_, rfl, q⟩
theorem call_zipV {v l d : Addr} {ps : List (Kt × Value)} {ep : Nat} {ys : Array Value} {Q : Value → Shared → Prop} (hv : s.heap.IsValuesView v d) (m : s.heap.DictAt knd d ps ep) (hl : s.heap.IsList l ys)
    (q : ∀ h', IsZip h' (s.heap.objs.size + 4) (s.heap.objs.size + 2) (s.heap.objs.size + 3) .none → IsPair h' (s.heap.objs.size + 2) (.ref s.heap.objs.size) (.ref (s.heap.objs.size + 1)) →
      IsPair h' (s.heap.objs.size + 3) .none .none → h'.IsValIter s.heap.objs.size d 0 ps.length ep → h'.IsListIter (s.heap.objs.size + 1) l 0 → (∀ c o, s.heap.get? c = some o → h'.get? c = some o) → Q (.ref (s.heap.objs.size + 4)) { s with heap := h' }) :
    wpAny (model prog w) A (call (.type "zip") [.ref v, .ref l]) Q E s := by
  refine callType_newIn F.called_zip (by decide) (F.typeCall_zip_2 _ _) (F.newCall_zip_2 _ _) (fun obj => F.args_object_init_3 obj _ _) F.entry_zip_new (mt_zipV knd v l d ps ep ys) ⟨hv, m, hl, ?_⟩
  have z1 : (zv1 s.heap d ps.length ep).objs.size = s.heap.objs.size + 1 := Heap.size_push ..
  have z2 : (zv2 s.heap d l ps.length ep).objs.size = s.heap.objs.size + 2 := by rw [Heap.size_push, z1]
  have z3 : (zv3 s.heap d l ps.length ep).objs.size = s.heap.objs.size + 3 := by rw [Heap.size_push, z2]
  have z4 : (zv4 s.heap d l ps.length ep).objs.size = s.heap.objs.size + 4 := by rw [Heap.size_push, z3]
  have on : ∀ {h : Heap} {c : Addr} {o p : Obj}, h.get? c = some o → (h.push p).get? c = some o := fun e => Heap.get?_push_of_some _ e
  have g5 : (zv5 s.heap d l ps.length ep).get? (zv4 s.heap d l ps.length ep).objs.size = some _ := Heap.get?_push_size _ rfl
  have g4 : (zv5 s.heap d l ps.length ep).get? (zv3 s.heap d l ps.length ep).objs.size = some _ := on (Heap.get?_push_size _ rfl)
  have g3 : (zv5 s.heap d l ps.length ep).get? (zv2 s.heap d l ps.length ep).objs.size = some _ := on (on (Heap.get?_push_size _ rfl))
  have g2 : (zv5 s.heap d l ps.length ep).get? (zv1 s.heap d ps.length ep).objs.size = some _ := on (on (on (Heap.get?_push_size _ rfl)))
  have g1 : (zv5 s.heap d l ps.length ep).get? s.heap.objs.size = some _ := on (on (on (on (Heap.get?_push_size _ rfl))))
  show _ ∧ _
  rw [z2, z3, z4] at g5
  rw [z1, z2] at g3
  rw [z3] at g4
  rw [z1] at g2
  rw [z4]
  exact ⟨⟨_, g5, rfl⟩, q _ g5 g3 g4 ⟨_, g1, rfl, rfl⟩ ⟨_, g2, rfl, rfl⟩ fun c o x => on (on (on (on (on x))))⟩
end
def Itzv (K : PySem.W.Frag) (d : Addr) (o : Obj) (kvs : List (Key × V)) (b : Addr) : It :=
  ⟨fun i H => H d = some (.frz o (.dK kvs)) ∧ i < kvs.length ∧ ∃ ys y, SqL K H b ys ∧ ys[i]? = some y,
   fun i H v H' => ∃ p k x y, kvs[i]? = some (k, x) ∧ (∀ ys, SqL K H b ys → ys[i]? = some y) ∧ v = .ref p ∧ H p = none ∧ H' = upd H p (.tup [x, y]),
   fun i H => H d = some (.frz o (.dK kvs)) ∧ kvs.length ≤ i⟩
theorem turn_zv {P : Program} {w : World} {K : PySem.W.Frag} {es : List Expr} {k : Nat} {pos : Pos} (d b z TI TO i1 i2 : Addr) (o : Obj) (kvs : List (Key × V)) {es0 : Array DictEntry} {ep : Nat} (he : o.data = .dict es0 ep) (D : ZipApart z TI TO i1 i2 d b) :
    Turn P w K (.Tuple es k pos) (Itzv K d o kvs b) [z, TI, TO, i1, i2] z (fun i h => IsZip h z TI TO .none ∧ IsPair h TI (.ref i1) (.ref i2) ∧ (∃ x y, IsPair h TO x y) ∧ h.IsValIter i1 d i kvs.length ep ∧ h.IsListIter i2 b i) where
  mem := by simp
  obj := fun i h st c hc => by
    obtain ⟨hz, hTI, ⟨x, y, hTO⟩, ⟨o1, e1, c1, d1⟩, ⟨o2, e2, c2, d2⟩⟩ := st
    have hc' : c = z ∨ c = TI ∨ c = TO ∨ c = i1 ∨ c = i2 := by simpa using hc
    rcases hc' with e | e | e | e | e <;> subst e
    · exact ⟨_, hz, fun v z => by cases z⟩
    · exact ⟨_, hTI, fun v z => by cases z⟩
    · exact ⟨_, hTO, fun v z => by cases z⟩
    · exact ⟨_, e1, fun v z => by rw [d1] at z; cases z⟩
    · exact ⟨_, e2, fun v z => by rw [d2] at z; cases z⟩
  keep := fun i h h' st k => by
    obtain ⟨hz, hTI, ⟨x, y, hTO⟩, h1, h2⟩ := st
    exact ⟨k z (by simp) _ hz, k TI (by simp) _ hTI, ⟨x, y, k TO (by simp) _ hTO⟩, h1.at fun o e => k i1 (by simp) o e, h2.at fun o e => k i2 (by simp) o e⟩
  item := by
    intro X hP hw hK hc i pins s σ H E I hf st hg
    subst hP hw hK
    obtain ⟨hz, hTI, ⟨x0, y0, hTO⟩, h1, h2⟩ := st
    obtain ⟨fz, hi, ys, y, qy, ey⟩ := hg
    obtain ⟨hd, vs, rel, da, _⟩ := frz_at I.hok fz he
    have ek : kvs[i]? = some kvs[i] := List.getElem?_eq_getElem hi
    obtain ⟨⟨k', u⟩, ev, e1, ru⟩ := paired_get rel ek
    have lv := rel.length
    rw [lv] at h1
    obtain ⟨jts, rw', p', _⟩ := I.list qy
    obtain ⟨v, hv, rv'⟩ := rw'.get ey
    refine pn_zv D hz hTI hTO h1 da h2 p'.isList ev (y := v) (by simpa using hv) fun h' a1 a2 a3 a4 a5 a7 => ?_
    refine ⟨_, rfl, wpAny_letOwnedTupleGo_zip (s := { s with heap := h' }) a1 fun h'' b1 sb => ?_⟩
    have nz : ∀ c, c ≠ z → ∀ o, h'.get? c = some o → h''.get? c = some o := fun c hc o e => (sb.2 c hc).trans e
    have kk : ∀ b o, b ∉ [z, TI, TO, i1, i2] → s.heap.get? b = some o → h''.get? b = some o := fun b o hb e => by
      have hb' : b ≠ z ∧ b ≠ TI ∧ b ≠ TO ∧ b ≠ i1 ∧ b ≠ i2 := by simpa using hb
      exact nz b hb'.1 o (a7 b o hb'.1 hb'.2.2.1 hb'.2.2.2.1 hb'.2.2.2.2 e)
    have sz : ∀ c o, s.heap.get? c = some o → s.heap.objs.size ≠ c := fun c o e => Nat.ne_of_gt (Heap.lt_size e)
    have hn := I.hok.fresh (Nat.le_refl s.heap.objs.size)
    have I2 : Inv X pins σ (upd H s.heap.objs.size (.tup [kvs[i].2, y])) { s with heap := h'', toks := s.toks } :=
      Inv.turnedT I kk hf (Nat.le_refl _) (by show 2 ≤ sizeLine; decide) (its := [u, v]) (.cons ru (.cons rv' .nil)) ⟨_, nz _ (sz _ _ hz) _ a5, rfl, _, rfl⟩
    rw [← lv] at a3
    refine ⟨.ref s.heap.objs.size, _, I2, rfl, ⟨s.heap.objs.size, kvs[i].1, kvs[i].2, y, ek, fun ys' q => by rw [I.list_inj q qy]; exact ey, rfl, hn, rfl⟩, ⟨b1, nz _ D.TIz _ (a7 _ _ D.TIz D.TITO D.TIi1 D.TIi2 hTI), ⟨_, _, nz _ D.TOz _ a2⟩, a3.at fun o e => nz _ D.i1z o e, a4.at fun o e => nz _ D.i2z o e⟩, fun b hb => ?_⟩
    have ob : ∃ o, s.heap.get? b = some o := by
      obtain ⟨o1, e1, _⟩ := h1
      obtain ⟨o2, e2, _⟩ := h2
      have hc' : b = z ∨ b = TI ∨ b = TO ∨ b = i1 ∨ b = i2 := by simpa using hb
      rcases hc' with e | e | e | e | e <;> subst e
      · exact ⟨_, hz⟩
      · exact ⟨_, hTI⟩
      · exact ⟨_, hTO⟩
      · exact ⟨_, e1⟩
      · exact ⟨_, e2⟩
    obtain ⟨o, e⟩ := ob
    rw [upd_ne (Ne.symm (sz _ _ e))]
    exact (hf b hb).1
  done := by
    intro X hP hw hK hc i pins s σ H E I hf st hg
    subst hP hw hK
    obtain ⟨hz, hTI, ⟨x0, y0, hTO⟩, h1, h2⟩ := st
    obtain ⟨fz, hi⟩ := hg
    obtain ⟨hd, vs, rel, da, _⟩ := frz_at I.hok fz he
    have lv := rel.length
    rw [lv] at h1
    refine pn_zv0 (I.ok.hd hc) D.i1z D.l1z hz hTI h1 da (by omega) fun h' kk => ⟨rfl, Inv.turnedL I (fun b o hb e => ?_) hf⟩
    have hb' : b ≠ z ∧ b ≠ TI ∧ b ≠ TO ∧ b ≠ i1 ∧ b ≠ i2 := by simpa using hb
    exact kk b o hb'.1 hb'.2.2.2.1 e
  self := fun _ _ _ _ _ st h => wpAny_pyIter_zip st.1 h
end Ty

set_option maxHeartbeats 4000000
namespace Ty
open PySem PySem.Spec PyProof.Rows L2
section
variable {X : Cx}
def iZipV (K : PySem.W.Frag) (te : TE) (ta : TA) : TI := fun σ H R => te σ H fun x H1 => ∃ d, x = .ref d ∧ (∃ kvs, H1 d = some (.dK kvs)) ∧ ta σ H1 fun vs H2 => ∃ b kvs, vs = [.ref b] ∧ (∃ ys, SqL K H2 b ys) ∧ H2 d = some (.dK kvs) ∧ ∀ o, R (Itzv K d o kvs b) (upd H2 d (.frz o (.dK kvs)))
theorem Inv.addPin {pins : List (Addr × Obj)} {σ : L2.St} {H : Hp} {s : Shared} {a : Addr} {o : Obj} (I : Inv X pins σ H s) (h : s.heap.get? a = some o ∧ H a = none ∧ a ≠ X.env.locals ∧ a ∉ X.fs ∧ ∀ v, o.data ≠ .cell v) : Inv X ((a, o) :: pins) σ H s := by
  refine ⟨I.ok, I.os, I.bare, I.base, I.loc, I.cell, I.free, I.freeC, fun p hp => ?_, I.hok, I.len⟩
  rcases List.mem_append.mp hp with z | z
  · exact I.pin p (List.mem_append_left _ z)
  · rcases List.mem_cons.mp z with z | z
    · rw [z]
      exact h
    · exact I.pin p (List.mem_append_right _ z)
theorem Inv.dropPin {pins : List (Addr × Obj)} {σ : L2.St} {H : Hp} {s : Shared} {p : Addr × Obj} (I : Inv X (p :: pins) σ H s) : Inv X pins σ H s := by
  refine ⟨I.ok, I.os, I.bare, I.base, I.loc, I.cell, I.free, I.freeC, fun p hp => ?_, I.hok, I.len⟩
  rcases List.mem_append.mp hp with z | z
  · exact I.pin p (List.mem_append_left _ z)
  · exact I.pin p (List.mem_append_right _ (List.mem_cons_of_mem _ z))
theorem pi_zipV {e e2 : Expr} {te : TE} {ta : TA} {p pos apos cpos : Pos} {es : List Expr} {k : Nat} {tpos : Pos} (hg : Gl X "zip") (hm : X.mg "zip" = none) (ho : PE X e te) (ha : PA X [e2] ta)
    (hs : starEach [.Call (.Attribute e "values" apos) [] [] cpos, e2] X.env = [(false, eval (.Call (.Attribute e "values" apos) [] [] cpos) X.env), (false, eval e2 X.env)] := by rfl) (hs2 : starEach [e2] X.env = [(false, eval e2 X.env)] := by rfl)
    (hbase : attributeBase e "values" X.env (eval e X.env) = eval e X.env := by rfl) (hline : (apos.endLine == cpos.line) = true := by rfl) :
    PI X (.Tuple es k tpos) (.Call (.Name "zip" p) [.Call (.Attribute e "values" apos) [] [] cpos, e2] [] pos) (iZipV X.K te ta) := by
  intro pins s σ H R I h
  refine Call_ (ld_blt I hg hm boot_zip (PyProof.Rows.callWith_type1 ?_ (by rw [hs, hs2]) (by rw [hs2]; rfl)))
  rw [hs]
  show wpAny _ _ (spliced ((false, eval (.Call (.Attribute e "values" apos) [] [] cpos) X.env) :: backTo pos [(false, eval e2 X.env)])) _ _ s
  refine Calls.spliced_cons (wpAny_Call_method0_late hbase hline (thn (ho pins s σ H _ I h) fun v s1 ⟨x, H1, I1, r1, q1⟩ => ?_))
  obtain ⟨d, rfl, ⟨kv0, e0⟩, q⟩ := q1
  cases r1
  obtain ⟨h1, h2, hd⟩ := isD_at I1 (.inl ⟨kv0, .inl e0⟩)
  obtain ⟨_, _, vs0, rel0, dd0⟩ := dk_of I1.hok e0
  refine ⟨"dict", "dict.values", F.plainAttrs_dict, F.slot_dict_values, F.type_dict_values, h1, h2, Calls.callWith_builtin rfl (PySem.evalArgs_none ?_)⟩
  refine call_meetsIn F.slot_dict_values h1 F.entry_dict_values (F.args_dict_values_1 _) (meets_dict_values (mixKind X.prog X.w) d hd) ⟨⟨vs0, dd0⟩, ?_⟩
  have I2 : Inv X pins σ H1 { s1 with heap := s1.heap.push { cls := .type "dict_values", data := .fields #[.ref d] } } := I1.kept (t' := s1.toks) fun b o e => Heap.get?_push_of_some _ e
  obtain ⟨f0, f1, f2, f3, f4, f5⟩ := I1.fpOk (Nat.le_refl s1.heap.objs.size) (I1.hok.fresh (Nat.le_refl _))
  have I3 := Inv.addPin I2 (a := s1.heap.objs.size) (o := { cls := .type "dict_values", data := .fields #[.ref d] }) ⟨Heap.get?_push_size _ rfl, f0, f1, f2, fun v z => by cases z⟩
  have hb2 : backTo pos [(false, eval e2 X.env)] = backTo pos (starEach [e2] X.env) := by rw [hs2]
  show wpAny _ _ (spliced (backTo pos [(false, eval e2 X.env)])) _ _ _
  rw [hb2]
  refine thn (ha pos _ _ σ H1 _ I3 q) fun us s3 ⟨ws, H3, I4, r4, q4⟩ => ?_
  obtain ⟨b, kvs, rfl, ⟨ys, hy⟩, ed, q⟩ := q4
  obtain ⟨u, rfl⟩ : ∃ u, us = [u] := by cases r4 with | cons h t => cases t; exact ⟨_, rfl⟩
  cases r4 with
  | cons rb _ =>
  cases rb
  have hv := (I4.pin (s1.heap.objs.size, _) (List.mem_append_right _ List.mem_cons_self)).1
  have I5 := Inv.dropPin I4
  obtain ⟨z, hd', vs, rel, o, es1, ep, ho1, hx, hdat, hk, hp, hn⟩ := dk_of I5.hok ed
  have da : s3.heap.DictAt (mixKind X.prog X.w) d vs ep := ⟨o, es1, ho1, hx, hdat, hk, hp, hn⟩
  have lv := rel.length
  have I6 := Inv.freeze I5 ed ho1
  obtain ⟨jts, rw', pl, _⟩ := I5.list hy
  have lt1 : d < s3.heap.objs.size := Heap.lt_size ho1
  have lt2 : b < s3.heap.objs.size := by obtain ⟨ob, e1, _⟩ := pl.isList; exact Heap.lt_size e1
  refine call_zipV (knd := mixKind X.prog X.w) (d := d) ⟨_, hv, rfl, rfl⟩ da pl.isList fun h' hz hTI hTO hi1 hi2 hk => wpAny_pyIter_zip (s := { s3 with heap := h' }) hz ?_
  rw [← lv] at hi1
  refine ⟨s3.heap.objs.size + 4, [s3.heap.objs.size + 4, s3.heap.objs.size + 2, s3.heap.objs.size + 3, s3.heap.objs.size, s3.heap.objs.size + 1], _, _, _, rfl, I6.kept (t' := s3.toks) hk, turn_zv d b _ _ _ _ _ o kvs hdat ?_, ⟨hz, hTI, ⟨_, _, hTO⟩, hi1, hi2⟩, fun c hc => ?_, q o⟩
  · constructor <;> (intro z; simp only [Addr] at *; omega)
  · have hc' : s3.heap.objs.size ≤ c := by
      have : c = s3.heap.objs.size + 4 ∨ c = s3.heap.objs.size + 2 ∨ c = s3.heap.objs.size + 3 ∨ c = s3.heap.objs.size ∨ c = s3.heap.objs.size + 1 := by simpa using hc
      simp only [Addr] at *
      omega
    exact I6.fpOk hc' (I6.hok.fresh hc')
theorem for_zipV {K : PySem.W.Frag} {d b : Addr} {o : Obj} {kvs : List (Key × V)} {ys : List V} {g : TG} {tb : TS} {D : Ends} {σ : L2.St} {H : Hp} (Pv : Nat → L2.St → Hp → Prop) (hy : kvs.length ≤ ys.length) (h0 : Pv 0 σ H) (hl : ∀ i σ H, i ≤ kvs.length → Pv i σ H → H d = some (.frz o (.dK kvs)) ∧ SqL K H b ys)
    (hs : ∀ i k x y σ H p, kvs[i]? = some (k, x) → ys[i]? = some y → Pv i σ H → H p = none → g (.ref p) σ (upd H p (.tup [x, y])) fun σ2 H2 => tb { D with nx := Pv (i + 1), ct := Pv (i + 1), bk := D.nx } σ2 H2) (hd : ∀ σ H, Pv kvs.length σ H → D.nx σ H) :
    ∃ W : Nat → Nat → L2.St → Hp → Prop, (∃ m, W 0 m σ H) ∧ ∀ i m σ H, W i m σ H →
      ((Itzv K d o kvs b).stop i H ∧ D.nx σ H) ∨ ((Itzv K d o kvs b).go i H ∧ ∃ N : L2.St → Hp → Prop, (∀ σ' H', N σ' H' → ∃ m', m' < m ∧ W (i + 1) m' σ' H') ∧ ∀ x H', (Itzv K d o kvs b).yld i H x H' → g x σ H' fun σ2 H2 => tb { D with nx := N, ct := N, bk := D.nx } σ2 H2) := by
  refine ⟨fun i m σ H => m = kvs.length - i ∧ i ≤ kvs.length ∧ Pv i σ H, ⟨kvs.length, by simp, Nat.zero_le _, h0⟩, ?_⟩
  rintro i m σ H ⟨rfl, hi, p⟩
  obtain ⟨q1, q2⟩ := hl i σ H hi p
  by_cases hlt : i < kvs.length
  · have ey : ys[i]? = some ys[i] := List.getElem?_eq_getElem (by omega)
    refine .inr ⟨⟨q1, hlt, ys, ys[i], q2, ey⟩, Pv (i + 1), fun σ' H' z => ⟨kvs.length - (i + 1), by omega, rfl, by omega, z⟩, fun x H' y => ?_⟩
    obtain ⟨a, k, x', y', ek, ey', rfl, na, rfl⟩ := y
    exact hs i k x' y' σ _ a ek (ey' ys q2) p na
  · have e : i = kvs.length := by omega
    subst e
    exact .inl ⟨⟨q1, Nat.le_refl _⟩, hd σ H p⟩
end
end Ty

set_option maxHeartbeats 4000000
namespace Ty
open PySem PySem.Spec PyProof.Rows L2
section
variable {prog : Program} {w : World} {A : Around} {E : Value → Shared → Prop} {s : Shared}
open MeetsSeq MeetsSeq2 MeetsSeq3 SeqRoads2 in
theorem ne_loop {l b : Addr} {xs ys : Array Value} {n1 n2 : Nat} {d1 d2 : Option Addr} {t1 t2 : Array (Option Value)} (hsz : xs.size = ys.size) (k : Nat) : ∀ i : Nat, xs.size - i = k →
    MeetsIn prog w (Builtin.«list.__eq__.loop» ⟨[.ref l, .ref b, rawInt i, rawInt 3], []⟩) (fun A R s => s.heap.get? l = some ⟨.type "list", d1, .seq xs n1, t1⟩ ∧ s.heap.get? b = some ⟨.type "list", d2, .seq ys n2, t2⟩ ∧
      (∀ j (g1 : j < xs.size) (g2 : j < ys.size), EqIn prog w A.in1 s xs[j] ys[j]) ∧ R (.ok (.ret (.bool false))) s) := by
  induction k with
  | zero =>
    intro i ek A R s q
    obtain ⟨hp, g, d, tk, os⟩ := s
    obtain ⟨g1, g2, _, q⟩ := q
    wp_walk using AutoSeq1.wpAny_loadPart' g1, AutoSeq1.wpAny_loadPart' g2
    rw [show xs[((i : Nat) : Int).toNat]? = none by simp; omega, show ys[((i : Nat) : Int).toNat]? = none by simp; omega]
    wp_walk using AutoSeq1.wpAny_loadPart' g1, AutoSeq1.wpAny_loadPart' g2
    show R (.ok (.ret (.bool (xs.size != ys.size)))) _
    rw [hsz, bne_self_eq_false]
    exact q
  | succ k ih =>
    intro i ek A R s q
    obtain ⟨hp, g, d, tk, os⟩ := s
    obtain ⟨g1, g2, he, q⟩ := q
    wp_walk using AutoSeq1.wpAny_loadPart' g1, AutoSeq1.wpAny_loadPart' g2
    have l1 : i < xs.size := by omega
    have l2 : i < ys.size := by omega
    rw [show xs[((i : Nat) : Int).toNat]? = some xs[i] by simp [l1], show ys[((i : Nat) : Int).toNat]? = some ys[i] by simp [l2]]
    refine wpAny_bind (he i l1 l2 _ _ ?_)
    wp_walk
    rw [show ((i : Int) + 1) = ((i + 1 : Nat) : Int) by push_cast; rfl]
    refine ⟨plainId_quiet plain_eq_loop _, codeAny_builtin entry_eq_loop ?_⟩
    rw [Around.under_plainId plain_eq_loop _]
    exact ih (i + 1) (by omega) A R _ ⟨g1, g2, he, q⟩
open MeetsSeq MeetsSeq2 MeetsSeq3 SeqRoads2 in
theorem ne_list {l b : Addr} {xs ys : Array Value} {n1 n2 : Nat} {d1 d2 : Option Addr} {t1 t2 : Array (Option Value)} (hsz : xs.size = ys.size) :
    MeetsIn prog w (Builtin.«list.__ne__» ⟨[.ref l, .ref b], []⟩) (fun A R s => s.heap.get? l = some ⟨.type "list", d1, .seq xs n1, t1⟩ ∧ s.heap.get? b = some ⟨.type "list", d2, .seq ys n2, t2⟩ ∧
      (∀ j (g1 : j < xs.size) (g2 : j < ys.size), EqIn prog w A.in1 s xs[j] ys[j]) ∧ R (.ok (.ret (.bool false))) s) := by
  intro A R s q
  obtain ⟨hp, g, d, tk, os⟩ := s
  obtain ⟨g1, g2, he, q⟩ := q
  have f3 := AutoSeq1.sub_list_list
  have hne : ¬ (xs.size != ys.size) = true := by simp [hsz]
  wp_walk using AutoSeq1.wpAny_loadPart' g1, AutoSeq1.wpAny_loadPart' g2
  refine ⟨plainId_quiet plain_eq_loop _, codeAny_builtin entry_eq_loop ?_⟩
  rw [Around.under_plainId plain_eq_loop _]
  exact ne_loop hsz _ 0 rfl A R _ ⟨g1, g2, he, q⟩
theorem rc_listsN {l b : Addr} {xs ys : Array Value} (g1 : s.heap.IsList l xs) (g2 : s.heap.IsList b ys) (hsz : xs.size = ys.size) (hu : A.units < cLine) (he : ∀ j (h1 : j < xs.size) (h2 : j < ys.size), EqIn prog w A.in1 s xs[j] ys[j])
    {Q : Value → Shared → Prop} (q : Q (.bool false) s) : wpAny (model prog w) A (richCompare .NotEq (.ref l) (.ref b)) Q E s := by
  obtain ⟨⟨c1, d1, dat1, t1⟩, o1, e1, n1, e2⟩ := id g1
  obtain ⟨⟨c2, d2, dat2, t2⟩, o2, e3, n2, e4⟩ := id g2
  simp only at e1 e2 e3 e4
  subst e1 e2 e3 e4
  refine wpAny_richCompare_same_room ⟨_, o1, rfl⟩ ⟨_, o2, rfl⟩ F.slot_list_ne (call_meetsIn F.slot_list_ne ⟨_, o1, rfl⟩ F.entry_list_ne (F.args_list_ne_2 _ _) (ne_list hsz) ⟨o1, o2, he, ?_⟩) hu
  exact ⟨(fun z => nomatch z), q⟩
end
section
variable {X : Cx}
def rNeLD (K : PySem.W.Frag) : R2 := fun x y H Q => ∃ p p' xs ys, x = .ref p ∧ y = .ref p' ∧ SqL K H p xs ∧ SqL K H p' ys ∧ xs.length = ys.length ∧ (∀ (j : Nat) (u v : V), xs[j]? = some u → ys[j]? = some v → SameD H u v) ∧ Q (.bl false) H
theorem op_neLD (hu : X.A.units + 64 < cLine) : OpR X (compareOp .NotEq) (rNeLD X.K) := by
  intro pins s σ H x y v u Q I rx ry h
  obtain ⟨p, p', xs, ys, rfl, rfl, q1, q2, hl, hs, q⟩ := h
  cases rx
  cases ry
  obtain ⟨its, v1, t1, _⟩ := I.list q1
  obtain ⟨its2, v2, t2, _⟩ := I.list q2
  have e1 := v1.length
  have e2 := v2.length
  refine rc_listsN t1.isList t2.isList (by simp; omega) (by omega) (fun j g1 g2 => ?_) ⟨.bl false, H, I, rfl, q⟩
  have g1' : j < its.length := by simpa using g1
  have g2' : j < its2.length := by simpa using g2
  have k1 : j < xs.length := by omega
  have k2 : j < ys.length := by omega
  exact SameD.eqIn I (hs j xs[j] ys[j] (List.getElem?_eq_getElem k1) (List.getElem?_eq_getElem k2)) (vat v1 k1 g1) (vat v2 k2 g2) (by rw [in1_units]; omega)
end
end Ty

set_option maxHeartbeats 4000000
namespace T_k74
open PySem PySem.Spec PyProof.Rows L2 Ty
open Builtin.Int (intBits)
seal L2.PE L2.PS L2.PSs L2.PA
def top (i : Nat) : Stmt := PySem.Challenge.pw_trussyard_k74_a_price.main.body.getD i (.Pass ⟨0, 0, 0, 0⟩)
abbrev s_wall : Stmt := top 0
abbrev s_YardError : Stmt := top 2
abbrev s_NoWay : Stmt := top 3
abbrev s_PinThere : Stmt := top 4
abbrev s_SpotTaken : Stmt := top 5
abbrev s_NoPin : Stmt := top 6
abbrev s_BarThere : Stmt := top 7
abbrev s_NoBar : Stmt := top 8
abbrev s_NoLength : Stmt := top 9
abbrev s_TooMany : Stmt := top 10
abbrev s_NoBound : Stmt := top 11
abbrev s_sum_of : Stmt := top 14
abbrev s_difference_of : Stmt := top 15
abbrev s_product_of : Stmt := top 16
abbrev s_lowest_terms : Stmt := top 17
abbrev s_greatest_shared : Stmt := top 18
abbrev s_lengthenings : Stmt := top 21
abbrev s_arm_between : Stmt := top 22
abbrev s_pair_difference : Stmt := top 23
abbrev s_pair_product : Stmt := top 24
abbrev s_check_bars : Stmt := top 26
abbrev s_price_of : Stmt := top 28
abbrev s_all_bounds : Stmt := top 29
abbrev s_has_nought : Stmt := top 30
abbrev s_Frame : Stmt := top 34
abbrev s_Hold : Stmt := top 36
abbrev s_Roller : Stmt := top 37
abbrev s_Fixed : Stmt := top 38
abbrev s_law_cell_at : Stmt := top 40
abbrev s_law_field : Stmt := top 41
abbrev s_law_lowest : Stmt := top 42
abbrev s_law_sum : Stmt := top 43
abbrev s_law_times : Stmt := top 44
abbrev s_law_turned : Stmt := top 45
abbrev s_law_name : Stmt := top 46
abbrev s_law_spot : Stmt := top 47
abbrev s_law_ways : Stmt := top 48
abbrev s_law_few_pins : Stmt := top 49
abbrev s_law_bars : Stmt := top 50
abbrev s_law_frame : Stmt := top 51
abbrev s_law_arm : Stmt := top 52
abbrev s_law_number : Stmt := top 53
abbrev s_law_dot : Stmt := top 54
abbrev s_law_longer : Stmt := top 55
abbrev s_law_bounds : Stmt := top 56
abbrev s_law_alike : Stmt := top 57
abbrev s_law_price : Stmt := top 58
abbrev s_law_motion : Stmt := top 59
abbrev s_law : Stmt := top 60
abbrev s_Frame_init : Stmt := inClass (top 34) 0
abbrev s_Frame_put_pin : Stmt := inClass (top 34) 1
abbrev s_Frame_put_bar : Stmt := inClass (top 34) 2
abbrev s_Frame_check_bar : Stmt := inClass (top 34) 3
abbrev s_Frame_check_pin : Stmt := inClass (top 34) 4
abbrev s_Frame_pins : Stmt := inClass (top 34) 7
abbrev s_Frame_bars : Stmt := inClass (top 34) 8
abbrev s_Frame_place : Stmt := inClass (top 34) 9
abbrev s_Frame_ways : Stmt := inClass (top 34) 10
abbrev s_Frame_ends : Stmt := inClass (top 34) 11
abbrev s_Hold_ways : Stmt := inClass (top 36) 0
abbrev s_Roller_init : Stmt := inClass (top 37) 0
abbrev s_Roller_ways : Stmt := inClass (top 37) 1
abbrev s_Fixed_ways : Stmt := inClass (top 38) 0
section
variable {P : Program} {w : World} {K : PySem.W.Frag} {mg : Str → Option Value} {base : Heap} {CX : CXT}
def Nm (H : Hp) (v : V) (q : Int × Int) : Prop := ∃ p, v = .ref p ∧ H p = some (.tup [.int q.1, .int q.2])
theorem Nm.same {H H' : Hp} {v : V} {q : Int × Int} (h : Nm H v q) (s : Same H H') : Nm H' v q := by
  obtain ⟨p, e, k⟩ := h
  exact ⟨p, e, s _ _ k⟩
structure Okn (k : Nat) (q : Int × Int) : Prop where
  pos : 0 < q.2
  top : intBits q.1 ≤ k
  bot : intBits q.2 ≤ k
theorem same_new {H : Hp} {p : Addr} (h : H p = none) (o : HO) : Same H (upd H p o) := fun b u q => by rw [upd_ne (ne_of_none q h)]; exact q
def gives (H : Hp) (Q : VK) (q : Int × Int) : Prop := ∀ (p : Addr) (H' : Hp), Same H H' → H' p = some (.tup [.int q.1, .int q.2]) → Q (.ref p) H'
def spShared : Sp := fun vs H Q _ => ∃ a b : Int, vs = [.int a, .int b] ∧ Q (.int (gz a b)) H
def spLowest : Sp := fun vs H Q _ => ∃ t b : Int, vs = [.int t, .int b] ∧ b ≠ 0 ∧ intBits b ≤ 9000 ∧ gives H Q (low t b)
def spBin (f : Int × Int → Int × Int → Int × Int) : Sp := fun vs H Q _ => ∃ (u v : V) (x y : Int × Int), vs = [u, v] ∧ Nm H u x ∧ Nm H v y ∧ Okn 4000 x ∧ Okn 4000 y ∧ gives H Q (f x y)
def addQ (x y : Int × Int) : Int × Int := low (x.1 * y.2 + y.1 * x.2) (x.2 * y.2)
def subQ (x y : Int × Int) : Int × Int := low (x.1 * y.2 - y.1 * x.2) (x.2 * y.2)
def mulQ (x y : Int × Int) : Int × Int := low (x.1 * y.1) (x.2 * y.2)
theorem pos_mul {x y : Int × Int} {k l : Nat} (hx : Okn k x) (hy : Okn l y) : x.2 * y.2 ≠ 0 := Int.ne_of_gt (Int.mul_pos hx.pos hy.pos)
theorem at0 {a b : V} : atI [a, b] 0 = some a := rfl
theorem at1 {a b : V} : atI [a, b] 1 = some b := rfl
theorem sc_greatest_shared : FnScope ["one", "other", "left"] ["one", "other"] (defScope s_greatest_shared) := ⟨rfl, rfl, rfl, by decide +kernel, rfl, by decide +kernel, by decide +kernel⟩
theorem ok_greatest_shared (D : Def K mg "greatest_shared" s_greatest_shared ["one", "other"]) (m_abs : mg "abs" = none) : Fn P w K mg base CX 1 "greatest_shared" ["one", "other"] spShared := by
  refine D.ok sc_greatest_shared (fun vs H Q E h => ?_) (fun f cdv A outer s H vs Q E hr h => ?_)
  · obtain ⟨a, b, rfl, _⟩ := h
    rfl
  obtain ⟨a, b, rfl, q⟩ := h
  refine ⟨_, (pss_cons (ps_while PassesOwn.never (pt_cmpR op_ne (pv 1) pe_int (nomark _)) (pss_cons (ps_set (i := 2) sc_greatest_shared.nd rfl (Or.inl rfl) (pe_op op_modB (pv 0) (pv 1)))
      (pss_cons (ps_set (i := 0) sc_greatest_shared.nd rfl (Or.inl rfl) (pv 1))
      (pss_one (ps_set (i := 1) sc_greatest_shared.nd rfl (Or.inl rfl) (pv 2))))))
    (pss_one (ps_ret (pe_callB call_abs rfl m_abs b_abs (pac (pv 0) pa_nil))))), ?_⟩
  refine while_by (fun σ H' => ∃ (x y : Int) (l : Option V), σ = [some (.int x), some (.int y), l] ∧ H' = H ∧ Int.gcd x y = Int.gcd a b) (fun σ _ => match σ with | [_, some (.int y), _] => y.natAbs | _ => 0) ⟨a, b, none, rfl, rfl, rfl⟩ ?_ ?_
  · rintro σ H' ⟨x, y, l, rfl, rfl, g⟩
    refine ⟨_, rfl, rfl, _, rfl, ?_⟩
    refine ite2 (fun c => ?_) (fun c => ?_)
    · have hy : y ≠ 0 := by
        intro z
        subst z
        simp at c
      refine ⟨_, rfl, _, rfl, _, _, rfl, rfl, hy, ?_⟩
      refine ⟨_, rfl, _, rfl, ?_⟩
      exact ⟨⟨_, _, _, rfl, rfl, by rw [gcd_step]; exact g⟩, fmod_less hy⟩
    · have hy : y = 0 := by
        have := Bool.eq_false_iff.mpr c
        simp at this
        exact this
      subst hy
      refine ⟨_, rfl, x, rfl, ?_⟩
      have e : (if x < 0 then -x else x) = gz a b := by
        rw [Int.gcd_zero_right] at g
        unfold gz
        rw [← g]
        split <;> omega
      rw [e]
      exact q
  · rintro σ H' Q1 Q2 h ⟨v, e1, e2, k, ek, z⟩
    exact ⟨v, e1, e2, k, ek, h _ _ z⟩
def spLowestU : Sp := fun vs H Q _ => ∃ t b : Int, vs = [.int t, .int b] ∧ b ≠ 0 ∧ gives H Q (low t b)
theorem sc_lowest_terms : FnScope ["top", "bottom", "shared"] ["top", "bottom"] (defScope s_lowest_terms) := ⟨rfl, rfl, rfl, by decide +kernel, rfl, by decide +kernel, by decide +kernel⟩
theorem ok_lowest_terms (ht : P.given.tree = none) (D : Def K mg "lowest_terms" s_lowest_terms ["top", "bottom"]) (G_greatest_shared : Fn P w K mg base (CXr P w) 1 "greatest_shared" ["one", "other"] spShared) : Fn P w K mg base (CXr P w) 33 "lowest_terms" ["top", "bottom"] spLowestU := by
  refine D.ok sc_lowest_terms (fun vs H Q E h => ?_) (fun f cdv A outer s H vs Q E hr h => ?_)
  · obtain ⟨t, b, rfl, _⟩ := h
    rfl
  obtain ⟨t, b, rfl, hb, q⟩ := h
  have px := passM (X := (cxOf (CXr P w) P w K mg base ["top", "bottom", "shared"] "lowest_terms" (defScope s_lowest_terms) f cdv A outer s H E)) (CXr.mute (P := P) (w := w))
  have tail2 : ∃ tt, PSs (cxOf (CXr P w) P w K mg base ["top", "bottom", "shared"] "lowest_terms" (defScope s_lowest_terms) f cdv A outer s H E).nox ((defBody s_lowest_terms).drop 2) tt ∧ ∀ g : Int, g = sg t b → tt { nx := fun _ H' => Q .non H', rt := Q } [some (.int t), some (.int b), some (.int g)] H := by
    refine ⟨_, (pss_one (ps_ret (pe_tup (pac (pe_op (op_fdivU ht (Ty.Room.py hr (by decide)) rfl rfl rfl rfl rfl) (pv 0) (pv 2)) (pac (pe_op (op_fdivU ht (Ty.Room.py hr (by decide)) rfl rfl rfl rfl rfl) (pv 1) (pv 2)) pa_nil))))), ?_⟩
    rintro g rfl
    have c := sg_ne (t := t) hb
    refine ⟨_, rfl, _, rfl, _, _, rfl, rfl, c, _, rfl, _, rfl, _, _, rfl, rfl, c, (by show 2 ≤ sizeLine; decide), fun p hp => ?_⟩
    exact q p _ (same_new hp _) upd_same
  obtain ⟨t2, p2, q2⟩ := tail2
  refine ⟨_, (pss_cons (ps_set (i := 2) sc_lowest_terms.nd rfl (Or.inl rfl) (pe_fn G_greatest_shared (hr.mono (by decide)) px (pac (pv 0) (pac (pv 1) pa_nil)))) (pss_cons (ps_if (pt_cmpR op_lt (pv 1) pe_int (nomark _)) (pss_one (ps_set (i := 2) sc_lowest_terms.nd rfl (Or.inl rfl) (pe_un un_neg (pv 2)))) pss_nil) p2)), ?_⟩
  refine ⟨_, rfl, _, rfl, t, b, rfl, ?_⟩
  refine ⟨_, rfl, _, _, rfl, rfl, _, rfl, ?_⟩
  refine ite2 (fun c => ?_) (fun c => ?_)
  · refine ⟨_, rfl, _, rfl, q2 _ ?_⟩
    have c' : b < 0 := of_decide_eq_true c
    unfold sg
    rw [if_pos c']
  · refine q2 _ ?_
    have c' : ¬ b < 0 := of_decide_eq_false (Bool.eq_false_iff.mpr c)
    unfold sg
    rw [if_neg c']
def spBinK (K : PySem.W.Frag) (f : Int × Int → Int × Int → Int × Int) : Sp := fun vs H Q _ => ∃ (u v : V) (x y : Int × Int), vs = [u, v] ∧ NmK K H u x ∧ NmK K H v y ∧ Okn 100000 x ∧ Okn 100000 y ∧ gives H Q (f x y)
theorem sc_sum_of : FnScope ["one", "other"] ["one", "other"] (defScope s_sum_of) := ⟨rfl, rfl, rfl, by decide +kernel, rfl, by decide +kernel, by decide +kernel⟩
theorem ok_sum_of (hM : Mute CX) (D : Def K mg "sum_of" s_sum_of ["one", "other"]) (G_lowest_terms : Fn P w K mg base CX 33 "lowest_terms" ["top", "bottom"] spLowestU) : Fn P w K mg base CX 34 "sum_of" ["one", "other"] (spBinK K addQ) := by
  refine D.ok sc_sum_of (fun vs H Q E h => ?_) (fun f cdv A outer s H vs Q E hr h => ?_)
  · obtain ⟨u, v, x, y, rfl, _⟩ := h
    rfl
  obtain ⟨u, v, x, y, rfl, ⟨p1, rfl, h1⟩, ⟨p2, rfl, h2⟩, k1, k2, q⟩ := h
  have px := passM (X := cxOf CX P w K mg base ["one", "other"] "sum_of" (defScope s_sum_of) f cdv A outer s H E) hM
  refine ⟨_, (pss_one (ps_ret (pe_fn G_lowest_terms (hr.mono (by decide)) px (pac (pe_op op_add (pe_op op_mulB (pe_ix ix_tup (pv 0) pe_int (fun _ _ => rfl)) (pe_ix ix_tup (pv 1) pe_int (fun _ _ => rfl))) (pe_op op_mulB (pe_ix ix_tup (pv 1) pe_int (fun _ _ => rfl)) (pe_ix ix_tup (pv 0) pe_int (fun _ _ => rfl)))) (pac (pe_op op_mulB (pe_ix ix_tup (pv 0) pe_int (fun _ _ => rfl)) (pe_ix ix_tup (pv 1) pe_int (fun _ _ => rfl))) pa_nil))))), ?_⟩
  have b1 := k1.top
  have b2 := k1.bot
  have b3 := k2.top
  have b4 := k2.bot
  have c : ∀ {i j : Int}, intBits i ≤ 100000 → intBits j ≤ 100000 → CMulB i j := fun a b => ⟨Nat.le_trans a (by decide), Nat.le_trans b (by decide)⟩
  refine ⟨_, rfl, p1, _, _, _, rfl, rfl, h1, at0, _, rfl, p2, _, _, _, rfl, rfl, h2, at1, _, _, rfl, rfl, c b1 b4, ?_⟩
  refine ⟨_, rfl, p2, _, _, _, rfl, rfl, h2, at0, _, rfl, p1, _, _, _, rfl, rfl, h1, at1, _, _, rfl, rfl, c b3 b2, ?_⟩
  refine ⟨_, _, rfl, rfl, ?_⟩
  refine ⟨_, rfl, p1, _, _, _, rfl, rfl, h1, at1, _, rfl, p2, _, _, _, rfl, rfl, h2, at1, _, _, rfl, rfl, c b2 b4, ?_⟩
  exact ⟨_, _, rfl, pos_mul k1 k2, q⟩
theorem sc_difference_of : FnScope ["one", "other"] ["one", "other"] (defScope s_difference_of) := ⟨rfl, rfl, rfl, by decide +kernel, rfl, by decide +kernel, by decide +kernel⟩
theorem ok_difference_of (hM : Mute CX) (D : Def K mg "difference_of" s_difference_of ["one", "other"]) (G_lowest_terms : Fn P w K mg base CX 33 "lowest_terms" ["top", "bottom"] spLowestU) : Fn P w K mg base CX 34 "difference_of" ["one", "other"] (spBinK K subQ) := by
  refine D.ok sc_difference_of (fun vs H Q E h => ?_) (fun f cdv A outer s H vs Q E hr h => ?_)
  · obtain ⟨u, v, x, y, rfl, _⟩ := h
    rfl
  obtain ⟨u, v, x, y, rfl, ⟨p1, rfl, h1⟩, ⟨p2, rfl, h2⟩, k1, k2, q⟩ := h
  have px := passM (X := cxOf CX P w K mg base ["one", "other"] "difference_of" (defScope s_difference_of) f cdv A outer s H E) hM
  refine ⟨_, (pss_one (ps_ret (pe_fn G_lowest_terms (hr.mono (by decide)) px (pac (pe_op op_sub (pe_op op_mulB (pe_ix ix_tup (pv 0) pe_int (fun _ _ => rfl)) (pe_ix ix_tup (pv 1) pe_int (fun _ _ => rfl))) (pe_op op_mulB (pe_ix ix_tup (pv 1) pe_int (fun _ _ => rfl)) (pe_ix ix_tup (pv 0) pe_int (fun _ _ => rfl)))) (pac (pe_op op_mulB (pe_ix ix_tup (pv 0) pe_int (fun _ _ => rfl)) (pe_ix ix_tup (pv 1) pe_int (fun _ _ => rfl))) pa_nil))))), ?_⟩
  have b1 := k1.top
  have b2 := k1.bot
  have b3 := k2.top
  have b4 := k2.bot
  have c : ∀ {i j : Int}, intBits i ≤ 100000 → intBits j ≤ 100000 → CMulB i j := fun a b => ⟨Nat.le_trans a (by decide), Nat.le_trans b (by decide)⟩
  refine ⟨_, rfl, p1, _, _, _, rfl, rfl, h1, at0, _, rfl, p2, _, _, _, rfl, rfl, h2, at1, _, _, rfl, rfl, c b1 b4, ?_⟩
  refine ⟨_, rfl, p2, _, _, _, rfl, rfl, h2, at0, _, rfl, p1, _, _, _, rfl, rfl, h1, at1, _, _, rfl, rfl, c b3 b2, ?_⟩
  refine ⟨_, _, rfl, rfl, ?_⟩
  refine ⟨_, rfl, p1, _, _, _, rfl, rfl, h1, at1, _, rfl, p2, _, _, _, rfl, rfl, h2, at1, _, _, rfl, rfl, c b2 b4, ?_⟩
  exact ⟨_, _, rfl, pos_mul k1 k2, q⟩
theorem sc_product_of : FnScope ["one", "other"] ["one", "other"] (defScope s_product_of) := ⟨rfl, rfl, rfl, by decide +kernel, rfl, by decide +kernel, by decide +kernel⟩
theorem ok_product_of (hM : Mute CX) (D : Def K mg "product_of" s_product_of ["one", "other"]) (G_lowest_terms : Fn P w K mg base CX 33 "lowest_terms" ["top", "bottom"] spLowestU) : Fn P w K mg base CX 34 "product_of" ["one", "other"] (spBinK K mulQ) := by
  refine D.ok sc_product_of (fun vs H Q E h => ?_) (fun f cdv A outer s H vs Q E hr h => ?_)
  · obtain ⟨u, v, x, y, rfl, _⟩ := h
    rfl
  obtain ⟨u, v, x, y, rfl, ⟨p1, rfl, h1⟩, ⟨p2, rfl, h2⟩, k1, k2, q⟩ := h
  have px := passM (X := cxOf CX P w K mg base ["one", "other"] "product_of" (defScope s_product_of) f cdv A outer s H E) hM
  refine ⟨_, (pss_one (ps_ret (pe_fn G_lowest_terms (hr.mono (by decide)) px (pac (pe_op op_mulB (pe_ix ix_tup (pv 0) pe_int (fun _ _ => rfl)) (pe_ix ix_tup (pv 1) pe_int (fun _ _ => rfl))) (pac (pe_op op_mulB (pe_ix ix_tup (pv 0) pe_int (fun _ _ => rfl)) (pe_ix ix_tup (pv 1) pe_int (fun _ _ => rfl))) pa_nil))))), ?_⟩
  have b1 := k1.top
  have b2 := k1.bot
  have b3 := k2.top
  have b4 := k2.bot
  have c : ∀ {i j : Int}, intBits i ≤ 100000 → intBits j ≤ 100000 → CMulB i j := fun a b => ⟨Nat.le_trans a (by decide), Nat.le_trans b (by decide)⟩
  refine ⟨_, rfl, p1, _, _, _, rfl, rfl, h1, at0, _, rfl, p2, _, _, _, rfl, rfl, h2, at0, _, _, rfl, rfl, c b1 b3, ?_⟩
  refine ⟨_, rfl, p1, _, _, _, rfl, rfl, h1, at1, _, rfl, p2, _, _, _, rfl, rfl, h2, at1, _, _, rfl, rfl, c b2 b4, ?_⟩
  exact ⟨_, _, rfl, pos_mul k1 k2, q⟩
def givesR (H : Hp) (Q : VK) (r : Rat) : Prop := gives H Q (qr r)
def spBinR (K : PySem.W.Frag) (f : Rat → Rat → Rat) : Sp := fun vs H Q _ => ∃ (u v : V) (x y : Rat), vs = [u, v] ∧ NmR K H u x ∧ NmR K H v y ∧ Sz 100000 x ∧ Sz 100000 y ∧ gives H Q (qr (f x y))
theorem okn_qr {k : Nat} {r : Rat} (h : Sz k r) : Okn k (qr r) := ⟨qr_pos r, h.top, h.bot⟩
theorem fn_add {k : Nat} {x : Str} {ps : List Str} (F : Fn P w K mg base CX k x ps (spBinK K addQ)) : Fn P w K mg base CX k x ps (spBinR K fun a b => a + b) := by
  obtain ⟨f, fd, G, r⟩ := F.ex
  refine ⟨f, fd, G.imp fun vs H Q E h => ?_, r⟩
  obtain ⟨u, v, a, b, e, h1, h2, k1, k2, q⟩ := h
  refine ⟨u, v, qr a, qr b, e, h1, h2, okn_qr k1, okn_qr k2, ?_⟩
  unfold addQ
  rw [qr_add]
  exact q
theorem fn_sub {k : Nat} {x : Str} {ps : List Str} (F : Fn P w K mg base CX k x ps (spBinK K subQ)) : Fn P w K mg base CX k x ps (spBinR K fun a b => a - b) := by
  obtain ⟨f, fd, G, r⟩ := F.ex
  refine ⟨f, fd, G.imp fun vs H Q E h => ?_, r⟩
  obtain ⟨u, v, a, b, e, h1, h2, k1, k2, q⟩ := h
  refine ⟨u, v, qr a, qr b, e, h1, h2, okn_qr k1, okn_qr k2, ?_⟩
  unfold subQ
  rw [qr_sub]
  exact q
theorem fn_mul {k : Nat} {x : Str} {ps : List Str} (F : Fn P w K mg base CX k x ps (spBinK K mulQ)) : Fn P w K mg base CX k x ps (spBinR K fun a b => a * b) := by
  obtain ⟨f, fd, G, r⟩ := F.ex
  refine ⟨f, fd, G.imp fun vs H Q E h => ?_, r⟩
  obtain ⟨u, v, a, b, e, h1, h2, k1, k2, q⟩ := h
  refine ⟨u, v, qr a, qr b, e, h1, h2, okn_qr k1, okn_qr k2, ?_⟩
  unfold mulQ
  rw [qr_mul]
  exact q
def givesP (K : PySem.W.Frag) (H : Hp) (Q : VK) (p : Rat × Rat) : Prop := ∀ (v : V) (H' : Hp), Same H H' → PtR K H' v p → Q v H'
def spPair (K : PySem.W.Frag) (f : Rat → Rat → Rat) : Sp := fun vs H Q _ => ∃ (u v : V) (x y : Rat × Rat), vs = [u, v] ∧ PtR K H u x ∧ PtR K H v y ∧ Sz 100000 x.1 ∧ Sz 100000 x.2 ∧ Sz 100000 y.1 ∧ Sz 100000 y.2 ∧ givesP K H Q (f x.1 y.1, f x.2 y.2)
theorem sc_pair_difference : FnScope ["one", "other"] ["one", "other"] (defScope s_pair_difference) := ⟨rfl, rfl, rfl, by decide +kernel, rfl, by decide +kernel, by decide +kernel⟩
theorem ok_pair_difference (hM : Mute CX) (D : Def K mg "pair_difference" s_pair_difference ["one", "other"]) (G_difference_of : Fn P w K mg base CX 34 "difference_of" ["one", "other"] (spBinR K fun a b => a - b)) : Fn P w K mg base CX 35 "pair_difference" ["one", "other"] (spPair K fun a b => a - b) := by
  refine D.ok sc_pair_difference (fun vs H Q E h => ?_) (fun f cdv A outer s H vs Q E hr h => ?_)
  · obtain ⟨u, v, x, y, rfl, _⟩ := h
    rfl
  obtain ⟨u, v, x, y, rfl, ⟨p1, a1, a2, rfl, h1, n1, n2⟩, ⟨p2, b1, b2, rfl, h2, m1, m2⟩, k1, k2, l1, l2, q⟩ := h
  have px := passM (X := (cxOf (CXr P w) P w K mg base ["one", "other"] "pair_difference" (defScope s_pair_difference) f cdv A outer s H E)) hM
  refine ⟨_, (pss_one (ps_ret (pe_tup (pac (pe_fn G_difference_of (hr.mono (by decide)) px (pac (pe_ix ix_tup (pv 0) pe_int (fun _ _ => rfl)) (pac (pe_ix ix_tup (pv 1) pe_int (fun _ _ => rfl)) pa_nil))) (pac (pe_fn G_difference_of (hr.mono (by decide)) px (pac (pe_ix ix_tup (pv 0) pe_int (fun _ _ => rfl)) (pac (pe_ix ix_tup (pv 1) pe_int (fun _ _ => rfl)) pa_nil))) pa_nil))))), ?_⟩
  refine ⟨_, rfl, p1, _, _, _, rfl, rfl, h1, at0, _, rfl, p2, _, _, _, rfl, rfl, h2, at0, a1, b1, _, _, rfl, n1, m1, k1, l1, fun c1 H1 s1 e1 => ?_⟩
  refine ⟨_, rfl, p1, _, _, _, rfl, rfl, Ty.Same.seqT s1 h1, at1, _, rfl, p2, _, _, _, rfl, rfl, Ty.Same.seqT s1 h2, at1, a2, b2, _, _, rfl, n2.same s1, m2.same s1, k2, l2, fun c2 H2 s2 e2 => ?_⟩
  refine ⟨(by show 2 ≤ sizeLine; decide), fun c3 n3 => ?_⟩
  have s3 := same_new n3 (.tup [.ref c1, .ref c2])
  exact q (.ref c3) _ (fun b o z => s3 _ _ (s2 _ _ (s1 _ _ z))) ⟨c3, _, _, rfl, SqT.of upd_same, ⟨c1, rfl, SqT.of (s3 _ _ (s2 _ _ e1))⟩, ⟨c2, rfl, SqT.of (s3 _ _ e2)⟩⟩
def dotP (x y : Rat × Rat) : Rat := x.1 * y.1 + x.2 * y.2
def spDot (K : PySem.W.Frag) : Sp := fun vs H Q _ => ∃ (u v : V) (x y : Rat × Rat), vs = [u, v] ∧ PtR K H u x ∧ PtR K H v y ∧ Sz 40000 x.1 ∧ Sz 40000 x.2 ∧ Sz 40000 y.1 ∧ Sz 40000 y.2 ∧ gives H Q (qr (dotP x y))
theorem sc_pair_product : FnScope ["one", "other"] ["one", "other"] (defScope s_pair_product) := ⟨rfl, rfl, rfl, by decide +kernel, rfl, by decide +kernel, by decide +kernel⟩
theorem ok_pair_product (hM : Mute CX) (D : Def K mg "pair_product" s_pair_product ["one", "other"]) (G_sum_of : Fn P w K mg base CX 34 "sum_of" ["one", "other"] (spBinR K fun a b => a + b)) (G_product_of : Fn P w K mg base CX 34 "product_of" ["one", "other"] (spBinR K fun a b => a * b)) : Fn P w K mg base CX 35 "pair_product" ["one", "other"] (spDot K) := by
  refine D.ok sc_pair_product (fun vs H Q E h => ?_) (fun f cdv A outer s H vs Q E hr h => ?_)
  · obtain ⟨u, v, x, y, rfl, _⟩ := h
    rfl
  obtain ⟨u, v, x, y, rfl, ⟨p1, a1, a2, rfl, h1, n1, n2⟩, ⟨p2, b1, b2, rfl, h2, m1, m2⟩, k1, k2, l1, l2, q⟩ := h
  have px := passM (X := (cxOf (CXr P w) P w K mg base ["one", "other"] "pair_product" (defScope s_pair_product) f cdv A outer s H E)) hM
  refine ⟨_, (pss_one (ps_ret (pe_fn G_sum_of (hr.mono (by decide)) px (pac (pe_fn G_product_of (hr.mono (by decide)) px (pac (pe_ix ix_tup (pv 0) pe_int (fun _ _ => rfl)) (pac (pe_ix ix_tup (pv 1) pe_int (fun _ _ => rfl)) pa_nil))) (pac (pe_fn G_product_of (hr.mono (by decide)) px (pac (pe_ix ix_tup (pv 0) pe_int (fun _ _ => rfl)) (pac (pe_ix ix_tup (pv 1) pe_int (fun _ _ => rfl)) pa_nil))) pa_nil))))), ?_⟩
  refine ⟨_, rfl, p1, _, _, _, rfl, rfl, h1, at0, _, rfl, p2, _, _, _, rfl, rfl, h2, at0, a1, b1, _, _, rfl, n1, m1, k1.up (by decide), l1.up (by decide), fun c1 H1 s1 e1 => ?_⟩
  refine ⟨_, rfl, p1, _, _, _, rfl, rfl, Ty.Same.seqT s1 h1, at1, _, rfl, p2, _, _, _, rfl, rfl, Ty.Same.seqT s1 h2, at1, a2, b2, _, _, rfl, n2.same s1, m2.same s1, k2.up (by decide), l2.up (by decide), fun c2 H2 s2 e2 => ?_⟩
  refine ⟨.ref c1, .ref c2, _, _, rfl, ⟨c1, rfl, SqT.of (s2 _ _ e1)⟩, ⟨c2, rfl, SqT.of e2⟩, (k1.mul l1).up (by decide), (k2.mul l2).up (by decide), fun c3 H3 s3 e3 => ?_⟩
  exact q c3 H3 (fun b o z => s3 _ _ (s2 _ _ (s1 _ _ z))) e3
def spFInit (K : PySem.W.Frag) (C : Addr) : Sp := fun vs H Q _ => ∃ (a dx : Addr), vs = [.ref a] ∧ H a = some (.ins C dx []) ∧
  ∀ (pP pW pB : Addr) (H' : Hp), KSame a H H' → H pP = none → H pW = none → H pB = none → FrR K H' C a dx pP pW pB [] [] [] [] [] → Q .non H'
theorem putF_p1 {x : V} : putF "pin_places" x [] = ([("pin_places", x)] : List (Str × V)) := rfl
theorem putF_w1 {x y : V} : putF "pin_ways" y [("pin_places", x)] = ([("pin_places", x), ("pin_ways", y)] : List (Str × V)) := by
  simp only [putF]
  rw [if_neg (by decide)]
theorem putF_e1 {x y z : V} : putF "bar_ends" z [("pin_places", x), ("pin_ways", y)] = ([("pin_places", x), ("pin_ways", y), ("bar_ends", z)] : List (Str × V)) := by
  simp only [putF]
  rw [if_neg (by decide), if_neg (by decide)]
theorem sc_Frame_init : FnScope ["self"] ["self"] (defScope s_Frame_init) := ⟨rfl, rfl, rfl, by decide +kernel, rfl, by decide +kernel, by decide +kernel⟩
theorem ok_Frame_init {f : Addr} {fd : FuncData} {C : Addr} (F : Fun K "__init__" "Frame.__init__" s_Frame_init f fd) (fc : FrC K C) : FnOk P w K mg base (CXr P w) 1 f fd ["self"] (spFInit K C) := by
  refine fun_okF F sc_Frame_init (fun vs H Q E h => ?_) (fun cdv A outer s H vs Q E hr h => ?_)
  · obtain ⟨a, dx, rfl, _⟩ := h
    rfl
  obtain ⟨a, dx, rfl, ha, q⟩ := h
  refine ⟨_, (pss_cons (ps_fld (pv 0) pe_dnewK rfl)
    (pss_cons (ps_fld (pv 0) pe_dnewK rfl)
    (pss_one (ps_fld (pv 0) pe_dnewK rfl)))), ?_⟩
  intro pP nP
  have aP : a ≠ pP := ne_of_none ha nP
  refine ⟨_, rfl, a, C, dx, _, rfl, (by rw [upd_ne aP]; exact ha), fc.cls, fc.pl, (by show 0 < 1000; decide), ?_⟩
  rw [putF_p1]
  generalize e1 : upd (upd H pP (.dK [])) a (.ins C dx [("pin_places", .ref pP)]) = H1
  have o1 : H1 a = some (.ins C dx [("pin_places", .ref pP)]) := by rw [← e1, upd_same]
  have p1 : H1 pP = some (.dK []) := by rw [← e1, upd_ne (Ne.symm aP), upd_same]
  have k1 : ∀ b o, b ≠ a → H b = some o → H1 b = some o := fun b o n e => by rw [← e1, upd_ne n, upd_ne (ne_of_none e nP)]; exact e
  intro pW nW
  have aW : a ≠ pW := ne_of_none o1 nW
  refine ⟨_, rfl, a, C, dx, _, rfl, (by rw [upd_ne aW]; exact o1), fc.cls, fc.wy, (by show 1 < 1000; decide), ?_⟩
  rw [putF_w1]
  generalize e2 : upd (upd H1 pW (.dK [])) a (.ins C dx [("pin_places", .ref pP), ("pin_ways", .ref pW)]) = H2
  have PW : pP ≠ pW := ne_of_none p1 nW
  have o2 : H2 a = some (.ins C dx [("pin_places", .ref pP), ("pin_ways", .ref pW)]) := by rw [← e2, upd_same]
  have w2 : H2 pW = some (.dK []) := by rw [← e2, upd_ne (Ne.symm aW), upd_same]
  have k2 : ∀ b o, b ≠ a → H1 b = some o → H2 b = some o := fun b o n e => by rw [← e2, upd_ne n, upd_ne (ne_of_none e nW)]; exact e
  intro pB nB
  have aB : a ≠ pB := ne_of_none o2 nB
  have p2 := k2 _ _ (Ne.symm aP) p1
  refine ⟨_, rfl, a, C, dx, _, rfl, (by rw [upd_ne aB]; exact o2), fc.cls, fc.br, (by show 2 < 1000; decide), ?_⟩
  rw [putF_e1]
  have PB : pP ≠ pB := ne_of_none p2 nB
  have WB : pW ≠ pB := ne_of_none w2 nB
  have k3 : ∀ b o, b ≠ a → H2 b = some o → (upd (upd H2 pB (.dK [])) a (.ins C dx [("pin_places", .ref pP), ("pin_ways", .ref pW), ("bar_ends", .ref pB)])) b = some o := fun b o n e => by rw [upd_ne n, upd_ne (ne_of_none e nB)]; exact e
  have f1 : ∀ b, b ≠ a → H1 b = none → H b = none := fun b n e => by
    cases z : H b with
    | none => rfl
    | some o => rw [k1 b o n z] at e; cases e
  have f2 : ∀ b, b ≠ a → H2 b = none → H b = none := fun b n e => by
    cases z : H b with
    | none => rfl
    | some o => rw [k2 b o n (k1 b o n z)] at e; cases e
  refine q pP pW pB _ (fun b o n e => k3 b o n (k2 b o n (k1 b o n e))) nP (f1 _ (Ne.symm aW) nW) (f2 _ (Ne.symm aB) nB) ⟨upd_same, k3 _ _ (Ne.symm aP) p2, k3 _ _ (Ne.symm aW) w2, ?_, PW, PB, WB, .nil, .nil⟩
  rw [upd_ne (Ne.symm aB), upd_same]
def spBars (K : PySem.W.Frag) (C : Addr) : Sp := fun vs H Q _ => ∃ (a dx pP pW pB : Addr) (ps : List (Str × Pt)) (bs : List (Str × Str × Str)) (kP kW kB : List (Key × V)), vs = [.ref a] ∧ FrR K H C a dx pP pW pB ps bs kP kW kB ∧
  ∀ (l : Addr) (H' : Hp), Same H H' → H l = none → H' l = some (.lst ((bs.map (·.1)).map V.str)) → Q (.ref l) H'
theorem sc_Frame_bars : FnScope ["self"] ["self"] (defScope s_Frame_bars) := ⟨rfl, rfl, rfl, by decide +kernel, rfl, by decide +kernel, by decide +kernel⟩
theorem ok_Frame_bars {f : Addr} {fd : FuncData} {C : Addr} (F : Fun K "bars" "Frame.bars" s_Frame_bars f fd) (fc : FrC K C) (m_list : mg "list" = none) : FnOk P w K mg base (CXr P w) 1 f fd ["self"] (spBars K C) := by
  refine fun_okF F sc_Frame_bars (fun vs H Q E h => ?_) (fun cdv A outer s H vs Q E hr h => ?_)
  · obtain ⟨a, dx, pP, pW, pB, ps, bs, kP, kW, kB, rfl, _⟩ := h
    rfl
  obtain ⟨a, dx, pP, pW, pB, ps, bs, kP, kW, kB, rfl, R, q⟩ := h
  refine ⟨_, (pss_one (ps_ret (pe_callTy (call_listD rfl) rfl m_list b_list (pac (pe_fld (pv 0) rfl) pa_nil)))), ?_⟩
  refine ⟨_, rfl, a, C, dx, _, _, rfl, R.obj, fc.cls, fc.br, rfl, pB, kB, rfl, .inl R.br, fun l nl => ?_⟩
  refine q l _ (same_new nl _) nl ?_
  rw [upd_same]
  have e : kB.map (fun kv => kV kv.1) = (bs.map (·.1)).map V.str := by
    have z : kB.map (fun kv => kV kv.1) = (kB.map (·.1)).map kV := by rw [List.map_map]; rfl
    rw [z, R.keysB, List.map_map]
    rfl
  rw [e]
def spPins (K : PySem.W.Frag) (C : Addr) : Sp := fun vs H Q _ => ∃ (a dx pP pW pB : Addr) (ps : List (Str × Pt)) (bs : List (Str × Str × Str)) (kP kW kB : List (Key × V)), vs = [.ref a] ∧ FrR K H C a dx pP pW pB ps bs kP kW kB ∧
  ∀ (l : Addr) (H' : Hp), Same H H' → H l = none → H' l = some (.lst ((ps.map (·.1)).map V.str)) → Q (.ref l) H'
def spCheckPin (K : PySem.W.Frag) (C : Addr) : Sp := fun vs H Q _ => ∃ (a dx pP pW pB : Addr) (ps : List (Str × Pt)) (bs : List (Str × Str × Str)) (kP kW kB : List (Key × V)) (x : Str), vs = [.ref a, .str x] ∧ FrR K H C a dx pP pW pB ps bs kP kW kB ∧ x ∈ ps.map (·.1) ∧ Q .non H
theorem sc_Frame_check_pin : FnScope ["self", "pin"] ["self", "pin"] (defScope s_Frame_check_pin) := ⟨rfl, rfl, rfl, by decide +kernel, rfl, by decide +kernel, by decide +kernel⟩
theorem ok_Frame_check_pin {f : Addr} {fd : FuncData} {C : Addr} (F : Fun K "check_pin" "Frame.check_pin" s_Frame_check_pin f fd) (fc : FrC K C) : FnOk P w K mg base (CXr P w) 1 f fd ["self", "pin"] (spCheckPin K C) := by
  refine fun_okF F sc_Frame_check_pin (fun vs H Q E h => ?_) (fun cdv A outer s H vs Q E hr h => ?_)
  · obtain ⟨a, dx, pP, pW, pB, ps, bs, kP, kW, kB, x, rfl, _⟩ := h
    rfl
  obtain ⟨a, dx, pP, pW, pB, ps, bs, kP, kW, kB, x, rfl, R, hx, q⟩ := h
  refine ⟨_, (pss_one (ps_if (pt_cmp (pc_dnotin (hu_of hr) (pv 1) (pe_fld (pv 0) rfl))) (pss_one (ps_never)) pss_nil)), ?_⟩
  refine ⟨_, rfl, _, rfl, a, C, dx, _, _, rfl, R.obj, fc.cls, fc.pl, rfl, pP, _, rfl, DGet.k (k := .inr x) R.pl, _, rfl, ?_⟩
  rw [R.pin x, decide_eq_true hx]
  exact q
def spCheckBar (K : PySem.W.Frag) (C : Addr) : Sp := fun vs H Q _ => ∃ (a dx pP pW pB : Addr) (ps : List (Str × Pt)) (bs : List (Str × Str × Str)) (kP kW kB : List (Key × V)) (x one other : Str), vs = [.ref a, .str x, .str one, .str other] ∧ FrR K H C a dx pP pW pB ps bs kP kW kB ∧
  x ∉ bs.map (·.1) ∧ one ∈ ps.map (·.1) ∧ other ∈ ps.map (·.1) ∧ one ≠ other ∧ bs.length < 60 ∧ Q .non H
theorem sc_Frame_check_bar : FnScope ["self", "name", "one", "other"] ["self", "name", "one", "other"] (defScope s_Frame_check_bar) := ⟨rfl, rfl, rfl, by decide +kernel, rfl, by decide +kernel, by decide +kernel⟩
theorem ok_Frame_check_bar {f : Addr} {fd : FuncData} {C : Addr} (F : Fun K "check_bar" "Frame.check_bar" s_Frame_check_bar f fd) (fc : FrC K C) {tkB : Tok} (m_MOST_BARS : mg "MOST_BARS" = some (.int 60 tkB)) (m_len : mg "len" = none)
    (MC : MtdOk P w K mg base (CXr P w) 1 C "check_pin" ["self", "pin"] (spCheckPin K C)) : FnOk P w K mg base (CXr P w) 2 f fd ["self", "name", "one", "other"] (spCheckBar K C) := by
  refine fun_okF F sc_Frame_check_bar (fun vs H Q E h => ?_) (fun cdv A outer s H vs Q E hr h => ?_)
  · obtain ⟨a, dx, pP, pW, pB, ps, bs, kP, kW, kB, x, one, other, rfl, _⟩ := h
    rfl
  obtain ⟨a, dx, pP, pW, pB, ps, bs, kP, kW, kB, x, one, other, rfl, R, hx, h1, h2, ne, hl, q⟩ := h
  have px := passM (X := (cxr P w K mg base ["self", "name", "one", "other"] "Frame.check_bar" (defScope s_Frame_check_bar) f cdv A outer s H E)) (CXr.mute (P := P) (w := w))
  refine ⟨_, (pss_cons (ps_if (pt_cmp (pc_din (hu_of hr) (pv 1) (pe_fld (pv 0) rfl))) (pss_one (ps_never)) pss_nil)
    (pss_cons (ps_expr (pe_mtd (k := 1) (pv 0) (hr.mono (by decide)) px (pac (pv 2) pa_nil)))
    (pss_cons (ps_expr (pe_mtd (k := 1) (pv 0) (hr.mono (by decide)) px (pac (pv 3) pa_nil)))
    (pss_cons (ps_if (pt_cmpR op_eq (pv 2) (pv 3) (nomark _)) (pss_one (ps_never)) pss_nil)
    (pss_one (ps_if (pt_cmpR op_ge (pe_callB call_lenD rfl m_len b_len (pac (pe_fld (pv 0) rfl) pa_nil)) (pe_glob (v := .int 60) rfl m_MOST_BARS ⟨_, rfl⟩) (nomark _)) (pss_one (ps_never)) pss_nil)))))), ?_⟩
  refine ⟨_, rfl, _, rfl, a, C, dx, _, _, rfl, R.obj, fc.cls, fc.br, rfl, pB, _, rfl, DGet.k (k := .inr x) R.br, _, rfl, ?_⟩
  rw [R.bar x, decide_eq_false hx]
  refine ⟨_, rfl, a, C, dx, _, _, _, rfl, R.obj, rfl, MC, _, rfl, a, dx, pP, pW, pB, ps, bs, kP, kW, kB, one, rfl, R, h1, ?_⟩
  refine ⟨_, rfl, a, C, dx, _, _, _, rfl, R.obj, rfl, MC, _, rfl, a, dx, pP, pW, pB, ps, bs, kP, kW, kB, other, rfl, R, h2, ?_⟩
  refine ⟨_, rfl, _, rfl, rfl, _, rfl, ?_⟩
  refine ite2 (fun c => absurd (by simpa [eqV] using c) ne) (fun _ => ?_)
  have lk : kB.length = bs.length := (Paired.length R.rb).symm
  refine ⟨_, rfl, a, C, dx, _, _, rfl, R.obj, fc.cls, fc.br, rfl, pB, kB, rfl, .inl R.br, _, _, rfl, rfl, _, rfl, ?_⟩
  refine ite2 (fun c => ?_) (fun _ => q)
  have c' : (60 : Int) ≤ (kB.length : Int) := of_decide_eq_true c
  omega
def spPutBar (K : PySem.W.Frag) (C : Addr) : Sp := fun vs H Q _ => ∃ (a dx pP pW pB : Addr) (ps : List (Str × Pt)) (bs : List (Str × Str × Str)) (kP kW kB : List (Key × V)) (x one other : Str), vs = [.ref a, .str x, .str one, .str other] ∧ FrR K H C a dx pP pW pB ps bs kP kW kB ∧
  x ∉ bs.map (·.1) ∧ one ∈ ps.map (·.1) ∧ other ∈ ps.map (·.1) ∧ one ≠ other ∧ bs.length < 60 ∧ ∀ (H' : Hp) (kB' : List (Key × V)), KSame pB H H' → FrR K H' C a dx pP pW pB ps (bs ++ [(x, one, other)]) kP kW kB' → Q .non H'
theorem sc_Frame_put_bar : FnScope ["self", "name", "one", "other"] ["self", "name", "one", "other"] (defScope s_Frame_put_bar) := ⟨rfl, rfl, rfl, by decide +kernel, rfl, by decide +kernel, by decide +kernel⟩
theorem ok_Frame_put_bar {f : Addr} {fd : FuncData} {C : Addr} (F : Fun K "put_bar" "Frame.put_bar" s_Frame_put_bar f fd) (fc : FrC K C)
    (MC : MtdOk P w K mg base (CXr P w) 2 C "check_bar" ["self", "name", "one", "other"] (spCheckBar K C)) : FnOk P w K mg base (CXr P w) 3 f fd ["self", "name", "one", "other"] (spPutBar K C) := by
  refine fun_okF F sc_Frame_put_bar (fun vs H Q E h => ?_) (fun cdv A outer s H vs Q E hr h => ?_)
  · obtain ⟨a, dx, pP, pW, pB, ps, bs, kP, kW, kB, x, one, other, rfl, _⟩ := h
    rfl
  obtain ⟨a, dx, pP, pW, pB, ps, bs, kP, kW, kB, x, one, other, rfl, R, hx, h1, h2, ne, hl, q⟩ := h
  have px := passM (X := (cxr P w K mg base ["self", "name", "one", "other"] "Frame.put_bar" (defScope s_Frame_put_bar) f cdv A outer s H E)) (CXr.mute (P := P) (w := w))
  refine ⟨_, (pss_cons (ps_expr (pe_mtd (k := 2) (pv 0) (hr.mono (by decide)) px (pac (pv 1) (pac (pv 2) (pac (pv 3) pa_nil)))))
    (pss_one (ps_dput (hu_of hr) (pe_fld (pv 0) rfl) (pv 1) (pe_tup (pac (pv 2) (pac (pv 3) pa_nil))) rfl))), ?_⟩
  refine ⟨_, rfl, a, C, dx, _, _, _, rfl, R.obj, rfl, MC, _, rfl, _, rfl, _, rfl, a, dx, pP, pW, pB, ps, bs, kP, kW, kB, x, one, other, rfl, R, hx, h1, h2, ne, hl, ?_⟩
  refine ⟨_, rfl, _, rfl, (by show 2 ≤ sizeLine; decide), fun t nt => ?_⟩
  have s := same_new nt (.tup [.str one, .str other])
  have R' := R.same s
  have lk : kB.length = bs.length := (Paired.length R.rb).symm
  refine ⟨_, rfl, a, C, dx, _, _, rfl, R'.obj, fc.cls, fc.br, rfl, _, rfl, pB, _, rfl, DPut.k (k := .inr x) R'.br (Nat.lt_of_le_of_lt (show kB.length ≤ 1000 by omega) (by decide)), ?_⟩
  have e : putK kB (.inr x) (.ref t) = kB ++ [(.inr x, .ref t)] := putK_new _ (valV_none (by rw [R.keysB]; exact fun z => hx (key_mem.mp z)))
  rw [e]
  refine q _ _ (fun b o n z => ?_) (R'.putBar (.inl upd_same))
  rw [upd_ne n]
  exact s _ _ z
def spPlace (K : PySem.W.Frag) (C : Addr) : Sp := fun vs H Q _ => ∃ (a dx pP pW pB : Addr) (ps : List (Str × Pt)) (bs : List (Str × Str × Str)) (kP kW kB : List (Key × V)) (x : Str) (p : Pt), vs = [.ref a, .str x] ∧ FrR K H C a dx pP pW pB ps bs kP kW kB ∧ (ps.map (·.1)).Nodup ∧ (x, p) ∈ ps ∧ ∀ v, Spot K H v p → Q v H
theorem sc_Frame_place : FnScope ["self", "pin"] ["self", "pin"] (defScope s_Frame_place) := ⟨rfl, rfl, rfl, by decide +kernel, rfl, by decide +kernel, by decide +kernel⟩
theorem ok_Frame_place {f : Addr} {fd : FuncData} {C : Addr} (F : Fun K "place" "Frame.place" s_Frame_place f fd) (fc : FrC K C) (MC : MtdOk P w K mg base (CXr P w) 1 C "check_pin" ["self", "pin"] (spCheckPin K C)) : FnOk P w K mg base (CXr P w) 2 f fd ["self", "pin"] (spPlace K C) := by
  refine fun_okF F sc_Frame_place (fun vs H Q E h => ?_) (fun cdv A outer s H vs Q E hr h => ?_)
  · obtain ⟨a, dx, pP, pW, pB, ps, bs, kP, kW, kB, x, p, rfl, _⟩ := h
    rfl
  obtain ⟨a, dx, pP, pW, pB, ps, bs, kP, kW, kB, x, p, rfl, R, nd, hx, q⟩ := h
  have px := passM (X := (cxr P w K mg base ["self", "pin"] "Frame.place" (defScope s_Frame_place) f cdv A outer s H E)) (CXr.mute (P := P) (w := w))
  refine ⟨_, (pss_cons (ps_expr (pe_mtd (k := 1) (pv 0) (hr.mono (by decide)) px (pac (pv 1) pa_nil)))
    (pss_one (ps_ret (pe_dget (hu_of hr) (pe_fld (pv 0) rfl) (pv 1) (fun _ _ => rfl))))), ?_⟩
  refine ⟨_, rfl, a, C, dx, _, _, _, rfl, R.obj, rfl, MC, _, rfl, a, dx, pP, pW, pB, ps, bs, kP, kW, kB, x, rfl, R, List.mem_map.mpr ⟨_, hx, rfl⟩, ?_⟩
  obtain ⟨v, ev, hv⟩ := R.place nd hx
  exact ⟨_, rfl, a, C, dx, _, _, rfl, R.obj, fc.cls, fc.pl, rfl, _, rfl, pP, v, rfl, (by rw [← ev]; exact DGet.k (k := .inr x) R.pl), q v hv⟩
def spEnds (K : PySem.W.Frag) (C : Addr) : Sp := fun vs H Q _ => ∃ (a dx pP pW pB : Addr) (ps : List (Str × Pt)) (bs : List (Str × Str × Str)) (kP kW kB : List (Key × V)) (x one other : Str), vs = [.ref a, .str x] ∧ FrR K H C a dx pP pW pB ps bs kP kW kB ∧ (bs.map (·.1)).Nodup ∧ (x, one, other) ∈ bs ∧ ∀ p, Rd H p (.tup [.str one, .str other]) → Q (.ref p) H
theorem sc_Frame_ends : FnScope ["self", "bar"] ["self", "bar"] (defScope s_Frame_ends) := ⟨rfl, rfl, rfl, by decide +kernel, rfl, by decide +kernel, by decide +kernel⟩
theorem ok_Frame_ends {f : Addr} {fd : FuncData} {C : Addr} (F : Fun K "ends" "Frame.ends" s_Frame_ends f fd) (fc : FrC K C) : FnOk P w K mg base (CXr P w) 1 f fd ["self", "bar"] (spEnds K C) := by
  refine fun_okF F sc_Frame_ends (fun vs H Q E h => ?_) (fun cdv A outer s H vs Q E hr h => ?_)
  · obtain ⟨a, dx, pP, pW, pB, ps, bs, kP, kW, kB, x, one, other, rfl, _⟩ := h
    rfl
  obtain ⟨a, dx, pP, pW, pB, ps, bs, kP, kW, kB, x, one, other, rfl, R, nd, hx, q⟩ := h
  refine ⟨_, (pss_cons (ps_if (pt_cmp (pc_dnotin (hu_of hr) (pv 1) (pe_fld (pv 0) rfl))) (pss_one (ps_never)) pss_nil)
    (pss_one (ps_ret (pe_dget (hu_of hr) (pe_fld (pv 0) rfl) (pv 1) (fun _ _ => rfl))))), ?_⟩
  have hm : x ∈ bs.map (·.1) := List.mem_map.mpr ⟨_, hx, rfl⟩
  refine ⟨_, rfl, _, rfl, a, C, dx, _, _, rfl, R.obj, fc.cls, fc.br, rfl, pB, _, rfl, DGet.k (k := .inr x) R.br, _, rfl, ?_⟩
  rw [R.bar x, decide_eq_true hm]
  obtain ⟨p, ev, hv⟩ := R.ends nd hx
  exact ⟨_, rfl, a, C, dx, _, _, rfl, R.obj, fc.cls, fc.br, rfl, _, rfl, pB, .ref p, rfl, (by rw [← ev]; exact DGet.k (k := .inr x) R.br), q p hv⟩
def spWays (K : PySem.W.Frag) (C : Addr) : Sp := fun vs H Q _ => ∃ (a dx pP pW pB : Addr) (ps : List (Str × Pt)) (bs : List (Str × Str × Str)) (kP kW kB : List (Key × V)) (pw : List (Str × List (Rat × Rat))) (x : Str) (ws : List (Rat × Rat)), vs = [.ref a, .str x] ∧ FrR K H C a dx pP pW pB ps bs kP kW kB ∧ WyR K H pw kW ∧ (pw.map (·.1)).Nodup ∧ (x, ws) ∈ pw ∧ x ∈ ps.map (·.1) ∧
  ∀ (l : Addr) (us : List V) (H' : Hp), Same H H' → H l = none → H' l = some (.lst us) → PtsR K H' us ws → Q (.ref l) H'
def AnsR (K : PySem.W.Frag) (H : Hp) (Q : VK) (ws : List (Rat × Rat)) : Prop := ∀ (l : Addr) (us : List V) (H' : Hp), Same H H' → H l = none → H' l = some (.lst us) → PtsR K H' us ws → Q (.ref l) H'
def spHold (K : PySem.W.Frag) : Sp := fun vs H Q _ => ∃ a : Addr, vs = [.ref a] ∧ AnsR K H Q []
theorem qr_zero {x : Rat} (h : (qr x).1 = 0) : x = 0 := by
  have := vl_qr x
  unfold vl at this
  rw [h] at this
  have z := ratz (r := x)
  have e : ((0 : Int) : Rat) = 0 := by rfl
  rw [e] at this
  grind
def spRInit (K : PySem.W.Frag) (C : Addr) : Sp := fun vs H Q _ => ∃ (a dx : Addr) (ux uy : V) (x y : Rat), vs = [.ref a, ux, uy] ∧ H a = some (.ins C dx []) ∧ NmR K H ux x ∧ NmR K H uy y ∧ ¬ (x = 0 ∧ y = 0) ∧ ∀ p, H p = none → Q .non (upd (upd H p (.tup [ux, uy])) a (.ins C dx [("way", .ref p)]))
theorem sc_Roller_init : FnScope ["self", "x", "y"] ["self", "x", "y"] (defScope s_Roller_init) := ⟨rfl, rfl, rfl, by decide +kernel, rfl, by decide +kernel, by decide +kernel⟩
theorem ok_Roller_init {f : Addr} {fd : FuncData} {C : Addr} (F : Fun K "__init__" "Roller.__init__" s_Roller_init f fd) (cl : Cls K C) (nw : NoAttr K C "way") : FnOk P w K mg base (CXr P w) 1 f fd ["self", "x", "y"] (spRInit K C) := by
  refine fun_okF F sc_Roller_init (fun vs H Q E h => ?_) (fun cdv A outer s H vs Q E hr h => ?_)
  · obtain ⟨a, dx, ux, uy, x, y, rfl, _⟩ := h
    rfl
  obtain ⟨a, dx, ux, uy, x, y, rfl, ha, ⟨p1, rfl, h1⟩, ⟨p2, rfl, h2⟩, nz, q⟩ := h
  have sz : (2 : Nat) ≤ sizeLine := by decide
  refine ⟨_, (pss_cons (ps_if (PW.pt (pw_and (pt_cmpR op_eq (pe_ix ix_tup (pv 1) pe_int (fun _ _ => rfl)) pe_int (nomark _)) (pw_and1 (pt_cmpR op_eq (pe_ix ix_tup (pv 2) pe_int (fun _ _ => rfl)) pe_int (nomark _))))) (pss_one (ps_never)) pss_nil)
    (pss_one (ps_fld (pv 0) (pe_tup (pac (pv 1) (pac (pv 2) pa_nil))) rfl))), ?_⟩
  refine ⟨_, rfl, p1, _, _, _, rfl, rfl, h1, at0, rfl, _, rfl, ?_⟩
  refine ite2 (fun c1 => ?_) (fun c1 => ?_)
  · have e1 : (qr x).1 = 0 := by simpa using of_decide_eq_true c1
    refine ⟨_, rfl, p2, _, _, _, rfl, rfl, h2, at0, rfl, _, rfl, ?_⟩
    refine ite2 (fun c2 => ?_) (fun c2 => ?_)
    · have e2 : (qr y).1 = 0 := by simpa using of_decide_eq_true c2
      exact absurd ⟨qr_zero e1, qr_zero e2⟩ nz
    · exact ⟨_, rfl, _, rfl, sz, fun p hp => ⟨_, rfl, a, C, dx, [], rfl, (by rw [upd_ne (ne_of_none ha hp)]; exact ha), cl, nw, (by show 0 < 1000; decide), q p hp⟩⟩
  · refine iteF ?_
    exact ⟨_, rfl, _, rfl, sz, fun p hp => ⟨_, rfl, a, C, dx, [], rfl, (by rw [upd_ne (ne_of_none ha hp)]; exact ha), cl, nw, (by show 0 < 1000; decide), q p hp⟩⟩
def spRWays (K : PySem.W.Frag) (C : Addr) : Sp := fun vs H Q _ => ∃ (a dx p : Addr) (w : Rat × Rat), vs = [.ref a] ∧ H a = some (.ins C dx [("way", .ref p)]) ∧ PtR K H (.ref p) w ∧ AnsR K H Q [w]
theorem sc_Roller_ways : FnScope ["self"] ["self"] (defScope s_Roller_ways) := ⟨rfl, rfl, rfl, by decide +kernel, rfl, by decide +kernel, by decide +kernel⟩
theorem ok_Roller_ways {f : Addr} {fd : FuncData} {C : Addr} (F : Fun K "ways" "Roller.ways" s_Roller_ways f fd) (cl : Cls K C) (nw : NoAttr K C "way") : FnOk P w K mg base (CXr P w) 1 f fd ["self"] (spRWays K C) := by
  refine fun_okF F sc_Roller_ways (fun vs H Q E h => ?_) (fun cdv A outer s H vs Q E hr h => ?_)
  · obtain ⟨a, dx, p, w, rfl, _⟩ := h
    rfl
  obtain ⟨a, dx, p, w, rfl, ha, hw, q⟩ := h
  refine ⟨_, (pss_one (ps_ret (pe_lst (pac (pe_fld (pv 0) rfl) pa_nil)))), ?_⟩
  refine ⟨_, rfl, a, C, dx, _, .ref p, rfl, ha, cl, nw, (by simp), (by show 1 ≤ sizeLine; decide), fun l hl => ?_⟩
  exact q l [.ref p] _ (same_new hl _) hl upd_same (.cons (hw.same (same_new hl _)) .nil)
def spFixed (K : PySem.W.Frag) : Sp := fun vs H Q _ => ∃ a : Addr, vs = [.ref a] ∧ AnsR K H Q [(1, 0), (0, 1)]
theorem qr_one : qr 1 = (1, 1) := by
  have := qr_int 1
  simpa using this
theorem qr_nought : qr 0 = (0, 1) := by
  have := qr_int 0
  simpa using this
theorem pt_mk {H : Hp} {p p1 p2 : Addr} {a b : Rat} {x y : Int × Int} (ea : qr a = x) (eb : qr b = y) (h : H p = some (.tup [.ref p1, .ref p2])) (h1 : H p1 = some (.tup [.int x.1, .int x.2])) (h2 : H p2 = some (.tup [.int y.1, .int y.2])) : PtR K H (.ref p) (a, b) :=
  ⟨p, .ref p1, .ref p2, rfl, SqT.of h, ⟨p1, rfl, by rw [ea]; exact SqT.of h1⟩, ⟨p2, rfl, by rw [eb]; exact SqT.of h2⟩⟩
theorem sc_Fixed_ways : FnScope ["self"] ["self"] (defScope s_Fixed_ways) := ⟨rfl, rfl, rfl, by decide +kernel, rfl, by decide +kernel, by decide +kernel⟩
theorem ok_Fixed_ways {f : Addr} {fd : FuncData} (F : Fun K "ways" "Fixed.ways" s_Fixed_ways f fd) : FnOk P w K mg base (CXr P w) 1 f fd ["self"] (spFixed K) := by
  refine fun_okF F sc_Fixed_ways (fun vs H Q E h => ?_) (fun cdv A outer s H vs Q E hr h => ?_)
  · obtain ⟨a, rfl, _⟩ := h
    rfl
  obtain ⟨a, rfl, q⟩ := h
  have sz : (2 : Nat) ≤ sizeLine := by decide
  refine ⟨_, (pss_one (ps_ret (pe_lst (pac (pe_tup (pac (pe_tup (pac pe_int (pac pe_int pa_nil))) (pac (pe_tup (pac pe_int (pac pe_int pa_nil))) pa_nil))) (pac (pe_tup (pac (pe_tup (pac pe_int (pac pe_int pa_nil))) (pac (pe_tup (pac pe_int (pac pe_int pa_nil))) pa_nil))) pa_nil))))), ?_⟩
  refine ⟨sz, fun p1 n1 => ?_⟩
  have s1 := same_new n1 (.tup [.int 1, .int 1])
  have e1 : upd H p1 (.tup [.int 1, .int 1]) p1 = some (.tup [.int 1, .int 1]) := upd_same
  generalize upd H p1 (.tup [.int 1, .int 1]) = H1 at s1 e1 ⊢
  refine ⟨sz, fun p2 n2 => ?_⟩
  have s2 := same_new n2 (.tup [.int 0, .int 1])
  have e2 : upd H1 p2 (.tup [.int 0, .int 1]) p2 = some (.tup [.int 0, .int 1]) := upd_same
  generalize upd H1 p2 (.tup [.int 0, .int 1]) = H2 at s2 e2 ⊢
  refine ⟨sz, fun p3 n3 => ?_⟩
  have s3 := same_new n3 (.tup [.ref p1, .ref p2])
  have e3 : upd H2 p3 (.tup [.ref p1, .ref p2]) p3 = some (.tup [.ref p1, .ref p2]) := upd_same
  generalize upd H2 p3 (.tup [.ref p1, .ref p2]) = H3 at s3 e3 ⊢
  refine ⟨sz, fun p4 n4 => ?_⟩
  have s4 := same_new n4 (.tup [.int 0, .int 1])
  have e4 : upd H3 p4 (.tup [.int 0, .int 1]) p4 = some (.tup [.int 0, .int 1]) := upd_same
  generalize upd H3 p4 (.tup [.int 0, .int 1]) = H4 at s4 e4 ⊢
  refine ⟨sz, fun p5 n5 => ?_⟩
  have s5 := same_new n5 (.tup [.int 1, .int 1])
  have e5 : upd H4 p5 (.tup [.int 1, .int 1]) p5 = some (.tup [.int 1, .int 1]) := upd_same
  generalize upd H4 p5 (.tup [.int 1, .int 1]) = H5 at s5 e5 ⊢
  refine ⟨sz, fun p6 n6 => ?_⟩
  have s6 := same_new n6 (.tup [.ref p4, .ref p5])
  have e6 : upd H5 p6 (.tup [.ref p4, .ref p5]) p6 = some (.tup [.ref p4, .ref p5]) := upd_same
  generalize upd H5 p6 (.tup [.ref p4, .ref p5]) = H6 at s6 e6 ⊢
  refine ⟨sz, fun l nl => ?_⟩
  have s7 := same_new nl (.lst [.ref p3, .ref p6])
  have e7 : upd H6 l (.lst [.ref p3, .ref p6]) l = some (.lst [.ref p3, .ref p6]) := upd_same
  generalize upd H6 l (.lst [.ref p3, .ref p6]) = H7 at s7 e7 ⊢
  have s16 := s1.trans (s2.trans (s3.trans (s4.trans (s5.trans s6))))
  have w1 : PtR K H7 (.ref p3) (1, 0) := pt_mk qr_one qr_nought (s7 _ _ (s6 _ _ (s5 _ _ (s4 _ _ e3)))) (s7 _ _ (s6 _ _ (s5 _ _ (s4 _ _ (s3 _ _ (s2 _ _ e1)))))) (s7 _ _ (s6 _ _ (s5 _ _ (s4 _ _ (s3 _ _ e2)))))
  have w2 : PtR K H7 (.ref p6) (0, 1) := pt_mk qr_nought qr_one (s7 _ _ e6) (s7 _ _ (s6 _ _ (s5 _ _ e4))) (s7 _ _ (s6 _ _ e5))
  exact q l [.ref p3, .ref p6] H7 (s16.trans s7) (s16.free nl) e7 (.cons w1 (.cons w2 .nil))
def HoldY (P : Program) (w : World) (K : PySem.W.Frag) (mg : Str → Option Value) (base : Heap) (H : Hp) (hv : V) (ws : List (Rat × Rat)) : Prop := (hv = .non ∧ ws = []) ∨ ∃ (h Ch dxh : Addr) (fsh : List (Str × V)) (psh : List Str) (sph : Sp), hv = .ref h ∧ H h = some (.ins Ch dxh fsh) ∧ fsh.lookup ("ways" : Str) = none ∧ MtdOk P w K mg base (CXr P w) 2 Ch "ways" psh sph ∧ (∀ H1, H1 h = some (.ins Ch dxh fsh) → SameT H H1 → ∀ Q', AnsR K H1 Q' ws → sph [.ref h] H1 Q' E0)
def spPutPinW (P : Program) (w : World) (K : PySem.W.Frag) (mg : Str → Option Value) (base : Heap) (C : Addr) : Sp := fun vs H Q _ => ∃ (a dx pP pW pB : Addr) (ps : List (Str × Pt)) (bs : List (Str × Str × Str)) (kP kW kB : List (Key × V)) (pw : List (Str × List (Rat × Rat))) (x : Str) (u v hv : V) (p : Pt) (ws : List (Rat × Rat)), vs = [.ref a, .str x, u, v, hv] ∧ FrR K H C a dx pP pW pB ps bs kP kW kB ∧ WyR K H pw kW ∧ pw.map (·.1) = ps.map (·.1) ∧
  NmK K H u p.1 ∧ NmK K H v p.2 ∧ x ∉ ps.map (·.1) ∧ (∀ z ∈ ps, z.2 ≠ p) ∧ ps.length < 24 ∧
  HoldY P w K mg base H hv ws ∧
  ∀ (H' : Hp) (kP' kW' : List (Key × V)), (∀ b o, b ≠ pP → b ≠ pW → H b = some o → H' b = some o) → FrR K H' C a dx pP pW pB (ps ++ [(x, p)]) bs kP' kW' kB → WyR K H' (pw ++ [(x, ws)]) kW' → Q .non H'
theorem sc_Frame_put_pin : FnScope ["self", "name", "x", "y", "hold", "pin", "spot"] ["self", "name", "x", "y", "hold"] (defScope s_Frame_put_pin) := ⟨rfl, rfl, rfl, by decide +kernel, rfl, by decide +kernel, by decide +kernel⟩
theorem ok_Frame_put_pin {f : Addr} {fd : FuncData} {C : Addr} (F : FunD K "put_pin" "Frame.put_pin" s_Frame_put_pin f fd) (fc : FrC K C) {tkP : Tok} (m_MOST_PINS : mg "MOST_PINS" = some (.int 24 tkP)) (m_len : mg "len" = none) (m_list : mg "list" = none) : FnOk P w K mg base (CXr P w) 3 f fd ["self", "name", "x", "y", "hold"] (spPutPinW P w K mg base C) := by
  refine fun_okFD F sc_Frame_put_pin (fun vs H Q E h => ?_) (fun cdv A outer s H vs Q E hr h => ?_)
  · obtain ⟨a, dx, pP, pW, pB, ps, bs, kP, kW, kB, pw, x, u, v, hv, p, ws, rfl, _⟩ := h
    rfl
  obtain ⟨a, dx, pP, pW, pB, ps, bs, kP, kW, kB, pw, x, u, v, hvv, p, ws, rfl, R, W, ew, hu, hv, hx, hs, hl, hH, q⟩ := h
  have px := passM (X := (cxr P w K mg base ["self", "name", "x", "y", "hold", "pin", "spot"] "Frame.put_pin" (defScope s_Frame_put_pin) f cdv A outer s H E)) (CXr.mute (P := P) (w := w))
  refine ⟨_, (pss_cons (ps_if (pt_cmp (pc_din (hu_of hr) (pv 1) (pe_fld (pv 0) rfl))) (pss_one (ps_never)) pss_nil)
    (pss_cons (ps_thaw (ps_for PassesOwn.never rfl (pi_items (pe_fld (pv 0) rfl)) (pg_tup rfl (pgs_cons (pg_name (i := 5) sc_Frame_put_pin.nd rfl (Or.inl rfl)) (pgs_cons (pg_name (i := 6) sc_Frame_put_pin.nd rfl (Or.inl rfl)) pgs_nil))) (pss_one (ps_if (pt_cmpR (op_eqDa hr.units) (pv 6) (pe_tup (pac (pv 2) (pac (pv 3) pa_nil))) (nomark _)) (pss_one (ps_never)) pss_nil))))
    (pss_cons (ps_if (pt_cmpR op_ge (pe_callB call_lenD rfl m_len b_len (pac (pe_fld (pv 0) rfl) pa_nil)) (pe_glob (v := .int 24) rfl m_MOST_PINS ⟨_, rfl⟩) (nomark _)) (pss_one (ps_never)) pss_nil)
    (pss_cons (ps_dput (hu_of hr) (pe_fld (pv 0) rfl) (pv 1) (pe_tup (pac (pv 2) (pac (pv 3) pa_nil))) rfl)
    (pss_one (ps_dput (hu_of hr) (pe_fld (pv 0) rfl) (pv 1) (pe_ifExp (pt_cmpR op_isN (pv 4) pe_non (nomark _)) (pe_lst pa_nil) (pe_callTy call_listL rfl m_list b_list (pac (pe_mtd0 (k := 2) (pv 4) (hr.mono (by decide)) px) pa_nil))) rfl)))))), ?_⟩
  refine ⟨_, rfl, _, rfl, a, C, dx, _, _, rfl, R.obj, fc.cls, fc.pl, rfl, pP, _, rfl, DGet.k (k := .inr x) R.pl, _, rfl, ?_⟩
  rw [R.pin x, decide_eq_false hx]
  have lk : kP.length = ps.length := (Paired.length R.rp).symm
  refine ⟨_, rfl, a, C, dx, _, _, rfl, R.obj, fc.cls, fc.pl, rfl, pP, kP, rfl, R.pl, fun o => ?_⟩
  have k0 : KSame pP H (upd H pP (.frz o (.dK kP))) := fun b o' n e => by rw [upd_ne n]; exact e
  refine for_items (d := pP) (o := o) (kvs := kP) (fun t σ H' => ∃ (o2 o3 : Option V), σ = [some (.ref a), some (.str x), some u, some v, some hvv, o2, o3] ∧ KSame pP H H' ∧ H' pP = some (.frz o (.dK kP))) ⟨none, none, rfl, k0, upd_same⟩ (fun t σ H' _ h => by
      obtain ⟨_, _, _, _, h⟩ := h
      exact h) ?_ ?_
  · rintro t k y σ H6 p7 ekv ⟨o2, o3, rfl, k6, hd6⟩ n7
    obtain ⟨z, ez, hz1, hz2⟩ := paired_get (paired_flip R.rp) ekv
    have hz1' : k = .inr z.1 := hz1
    subst hz1'
    have s6 : SameT H H6 := fun b xs r => by
      rcases r with r | ⟨o', r⟩
      · exact .inl (k6 _ _ (fun e => by rw [e, R.pl] at r; cases r) r)
      · exact .inr ⟨o', k6 _ _ (fun e => by rw [e, R.pl] at r; cases r) r⟩
    have s7 := same_new n7 (.tup [kV (.inr z.1), y])
    have s67 : SameT H (upd H6 p7 (.tup [kV (.inr z.1), y])) := s6.trans (.of s7)
    refine ⟨p7, _, rfl, SqT.of upd_same, rfl, _, _, rfl, _, _, rfl, rfl, ?_⟩
    refine ⟨_, rfl, _, rfl, _, rfl, (by show 2 ≤ sizeLine; decide), fun t8 n8 => ?_⟩
    have s8 := same_new n8 (.tup [u, v])
    have s78 : SameT H (upd (upd H6 p7 (.tup [kV (.inr z.1), y])) t8 (.tup [u, v])) := s67.trans (.of s8)
    refine ⟨spotD z.2, spotD p, .inl ⟨(Spot.sameT hz2 s78).is, (Spot.is (p := p) ⟨t8, u, v, rfl, SqT.of upd_same, hu.sameT s78, hv.sameT s78⟩)⟩, alike_spots _ _, dep_spots _, ?_⟩
    rw [eq_spots]
    refine ⟨_, rfl, ?_⟩
    refine ite2 (fun c => absurd (of_decide_eq_true c) (hs z (List.mem_of_getElem? ez))) (fun _ => ?_)
    exact ⟨_, _, rfl, fun b o' n e => s8 _ _ (s7 _ _ (k6 b o' n e)), s8 _ _ (s7 _ _ hd6)⟩
  · rintro σ H1 ⟨o2, o3, rfl, k1, hd1⟩
    refine ⟨pP, o, kP, hd1, fun o' u' z => (by have z' : H pP = some (.frz o' u') := z; rw [R.pl] at z'; cases z'), ?_⟩
    have s2 : Same H (upd H1 pP (.dK kP)) := fun b o' e => by
      by_cases n : b = pP
      · subst n
        rw [R.pl] at e
        rw [upd_same]
        exact e
      · rw [upd_ne n]
        exact k1 b o' n e
    generalize upd H1 pP (.dK kP) = H2 at s2 ⊢
    have R2 := R.same s2
    refine ⟨_, rfl, a, C, dx, _, _, rfl, R2.obj, fc.cls, fc.pl, rfl, pP, kP, rfl, .inl R2.pl, _, _, rfl, rfl, _, rfl, ?_⟩
    refine ite2 (fun c => ?_) (fun _ => ?_)
    · have c' : (24 : Int) ≤ (kP.length : Int) := of_decide_eq_true c
      omega
    refine ⟨_, rfl, _, rfl, (by show 2 ≤ sizeLine; decide), fun t nt => ?_⟩
    have s3 := same_new nt (.tup [u, v])
    have R3 := R2.same s3
    have hu3 := (hu.same s2).same s3
    have hv3 := (hv.same s2).same s3
    refine ⟨_, rfl, a, C, dx, _, _, rfl, R3.obj, fc.cls, fc.pl, rfl, _, rfl, pP, _, rfl, DPut.k (k := .inr x) R3.pl (Nat.lt_of_le_of_lt (show kP.length ≤ 1000 by omega) (by decide)), ?_⟩
    have e : putK kP (.inr x) (.ref t) = kP ++ [(.inr x, .ref t)] := putK_new _ (valV_none (by rw [R.keysP]; exact fun z => hx (key_mem.mp z)))
    rw [e]
    have R4 := R3.putPin (x := x) (p := p) (t := t) ⟨t, u, v, rfl, SqT.of upd_same, hu3, hv3⟩
    have k4 : ∀ b o, b ≠ pP → H b = some o → (upd (upd H2 t (.tup [u, v])) pP (.dK (kP ++ [(.inr x, .ref t)]))) b = some o := fun b o n e => by rw [upd_ne n]; exact s3 _ _ (s2 _ _ e)
    generalize upd (upd H2 t (.tup [u, v])) pP (.dK (kP ++ [(.inr x, .ref t)])) = H4 at R4 k4 ⊢
    have lw : kW.length = ps.length := by
      have e1 : kW.length = pw.length := (Paired.length W).symm
      have e2 := congrArg List.length ew
      rw [List.length_map, List.length_map] at e2
      omega
    have t4 : SameT H H4 := fun b xs r => by
      rcases r with r | ⟨o', r⟩
      · exact .inl (k4 _ _ (fun e => by rw [e, R.pl] at r; cases r) r)
      · exact .inr ⟨o', k4 _ _ (fun e => by rw [e, R.pl] at r; cases r) r⟩
    have W4 : WyR K H4 pw kW := Paired.mapP W fun _ _ z => ⟨z.1, by
      obtain ⟨l, us, e1, e2, e3⟩ := z.2
      exact ⟨l, us, e1, k4 _ _ (fun e => by rw [e, R.pl] at e2; cases e2) e2, e3.sameT t4⟩⟩
    refine ⟨_, rfl, rfl, _, rfl, ?_⟩
    rcases hH with ⟨rfl, rfl⟩ | ⟨h, Ch, dxh, fsh, psh, sph, rfl, hh, hlk, MH, hsp⟩
    · refine ite2 (fun _ => ?_) (fun c => absurd (by decide) c)
      refine ⟨by show 0 ≤ sizeLine; decide, fun l2 n6 => ?_⟩
      have s6 := same_new n6 (.lst [])
      have R6 := R4.same s6
      have W6 := W4.same s6
      refine ⟨_, rfl, a, C, dx, _, _, rfl, R6.obj, fc.cls, fc.wy, rfl, _, rfl, pW, _, rfl, DPut.k (k := .inr x) R6.wy (Nat.lt_of_le_of_lt (show kW.length ≤ 1000 by omega) (by decide)), ?_⟩
      have ek : putK kW (.inr x) (.ref l2) = kW ++ [(.inr x, .ref l2)] := putK_new _ (valV_none (by rw [W.keys, ew]; exact fun z => hx (key_mem.mp z)))
      rw [ek]
      have ne6 : l2 ≠ pW := fun z => by have h := R6.wy; rw [← z, upd_same] at h; cases h
      exact q _ _ _ (fun b o n1 n2 e => by rw [upd_ne n2]; exact s6 _ _ (k4 b o n1 e)) (R6.putWays _) (Paired.snoc (W6.dict R6.wy) ⟨rfl, l2, [], rfl, by rw [upd_ne ne6, upd_same], .nil⟩)
    have h4 : H4 h = some (.ins Ch dxh fsh) := k4 _ _ (fun e => by rw [e, R.pl] at hh; cases hh) hh
    refine ite2 (fun c => absurd (of_decide_eq_true c) (fun z => nomatch z)) (fun _ => ?_)
    refine ⟨_, rfl, h, Ch, dxh, fsh, psh, sph, rfl, h4, hlk, MH, hsp H4 h4 t4 _ fun l1 us H5 s5 n5 e5 p5 => ?_⟩
    refine ⟨l1, us, rfl, SqL.of e5, fun l2 n6 => ?_⟩
    have s6 := same_new n6 (.lst us)
    have R6 := (R4.same s5).same s6
    have W6 := (W4.same s5).same s6
    refine ⟨_, rfl, a, C, dx, _, _, rfl, R6.obj, fc.cls, fc.wy, rfl, _, rfl, pW, _, rfl, DPut.k (k := .inr x) R6.wy (Nat.lt_of_le_of_lt (show kW.length ≤ 1000 by omega) (by decide)), ?_⟩
    have ek : putK kW (.inr x) (.ref l2) = kW ++ [(.inr x, .ref l2)] := putK_new _ (valV_none (by rw [W.keys, ew]; exact fun z => hx (key_mem.mp z)))
    rw [ek]
    have s46 : Same H4 (upd H5 l2 (.lst us)) := fun b o z => s6 _ _ (s5 _ _ z)
    refine q _ _ _ (fun b o n1 n2 e => by rw [upd_ne n2]; exact s46 _ _ (k4 b o n1 e)) (R6.putWays _) ?_
    have ne6 : l2 ≠ pW := fun z => by have h := R6.wy; rw [← z, upd_same] at h; cases h
    exact Paired.snoc (W6.dict R6.wy) ⟨rfl, l2, us, rfl, by rw [upd_ne ne6, upd_same], (p5.same s6).sameT (.dict R6.wy)⟩
def armP (p q : PinD) : Rat × Rat := (q.sp.1 - p.sp.1, q.sp.2 - p.sp.2)
def spArm (K : PySem.W.Frag) (C : Addr) : Sp := fun vs H Q _ => ∃ (a : Addr) (pins : List PinD) (bars : List BarD) (p q : PinD), vs = [.ref a, .str p.nm, .str q.nm] ∧ FrA K H C a pins bars ∧ GoodF pins bars ∧ p ∈ pins ∧ q ∈ pins ∧ givesP K H Q (armP p q)
theorem np_of {pins : List PinD} (h : (pins.map (·.nm)).Nodup) : ((pins.map fun p => (p.nm, ptQ p.sp)).map (·.1)).Nodup := by
  rw [List.map_map]
  exact h
theorem nb_of {bars : List BarD} (h : (bars.map (·.nm)).Nodup) : ((bars.map fun b => (b.nm, b.one.nm, b.other.nm)).map (·.1)).Nodup := by
  rw [List.map_map]
  exact h
theorem sc_arm_between : FnScope ["F", "one", "other"] ["F", "one", "other"] (defScope s_arm_between) := ⟨rfl, rfl, rfl, by decide +kernel, rfl, by decide +kernel, by decide +kernel⟩
theorem ok_arm_between {C : Addr} (D : Def K mg "arm_between" s_arm_between ["F", "one", "other"]) (MP : MtdOk P w K mg base (CXr P w) 2 C "place" ["self", "pin"] (spPlace K C)) (G_pair_difference : Fn P w K mg base (CXr P w) 35 "pair_difference" ["one", "other"] (spPair K fun a b => a - b)) : Fn P w K mg base (CXr P w) 36 "arm_between" ["F", "one", "other"] (spArm K C) := by
  refine D.ok sc_arm_between (fun vs H Q E h => ?_) (fun f cdv A outer s H vs Q E hr h => ?_)
  · obtain ⟨a, pins, bars, p, q, rfl, _⟩ := h
    rfl
  obtain ⟨a, pins, bars, p, q, rfl, R, g, hp, hq, k⟩ := h
  obtain ⟨dx, pP, pW, pB, kP, kW, kB, R, W⟩ := R.ex
  have px := passM (X := (cxOf (CXr P w) P w K mg base ["F", "one", "other"] "arm_between" (defScope s_arm_between) f cdv A outer s H E)) (CXr.mute (P := P) (w := w))
  refine ⟨_, (pss_one (ps_ret (pe_fn G_pair_difference (hr.mono (by decide)) px (pac (pe_mtd (k := 2) (pv 0) (hr.mono (by decide)) px (pac (pv 2) pa_nil)) (pac (pe_mtd (k := 2) (pv 0) (hr.mono (by decide)) px (pac (pv 1) pa_nil)) pa_nil))))), ?_⟩
  refine ⟨_, rfl, a, C, dx, _, _, _, rfl, R.obj, rfl, MP, _, rfl, a, dx, pP, pW, pB, _, _, kP, kW, kB, q.nm, ptQ q.sp, rfl, R, np_of g.np, List.mem_map.mpr ⟨q, hq, rfl⟩, fun v1 h1 => ?_⟩
  refine ⟨_, rfl, a, C, dx, _, _, _, rfl, R.obj, rfl, MP, _, rfl, a, dx, pP, pW, pB, _, _, kP, kW, kB, p.nm, ptQ p.sp, rfl, R, np_of g.np, List.mem_map.mpr ⟨p, hp, rfl⟩, fun v2 h2 => ?_⟩
  have z1 := g.sz q hq
  have z2 := g.sz p hp
  exact ⟨v1, v2, q.sp, p.sp, rfl, h1, h2, z1.1.up (by decide), z1.2.1.up (by decide), z2.1.up (by decide), z2.2.1.up (by decide), k⟩
def mv (M : Str → Option (Rat × Rat)) (x : Str) : Rat × Rat := (M x).getD (0, 0)
def mvSz (M : Str → Option (Rat × Rat)) : Prop := ∀ x, Sz 100 (mv M x).1 ∧ Sz 100 (mv M x).2
def lenB (M : Str → Option (Rat × Rat)) (b : BarD) : Rat := dotP (armP b.one b.other) ((mv M b.other.nm).1 - (mv M b.one.nm).1, (mv M b.other.nm).2 - (mv M b.one.nm).2)
def spLen (K : PySem.W.Frag) (C : Addr) : Sp := fun vs H Q _ => ∃ (a d : Addr) (pins : List PinD) (bars : List BarD) (kvs : List (Key × V)) (M : Str → Option (Rat × Rat)), vs = [.ref a, .ref d] ∧ FrA K H C a pins bars ∧ GoodF pins bars ∧ H d = some (.dK kvs) ∧ PtD K H kvs M ∧ mvSz M ∧
  ∀ (e : Addr) (kvs' : List (Key × V)) (H' : Hp), Same H H' → H e = none → H' e = some (.dK kvs') → kvs'.map (·.1) = bars.map (fun b => (Sum.inr b.nm : Key)) → (∀ b ∈ bars, ∃ v, valV kvs' (.inr b.nm) = some v ∧ NmR K H' v (lenB M b)) → Q (.ref e) H'
theorem sc_lengthenings : FnScope ["F", "motion", "longer", "bar", "two", "apart"] ["F", "motion"] (defScope s_lengthenings) := ⟨rfl, rfl, rfl, by decide +kernel, rfl, by decide +kernel, by decide +kernel⟩
theorem ok_lengthenings {C aM : Addr} (hM : ∀ H : Hp, PtR K H (.ref aM) (0, 0)) (m_NO_MOVE : mg "NO_MOVE" = some (.ref aM)) (D : Def K mg "lengthenings" s_lengthenings ["F", "motion"]) (MB : MtdOk P w K mg base (CXr P w) 1 C "bars" ["self"] (spBars K C)) (ME : MtdOk P w K mg base (CXr P w) 1 C "ends" ["self", "bar"] (spEnds K C))
    (G_arm_between : Fn P w K mg base (CXr P w) 36 "arm_between" ["F", "one", "other"] (spArm K C)) (G_pair_difference : Fn P w K mg base (CXr P w) 35 "pair_difference" ["one", "other"] (spPair K fun a b => a - b)) (G_pair_product : Fn P w K mg base (CXr P w) 35 "pair_product" ["one", "other"] (spDot K)) :
    Fn P w K mg base (CXr P w) 37 "lengthenings" ["F", "motion"] (spLen K C) := by
  refine D.ok sc_lengthenings (fun vs H Q E h => ?_) (fun f cdv A outer s H vs Q E hr h => ?_)
  · obtain ⟨a, d, pins, bars, kvs, M, rfl, _⟩ := h
    rfl
  obtain ⟨a, d, pins, bars, kvs, M, rfl, R, g, hd, hP, zM, q⟩ := h
  have px := passM (X := (cxOf (CXr P w) P w K mg base ["F", "motion", "longer", "bar", "two", "apart"] "lengthenings" (defScope s_lengthenings) f cdv A outer s H E)) (CXr.mute (P := P) (w := w))
  refine ⟨_, (pss_cons (ps_set (i := 2) sc_lengthenings.nd rfl (Or.inl rfl) pe_dnewK)
    (pss_cons (ps_for PassesOwn.never rfl (pi_list (pe_mtd0 (k := 1) (pv 0) (hr.mono (by decide)) px)) (pg_name (i := 3) sc_lengthenings.nd rfl (Or.inl rfl)) (pss_cons (ps_set (i := 4) sc_lengthenings.nd rfl (Or.inl rfl) (pe_mtd (k := 1) (pv 0) (hr.mono (by decide)) px (pac (pv 3) pa_nil)))
      (pss_cons (ps_set (i := 5) sc_lengthenings.nd rfl (Or.inl rfl) (pe_fn G_pair_difference (hr.mono (by decide)) px (pac (pe_dget2 (hu_of hr) (pv 1) (pe_ix ix_tup (pv 4) pe_int (fun _ _ => rfl)) (pe_glob (v := .ref aM) rfl m_NO_MOVE rfl) ⟨rfl, rfl, rfl, rfl⟩) (pac (pe_dget2 (hu_of hr) (pv 1) (pe_ix ix_tup (pv 4) pe_int (fun _ _ => rfl)) (pe_glob (v := .ref aM) rfl m_NO_MOVE rfl) ⟨rfl, rfl, rfl, rfl⟩) pa_nil))))
      (pss_one (ps_dput (hu_of hr) (pv 2) (pv 3) (pe_fn G_pair_product (hr.mono (by decide)) px (pac (pe_fn G_arm_between (hr.mono (by decide)) px (pac (pv 0) (pac (pe_ix ix_tup (pv 4) pe_int (fun _ _ => rfl)) (pac (pe_ix ix_tup (pv 4) pe_int (fun _ _ => rfl)) pa_nil)))) (pac (pv 5) pa_nil))) rfl)))))
    (pss_one (ps_ret (pv 2))))), ?_⟩
  intro e ne
  have s1 := same_new ne (.dK [])
  have e1 : (upd H e (.dK [])) e = some (.dK []) := upd_same
  generalize upd H e (.dK []) = H1 at s1 e1 ⊢
  have R1 := R.same s1
  obtain ⟨dx, pP, pW, pB, kP, kW, kB, F1, W1⟩ := R1.ex
  refine ⟨_, rfl, a, C, dx, _, _, _, rfl, F1.obj, rfl, MB, a, dx, pP, pW, pB, _, _, kP, kW, kB, rfl, F1, fun l H2 s2 nl el => ?_⟩
  have nmb : ((bars.map fun b => (b.nm, b.one.nm, b.other.nm)).map (·.1)) = bars.map (·.nm) := by rw [List.map_map]; rfl
  rw [nmb] at el
  refine ⟨l, rfl, ⟨_, SqL.of el⟩, for_list (K := K) (a := l) (xs := (bars.map (·.nm)).map V.str) (fun i σ H' => ∃ (o3 o4 o5 : Option V) (kv' : List (Key × V)), σ = [some (.ref a), some (.ref d), some (.ref e), o3, o4, o5] ∧ Same H H' ∧ H' l = some (.lst ((bars.map (·.nm)).map V.str)) ∧ H' e = some (.dK kv') ∧ kv'.map (·.1) = (bars.take i).map (fun b => (Sum.inr b.nm : Key)) ∧
    ∀ b ∈ bars.take i, ∃ v, valV kv' (.inr b.nm) = some v ∧ NmR K H' v (lenB M b)) ⟨none, none, none, [], rfl, fun b o z => s2 _ _ (s1 _ _ z), el, s2 _ _ e1, rfl, fun b hb => by simp at hb⟩ (fun i σ H' _ h => by
      obtain ⟨_, _, _, _, _, _, h, _⟩ := h
      exact SqL.of h) ?_ ?_⟩
  · rintro i z σ H4 hi ⟨o3, o4, o5, kv', rfl, s4, l4, e4, ks, tl⟩
    rw [List.getElem?_map, List.getElem?_map] at hi
    obtain ⟨x, hx, rfl⟩ := Option.map_eq_some_iff.mp hi
    obtain ⟨b, hb, rfl⟩ := Option.map_eq_some_iff.mp hx
    have il : i < bars.length := (List.getElem?_eq_some_iff.mp hb).1
    have mb : b ∈ bars := List.mem_of_getElem? hb
    obtain ⟨m1, m2, m3⟩ := g.ends b mb
    have R4 := R.same s4
    obtain ⟨dx, pP, pW, pB, kP, kW, kB, F4, W4⟩ := R4.ex
    refine ⟨_, rfl, a, C, dx, _, _, _, rfl, F4.obj, rfl, ME, _, rfl, a, dx, pP, pW, pB, _, _, kP, kW, kB, b.nm, b.one.nm, b.other.nm, rfl, F4, nb_of g.nb, List.mem_map.mpr ⟨b, mb, rfl⟩, fun p rd => ?_⟩
    have tp : SqT K H4 p [.str b.one.nm, .str b.other.nm] := .inl rd
    have d4 := s4 _ _ hd
    have P4 := hP.same s4
    refine ⟨_, rfl, d, rfl, .inl ⟨_, .inl d4⟩, _, rfl, p, _, _, _, rfl, rfl, tp, at1, _, DGet.k (k := .inr b.other.nm) d4, ?_⟩
    refine ⟨_, rfl, d, rfl, .inl ⟨_, .inl d4⟩, _, rfl, p, _, _, _, rfl, rfl, tp, at0, _, DGet.k (k := .inr b.one.nm) d4, ?_⟩
    have g1 : PtR K H4 ((valV kvs (.inr b.other.nm)).getD (.ref aM)) (mv M b.other.nm) := P4.dget (hM H4)
    have g2 : PtR K H4 ((valV kvs (.inr b.one.nm)).getD (.ref aM)) (mv M b.one.nm) := P4.dget (hM H4)
    generalize (valV kvs (.inr b.other.nm)).getD (.ref aM) = v1 at g1 ⊢
    generalize (valV kvs (.inr b.one.nm)).getD (.ref aM) = v2 at g2 ⊢
    have z1 := zM b.other.nm
    have z2 := zM b.one.nm
    refine ⟨v1, v2, _, _, rfl, g1, g2, z1.1.up (by decide), z1.2.up (by decide), z2.1.up (by decide), z2.2.up (by decide), fun v3 H5 s5 h5 => ?_⟩
    have R5 := R4.same s5
    have tp5 := Ty.Same.seqT s5 tp
    refine ⟨_, rfl, _, rfl, p, _, _, _, rfl, rfl, tp5, at0, _, rfl, p, _, _, _, rfl, rfl, tp5, at1, a, pins, bars, b.one, b.other, rfl, R5, g, m1, m2, fun v6 H6 s6 h6 => ?_⟩
    have y1 := g.sz _ m1
    have y2 := g.sz _ m2
    refine ⟨_, rfl, v6, v3, _, _, rfl, h6, h5.same s6, (y2.1.sub y1.1).up (by decide), (y2.2.1.sub y1.2.1).up (by decide), (z1.1.sub z2.1).up (by decide), (z1.2.sub z2.2).up (by decide), fun c7 H7 s7 h7 => ?_⟩
    have e7 := s7 _ _ (s6 _ _ (s5 _ _ e4))
    have lk : kv'.length ≤ 8 := by
      have z := congrArg List.length ks
      rw [List.length_map, List.length_map, List.length_take] at z
      have := g.lb
      omega
    refine ⟨_, rfl, _, rfl, e, _, rfl, DPut.k (k := .inr b.nm) e7 (Nat.lt_of_le_of_lt (show kv'.length ≤ 1000 by omega) (by decide)), ?_⟩
    have fresh : (Sum.inr b.nm : Key) ∉ kv'.map (·.1) := by
      rw [ks]
      intro z
      obtain ⟨b', hb', eb'⟩ := List.mem_map.mp z
      have en : b'.nm = b.nm := Sum.inr.inj eb'
      obtain ⟨j, hj, ej⟩ := List.mem_iff_getElem.mp hb'
      rw [List.getElem_take] at ej
      rw [List.length_take] at hj
      have q1 : (bars.map (·.nm))[j]? = some b.nm := by rw [List.getElem?_map, List.getElem?_eq_getElem (by omega), ej]; show some b'.nm = _; rw [en]
      have q2 : (bars.map (·.nm))[i]? = some b.nm := by rw [List.getElem?_map, hb]; rfl
      have := (List.getElem?_inj (by rw [List.length_map]; omega) g.nb).mp (q1.trans q2.symm)
      omega
    have pk : putK kv' (.inr b.nm) (.ref c7) = kv' ++ [(.inr b.nm, .ref c7)] := putK_new _ (valV_none fresh)
    have t7 : SameT H7 (upd H7 e (.dK (putK kv' (.inr b.nm) (.ref c7)))) := .dict e7
    have s47 : Same H4 H7 := fun b o z => s7 _ _ (s6 _ _ (s5 _ _ z))
    have tk : bars.take (i + 1) = bars.take i ++ [b] := by rw [List.take_add_one, hb]; rfl
    refine ⟨_, _, _, _, rfl, fun c o z => ?_, ?_, upd_same, ?_, fun b' hb' => ?_⟩
    · rw [upd_ne (ne_of_none z ne)]
      exact s47 _ _ (s4 _ _ z)
    · rw [upd_ne (fun z => by rw [z, e4] at l4; cases l4)]
      exact s47 _ _ l4
    · rw [pk, List.map_append, ks, tk, List.map_append]
      rfl
    · rw [valV_put]
      by_cases c : b'.nm = b.nm
      · rw [if_pos (by rw [c])]
        refine ⟨.ref c7, rfl, ?_⟩
        have eb : b' = b := by
          obtain ⟨j, hj, ej⟩ := List.mem_iff_getElem.mp hb'
          rw [List.getElem_take] at ej
          rw [List.length_take] at hj
          have q1 : (bars.map (·.nm))[j]? = some b.nm := by rw [List.getElem?_map, List.getElem?_eq_getElem (by omega), ej]; show some b'.nm = _; rw [c]
          have q2 : (bars.map (·.nm))[i]? = some b.nm := by rw [List.getElem?_map, hb]; rfl
          have ji := (List.getElem?_inj (by rw [List.length_map]; omega) g.nb).mp (q1.trans q2.symm)
          subst ji
          rw [List.getElem?_eq_getElem il] at hb
          rw [← ej]
          exact Option.some.inj hb
        rw [eb]
        exact NmR.sameT ⟨c7, rfl, SqT.of h7⟩ t7
      · rw [if_neg (fun z => c (Sum.inr.inj z))]
        rw [tk, List.mem_append] at hb'
        rcases hb' with hb' | hb'
        · obtain ⟨v, h1, h2⟩ := tl b' hb'
          exact ⟨v, h1, (h2.same s47).sameT t7⟩
        · rw [List.mem_singleton] at hb'
          exact absurd (by rw [hb']) c
  · rintro σ H4 ⟨o3, o4, o5, kv', rfl, s4, l4, e4, ks, tl⟩
    rw [List.length_map, List.length_map, List.take_length] at ks tl
    exact ⟨_, rfl, q e kv' H4 s4 ne e4 ks tl⟩
theorem sz_zero {k : Nat} (h : 1 ≤ k) : Sz k 0 := by
  have := sz_int (i := 0) (k := k) (by simpa using Nat.two_pow_pos k) h
  simpa using this
structure Zb (n : Nat) (r : Rat) : Prop where
  top : (qr r).1.natAbs ≤ 2 ^ n
  bot : (qr r).2.natAbs ≤ 2 ^ n
def cell (ns : List Int) (k : Int) : Int := if k < (ns.length : Int) then (ns[k.toNat]?).getD 0 else ((((k + 5) * (k + 5) * 48271).fmod 2147483647) * (((k + 5) * (k + 5) * 48271).fmod 2147483647)).fmod 2147483629
theorem fmod_in {x m : Int} (h : 0 < m) : 0 ≤ x.fmod m ∧ x.fmod m < m := ⟨Int.fmod_nonneg_of_pos x h, Int.fmod_lt_of_pos x h⟩
def spCell (K : PySem.W.Frag) : Sp := fun vs H Q _ => ∃ (a : Addr) (ns : List Int) (k : Int), vs = [.ref a, .int k] ∧ SqL K H a (ns.map V.int) ∧ 0 ≤ k ∧ k ≤ 1000 ∧ Q (.int (cell ns k)) H
theorem cell_in {ns : List Int} {k : Int} (h0 : 0 ≤ k) (h : k < (ns.length : Int)) : atI (ns.map V.int) k = some (.int (cell ns k)) := by
  have hk : k.toNat < ns.length := by omega
  have ek : k = ((k.toNat : Nat) : Int) := by omega
  have q : atI (ns.map V.int) ((k.toNat : Nat) : Int) = some (.int (cell ns k)) := atI_nat (by
    unfold cell
    rw [if_pos h, List.getElem?_map, List.getElem?_eq_getElem hk]
    rfl)
  rw [← ek] at q
  exact q
theorem bits_small {i : Int} {k : Nat} (h : i.natAbs < 2 ^ k) : intBits i ≤ k := intBits_le_iff.mpr h
theorem cell_bits {ns : List Int} (hb : ∀ i ∈ ns, intBits i ≤ 1048576) (k : Int) : intBits (cell ns k) ≤ 1048576 := by
  unfold cell
  split
  · cases e : ns[k.toNat]? with
    | none => exact intBits_le_iff.mpr (by show 0 < 2 ^ 1048576; exact Nat.two_pow_pos _)
    | some v => exact hb v (List.mem_of_getElem? e)
  · have := fmod_in (x := ((((k + 5) * (k + 5) * 48271).fmod 2147483647) * (((k + 5) * (k + 5) * 48271).fmod 2147483647))) (m := 2147483629) (by decide)
    exact Nat.le_trans (bits_small (k := 40) (by show _ < 1099511627776; omega)) (by decide)
theorem sc_law_cell_at : FnScope ["_law_script", "_law_k", "_law_part"] ["_law_script", "_law_k"] (defScope s_law_cell_at) := ⟨rfl, rfl, rfl, by decide +kernel, rfl, by decide +kernel, by decide +kernel⟩
theorem ok_law_cell_at (D : Def K mg "_law_cell_at" s_law_cell_at ["_law_script", "_law_k"]) (m_len : mg "len" = none) : Fn P w K mg base CX 1 "_law_cell_at" ["_law_script", "_law_k"] (spCell K) := by
  refine D.ok sc_law_cell_at (fun vs H Q E h => ?_) (fun f cdv A outer s H vs Q E hr h => ?_)
  · obtain ⟨a, ns, k, rfl, _⟩ := h
    rfl
  obtain ⟨a, ns, k, rfl, hS, h0, h1, q⟩ := h
  refine ⟨_, (pss_cons (ps_if (pt_cmpR op_lt (pv 1) (pe_callB call_len_seq rfl m_len b_len (pac (pv 0) pa_nil)) (nomark _)) (pss_one (ps_ret (pe_ix ix_list (pv 0) (pv 1) (fun _ _ => rfl)))) pss_nil)
    (pss_cons (ps_set (i := 2) sc_law_cell_at.nd rfl (Or.inl rfl) (pe_op op_modB (pe_op op_mulB (pe_op op_mulB (pe_op op_add (pv 1) pe_int) (pe_op op_add (pv 1) pe_int)) pe_int) pe_int))
    (pss_one (ps_ret (pe_op op_modB (pe_op op_mulB (pv 2) (pv 2)) pe_int))))), ?_⟩
  have hl : (ns.map V.int).length = ns.length := List.length_map _
  refine ⟨_, rfl, _, rfl, a, _, rfl, .inl hS, _, _, rfl, rfl, _, rfl, ?_⟩
  refine ite2 (fun c => ?_) (fun c => ?_)
  · have c' : k < (((ns.map V.int).length : Nat) : Int) := of_decide_eq_true c
    rw [hl] at c'
    exact ⟨_, rfl, _, rfl, a, _, k, _, rfl, rfl, hS, cell_in h0 c', q⟩
  · have c' : ¬ k < (((ns.map V.int).length : Nat) : Int) := of_decide_eq_false (Bool.eq_false_iff.mpr c)
    rw [hl] at c'
    have b5 : intBits (k + 5) ≤ 11 := bits_small (by show _ < 2048; omega)
    have e1 := fmod_in (x := (k + 5) * (k + 5) * 48271) (m := 2147483647) (by decide)
    have bp : intBits (((k + 5) * (k + 5) * 48271).fmod 2147483647) ≤ 31 := bits_small (by show _ < 2147483648; omega)
    refine ⟨_, rfl, _, _, rfl, rfl, _, rfl, _, _, rfl, rfl, _, _, rfl, rfl, ⟨Nat.le_trans b5 (by decide), Nat.le_trans b5 (by decide)⟩, ?_⟩
    refine ⟨_, _, rfl, rfl, ⟨Nat.le_trans (intBits_mul_le b5 b5) (by decide), by decide +kernel⟩, _, _, rfl, rfl, nz (by decide), ?_⟩
    refine ⟨_, rfl, _, rfl, _, _, rfl, rfl, ⟨Nat.le_trans bp (by decide), Nat.le_trans bp (by decide)⟩, _, _, rfl, rfl, nz (by decide), ?_⟩
    have e : cell ns k = ((((k + 5) * (k + 5) * 48271).fmod 2147483647) * (((k + 5) * (k + 5) * 48271).fmod 2147483647)).fmod 2147483629 := by
      unfold cell
      rw [if_neg c']
    rw [e] at q
    exact q
def field (c p m : Int) : Int := (((c.fmod p + 11) * 48271).fmod p).fmod m
theorem field_in {c p m : Int} (h : 0 < m) : 0 ≤ field c p m ∧ field c p m < m := fmod_in h
def spField : Sp := fun vs H Q _ => ∃ (c p m : Int), vs = [.int c, .int p, .int m] ∧ 0 < p ∧ p ≤ 2000000 ∧ 0 < m ∧ Q (.int (field c p m)) H
theorem sc_law_field : FnScope ["_law_cell", "_law_prime", "_law_many"] ["_law_cell", "_law_prime", "_law_many"] (defScope s_law_field) := ⟨rfl, rfl, rfl, by decide +kernel, rfl, by decide +kernel, by decide +kernel⟩
theorem ok_law_field (D : Def K mg "_law_field" s_law_field ["_law_cell", "_law_prime", "_law_many"]) : Fn P w K mg base CX 1 "_law_field" ["_law_cell", "_law_prime", "_law_many"] spField := by
  refine D.ok sc_law_field (fun vs H Q E h => ?_) (fun f cdv A outer s H vs Q E hr h => ?_)
  · obtain ⟨c, p, m, rfl, _⟩ := h
    rfl
  obtain ⟨c, p, m, rfl, hp, hp2, hm, q⟩ := h
  refine ⟨_, (pss_one (ps_ret (pe_op op_modB (pe_op op_modB (pe_op op_mulB (pe_op op_add (pe_op op_modB (pv 0) (pv 1)) pe_int) pe_int) (pv 1)) (pv 2)))), ?_⟩
  have e1 := fmod_in (x := c) hp
  refine ⟨_, rfl, _, rfl, _, _, rfl, rfl, nz (by omega), _, _, rfl, rfl, _, _, rfl, rfl, ⟨Nat.le_trans (bits_small (k := 22) (by show _ < 4194304; omega)) (by decide), by decide +kernel⟩, ?_⟩
  exact ⟨_, rfl, _, _, rfl, rfl, nz (by omega), _, rfl, _, _, rfl, rfl, nz (by omega), q⟩
def spLaw_lowestU : Sp := fun vs H Q _ => ∃ t b : Int, vs = [.int t, .int b] ∧ 0 < b ∧ gives H Q (low t b)
theorem sc_law_lowest : FnScope ["_law_top", "_law_bottom", "_law_one", "_law_other"] ["_law_top", "_law_bottom"] (defScope s_law_lowest) := ⟨rfl, rfl, rfl, by decide +kernel, rfl, by decide +kernel, by decide +kernel⟩
theorem ok_law_lowest (ht : P.given.tree = none) (D : Def K mg "_law_lowest" s_law_lowest ["_law_top", "_law_bottom"]) (m_abs : mg "abs" = none) : Fn P w K mg base (CXr P w) 33 "_law_lowest" ["_law_top", "_law_bottom"] spLaw_lowestU := by
  refine D.ok sc_law_lowest (fun vs H Q E h => ?_) (fun f cdv A outer s H vs Q E hr h => ?_)
  · obtain ⟨t, b, rfl, _⟩ := h
    rfl
  obtain ⟨t, b, rfl, hb, q⟩ := h
  refine ⟨_, (pss_cons (ps_set (i := 2) sc_law_lowest.nd rfl (Or.inl rfl) (pe_callB call_abs rfl m_abs b_abs (pac (pv 0) pa_nil)))
    (pss_cons (ps_set (i := 3) sc_law_lowest.nd rfl (Or.inl rfl) (pv 1))
    (pss_cons (ps_while PassesOwn.never (pt_cmpR op_ne (pv 3) pe_int (nomark _)) (pss_one (ps_par (i := 2) (j := 3) rfl sc_law_lowest.nd rfl rfl (by decide) rfl rfl (pac (pv 3) (pac (pe_op op_modB (pv 2) (pv 3)) pa_nil)) rfl)))
    (pss_one (ps_ret (pe_tup (pac (pe_op (op_fdivU ht (Ty.Room.py hr (by decide)) rfl rfl rfl rfl rfl) (pv 0) (pv 2)) (pac (pe_op (op_fdivU ht (Ty.Room.py hr (by decide)) rfl rfl rfl rfl rfl) (pv 1) (pv 2)) pa_nil)))))))), ?_⟩
  refine ⟨_, rfl, t, rfl, ?_⟩
  refine ⟨_, rfl, ?_⟩
  refine while_by (fun σ H' => ∃ x y : Int, σ = [some (.int t), some (.int b), some (.int x), some (.int y)] ∧ H' = H ∧ 0 ≤ x ∧ 0 ≤ y ∧ Int.gcd x y = Int.gcd t b) (fun σ _ => match σ with | [_, _, _, some (.int y)] => y.natAbs | _ => 0) ⟨_, b, rfl, rfl, ?_, by omega, ?_⟩ ?_ ?_
  · split <;> omega
  · split
    · exact Int.neg_gcd
    · rfl
  · rintro σ H' ⟨x, y, rfl, rfl, hx, hy, g⟩
    refine ⟨_, rfl, rfl, _, rfl, ?_⟩
    refine ite2 (fun c => ?_) (fun c => ?_)
    · have hy0 : y ≠ 0 := by
        intro z
        subst z
        simp at c
      refine ⟨_, rfl, _, rfl, _, rfl, _, _, rfl, rfl, hy0, _, _, rfl, ?_⟩
      exact ⟨⟨_, _, rfl, rfl, hy, Int.fmod_nonneg_of_pos _ (by omega), by rw [gcd_step]; exact g⟩, fmod_less hy0⟩
    · have hy0 : y = 0 := by
        have := Bool.eq_false_iff.mpr c
        simp at this
        exact this
      subst hy0
      have e : x = sg t b := by
        rw [Int.gcd_zero_right] at g
        unfold sg
        rw [if_neg (by omega)]
        unfold gz
        rw [← g]
        omega
      subst e
      have hbn : b ≠ 0 := by omega
      have c := sg_ne (t := t) hbn
      refine ⟨_, rfl, _, rfl, _, _, rfl, rfl, c, _, rfl, _, rfl, _, _, rfl, rfl, c, (by show 2 ≤ sizeLine; decide), fun p hp => ?_⟩
      exact q p _ (same_new hp _) upd_same
  · rintro σ H' Q1 Q2 h ⟨v, e1, e2, k, ek, z⟩
    exact ⟨v, e1, e2, k, ek, h _ _ z⟩
structure Ns (n : Nat) (q : Int × Int) : Prop where
  top : q.1.natAbs ≤ 2 ^ n
  bot : q.2.natAbs ≤ 2 ^ n
theorem Ns.up {m n : Nat} {q : Int × Int} (h : Ns m q) (l : m ≤ n) : Ns n q := ⟨Nat.le_trans h.top (Nat.pow_le_pow_right (by decide) l), Nat.le_trans h.bot (Nat.pow_le_pow_right (by decide) l)⟩
def NmZ (K : PySem.W.Frag) (H : Hp) (v : V) (n : Nat) (r : Rat) : Prop := ∃ q : Int × Int, NmK K H v q ∧ 0 < q.2 ∧ vl q = r ∧ Ns n q
theorem NmZ.same {H H' : Hp} {v : V} {n : Nat} {r : Rat} (h : NmZ K H v n r) (s : Same H H') : NmZ K H' v n r := by
  obtain ⟨q, h1, h2⟩ := h
  exact ⟨q, h1.same s, h2⟩
theorem NmZ.sameT {H H' : Hp} {v : V} {n : Nat} {r : Rat} (h : NmZ K H v n r) (s : SameT H H') : NmZ K H' v n r := by
  obtain ⟨q, h1, h2⟩ := h
  exact ⟨q, h1.sameT s, h2⟩
theorem NmZ.up {H : Hp} {v : V} {m n : Nat} {r : Rat} (h : NmZ K H v m r) (l : m ≤ n) : NmZ K H v n r := by
  obtain ⟨q, h1, h2, h3, h4⟩ := h
  exact ⟨q, h1, h2, h3, h4.up l⟩
theorem nmz_of {H : Hp} {v : V} {n : Nat} {r : Rat} (h : NmR K H v r) (z : Zb n r) : NmZ K H v n r := ⟨qr r, h, qr_pos r, vl_qr r, ⟨z.top, z.bot⟩⟩
theorem zb_of {k n : Nat} {r : Rat} (h : Sz k r) (l : k ≤ n) : Zb n r := ⟨Nat.le_of_lt (Nat.lt_of_lt_of_le (intBits_le_iff.mp h.top) (Nat.pow_le_pow_right (by decide) l)), Nat.le_of_lt (Nat.lt_of_lt_of_le (intBits_le_iff.mp h.bot) (Nat.pow_le_pow_right (by decide) l))⟩
theorem Zb.up {m n : Nat} {r : Rat} (h : Zb m r) (l : m ≤ n) : Zb n r := ⟨Nat.le_trans h.top (Nat.pow_le_pow_right (by decide) l), Nat.le_trans h.bot (Nat.pow_le_pow_right (by decide) l)⟩
def addI (x y : Int × Int) : Int × Int := (x.1 * y.2 + y.1 * x.2, x.2 * y.2)
def mulI (x y : Int × Int) : Int × Int := (x.1 * y.1, x.2 * y.2)
theorem natAbs_mul2 {a b : Int} {m n : Nat} (h1 : a.natAbs ≤ 2 ^ m) (h2 : b.natAbs ≤ 2 ^ n) : (a * b).natAbs ≤ 2 ^ (m + n) := by
  rw [Int.natAbs_mul, Nat.pow_add]
  exact Nat.mul_le_mul h1 h2
theorem addI_ok {x y : Int × Int} {m n : Nat} (hx : 0 < x.2) (hy : 0 < y.2) (zx : Ns m x) (zy : Ns n y) : 0 < (addI x y).2 ∧ vl (addI x y) = vl x + vl y ∧ Ns (m + n + 1) (addI x y) := by
  refine ⟨Int.mul_pos hx hy, ?_, ?_, ?_⟩
  · unfold vl addI
    have z1 : ((x.2 : Int) : Rat) ≠ 0 := ratne (Int.ne_of_gt hx)
    have z2 : ((y.2 : Int) : Rat) ≠ 0 := ratne (Int.ne_of_gt hy)
    push_cast
    grind
  · have h1 := natAbs_mul2 zx.top zy.bot
    have h2 := natAbs_mul2 zy.top zx.bot
    rw [Nat.add_comm n m] at h2
    have h3 := Int.natAbs_add_le (x.1 * y.2) (y.1 * x.2)
    show (x.1 * y.2 + y.1 * x.2).natAbs ≤ 2 ^ (m + n + 1)
    rw [Nat.pow_succ]
    omega
  · exact Nat.le_trans (natAbs_mul2 zx.bot zy.bot) (Nat.pow_le_pow_right (by decide) (by omega))
theorem mulI_ok {x y : Int × Int} {m n : Nat} (hx : 0 < x.2) (hy : 0 < y.2) (zx : Ns m x) (zy : Ns n y) : 0 < (mulI x y).2 ∧ vl (mulI x y) = vl x * vl y ∧ Ns (m + n) (mulI x y) := by
  refine ⟨Int.mul_pos hx hy, ?_, natAbs_mul2 zx.top zy.top, natAbs_mul2 zx.bot zy.bot⟩
  unfold vl mulI
  have z1 : ((x.2 : Int) : Rat) ≠ 0 := ratne (Int.ne_of_gt hx)
  have z2 : ((y.2 : Int) : Rat) ≠ 0 := ratne (Int.ne_of_gt hy)
  push_cast
  grind
def spSumI (K : PySem.W.Frag) (f : Int × Int → Int × Int → Int × Int) : Sp := fun vs H Q _ => ∃ (u v : V) (x y : Int × Int) (m n : Nat), vs = [u, v] ∧ NmK K H u x ∧ NmK K H v y ∧ Ns m x ∧ Ns n y ∧ m + n ≤ 130000000 ∧ gives H Q (f x y)
theorem ask_sum {H : Hp} {u v : V} {m n : Nat} {x y : Rat} {Q : VK} {E : XK} (h1 : NmZ K H u m x) (h2 : NmZ K H v n y) (l : m + n ≤ 130000000) (k : ∀ (p : Addr) (H' : Hp), Same H H' → NmZ K H' (.ref p) (m + n + 1) (x + y) → Q (.ref p) H') : spSumI K addI [u, v] H Q E := by
  obtain ⟨q1, a1, a2, a3, a4⟩ := h1
  obtain ⟨q2, b1, b2, b3, b4⟩ := h2
  obtain ⟨c1, c2, c3⟩ := addI_ok a2 b2 a4 b4
  exact ⟨u, v, q1, q2, m, n, rfl, a1, b1, a4, b4, l, fun p H' s e => k p H' s ⟨addI q1 q2, ⟨p, rfl, SqT.of e⟩, c1, by rw [c2, a3, b3], c3⟩⟩
theorem ask_mul {H : Hp} {u v : V} {m n : Nat} {x y : Rat} {Q : VK} {E : XK} (h1 : NmZ K H u m x) (h2 : NmZ K H v n y) (l : m + n ≤ 130000000) (k : ∀ (p : Addr) (H' : Hp), Same H H' → NmZ K H' (.ref p) (m + n) (x * y) → Q (.ref p) H') : spSumI K mulI [u, v] H Q E := by
  obtain ⟨q1, a1, a2, a3, a4⟩ := h1
  obtain ⟨q2, b1, b2, b3, b4⟩ := h2
  obtain ⟨c1, c2, c3⟩ := mulI_ok a2 b2 a4 b4
  exact ⟨u, v, q1, q2, m, n, rfl, a1, b1, a4, b4, l, fun p H' s e => k p H' s ⟨mulI q1 q2, ⟨p, rfl, SqT.of e⟩, c1, by rw [c2, a3, b3], c3⟩⟩
def spTurnI (K : PySem.W.Frag) : Sp := fun vs H Q _ => ∃ (u : V) (x : Int × Int), vs = [u] ∧ NmK K H u x ∧ gives H Q (0 - x.1, x.2)
theorem ask_turn {H : Hp} {u : V} {m : Nat} {x : Rat} {Q : VK} {E : XK} (h1 : NmZ K H u m x) (k : ∀ (p : Addr) (H' : Hp), Same H H' → NmZ K H' (.ref p) m (-x) → Q (.ref p) H') : spTurnI K [u] H Q E := by
  obtain ⟨q1, a1, a2, a3, a4⟩ := h1
  refine ⟨u, q1, rfl, a1, fun p H' s e => k p H' s ⟨(0 - q1.1, q1.2), ⟨p, rfl, SqT.of e⟩, a2, ?_, ?_, a4.bot⟩⟩
  · rw [← a3]
    unfold vl
    push_cast
    grind
  · have := a4.top
    show (0 - q1.1).natAbs ≤ 2 ^ m
    omega
theorem sc_law_sum : FnScope ["_law_one", "_law_other"] ["_law_one", "_law_other"] (defScope s_law_sum) := ⟨rfl, rfl, rfl, by decide +kernel, rfl, by decide +kernel, by decide +kernel⟩
theorem ok_law_sum (D : Def K mg "_law_sum" s_law_sum ["_law_one", "_law_other"]) : Fn P w K mg base (CXr P w) 1 "_law_sum" ["_law_one", "_law_other"] (spSumI K addI) := by
  refine D.ok sc_law_sum (fun vs H Q E h => ?_) (fun f cdv A outer s H vs Q E hr h => ?_)
  · obtain ⟨u, v, x, y, m, n, rfl, _⟩ := h
    rfl
  obtain ⟨u, v, x, y, m, n, rfl, ⟨p1, rfl, h1⟩, ⟨p2, rfl, h2⟩, zx, zy, l, q⟩ := h
  refine ⟨_, (pss_one (ps_ret (pe_tup (pac (pe_op op_add (pe_op op_mulZ (pe_ix ix_tup (pv 0) pe_int (fun _ _ => rfl)) (pe_ix ix_tup (pv 1) pe_int (fun _ _ => rfl))) (pe_op op_mulZ (pe_ix ix_tup (pv 1) pe_int (fun _ _ => rfl)) (pe_ix ix_tup (pv 0) pe_int (fun _ _ => rfl)))) (pac (pe_op op_mulZ (pe_ix ix_tup (pv 0) pe_int (fun _ _ => rfl)) (pe_ix ix_tup (pv 1) pe_int (fun _ _ => rfl))) pa_nil))))), ?_⟩
  refine ⟨_, rfl, p1, _, _, _, rfl, rfl, h1, at0, _, rfl, p2, _, _, _, rfl, rfl, h2, at1, _, _, rfl, rfl, pw_cmulS zx.top zy.bot (by omega), ?_⟩
  refine ⟨_, rfl, p2, _, _, _, rfl, rfl, h2, at0, _, rfl, p1, _, _, _, rfl, rfl, h1, at1, _, _, rfl, rfl, pw_cmulS zy.top zx.bot (by omega), ?_⟩
  refine ⟨_, _, rfl, rfl, ?_⟩
  refine ⟨_, rfl, p1, _, _, _, rfl, rfl, h1, at1, _, rfl, p2, _, _, _, rfl, rfl, h2, at1, _, _, rfl, rfl, pw_cmulS zx.bot zy.bot (by omega), (by show 2 ≤ sizeLine; decide), ?_⟩
  intro p3 n3; generalize eX : upd _ p3 _ = H3; have s3 := eX ▸ same_new n3 _; have e3 : H3 p3 = some _ := eX ▸ upd_same; clear eX
  exact q p3 H3 s3 e3
theorem sc_law_times : FnScope ["_law_one", "_law_other"] ["_law_one", "_law_other"] (defScope s_law_times) := ⟨rfl, rfl, rfl, by decide +kernel, rfl, by decide +kernel, by decide +kernel⟩
theorem ok_law_times (D : Def K mg "_law_times" s_law_times ["_law_one", "_law_other"]) : Fn P w K mg base (CXr P w) 1 "_law_times" ["_law_one", "_law_other"] (spSumI K mulI) := by
  refine D.ok sc_law_times (fun vs H Q E h => ?_) (fun f cdv A outer s H vs Q E hr h => ?_)
  · obtain ⟨u, v, x, y, m, n, rfl, _⟩ := h
    rfl
  obtain ⟨u, v, x, y, m, n, rfl, ⟨p1, rfl, h1⟩, ⟨p2, rfl, h2⟩, zx, zy, l, q⟩ := h
  refine ⟨_, (pss_one (ps_ret (pe_tup (pac (pe_op op_mulZ (pe_ix ix_tup (pv 0) pe_int (fun _ _ => rfl)) (pe_ix ix_tup (pv 1) pe_int (fun _ _ => rfl))) (pac (pe_op op_mulZ (pe_ix ix_tup (pv 0) pe_int (fun _ _ => rfl)) (pe_ix ix_tup (pv 1) pe_int (fun _ _ => rfl))) pa_nil))))), ?_⟩
  refine ⟨_, rfl, p1, _, _, _, rfl, rfl, h1, at0, _, rfl, p2, _, _, _, rfl, rfl, h2, at0, _, _, rfl, rfl, pw_cmulS zx.top zy.top (by omega), ?_⟩
  refine ⟨_, rfl, p1, _, _, _, rfl, rfl, h1, at1, _, rfl, p2, _, _, _, rfl, rfl, h2, at1, _, _, rfl, rfl, pw_cmulS zx.bot zy.bot (by omega), (by show 2 ≤ sizeLine; decide), ?_⟩
  intro p3 n3; generalize eX : upd _ p3 _ = H3; have s3 := eX ▸ same_new n3 _; have e3 : H3 p3 = some _ := eX ▸ upd_same; clear eX
  exact q p3 H3 s3 e3
theorem sc_law_turned : FnScope ["_law_one"] ["_law_one"] (defScope s_law_turned) := ⟨rfl, rfl, rfl, by decide +kernel, rfl, by decide +kernel, by decide +kernel⟩
theorem ok_law_turned (D : Def K mg "_law_turned" s_law_turned ["_law_one"]) : Fn P w K mg base (CXr P w) 1 "_law_turned" ["_law_one"] (spTurnI K) := by
  refine D.ok sc_law_turned (fun vs H Q E h => ?_) (fun f cdv A outer s H vs Q E hr h => ?_)
  · obtain ⟨u, x, rfl, _⟩ := h
    rfl
  obtain ⟨u, x, rfl, ⟨p1, rfl, h1⟩, q⟩ := h
  refine ⟨_, (pss_one (ps_ret (pe_tup (pac (pe_op op_sub pe_int (pe_ix ix_tup (pv 0) pe_int (fun _ _ => rfl))) (pac (pe_ix ix_tup (pv 0) pe_int (fun _ _ => rfl)) pa_nil))))), ?_⟩
  refine ⟨_, rfl, p1, _, _, _, rfl, rfl, h1, at0, _, _, rfl, rfl, _, rfl, p1, _, _, _, rfl, rfl, h1, at1, (by show 2 ≤ sizeLine; decide), ?_⟩
  intro p3 n3; generalize eX : upd _ p3 _ = H3; have s3 := eX ▸ same_new n3 _; have e3 : H3 p3 = some _ := eX ▸ upd_same; clear eX
  exact q p3 H3 s3 e3
def nameOf (st a k : Int) : Str := if st = 0 then Txt.mul "p" (k + 1) else if st = 1 then Txt.mul "p" a ++ ⟨#[(atI (Str.ofString "bcdefghijklm").cps.toList k).getD 0]⟩ ++ Txt.mul "p" (5 - a) else Txt.slice "12345" none (some a) ++ (toString k : String)
theorem names_ne : ∀ st : Fin 3, ∀ a : Fin 6, ∀ k : Fin 12, ∀ j : Fin 12, k ≠ j → nameOf (st.val : Int) (a.val : Int) (k.val : Int) ≠ nameOf (st.val : Int) (a.val : Int) (j.val : Int) := by decide +kernel
theorem mul_ok : ∀ n : Fin 20, MulOk "p" (n.val : Int) := by
  intro n
  unfold MulOk
  revert n
  decide +kernel
theorem let_at : ∀ k : Fin 12, atI (Str.ofString "bcdefghijklm").cps.toList (k.val : Int) = some ((atI (Str.ofString "bcdefghijklm").cps.toList (k.val : Int)).getD 0) := by decide +kernel
theorem name_len : ∀ a : Fin 6, ∀ k : Fin 12, (Txt.mul "p" (a.val : Int)).length + (⟨#[(atI (Str.ofString "bcdefghijklm").cps.toList (k.val : Int)).getD 0]⟩ : Str).length ≤ 1000 ∧
    (Txt.mul "p" (a.val : Int) ++ (⟨#[(atI (Str.ofString "bcdefghijklm").cps.toList (k.val : Int)).getD 0]⟩ : Str)).length + (Txt.mul "p" (5 - (a.val : Int))).length ≤ 1000 ∧ (Txt.slice "12345" none (some (a.val : Int))).length + (Str.ofString (toString (k.val : Int))).length ≤ 1000 := by decide +kernel
def spName : Sp := fun vs H Q _ => ∃ (c k : Int), vs = [.int c, .int k] ∧ 0 ≤ k ∧ k < 12 ∧ Q (.str (nameOf (field c 3001 3) (field c 4001 6) k)) H
theorem sc_law_name : FnScope ["_law_cell", "_law_k", "_law_style", "_law_at"] ["_law_cell", "_law_k"] (defScope s_law_name) := ⟨rfl, rfl, rfl, by decide +kernel, rfl, by decide +kernel, by decide +kernel⟩
theorem ok_law_name (hM : Mute CX) (D : Def K mg "_law_name" s_law_name ["_law_cell", "_law_k"]) (m_str : mg "str" = none) (G_law_field : Fn P w K mg base CX 1 "_law_field" ["_law_cell", "_law_prime", "_law_many"] spField) : Fn P w K mg base CX 2 "_law_name" ["_law_cell", "_law_k"] spName := by
  refine D.ok sc_law_name (fun vs H Q E h => ?_) (fun f cdv A outer s H vs Q E hr h => ?_)
  · obtain ⟨c, k, rfl, _⟩ := h
    rfl
  obtain ⟨c, k, rfl, h0, h12, q⟩ := h
  have px := passM (X := cxOf CX P w K mg base ["_law_cell", "_law_k", "_law_style", "_law_at"] "_law_name" (defScope s_law_name) f cdv A outer s H E) hM
  refine ⟨_, (pss_cons (ps_set (i := 2) sc_law_name.nd rfl (Or.inl rfl) (pe_fn G_law_field (hr.mono (by decide)) px (pac (pv 0) (pac pe_int (pac pe_int pa_nil)))))
    (pss_cons (ps_set (i := 3) sc_law_name.nd rfl (Or.inl rfl) (pe_fn G_law_field (hr.mono (by decide)) px (pac (pv 0) (pac pe_int (pac pe_int pa_nil)))))
    (pss_cons (ps_if (pt_cmpR op_eq (pv 2) pe_int (nomark _)) (pss_one (ps_ret (pe_op op_mulS pe_str (pe_op op_add (pv 1) pe_int)))) pss_nil)
    (pss_cons (ps_if (pt_cmpR op_eq (pv 2) pe_int (nomark _)) (pss_one (ps_ret (pe_op op_add_str (pe_op op_add_str (pe_op op_mulS pe_str (pv 3)) (pe_ix ix_str pe_str (pv 1) (fun _ _ => rfl))) (pe_op op_mulS pe_str (pe_op op_sub pe_int (pv 3)))))) pss_nil)
    (pss_one (ps_ret (pe_op op_add_str (pe_slice sl_str pe_str po_none (po_some (pv 3))) (pe_callTy call_str_int rfl m_str b_str (pac (pv 1) pa_nil))))))))), ?_⟩
  have i1 := field_in (c := c) (p := 3001) (m := 3) (by decide)
  have i2 := field_in (c := c) (p := 4001) (m := 6) (by decide)
  refine ⟨_, rfl, _, _, _, rfl, by decide, by decide, by decide, ?_⟩
  refine ⟨_, rfl, _, _, _, rfl, by decide, by decide, by decide, ?_⟩
  generalize field c 3001 3 = st at i1 q ⊢
  generalize field c 4001 6 = a at i2 q ⊢
  obtain ⟨kn, rfl⟩ : ∃ n : Nat, k = (n : Int) := ⟨k.toNat, by omega⟩
  obtain ⟨an, rfl⟩ : ∃ n : Nat, a = (n : Int) := ⟨a.toNat, by omega⟩
  have mk : ∀ i : Int, 0 ≤ i → i < 20 → MulOk "p" i := fun i a b => by
    have := mul_ok ⟨i.toNat, by omega⟩
    rwa [show ((⟨i.toNat, by omega⟩ : Fin 20).val : Int) = i by show ((i.toNat : Nat) : Int) = i; omega] at this
  refine ⟨_, rfl, rfl, _, rfl, ?_⟩
  refine ite2 (fun z => ?_) (fun z => ?_)
  · have z' : st = 0 := by simpa [eqV] using z
    subst z'
    refine ⟨_, rfl, _, _, rfl, rfl, _, _, rfl, rfl, mk _ (by omega) (by omega), ?_⟩
    exact q
  have z' : ¬ st = 0 := by simpa [eqV] using z
  have nl := name_len ⟨an, by omega⟩ ⟨kn, by omega⟩
  refine ⟨_, rfl, rfl, _, rfl, ?_⟩
  refine ite2 (fun z3 => ?_) (fun z3 => ?_)
  · have z3' : st = 1 := by simpa [eqV] using z3
    subst z3'
    refine ⟨_, rfl, _, _, rfl, rfl, mk _ (by omega) (by omega), _, rfl, _, _, _, rfl, rfl, (by decide +kernel), let_at ⟨kn, by omega⟩, ?_⟩
    refine ⟨_, _, rfl, rfl, Nat.le_trans nl.1 (by decide), _, rfl, _, _, rfl, rfl, _, _, rfl, rfl, mk _ (by omega) (by omega), _, _, rfl, rfl, Nat.le_trans nl.2.1 (by decide), ?_⟩
    exact q
  · have z3' : ¬ st = 1 := by simpa [eqV] using z3
    refine ⟨_, rfl, _, rfl, _, rfl, (by decide +kernel), ?_⟩
    have lg : (kn : Int).natAbs.log2 < 1920 := Nat.lt_of_le_of_lt (Nat.log2_le_self _) (by show kn < 1920; omega)
    refine ⟨_, rfl, _, rfl, lg, _, _, rfl, rfl, Nat.le_trans nl.2.2 (by decide), ?_⟩
    have e : nameOf st (an : Int) (kn : Int) = Txt.slice "12345" none (some (an : Int)) ++ Str.ofString (toString (kn : Int)) := by
      unfold nameOf
      rw [if_neg z', if_neg z3']
    rw [e] at q
    exact q
def WaysOk (ws : List (Rat × Rat)) : Prop := ws = [] ∨ (∃ x y : Rat, ws = [(x, y)] ∧ ¬ (x = 0 ∧ y = 0) ∧ Sz 50 x ∧ Sz 50 y) ∨ ws = [(1, 0), (0, 1)]
theorem nm_lit {K : PySem.W.Frag} {H : Hp} {p : Addr} (i : Int) (h : H p = some (.tup [.int i, .int 1])) : NmR K H (.ref p) (i : Rat) := ⟨p, rfl, by rw [qr_int]; exact SqT.of h⟩
theorem nm_of {K : PySem.W.Frag} {H : Hp} {p : Addr} {r : Rat} (h : H p = some (.tup [.int (qr r).1, .int (qr r).2])) : NmR K H (.ref p) r := ⟨p, rfl, SqT.of h⟩
theorem pt_of {K : PySem.W.Frag} {H : Hp} {p : Addr} {u v : V} {r s : Rat} (h : H p = some (.tup [u, v])) (h1 : NmR K H u r) (h2 : NmR K H v s) : PtR K H (.ref p) (r, s) := ⟨p, u, v, rfl, SqT.of h, h1, h2⟩
theorem sz_small {k : Nat} {i : Int} (h : i.natAbs < 1048576) (hk : 20 ≤ k) : Sz k (i : Rat) := sz_int (Nat.lt_of_lt_of_le h (show 2 ^ 20 ≤ 2 ^ k from Nat.pow_le_pow_right (by decide) hk)) (by omega)
theorem sz_frac {t b : Int} (h : 0 < b) (h1 : t.natAbs < 1048576) (h2 : b < 1048576) : Sz 20 ((t : Rat) / (b : Rat)) := sz_low (Int.ne_of_gt h) (intBits_le_iff.mpr (by show _ < 1048576; omega)) (intBits_le_iff.mpr (by show _ < 1048576; omega))
def spSpotL (K : PySem.W.Frag) : Sp := fun vs H Q _ => ∃ (c k : Int), vs = [.int c, .int k] ∧ ∀ (p : Addr) (x y : Rat) (H' : Hp), Same H H' → Sz 20 x → Sz 20 y → PtR K H' (.ref p) (x, y) → Q (.ref p) H'
theorem sc_law_spot : FnScope ["_law_cell", "_law_kind", "_law_x"] ["_law_cell", "_law_kind"] (defScope s_law_spot) := ⟨rfl, rfl, rfl, by decide +kernel, rfl, by decide +kernel, by decide +kernel⟩
theorem ok_law_spot (D : Def K mg "_law_spot" s_law_spot ["_law_cell", "_law_kind"]) (G_law_field : Fn P w K mg base (CXr P w) 1 "_law_field" ["_law_cell", "_law_prime", "_law_many"] spField) (G_law_lowest : Fn P w K mg base (CXr P w) 33 "_law_lowest" ["_law_top", "_law_bottom"] spLaw_lowestU) : Fn P w K mg base (CXr P w) 34 "_law_spot" ["_law_cell", "_law_kind"] (spSpotL K) := by
  refine D.ok sc_law_spot (fun vs H Q E h => ?_) (fun f cdv A outer s H vs Q E hr h => ?_)
  · obtain ⟨c, k, rfl, _⟩ := h
    rfl
  obtain ⟨c, k, rfl, q⟩ := h
  have px := passM (X := (cxOf (CXr P w) P w K mg base ["_law_cell", "_law_kind", "_law_x"] "_law_spot" (defScope s_law_spot) f cdv A outer s H E)) (CXr.mute (P := P) (w := w))
  have L2 : 2 ≤ sizeLine := by decide
  refine ⟨_, (pss_cons (ps_if (pt_cmpR op_eq (pv 1) pe_int (nomark _)) (pss_one (ps_ret (pe_tup (pac (pe_tup (pac (pe_fn G_law_field (hr.mono (by decide)) px (pac (pv 0) (pac pe_int (pac pe_int pa_nil)))) (pac pe_int pa_nil))) (pac (pe_tup (pac (pe_fn G_law_field (hr.mono (by decide)) px (pac (pv 0) (pac pe_int (pac pe_int pa_nil)))) (pac pe_int pa_nil))) pa_nil))))) pss_nil)
    (pss_cons (ps_if (pt_cmpR op_eq (pv 1) pe_int (nomark _)) (pss_cons (ps_set (i := 2) sc_law_spot.nd rfl (Or.inl rfl) (pe_fn G_law_lowest (hr.mono (by decide)) px (pac (pe_op op_sub (pe_fn G_law_field (hr.mono (by decide)) px (pac (pv 0) (pac pe_int (pac pe_int pa_nil)))) pe_int) (pac (pe_op op_add pe_int (pe_fn G_law_field (hr.mono (by decide)) px (pac (pv 0) (pac pe_int (pac pe_int pa_nil))))) pa_nil))))
      (pss_one (ps_ret (pe_tup (pac (pv 2) (pac (pe_fn G_law_lowest (hr.mono (by decide)) px (pac (pe_op op_sub (pe_fn G_law_field (hr.mono (by decide)) px (pac (pv 0) (pac pe_int (pac pe_int pa_nil)))) pe_int) (pac (pe_op op_add pe_int (pe_fn G_law_field (hr.mono (by decide)) px (pac (pv 0) (pac pe_int (pac pe_int pa_nil))))) pa_nil))) pa_nil)))))) pss_nil)
    (pss_cons (ps_set (i := 2) sc_law_spot.nd rfl (Or.inl rfl) (pe_fn G_law_lowest (hr.mono (by decide)) px (pac (pe_op op_sub (pe_fn G_law_field (hr.mono (by decide)) px (pac (pv 0) (pac pe_int (pac pe_int pa_nil)))) pe_int) (pac (pe_op op_add pe_int (pe_fn G_law_field (hr.mono (by decide)) px (pac (pv 0) (pac pe_int (pac pe_int pa_nil))))) pa_nil))))
    (pss_one (ps_ret (pe_tup (pac (pv 2) (pac (pe_fn G_law_lowest (hr.mono (by decide)) px (pac (pe_op op_sub (pe_fn G_law_field (hr.mono (by decide)) px (pac (pv 0) (pac pe_int (pac pe_int pa_nil)))) pe_int) (pac (pe_op op_add pe_int (pe_fn G_law_field (hr.mono (by decide)) px (pac (pv 0) (pac pe_int (pac pe_int pa_nil))))) pa_nil))) pa_nil)))))))), ?_⟩
  refine ⟨_, rfl, rfl, _, rfl, ?_⟩
  refine ite2 (fun _ => ?_) (fun _ => ?_)
  · have i1 := field_in (c := c) (p := 1009) (m := 4) (by decide)
    have i2 := field_in (c := c) (p := 2003) (m := 4) (by decide)
    refine ⟨_, rfl, _, _, _, rfl, by decide, by decide, by decide, L2, ?_⟩
    intro p1 n1; generalize eX : upd _ p1 _ = H1; have s1 := eX ▸ same_new n1 _; have e1 : H1 p1 = some _ := eX ▸ upd_same; clear eX
    refine ⟨_, rfl, _, _, _, rfl, by decide, by decide, by decide, L2, ?_⟩
    intro p2 n2; generalize eX : upd _ p2 _ = H2; have s2 := eX ▸ same_new n2 _; have e2 : H2 p2 = some _ := eX ▸ upd_same; clear eX
    refine ⟨L2, ?_⟩
    intro p3 n3; generalize eX : upd _ p3 _ = H3; have s3 := eX ▸ same_new n3 _; have e3 : H3 p3 = some _ := eX ▸ upd_same; clear eX
    exact q p3 _ _ H3 ((s1.trans s2).trans s3) (sz_small (by omega) (by decide)) (sz_small (by omega) (by decide)) (pt_of e3 (((nm_lit _ e1).same s2).same s3) ((nm_lit _ e2).same s3))
  refine ⟨_, rfl, rfl, _, rfl, ?_⟩
  refine ite2 (fun _ => ?_) (fun _ => ?_)
  · have i1 := field_in (c := c) (p := 1009) (m := 13) (by decide)
    have i2 := field_in (c := c) (p := 3001) (m := 3) (by decide)
    have i3 := field_in (c := c) (p := 2003) (m := 13) (by decide)
    have i4 := field_in (c := c) (p := 4001) (m := 2) (by decide)
    refine ⟨_, rfl, _, _, _, rfl, by decide, by decide, by decide, _, _, rfl, rfl, _, rfl, _, _, _, rfl, by decide, by decide, by decide, _, _, rfl, rfl, _, _, rfl, by omega, fun p1 H1 s1 e1 => ?_⟩
    rw [low_qr (by omega)] at e1
    refine ⟨_, rfl, _, rfl, _, _, _, rfl, by decide, by decide, by decide, _, _, rfl, rfl, _, rfl, _, _, _, rfl, by decide, by decide, by decide, _, _, rfl, rfl, _, _, rfl, by omega, fun p2 H2 s2 e2 => ⟨L2, ?_⟩⟩
    rw [low_qr (by omega)] at e2
    intro p3 n3; generalize eX : upd _ p3 _ = H3; have s3 := eX ▸ same_new n3 _; have e3 : H3 p3 = some _ := eX ▸ upd_same; clear eX
    exact q p3 _ _ H3 ((s1.trans s2).trans s3) (sz_frac (by omega) (by omega) (by omega)) (sz_frac (by omega) (by omega) (by omega)) (pt_of e3 (((nm_of e1).same s2).same s3) ((nm_of e2).same s3))
  · have i1 := field_in (c := c) (p := 1000003) (m := 1000003) (by decide)
    have i2 := field_in (c := c) (p := 3001) (m := 997) (by decide)
    have i3 := field_in (c := c) (p := 1000033) (m := 1000003) (by decide)
    have i4 := field_in (c := c) (p := 4001) (m := 997) (by decide)
    refine ⟨_, rfl, _, _, _, rfl, by decide, by decide, by decide, _, _, rfl, rfl, _, rfl, _, _, _, rfl, by decide, by decide, by decide, _, _, rfl, rfl, _, _, rfl, by omega, fun p1 H1 s1 e1 => ?_⟩
    rw [low_qr (by omega)] at e1
    refine ⟨_, rfl, _, rfl, _, _, _, rfl, by decide, by decide, by decide, _, _, rfl, rfl, _, rfl, _, _, _, rfl, by decide, by decide, by decide, _, _, rfl, rfl, _, _, rfl, by omega, fun p2 H2 s2 e2 => ⟨L2, ?_⟩⟩
    rw [low_qr (by omega)] at e2
    intro p3 n3; generalize eX : upd _ p3 _ = H3; have s3 := eX ▸ same_new n3 _; have e3 : H3 p3 = some _ := eX ▸ upd_same; clear eX
    exact q p3 _ _ H3 ((s1.trans s2).trans s3) (sz_frac (by omega) (by omega) (by omega)) (sz_frac (by omega) (by omega) (by omega)) (pt_of e3 (((nm_of e1).same s2).same s3) ((nm_of e2).same s3))
def spWaysL (K : PySem.W.Frag) : Sp := fun vs H Q _ => ∃ c : Int, vs = [.int c] ∧ ∀ (l : Addr) (us : List V) (ws : List (Rat × Rat)) (H' : Hp), WaysOk ws → Same H H' → H l = none → H' l = some (.lst us) → PtsR K H' us ws → Q (.ref l) H'
theorem qr_top0 {r : Rat} : (qr r).1 = 0 ↔ r = 0 := ⟨qr_zero, fun e => by rw [e, qr_nought]⟩
theorem sc_law_ways : FnScope ["_law_cell", "_law_kind", "_law_x", "_law_y"] ["_law_cell"] (defScope s_law_ways) := ⟨rfl, rfl, rfl, by decide +kernel, rfl, by decide +kernel, by decide +kernel⟩
theorem ok_law_ways (D : Def K mg "_law_ways" s_law_ways ["_law_cell"]) (G_law_field : Fn P w K mg base (CXr P w) 1 "_law_field" ["_law_cell", "_law_prime", "_law_many"] spField) (G_law_lowest : Fn P w K mg base (CXr P w) 33 "_law_lowest" ["_law_top", "_law_bottom"] spLaw_lowestU) : Fn P w K mg base (CXr P w) 34 "_law_ways" ["_law_cell"] (spWaysL K) := by
  refine D.ok sc_law_ways (fun vs H Q E h => ?_) (fun f cdv A outer s H vs Q E hr h => ?_)
  · obtain ⟨c, rfl, _⟩ := h
    rfl
  obtain ⟨c, rfl, q⟩ := h
  have px := passM (X := (cxOf (CXr P w) P w K mg base ["_law_cell", "_law_kind", "_law_x", "_law_y"] "_law_ways" (defScope s_law_ways) f cdv A outer s H E)) (CXr.mute (P := P) (w := w))
  have L0 : 0 ≤ sizeLine := by decide
  have L1 : 1 ≤ sizeLine := by decide
  have L2 : 2 ≤ sizeLine := by decide
  refine ⟨_, (pss_cons (ps_set (i := 1) sc_law_ways.nd rfl (Or.inl rfl) (pe_fn G_law_field (hr.mono (by decide)) px (pac (pv 0) (pac pe_int (pac pe_int pa_nil)))))
    (pss_cons (ps_if (pt_cmpR op_lt (pv 1) pe_int (nomark _)) (pss_one (ps_ret (pe_lst pa_nil))) pss_nil)
    (pss_cons (ps_if (pt_cmpR op_lt (pv 1) pe_int (nomark _)) (pss_one (ps_ret (pe_lst (pac (pe_tup (pac (pe_tup (pac pe_int (pac pe_int pa_nil))) (pac (pe_tup (pac pe_int (pac pe_int pa_nil))) pa_nil))) (pac (pe_tup (pac (pe_tup (pac pe_int (pac pe_int pa_nil))) (pac (pe_tup (pac pe_int (pac pe_int pa_nil))) pa_nil))) pa_nil))))) pss_nil)
    (pss_cons (ps_set (i := 2) sc_law_ways.nd rfl (Or.inl rfl) (pe_fn G_law_lowest (hr.mono (by decide)) px (pac (pe_op op_sub (pe_fn G_law_field (hr.mono (by decide)) px (pac (pv 0) (pac pe_int (pac pe_int pa_nil)))) pe_int) (pac (pe_op op_add pe_int (pe_fn G_law_field (hr.mono (by decide)) px (pac (pv 0) (pac pe_int (pac pe_int pa_nil))))) pa_nil))))
    (pss_cons (ps_set (i := 3) sc_law_ways.nd rfl (Or.inl rfl) (pe_fn G_law_lowest (hr.mono (by decide)) px (pac (pe_op op_sub (pe_fn G_law_field (hr.mono (by decide)) px (pac (pv 0) (pac pe_int (pac pe_int pa_nil)))) pe_int) (pac (pe_op op_add pe_int (pe_fn G_law_field (hr.mono (by decide)) px (pac (pv 0) (pac pe_int (pac pe_int pa_nil))))) pa_nil))))
    (pss_cons (ps_if (PW.pt (pw_and (pt_cmpR op_eq (pe_ix ix_tup (pv 2) pe_int (fun _ _ => rfl)) pe_int (nomark _)) (pw_and1 (pt_cmpR op_eq (pe_ix ix_tup (pv 3) pe_int (fun _ _ => rfl)) pe_int (nomark _))))) (pss_one (ps_set (i := 3) sc_law_ways.nd rfl (Or.inl rfl) (pe_tup (pac pe_int (pac pe_int pa_nil))))) pss_nil)
    (pss_one (ps_ret (pe_lst (pac (pe_tup (pac (pv 2) (pac (pv 3) pa_nil))) pa_nil)))))))))), ?_⟩
  refine ⟨_, rfl, _, _, _, rfl, by decide, by decide, by decide, ?_⟩
  refine ⟨_, rfl, _, _, rfl, rfl, _, rfl, ?_⟩
  refine ite2 (fun _ => ?_) (fun _ => ?_)
  · refine ⟨L0, ?_⟩
    intro l nl; generalize eX : upd _ l _ = H1; have s1 := eX ▸ same_new nl _; have e1 : H1 l = some _ := eX ▸ upd_same; clear eX
    exact q l [] [] H1 (.inl rfl) s1 nl e1 .nil
  refine ⟨_, rfl, _, _, rfl, rfl, _, rfl, ?_⟩
  refine ite2 (fun _ => ?_) (fun _ => ?_)
  · refine ⟨L2, ?_⟩
    intro p1 n1; generalize eX : upd _ p1 _ = H1; have s1 := eX ▸ same_new n1 _; have e1 : H1 p1 = some _ := eX ▸ upd_same; clear eX
    refine ⟨L2, ?_⟩
    intro p2 n2; generalize eX : upd _ p2 _ = H2; have s2 := eX ▸ same_new n2 _; have e2 : H2 p2 = some _ := eX ▸ upd_same; clear eX
    refine ⟨L2, ?_⟩
    intro p3 n3; generalize eX : upd _ p3 _ = H3; have s3 := eX ▸ same_new n3 _; have e3 : H3 p3 = some _ := eX ▸ upd_same; clear eX
    refine ⟨L2, ?_⟩
    intro p4 n4; generalize eX : upd _ p4 _ = H4; have s4 := eX ▸ same_new n4 _; have e4 : H4 p4 = some _ := eX ▸ upd_same; clear eX
    refine ⟨L2, ?_⟩
    intro p5 n5; generalize eX : upd _ p5 _ = H5; have s5 := eX ▸ same_new n5 _; have e5 : H5 p5 = some _ := eX ▸ upd_same; clear eX
    refine ⟨L2, ?_⟩
    intro p6 n6; generalize eX : upd _ p6 _ = H6; have s6 := eX ▸ same_new n6 _; have e6 : H6 p6 = some _ := eX ▸ upd_same; clear eX
    refine ⟨L2, ?_⟩
    intro p7 n7; generalize eX : upd _ p7 _ = H7; have s7 := eX ▸ same_new n7 _; have e7 : H7 p7 = some _ := eX ▸ upd_same; clear eX
    have sh := s1.trans (s2.trans (s3.trans (s4.trans (s5.trans s6))))
    have w1 : PtR K H7 (.ref p3) (1, 0) := pt_mk qr_one qr_nought (s7 _ _ (s6 _ _ (s5 _ _ (s4 _ _ e3)))) (s7 _ _ (s6 _ _ (s5 _ _ (s4 _ _ (s3 _ _ (s2 _ _ e1)))))) (s7 _ _ (s6 _ _ (s5 _ _ (s4 _ _ (s3 _ _ e2)))))
    have w2 : PtR K H7 (.ref p6) (0, 1) := pt_mk qr_nought qr_one (s7 _ _ e6) (s7 _ _ (s6 _ _ (s5 _ _ e4))) (s7 _ _ (s6 _ _ e5))
    exact q p7 _ [(1, 0), (0, 1)] _ (.inr (.inr rfl)) (sh.trans s7) (sh.free n7) e7 (.cons w1 (.cons w2 .nil))
  have i1 := field_in (c := c) (p := 6007) (m := 7) (by decide)
  have i2 := field_in (c := c) (p := 7001) (m := 3) (by decide)
  have i3 := field_in (c := c) (p := 8009) (m := 7) (by decide)
  have i4 := field_in (c := c) (p := 9001) (m := 2) (by decide)
  refine ⟨_, rfl, _, _, _, rfl, by decide, by decide, by decide, _, _, rfl, rfl, _, rfl, _, _, _, rfl, by decide, by decide, by decide, _, _, rfl, rfl, _, _, rfl, by omega, fun p1 H1 s1 e1 => ?_⟩
  rw [low_qr (by omega)] at e1
  refine ⟨_, rfl, _, _, _, rfl, by decide, by decide, by decide, _, _, rfl, rfl, _, rfl, _, _, _, rfl, by decide, by decide, by decide, _, _, rfl, rfl, _, _, rfl, by omega, fun p2 H2 s2 e2 => ?_⟩
  rw [low_qr (by omega)] at e2
  have z1 := sz_frac (t := field c 6007 7 - 3) (b := 1 + field c 7001 3) (by omega) (by omega) (by omega)
  have z2 := sz_frac (t := field c 8009 7 - 3) (b := 1 + field c 9001 2) (by omega) (by omega) (by omega)
  generalize ((field c 6007 7 - 3 : Int) : Rat) / ((1 + field c 7001 3 : Int) : Rat) = x at e1 z1 ⊢
  generalize ((field c 8009 7 - 3 : Int) : Rat) / ((1 + field c 9001 2 : Int) : Rat) = y at e2 z2 ⊢
  have e1' := s2 _ _ e1
  have s12 := s1.trans s2
  have fin : ∀ (v : V) (y' : Rat) (H3 : Hp), Same H2 H3 → NmR K H3 v y' → Sz 50 y' → ¬ (x = 0 ∧ y' = 0) → ∀ (p : Addr) (l : Addr) (H5 : Hp), Same H3 H5 → H3 l = none → H5 p = some (.tup [.ref p1, v]) → H5 l = some (.lst [.ref p]) → Q (.ref l) H5 := fun v y' H3 s3 hv zy hn p l H5 s5 nl ep el =>
    q l [.ref p] [(x, y')] H5 (.inr (.inl ⟨x, y', rfl, hn, z1.up (by decide), zy⟩)) (s12.trans (s3.trans s5)) ((s12.trans s3).free nl) el (.cons (pt_of ep (((nm_of e1').same s3).same s5) (hv.same s5)) .nil)
  refine ⟨_, rfl, p1, _, _, _, rfl, rfl, SqT.of e1', at0, rfl, _, rfl, ?_⟩
  refine ite2 (fun c1 => ?_) (fun c1 => ?_)
  · have c1' : x = 0 := qr_top0.mp (by simpa using of_decide_eq_true c1)
    refine ⟨_, rfl, p2, _, _, _, rfl, rfl, SqT.of e2, at0, rfl, _, rfl, ?_⟩
    refine ite2 (fun c2 => ?_) (fun c2 => ?_)
    · refine ⟨L2, ?_⟩
      intro p3 n3; generalize eX : upd _ p3 _ = H3; have s3 := eX ▸ same_new n3 _; have e3 : H3 p3 = some _ := eX ▸ upd_same; clear eX
      refine ⟨_, rfl, _, rfl, L2, ?_⟩
      intro p4 n4; generalize eX : upd _ p4 _ = H4; have s4 := eX ▸ same_new n4 _; have e4 : H4 p4 = some _ := eX ▸ upd_same; clear eX
      refine ⟨L1, ?_⟩
      intro l5 n5; generalize eX : upd _ l5 _ = H5; have s5 := eX ▸ same_new n5 _; have e5 : H5 l5 = some _ := eX ▸ upd_same; clear eX
      exact fin (.ref p3) 1 H3 s3 (nm_lit 1 e3) (sz_small (i := 1) (by decide) (by decide)) (fun z => absurd z.2 (by decide)) p4 l5 H5 (s4.trans s5) (s4.free n5) (s5 _ _ e4) e5
    · have c2' : ¬ y = 0 := fun z => c2 (by rw [z, qr_nought]; decide)
      refine ⟨_, rfl, _, rfl, L2, ?_⟩
      intro p4 n4; generalize eX : upd _ p4 _ = H4; have s4 := eX ▸ same_new n4 _; have e4 : H4 p4 = some _ := eX ▸ upd_same; clear eX
      refine ⟨L1, ?_⟩
      intro l5 n5; generalize eX : upd _ l5 _ = H5; have s5 := eX ▸ same_new n5 _; have e5 : H5 l5 = some _ := eX ▸ upd_same; clear eX
      exact fin (.ref p2) y H2 (Same.refl _) (nm_of e2) (z2.up (by decide)) (fun z => c2' z.2) p4 l5 H5 (s4.trans s5) (s4.free n5) (s5 _ _ e4) e5
  · have c1' : ¬ x = 0 := fun z => c1 (by rw [z, qr_nought]; decide)
    refine iteF ?_
    refine ⟨_, rfl, _, rfl, L2, ?_⟩
    intro p4 n4; generalize eX : upd _ p4 _ = H4; have s4 := eX ▸ same_new n4 _; have e4 : H4 p4 = some _ := eX ▸ upd_same; clear eX
    refine ⟨L1, ?_⟩
    intro l5 n5; generalize eX : upd _ l5 _ = H5; have s5 := eX ▸ same_new n5 _; have e5 : H5 l5 = some _ := eX ▸ upd_same; clear eX
    exact fin (.ref p2) y H2 (Same.refl _) (nm_of e2) (z2.up (by decide)) (fun z => c1' z.1) p4 l5 H5 (s4.trans s5) (s4.free n5) (s5 _ _ e4) e5
def spCheckBars (K : PySem.W.Frag) (C : Addr) : Sp := fun vs H Q _ => ∃ (a dx pP pW pB d : Addr) (ps : List (Str × Pt)) (bs : List (Str × Str × Str)) (kP kW kB kvs : List (Key × V)), vs = [.ref a, .ref d] ∧ FrR K H C a dx pP pW pB ps bs kP kW kB ∧ H d = some (.dK kvs) ∧
  (∀ kv ∈ kvs, ∃ x ∈ bs.map (·.1), kv.1 = .inr x) ∧ bs.length ≤ 60 ∧ ∀ H', Same H H' → Q .non H'
theorem sc_check_bars : FnScope ["F", "told", "bars", "bar"] ["F", "told"] (defScope s_check_bars) := ⟨rfl, rfl, rfl, by decide +kernel, rfl, by decide +kernel, by decide +kernel⟩
theorem ok_check_bars {C : Addr} (D : Def K mg "check_bars" s_check_bars ["F", "told"]) (MB : MtdOk P w K mg base (CXr P w) 1 C "bars" ["self"] (spBars K C)) : Fn P w K mg base (CXr P w) 2 "check_bars" ["F", "told"] (spCheckBars K C) := by
  refine D.ok sc_check_bars (fun vs H Q E h => ?_) (fun f cdv A outer s H vs Q E hr h => ?_)
  · obtain ⟨a, dx, pP, pW, pB, d, ps, bs, kP, kW, kB, kvs, rfl, _⟩ := h
    rfl
  obtain ⟨a, dx, pP, pW, pB, d, ps, bs, kP, kW, kB, kvs, rfl, R, hd, hk, hl, q⟩ := h
  have px := passM (X := (cxOf (CXr P w) P w K mg base ["F", "told", "bars", "bar"] "check_bars" (defScope s_check_bars) f cdv A outer s H E)) (CXr.mute (P := P) (w := w))
  refine ⟨_, (pss_cons (ps_set (i := 2) sc_check_bars.nd rfl (Or.inl rfl) (pe_mtd0 (k := 1) (pv 0) (hr.mono (by decide)) px))
    (pss_one (ps_thaw (ps_for PassesOwn.never rfl (pi_keys (pv 1)) (pg_name (i := 3) sc_check_bars.nd rfl (Or.inl rfl)) (pss_one (ps_if (pt_cmpR op_notIn_seq (pv 3) (pv 2) rfl) (pss_one (ps_never)) pss_nil)))))), ?_⟩
  refine ⟨_, rfl, a, C, dx, _, _, _, rfl, R.obj, rfl, MB, a, dx, pP, pW, pB, ps, bs, kP, kW, kB, rfl, R, fun l H1 s1 nl el => ?_⟩
  have hd1 := s1 _ _ hd
  refine ⟨_, rfl, d, kvs, rfl, hd1, fun o => ?_⟩
  have k0 : KSame d H1 (upd H1 d (.frz o (.dK kvs))) := fun b o' n e => by rw [upd_ne n]; exact e
  have ld : l ≠ d := fun z => by rw [z, hd1] at el; cases el
  refine for_keys (d := d) (o := o) (kvs := kvs) (fun t σ H' => ∃ (o2 : Option V), σ = [some (.ref a), some (.ref d), some (.ref l), o2] ∧ H' = upd H1 d (.frz o (.dK kvs))) ⟨none, rfl, rfl⟩ (fun t σ H' _ h => by
      obtain ⟨_, _, rfl⟩ := h
      exact upd_same) ?_ ?_
  · rintro t k y σ H6 ekv ⟨o2, rfl, rfl⟩
    obtain ⟨x, hx, ex⟩ := hk _ (List.mem_of_getElem? ekv)
    have ex' : k = .inr x := ex
    subst ex'
    refine ⟨_, rfl, _, rfl, l, _, rfl, .inl (SqL.of (by rw [upd_ne ld]; exact el)), rfl, flat_strs _, _, rfl, ?_⟩
    refine ite2 (fun c => ?_) (fun _ => ⟨_, rfl, rfl⟩)
    have c' : (!inV (.str x) ((bs.map (·.1)).map V.str)) = true := c
    rw [inV_strs, decide_eq_true hx] at c'
    cases c'
  · rintro σ H6 ⟨o2, rfl, rfl⟩
    refine ⟨d, o, kvs, upd_same, fun o' u' z => (by have z' : H d = some (.frz o' u') := z; rw [hd] at z'; cases z'), ?_⟩
    refine q _ fun b o' e => ?_
    by_cases n : b = d
    · subst n
      rw [hd] at e
      rw [upd_same]
      exact e
    · rw [upd_ne n, upd_ne n]
      exact s1 _ _ e
theorem qr_le0 {r : Rat} (h : r ≤ 0) : (qr r).1 ≤ 0 := by
  show r.num ≤ 0
  have := Rat.num_nonneg (q := -r)
  have h2 : 0 ≤ -r := by grind
  have h3 := this.mpr h2
  rw [Rat.neg_num] at h3
  omega
theorem qr_ge0 {r : Rat} (h : 0 ≤ r) : 0 ≤ (qr r).1 := Rat.num_nonneg.mpr h
def spHasN (K : PySem.W.Frag) : Sp := fun vs H Q _ => ∃ (v : V) (r : Rat × Rat), vs = [v] ∧ PtR K H v r ∧ r.1 ≤ 0 ∧ 0 ≤ r.2 ∧ Q (.bl true) H
theorem sc_has_nought : FnScope ["two"] ["two"] (defScope s_has_nought) := ⟨rfl, rfl, rfl, by decide +kernel, rfl, by decide +kernel, by decide +kernel⟩
theorem ok_has_nought (D : Def K mg "has_nought" s_has_nought ["two"]) : Fn P w K mg base (CXr P w) 1 "has_nought" ["two"] (spHasN K) := by
  refine D.ok sc_has_nought (fun vs H Q E h => ?_) (fun f cdv A outer s H vs Q E hr h => ?_)
  · obtain ⟨v, r, rfl, _⟩ := h
    rfl
  obtain ⟨v, r, rfl, ⟨a, u1, u2, rfl, hsq, ⟨a1, rfl, h1⟩, ⟨a2, rfl, h2⟩⟩, r1, r2, q⟩ := h
  refine ⟨_, (pss_one (ps_ret (pe_chain op_le op_le (pe_ix ix_tup (pe_ix ix_tup (pv 0) pe_int (fun _ _ => rfl)) pe_int (fun _ _ => rfl)) pe_int (pe_ix ix_tup (pe_ix ix_tup (pv 0) pe_int (fun _ _ => rfl)) pe_int (fun _ _ => rfl))))), ?_⟩
  refine ⟨_, rfl, a, _, _, _, rfl, rfl, hsq, at0, a1, _, _, _, rfl, rfl, h1, at0, _, _, rfl, rfl, _, rfl, ?_⟩
  refine ite2 (fun _ => ?_) (fun c => absurd (decide_eq_true (qr_le0 r1)) c)
  refine ⟨_, rfl, a, _, _, _, rfl, rfl, hsq, at1, a2, _, _, _, rfl, rfl, h2, at0, _, _, rfl, rfl, ?_⟩
  have e : decide ((0 : Int) ≤ (qr r.2).1) = true := decide_eq_true (qr_ge0 r2)
  show Q (.bl (decide ((0 : Int) ≤ (qr r.2).1))) H
  rw [e]
  exact q
theorem psnoc {α β : Type} {F : α → β → Prop} : ∀ {l₁ : List α} {l₂ : List β} {a : α} {b : β}, Paired F l₁ l₂ → F a b → Paired F (l₁ ++ [a]) (l₂ ++ [b])
  | _, _, _, _, .nil, h => .cons h .nil
  | _, _, _, _, .cons h t, h' => .cons h (psnoc t h')
def spAllB (K : PySem.W.Frag) (C : Addr) : Sp := fun vs H Q _ => ∃ (a d : Addr) (pins : List PinD) (bars : List BarD) (kvs : List (Key × V)) (B : Str → Rat × Rat), vs = [.ref a, .ref d] ∧ FrA K H C a pins bars ∧ bars.length ≤ 60 ∧ H d = some (.dK kvs) ∧ (∀ kv ∈ kvs, ∃ x ∈ bars.map (·.nm), kv.1 = .inr x) ∧ (∀ b ∈ bars, ∃ v, valV kvs (.inr b.nm) = some v ∧ PtR K H v (B b.nm) ∧ (B b.nm).1 ≤ 0 ∧ 0 ≤ (B b.nm).2) ∧
  ∀ (l : Addr) (us : List V) (H' : Hp), Same H H' → H l = none → H' l = some (.lst us) → Paired (PtR K H') us (bars.map fun b => B b.nm) → Q (.ref l) H'
theorem sc_all_bounds : FnScope ["F", "bounds", "lows_and_highs", "bar"] ["F", "bounds"] (defScope s_all_bounds) := ⟨rfl, rfl, rfl, by decide +kernel, rfl, by decide +kernel, by decide +kernel⟩
theorem ok_all_bounds {C : Addr} (D : Def K mg "all_bounds" s_all_bounds ["F", "bounds"]) (MB : MtdOk P w K mg base (CXr P w) 1 C "bars" ["self"] (spBars K C)) (G_check_bars : Fn P w K mg base (CXr P w) 2 "check_bars" ["F", "told"] (spCheckBars K C)) (G_has_nought : Fn P w K mg base (CXr P w) 1 "has_nought" ["two"] (spHasN K)) :
    Fn P w K mg base (CXr P w) 3 "all_bounds" ["F", "bounds"] (spAllB K C) := by
  refine D.ok sc_all_bounds (fun vs H Q E h => ?_) (fun f cdv A outer s H vs Q E hr h => ?_)
  · obtain ⟨a, d, pins, bars, kvs, B, rfl, _⟩ := h
    rfl
  obtain ⟨a, d, pins, bars, kvs, B, rfl, R, lb, hd, ky, tb, q⟩ := h
  have px := passM (X := (cxOf (CXr P w) P w K mg base ["F", "bounds", "lows_and_highs", "bar"] "all_bounds" (defScope s_all_bounds) f cdv A outer s H E)) (CXr.mute (P := P) (w := w))
  have nmb : ((bars.map fun b => (b.nm, b.one.nm, b.other.nm)).map (·.1)) = bars.map (·.nm) := by rw [List.map_map]; rfl
  refine ⟨_, (pss_cons (ps_expr (pe_fn G_check_bars (hr.mono (by decide)) px (pac (pv 0) (pac (pv 1) pa_nil))))
    (pss_cons (ps_set (i := 2) sc_all_bounds.nd rfl (Or.inl rfl) (pe_lst pa_nil))
    (pss_cons (ps_for PassesOwn.never rfl (pi_list (pe_mtd0 (k := 1) (pv 0) (hr.mono (by decide)) px)) (pg_name (i := 3) sc_all_bounds.nd rfl (Or.inl rfl)) (pss_cons (ps_if (PW.pt (pw_or (pt_cmp (pc_dnotin (hu_of hr) (pv 3) (pv 1))) (pw_or1 (pt_not (pt_val (pe_fn G_has_nought (hr.mono (by decide)) px (pac (pe_dget (hu_of hr) (pv 1) (pv 3) (fun _ _ => rfl)) pa_nil))))))) (pss_one (ps_never)) pss_nil)
      (pss_one (ps_expr (pe_bm PySem.F.plainAttrs_list PySem.F.slot_list_append PySem.F.type_list_append mt_append (pv 2) (pac (pe_dget (hu_of hr) (pv 1) (pv 3) (fun _ _ => rfl)) pa_nil))))))
    (pss_one (ps_ret (pv 2)))))), ?_⟩
  obtain ⟨dx, pP, pW, pB, kP, kW, kB, F0, W0⟩ := R.ex
  refine ⟨_, rfl, _, rfl, a, dx, pP, pW, pB, d, _, _, kP, kW, kB, kvs, rfl, F0, hd, (by rw [nmb]; exact ky), by rw [List.length_map]; omega, fun H1 s1 => ⟨(by show 0 ≤ sizeLine; decide), ?_⟩⟩
  intro l2 n2; generalize eX : upd _ l2 _ = H2; have s2 := eX ▸ same_new n2 _; have e2 : H2 l2 = some _ := eX ▸ upd_same; clear eX
  have s02 := s1.trans s2
  have nl2 : H l2 = none := s1.free n2
  have F2 := F0.same s02
  refine ⟨_, rfl, a, C, dx, _, _, _, rfl, F2.obj, rfl, MB, a, dx, pP, pW, pB, _, _, kP, kW, kB, rfl, F2, fun l H3 s3 nl el => ?_⟩
  rw [nmb] at el
  have ne : l ≠ l2 := fun z => by rw [z, e2] at nl; cases nl
  refine ⟨l, rfl, ⟨_, SqL.of el⟩, for_list (K := K) (a := l) (xs := (bars.map (·.nm)).map V.str) (fun i σ H' => ∃ (o3 : Option V) (us : List V), σ = [some (.ref a), some (.ref d), some (.ref l2), o3] ∧ Same H H' ∧ H' l = some (.lst ((bars.map (·.nm)).map V.str)) ∧ H' l2 = some (.lst us) ∧ Paired (PtR K H') us ((bars.take i).map fun b => B b.nm)) ⟨none, [], rfl, s02.trans s3, el, s3 _ _ e2, .nil⟩ (fun i σ H' _ h => by
      obtain ⟨_, _, _, _, h, _⟩ := h
      exact SqL.of h) ?_ ?_⟩
  · rintro i z σ H4 hi ⟨o3, us, rfl, s4, l4, e4, pu⟩
    obtain ⟨b, eb, rfl⟩ : ∃ b, bars[i]? = some b ∧ z = .str b.nm := by
      rw [List.map_map, List.getElem?_map] at hi
      obtain ⟨b, e1, e2⟩ := Option.map_eq_some_iff.mp hi
      exact ⟨b, e1, e2.symm⟩
    obtain ⟨v, ev, hv, v1, v2⟩ := tb b (List.mem_of_getElem? eb)
    have dg : ∀ H' : Hp, Same H H' → DGet H' d (.str b.nm) (some v) := fun H' s' => by
      have := DGet.k (k := .inr b.nm) (s' _ _ hd)
      rw [ev] at this
      exact this
    have lu : us.length = (bars.take i).length := by
      have := Paired.length pu
      rw [List.length_map] at this
      exact this
    rw [List.length_take] at lu
    refine ⟨_, rfl, _, rfl, d, _, rfl, dg _ s4, ?_⟩
    refine ⟨_, rfl, ?_⟩
    refine ite2 (fun c => nomatch c) (fun _ => ?_)
    refine ⟨_, rfl, _, rfl, d, _, rfl, dg _ s4, v, B b.nm, rfl, hv.same s4, v1, v2, _, rfl, ?_⟩
    refine ite2 (fun c => nomatch c) (fun _ => ?_)
    refine ⟨_, rfl, .inl ⟨rfl, _, SqL.of e4⟩, _, rfl, _, rfl, d, _, rfl, dg _ s4, l2, _, _, rfl, rfl, e4, Nat.lt_of_le_of_lt (show us.length ≤ 1000 by omega) (by decide), ?_⟩
    have st : SameT H4 (upd H4 l2 (.lst (us ++ [v]))) := .list e4
    refine ⟨_, us ++ [v], rfl, fun c o z => ?_, ?_, upd_same, ?_⟩
    · rw [upd_ne (ne_of_none z nl2)]
      exact s4 _ _ z
    · rw [upd_ne ne]
      exact l4
    · rw [take_snoc eb, List.map_append]
      exact psnoc (Paired.mapP pu fun _ _ z => z.sameT st) ((hv.same s4).sameT st)
  · rintro σ H4 ⟨o3, us, rfl, s4, l4, e4, pu⟩
    rw [List.length_map, List.length_map, List.take_length] at pu
    exact ⟨_, rfl, q l2 us H4 s4 nl2 e4 pu⟩
theorem qr_gt0 {r : Rat} : 0 < (qr r).1 ↔ 0 < r := by
  have h1 := Rat.num_nonneg (q := r)
  have h2 := Rat.num_eq_zero (q := r)
  show 0 < r.num ↔ 0 < r
  constructor
  · intro h
    have a : 0 ≤ r := h1.mp (by omega)
    have b : r ≠ 0 := fun z => by rw [h2.mpr z] at h; omega
    grind
  · intro h
    have a : 0 ≤ r.num := h1.mpr (by grind)
    have b : r.num ≠ 0 := fun z => by rw [h2.mp z] at h; grind
    omega
def prB (M : Str → Option (Rat × Rat)) (B : Str → Rat × Rat) (b : BarD) : Rat := lenB M b * (if 0 < lenB M b then (B b.nm).2 else (B b.nm).1)
theorem sz_len {pins : List PinD} {bars : List BarD} (g : GoodF pins bars) {M : Str → Option (Rat × Rat)} (z : mvSz M) {b : BarD} (hb : b ∈ bars) : Sz 700 (lenB M b) := by
  obtain ⟨m1, m2, _⟩ := g.ends b hb
  have z1 := g.sz _ m1
  have z2 := g.sz _ m2
  have a1 := (z2.1.sub z1.1).mul ((z b.other.nm).1.sub (z b.one.nm).1)
  have a2 := (z2.2.1.sub z1.2.1).mul ((z b.other.nm).2.sub (z b.one.nm).2)
  exact (a1.add a2).up (by decide)
def spPriceOf (K : PySem.W.Frag) (C : Addr) : Sp := fun vs H Q _ => ∃ (a d e : Addr) (pins : List PinD) (bars : List BarD) (kvs kM : List (Key × V)) (B : Str → Rat × Rat) (M : Str → Option (Rat × Rat)), vs = [.ref a, .ref d, .ref e] ∧ FrA K H C a pins bars ∧ GoodF pins bars ∧ bars.length ≤ 5 ∧ H d = some (.dK kvs) ∧ (∀ kv ∈ kvs, ∃ x ∈ bars.map (·.nm), kv.1 = .inr x) ∧ (∀ b ∈ bars, ∃ v, valV kvs (.inr b.nm) = some v ∧ PtR K H v (B b.nm) ∧ (B b.nm).1 ≤ 0 ∧ 0 ≤ (B b.nm).2) ∧ (∀ b ∈ bars, Sz 50 (B b.nm).1 ∧ Sz 50 (B b.nm).2) ∧
  H e = some (.dK kM) ∧ PtD K H kM M ∧ mvSz M ∧ ∀ (v : V) (H' : Hp), Same H H' → NmR K H' v (bars.map (prB M B)).sum → Sz 4000 (bars.map (prB M B)).sum → Q v H'
theorem sc_price_of : FnScope ["F", "bounds", "motion", "lows_and_highs", "price", "longer", "two"] ["F", "bounds", "motion"] (defScope s_price_of) := ⟨rfl, rfl, rfl, by decide +kernel, rfl, by decide +kernel, by decide +kernel⟩
theorem ok_price_of {C aN : Addr} (hN : ∀ H : Hp, NmR K H (.ref aN) 0) (m_NOUGHT : mg "NOUGHT" = some (.ref aN)) (m_zip : mg "zip" = none) (D : Def K mg "price_of" s_price_of ["F", "bounds", "motion"]) (G_all_bounds : Fn P w K mg base (CXr P w) 3 "all_bounds" ["F", "bounds"] (spAllB K C)) (G_lengthenings : Fn P w K mg base (CXr P w) 37 "lengthenings" ["F", "motion"] (spLen K C)) (G_sum_of : Fn P w K mg base (CXr P w) 34 "sum_of" ["one", "other"] (spBinR K fun a b => a + b)) (G_product_of : Fn P w K mg base (CXr P w) 34 "product_of" ["one", "other"] (spBinR K fun a b => a * b)) :
    Fn P w K mg base (CXr P w) 38 "price_of" ["F", "bounds", "motion"] (spPriceOf K C) := by
  refine D.ok sc_price_of (fun vs H Q E h => ?_) (fun f cdv A outer s H vs Q E hr h => ?_)
  · obtain ⟨a, d, e, pins, bars, kvs, kM, B, M, rfl, _⟩ := h
    rfl
  obtain ⟨a, d, e, pins, bars, kvs, kM, B, M, rfl, R, g, lb, hd, ky, tb, zB, he, hM, zM, q⟩ := h
  have px := passM (X := (cxOf (CXr P w) P w K mg base ["F", "bounds", "motion", "lows_and_highs", "price", "longer", "two"] "price_of" (defScope s_price_of) f cdv A outer s H E)) (CXr.mute (P := P) (w := w))
  refine ⟨_, (pss_cons (ps_set (i := 3) sc_price_of.nd rfl (Or.inl rfl) (pe_fn G_all_bounds (hr.mono (by decide)) px (pac (pv 0) (pac (pv 1) pa_nil))))
    (pss_cons (ps_set (i := 4) sc_price_of.nd rfl (Or.inl rfl) (pe_glob (v := .ref aN) rfl m_NOUGHT rfl))
    (pss_cons (ps_for PassesOwn.never rfl (pi_zipV rfl m_zip (pe_fn G_lengthenings (hr.mono (by decide)) px (pac (pv 0) (pac (pv 2) pa_nil))) (pac (pv 3) pa_nil)) (pg_tup rfl (pgs_cons (pg_name (i := 5) sc_price_of.nd rfl (Or.inl rfl)) (pgs_cons (pg_name (i := 6) sc_price_of.nd rfl (Or.inl rfl)) pgs_nil))) (pss_one (ps_set (i := 4) sc_price_of.nd rfl (Or.inl rfl) (pe_fn G_sum_of (hr.mono (by decide)) px (pac (pv 4) (pac (pe_fn G_product_of (hr.mono (by decide)) px (pac (pv 5) (pac (pe_ifExp (pt_cmpR op_gt (pe_ix ix_tup (pv 5) pe_int (fun _ _ => rfl)) pe_int (nomark _)) (pe_ix ix_tup (pv 6) pe_int (fun _ _ => rfl)) (pe_ix ix_tup (pv 6) pe_int (fun _ _ => rfl))) pa_nil))) pa_nil))))))
    (pss_one (ps_ret (pv 4)))))), ?_⟩
  refine ⟨_, rfl, _, rfl, a, d, pins, bars, kvs, B, rfl, R, by omega, hd, ky, tb, fun l us H1 s1 nl el pu => ?_⟩
  have lu : us.length = bars.length := by
    have := Paired.length pu
    rw [List.length_map] at this
    exact this
  refine ⟨_, rfl, _, rfl, a, e, pins, bars, kM, M, rfl, R.same s1, g, s1 _ _ he, hM.same s1, zM, fun dl kl H2 s2 nd ed ks tl => ?_⟩
  have lk : kl.length = bars.length := by
    have := congrArg List.length ks
    rw [List.length_map, List.length_map] at this
    exact this
  refine ⟨dl, rfl, ⟨_, ed⟩, _, rfl, l, kl, rfl, ⟨_, SqL.of (s2 _ _ el)⟩, ed, fun o => ?_⟩
  have st : SameT H2 (upd H2 dl (.frz o (.dK kl))) := fun b zs r => by
    rcases r with r | ⟨o', r⟩
    · exact .inl (by rw [upd_ne (fun z => by rw [z, ed] at r; cases r)]; exact r)
    · exact .inr ⟨o', by rw [upd_ne (fun z => by rw [z, ed] at r; cases r)]; exact r⟩
  have nd0 : H dl = none := s1.free nd
  have s3 : Same H (upd H2 dl (.frz o (.dK kl))) := fun b o' z => by rw [upd_ne (ne_of_none z nd0)]; exact s2 _ _ (s1 _ _ z)
  have e3 : (upd H2 dl (.frz o (.dK kl))) dl = some (.frz o (.dK kl)) := upd_same
  have l3 : (upd H2 dl (.frz o (.dK kl))) l = some (.lst us) := by rw [upd_ne (fun z => by rw [z, nd] at el; cases el)]; exact s2 _ _ el
  generalize upd H2 dl (.frz o (.dK kl)) = H3 at st s3 e3 l3 ⊢
  have nk : (kl.map (·.1)).Nodup := by
    rw [ks]
    have := g.nb
    have h2 : bars.map (fun b => (Sum.inr b.nm : Key)) = (bars.map (·.nm)).map Sum.inr := by rw [List.map_map]; rfl
    rw [h2]
    exact List.Pairwise.map _ (fun a b h z => h (by injection z)) this
  refine for_zipV (K := K) (d := dl) (b := l) (o := o) (kvs := kl) (ys := us) (fun i σ H' => ∃ (v : V) (o5 o6 : Option V), σ = [some (.ref a), some (.ref d), some (.ref e), some (.ref l), some v, o5, o6] ∧ Same H3 H' ∧ NmR K H' v ((bars.take i).map (prB M B)).sum ∧ Sz (1 + i * 760) ((bars.take i).map (prB M B)).sum) (by omega) ⟨.ref aN, none, none, rfl, Same.refl _, hN _, sz_zero (by decide)⟩ (fun i σ H' _ h => by
      obtain ⟨_, _, _, _, s', _⟩ := h
      exact ⟨s' _ _ e3, SqL.of (s' _ _ l3)⟩) ?_ ?_
  · rintro i k x y σ H4 p4 ek ey ⟨v, o5, o6, rfl, s4, hv, zv⟩ np
    have s5 := same_new np (.tup [x, y])
    have e5 : (upd H4 p4 (.tup [x, y])) p4 = some (.tup [x, y]) := upd_same
    generalize upd H4 p4 (.tup [x, y]) = H5 at s5 e5 ⊢
    have hi : i < bars.length := by
      have := (List.getElem?_eq_some_iff.mp ek).1
      omega
    have eb : bars[i]? = some bars[i] := List.getElem?_eq_getElem hi
    generalize bars[i] = b at eb
    have mb : b ∈ bars := List.mem_of_getElem? eb
    have kb : k = .inr b.nm := by
      have h1 : (kl.map (·.1))[i]? = some k := by rw [List.getElem?_map, ek]; rfl
      rw [ks, List.getElem?_map, eb] at h1
      exact (Option.some.inj h1).symm
    subst kb
    obtain ⟨x', ex', hx⟩ := tl b mb
    rw [valV_at' nk ek] at ex'
    cases ex'
    obtain ⟨r, er, hy⟩ := paired_get pu ey
    rw [List.getElem?_map, eb] at er
    cases er
    have t5 : SameT H2 H5 := st.trans (.of (s4.trans s5))
    have hx5 := hx.sameT t5
    have hy5 := (hy.same s2).sameT t5
    have zl := sz_len g zM mb
    have zb := zB b mb
    refine ⟨p4, _, rfl, SqT.of e5, rfl, _, _, rfl, _, _, rfl, rfl, ?_⟩
    have es : ((bars.take (i + 1)).map (prB M B)).sum = ((bars.take i).map (prB M B)).sum + prB M B b := by
      rw [take_snoc eb, List.map_append, List.sum_append, List.map_cons, List.map_nil, List.sum_cons, List.sum_nil]
      grind
    have two : ∀ (u : V) (c : Rat) (Q' : VK), NmR K H5 u c → Sz 50 c → prB M B b = lenB M b * c → (∀ (p6 : Addr) (H6 : Hp), Same H5 H6 → NmR K H6 (.ref p6) (prB M B b) → Sz 750 (prB M B b) → Q' (.ref p6) H6) → spBinR K (fun a b => a * b) [x, u] H5 Q' E0 := fun u c Q' hu zc ec k => by
      refine ⟨x, u, _, _, rfl, hx5, hu, zl.up (by decide), zc.up (by decide), fun p6 H6 s6 e6 => ?_⟩
      have e6 : H6 p6 = some (.tup [.int (qr (lenB M b * c)).1, .int (qr (lenB M b * c)).2]) := e6
      rw [← ec] at e6
      have zp := zl.mul zc
      rw [← ec] at zp
      exact k p6 H6 s6 (nm_of e6) zp
    obtain ⟨xa, rfl, hxa⟩ := hx5
    obtain ⟨ya, y1, y2, rfl, hsy, hy1, hy2⟩ := hy5
    refine ⟨_, rfl, _, rfl, ?_⟩
    refine ⟨_, rfl, xa, _, _, _, rfl, rfl, hxa, at0, _, _, rfl, rfl, _, rfl, ?_⟩
    refine ite2 (fun c => ?_) (fun c => ?_)
    · have c' : 0 < lenB M b := qr_gt0.mp (of_decide_eq_true c)
      refine ⟨_, rfl, ya, _, _, _, rfl, rfl, hsy, at1, ?_⟩
      dsimp only [tNil]
      show spBinR K (fun a b => a * b) [_, _] _ _ E0
      refine two y2 (B b.nm).2 _ hy2 zb.2 (by unfold prB; rw [if_pos c']) fun p6 H6 s6 n6 z6 => ?_
      refine ⟨v, .ref p6, _, _, rfl, hv.same (s5.trans s6), n6, zv.up (by omega), z6.up (by decide), fun p7 H7 s7 e7 => ?_⟩
      refine ⟨_, _, _, rfl, s4.trans (s5.trans (s6.trans s7)), by rw [es]; exact nm_of e7, ?_⟩
      rw [es]
      exact (zv.add z6).up (by omega)
    · have c' : ¬ 0 < lenB M b := fun z => c (decide_eq_true (qr_gt0.mpr z))
      refine ⟨_, rfl, ya, _, _, _, rfl, rfl, hsy, at0, ?_⟩
      dsimp only [tNil]
      show spBinR K (fun a b => a * b) [_, _] _ _ E0
      refine two y1 (B b.nm).1 _ hy1 zb.1 (by unfold prB; rw [if_neg c']) fun p6 H6 s6 n6 z6 => ?_
      refine ⟨v, .ref p6, _, _, rfl, hv.same (s5.trans s6), n6, zv.up (by omega), z6.up (by decide), fun p7 H7 s7 e7 => ?_⟩
      refine ⟨_, _, _, rfl, s4.trans (s5.trans (s6.trans s7)), by rw [es]; exact nm_of e7, ?_⟩
      rw [es]
      exact (zv.add z6).up (by omega)
  · rintro σ H4 ⟨v, o5, o6, rfl, s4, hv, zv⟩
    rw [lk, List.take_length] at hv zv
    exact ⟨_, rfl, q v H4 (s3.trans s4) hv (zv.up (by omega))⟩
def PinX (K : PySem.W.Frag) (H : Hp) (d : Addr) (v : V) (p : PinD) : Prop := ∃ (a l : Addr) (s : V) (us : List V), v = .ref a ∧ SqT K H a [.str p.nm, s, .ref l] ∧ PtR K H s p.sp ∧ H l = some (.lst us) ∧ PtsR K H us p.ws ∧ l ≠ d
def PinR (K : PySem.W.Frag) (H : Hp) (v : V) (p : PinD) : Prop := ∃ (a l : Addr) (s : V) (us : List V), v = .ref a ∧ SqT K H a [.str p.nm, s, .ref l] ∧ PtR K H s p.sp ∧ H l = some (.lst us) ∧ PtsR K H us p.ws
def BarR (K : PySem.W.Frag) (H : Hp) (pins : List PinD) (v : V) (b : BarD) : Prop := ∃ (a : Addr) (i j : Nat), v = .ref a ∧ SqT K H a [.str b.nm, .int (i : Int), .int (j : Int)] ∧ pins[i]? = some b.one ∧ pins[j]? = some b.other
section
variable {K : PySem.W.Frag} {H H' : Hp} {v : V} {p : PinD} {d : Addr}
theorem PinX.same (h : PinX K H d v p) (s : Same H H') : PinX K H' d v p := by
  obtain ⟨a, l, sv, us, e, h1, h2, h3, h4, h5⟩ := h
  exact ⟨a, l, sv, us, e, Ty.Same.seqT s h1, h2.same s, s _ _ h3, h4.same s, h5⟩
theorem PinX.upd {xs : List V} {o : HO} (h : PinX K H d v p) (e : H d = some (.lst xs)) : PinX K (L2.upd H d o) d v p := by
  obtain ⟨a, l, sv, us, ev, h1, h2, h3, h4, h5⟩ := h
  have t : SameT H (L2.upd H d o) := .list e
  exact ⟨a, l, sv, us, ev, t.seqT h1, h2.sameT t, by rw [upd_ne h5]; exact h3, h4.sameT t, h5⟩
theorem PinX.r (h : PinX K H d v p) : PinR K H v p := by
  obtain ⟨a, l, sv, us, e, h1, h2, h3, h4, _⟩ := h
  exact ⟨a, l, sv, us, e, h1, h2, h3, h4⟩
theorem PinR.same (h : PinR K H v p) (s : Same H H') : PinR K H' v p := by
  obtain ⟨a, l, sv, us, e, h1, h2, h3, h4⟩ := h
  exact ⟨a, l, sv, us, e, Ty.Same.seqT s h1, h2.same s, s _ _ h3, h4.same s⟩
theorem BarR.same {pins : List PinD} {b : BarD} (h : BarR K H pins v b) (s : Same H H') : BarR K H' pins v b := by
  obtain ⟨a, i, j, e, h1, h2⟩ := h
  exact ⟨a, i, j, e, Ty.Same.seqT s h1, h2⟩
end
structure GoodP (pins : List PinD) : Prop where
  np : (pins.map (·.nm)).Nodup
  ns : (pins.map (·.sp)).Nodup
  sz : ∀ p ∈ pins, Sz 50 p.sp.1 ∧ Sz 50 p.sp.2
  ws : ∀ p ∈ pins, WaysOk p.ws
theorem WaysOk.sz {ws : List (Rat × Rat)} (h : WaysOk ws) : ∀ w ∈ ws, Sz 50 w.1 ∧ Sz 50 w.2 := fun w hw => by
  rcases h with rfl | ⟨x, y, rfl, _, h1, h2⟩ | rfl
  · cases hw
  · have : w = (x, y) := by simpa using hw
    rw [this]
    exact ⟨h1, h2⟩
  · have e1 : Sz 50 (1 : Rat) := sz_small (k := 50) (i := 1) (by decide) (by decide)
    have e0 : Sz 50 (0 : Rat) := sz_zero (by decide)
    have : w = (1, 0) ∨ w = (0, 1) := by simpa using hw
    rcases this with rfl | rfl
    · exact ⟨e1, e0⟩
    · exact ⟨e0, e1⟩
theorem WaysOk.len {ws : List (Rat × Rat)} (h : WaysOk ws) : ws.length ≤ 2 := by
  rcases h with rfl | ⟨x, y, rfl, _⟩ | rfl <;> simp
theorem GoodP.snoc {pins : List PinD} {p : PinD} (g : GoodP pins) (h1 : p.nm ∉ pins.map (·.nm)) (h2 : p.sp ∉ pins.map (·.sp)) (h3 : Sz 50 p.sp.1 ∧ Sz 50 p.sp.2) (h4 : WaysOk p.ws) : GoodP (pins ++ [p]) := by
  refine ⟨?_, ?_, fun q hq => ?_, fun q hq => ?_⟩
  · rw [List.map_append, List.nodup_append]
    refine ⟨g.np, by simp, fun a ha b hb e => h1 ?_⟩
    have : b = p.nm := by simpa using hb
    rw [← this, ← e]
    exact ha
  · rw [List.map_append, List.nodup_append]
    refine ⟨g.ns, by simp, fun a ha b hb e => h2 ?_⟩
    have : b = p.sp := by simpa using hb
    rw [← this, ← e]
    exact ha
  · rcases List.mem_append.mp hq with z | z
    · exact g.sz q z
    · rw [List.mem_singleton.mp z]
      exact h3
  · rcases List.mem_append.mp hq with z | z
    · exact g.ws q z
    · rw [List.mem_singleton.mp z]
      exact h4
structure GoodB (pins : List PinD) (bars : List BarD) : Prop where
  nb : (bars.map (·.nm)).Nodup
  ends : ∀ b ∈ bars, b.one ∈ pins ∧ b.other ∈ pins ∧ b.one.nm ≠ b.other.nm
theorem paired_snoc {α β : Type} {F : α → β → Prop} : ∀ {l₁ : List α} {l₂ : List β} {a : α} {b : β}, Paired F l₁ l₂ → F a b → Paired F (l₁ ++ [a]) (l₂ ++ [b])
  | _, _, _, _, .nil, h => .cons h .nil
  | _, _, _, _, .cons h t, h' => .cons h (paired_snoc t h')
theorem seq_rest {t u : TS} {D : Ends} {σ : L2.St} {H : Hp} (inv : L2.St → Hp → Prop) (h1 : ∀ N : L2.St → Hp → Prop, (∀ σ' H', inv σ' H' → N σ' H') → t { D with nx := N } σ H) (h2 : ∀ σ' H', inv σ' H' → u D σ' H') : tSeq t u D σ H := h1 _ h2
theorem goodF {pins : List PinD} {bars : List BarD} (g : GoodP pins) (b : GoodB pins bars) (lp : pins.length ≤ 6) (lb : bars.length ≤ 8) : GoodF pins bars :=
  ⟨g.np, b.nb, b.ends, fun p hp => ⟨(g.sz p hp).1, (g.sz p hp).2, (g.ws p hp).sz⟩, lp, lb, fun p hp => (g.ws p hp).len⟩
theorem b_min : bootBuiltins "min" = some (.builtin "min") := by decide +kernel
def cnt (pins : List PinD) (x : Rat) : Nat := (pins.filter fun p => decide (x ≤ p.sp.1)).length
theorem cnt_le (x : Rat) : ∀ pins : List PinD, cnt pins (x + 1) ≤ cnt pins x
  | [] => Nat.le_refl _
  | p :: ps => by
    have ih := cnt_le x ps
    unfold cnt at ih ⊢
    rw [List.filter_cons, List.filter_cons]
    by_cases c : x + 1 ≤ p.sp.1
    · have c2 : x ≤ p.sp.1 := by grind
      rw [if_pos (decide_eq_true c), if_pos (decide_eq_true c2)]
      simpa using ih
    · rw [if_neg (by simpa using c)]
      split
      · rw [List.length_cons]
        omega
      · exact ih
theorem cnt_lt {x : Rat} : ∀ {pins : List PinD}, (∃ p ∈ pins, p.sp.1 = x) → cnt pins (x + 1) < cnt pins x
  | [], ⟨p, h, _⟩ => by simp at h
  | p :: ps, ⟨q, hq, e⟩ => by
    unfold cnt
    rw [List.filter_cons, List.filter_cons]
    by_cases c0 : p.sp.1 = x
    · have c : ¬ x + 1 ≤ p.sp.1 := by grind
      have c2 : x ≤ p.sp.1 := by grind
      rw [if_neg (by simpa using c), if_pos (decide_eq_true c2), List.length_cons]
      have := cnt_le x ps
      unfold cnt at this
      omega
    · have hq' : q ∈ ps := by
        rcases List.mem_cons.mp hq with z | z
        · exact absurd (by rw [← z]; exact e) c0
        · exact z
      have ih := cnt_lt (pins := ps) ⟨q, hq', e⟩
      unfold cnt at ih
      by_cases c : x + 1 ≤ p.sp.1
      · have c2 : x ≤ p.sp.1 := by grind
        rw [if_pos (decide_eq_true c), if_pos (decide_eq_true c2)]
        simpa using ih
      · rw [if_neg (by simpa using c)]
        split
        · rw [List.length_cons]
          omega
        · exact ih
theorem cnt_len (pins : List PinD) (x : Rat) : cnt pins x ≤ pins.length := List.length_filter_le _ _
theorem qr_succ (r : Rat) : addI (qr r) (1, 1) = qr (r + 1) := by
  have e : addI (qr r) (1, 1) = ((qr r).1 + (qr r).2, (qr r).2) := by
    unfold addI
    simp
  have g : Int.gcd ((qr r).1 + (qr r).2) (qr r).2 = 1 := by
    have := qr_gcd r
    rw [← this]
    simp
  rw [e, qr_of (q := ((qr r).1 + (qr r).2, (qr r).2)) (qr_pos r) g]
  congr 1
  have z := ratz (r := r)
  have v := vl_qr r
  unfold vl at v ⊢
  push_cast
  grind
theorem ns_sz {k : Nat} {r : Rat} (h : Sz k r) : Ns k (qr r) := ⟨Nat.le_of_lt (intBits_le_iff.mp h.top), Nat.le_of_lt (intBits_le_iff.mp h.bot)⟩
theorem many_at : ∀ i : Fin 8, ∃ N : Fin 5, atI [V.int 0, .int 1, .int 2, .int 2, .int 3, .int 3, .int 3, .int 4] (i.val : Int) = some (.int (N.val : Int)) := by decide +kernel
def spPinsL (K : PySem.W.Frag) : Sp := fun vs H Q _ => ∃ (sA : Addr) (ns : List Int), vs = [.ref sA] ∧ SqL K H sA (ns.map V.int) ∧
  ∀ (l : Addr) (us : List V) (pins : List PinD) (H' : Hp), Same H H' → H l = none → H' l = some (.lst us) → Paired (PinR K H') us pins → GoodP pins → pins.length ≤ 4 → Q (.ref l) H'
theorem sc_law_few_pins : FnScope ["_law_script", "_law_cell", "_law_many", "_law_kind", "_law_pins", "_law_k", "_law_spot_here"] ["_law_script"] (defScope s_law_few_pins) := ⟨rfl, rfl, rfl, by decide +kernel, rfl, by decide +kernel, by decide +kernel⟩
theorem ok_law_few_pins (D : Def K mg "_law_few_pins" s_law_few_pins ["_law_script"]) (m_range : mg "range" = none) (m_min : mg "min" = none) (G_law_cell_at : Fn P w K mg base (CXr P w) 1 "_law_cell_at" ["_law_script", "_law_k"] (spCell K)) (G_law_field : Fn P w K mg base (CXr P w) 1 "_law_field" ["_law_cell", "_law_prime", "_law_many"] spField)
    (G_law_spot : Fn P w K mg base (CXr P w) 34 "_law_spot" ["_law_cell", "_law_kind"] (spSpotL K)) (G_law_ways : Fn P w K mg base (CXr P w) 34 "_law_ways" ["_law_cell"] (spWaysL K)) (G_law_name : Fn P w K mg base (CXr P w) 2 "_law_name" ["_law_cell", "_law_k"] spName) (G_law_sum : Fn P w K mg base (CXr P w) 1 "_law_sum" ["_law_one", "_law_other"] (spSumI K addI)) :
    Fn P w K mg base (CXr P w) 35 "_law_few_pins" ["_law_script"] (spPinsL K) := by
  refine D.ok sc_law_few_pins (fun vs H Q E h => ?_) (fun f cdv A outer s H vs Q E hr h => ?_)
  · obtain ⟨sA, ns, rfl, _⟩ := h
    rfl
  obtain ⟨sA, ns, rfl, hS, q⟩ := h
  have px := passM (X := (cxOf (CXr P w) P w K mg base ["_law_script", "_law_cell", "_law_many", "_law_kind", "_law_pins", "_law_k", "_law_spot_here"] "_law_few_pins" (defScope s_law_few_pins) f cdv A outer s H E)) (CXr.mute (P := P) (w := w))
  have L2 : 2 ≤ sizeLine := by decide
  have L3 : 3 ≤ sizeLine := by decide
  refine ⟨_, (pss_cons (ps_set (i := 1) sc_law_few_pins.nd rfl (Or.inl rfl) (pe_fn G_law_cell_at (hr.mono (by decide)) px (pac (pv 0) (pac pe_int pa_nil))))
    (pss_cons (ps_set (i := 2) sc_law_few_pins.nd rfl (Or.inl rfl) (pe_ix ix_list (pe_lst (pac pe_int (pac pe_int (pac pe_int (pac pe_int (pac pe_int (pac pe_int (pac pe_int (pac pe_int pa_nil))))))))) (pe_fn G_law_field (hr.mono (by decide)) px (pac (pv 1) (pac pe_int (pac pe_int pa_nil)))) (fun _ _ => rfl)))
    (pss_cons (ps_set (i := 3) sc_law_few_pins.nd rfl (Or.inl rfl) (pe_fn G_law_field (hr.mono (by decide)) px (pac (pv 1) (pac pe_int (pac pe_int pa_nil)))))
    (pss_cons (ps_if (pt_cmpR op_eq (pv 3) pe_int (nomark _)) (pss_one (ps_set (i := 2) sc_law_few_pins.nd rfl (Or.inl rfl) (pe_callB (call_min2 rfl) rfl m_min b_min (pac (pv 2) (pac pe_int pa_nil))))) pss_nil)
    (pss_cons (ps_set (i := 4) sc_law_few_pins.nd rfl (Or.inl rfl) (pe_lst pa_nil))
    (pss_cons (ps_for PassesOwn.never rfl (pi_range1 rfl m_range (pac (pv 2) pa_nil)) (pg_name (i := 5) sc_law_few_pins.nd rfl (Or.inl rfl)) (pss_cons (ps_set (i := 6) sc_law_few_pins.nd rfl (Or.inl rfl) (pe_fn G_law_spot (hr.mono (by decide)) px (pac (pe_fn G_law_cell_at (hr.mono (by decide)) px (pac (pv 0) (pac (pe_op op_add pe_int (pv 5)) pa_nil))) (pac (pv 3) pa_nil))))
      (pss_cons (ps_while PassesOwn.never (pt_cmpR (op_inPt hr.units) (pv 6) (pe_comp (tn := ["_law_pin"]) (fr := []) (caps := []) rfl ⟨rfl, by decide +kernel, rfl, by decide +kernel, by decide +kernel, rfl, trivial, trivial⟩ (pi_list (pv 4)) (fun _ _ _ _ => (pg_name (i := 0) (show (["_law_pin"] : List Str).Nodup from by decide +kernel) rfl (Or.inl rfl))) (fun _ _ _ _ => pf_nil) (fun _ _ _ _ => (pe_ix (ix_tupK (K := K) rfl) (pv 0) pe_int (fun _ _ => rfl)))) rfl) (pss_one (ps_set (i := 6) sc_law_few_pins.nd rfl (Or.inl rfl) (pe_tup (pac (pe_fn G_law_sum (hr.mono (by decide)) px (pac (pe_ix ix_tup (pv 6) pe_int (fun _ _ => rfl)) (pac (pe_tup (pac pe_int (pac pe_int pa_nil))) pa_nil))) (pac (pe_ix ix_tup (pv 6) pe_int (fun _ _ => rfl)) pa_nil))))))
      (pss_one (ps_expr (pe_bm PySem.F.plainAttrs_list PySem.F.slot_list_append PySem.F.type_list_append mt_append (pv 4) (pac (pe_tup (pac (pe_fn G_law_name (hr.mono (by decide)) px (pac (pv 1) (pac (pv 5) pa_nil))) (pac (pv 6) (pac (pe_fn G_law_ways (hr.mono (by decide)) px (pac (pe_fn G_law_cell_at (hr.mono (by decide)) px (pac (pv 0) (pac (pe_op op_add pe_int (pv 5)) pa_nil))) pa_nil)) pa_nil)))) pa_nil)))))))
    (pss_one (ps_ret (pv 4))))))))), ?_⟩
  refine ⟨_, rfl, sA, ns, 0, rfl, hS, by decide, by decide, ?_⟩
  generalize cell ns 0 = c0
  refine ⟨(by show 8 ≤ sizeLine; decide), ?_⟩
  intro t0 nt0; generalize eX : upd _ t0 _ = H0; have st0 := eX ▸ same_new nt0 _; have et0 : H0 t0 = some _ := eX ▸ upd_same; clear eX
  have i1 := field_in (c := c0) (p := 1009) (m := 8) (by decide)
  refine ⟨_, rfl, _, _, _, rfl, by decide, by decide, by decide, ?_⟩
  generalize field c0 1009 8 = fi at i1 ⊢
  obtain ⟨fn, rfl⟩ : ∃ n : Nat, fi = (n : Int) := ⟨fi.toNat, by omega⟩
  obtain ⟨N, eN⟩ := many_at ⟨fn, by omega⟩
  refine ⟨t0, _, _, _, rfl, rfl, SqL.of et0, eN, ?_⟩
  refine ⟨_, rfl, _, _, _, rfl, by decide, by decide, by decide, ?_⟩
  generalize field c0 2003 3 = kind
  dsimp only
  refine seq_rest (fun σ' H' => ∃ N : Nat, N ≤ 4 ∧ σ' = [some (.ref sA), some (.int c0), some (.int (N : Int)), some (.int kind), none, none, none] ∧ H' = H0) (fun Nx hNx => ?_) ?_
  · refine ⟨_, rfl, rfl, _, rfl, ?_⟩
    refine ite2 (fun _ => ?_) (fun _ => ?_)
    · have hN := N.isLt
      refine ⟨_, rfl, _, _, rfl, ?_⟩
      refine hNx _ _ ⟨min N.val 3, by omega, ?_, rfl⟩
      have : (if (3 : Int) < (N.val : Int) then (3 : Int) else (N.val : Int)) = ((min N.val 3 : Nat) : Int) := by
        split <;> omega
      rw [this]
      rfl
    · exact hNx _ _ ⟨N.val, by have := N.isLt; omega, rfl, rfl⟩
  rintro σ' H' ⟨N, hN, rfl, rfl⟩
  refine ⟨(by show 0 ≤ sizeLine; decide), ?_⟩
  intro lp np; generalize eX : upd _ lp _ = H1; have sp := eX ▸ same_new np _; have ep : H1 lp = some _ := eX ▸ upd_same; clear eX
  have s01 := st0.trans sp
  have nlp : H lp = none := st0.free np
  refine ⟨_, rfl, (N : Int), rfl, by omega, by omega, for_range (lo := 0) (n := N) (fun i σ H' => ∃ (o5 o6 : Option V) (us : List V) (pins : List PinD), σ = [some (.ref sA), some (.int c0), some (.int (N : Int)), some (.int kind), some (.ref lp), o5, o6] ∧ Same H H' ∧ H' lp = some (.lst us) ∧ Paired (PinX K H' lp) us pins ∧ GoodP pins ∧ pins.length = i ∧ ∀ p ∈ pins, ∃ j, j < i ∧ p.nm = nameOf (field c0 3001 3) (field c0 4001 6) (j : Int)) ⟨none, none, [], [], rfl, s01, ep, .nil, ⟨by simp, by simp, by simp, by simp⟩, rfl, by simp⟩ ?_ ?_⟩
  · rintro i σ H2 hi ⟨o5, o6, us, pins, rfl, s2, e2, pp, gp, lpi, nm⟩
    have ei : (0 : Int) + (i : Int) = (i : Int) := Int.zero_add _
    rw [ei]
    have lu : us.length = pins.length := Paired.length pp
    refine ⟨_, rfl, _, rfl, _, _, rfl, rfl, sA, ns, _, rfl, s2.seq hS, by omega, by omega, _, rfl, ?_⟩
    refine ⟨_, _, rfl, fun p3 x0 y0 H3 s3 zx zy h3 => ?_⟩
    have s23 := s2.trans s3
    have h30 : PtR K H3 (.ref p3) (x0 + ((0 : Nat) : Rat), y0) := by
      have e : x0 + ((0 : Nat) : Rat) = x0 := by
        have : ((0 : Nat) : Rat) = 0 := by rfl
        rw [this]
        grind
      rw [e]
      exact h3
    dsimp only
    refine seq_rest (fun σ' H' => ∃ (sv : V) (x : Rat), σ' = [some (.ref sA), some (.int c0), some (.int (N : Int)), some (.int kind), some (.ref lp), some (.int (i : Int)), some sv] ∧ Same H3 H' ∧ PtR K H' sv (x, y0) ∧ Sz 50 x ∧ (x, y0) ∉ pins.map (·.sp)) (fun Nx hNx => ?_) ?_
    · refine ⟨fun m σ H' => ∃ (sv : V) (j : Nat), σ = [some (.ref sA), some (.int c0), some (.int (N : Int)), some (.int kind), some (.ref lp), some (.int (i : Int)), some sv] ∧ Same H3 H' ∧ PtR K H' sv (x0 + (j : Rat), y0) ∧ m = cnt pins (x0 + (j : Rat)) ∧ j + cnt pins (x0 + (j : Rat)) ≤ pins.length, ⟨_, _, 0, rfl, Same.refl _, h30, rfl, by have := cnt_len pins (x0 + ((0 : Nat) : Rat)); omega⟩, ?_⟩
      rintro m σ H4 ⟨sv, j, rfl, s4, h4, rfl, hj⟩
      have e4 := (s3.trans s4) _ _ e2
      have pp4 : Paired (PinX K H4 lp) us pins := Paired.mapP pp fun _ _ z => z.same (s3.trans s4)
      have zj : Sz 50 (x0 + (j : Rat)) := (zx.add (sz_small (k := 20) (i := (j : Int)) (by omega) (by decide))).up (by decide)
      refine ⟨_, rfl, _, rfl, lp, rfl, ⟨_, SqL.of e4⟩, fun D1 n1 => ?_⟩
      refine comp_list (cap := []) (K := K) (a := lp) (xs := us) (fun i v H => ∃ p, pins[i]? = some p ∧ PtR K H v p.sp) n1 (by rw [lu]; exact Nat.lt_of_le_of_lt (show pins.length ≤ 1000 by omega) (by decide)) (fun H2 s2 => SqL.of (s2 _ _ e4)) (fun _ _ _ _ _ h0 ks h => by
          obtain ⟨p, h1, h2⟩ := h
          refine ⟨p, h1, h2.sameT fun b xs r => ?_⟩
          rcases r with r | ⟨o', r⟩
          · exact .inl (ks _ _ (fun e => by rw [e, h0] at r; cases r) r)
          · exact .inr ⟨o', ks _ _ (fun e => by rw [e, h0] at r; cases r) r⟩) ?_ ?_
      · intro jj u H6 R hu s6 k
        obtain ⟨p, ep', hp⟩ := paired_get pp4 hu
        obtain ⟨a, l, sv, us', rfl, h1, h2, _⟩ := hp
        exact ⟨_, rfl, a, _, _, _, rfl, rfl, Ty.Same.seqT s6 h1, rfl, k _ _ (Same.refl _) ⟨p, ep', h2.same s6⟩⟩
      intro ys H6 hy hrel s6 hD
      have pq : PtsR K H6 ys (pins.map (·.sp)) := paired_of (by rw [List.length_map, hy, lu]) fun j u q' e1' e2' => by
        obtain ⟨p, h1, h2⟩ := hrel j u e1'
        rw [List.getElem?_map, h1] at e2'
        cases e2'
        exact h2
      have h6 := h4.same s6
      refine ⟨(x0 + (j : Rat), y0), D1, ys, _, rfl, SqL.of hD, h6, pq, _, rfl, ?_⟩
      refine ite2 (fun cc => ?_) (fun cc => ?_)
      · have mem : (x0 + (j : Rat), y0) ∈ pins.map (·.sp) := by simpa using cc
        obtain ⟨p, hp, ep'⟩ := List.mem_map.mp mem
        have lt := cnt_lt (x := x0 + (j : Rat)) ⟨p, hp, by rw [ep']⟩
        have ej : x0 + (j : Rat) + 1 = x0 + ((j + 1 : Nat) : Rat) := by
          push_cast
          grind
        rw [ej] at lt
        refine ⟨fun σ' H' => ∃ (sv : V), σ' = [some (.ref sA), some (.int c0), some (.int (N : Int)), some (.int kind), some (.ref lp), some (.int (i : Int)), some sv] ∧ Same H3 H' ∧ PtR K H' sv (x0 + ((j + 1 : Nat) : Rat), y0), fun σ' H' ⟨sv', h1, h2, h3⟩ => ⟨_, lt, sv', j + 1, h1, h2, h3, rfl, by omega⟩, ?_⟩
        obtain ⟨sa, u1, u2, rfl, hsq, hn1, hn2⟩ := h6
        refine ⟨_, rfl, sa, _, _, _, rfl, rfl, hsq, at0, L2, ?_⟩
        intro p7 n7; generalize eX : upd _ p7 _ = H7; have s7 := eX ▸ same_new n7 _; have e7 : H7 p7 = some _ := eX ▸ upd_same; clear eX
        refine ⟨u1, .ref p7, qr (x0 + (j : Rat)), (1, 1), 50, 1, rfl, hn1.same s7, ⟨p7, rfl, SqT.of e7⟩, ns_sz zj, ⟨by decide, by decide⟩, by decide, fun p8 H8 s8 e8 => ?_⟩
        rw [qr_succ, ej] at e8
        refine ⟨_, rfl, sa, _, _, _, rfl, rfl, Ty.Same.seqT (s7.trans s8) hsq, at1, L2, ?_⟩
        intro p9 n9; generalize eX : upd _ p9 _ = H9; have s9 := eX ▸ same_new n9 _; have e9 : H9 p9 = some _ := eX ▸ upd_same; clear eX
        have s69 := (s7.trans s8).trans s9
        exact ⟨.ref p9, rfl, (s4.trans s6).trans s69, pt_of e9 ((nm_of e8).same s9) (hn2.same s69)⟩
      · have fresh : (x0 + (j : Rat), y0) ∉ pins.map (·.sp) := by simpa using cc
        exact hNx _ _ ⟨sv, x0 + (j : Rat), rfl, s4.trans s6, h6, zj, fresh⟩
    rintro σ' H4 ⟨sv, x, rfl, s4, h4, zx', fresh⟩
    have s24 := s3.trans s4
    have s04 := s2.trans s24
    have e4 := s24 _ _ e2
    have pp4 : Paired (PinX K H4 lp) us pins := Paired.mapP pp fun _ _ z => z.same s24
    refine ⟨_, rfl, .inl ⟨rfl, _, SqL.of e4⟩, _, rfl, _, rfl, _, _, rfl, by omega, by omega, _, rfl, ?_⟩
    refine ⟨_, rfl, _, rfl, _, _, rfl, rfl, sA, ns, _, rfl, s04.seq hS, by omega, by omega, ?_⟩
    refine ⟨_, rfl, fun l8 us8 ws H8 wk s8 n8 e8 p8 => ⟨L3, ?_⟩⟩
    intro p9 n9; generalize eX : upd _ p9 _ = H9; have s9 := eX ▸ same_new n9 _; have e9 : H9 p9 = some _ := eX ▸ upd_same; clear eX
    have s49 := s8.trans s9
    have e49 := s49 _ _ e4
    have pp9 : Paired (PinX K H9 lp) us pins := Paired.mapP pp4 fun _ _ z => z.same s49
    refine ⟨lp, _, _, rfl, rfl, e49, (by rw [lu]; exact Nat.lt_of_le_of_lt (show pins.length ≤ 1000 by omega) (by decide)), ?_⟩
    have hsp : PinX K H9 lp (.ref p9) ⟨nameOf (field c0 3001 3) (field c0 4001 6) (i : Int), (x, y0), ws⟩ := ⟨p9, l8, sv, us8, rfl, SqT.of e9, h4.same s49, s9 _ _ e8, p8.same s9, fun z => by rw [z, e4] at n8; cases n8⟩
    refine ⟨_, _, _, pins ++ [⟨nameOf (field c0 3001 3) (field c0 4001 6) (i : Int), (x, y0), ws⟩], rfl, fun b o z => ?_, upd_same, paired_snoc (Paired.mapP pp9 fun _ _ z => z.upd e49) (hsp.upd e49), gp.snoc (fun z => ?_) fresh ⟨zx', zy.up (by decide)⟩ wk, by simp [lpi], fun p hp => ?_⟩
    · rw [upd_ne (ne_of_none z nlp)]
      exact s49 _ _ (s04 _ _ z)
    · obtain ⟨p, hp, ep'⟩ := List.mem_map.mp z
      obtain ⟨j, hj, ej⟩ := nm p hp
      have i3 := field_in (c := c0) (p := 3001) (m := 3) (by decide)
      have i4 := field_in (c := c0) (p := 4001) (m := 6) (by decide)
      have := names_ne ⟨(field c0 3001 3).toNat, by omega⟩ ⟨(field c0 4001 6).toNat, by omega⟩ ⟨j, by omega⟩ ⟨i, by omega⟩ (fun z => by
        have := congrArg Fin.val z
        simp at this
        omega)
      refine this ?_
      show nameOf (((field c0 3001 3).toNat : Nat) : Int) (((field c0 4001 6).toNat : Nat) : Int) (j : Int) = nameOf (((field c0 3001 3).toNat : Nat) : Int) (((field c0 4001 6).toNat : Nat) : Int) (i : Int)
      rw [show (((field c0 3001 3).toNat : Nat) : Int) = field c0 3001 3 by omega, show (((field c0 4001 6).toNat : Nat) : Int) = field c0 4001 6 by omega, ← ej]
      exact ep'
    · rcases List.mem_append.mp hp with z | z
      · obtain ⟨j, hj, ej⟩ := nm p z
        exact ⟨j, by omega, ej⟩
      · rw [List.mem_singleton.mp z]
        exact ⟨i, by omega, rfl⟩
  · rintro σ H2 ⟨o5, o6, us, pins, rfl, s2, e2, pp, gp, lpi, nm⟩
    exact ⟨_, rfl, q lp us pins H2 s2 nlp e2 (Paired.mapP pp fun _ _ z => z.r) gp (by omega)⟩
def spBarsL (K : PySem.W.Frag) : Sp := fun vs H Q _ => ∃ (sA pA : Addr) (ns : List Int) (us : List V) (pins : List PinD), vs = [.ref sA, .ref pA] ∧ SqL K H sA (ns.map V.int) ∧ H pA = some (.lst us) ∧ us.length = pins.length ∧ (pins.map (·.nm)).Nodup ∧ pins.length ≤ 6 ∧
  ∀ (l : Addr) (vs' : List V) (bars : List BarD) (H' : Hp), Same H H' → H l = none → H' l = some (.lst vs') → Paired (BarR K H' pins) vs' bars → GoodB pins bars → bars.length ≤ 5 → Q (.ref l) H'
theorem GoodB.snoc {pins : List PinD} {bars : List BarD} {b : BarD} (g : GoodB pins bars) (h1 : b.nm ∉ bars.map (·.nm)) (h2 : b.one ∈ pins ∧ b.other ∈ pins ∧ b.one.nm ≠ b.other.nm) : GoodB pins (bars ++ [b]) := by
  refine ⟨?_, fun q hq => ?_⟩
  · rw [List.map_append, List.nodup_append]
    refine ⟨g.nb, by simp, fun a ha c hc e => h1 ?_⟩
    have : c = b.nm := by simpa using hc
    rw [← this, ← e]
    exact ha
  · rcases List.mem_append.mp hq with z | z
    · exact g.ends q z
    · rw [List.mem_singleton.mp z]
      exact h2
theorem sc_law_bars : FnScope ["_law_script", "_law_pins", "_law_cell", "_law_many", "_law_bars_here", "_law_k", "_law_one", "_law_step"] ["_law_script", "_law_pins"] (defScope s_law_bars) := ⟨rfl, rfl, rfl, by decide +kernel, rfl, by decide +kernel, by decide +kernel⟩
theorem ok_law_bars (D : Def K mg "_law_bars" s_law_bars ["_law_script", "_law_pins"]) (m_range : mg "range" = none) (m_len : mg "len" = none) (G_law_cell_at : Fn P w K mg base (CXr P w) 1 "_law_cell_at" ["_law_script", "_law_k"] (spCell K)) (G_law_field : Fn P w K mg base (CXr P w) 1 "_law_field" ["_law_cell", "_law_prime", "_law_many"] spField) (G_law_name : Fn P w K mg base (CXr P w) 2 "_law_name" ["_law_cell", "_law_k"] spName) :
    Fn P w K mg base (CXr P w) 3 "_law_bars" ["_law_script", "_law_pins"] (spBarsL K) := by
  refine D.ok sc_law_bars (fun vs H Q E h => ?_) (fun f cdv A outer s H vs Q E hr h => ?_)
  · obtain ⟨sA, pA, ns, us, pins, rfl, _⟩ := h
    rfl
  obtain ⟨sA, pA, ns, us, pins, rfl, hS, hp, lu, np, lp, q⟩ := h
  have px := passM (X := (cxOf (CXr P w) P w K mg base ["_law_script", "_law_pins", "_law_cell", "_law_many", "_law_bars_here", "_law_k", "_law_one", "_law_step"] "_law_bars" (defScope s_law_bars) f cdv A outer s H E)) (CXr.mute (P := P) (w := w))
  have L3 : 3 ≤ sizeLine := by decide
  refine ⟨_, (pss_cons (ps_set (i := 2) sc_law_bars.nd rfl (Or.inl rfl) (pe_fn G_law_cell_at (hr.mono (by decide)) px (pac (pv 0) (pac pe_int pa_nil))))
    (pss_cons (ps_set (i := 3) sc_law_bars.nd rfl (Or.inl rfl) (pe_fn G_law_field (hr.mono (by decide)) px (pac (pv 2) (pac pe_int (pac pe_int pa_nil)))))
    (pss_cons (ps_if (pt_cmpR op_lt (pe_callB call_len_seq rfl m_len b_len (pac (pv 1) pa_nil)) pe_int (nomark _)) (pss_one (ps_set (i := 3) sc_law_bars.nd rfl (Or.inl rfl) pe_int)) pss_nil)
    (pss_cons (ps_set (i := 4) sc_law_bars.nd rfl (Or.inl rfl) (pe_lst pa_nil))
    (pss_cons (ps_for PassesOwn.never rfl (pi_range1 rfl m_range (pac (pv 3) pa_nil)) (pg_name (i := 5) sc_law_bars.nd rfl (Or.inl rfl)) (pss_cons (ps_set (i := 6) sc_law_bars.nd rfl (Or.inl rfl) (pe_fn G_law_field (hr.mono (by decide)) px (pac (pe_fn G_law_cell_at (hr.mono (by decide)) px (pac (pv 0) (pac (pe_op op_add pe_int (pv 5)) pa_nil))) (pac pe_int (pac (pe_callB call_len_seq rfl m_len b_len (pac (pv 1) pa_nil)) pa_nil)))))
      (pss_cons (ps_set (i := 7) sc_law_bars.nd rfl (Or.inl rfl) (pe_op op_add pe_int (pe_fn G_law_field (hr.mono (by decide)) px (pac (pe_fn G_law_cell_at (hr.mono (by decide)) px (pac (pv 0) (pac (pe_op op_add pe_int (pv 5)) pa_nil))) (pac pe_int (pac (pe_op op_sub (pe_callB call_len_seq rfl m_len b_len (pac (pv 1) pa_nil)) pe_int) pa_nil))))))
      (pss_one (ps_expr (pe_bm PySem.F.plainAttrs_list PySem.F.slot_list_append PySem.F.type_list_append mt_append (pv 4) (pac (pe_tup (pac (pe_fn G_law_name (hr.mono (by decide)) px (pac (pv 2) (pac (pv 5) pa_nil))) (pac (pv 6) (pac (pe_op op_modB (pe_op op_add (pv 6) (pv 7)) (pe_callB call_len_seq rfl m_len b_len (pac (pv 1) pa_nil))) pa_nil)))) pa_nil)))))))
    (pss_one (ps_ret (pv 4)))))))), ?_⟩
  refine ⟨_, rfl, sA, ns, 1, rfl, hS, by decide, by decide, ?_⟩
  generalize cell ns 1 = c0
  have i1 := field_in (c := c0) (p := 1009) (m := 6) (by decide)
  refine ⟨_, rfl, _, _, _, rfl, by decide, by decide, by decide, ?_⟩
  generalize field c0 1009 6 = fi at i1 ⊢
  obtain ⟨fn, rfl⟩ : ∃ n : Nat, fi = (n : Int) := ⟨fi.toNat, by omega⟩
  dsimp only
  refine seq_rest (fun σ' H' => ∃ N : Nat, N ≤ 5 ∧ (0 < N → 2 ≤ pins.length) ∧ σ' = [some (.ref sA), some (.ref pA), some (.int c0), some (.int (N : Int)), none, none, none, none] ∧ H' = H) (fun Nx hNx => ?_) ?_
  · refine ⟨_, rfl, pA, _, rfl, .inl (SqL.of hp), _, _, rfl, rfl, _, rfl, ?_⟩
    refine ite2 (fun _ => ?_) (fun c => ?_)
    · exact hNx _ _ ⟨0, by omega, by omega, rfl, rfl⟩
    · have c' : ¬ (us.length : Int) < 2 := fun z => c (decide_eq_true z)
      exact hNx _ _ ⟨fn, by omega, fun _ => by omega, rfl, rfl⟩
  rintro σ' Hy ⟨N, hN, hN2, rfl, rfl⟩
  refine ⟨(by show 0 ≤ sizeLine; decide), ?_⟩
  intro lb nb; generalize eX : upd _ lb _ = H1; have sb := eX ▸ same_new nb _; have eb : H1 lb = some _ := eX ▸ upd_same; clear eX
  refine ⟨_, rfl, (N : Int), rfl, by omega, by omega, for_range (lo := 0) (n := N) (fun i σ H' => ∃ (o5 o6 o7 : Option V) (vs' : List V) (bars : List BarD), σ = [some (.ref sA), some (.ref pA), some (.int c0), some (.int (N : Int)), some (.ref lb), o5, o6, o7] ∧ Same Hy H' ∧ H' lb = some (.lst vs') ∧ Paired (BarR K H' pins) vs' bars ∧ GoodB pins bars ∧ bars.length = i ∧ ∀ b ∈ bars, ∃ j, j < i ∧ b.nm = nameOf (field c0 3001 3) (field c0 4001 6) (j : Int)) ⟨none, none, none, [], [], rfl, sb, eb, .nil, ⟨by simp, by simp⟩, rfl, by simp⟩ ?_ ?_⟩
  · rintro i σ H2 hi ⟨o5, o6, o7, vs', bars, rfl, s2, e2, pb, gb, lbi, nm⟩
    have ei : (0 : Int) + (i : Int) = (i : Int) := Int.zero_add _
    rw [ei]
    have n2 : 2 ≤ pins.length := hN2 (by omega)
    have lv : vs'.length = bars.length := Paired.length pb
    have sp := SqL.of (K := K) (s2 _ _ hp)
    refine ⟨_, rfl, _, rfl, _, _, rfl, rfl, sA, ns, _, rfl, s2.seq hS, by omega, by omega, _, rfl, pA, _, rfl, .inl sp, _, _, _, rfl, by decide, by decide, by omega, ?_⟩
    have j1 := field_in (c := cell ns (8 + (i : Int))) (p := 1009) (m := (us.length : Int)) (by omega)
    have j2 := field_in (c := cell ns (8 + (i : Int))) (p := 2003) (m := (us.length : Int) - 1) (by omega)
    refine ⟨_, rfl, _, rfl, _, _, rfl, rfl, sA, ns, _, rfl, s2.seq hS, by omega, by omega, _, rfl, pA, _, rfl, .inl sp, _, _, rfl, rfl, _, _, _, rfl, by decide, by decide, by omega, _, _, rfl, rfl, ?_⟩
    generalize field (cell ns (8 + (i : Int))) 1009 (us.length : Int) = one at j1 ⊢
    generalize field (cell ns (8 + (i : Int))) 2003 ((us.length : Int) - 1) = step at j2 ⊢
    obtain ⟨on, rfl⟩ : ∃ n : Nat, one = (n : Int) := ⟨one.toNat, by omega⟩
    have oo : ∃ m : Nat, ((on : Int) + (1 + step)).fmod (us.length : Int) = (m : Int) ∧ m < us.length ∧ m ≠ on := by
      have f := fmod_in (x := (on : Int) + (1 + step)) (m := (us.length : Int)) (by omega)
      refine ⟨(((on : Int) + (1 + step)).fmod (us.length : Int)).toNat, by omega, by omega, fun z => ?_⟩
      have e : ((on : Int) + (1 + step)).fmod (us.length : Int) = (on : Int) := by omega
      rw [Int.fmod_eq_emod_of_nonneg _ (by omega)] at e
      by_cases c : (on : Int) + (1 + step) < (us.length : Int)
      · rw [Int.emod_eq_of_lt (by omega) c] at e
        omega
      · rw [← Int.sub_emod_right, Int.emod_eq_of_lt (by omega) (by omega)] at e
        omega
    obtain ⟨on2, e2', l2', ne2⟩ := oo
    refine ⟨_, rfl, .inl ⟨rfl, _, SqL.of e2⟩, _, rfl, _, rfl, _, _, rfl, by omega, by omega, _, rfl, _, rfl, _, rfl, _, _, rfl, rfl, _, rfl, pA, _, rfl, .inl sp, _, _, rfl, rfl, nz (by omega), L3, ?_⟩
    intro p9 n9; generalize eX : upd _ p9 _ = H9; have s9 := eX ▸ same_new n9 _; have e9 : H9 p9 = some _ := eX ▸ upd_same; clear eX
    have e9 : H9 p9 = some (.tup [.str (nameOf (field c0 3001 3) (field c0 4001 6) (i : Int)), .int (on : Int), .int (((on : Int) + (1 + step)).fmod (us.length : Int))]) := e9
    rw [e2'] at e9
    have e29 := s9 _ _ e2
    refine ⟨lb, _, _, rfl, rfl, e29, (by rw [lv]; exact Nat.lt_of_le_of_lt (show bars.length ≤ 1000 by omega) (by decide)), ?_⟩
    have l1 : on < pins.length := by omega
    have l2 : on2 < pins.length := by omega
    have st : SameT H9 (upd H9 lb (.lst (vs' ++ [.ref p9]))) := .list e29
    have ns9 : ∀ (v : V) (b : BarD), BarR K H2 pins v b → BarR K (upd H9 lb (.lst (vs' ++ [.ref p9]))) pins v b := fun v b h => by
      obtain ⟨a, i', j', e, h1, h2⟩ := h.same s9
      exact ⟨a, i', j', e, st.seqT h1, h2⟩
    refine ⟨_, _, _, vs' ++ [.ref p9], bars ++ [⟨nameOf (field c0 3001 3) (field c0 4001 6) (i : Int), pins[on], pins[on2]⟩], rfl, fun b o z => ?_, upd_same, paired_snoc (Paired.mapP pb fun _ _ z => ns9 _ _ z) ?_, gb.snoc (fun z => ?_) ⟨List.getElem_mem l1, List.getElem_mem l2, fun z => ?_⟩, by simp [lbi], fun b hb => ?_⟩
    · rw [upd_ne (ne_of_none z nb)]
      exact s9 _ _ (s2 _ _ z)
    · exact ⟨p9, on, on2, rfl, st.seqT (SqT.of e9), List.getElem?_eq_getElem l1, List.getElem?_eq_getElem l2⟩
    · obtain ⟨b, hb, ep'⟩ := List.mem_map.mp z
      obtain ⟨j, hj, ej⟩ := nm b hb
      have i3 := field_in (c := c0) (p := 3001) (m := 3) (by decide)
      have i4 := field_in (c := c0) (p := 4001) (m := 6) (by decide)
      have := names_ne ⟨(field c0 3001 3).toNat, by omega⟩ ⟨(field c0 4001 6).toNat, by omega⟩ ⟨j, by omega⟩ ⟨i, by omega⟩ (fun z => by
        have := congrArg Fin.val z
        simp at this
        omega)
      refine this ?_
      show nameOf (((field c0 3001 3).toNat : Nat) : Int) (((field c0 4001 6).toNat : Nat) : Int) (j : Int) = nameOf (((field c0 3001 3).toNat : Nat) : Int) (((field c0 4001 6).toNat : Nat) : Int) (i : Int)
      rw [show (((field c0 3001 3).toNat : Nat) : Int) = field c0 3001 3 by omega, show (((field c0 4001 6).toNat : Nat) : Int) = field c0 4001 6 by omega, ← ej]
      exact ep'
    · have q1 : (pins.map (·.nm))[on]? = some pins[on].nm := by rw [List.getElem?_map, List.getElem?_eq_getElem l1]; rfl
      have q2 : (pins.map (·.nm))[on2]? = some pins[on].nm := by rw [List.getElem?_map, List.getElem?_eq_getElem l2]; exact congrArg some z.symm
      exact ne2 ((List.getElem?_inj (by rw [List.length_map]; omega) np).mp (q1.trans q2.symm)).symm
    · rcases List.mem_append.mp hb with z | z
      · obtain ⟨j, hj, ej⟩ := nm b z
        exact ⟨j, by omega, ej⟩
      · rw [List.mem_singleton.mp z]
        exact ⟨i, by omega, rfl⟩
  · rintro σ H2 ⟨o5, o6, o7, vs', bars, rfl, s2, e2, pb, gb, lbi, nm⟩
    exact ⟨_, rfl, q lb vs' bars H2 s2 nb e2 pb gb (by omega)⟩
theorem no_ways (v : V) : List.lookup ("ways" : Str) [(("way" : Str), v)] = none := by
  have h : (("ways" : Str) == "way") = false := by decide +kernel
  simp [List.lookup, h]
def spFrameL (K : PySem.W.Frag) (C : Addr) : Sp := fun vs H Q _ => ∃ (pA bA : Addr) (us vs' : List V) (pins : List PinD) (bars : List BarD), vs = [.ref pA, .ref bA] ∧ H pA = some (.lst us) ∧ Paired (PinR K H) us pins ∧ H bA = some (.lst vs') ∧ Paired (BarR K H pins) vs' bars ∧ GoodP pins ∧ GoodB pins bars ∧ pins.length ≤ 6 ∧ bars.length ≤ 8 ∧
  ∀ (a : Addr) (H' : Hp), Same H H' → FrA K H' C a pins bars → Q (.ref a) H'
theorem sc_law_frame : FnScope ["_law_pins", "_law_bars_here", "_law_frame_here", "_law_name_here", "_law_spot_here", "_law_ways_here", "_law_one", "_law_other"] ["_law_pins", "_law_bars_here"] (defScope s_law_frame) := ⟨rfl, rfl, rfl, by decide +kernel, rfl, by decide +kernel, by decide +kernel⟩
theorem ok_law_frame {C CR CF fI fR : Addr} {fdI fdR : FuncData} (D : Def K mg "_law_frame" s_law_frame ["_law_pins", "_law_bars_here"]) (m_len : mg "len" = none) (M_Frame : Mk K C fI) (m_Frame : mg "Frame" = some (.ref C)) (G_Frame_init : FnOk P w K mg base (CXr P w) 1 fI fdI ["self"] (spFInit K C)) (b_Frame_init : Binds K fdI ["self"] [])
    (m_Roller : mg "Roller" = some (.ref CR)) (m_Fixed : mg "Fixed" = some (.ref CF)) (M_Fixed : Mk0 K CF) (M_Roller : Mk K CR fR) (G_Roller_init : FnOk P w K mg base (CXr P w) 1 fR fdR ["self", "x", "y"] (spRInit K CR)) (b_Roller_init : Binds K fdR ["self", "x", "y"] [])
    (wR : MtdOk P w K mg base (CXr P w) 2 CR "ways" ["self"] (spRWays K CR)) (wF : MtdOk P w K mg base (CXr P w) 2 CF "ways" ["self"] (spFixed K))
    (MPb : MtdOk P w K mg base (CXr P w) 3 C "put_bar" ["self", "name", "one", "other"] (spPutBar K C)) (MPp : MtdOk P w K mg base (CXr P w) 3 C "put_pin" ["self", "name", "x", "y", "hold"] (spPutPinW P w K mg base C)) (MPd : MtdOkD P w K mg base (CXr P w) 3 C "put_pin" ["self", "name", "x", "y", "hold"] [.none] (spPutPinW P w K mg base C)) :
    Fn P w K mg base (CXr P w) 4 "_law_frame" ["_law_pins", "_law_bars_here"] (spFrameL K C) := by
  refine D.ok sc_law_frame (fun vs H Q E h => ?_) (fun f cdv A outer s H vs Q E hr h => ?_)
  · obtain ⟨pA, bA, us, vs', pins, bars, rfl, _⟩ := h
    rfl
  obtain ⟨pA, bA, us, vs', pins, bars, rfl, hp, pp, hb, pb, gp, gb, lp6, lb8, q⟩ := h
  have px := passM (X := (cxOf (CXr P w) P w K mg base ["_law_pins", "_law_bars_here", "_law_frame_here", "_law_name_here", "_law_spot_here", "_law_ways_here", "_law_one", "_law_other"] "_law_frame" (defScope s_law_frame) f cdv A outer s H E)) (CXr.mute (P := P) (w := w))
  have lu : us.length = pins.length := Paired.length pp
  refine ⟨_, (pss_cons (ps_set (i := 2) sc_law_frame.nd rfl (Or.inl rfl) (pe_make0 M_Frame G_Frame_init (hr.mono (by decide)) rfl m_Frame b_Frame_init .nil px))
    (pss_cons (ps_for PassesOwn.never rfl (pi_list (pv 0)) (pg_tup rfl (pgs_cons (pg_name (i := 3) sc_law_frame.nd rfl (Or.inl rfl)) (pgs_cons (pg_name (i := 4) sc_law_frame.nd rfl (Or.inl rfl)) (pgs_cons (pg_name (i := 5) sc_law_frame.nd rfl (Or.inl rfl)) pgs_nil)))) (pss_cons (ps_if (pt_cmpR op_eq (pe_callB call_len_seq rfl m_len b_len (pac (pv 5) pa_nil)) pe_int (nomark _)) (pss_one (ps_expr (pe_mtdD (k := 3) (pv 2) (hr.mono (by decide)) px (pac (pv 3) (pac (pe_ix ix_tup (pv 4) pe_int (fun _ _ => rfl)) (pac (pe_ix ix_tup (pv 4) pe_int (fun _ _ => rfl)) pa_nil)))))) pss_nil)
      (pss_cons (ps_if (pt_cmpR op_eq (pe_callB call_len_seq rfl m_len b_len (pac (pv 5) pa_nil)) pe_int (nomark _)) (pss_one (ps_expr (pe_mtd (k := 3) (pv 2) (hr.mono (by decide)) px (pac (pv 3) (pac (pe_ix ix_tup (pv 4) pe_int (fun _ _ => rfl)) (pac (pe_ix ix_tup (pv 4) pe_int (fun _ _ => rfl)) (pac (pe_make M_Roller G_Roller_init (hr.mono (by decide)) rfl m_Roller b_Roller_init .nil px (pac (pe_ix ix_tup (pe_ix ix_list (pv 5) pe_int (fun _ _ => rfl)) pe_int (fun _ _ => rfl)) (pac (pe_ix ix_tup (pe_ix ix_list (pv 5) pe_int (fun _ _ => rfl)) pe_int (fun _ _ => rfl)) pa_nil))) pa_nil))))))) pss_nil)
      (pss_one (ps_if (pt_cmpR op_eq (pe_callB call_len_seq rfl m_len b_len (pac (pv 5) pa_nil)) pe_int (nomark _)) (pss_one (ps_expr (pe_mtd (k := 3) (pv 2) (hr.mono (by decide)) px (pac (pv 3) (pac (pe_ix ix_tup (pv 4) pe_int (fun _ _ => rfl)) (pac (pe_ix ix_tup (pv 4) pe_int (fun _ _ => rfl)) (pac (pe_mk0 M_Fixed rfl m_Fixed) pa_nil))))))) pss_nil)))))
    (pss_cons (ps_for PassesOwn.never rfl (pi_list (pv 1)) (pg_tup rfl (pgs_cons (pg_name (i := 3) sc_law_frame.nd rfl (Or.inl rfl)) (pgs_cons (pg_name (i := 6) sc_law_frame.nd rfl (Or.inl rfl)) (pgs_cons (pg_name (i := 7) sc_law_frame.nd rfl (Or.inl rfl)) pgs_nil)))) (pss_one (ps_expr (pe_mtd (k := 3) (pv 2) (hr.mono (by decide)) px (pac (pv 3) (pac (pe_ix ix_tup (pe_ix ix_list (pv 0) (pv 6) (fun _ _ => rfl)) pe_int (fun _ _ => rfl)) (pac (pe_ix ix_tup (pe_ix ix_list (pv 0) (pv 7) (fun _ _ => rfl)) pe_int (fun _ _ => rfl)) pa_nil)))))))
    (pss_one (ps_ret (pv 2)))))), ?_⟩
  intro a dx na ndx nad
  have sF : Same H (upd (upd H dx (.own a)) a (.ins C dx [])) := fun b o e => by rw [upd_ne (ne_of_none e na), upd_ne (ne_of_none e ndx)]; exact e
  refine ⟨a, dx, rfl, upd_same, fun pP pW pB H1 k1 nP nW nB R1 => ⟨rfl, ?_⟩⟩
  have s1 : Same H H1 := fun b o e => k1 b o (ne_of_none e na) (sF _ _ e)
  have nP := none_back sF nP
  have nW := none_back sF nW
  have nB := none_back sF nB
  refine ⟨_, rfl, pA, rfl, ⟨_, SqL.of (s1 _ _ hp)⟩, for_list (K := K) (a := pA) (xs := us) (fun i σ H' => ∃ (o4 o5 o6 : Option V) (kP kW : List (Key × V)), σ = [some (.ref pA), some (.ref bA), some (.ref a), o4, o5, o6, none, none] ∧ Same H H' ∧ FrR K H' C a dx pP pW pB ((pins.take i).map fun p => (p.nm, ptQ p.sp)) [] kP kW [] ∧ WyR K H' ((pins.take i).map fun p => (p.nm, p.ws)) kW) ⟨none, none, none, [], [], rfl, s1, R1, .nil⟩ (fun i σ H' _ h => by
      obtain ⟨_, _, _, _, _, _, s, _⟩ := h
      exact SqL.of (s _ _ hp)) ?_ ?_⟩
  · rintro i u σ H2 hu ⟨o4, o5, o6, kP, kW, rfl, s2, R2, W2⟩
    obtain ⟨p, ep, hpr⟩ := paired_get pp hu
    have mp : p ∈ pins := List.mem_of_getElem? ep
    obtain ⟨ta, l, sv, ws, rfl, h1, h2, h3, h4⟩ := hpr.same s2
    obtain ⟨sa, x1, y1, rfl, hsq, hn1, hn2⟩ := h2
    refine ⟨ta, _, rfl, h1, rfl, _, _, rfl, _, _, rfl, _, _, rfl, rfl, ?_⟩
    have tk := take_snoc ep
    have il : i < pins.length := (List.getElem?_eq_some_iff.mp ep).1
    have nlP : l ≠ pP := fun z => by rw [z, R2.pl] at h3; cases h3
    have nlW : l ≠ pW := fun z => by rw [z, R2.wy] at h3; cases h3
    have fin : ∀ (hv : V) (H5 : Hp) (Q5 : VK) (E5 : XK), Same H2 H5 → HoldY P w K mg base H5 hv p.ws →
        (∀ H' kP' kW', Same H H' → H' l = some (.lst ws) → FrR K H' C a dx pP pW pB ((pins.take (i + 1)).map fun p => (p.nm, ptQ p.sp)) [] kP' kW' [] → WyR K H' ((pins.take (i + 1)).map fun p => (p.nm, p.ws)) kW' → Q5 .non H') → spPutPinW P w K mg base C [.ref a, .str p.nm, x1, y1, hv] H5 Q5 E5 := fun hv H5 Q5 E5 s5 hY fin => by
      refine ⟨a, dx, pP, pW, pB, _, _, kP, kW, _, _, p.nm, x1, y1, hv, ptQ p.sp, p.ws, rfl, R2.same s5, W2.same s5, by rw [List.map_map, List.map_map]; rfl, hn1.same s5, hn2.same s5, fun z => ?_, fun z hz e => ?_, ?_, hY, fun H' kP' kW' k' R' W' => ?_⟩
      · rw [List.map_map] at z
        obtain ⟨p', hp', e'⟩ := List.mem_map.mp z
        exact take_new (nm := PinD.nm) gp.np ep hp' e'
      · obtain ⟨p', hp', e'⟩ := List.mem_map.mp hz
        rw [← e'] at e
        have e1 := congrArg Prod.fst e
        have e2 := congrArg Prod.snd e
        have e3 : p'.sp = p.sp := Prod.ext (qr_inj e1) (qr_inj e2)
        obtain ⟨j, hj, ej⟩ := List.mem_iff_getElem.mp hp'
        rw [List.getElem_take] at ej
        rw [List.length_take] at hj
        have q1 : (pins.map (·.sp))[j]? = some p.sp := by rw [List.getElem?_map, List.getElem?_eq_getElem (by omega), ej, ← e3]; rfl
        have q2 : (pins.map (·.sp))[i]? = some p.sp := by rw [List.getElem?_map, ep]; rfl
        have := (List.getElem?_inj (by rw [List.length_map]; omega) gp.ns).mp (q1.trans q2.symm)
        omega
      · rw [List.length_map, List.length_take]
        omega
      · refine fin H' kP' kW' (fun b o z => k' b o (ne_of_none z nP) (ne_of_none z nW) (s5 _ _ (s2 _ _ z))) (k' _ _ nlP nlW (s5 _ _ h3)) ?_ ?_
        · rw [tk, List.map_append]
          exact R'
        · rw [tk, List.map_append]
          exact W'
    have l2 := SqL.of (K := K) h3
    have lw : ws.length = p.ws.length := Paired.length h4
    refine ⟨_, rfl, l, _, rfl, .inl l2, rfl, _, rfl, ?_⟩
    rcases gp.ws p mp with hw | ⟨wx, wy, hw, wn, _, _⟩ | hw
    · rw [hw] at lw
      refine ite2 (fun _ => ?_) (fun c => by rw [lw] at c; simp at c)
      refine ⟨_, rfl, a, C, dx, _, _, _, rfl, R2.obj, rfl, MPd, _, rfl, _, rfl, sa, _, _, _, rfl, rfl, hsq, at0, _, rfl, sa, _, _, _, rfl, rfl, hsq, at1, ?_⟩
      dsimp only [tNil]
      refine fin .non H2 _ _ (Same.refl _) (.inl ⟨rfl, hw⟩) fun H' kP' kW' s' l' R' W' => ?_
      have l' := SqL.of (K := K) l'
      refine ⟨_, rfl, l, _, rfl, .inl l', rfl, _, rfl, ?_⟩
      refine ite2 (fun c => by rw [lw] at c; simp at c) (fun _ => ?_)
      refine ⟨_, rfl, l, _, rfl, .inl l', rfl, _, rfl, ?_⟩
      refine ite2 (fun c => by rw [lw] at c; simp at c) (fun _ => ?_)
      exact ⟨_, _, _, kP', kW', rfl, s', R', W'⟩
    · rw [hw] at lw h4
      obtain ⟨w0, rfl⟩ : ∃ w0, ws = [w0] := by
        match ws, lw with
        | [w0], _ => exact ⟨w0, rfl⟩
      have hw0 : PtR K H2 w0 (wx, wy) := by
        cases h4 with
        | cons h _ => exact h
      obtain ⟨wa, y2, y3, rfl, hsw, hm1, hm2⟩ := hw0
      refine ite2 (fun c => by simp at c) (fun _ => ?_)
      refine ⟨_, rfl, l, _, rfl, .inl l2, rfl, _, rfl, ?_⟩
      refine ite2 (fun _ => ?_) (fun c => absurd rfl c)
      refine ⟨_, rfl, a, C, dx, _, _, _, rfl, R2.obj, rfl, MPp, _, rfl, _, rfl, sa, _, _, _, rfl, rfl, hsq, at0, _, rfl, sa, _, _, _, rfl, rfl, hsq, at1, ?_⟩
      refine ⟨_, rfl, l, _, _, _, rfl, rfl, l2, rfl, wa, _, _, _, rfl, rfl, hsw, at0, _, rfl, l, _, _, _, rfl, rfl, l2, rfl, wa, _, _, _, rfl, rfl, hsw, at1, ?_⟩
      intro h1' d1 nh1 nd1 ne1
      have s4 : Same H2 (upd (upd H2 d1 (.own h1')) h1' (.ins CR d1 [])) := fun b o e => by rw [upd_ne (ne_of_none e nh1), upd_ne (ne_of_none e nd1)]; exact e
      have e4 : (upd (upd H2 d1 (.own h1')) h1' (.ins CR d1 [])) h1' = some (.ins CR d1 []) := upd_same
      generalize upd (upd H2 d1 (.own h1')) h1' (.ins CR d1 []) = H4 at s4 e4 ⊢
      refine ⟨h1', d1, y2, y3, wx, wy, rfl, e4, hm1.same s4, hm2.same s4, wn, fun p5 n5 => ⟨rfl, ?_⟩⟩
      have hne : p5 ≠ h1' := fun z => by rw [z, e4] at n5; cases n5
      have s5 : Same H2 (upd (upd H4 p5 (.tup [y2, y3])) h1' (.ins CR d1 [("way", .ref p5)])) := fun b o e => by
        have z : b ≠ h1' := fun z => by rw [z, nh1] at e; cases e
        rw [upd_ne z]
        exact same_new n5 _ _ _ (s4 _ _ e)
      have e5 : (upd (upd H4 p5 (.tup [y2, y3])) h1' (.ins CR d1 [("way", .ref p5)])) h1' = some (.ins CR d1 [("way", .ref p5)]) := upd_same
      have t5 : (upd (upd H4 p5 (.tup [y2, y3])) h1' (.ins CR d1 [("way", .ref p5)])) p5 = some (.tup [y2, y3]) := by rw [upd_ne hne, upd_same]
      generalize upd (upd H4 p5 (.tup [y2, y3])) h1' (.ins CR d1 [("way", .ref p5)]) = H5 at s5 e5 t5 ⊢
      have hway : PtR K H5 (.ref p5) (wx, wy) := pt_of t5 (hm1.same s5) (hm2.same s5)
      dsimp only [tNil]
      refine fin (.ref h1') H5 _ _ s5 (.inr ⟨h1', CR, d1, _, ["self"], spRWays K CR, rfl, e5, no_ways _, wR, fun H6 e6 t6 Q' an => ⟨h1', d1, p5, (wx, wy), rfl, e6, hway.sameT t6, by rw [hw] at an; exact an⟩⟩) fun H' kP' kW' s' l' R' W' => ?_
      refine ⟨_, rfl, l, _, rfl, .inl (SqL.of (K := K) l'), rfl, _, rfl, ?_⟩
      refine ite2 (fun c => by simp at c) (fun _ => ?_)
      exact ⟨_, _, _, kP', kW', rfl, s', R', W'⟩
    · rw [hw] at lw
      refine ite2 (fun c => by rw [lw] at c; simp at c) (fun _ => ?_)
      refine ⟨_, rfl, l, _, rfl, .inl l2, rfl, _, rfl, ?_⟩
      refine ite2 (fun c => by rw [lw] at c; simp at c) (fun _ => ?_)
      refine ⟨_, rfl, l, _, rfl, .inl l2, rfl, _, rfl, ?_⟩
      refine ite2 (fun _ => ?_) (fun c => by rw [lw] at c; simp at c)
      refine ⟨_, rfl, a, C, dx, _, _, _, rfl, R2.obj, rfl, MPp, _, rfl, _, rfl, sa, _, _, _, rfl, rfl, hsq, at0, _, rfl, sa, _, _, _, rfl, rfl, hsq, at1, ?_⟩
      intro h1' d1 nh1 nd1 ne1
      have s4 : Same H2 (upd (upd H2 d1 (.own h1')) h1' (.ins CF d1 [])) := fun b o e => by rw [upd_ne (ne_of_none e nh1), upd_ne (ne_of_none e nd1)]; exact e
      have e4 : (upd (upd H2 d1 (.own h1')) h1' (.ins CF d1 [])) h1' = some (.ins CF d1 []) := upd_same
      generalize upd (upd H2 d1 (.own h1')) h1' (.ins CF d1 []) = H4 at s4 e4 ⊢
      dsimp only [tNil]
      refine fin (.ref h1') H4 _ _ s4 (.inr ⟨h1', CF, d1, _, ["self"], spFixed K, rfl, e4, rfl, wF, fun H6 _ _ Q' an => ⟨h1', rfl, by rw [hw] at an; exact an⟩⟩) fun H' kP' kW' s' l' R' W' => ?_
      exact ⟨_, _, _, kP', kW', rfl, s', R', W'⟩
  · rintro σ H2 ⟨o4, o5, o6, kP, kW, rfl, s2, R2, W2⟩
    rw [lu, List.take_length] at R2 W2
    have lv : vs'.length = bars.length := Paired.length pb
    refine ⟨_, rfl, bA, rfl, ⟨_, SqL.of (s2 _ _ hb)⟩, for_list (K := K) (a := bA) (xs := vs') (fun i σ H' => ∃ (o3 o7 o8 : Option V) (kB : List (Key × V)), σ = [some (.ref pA), some (.ref bA), some (.ref a), o3, o5, o6, o7, o8] ∧ Same H H' ∧ FrR K H' C a dx pP pW pB (pins.map fun p => (p.nm, ptQ p.sp)) ((bars.take i).map fun b => (b.nm, b.one.nm, b.other.nm)) kP kW kB ∧ WyR K H' (pins.map fun p => (p.nm, p.ws)) kW) ⟨_, none, none, [], rfl, s2, R2, W2⟩ (fun i σ H' _ h => by
        obtain ⟨_, _, _, _, _, s, _⟩ := h
        exact SqL.of (s _ _ hb)) ?_ ?_⟩
    · rintro i u σ H3 hu ⟨o3, o7, o8, kB, rfl, s3, R3, W3⟩
      obtain ⟨b, ebr, hbr⟩ := paired_get pb hu
      have mb : b ∈ bars := List.mem_of_getElem? ebr
      obtain ⟨ta, i1, j1, rfl, h1, g1, g2⟩ := hbr.same s3
      obtain ⟨m1, m2, m3⟩ := gb.ends b mb
      have tk := take_snoc ebr
      have il : i < bars.length := (List.getElem?_eq_some_iff.mp ebr).1
      have at1' : ∀ (k : Nat) (p : PinD), pins[k]? = some p → ∃ (c la : Addr) (sv : V), atI us (k : Int) = some (.ref c) ∧ SqT K H3 c [.str p.nm, sv, .ref la] := fun k p ek => by
        obtain ⟨u', eu', hu'⟩ := paired_get (paired_flip pp) ek
        obtain ⟨c, la, sv, ws, rfl, q1, _⟩ := PinR.same hu' s3
        exact ⟨c, la, sv, atI_nat eu', q1⟩
      obtain ⟨c1, la1, sv1, ea1, q1⟩ := at1' _ _ g1
      obtain ⟨c2, la2, sv2, ea2, q2⟩ := at1' _ _ g2
      refine ⟨ta, _, rfl, h1, rfl, _, _, rfl, _, _, rfl, _, _, rfl, rfl, ?_⟩
      have lp3 := SqL.of (K := K) (s3 _ _ hp)
      refine ⟨_, rfl, a, C, dx, _, _, _, rfl, R3.obj, rfl, MPb, _, rfl, _, rfl, _, rfl, pA, _, _, _, rfl, rfl, lp3, ea1, c1, _, _, _, rfl, rfl, q1, rfl, _, rfl, _, rfl, pA, _, _, _, rfl, rfl, lp3, ea2, c2, _, _, _, rfl, rfl, q2, rfl, ?_⟩
      refine ⟨a, dx, pP, pW, pB, _, _, kP, kW, kB, b.nm, b.one.nm, b.other.nm, rfl, R3, fun z => ?_, ?_, ?_, m3, ?_, fun H' kB' k' R' => ?_⟩
      · rw [List.map_map] at z
        obtain ⟨b', hb', e'⟩ := List.mem_map.mp z
        exact take_new (nm := BarD.nm) gb.nb ebr hb' e'
      · rw [List.map_map]
        exact List.mem_map.mpr ⟨_, m1, rfl⟩
      · rw [List.map_map]
        exact List.mem_map.mpr ⟨_, m2, rfl⟩
      · rw [List.length_map, List.length_take]
        omega
      · refine ⟨_, _, _, kB', rfl, fun c o z => k' c o (ne_of_none z nB) (s3 _ _ z), ?_, ?_⟩
        · rw [tk, List.map_append]
          exact R'
        · refine Paired.mapP W3 fun p' kv z => ⟨z.1, ?_⟩
          obtain ⟨l', us', z1, z2, z3⟩ := z.2
          refine ⟨l', us', z1, k' _ _ (fun z => by rw [z, R3.br] at z2; cases z2) z2, z3.sameT fun c xs r => ?_⟩
          rcases r with r | ⟨o', r⟩
          · exact .inl (k' _ _ (fun e => by rw [e, R3.br] at r; cases r) r)
          · exact .inr ⟨o', k' _ _ (fun e => by rw [e, R3.br] at r; cases r) r⟩
    · rintro σ H3 ⟨o3, o7, o8, kB, rfl, s3, R3, W3⟩
      rw [lv, List.take_length] at R3
      exact ⟨_, rfl, q a H3 s3 ⟨⟨dx, pP, pW, pB, kP, kW, kB, R3, W3⟩⟩⟩
theorem k_ii : PySem.W.kitOne K (.type "int") (.type "int") = some true := by unfold PySem.W.kitOne; rw [if_pos (by decide)]
theorem k_ib : PySem.W.kitOne K (.type "int") (.type "bool") = some false := kind_sub ⟨by decide, fun _ => ⟨by decide +kernel, by decide +kernel⟩⟩
theorem eq_num1 (x : Int × Int) : eqDas [.v (.int x.1), .v (.int x.2)] [.v (.int x.1), .v (.int x.2)] = true := by
  simp [eqDas, eqDa, eqV]
def spNumber (K : PySem.W.Frag) : Sp := fun vs H Q _ => ∃ (u : V) (r : Rat), vs = [u] ∧ NmR K H u r ∧ ∀ H', Same H H' → Q (.bl true) H'
theorem sc_law_number : FnScope ["_law_x", "_law_part"] ["_law_x"] (defScope s_law_number) := ⟨rfl, rfl, rfl, by decide +kernel, rfl, by decide +kernel, by decide +kernel⟩
theorem ok_law_number (D : Def K mg "_law_number" s_law_number ["_law_x"]) (m_len : mg "len" = none) (m_isinstance : mg "isinstance" = none) (m_int : mg "int" = none) (m_bool : mg "bool" = none) (m_tuple : mg "tuple" = none)
    (G_law_lowest : Fn P w K mg base (CXr P w) 33 "_law_lowest" ["_law_top", "_law_bottom"] spLaw_lowestU) : Fn P w K mg base (CXr P w) 34 "_law_number" ["_law_x"] (spNumber K) := by
  refine D.ok sc_law_number (fun vs H Q E h => ?_) (fun f cdv A outer s H vs Q E hr h => ?_)
  · obtain ⟨u, r, rfl, _⟩ := h
    rfl
  obtain ⟨_, r, rfl, ⟨p1, rfl, h1⟩, q⟩ := h
  have hp := qr_pos r
  have hg := qr_gcd r
  generalize qr r = x at h1 hp hg
  have px := passM (X := (cxOf (CXr P w) P w K mg base ["_law_x", "_law_part"] "_law_number" (defScope s_law_number) f cdv A outer s H E)) (CXr.mute (P := P) (w := w))
  refine ⟨_, (pss_cons (ps_if (PW.pt (pw_or (pt_not (pt_val (pe_callB call_isiT rfl m_isinstance b_isinstance (pac (pv 0) (pac (pe_ty rfl m_tuple b_tuple) pa_nil))))) (pw_or1 (pt_cmpR op_ne (pe_callB call_len_seq rfl m_len b_len (pac (pv 0) pa_nil)) pe_int (nomark _))))) (pss_one (ps_ret pe_bl)) pss_nil)
    (pss_cons (ps_for PassesOwn.never rfl (pi_tup (pv 0)) (pg_name (i := 1) sc_law_number.nd rfl (Or.inl rfl)) (pss_one (ps_if (PW.pt (pw_or (pt_not (pt_val (pe_callB call_isi rfl m_isinstance b_isinstance (pac (pv 1) (pac (pe_ty rfl m_int b_int) pa_nil))))) (pw_or1 (pt_val (pe_callB call_isi rfl m_isinstance b_isinstance (pac (pv 1) (pac (pe_ty rfl m_bool b_bool) pa_nil))))))) (pss_one (ps_ret pe_bl)) pss_nil)))
    (pss_one (ps_ret (pe_and (pe_cmpR op_gt (pe_ix ix_tup (pv 0) pe_int (fun _ _ => rfl)) pe_int (nomark _)) (pe_one (pe_cmpR (op_eqDa hr.units) (pe_fn G_law_lowest (hr.mono (by decide)) px (pac (pe_ix ix_tup (pv 0) pe_int (fun _ _ => rfl)) (pac (pe_ix ix_tup (pv 0) pe_int (fun _ _ => rfl)) pa_nil))) (pv 0) (nomark _)))))))), ?_⟩
  refine ⟨_, rfl, p1, _, rfl, h1, _, rfl, ?_⟩
  refine ite2 (fun c => nomatch c) (fun _ => ?_)
  refine ⟨_, rfl, p1, _, rfl, .inr h1, rfl, _, rfl, ?_⟩
  refine iteNS rfl ?_
  refine ⟨_, rfl, p1, rfl, ⟨_, h1⟩, for_tup (K := K) (a := p1) (xs := [.int x.1, .int x.2]) (fun i σ H' => ∃ o, σ = [some (.ref p1), o] ∧ H' = H) ⟨none, rfl, rfl⟩ (fun i σ H' _ ⟨o, _, e⟩ => by rw [e]; exact h1) ?_ ?_⟩
  · rintro i z σ H' hi ⟨o, rfl, rfl⟩
    obtain ⟨n, rfl⟩ : ∃ n, z = V.int n := by
      match i, hi with
      | 0, hi => exact ⟨_, (Option.some.inj hi).symm⟩
      | 1, hi => exact ⟨_, (Option.some.inj hi).symm⟩
    refine ⟨_, rfl, _, _, _, true, rfl, rfl, .int n, k_ii, _, rfl, ?_⟩
    refine ite2 (fun c => nomatch c) (fun _ => ?_)
    refine ⟨_, rfl, _, _, _, false, rfl, rfl, .int n, k_ib, _, rfl, ?_⟩
    refine ite2 (fun c => nomatch c) (fun _ => ?_)
    exact ⟨_, rfl, rfl⟩
  · rintro σ H' ⟨o, rfl, rfl⟩
    refine ⟨_, rfl, p1, _, _, _, rfl, rfl, h1, at1, _, _, rfl, rfl, _, rfl, ?_⟩
    refine ite2 (fun _ => ?_) (fun c => absurd (decide_eq_true hp) c)
    refine ⟨_, rfl, p1, _, _, _, rfl, rfl, h1, at0, _, rfl, p1, _, _, _, rfl, rfl, h1, at1, _, _, rfl, hp, fun p2 H2 s2 e2 => ?_⟩
    rw [low_self hp hg] at e2
    refine ⟨_, rfl, _, _, .inl ⟨is_numF (q := x) ⟨p2, rfl, SqT.of e2⟩, is_numF (q := x) ⟨p1, rfl, Ty.Same.seqT s2 h1⟩⟩, rfl, dep_num, ?_⟩
    rw [eq_num1 x]
    exact q _ s2
def ax (k : Int) (p : Rat × Rat) : Rat := if k = 0 then p.1 else p.2
theorem pt_ax {K : PySem.W.Frag} {H : Hp} {v : V} {p : Rat × Rat} {k : Int} (hk : k = 0 ∨ k = 1) (h : PtR K H v p) : ∃ (a : Addr) (xs : List V) (u : V), v = .ref a ∧ SqT K H a xs ∧ atI xs k = some u ∧ NmR K H u (ax k p) := by
  obtain ⟨a, u1, u2, rfl, hq, h1, h2⟩ := h
  rcases hk with rfl | rfl
  · exact ⟨a, _, u1, rfl, hq, rfl, h1⟩
  · exact ⟨a, _, u2, rfl, hq, rfl, h2⟩
theorem sz_ax {n : Nat} {p : Rat × Rat} {k : Int} (h : Sz n p.1 ∧ Sz n p.2) : Sz n (ax k p) := by
  unfold ax
  split
  · exact h.1
  · exact h.2
theorem pin_at {K : PySem.W.Frag} {H : Hp} {us : List V} {pins : List PinD} {k : Nat} {p : PinD} (pp : Paired (PinR K H) us pins) (e : pins[k]? = some p) : ∃ (c la : Addr) (sv : V), atI us (k : Int) = some (.ref c) ∧ SqT K H c [.str p.nm, sv, .ref la] ∧ PtR K H sv p.sp := by
  obtain ⟨u', eu', hu'⟩ := paired_get (paired_flip pp) e
  obtain ⟨c, la, sv, ws, rfl, q1, q2, _⟩ : PinR K H u' p := hu'
  exact ⟨c, la, sv, atI_nat eu', q1, q2⟩
def spArmL (K : PySem.W.Frag) : Sp := fun vs H Q _ => ∃ (pA : Addr) (us : List V) (pins : List PinD) (u : V) (b : BarD) (k : Int), vs = [.ref pA, u, .int k] ∧ H pA = some (.lst us) ∧ Paired (PinR K H) us pins ∧ GoodP pins ∧ BarR K H pins u b ∧ (k = 0 ∨ k = 1) ∧ ∀ (v : V) (H' : Hp), Same H H' → NmZ K H' v 101 (ax k b.other.sp - ax k b.one.sp) → Q v H'
theorem sc_law_arm : FnScope ["_law_pins", "_law_bar", "_law_axis"] ["_law_pins", "_law_bar", "_law_axis"] (defScope s_law_arm) := ⟨rfl, rfl, rfl, by decide +kernel, rfl, by decide +kernel, by decide +kernel⟩
theorem ok_law_arm (D : Def K mg "_law_arm" s_law_arm ["_law_pins", "_law_bar", "_law_axis"]) (G_law_sum : Fn P w K mg base (CXr P w) 1 "_law_sum" ["_law_one", "_law_other"] (spSumI K addI)) (G_law_turned : Fn P w K mg base (CXr P w) 1 "_law_turned" ["_law_one"] (spTurnI K)) :
    Fn P w K mg base (CXr P w) 2 "_law_arm" ["_law_pins", "_law_bar", "_law_axis"] (spArmL K) := by
  refine D.ok sc_law_arm (fun vs H Q E h => ?_) (fun f cdv A outer s H vs Q E hr h => ?_)
  · obtain ⟨pA, us, pins, u, b, k, rfl, _⟩ := h
    rfl
  obtain ⟨pA, us, pins, u, b, k, rfl, hp, pp, gp, ⟨ta, i, j, rfl, hb, e1, e2⟩, hk, q⟩ := h
  have px := passM (X := (cxOf (CXr P w) P w K mg base ["_law_pins", "_law_bar", "_law_axis"] "_law_arm" (defScope s_law_arm) f cdv A outer s H E)) (CXr.mute (P := P) (w := w))
  refine ⟨_, (pss_one (ps_ret (pe_fn G_law_sum (hr.mono (by decide)) px (pac (pe_ix ix_tup (pe_ix ix_tup (pe_ix ix_list (pv 0) (pe_ix ix_tup (pv 1) pe_int (fun _ _ => rfl)) (fun _ _ => rfl)) pe_int (fun _ _ => rfl)) (pv 2) (fun _ _ => rfl)) (pac (pe_fn G_law_turned (hr.mono (by decide)) px (pac (pe_ix ix_tup (pe_ix ix_tup (pe_ix ix_list (pv 0) (pe_ix ix_tup (pv 1) pe_int (fun _ _ => rfl)) (fun _ _ => rfl)) pe_int (fun _ _ => rfl)) (pv 2) (fun _ _ => rfl)) pa_nil)) pa_nil))))), ?_⟩
  obtain ⟨c1, l1, sv1, ea1, q1, r1⟩ := pin_at pp e1
  obtain ⟨c2, l2, sv2, ea2, q2, r2⟩ := pin_at pp e2
  obtain ⟨a1, xs1, u1, rfl, t1, v1, n1⟩ := pt_ax hk r1
  obtain ⟨a2, xs2, u2, rfl, t2, v2, n2⟩ := pt_ax hk r2
  have z1 := sz_ax (k := k) (gp.sz _ (List.mem_of_getElem? e1))
  have z2 := sz_ax (k := k) (gp.sz _ (List.mem_of_getElem? e2))
  have lp := SqL.of (K := K) hp
  refine ⟨_, rfl, _, rfl, ta, _, _, _, rfl, rfl, hb, rfl, pA, _, _, _, rfl, rfl, lp, ea2, c2, _, _, _, rfl, rfl, q2, rfl, _, rfl, a2, _, _, _, rfl, rfl, t2, v2, _, rfl, _, rfl, ta, _, _, _, rfl, rfl, hb, rfl, pA, _, _, _, rfl, rfl, lp, ea1, c1, _, _, _, rfl, rfl, q1, rfl, _, rfl, a1, _, _, _, rfl, rfl, t1, v1, ?_⟩
  dsimp only [tNil]
  show spTurnI K [_] _ _ E0
  refine ask_turn (nmz_of n1 (zb_of z1 (Nat.le_refl _))) fun p3 H3 s3 n3 => ?_
  show spSumI K addI [_, _] _ _ E0
  refine ask_sum ((nmz_of n2 (zb_of z2 (Nat.le_refl _))).same s3) n3 (by decide) fun p4 H4 s4 n4 => ?_
  refine q (.ref p4) H4 (s3.trans s4) ?_
  rw [Rat.sub_eq_add_neg]
  exact n4
def spDotL (K : PySem.W.Frag) : Sp := fun vs H Q _ => ∃ (l1 l2 : Addr) (u1 u2 v1 v2 : V) (x1 x2 y1 y2 : Rat) (m n : Nat), vs = [.ref l1, .ref l2] ∧ SqL K H l1 [u1, u2] ∧ SqL K H l2 [v1, v2] ∧ NmZ K H u1 m x1 ∧ NmZ K H u2 m x2 ∧ NmZ K H v1 n y1 ∧ NmZ K H v2 n y2 ∧ m + n ≤ 10000000 ∧ ∀ (v : V) (H' : Hp), Same H H' → NmZ K H' v (m + n + (m + n) + 1) (x1 * y1 + x2 * y2) → Q v H'
theorem sc_law_dot : FnScope ["_law_one", "_law_other"] ["_law_one", "_law_other"] (defScope s_law_dot) := ⟨rfl, rfl, rfl, by decide +kernel, rfl, by decide +kernel, by decide +kernel⟩
theorem ok_law_dot (D : Def K mg "_law_dot" s_law_dot ["_law_one", "_law_other"]) (G_law_sum : Fn P w K mg base (CXr P w) 1 "_law_sum" ["_law_one", "_law_other"] (spSumI K addI)) (G_law_times : Fn P w K mg base (CXr P w) 1 "_law_times" ["_law_one", "_law_other"] (spSumI K mulI)) :
    Fn P w K mg base (CXr P w) 2 "_law_dot" ["_law_one", "_law_other"] (spDotL K) := by
  refine D.ok sc_law_dot (fun vs H Q E h => ?_) (fun f cdv A outer s H vs Q E hr h => ?_)
  · obtain ⟨l1, l2, u1, u2, v1, v2, x1, x2, y1, y2, m, n, rfl, _⟩ := h
    rfl
  obtain ⟨l1, l2, u1, u2, v1, v2, x1, x2, y1, y2, m, n, rfl, h1, h2, a1, a2, b1, b2, le, q⟩ := h
  have px := passM (X := (cxOf (CXr P w) P w K mg base ["_law_one", "_law_other"] "_law_dot" (defScope s_law_dot) f cdv A outer s H E)) (CXr.mute (P := P) (w := w))
  refine ⟨_, (pss_one (ps_ret (pe_fn G_law_sum (hr.mono (by decide)) px (pac (pe_fn G_law_times (hr.mono (by decide)) px (pac (pe_ix ix_list (pv 0) pe_int (fun _ _ => rfl)) (pac (pe_ix ix_list (pv 1) pe_int (fun _ _ => rfl)) pa_nil))) (pac (pe_fn G_law_times (hr.mono (by decide)) px (pac (pe_ix ix_list (pv 0) pe_int (fun _ _ => rfl)) (pac (pe_ix ix_list (pv 1) pe_int (fun _ _ => rfl)) pa_nil))) pa_nil))))), ?_⟩
  refine ⟨_, rfl, l1, _, _, _, rfl, rfl, h1, rfl, _, rfl, l2, _, _, _, rfl, rfl, h2, rfl, ?_⟩
  dsimp only [tNil]
  show spSumI K mulI [_, _] _ _ E0
  refine ask_mul a1 b1 (by omega) fun p3 H3 s3 n3 => ?_
  refine ⟨_, rfl, l1, _, _, _, rfl, rfl, s3.seq h1, rfl, _, rfl, l2, _, _, _, rfl, rfl, s3.seq h2, rfl, ?_⟩
  dsimp only [tNil]
  show spSumI K mulI [_, _] _ _ E0
  refine ask_mul (a2.same s3) (b2.same s3) (by omega) fun p4 H4 s4 n4 => ?_
  show spSumI K addI [_, _] _ _ E0
  refine ask_sum (n3.same s4) n4 (by omega) fun p5 H5 s5 n5 => ?_
  exact q (.ref p5) H5 (s3.trans (s4.trans s5)) n5
def spLonger (K : PySem.W.Frag) : Sp := fun vs H Q _ => ∃ (pA dM : Addr) (us : List V) (pins : List PinD) (u : V) (b : BarD) (kM : List (Key × V)) (M : Str → Option (Rat × Rat)), vs = [.ref pA, u, .ref dM] ∧ H pA = some (.lst us) ∧ Paired (PinR K H) us pins ∧ GoodP pins ∧ BarR K H pins u b ∧ H dM = some (.dK kM) ∧ (∀ p ∈ pins, ∃ v, valV kM (.inr p.nm) = some v ∧ PtR K H v (mv M p.nm)) ∧ mvSz M ∧ ∀ (v : V) (H' : Hp), Same H H' → NmZ K H' v 700 (lenB M b) → Q v H'
theorem sc_law_longer : FnScope ["_law_pins", "_law_bar", "_law_motion_here", "_law_here", "_law_there", "_law_more"] ["_law_pins", "_law_bar", "_law_motion_here"] (defScope s_law_longer) := ⟨rfl, rfl, rfl, by decide +kernel, rfl, by decide +kernel, by decide +kernel⟩
theorem ok_law_longer (D : Def K mg "_law_longer" s_law_longer ["_law_pins", "_law_bar", "_law_motion_here"]) (m_range : mg "range" = none) (G_law_sum : Fn P w K mg base (CXr P w) 1 "_law_sum" ["_law_one", "_law_other"] (spSumI K addI)) (G_law_turned : Fn P w K mg base (CXr P w) 1 "_law_turned" ["_law_one"] (spTurnI K)) (G_law_arm : Fn P w K mg base (CXr P w) 2 "_law_arm" ["_law_pins", "_law_bar", "_law_axis"] (spArmL K)) (G_law_dot : Fn P w K mg base (CXr P w) 2 "_law_dot" ["_law_one", "_law_other"] (spDotL K)) :
    Fn P w K mg base (CXr P w) 3 "_law_longer" ["_law_pins", "_law_bar", "_law_motion_here"] (spLonger K) := by
  refine D.ok sc_law_longer (fun vs H Q E h => ?_) (fun f cdv A outer s H vs Q E hr h => ?_)
  · obtain ⟨pA, dM, us, pins, u, b, kM, M, rfl, _⟩ := h
    rfl
  obtain ⟨pA, dM, us, pins, u, b, kM, M, rfl, hp, pp, gp, hbr, hM, tM, zM, q⟩ := h
  have px := passM (X := (cxOf (CXr P w) P w K mg base ["_law_pins", "_law_bar", "_law_motion_here", "_law_here", "_law_there", "_law_more"] "_law_longer" (defScope s_law_longer) f cdv A outer s H E)) (CXr.mute (P := P) (w := w))
  have L2 : 2 ≤ sizeLine := by decide
  refine ⟨_, (pss_cons (ps_set (i := 3) sc_law_longer.nd rfl (Or.inr rfl) (pe_dget (hu_of hr) (pv 2) (pe_ix ix_tup (pe_ix ix_list (pv 0) (pe_ix ix_tup (pv 1) pe_int (fun _ _ => rfl)) (fun _ _ => rfl)) pe_int (fun _ _ => rfl)) (fun _ _ => rfl)))
    (pss_cons (ps_set (i := 4) sc_law_longer.nd rfl (Or.inr rfl) (pe_dget (hu_of hr) (pv 2) (pe_ix ix_tup (pe_ix ix_list (pv 0) (pe_ix ix_tup (pv 1) pe_int (fun _ _ => rfl)) (fun _ _ => rfl)) pe_int (fun _ _ => rfl)) (fun _ _ => rfl)))
    (pss_cons (ps_setC (i := 5) sc_law_longer.nd rfl (Or.inl rfl) (tn := ["_law_axis"]) (fr := ["_law_there", "_law_here"]) (caps := [4, 3]) rfl ⟨rfl, by decide +kernel, rfl, by decide +kernel, by decide +kernel, rfl, ⟨(by first | exact Or.inl rfl | exact Or.inr rfl), ⟨(by first | exact Or.inl rfl | exact Or.inr rfl), trivial⟩⟩, ⟨(by first | exact Or.inl rfl | exact Or.inr rfl), ⟨(by first | exact Or.inl rfl | exact Or.inr rfl), trivial⟩⟩⟩ (pi_range1 rfl m_range (pac pe_int pa_nil)) (fun _ _ _ _ => (pg_name (i := 0) (show (["_law_axis", "_law_there", "_law_here"] : List Str).Nodup from by decide +kernel) rfl (Or.inl rfl))) (fun _ _ _ _ => pf_nil) (fun _ _ _ _ => (pe_fn G_law_sum (hr.mono (by decide)) (passB (by first | assumption | exact CXr.mute) rfl) (pac (pe_ix (ix_tupK (K := K) rfl) (pv 1) (pv 0) (fun _ _ => rfl)) (pac (pe_fn G_law_turned (hr.mono (by decide)) (passB (by first | assumption | exact CXr.mute) rfl) (pac (pe_ix (ix_tupK (K := K) rfl) (pv 2) (pv 0) (fun _ _ => rfl)) pa_nil)) pa_nil)))))
    (pss_one (ps_ret (pe_fn G_law_dot (hr.mono (by decide)) px (pac (pe_lst (pac (pe_fn G_law_arm (hr.mono (by decide)) px (pac (pv 0) (pac (pv 1) (pac pe_int pa_nil)))) (pac (pe_fn G_law_arm (hr.mono (by decide)) px (pac (pv 0) (pac (pv 1) (pac pe_int pa_nil)))) pa_nil))) (pac (pv 5) pa_nil)))))))), ?_⟩
  obtain ⟨ta, i, j, rfl, hb, e1, e2⟩ := id hbr
  obtain ⟨c1, l1, sv1, ea1, q1, _⟩ := pin_at pp e1
  obtain ⟨c2, l2, sv2, ea2, q2, _⟩ := pin_at pp e2
  obtain ⟨w1, ev1, hw1⟩ := tM _ (List.mem_of_getElem? e1)
  obtain ⟨w2, ev2, hw2⟩ := tM _ (List.mem_of_getElem? e2)
  have dg1 : DGet H dM (.str b.one.nm) (some w1) := by
    have := DGet.k (k := .inr b.one.nm) hM
    rw [ev1] at this
    exact this
  have dg2 : DGet H dM (.str b.other.nm) (some w2) := by
    have := DGet.k (k := .inr b.other.nm) hM
    rw [ev2] at this
    exact this
  have lp := SqL.of (K := K) hp
  refine ⟨_, rfl, _, rfl, _, rfl, ta, _, _, _, rfl, rfl, hb, rfl, pA, _, _, _, rfl, rfl, lp, ea1, c1, _, _, _, rfl, rfl, q1, rfl, dM, _, rfl, dg1, ?_⟩
  refine ⟨_, rfl, _, rfl, _, rfl, ta, _, _, _, rfl, rfl, hb, rfl, pA, _, _, _, rfl, rfl, lp, ea2, c2, _, _, _, rfl, rfl, q2, rfl, dM, _, rfl, dg2, ?_⟩
  have z1 := zM b.one.nm
  have z2 := zM b.other.nm
  refine ⟨(2 : Int), rfl, by decide, by decide, fun D1 n1 => ?_⟩
  refine comp_range (lo := 0) (n := 2) (cap := [some w2, some w1]) (fun k v H => NmZ K H v 201 (ax (k : Int) (mv M b.other.nm) - ax (k : Int) (mv M b.one.nm))) n1 (by decide) (fun _ _ _ _ _ h0 ks h => by
      refine NmZ.sameT h fun b xs r => ?_
      rcases r with r | ⟨o', r⟩
      · exact .inl (ks _ _ (fun e => by rw [e, h0] at r; cases r) r)
      · exact .inr ⟨o', ks _ _ (fun e => by rw [e, h0] at r; cases r) r⟩) ?_ ?_
  · intro k H3 R hk s3 kk
    have ek : (0 : Int) + (k : Int) = (k : Int) := Int.zero_add _
    rw [ek]
    have hk2 : (k : Int) = 0 ∨ (k : Int) = 1 := by omega
    obtain ⟨a1, xs1, u1, rfl, t1, v1, m1⟩ := pt_ax hk2 (hw1.same s3)
    obtain ⟨a2, xs2, u2, rfl, t2, v2, m2⟩ := pt_ax hk2 (hw2.same s3)
    refine ⟨_, rfl, _, rfl, a2, _, _, _, rfl, rfl, t2, v2, _, rfl, _, rfl, a1, _, _, _, rfl, rfl, t1, v1, ?_⟩
    dsimp only [tNil]
    show spTurnI K [_] _ _ E0
    refine ask_turn (nmz_of m1 (zb_of (sz_ax z1) (Nat.le_refl _))) fun p4 H4 s4 n4 => ?_
    show spSumI K addI [_, _] _ _ E0
    refine ask_sum ((nmz_of m2 (zb_of (sz_ax z2) (Nat.le_refl _))).same s4) n4 (by decide) fun p5 H5 s5 n5 => ?_
    refine kk _ _ (s4.trans s5) ?_
    rw [Rat.sub_eq_add_neg]
    exact n5
  intro ys H3 ly hy s3 hD
  obtain ⟨y1, y2, rfl⟩ : ∃ y1 y2, ys = [y1, y2] := by
    match ys, ly with
    | [y1, y2], _ => exact ⟨y1, y2, rfl⟩
  have k1 := hy 0 y1 rfl
  have k2 := hy 1 y2 rfl
  refine ⟨_, rfl, _, rfl, pA, us, pins, _, b, 0, rfl, s3 _ _ hp, Paired.mapP pp fun _ _ z => z.same s3, gp, hbr.same s3, .inl rfl, fun v4 H4 s4 n4 => ?_⟩
  have s04 := s3.trans s4
  refine ⟨_, rfl, _, rfl, pA, us, pins, _, b, 1, rfl, s04 _ _ hp, Paired.mapP pp fun _ _ z => z.same s04, gp, hbr.same s04, .inr rfl, fun v5 H5 s5 n5 => ⟨L2, ?_⟩⟩
  intro l6 m6; generalize eX : upd _ l6 _ = H6; have s6 := eX ▸ same_new m6 _; have e6 : H6 l6 = some _ := eX ▸ upd_same; clear eX
  have s36 := s4.trans (s5.trans s6)
  refine ⟨_, rfl, l6, D1, _, _, _, _, _, _, _, _, 101, 201, rfl, SqL.of e6, SqL.of (s36 _ _ hD), (n4.same (s5.trans s6)), n5.same s6, k1.same s36, k2.same s36, by decide, fun v H7 s7 n7 => ?_⟩
  exact q v H7 (s3.trans (s36.trans s7)) (n7.up (by decide))
theorem vl_pos {q : Int × Int} (h : 0 < q.2) : 0 < q.1 ↔ 0 < vl q := by
  have z : ((q.2 : Int) : Rat) ≠ 0 := ratne (Int.ne_of_gt h)
  have e : ((q.1 : Int) : Rat) = vl q * ((q.2 : Int) : Rat) := by
    unfold vl
    grind
  have p : (0 : Rat) < ((q.2 : Int) : Rat) := by exact_mod_cast h
  constructor
  · intro k
    have k' : (0 : Rat) < ((q.1 : Int) : Rat) := by exact_mod_cast k
    apply Classical.byContradiction
    intro n
    have n' : vl q ≤ 0 := by grind
    have := Rat.mul_le_mul_of_nonneg_right n' (Rat.le_of_lt p)
    grind
  · intro k
    have := Rat.mul_pos k p
    rw [← e] at this
    exact_mod_cast this
def spPriceL (K : PySem.W.Frag) : Sp := fun vs H Q _ => ∃ (pA bA dB dM : Addr) (us vs' : List V) (pins : List PinD) (bars : List BarD) (kB kM : List (Key × V)) (B : Str → Rat × Rat) (M : Str → Option (Rat × Rat)), vs = [.ref pA, .ref bA, .ref dB, .ref dM] ∧ H pA = some (.lst us) ∧ Paired (PinR K H) us pins ∧ GoodP pins ∧ H bA = some (.lst vs') ∧ Paired (BarR K H pins) vs' bars ∧ bars.length ≤ 5 ∧ H dB = some (.dK kB) ∧ (∀ b ∈ bars, ∃ v, valV kB (.inr b.nm) = some v ∧ PtR K H v (B b.nm)) ∧ (∀ b ∈ bars, Sz 50 (B b.nm).1 ∧ Sz 50 (B b.nm).2) ∧
  H dM = some (.dK kM) ∧ (∀ p ∈ pins, ∃ v, valV kM (.inr p.nm) = some v ∧ PtR K H v (mv M p.nm)) ∧ mvSz M ∧ ∀ (v : V) (H' : Hp), Same H H' → NmZ K H' v 5000 (bars.map (prB M B)).sum → Q v H'
theorem sc_law_price : FnScope ["_law_pins", "_law_bars_here", "_law_bounds_here", "_law_motion_here", "_law_total", "_law_bar", "_law_longer_here"] ["_law_pins", "_law_bars_here", "_law_bounds_here", "_law_motion_here"] (defScope s_law_price) := ⟨rfl, rfl, rfl, by decide +kernel, rfl, by decide +kernel, by decide +kernel⟩
theorem ok_law_price (D : Def K mg "_law_price" s_law_price ["_law_pins", "_law_bars_here", "_law_bounds_here", "_law_motion_here"]) (G_law_sum : Fn P w K mg base (CXr P w) 1 "_law_sum" ["_law_one", "_law_other"] (spSumI K addI)) (G_law_times : Fn P w K mg base (CXr P w) 1 "_law_times" ["_law_one", "_law_other"] (spSumI K mulI)) (G_law_longer : Fn P w K mg base (CXr P w) 3 "_law_longer" ["_law_pins", "_law_bar", "_law_motion_here"] (spLonger K)) :
    Fn P w K mg base (CXr P w) 4 "_law_price" ["_law_pins", "_law_bars_here", "_law_bounds_here", "_law_motion_here"] (spPriceL K) := by
  refine D.ok sc_law_price (fun vs H Q E h => ?_) (fun f cdv A outer s H vs Q E hr h => ?_)
  · obtain ⟨pA, bA, dB, dM, us, vs', pins, bars, kB, kM, B, M, rfl, _⟩ := h
    rfl
  obtain ⟨pA, bA, dB, dM, us, vs', pins, bars, kB, kM, B, M, rfl, hp, pp, gp, hb, pb, lb, hB, tB, zB, hM, tM, zM, q⟩ := h
  have px := passM (X := (cxOf (CXr P w) P w K mg base ["_law_pins", "_law_bars_here", "_law_bounds_here", "_law_motion_here", "_law_total", "_law_bar", "_law_longer_here"] "_law_price" (defScope s_law_price) f cdv A outer s H E)) (CXr.mute (P := P) (w := w))
  have L2 : 2 ≤ sizeLine := by decide
  have lv : vs'.length = bars.length := Paired.length pb
  refine ⟨_, (pss_cons (ps_set (i := 4) sc_law_price.nd rfl (Or.inl rfl) (pe_tup (pac pe_int (pac pe_int pa_nil))))
    (pss_cons (ps_for PassesOwn.never rfl (pi_list (pv 1)) (pg_name (i := 5) sc_law_price.nd rfl (Or.inl rfl)) (pss_cons (ps_set (i := 6) sc_law_price.nd rfl (Or.inl rfl) (pe_fn G_law_longer (hr.mono (by decide)) px (pac (pv 0) (pac (pv 5) (pac (pv 3) pa_nil)))))
      (pss_one (ps_if (pt_cmpR op_gt (pe_ix ix_tup (pv 6) pe_int (fun _ _ => rfl)) pe_int (nomark _)) (pss_one (ps_set (i := 4) sc_law_price.nd rfl (Or.inl rfl) (pe_fn G_law_sum (hr.mono (by decide)) px (pac (pv 4) (pac (pe_fn G_law_times (hr.mono (by decide)) px (pac (pv 6) (pac (pe_ix ix_tup (pe_dget (hu_of hr) (pv 2) (pe_ix ix_tup (pv 5) pe_int (fun _ _ => rfl)) (fun _ _ => rfl)) pe_int (fun _ _ => rfl)) pa_nil))) pa_nil))))) (pss_one (ps_set (i := 4) sc_law_price.nd rfl (Or.inl rfl) (pe_fn G_law_sum (hr.mono (by decide)) px (pac (pv 4) (pac (pe_fn G_law_times (hr.mono (by decide)) px (pac (pv 6) (pac (pe_ix ix_tup (pe_dget (hu_of hr) (pv 2) (pe_ix ix_tup (pv 5) pe_int (fun _ _ => rfl)) (fun _ _ => rfl)) pe_int (fun _ _ => rfl)) pa_nil))) pa_nil)))))))))
    (pss_one (ps_ret (pv 4))))), ?_⟩
  refine ⟨L2, ?_⟩
  intro t3 n3; generalize eX : upd _ t3 _ = H3; have s3 := eX ▸ same_new n3 _; have e3 : H3 t3 = some _ := eX ▸ upd_same; clear eX
  have w0 : ((bars.take 0).map (prB M B)).sum = 0 := rfl
  have t0 : NmZ K H3 (.ref t3) (1 + 0 * 760) ((bars.take 0).map (prB M B)).sum := by
    rw [w0]
    exact ⟨(0, 1), ⟨t3, rfl, SqT.of e3⟩, by decide, by decide +kernel, by decide, by decide⟩
  refine ⟨_, rfl, bA, rfl, ⟨_, SqL.of (s3 _ _ hb)⟩, for_list (K := K) (a := bA) (xs := vs') (fun i σ H' => ∃ (tv : V) (o5 o6 : Option V), σ = [some (.ref pA), some (.ref bA), some (.ref dB), some (.ref dM), some tv, o5, o6] ∧ Same H H' ∧ NmZ K H' tv (1 + i * 760) ((bars.take i).map (prB M B)).sum) ⟨_, none, none, rfl, s3, t0⟩ (fun i σ H' _ h => by
      obtain ⟨_, _, _, _, s, _⟩ := h
      exact SqL.of (s _ _ hb)) ?_ ?_⟩
  · rintro i u σ H4 hu ⟨tv, o5, o6, rfl, s4, ht⟩
    obtain ⟨b, eb, hbr⟩ := paired_get pb hu
    have mb : b ∈ bars := List.mem_of_getElem? eb
    have il : i < bars.length := (List.getElem?_eq_some_iff.mp eb).1
    have es : ((bars.take (i + 1)).map (prB M B)).sum = ((bars.take i).map (prB M B)).sum + prB M B b := by
      rw [take_snoc eb, List.map_append, List.sum_append, List.map_cons, List.map_nil, List.sum_cons, List.sum_nil]
      grind
    obtain ⟨v, ev, hv⟩ := tB b mb
    have zb := zB b mb
    refine ⟨_, rfl, _, rfl, _, rfl, pA, dM, us, pins, u, b, kM, M, rfl, s4 _ _ hp, Paired.mapP pp fun _ _ z => z.same s4, gp, hbr.same s4, s4 _ _ hM, fun p hp => ?_, zM, fun lv5 H5 s5 n5 => ?_⟩
    · obtain ⟨v, h1, h2⟩ := tM p hp
      exact ⟨v, h1, h2.same s4⟩
    have s05 := s4.trans s5
    have dg : DGet H5 dB (.str b.nm) (some v) := by
      have := DGet.k (k := .inr b.nm) (s05 _ _ hB)
      rw [ev] at this
      exact this
    obtain ⟨ta, i1, j1, rfl, hb5, _⟩ := hbr.same s05
    obtain ⟨va, y1, y2, rfl, hsv, hy1, hy2⟩ := hv.same s05
    obtain ⟨x, ⟨xa, rfl, k1⟩, k2, k3, k4⟩ := id n5
    refine ⟨_, rfl, xa, _, _, _, rfl, rfl, k1, at0, _, _, rfl, rfl, _, rfl, ?_⟩
    refine ite2 (fun c => ?_) (fun c => ?_)
    · have c' : 0 < lenB M b := by rw [← k3]; exact (vl_pos k2).mp (of_decide_eq_true c)
      refine ⟨_, rfl, _, rfl, _, rfl, _, rfl, ta, _, _, _, rfl, rfl, hb5, rfl, dB, _, rfl, dg, va, _, _, _, rfl, rfl, hsv, at1, ?_⟩
      dsimp only [tNil]
      show spSumI K mulI [_, _] _ _ E0
      refine ask_mul n5 (nmz_of hy2 (zb_of zb.2 (Nat.le_refl _))) (by decide) fun p6 H6 s6 n6 => ?_
      show spSumI K addI [_, _] _ _ E0
      refine ask_sum (ht.same (s5.trans s6)) n6 (by omega) fun p7 H7 s7 n7 => ?_
      refine ⟨_, _, _, rfl, s05.trans (s6.trans s7), ?_⟩
      rw [es]
      have e : prB M B b = lenB M b * (B b.nm).2 := by unfold prB; rw [if_pos c']
      rw [e]
      exact n7.up (by omega)
    · have c' : ¬ 0 < lenB M b := fun z => c (decide_eq_true ((vl_pos k2).mpr (by rw [k3]; exact z)))
      refine ⟨_, rfl, _, rfl, _, rfl, _, rfl, ta, _, _, _, rfl, rfl, hb5, rfl, dB, _, rfl, dg, va, _, _, _, rfl, rfl, hsv, at0, ?_⟩
      dsimp only [tNil]
      show spSumI K mulI [_, _] _ _ E0
      refine ask_mul n5 (nmz_of hy1 (zb_of zb.1 (Nat.le_refl _))) (by decide) fun p6 H6 s6 n6 => ?_
      show spSumI K addI [_, _] _ _ E0
      refine ask_sum (ht.same (s5.trans s6)) n6 (by omega) fun p7 H7 s7 n7 => ?_
      refine ⟨_, _, _, rfl, s05.trans (s6.trans s7), ?_⟩
      rw [es]
      have e : prB M B b = lenB M b * (B b.nm).1 := by unfold prB; rw [if_neg c']
      rw [e]
      exact n7.up (by omega)
  · rintro σ H4 ⟨tv, o5, o6, rfl, s4, ht⟩
    rw [lv, List.take_length] at ht
    exact ⟨_, rfl, q tv H4 s4 (ht.up (by omega))⟩
theorem putK_vals {kvs : List (Key × V)} {k : Key} {v : V} (P : V → Prop) (h : ∀ kv ∈ kvs, P kv.2) (hv : P v) : ∀ kv ∈ putK kvs k v, P kv.2 := by
  unfold putK
  split
  · intro kv m
    obtain ⟨a, ha, e⟩ := List.mem_map.mp m
    have := h a ha
    by_cases z : a.1 = k
    · rw [if_pos z] at e; rw [← e]; exact hv
    · rw [if_neg z] at e; rw [← e]; exact this
  · intro kv m
    rcases List.mem_append.mp m with m | m
    · exact h kv m
    · rw [List.mem_singleton] at m
      rw [m]
      exact hv
theorem PtD.put {K : PySem.W.Frag} {H : Hp} {kvs : List (Key × V)} {F : Str → Option (Rat × Rat)} (h : PtD K H kvs F) {x : Str} {v : V} {q : Rat × Rat} (n : PtR K H v q) : PtD K H (putK kvs (.inr x) v) (fun nm => if nm = x then some q else F nm) := fun nm => by
  show (valV (putK kvs (.inr x) v) (.inr nm) = none ∧ (if nm = x then some q else F nm) = none) ∨ ∃ v' p, valV (putK kvs (.inr x) v) (.inr nm) = some v' ∧ (if nm = x then some q else F nm) = some p ∧ PtR K H v' p
  rw [valV_put]
  by_cases c : nm = x
  · subst c
    rw [if_pos rfl, if_pos rfl]
    exact .inr ⟨v, q, rfl, rfl, n⟩
  · rw [if_neg (fun e => c (by injection e)), if_neg c]
    exact h nm
theorem e9 : (10 : Int) ^ (9 : Int).toNat = 1000000000 := by decide +kernel
theorem p9 : CPow 10 9 := ⟨by decide, by decide, by decide⟩
theorem p18 : CPow 10 18 := ⟨by decide, by decide, by decide⟩
theorem sz_far {t b : Int} (h : 0 < b) (h1 : t.natAbs < 1073741824) (h2 : b < 1073741824) : Sz 30 ((t : Rat) / (b : Rat)) := sz_low (Int.ne_of_gt h) (intBits_le_iff.mpr (by show _ < 1073741824; omega)) (intBits_le_iff.mpr (by show _ < 1073741824; omega))
def spMotionL (K : PySem.W.Frag) : Sp := fun vs H Q _ => ∃ (sA pA : Addr) (ns : List Int) (us : List V) (pins : List PinD), vs = [.ref sA, .ref pA] ∧ SqL K H sA (ns.map V.int) ∧ (∀ i ∈ ns, intBits i ≤ 1048576) ∧ H pA = some (.lst us) ∧ Paired (PinR K H) us pins ∧ pins.length ≤ 6 ∧
  ∀ (d : Addr) (kM : List (Key × V)) (M : Str → Option (Rat × Rat)) (H' : Hp), Same H H' → H d = none → H' d = some (.dK kM) → PtD K H' kM M → mvSz M → (∀ kv ∈ kM, ∃ x ∈ pins.map (·.nm), kv.1 = .inr x) → (∀ kv ∈ kM, ∃ c, kv.2 = .ref c) → kM.length ≤ 6 → Q (.ref d) H'
theorem sc_law_motion : FnScope ["_law_script", "_law_pins", "_law_motion_here", "_law_far", "_law_k", "_law_cell", "_law_x", "_law_other", "_law_y"] ["_law_script", "_law_pins"] (defScope s_law_motion) := ⟨rfl, rfl, rfl, by decide +kernel, rfl, by decide +kernel, by decide +kernel⟩
theorem ok_law_motion (D : Def K mg "_law_motion" s_law_motion ["_law_script", "_law_pins"]) (m_range : mg "range" = none) (m_len : mg "len" = none) (m_int : mg "int" = none) (G_law_cell_at : Fn P w K mg base (CXr P w) 1 "_law_cell_at" ["_law_script", "_law_k"] (spCell K)) (G_law_field : Fn P w K mg base (CXr P w) 1 "_law_field" ["_law_cell", "_law_prime", "_law_many"] spField) (G_law_lowest : Fn P w K mg base (CXr P w) 33 "_law_lowest" ["_law_top", "_law_bottom"] spLaw_lowestU) :
    Fn P w K mg base (CXr P w) 34 "_law_motion" ["_law_script", "_law_pins"] (spMotionL K) := by
  refine D.ok sc_law_motion (fun vs H Q E h => ?_) (fun f cdv A outer s H vs Q E hr h => ?_)
  · obtain ⟨sA, pA, ns, us, pins, rfl, _⟩ := h
    rfl
  obtain ⟨sA, pA, ns, us, pins, rfl, hS, hb, hp, pp, lp, q⟩ := h
  have px := passM (X := (cxOf (CXr P w) P w K mg base ["_law_script", "_law_pins", "_law_motion_here", "_law_far", "_law_k", "_law_cell", "_law_x", "_law_other", "_law_y"] "_law_motion" (defScope s_law_motion) f cdv A outer s H E)) (CXr.mute (P := P) (w := w))
  have L2 : 2 ≤ sizeLine := by decide
  have lu : us.length = pins.length := Paired.length pp
  refine ⟨_, (pss_cons (ps_set (i := 2) sc_law_motion.nd rfl (Or.inl rfl) pe_dnewK)
    (pss_cons (ps_set (i := 3) sc_law_motion.nd rfl (Or.inl rfl) (pe_op op_pow pe_int pe_int))
    (pss_cons (ps_for PassesOwn.never rfl (pi_range1 rfl m_range (pac (pe_callB call_len_seq rfl m_len b_len (pac (pv 1) pa_nil)) pa_nil)) (pg_name (i := 4) sc_law_motion.nd rfl (Or.inl rfl)) (pss_cons (ps_set (i := 5) sc_law_motion.nd rfl (Or.inl rfl) (pe_fn G_law_cell_at (hr.mono (by decide)) px (pac (pv 0) (pac (pe_op op_add pe_int (pv 4)) pa_nil))))
      (pss_cons (ps_set (i := 6) sc_law_motion.nd rfl (Or.inl rfl) (pe_fn G_law_lowest (hr.mono (by decide)) px (pac (pe_op op_sub (pe_op op_modB (pv 5) (pe_op op_add (pe_op op_mulB pe_int (pv 3)) pe_int)) (pv 3)) (pac (pe_op op_add pe_int (pe_fn G_law_field (hr.mono (by decide)) px (pac (pv 5) (pac pe_int (pac pe_int pa_nil))))) pa_nil))))
      (pss_cons (ps_set (i := 7) sc_law_motion.nd rfl (Or.inl rfl) (pe_ix ix_list (pe_lst (pac (pe_op op_mulB (pv 5) pe_int) (pac (pe_op op_fdivB (pv 5) (pe_op op_add (pe_op op_mulB pe_int (pv 3)) pe_int)) pa_nil))) (pe_callTy call_int1 rfl m_int b_int (pac (pe_not (pe_chain op_le op_lt pe_int (pv 5) (pe_op op_pow pe_int pe_int))) pa_nil)) (fun _ _ => rfl)))
      (pss_cons (ps_set (i := 8) sc_law_motion.nd rfl (Or.inl rfl) (pe_fn G_law_lowest (hr.mono (by decide)) px (pac (pe_op op_sub (pe_op op_modB (pv 7) (pe_op op_add (pe_op op_mulB pe_int (pv 3)) pe_int)) (pv 3)) (pac (pe_op op_add pe_int (pe_fn G_law_field (hr.mono (by decide)) px (pac (pv 5) (pac pe_int (pac pe_int pa_nil))))) pa_nil))))
      (pss_one (ps_if (pt_cmpR op_gt (pe_fn G_law_field (hr.mono (by decide)) px (pac (pv 5) (pac pe_int (pac pe_int pa_nil)))) pe_int (nomark _)) (pss_one (ps_dput (hu_of hr) (pv 2) (pe_ix ix_tup (pe_ix ix_list (pv 1) (pv 4) (fun _ _ => rfl)) pe_int (fun _ _ => rfl)) (pe_tup (pac (pv 6) (pac (pv 8) pa_nil))) rfl)) pss_nil)))))))
    (pss_one (ps_ret (pv 2)))))), ?_⟩
  intro d n1; generalize eX : upd _ d _ = H1; have s1 := eX ▸ same_new n1 _; have e1 : H1 d = some _ := eX ▸ upd_same; clear eX
  dsimp only
  refine seq_rest (fun σ' H' => σ' = [some (.ref sA), some (.ref pA), some (.ref d), some (.int 1000000000), none, none, none, none, none] ∧ H' = H1) (fun Nx hNx => ⟨_, _, rfl, rfl, p9, hNx _ _ ⟨rfl, rfl⟩⟩) ?_
  rintro σ' Hy ⟨rfl, rfl⟩
  refine ⟨_, rfl, pA, _, rfl, .inl (SqL.of (s1 _ _ hp)), ((us.length : Nat) : Int), rfl, by omega, by omega, for_range (lo := 0) (n := ((us.length : Nat) : Int).toNat) (fun i σ H' => ∃ (o4 o5 o6 o7 o8 : Option V) (kM : List (Key × V)) (M : Str → Option (Rat × Rat)), σ = [some (.ref sA), some (.ref pA), some (.ref d), some (.int 1000000000), o4, o5, o6, o7, o8] ∧ Same H H' ∧ H' d = some (.dK kM) ∧ PtD K H' kM M ∧ mvSz M ∧ (∀ kv ∈ kM, ∃ x ∈ pins.map (·.nm), kv.1 = .inr x) ∧ (∀ kv ∈ kM, ∃ c, kv.2 = .ref c) ∧ kM.length ≤ i) ⟨none, none, none, none, none, [], fun _ => none, rfl, s1, e1, fun nm => .inl ⟨rfl, rfl⟩, fun x => ⟨sz_zero (by decide), sz_zero (by decide)⟩, fun kv h => (nomatch h), fun kv h => (nomatch h), Nat.le_refl _⟩ ?_ ?_⟩
  · rintro i σ H2 hi ⟨o4, o5, o6, o7, o8, kM, M, rfl, s2, e2, pM, zM, ky, vl', ll⟩
    have ek : (0 : Int) + (i : Int) = (i : Int) := Int.zero_add _
    rw [ek]
    have hi1 : i < us.length := by omega
    refine ⟨_, rfl, _, rfl, _, _, rfl, rfl, sA, ns, _, rfl, s2.seq hS, by omega, by omega, ?_⟩
    have cb := cell_bits hb (16 + (i : Int))
    generalize cell ns (16 + (i : Int)) = c at cb ⊢
    have i1 := field_in (c := c) (p := 1009) (m := 997) (by decide)
    have i2 := field_in (c := c) (p := 2003) (m := 997) (by decide)
    have f1 := fmod_in (x := c) (m := 2 * 1000000000 + 1) (by decide)
    refine ⟨_, rfl, _, rfl, _, _, rfl, rfl, ⟨by decide +kernel, by decide +kernel⟩, _, _, rfl, rfl, _, _, rfl, rfl, nz (by decide), _, rfl, _, _, rfl, rfl, _, rfl, _, _, _, rfl, by decide, by decide, by decide, _, _, rfl, rfl, _, _, rfl, by omega, fun p1 H3 s3 e3 => ?_⟩
    rw [low_qr (by omega)] at e3
    have z3 := sz_far (t := c.fmod (2 * 1000000000 + 1) - 1000000000) (b := 1 + field c 1009 997) (by omega) (by omega) (by omega)
    generalize ((c.fmod (2 * 1000000000 + 1) - 1000000000 : Int) : Rat) / ((1 + field c 1009 997 : Int) : Rat) = x at e3 z3
    dsimp only [gName]
    refine seq_rest (fun σ' H' => ∃ z : Int, σ' = [some (.ref sA), some (.ref pA), some (.ref d), some (.int 1000000000), some (.int (i : Int)), some (.int c), some (.ref p1), some (.int z), o8] ∧ Same H3 H') (fun Nx hNx => ?_) ?_
    · refine ⟨_, rfl, _, _, rfl, rfl, ⟨Nat.le_trans cb (by decide), by decide +kernel⟩, _, rfl, _, rfl, _, _, rfl, rfl, ⟨by decide +kernel, by decide +kernel⟩, _, _, rfl, rfl, _, _, rfl, rfl, ⟨by decide, by decide +kernel⟩, L2, ?_⟩
      intro t4 n4; generalize eX : upd _ t4 _ = H4; have s4 := eX ▸ same_new n4 _; have e4 : H4 t4 = some _ := eX ▸ upd_same; clear eX
      have done : ∀ k : Bool, ∃ z : Int, atI [V.int (c * 69621), .int (c.fdiv (2 * 1000000000 + 1))] (if k = true then 1 else 0) = some (.int z) := fun k => by
        cases k
        · exact ⟨_, rfl⟩
        · exact ⟨_, rfl⟩
      refine ⟨_, rfl, _, _, rfl, rfl, _, rfl, ?_⟩
      refine ite2 (fun _ => ?_) (fun _ => ?_)
      · refine ⟨_, _, rfl, rfl, p18, _, _, rfl, rfl, _, rfl, .inr ⟨_, rfl, ?_⟩⟩
        obtain ⟨z, ez⟩ := done (!decide (c < (10 : Int) ^ (18 : Int).toNat))
        exact ⟨t4, _, _, _, rfl, rfl, SqL.of e4, ez, hNx _ _ ⟨z, rfl, s4⟩⟩
      · refine ⟨_, rfl, .inr ⟨_, rfl, ?_⟩⟩
        obtain ⟨z, ez⟩ := done (!false)
        exact ⟨t4, _, _, _, rfl, rfl, SqL.of e4, ez, hNx _ _ ⟨z, rfl, s4⟩⟩
    rintro σ' H4 ⟨z, rfl, s4⟩
    have f2 := fmod_in (x := z) (m := 2 * 1000000000 + 1) (by decide)
    refine ⟨_, rfl, _, rfl, _, _, rfl, rfl, ⟨by decide +kernel, by decide +kernel⟩, _, _, rfl, rfl, _, _, rfl, rfl, nz (by decide), _, rfl, _, _, rfl, rfl, _, rfl, _, _, _, rfl, by decide, by decide, by decide, _, _, rfl, rfl, _, _, rfl, by omega, fun p5 H5 s5 e5 => ?_⟩
    rw [low_qr (by omega)] at e5
    have z5 := sz_far (t := z.fmod (2 * 1000000000 + 1) - 1000000000) (b := 1 + field c 2003 997) (by omega) (by omega) (by omega)
    generalize ((z.fmod (2 * 1000000000 + 1) - 1000000000 : Int) : Rat) / ((1 + field c 2003 997 : Int) : Rat) = y at e5 z5
    have s25 := s3.trans (s4.trans s5)
    have s05 := s2.trans s25
    obtain ⟨p, ep, hpr⟩ := paired_get pp (List.getElem?_eq_getElem hi1)
    have mp : p ∈ pins := List.mem_of_getElem? ep
    refine ⟨_, rfl, _, _, _, rfl, by decide, by decide, by decide, _, _, rfl, rfl, _, rfl, ?_⟩
    refine ite2 (fun _ => ?_) (fun _ => ?_)
    · refine ⟨_, rfl, _, rfl, L2, ?_⟩
      intro va n6; generalize eX : upd _ va _ = H6; have s6 := eX ▸ same_new n6 _; have e6 : H6 va = some _ := eX ▸ upd_same; clear eX
      have s06 := s05.trans s6
      obtain ⟨ta, l, sv, ws, eu, h1, _⟩ := hpr.same s06
      have ai : atI us (i : Int) = some (.ref ta) := atI_nat (by rw [List.getElem?_eq_getElem hi1, eu])
      have e26 := s6 _ _ (s25 _ _ e2)
      refine ⟨_, rfl, _, rfl, _, rfl, pA, _, _, _, rfl, rfl, SqL.of (s06 _ _ hp), ai, ta, _, _, _, rfl, rfl, h1, rfl, d, _, rfl, DPut.k (k := .inr p.nm) e26 (Nat.lt_of_le_of_lt (show kM.length ≤ 1000 by omega) (by decide)), ?_⟩
      have t7 : SameT H6 (upd H6 d (.dK (putK kM (.inr p.nm) (.ref va)))) := fun b zs r => by
        rcases r with r | ⟨o', r⟩
        · exact .inl (by rw [upd_ne (fun e => by rw [e, e26] at r; cases r)]; exact r)
        · exact .inr ⟨o', by rw [upd_ne (fun e => by rw [e, e26] at r; cases r)]; exact r⟩
      have hv : PtR K H6 (.ref va) (x, y) := pt_of e6 ((nm_of e3).same (s4.trans (s5.trans s6))) ((nm_of e5).same s6)
      refine ⟨_, _, _, _, _, _, _, rfl, fun b o' z => ?_, upd_same, PtD.put (F := M) (fun nm => ?_) (hv.sameT t7), fun nm => ?_, putK_keys (fun k : Key => ∃ x ∈ pins.map (·.nm), k = Sum.inr x) ky ⟨p.nm, List.mem_map.mpr ⟨p, mp, rfl⟩, rfl⟩, putK_vals (fun v => ∃ c, v = .ref c) vl' ⟨va, rfl⟩, Nat.le_trans (length_putK _ _ _) (by omega)⟩
      · rw [upd_ne (ne_of_none z n1)]
        exact s06 _ _ z
      · rcases (pM.same (s25.trans s6)) nm with h | ⟨v, q', a1, a2, a3⟩
        · exact .inl h
        · exact .inr ⟨v, q', a1, a2, a3.sameT t7⟩
      · show Sz 100 ((if nm = p.nm then some (x, y) else M nm).getD (0, 0)).1 ∧ Sz 100 ((if nm = p.nm then some (x, y) else M nm).getD (0, 0)).2
        by_cases cc : nm = p.nm
        · rw [if_pos cc]
          exact ⟨z3.up (by decide), z5.up (by decide)⟩
        · rw [if_neg cc]
          exact zM nm
    · exact ⟨_, _, _, _, _, kM, M, rfl, s05, s25 _ _ e2, pM.same s25, zM, ky, vl', by omega⟩
  · rintro σ H2 ⟨o4, o5, o6, o7, o8, kM, M, rfl, s2, e2, pM, zM, ky, vl', ll⟩
    exact ⟨_, rfl, q d kM M H2 s2 n1 e2 pM zM ky vl' (by omega)⟩
theorem p6 : CPow 10 6 := ⟨by decide, by decide, by decide⟩
theorem frac_le0 {t b : Int} (h : t ≤ 0) (hb : 0 < b) : (t : Rat) / (b : Rat) ≤ 0 := by
  apply Classical.byContradiction
  intro n
  have p : 0 < vl (t, b) := by unfold vl; grind
  have := (vl_pos (q := (t, b)) hb).mpr p
  have : 0 < t := this
  omega
theorem frac_ge0 {t b : Int} (h : 0 ≤ t) (hb : 0 < b) : 0 ≤ (t : Rat) / (b : Rat) := by
  by_cases c : t = 0
  · rw [c]
    have : ((0 : Int) : Rat) = 0 := by rfl
    rw [this]
    grind
  · have := (vl_pos (q := (t, b)) hb).mp (show 0 < t by omega)
    unfold vl at this
    exact Rat.le_of_lt this
structure LoHi (K : PySem.W.Frag) (H : Hp) (lv hv : V) (r : Rat × Rat) : Prop where
  lo : NmR K H lv r.1
  hi : NmR K H hv r.2
  l0 : r.1 ≤ 0
  h0 : 0 ≤ r.2
  zl : Sz 50 r.1
  zh : Sz 50 r.2
theorem LoHi.same {K : PySem.W.Frag} {H H' : Hp} {lv hv : V} {r : Rat × Rat} (h : LoHi K H lv hv r) (s : Same H H') : LoHi K H' lv hv r := ⟨h.lo.same s, h.hi.same s, h.l0, h.h0, h.zl, h.zh⟩
def spBoundsL (K : PySem.W.Frag) : Sp := fun vs H Q _ => ∃ (sA bA : Addr) (ns : List Int) (vs' : List V) (pins : List PinD) (bars : List BarD), vs = [.ref sA, .ref bA] ∧ SqL K H sA (ns.map V.int) ∧ (∀ i ∈ ns, intBits i ≤ 1048576) ∧ H bA = some (.lst vs') ∧ Paired (BarR K H pins) vs' bars ∧ (bars.map (·.nm)).Nodup ∧ bars.length ≤ 5 ∧
  ∀ (d : Addr) (kB : List (Key × V)) (B : Str → Rat × Rat) (H' : Hp), Same H H' → H d = none → H' d = some (.dK kB) → (∀ b ∈ bars, ∃ v, valV kB (.inr b.nm) = some v ∧ PtR K H' v (B b.nm) ∧ (B b.nm).1 ≤ 0 ∧ 0 ≤ (B b.nm).2) → (∀ b ∈ bars, Sz 50 (B b.nm).1 ∧ Sz 50 (B b.nm).2) → (∀ kv ∈ kB, ∃ x ∈ bars.map (·.nm), kv.1 = .inr x) → (∀ kv ∈ kB, ∃ c, kv.2 = .ref c) → Q (.ref d) H'
theorem sc_law_bounds : FnScope ["_law_script", "_law_bars_here", "_law_bounds_here", "_law_k", "_law_cell", "_law_low", "_law_high", "_law_other"] ["_law_script", "_law_bars_here"] (defScope s_law_bounds) := ⟨rfl, rfl, rfl, by decide +kernel, rfl, by decide +kernel, by decide +kernel⟩
theorem ok_law_bounds (D : Def K mg "_law_bounds" s_law_bounds ["_law_script", "_law_bars_here"]) (m_range : mg "range" = none) (m_len : mg "len" = none) (m_int : mg "int" = none) (G_law_cell_at : Fn P w K mg base (CXr P w) 1 "_law_cell_at" ["_law_script", "_law_k"] (spCell K)) (G_law_field : Fn P w K mg base (CXr P w) 1 "_law_field" ["_law_cell", "_law_prime", "_law_many"] spField) (G_law_lowest : Fn P w K mg base (CXr P w) 33 "_law_lowest" ["_law_top", "_law_bottom"] spLaw_lowestU) :
    Fn P w K mg base (CXr P w) 34 "_law_bounds" ["_law_script", "_law_bars_here"] (spBoundsL K) := by
  refine D.ok sc_law_bounds (fun vs H Q E h => ?_) (fun f cdv A outer s H vs Q E hr h => ?_)
  · obtain ⟨sA, bA, ns, vs', pins, bars, rfl, _⟩ := h
    rfl
  obtain ⟨sA, bA, ns, vs', pins, bars, rfl, hS, hb, hB, pb, nb, lb, q⟩ := h
  have px := passM (X := (cxOf (CXr P w) P w K mg base ["_law_script", "_law_bars_here", "_law_bounds_here", "_law_k", "_law_cell", "_law_low", "_law_high", "_law_other"] "_law_bounds" (defScope s_law_bounds) f cdv A outer s H E)) (CXr.mute (P := P) (w := w))
  have L2 : 2 ≤ sizeLine := by decide
  have lv : vs'.length = bars.length := Paired.length pb
  refine ⟨_, (pss_cons (ps_set (i := 2) sc_law_bounds.nd rfl (Or.inl rfl) pe_dnewK)
    (pss_cons (ps_for PassesOwn.never rfl (pi_range1 rfl m_range (pac (pe_callB call_len_seq rfl m_len b_len (pac (pv 1) pa_nil)) pa_nil)) (pg_name (i := 3) sc_law_bounds.nd rfl (Or.inl rfl)) (pss_cons (ps_set (i := 4) sc_law_bounds.nd rfl (Or.inl rfl) (pe_fn G_law_cell_at (hr.mono (by decide)) px (pac (pv 0) (pac (pe_op op_add pe_int (pv 3)) pa_nil))))
      (pss_cons (ps_set (i := 5) sc_law_bounds.nd rfl (Or.inl rfl) (pe_fn G_law_lowest (hr.mono (by decide)) px (pac (pe_op op_sub pe_int (pe_op op_modB (pe_fn G_law_field (hr.mono (by decide)) px (pac (pv 4) (pac pe_int (pac (pe_op op_pow pe_int pe_int) pa_nil)))) pe_int)) (pac (pe_op op_add pe_int (pe_fn G_law_field (hr.mono (by decide)) px (pac (pv 4) (pac pe_int (pac pe_int pa_nil))))) pa_nil))))
      (pss_cons (ps_set (i := 6) sc_law_bounds.nd rfl (Or.inl rfl) (pe_fn G_law_lowest (hr.mono (by decide)) px (pac (pe_op op_modB (pe_fn G_law_field (hr.mono (by decide)) px (pac (pv 4) (pac pe_int (pac (pe_op op_pow pe_int pe_int) pa_nil)))) pe_int) (pac (pe_op op_add pe_int (pe_fn G_law_field (hr.mono (by decide)) px (pac (pv 4) (pac pe_int (pac pe_int pa_nil))))) pa_nil))))
      (pss_cons (ps_if (pt_cmpR op_eq (pe_fn G_law_field (hr.mono (by decide)) px (pac (pv 4) (pac pe_int (pac pe_int pa_nil)))) pe_int (nomark _)) (pss_cons (ps_set (i := 5) sc_law_bounds.nd rfl (Or.inl rfl) (pe_fn G_law_lowest (hr.mono (by decide)) px (pac (pe_op op_sub pe_int (pe_op op_modB (pv 4) (pe_op op_pow pe_int pe_int))) (pac (pe_op op_add pe_int (pe_fn G_law_field (hr.mono (by decide)) px (pac (pv 4) (pac pe_int (pac pe_int pa_nil))))) pa_nil))))
        (pss_cons (ps_set (i := 7) sc_law_bounds.nd rfl (Or.inl rfl) (pe_ix ix_list (pe_lst (pac (pe_op op_mulB (pv 4) pe_int) (pac (pe_op op_fdivB (pv 4) (pe_op op_pow pe_int pe_int)) pa_nil))) (pe_callTy call_int1 rfl m_int b_int (pac (pe_not (pe_chain op_le op_lt pe_int (pv 4) (pe_op op_pow pe_int pe_int))) pa_nil)) (fun _ _ => rfl)))
        (pss_one (ps_set (i := 6) sc_law_bounds.nd rfl (Or.inl rfl) (pe_fn G_law_lowest (hr.mono (by decide)) px (pac (pe_op op_modB (pv 7) (pe_op op_pow pe_int pe_int)) (pac (pe_op op_add pe_int (pe_fn G_law_field (hr.mono (by decide)) px (pac (pv 4) (pac pe_int (pac pe_int pa_nil))))) pa_nil))))))) pss_nil)
      (pss_cons (ps_if (pt_cmpR op_eq (pe_fn G_law_field (hr.mono (by decide)) px (pac (pv 4) (pac pe_int (pac pe_int pa_nil)))) pe_int (nomark _)) (pss_one (ps_set (i := 5) sc_law_bounds.nd rfl (Or.inl rfl) (pe_tup (pac pe_int (pac pe_int pa_nil))))) pss_nil)
      (pss_cons (ps_if (pt_cmpR op_eq (pe_fn G_law_field (hr.mono (by decide)) px (pac (pv 4) (pac pe_int (pac pe_int pa_nil)))) pe_int (nomark _)) (pss_one (ps_set (i := 6) sc_law_bounds.nd rfl (Or.inl rfl) (pe_tup (pac pe_int (pac pe_int pa_nil))))) pss_nil)
      (pss_one (ps_dput (hu_of hr) (pv 2) (pe_ix ix_tup (pe_ix ix_list (pv 1) (pv 3) (fun _ _ => rfl)) pe_int (fun _ _ => rfl)) (pe_tup (pac (pv 5) (pac (pv 6) pa_nil))) rfl)))))))))
    (pss_one (ps_ret (pv 2))))), ?_⟩
  intro d n1; generalize eX : upd _ d _ = H1; have s1 := eX ▸ same_new n1 _; have e1 : H1 d = some _ := eX ▸ upd_same; clear eX
  refine ⟨_, rfl, bA, _, rfl, .inl (SqL.of (s1 _ _ hB)), ((vs'.length : Nat) : Int), rfl, by omega, by omega, for_range (lo := 0) (n := ((vs'.length : Nat) : Int).toNat) (fun i σ H' => ∃ (o3 o4 o5 o6 o7 : Option V) (kB : List (Key × V)) (B : Str → Rat × Rat), σ = [some (.ref sA), some (.ref bA), some (.ref d), o3, o4, o5, o6, o7] ∧ Same H H' ∧ H' d = some (.dK kB) ∧ (∀ b ∈ bars.take i, ∃ v, valV kB (.inr b.nm) = some v ∧ PtR K H' v (B b.nm) ∧ (B b.nm).1 ≤ 0 ∧ 0 ≤ (B b.nm).2) ∧ (∀ b ∈ bars.take i, Sz 50 (B b.nm).1 ∧ Sz 50 (B b.nm).2) ∧ (∀ kv ∈ kB, ∃ x ∈ bars.map (·.nm), kv.1 = .inr x) ∧ (∀ kv ∈ kB, ∃ c, kv.2 = .ref c) ∧ kB.length ≤ i) ⟨none, none, none, none, none, [], fun _ => (0, 0), rfl, s1, e1, fun b h => (nomatch h), fun b h => (nomatch h), fun kv h => (nomatch h), fun kv h => (nomatch h), Nat.le_refl _⟩ ?_ ?_⟩
  · rintro i σ H2 hi ⟨o3, o4, o5, o6, o7, kB, B, rfl, s2, e2, tB, zB, ky, vl', ll⟩
    have ek : (0 : Int) + (i : Int) = (i : Int) := Int.zero_add _
    rw [ek]
    have hi1 : i < vs'.length := by omega
    refine ⟨_, rfl, _, rfl, _, _, rfl, rfl, sA, ns, _, rfl, s2.seq hS, by omega, by omega, ?_⟩
    have cb := cell_bits hb (28 + (i : Int))
    generalize cell ns (28 + (i : Int)) = c at cb ⊢
    have i1 := field_in (c := c) (p := 2003) (m := 7) (by decide)
    have i2 := field_in (c := c) (p := 3001) (m := 7) (by decide)
    have i3 := field_in (c := c) (p := 2003) (m := 997) (by decide)
    have i4 := field_in (c := c) (p := 3001) (m := 997) (by decide)
    have f1 := fmod_in (x := field c 1009 ((10 : Int) ^ (6 : Int).toNat)) (m := 401) (by decide)
    have f2 := fmod_in (x := field c 1000003 ((10 : Int) ^ (6 : Int).toNat)) (m := 401) (by decide)
    refine ⟨_, rfl, _, _, rfl, rfl, p6, _, _, _, rfl, by decide, by decide, by decide +kernel, _, _, rfl, rfl, nz (by decide), _, _, rfl, rfl, _, rfl, _, _, _, rfl, by decide, by decide, by decide, _, _, rfl, rfl, _, _, rfl, by omega, fun p3 H3 s3 e3 => ?_⟩
    rw [low_qr (by omega)] at e3
    have z3 := sz_far (t := 0 - (field c 1009 ((10 : Int) ^ (6 : Int).toNat)).fmod 401) (b := 1 + field c 2003 7) (by omega) (by omega) (by omega)
    have l3 := frac_le0 (t := 0 - (field c 1009 ((10 : Int) ^ (6 : Int).toNat)).fmod 401) (b := 1 + field c 2003 7) (by omega) (by omega)
    refine ⟨_, rfl, _, _, rfl, rfl, p6, _, _, _, rfl, by decide, by decide, by decide +kernel, _, _, rfl, rfl, nz (by decide), _, rfl, _, _, _, rfl, by decide, by decide, by decide, _, _, rfl, rfl, _, _, rfl, by omega, fun p4 H4 s4 e4 => ?_⟩
    rw [low_qr (by omega)] at e4
    have z4 := sz_far (t := (field c 1000003 ((10 : Int) ^ (6 : Int).toNat)).fmod 401) (b := 1 + field c 3001 7) (by omega) (by omega) (by omega)
    have l4 := frac_ge0 (t := (field c 1000003 ((10 : Int) ^ (6 : Int).toNat)).fmod 401) (b := 1 + field c 3001 7) (by omega) (by omega)
    have s24 := s3.trans s4
    have lh4 : LoHi K H4 (.ref p3) (.ref p4) (_, _) := ⟨(nm_of e3).same s4, nm_of e4, l3, l4, z3.up (by decide), z4.up (by decide)⟩
    dsimp only [gName]
    refine seq_rest (fun σ' H' => ∃ (lv hv : V) (r : Rat × Rat) (o7 : Option V), σ' = [some (.ref sA), some (.ref bA), some (.ref d), some (.int (i : Int)), some (.int c), some lv, some hv, o7] ∧ Same H4 H' ∧ LoHi K H' lv hv r) (fun Nx hNx => ?_) ?_
    · refine ⟨_, rfl, _, _, _, rfl, by decide, by decide, by decide, rfl, _, rfl, ?_⟩
      refine ite2 (fun _ => ?_) (fun _ => hNx _ _ ⟨_, _, _, _, rfl, Same.refl _, lh4⟩)
      have f5 := fmod_in (x := c) (m := (10 : Int) ^ (9 : Int).toNat) (by decide +kernel)
      rw [e9] at f5
      refine ⟨_, rfl, _, _, rfl, rfl, p9, _, _, rfl, rfl, nz (by decide +kernel), _, _, rfl, rfl, _, rfl, _, _, _, rfl, by decide, by decide, by decide, _, _, rfl, rfl, _, _, rfl, by omega, fun p5 H5 s5 e5 => ?_⟩
      rw [low_qr (by omega)] at e5
      have e5 : H5 p5 = some (.tup [.int (qr (((0 - c.fmod ((10 : Int) ^ (9 : Int).toNat) : Int) : Rat) / ((1 + field c 2003 997 : Int) : Rat))).1, .int (qr (((0 - c.fmod ((10 : Int) ^ (9 : Int).toNat) : Int) : Rat) / ((1 + field c 2003 997 : Int) : Rat))).2]) := e5
      rw [e9] at e5
      have z5 := sz_far (t := 0 - c.fmod 1000000000) (b := 1 + field c 2003 997) (by omega) (by omega) (by omega)
      have l5 := frac_le0 (t := 0 - c.fmod 1000000000) (b := 1 + field c 2003 997) (by omega) (by omega)
      dsimp only [gName]
      refine seq_rest (fun σ' H' => ∃ z : Int, σ' = [some (.ref sA), some (.ref bA), some (.ref d), some (.int (i : Int)), some (.int c), some (.ref p5), some (.ref p4), some (.int z)] ∧ Same H5 H') (fun Ny hNy => ?_) ?_
      · refine ⟨_, rfl, _, _, rfl, rfl, ⟨Nat.le_trans cb (by decide), by decide +kernel⟩, _, rfl, _, _, rfl, rfl, p9, _, _, rfl, rfl, ⟨by decide +kernel, by decide +kernel⟩, L2, ?_⟩
        intro t6 n6; generalize eX : upd _ t6 _ = H6; have s6 := eX ▸ same_new n6 _; have e6 : H6 t6 = some _ := eX ▸ upd_same; clear eX
        have done : ∀ k : Bool, ∃ z : Int, atI [V.int (c * 48271), .int (c.fdiv ((10 : Int) ^ (9 : Int).toNat))] (if k = true then 1 else 0) = some (.int z) := fun k => by
          cases k
          · exact ⟨_, rfl⟩
          · exact ⟨_, rfl⟩
        refine ⟨_, rfl, _, _, rfl, rfl, _, rfl, ?_⟩
        refine ite2 (fun _ => ?_) (fun _ => ?_)
        · refine ⟨_, _, rfl, rfl, p18, _, _, rfl, rfl, _, rfl, .inr ⟨_, rfl, ?_⟩⟩
          obtain ⟨z, ez⟩ := done (!decide (c < (10 : Int) ^ (18 : Int).toNat))
          exact ⟨t6, _, _, _, rfl, rfl, SqL.of e6, ez, hNy _ _ ⟨z, rfl, s6⟩⟩
        · refine ⟨_, rfl, .inr ⟨_, rfl, ?_⟩⟩
          obtain ⟨z, ez⟩ := done (!false)
          exact ⟨t6, _, _, _, rfl, rfl, SqL.of e6, ez, hNy _ _ ⟨z, rfl, s6⟩⟩
      rintro σ' H6 ⟨z, rfl, s6⟩
      have f6 := fmod_in (x := z) (m := (10 : Int) ^ (9 : Int).toNat) (by decide +kernel)
      rw [e9] at f6
      have f6' : 0 ≤ z.fmod ((10 : Int) ^ (9 : Int).toNat) := by rw [e9]; exact f6.1
      refine ⟨_, rfl, _, _, rfl, rfl, p9, _, _, rfl, rfl, nz (by decide +kernel), _, rfl, _, _, _, rfl, by decide, by decide, by decide, _, _, rfl, rfl, _, _, rfl, by omega, fun p7 H7 s7 e7 => ?_⟩
      rw [low_qr (by omega)] at e7
      have e7 : H7 p7 = some (.tup [.int (qr (((z.fmod ((10 : Int) ^ (9 : Int).toNat) : Int) : Rat) / ((1 + field c 3001 997 : Int) : Rat))).1, .int (qr (((z.fmod ((10 : Int) ^ (9 : Int).toNat) : Int) : Rat) / ((1 + field c 3001 997 : Int) : Rat))).2]) := e7
      rw [e9] at e7
      have z7 := sz_far (t := z.fmod 1000000000) (b := 1 + field c 3001 997) (by omega) (by omega) (by omega)
      have l7 := frac_ge0 (t := z.fmod 1000000000) (b := 1 + field c 3001 997) (by omega) (by omega)
      exact hNx _ _ ⟨.ref p5, .ref p7, (_, _), _, rfl, s5.trans (s6.trans s7), ⟨(nm_of e5).same (s6.trans s7), nm_of e7, l5, l7, z5.up (by decide), z7.up (by decide)⟩⟩
    rintro σ' H5 ⟨lv5, hv5, r5, o7', rfl, s5, lh5⟩
    have z0 : Sz 50 (0 : Rat) := sz_zero (by decide)
    refine seq_rest (fun σ' H' => ∃ (lv : V) (r : Rat × Rat), σ' = [some (.ref sA), some (.ref bA), some (.ref d), some (.int (i : Int)), some (.int c), some lv, some hv5, o7'] ∧ Same H5 H' ∧ LoHi K H' lv hv5 r) (fun Nx hNx => ?_) ?_
    · refine ⟨_, rfl, _, _, _, rfl, by decide, by decide, by decide, rfl, _, rfl, ?_⟩
      refine ite2 (fun _ => ?_) (fun _ => hNx _ _ ⟨_, _, rfl, Same.refl _, lh5⟩)
      refine ⟨L2, ?_⟩
      intro q6 n6; generalize eX : upd _ q6 _ = H6; have s6 := eX ▸ same_new n6 _; have e6 : H6 q6 = some _ := eX ▸ upd_same; clear eX
      exact hNx _ _ ⟨_, (0, r5.2), rfl, s6, ⟨nm_lit 0 e6, lh5.hi.same s6, Rat.le_refl, lh5.h0, z0, lh5.zh⟩⟩
    rintro σ' H6 ⟨lv6, r6, rfl, s6, lh6⟩
    refine seq_rest (fun σ' H' => ∃ (hv : V) (r : Rat × Rat), σ' = [some (.ref sA), some (.ref bA), some (.ref d), some (.int (i : Int)), some (.int c), some lv6, some hv, o7'] ∧ Same H6 H' ∧ LoHi K H' lv6 hv r) (fun Nx hNx => ?_) ?_
    · refine ⟨_, rfl, _, _, _, rfl, by decide, by decide, by decide, rfl, _, rfl, ?_⟩
      refine ite2 (fun _ => ?_) (fun _ => hNx _ _ ⟨_, _, rfl, Same.refl _, lh6⟩)
      refine ⟨L2, ?_⟩
      intro p7 n7; generalize eX : upd _ p7 _ = H7; have s7 := eX ▸ same_new n7 _; have e7 : H7 p7 = some _ := eX ▸ upd_same; clear eX
      exact hNx _ _ ⟨_, (r6.1, 0), rfl, s7, ⟨lh6.lo.same s7, nm_lit 0 e7, lh6.l0, Rat.le_refl, lh6.zl, z0⟩⟩
    rintro σ' H7 ⟨hv7, r7, rfl, s7, lh7⟩
    have s27 := s24.trans (s5.trans (s6.trans s7))
    have s07 := s2.trans s27
    obtain ⟨b, eb, hbr⟩ := paired_get pb (List.getElem?_eq_getElem hi1)
    have mb : b ∈ bars := List.mem_of_getElem? eb
    have tk := take_snoc eb
    refine ⟨_, rfl, _, rfl, L2, ?_⟩
    intro va n8; generalize eX : upd _ va _ = H8; have s8 := eX ▸ same_new n8 _; have e8 : H8 va = some _ := eX ▸ upd_same; clear eX
    have s08 := s07.trans s8
    obtain ⟨ta, i', j', eu, h1, _⟩ := hbr.same s08
    have ai : atI vs' (i : Int) = some (.ref ta) := atI_nat (by rw [List.getElem?_eq_getElem hi1, eu])
    have e28 := s8 _ _ (s27 _ _ e2)
    refine ⟨_, rfl, _, rfl, _, rfl, bA, _, _, _, rfl, rfl, SqL.of (s08 _ _ hB), ai, ta, _, _, _, rfl, rfl, h1, rfl, d, _, rfl, DPut.k (k := .inr b.nm) e28 (Nat.lt_of_le_of_lt (show kB.length ≤ 1000 by omega) (by decide)), ?_⟩
    have t9 : SameT H8 (upd H8 d (.dK (putK kB (.inr b.nm) (.ref va)))) := fun b zs r => by
      rcases r with r | ⟨o', r⟩
      · exact .inl (by rw [upd_ne (fun e => by rw [e, e28] at r; cases r)]; exact r)
      · exact .inr ⟨o', by rw [upd_ne (fun e => by rw [e, e28] at r; cases r)]; exact r⟩
    have hv : PtR K H8 (.ref va) r7 := pt_of e8 (lh7.lo.same s8) (lh7.hi.same s8)
    have new : b.nm ∉ (bars.take i).map (·.nm) := fun z => by
      obtain ⟨b', hb', e'⟩ := List.mem_map.mp z
      exact take_new (nm := BarD.nm) nb eb hb' e'
    have old : ∀ b' ∈ bars.take i, b'.nm ≠ b.nm := fun b' hb' e => new (by rw [← e]; exact List.mem_map.mpr ⟨b', hb', rfl⟩)
    refine ⟨_, _, _, _, _, _, fun nm => if nm = b.nm then r7 else B nm, rfl, fun c o' z => ?_, upd_same, fun b' hb' => ?_, fun b' hb' => ?_, putK_keys (fun k : Key => ∃ x ∈ bars.map (·.nm), k = Sum.inr x) ky ⟨b.nm, List.mem_map.mpr ⟨b, mb, rfl⟩, rfl⟩, putK_vals (fun v => ∃ c, v = .ref c) vl' ⟨va, rfl⟩, Nat.le_trans (length_putK _ _ _) (by omega)⟩
    · rw [upd_ne (ne_of_none z n1)]
      exact s08 _ _ z
    · rw [tk] at hb'
      rcases List.mem_append.mp hb' with z | z
      · obtain ⟨v, v1, v2, v3, v4⟩ := tB b' z
        refine ⟨v, ?_, ?_⟩
        · rw [valV_put, if_neg (fun e => old b' z (by injection e))]
          exact v1
        · dsimp only
          rw [if_neg (old b' z)]
          exact ⟨((v2.same s27).same s8).sameT t9, v3, v4⟩
      · rw [List.mem_singleton.mp z]
        refine ⟨.ref va, ?_, ?_⟩
        · rw [valV_put, if_pos rfl]
        · dsimp only
          rw [if_pos rfl]
          exact ⟨hv.sameT t9, lh7.l0, lh7.h0⟩
    · rw [tk] at hb'
      dsimp only
      rcases List.mem_append.mp hb' with z | z
      · rw [if_neg (old b' z)]
        exact zB b' z
      · rw [List.mem_singleton.mp z, if_pos rfl]
        exact ⟨lh7.zl, lh7.zh⟩
  · rintro σ H2 ⟨o3, o4, o5, o6, o7, kB, B, rfl, s2, e2, tB, zB, ky, vl', ll⟩
    have en : ((vs'.length : Nat) : Int).toNat = bars.length := by omega
    rw [en, List.take_length] at tB zB
    exact ⟨_, rfl, q d kB B H2 s2 n1 e2 tB zB ky vl'⟩
def spAlike (K : PySem.W.Frag) : Sp := fun vs H Q _ => ∃ (u v : V) (m n : Nat) (r : Rat), vs = [u, v] ∧ NmZ K H u m r ∧ NmZ K H v n r ∧ m + n ≤ 130000000 ∧ Q (.bl true) H
theorem sc_law_alike : FnScope ["_law_one", "_law_other"] ["_law_one", "_law_other"] (defScope s_law_alike) := ⟨rfl, rfl, rfl, by decide +kernel, rfl, by decide +kernel, by decide +kernel⟩
theorem ok_law_alike (D : Def K mg "_law_alike" s_law_alike ["_law_one", "_law_other"]) : Fn P w K mg base (CXr P w) 1 "_law_alike" ["_law_one", "_law_other"] (spAlike K) := by
  refine D.ok sc_law_alike (fun vs H Q E h => ?_) (fun f cdv A outer s H vs Q E hr h => ?_)
  · obtain ⟨u, v, m, n, r, rfl, _⟩ := h
    rfl
  obtain ⟨u, v, m, n, r, rfl, ⟨x, ⟨p1, rfl, h1⟩, x2, x3, zx⟩, ⟨y, ⟨p2, rfl, h2⟩, y2, y3, zy⟩, l, q⟩ := h
  refine ⟨_, (pss_one (ps_ret (pe_cmpR op_eq (pe_op op_mulZ (pe_ix ix_tup (pv 0) pe_int (fun _ _ => rfl)) (pe_ix ix_tup (pv 1) pe_int (fun _ _ => rfl))) (pe_op op_mulZ (pe_ix ix_tup (pv 1) pe_int (fun _ _ => rfl)) (pe_ix ix_tup (pv 0) pe_int (fun _ _ => rfl))) (nomark _)))), ?_⟩
  refine ⟨_, rfl, p1, _, _, _, rfl, rfl, h1, at0, _, rfl, p2, _, _, _, rfl, rfl, h2, at1, _, _, rfl, rfl, pw_cmulS zx.top zy.bot (by omega), ?_⟩
  refine ⟨_, rfl, p2, _, _, _, rfl, rfl, h2, at0, _, rfl, p1, _, _, _, rfl, rfl, h1, at1, _, _, rfl, rfl, pw_cmulS zy.top zx.bot (by omega), rfl, ?_⟩
  have e : x.1 * y.2 = y.1 * x.2 := by
    have z1 : ((x.2 : Int) : Rat) ≠ 0 := ratne (Int.ne_of_gt x2)
    have z2 : ((y.2 : Int) : Rat) ≠ 0 := ratne (Int.ne_of_gt y2)
    have k : vl x = vl y := by rw [x3, y3]
    unfold vl at k
    have : ((x.1 * y.2 : Int) : Rat) = ((y.1 * x.2 : Int) : Rat) := by
      push_cast
      grind
    exact Rat.intCast_inj.mp this
  have e' : decide (V.int (x.1 * y.2) = V.int (y.1 * x.2)) = true := decide_eq_true (by rw [e])
  rw [← e'] at q
  exact q
theorem sc_law : FnScope ["_law_script", "_law_pins", "_law_bars_here", "_law_frame_here", "_law_bounds_here", "_law_motion_here", "_law_whole", "_law_name_here", "_law_spot_here", "_law_ways_here", "_law_handed", "_law_told"] ["_law_script"] (defScope s_law) := ⟨rfl, rfl, rfl, by decide +kernel, rfl, by decide +kernel, by decide +kernel⟩
theorem ok_law {f : Addr} {fd : FuncData} {C : Addr} (F : Fun K "law" "law" s_law f fd) (m_dict : mg "dict" = none)
    (G_law_few_pins : Fn P w K mg base (CXr P w) 35 "_law_few_pins" ["_law_script"] (spPinsL K)) (G_law_bars : Fn P w K mg base (CXr P w) 3 "_law_bars" ["_law_script", "_law_pins"] (spBarsL K)) (G_law_frame : Fn P w K mg base (CXr P w) 4 "_law_frame" ["_law_pins", "_law_bars_here"] (spFrameL K C)) (G_law_bounds : Fn P w K mg base (CXr P w) 34 "_law_bounds" ["_law_script", "_law_bars_here"] (spBoundsL K)) (G_law_motion : Fn P w K mg base (CXr P w) 34 "_law_motion" ["_law_script", "_law_pins"] (spMotionL K)) (G_price_of : Fn P w K mg base (CXr P w) 38 "price_of" ["F", "bounds", "motion"] (spPriceOf K C)) (G_law_number : Fn P w K mg base (CXr P w) 34 "_law_number" ["_law_x"] (spNumber K)) (G_law_price : Fn P w K mg base (CXr P w) 4 "_law_price" ["_law_pins", "_law_bars_here", "_law_bounds_here", "_law_motion_here"] (spPriceL K)) (G_law_alike : Fn P w K mg base (CXr P w) 1 "_law_alike" ["_law_one", "_law_other"] (spAlike K)) :
    FnOk P w K mg base (CXr P w) 42 f fd ["_law_script"] (spLaw K) := by
  refine F.okG sc_law (fun vs H Q E h => ?_) (fun cdv A outer s H vs Q E hr h => ?_)
  · obtain ⟨a, ns, rfl, _⟩ := h
    rfl
  obtain ⟨sA, ns, rfl, hS, hn, hb, q⟩ := h
  have px := passM (X := (cxOf (CXr P w) P w K mg base ["_law_script", "_law_pins", "_law_bars_here", "_law_frame_here", "_law_bounds_here", "_law_motion_here", "_law_whole", "_law_name_here", "_law_spot_here", "_law_ways_here", "_law_handed", "_law_told"] "law" (defScope s_law) f cdv A outer s H E)) (CXr.mute (P := P) (w := w))
  have L2 : 2 ≤ sizeLine := by decide
  refine ⟨_, (pss_cons (ps_set (i := 1) sc_law.nd rfl (Or.inl rfl) (pe_fn G_law_few_pins (hr.mono (by decide)) px (pac (pv 0) pa_nil)))
    (pss_cons (ps_set (i := 2) sc_law.nd rfl (Or.inl rfl) (pe_fn G_law_bars (hr.mono (by decide)) px (pac (pv 0) (pac (pv 1) pa_nil))))
    (pss_cons (ps_set (i := 3) sc_law.nd rfl (Or.inl rfl) (pe_fn G_law_frame (hr.mono (by decide)) px (pac (pv 1) (pac (pv 2) pa_nil))))
    (pss_cons (ps_set (i := 4) sc_law.nd rfl (Or.inl rfl) (pe_fn G_law_bounds (hr.mono (by decide)) px (pac (pv 0) (pac (pv 2) pa_nil))))
    (pss_cons (ps_set (i := 5) sc_law.nd rfl (Or.inl rfl) (pe_fn G_law_motion (hr.mono (by decide)) px (pac (pv 0) (pac (pv 1) pa_nil))))
    (pss_cons (ps_set (i := 6) sc_law.nd rfl (Or.inl rfl) (pe_callTy call_dictD rfl m_dict b_dict (pac (pv 5) pa_nil)))
    (pss_cons (ps_for PassesOwn.never rfl (pi_list (pv 1)) (pg_tup rfl (pgs_cons (pg_name (i := 7) sc_law.nd rfl (Or.inl rfl)) (pgs_cons (pg_name (i := 8) sc_law.nd rfl (Or.inl rfl)) (pgs_cons (pg_name (i := 9) sc_law.nd rfl (Or.inl rfl)) pgs_nil)))) (pss_one (ps_if (pt_cmp (pc_dnotin (hu_of hr) (pv 7) (pv 6))) (pss_one (ps_dput (hu_of hr) (pv 6) (pv 7) (pe_tup (pac (pe_tup (pac pe_int (pac pe_int pa_nil))) (pac (pe_tup (pac pe_int (pac pe_int pa_nil))) pa_nil))) rfl)) pss_nil)))
    (pss_cons (ps_set (i := 10) sc_law.nd rfl (Or.inl rfl) (pe_lst (pac (pe_callTy call_dictD rfl m_dict b_dict (pac (pv 4) pa_nil)) (pac (pe_callTy call_dictD rfl m_dict b_dict (pac (pv 5) pa_nil)) pa_nil))))
    (pss_cons (ps_set (i := 11) sc_law.nd rfl (Or.inl rfl) (pe_fn G_price_of (hr.mono (by decide)) px (pac (pv 3) (pac (pe_ix ix_list (pv 10) pe_int (fun _ _ => rfl)) (pac (pe_ix ix_list (pv 10) pe_int (fun _ _ => rfl)) pa_nil)))))
    (pss_cons (ps_if (PW.pt (pw_or (pt_not (pt_val (pe_fn G_law_number (hr.mono (by decide)) px (pac (pv 11) pa_nil)))) (pw_or1 (pt_cmpR (op_neLD hr.units) (pv 10) (pe_lst (pac (pv 4) (pac (pv 5) pa_nil))) (nomark _))))) (pss_one (ps_ret pe_bl)) pss_nil)
    (pss_one (ps_ret (pe_fn G_law_alike (hr.mono (by decide)) px (pac (pv 11) (pac (pe_fn G_law_price (hr.mono (by decide)) px (pac (pv 1) (pac (pv 2) (pac (pv 4) (pac (pv 6) pa_nil))))) pa_nil))))))))))))))), ?_⟩
  refine ⟨_, rfl, sA, ns, rfl, hS, fun pA us pins H1 s1 nA eA pp gp lp => ?_⟩
  have lu : us.length = pins.length := Paired.length pp
  refine ⟨_, rfl, _, rfl, sA, pA, ns, us, pins, rfl, s1.seq hS, eA, lu, gp.np, by omega, fun bA vs' bars H2 s2 nB eB pb gb lb => ?_⟩
  have pp2 : Paired (PinR K H2) us pins := Paired.mapP pp fun _ _ z => z.same s2
  refine ⟨_, rfl, _, rfl, pA, bA, us, vs', pins, bars, rfl, s2 _ _ eA, pp2, eB, pb, gp, gb, by omega, by omega, fun fA H3 s3 fr => ?_⟩
  have s03 := s1.trans (s2.trans s3)
  have pb3 : Paired (BarR K H3 pins) vs' bars := Paired.mapP pb fun _ _ z => z.same s3
  refine ⟨_, rfl, _, rfl, sA, bA, ns, vs', pins, bars, rfl, s03.seq hS, hb, s3 _ _ eB, pb3, gb.nb, lb, fun dB kB B H4 s4 nd4 e4 tB zB kyB vB => ?_⟩
  have s04 := s03.trans s4
  have s24 := s3.trans s4
  have pp4 : Paired (PinR K H4) us pins := Paired.mapP pp2 fun _ _ z => z.same s24
  refine ⟨_, rfl, _, rfl, sA, pA, ns, us, pins, rfl, s04.seq hS, hb, s24 _ _ (s2 _ _ eA), pp4, by omega, fun dM kM M H5 s5 nd5 e5 pM zM kyM vM lM => ?_⟩
  have eA5 := s5 _ _ (s24 _ _ (s2 _ _ eA))
  have eB5 := s5 _ _ (s24 _ _ eB)
  have e45 := s5 _ _ e4
  have pp5 : Paired (PinR K H5) us pins := Paired.mapP pp4 fun _ _ z => z.same s5
  have pb5 : Paired (BarR K H5 pins) vs' bars := Paired.mapP pb3 fun _ _ z => z.same (s4.trans s5)
  have fr5 := fr.same (s4.trans s5)
  have gf : GoodF pins bars := goodF gp gb (by omega) (by omega)
  refine ⟨_, rfl, dM, _, rfl, .inl e5, ?_⟩
  intro dW nW; generalize eX : upd _ dW _ = H6; have sW := eX ▸ same_new nW _; have eW : H6 dW = some _ := eX ▸ upd_same; clear eX
  refine ⟨_, rfl, pA, rfl, ⟨_, SqL.of (sW _ _ eA5)⟩, for_list (K := K) (a := pA) (xs := us) (fun i σ H' => ∃ (o7 o8 o9 : Option V) (kW : List (Key × V)), σ = [some (.ref sA), some (.ref pA), some (.ref bA), some (.ref fA), some (.ref dB), some (.ref dM), some (.ref dW), o7, o8, o9, none, none] ∧ Same H5 H' ∧ H' dW = some (.dK kW) ∧ (∀ x v, valV kW (.inr x) = some v → PtR K H' v (mv M x)) ∧ (∀ x, valV kW (.inr x) = none → mv M x = (0, 0)) ∧ (∀ p ∈ pins.take i, ∃ v, valV kW (.inr p.nm) = some v) ∧ kW.length ≤ 6 + i) ⟨none, none, none, kM, rfl, sW, eW, fun x v e => ?_, fun x e => ?_, fun p h => (nomatch h), by omega⟩ (fun i σ H' _ h => by
      obtain ⟨_, _, _, _, _, s', _⟩ := h
      exact SqL.of (s' _ _ eA5)) ?_ ?_⟩
  · rcases pM x with ⟨h, _⟩ | ⟨v', p, h1, h2, h3⟩
    · rw [h] at e
      cases e
    · rw [h1] at e
      cases e
      unfold mv
      rw [h2]
      exact h3.same sW
  · rcases pM x with ⟨_, h⟩ | ⟨v', p, h1, h2, h3⟩
    · unfold mv
      rw [h]
      rfl
    · rw [h1] at e
      cases e
  · rintro i u σ H7 hu ⟨o7, o8, o9, kW, rfl, s7, e7, w1, w2, w3, lW⟩
    obtain ⟨p, ep, hpr⟩ := paired_get pp5 hu
    have il : i < pins.length := (List.getElem?_eq_some_iff.mp ep).1
    obtain ⟨ta, l, sv, ws, rfl, h1, _⟩ := hpr.same s7
    refine ⟨ta, _, rfl, h1, rfl, _, _, rfl, _, _, rfl, _, _, rfl, rfl, ?_⟩
    refine ⟨_, rfl, _, rfl, dW, _, rfl, DGet.k (k := .inr p.nm) e7, _, rfl, ?_⟩
    refine ite2 (fun c => ?_) (fun c => ?_)
    · have c0 : valV kW (.inr p.nm) = none := by
        cases h : valV kW (.inr p.nm) with
        | none => rfl
        | some v => rw [h] at c; cases c
      refine ⟨L2, ?_⟩
      intro q8 n8; generalize eX : upd _ q8 _ = H8; have s8 := eX ▸ same_new n8 _; have e8 : H8 q8 = some _ := eX ▸ upd_same; clear eX
      refine ⟨L2, ?_⟩
      intro q9 n9; generalize eX : upd _ q9 _ = H9; have s9 := eX ▸ same_new n9 _; have e9 : H9 q9 = some _ := eX ▸ upd_same; clear eX
      refine ⟨L2, ?_⟩
      intro q10 n10; generalize eX : upd _ q10 _ = H10; have s10 := eX ▸ same_new n10 _; have e10 : H10 q10 = some _ := eX ▸ upd_same; clear eX
      have s710 := s8.trans (s9.trans s10)
      have eW10 := s710 _ _ e7
      have hz : PtR K H10 (.ref q10) (0, 0) := pt_mk qr_nought qr_nought e10 (s10 _ _ (s9 _ _ e8)) (s10 _ _ e9)
      refine ⟨_, rfl, _, rfl, dW, _, rfl, DPut.k (k := .inr p.nm) eW10 (Nat.lt_of_le_of_lt (show kW.length ≤ 1000 by omega) (by decide)), ?_⟩
      have t11 : SameT H10 (upd H10 dW (.dK (putK kW (.inr p.nm) (.ref q10)))) := fun b zs r => by
        rcases r with r | ⟨o', r⟩
        · exact .inl (by rw [upd_ne (fun e => by rw [e, eW10] at r; cases r)]; exact r)
        · exact .inr ⟨o', by rw [upd_ne (fun e => by rw [e, eW10] at r; cases r)]; exact r⟩
      refine ⟨_, _, _, _, rfl, fun b o' z => ?_, upd_same, fun x v e => ?_, fun x e => ?_, fun p' hp' => ?_, Nat.le_trans (length_putK _ _ _) (by omega)⟩
      · rw [upd_ne (ne_of_none z nW)]
        exact s710 _ _ (s7 _ _ z)
      · rw [valV_put] at e
        by_cases cc : x = p.nm
        · rw [cc, if_pos rfl] at e
          cases e
          rw [cc, w2 _ c0]
          exact hz.sameT t11
        · rw [if_neg (fun z => cc (by injection z))] at e
          exact ((w1 x v e).same s710).sameT t11
      · rw [valV_put] at e
        by_cases cc : x = p.nm
        · rw [cc, if_pos rfl] at e
          cases e
        · rw [if_neg (fun z => cc (by injection z))] at e
          exact w2 x e
      · rw [valV_put]
        by_cases cc : p'.nm = p.nm
        · exact ⟨.ref q10, by rw [cc, if_pos rfl]⟩
        · rw [if_neg (fun z => cc (by injection z))]
          rw [take_snoc ep] at hp'
          rcases List.mem_append.mp hp' with z | z
          · exact w3 p' z
          · rw [List.mem_singleton.mp z] at cc
            exact absurd rfl cc
    · refine ⟨_, _, _, kW, rfl, s7, e7, w1, w2, fun p' hp' => ?_, by omega⟩
      rw [take_snoc ep] at hp'
      rcases List.mem_append.mp hp' with z | z
      · exact w3 p' z
      · rw [List.mem_singleton.mp z]
        cases h : valV kW (.inr p.nm) with
        | none => rw [h] at c; exact absurd rfl c
        | some v => exact ⟨v, rfl⟩
  · rintro σ H7 ⟨o7, o8, o9, kW, rfl, s7, e7, w1, w2, w3, lW⟩
    rw [lu, List.take_length] at w3
    refine ⟨_, rfl, dB, _, rfl, .inl (s7 _ _ e45), ?_⟩
    intro d8 n8; generalize eX : upd _ d8 _ = H8; have s8 := eX ▸ same_new n8 _; have e8 : H8 d8 = some _ := eX ▸ upd_same; clear eX
    refine ⟨_, rfl, dM, _, rfl, .inl (s8 _ _ (s7 _ _ e5)), ?_⟩
    intro d9 n9; generalize eX : upd _ d9 _ = H9; have s9 := eX ▸ same_new n9 _; have e9 : H9 d9 = some _ := eX ▸ upd_same; clear eX
    refine ⟨L2, ?_⟩
    intro l10 n10; generalize eX : upd _ l10 _ = H10; have s10 := eX ▸ same_new n10 _; have e10 : H10 l10 = some _ := eX ▸ upd_same; clear eX
    have s810 := s9.trans s10
    have s510 := s7.trans (s8.trans s810)
    have hl := SqL.of (K := K) e10
    refine ⟨_, rfl, _, rfl, l10, _, _, _, rfl, rfl, hl, rfl, _, rfl, l10, _, _, _, rfl, rfl, hl, rfl, ?_⟩
    refine ⟨fA, d8, d9, pins, bars, kB, kM, B, M, rfl, fr5.same s510, gf, lb, s810 _ _ e8, kyB, fun b hb => ?_, zB, s10 _ _ e9, pM.same s510, zM, fun tv H11 s11 nt zt => ?_⟩
    · obtain ⟨v, v1, v2, v3⟩ := tB b hb
      exact ⟨v, v1, (v2.same s5).same s510, v3⟩
    refine ⟨_, rfl, tv, _, rfl, nt, fun H12 s12 => ?_⟩
    refine ⟨_, rfl, ?_⟩
    refine ite2 (fun c => nomatch c) (fun _ => ?_)
    have s1012 := s11.trans s12
    refine ⟨_, rfl, _, rfl, _, rfl, L2, ?_⟩
    intro l13 n13; generalize eX : upd _ l13 _ = H13; have s13 := eX ▸ same_new n13 _; have e13 : H13 l13 = some _ := eX ▸ upd_same; clear eX
    have s1013 := s1012.trans s13
    have s513 := s510.trans s1013
    have e45' := s513 _ _ e45
    have e5' := s513 _ _ e5
    refine ⟨l10, l13, _, _, rfl, rfl, s1013.seq hl, SqL.of e13, rfl, fun j u v hu hv => ?_, _, rfl, ?_⟩
    · match j, hu, hv with
      | 0, hu, hv =>
        cases hu
        cases hv
        exact ⟨d8, dB, kB, rfl, rfl, .inl (s1013 _ _ (s810 _ _ e8)), .inl e45', fun kv h => .inr (vB kv h)⟩
      | 1, hu, hv =>
        cases hu
        cases hv
        exact ⟨d9, dM, kM, rfl, rfl, .inl (s1013 _ _ (s10 _ _ e9)), .inl e5', fun kv h => .inr (vM kv h)⟩
    refine ite2 (fun c => nomatch c) (fun _ => ?_)
    have s713 := (s8.trans s810).trans s1013
    refine ⟨_, rfl, _, rfl, _, rfl, _, rfl, _, rfl, pA, bA, dB, dW, us, vs', pins, bars, kB, kW, B, M, rfl, s513 _ _ eA5, Paired.mapP pp5 fun _ _ z => z.same s513, gp, s513 _ _ eB5, Paired.mapP pb5 fun _ _ z => z.same s513, lb, e45', fun b hb => ?_, zB, s713 _ _ e7, fun p hp => ?_, zM, fun v H14 s14 n14 => ?_⟩
    · obtain ⟨v, v1, v2, _⟩ := tB b hb
      exact ⟨v, v1, (v2.same s5).same s513⟩
    · obtain ⟨v, ev⟩ := w3 p hp
      exact ⟨v, ev, (w1 _ v ev).same s713⟩
    · refine ⟨tv, v, 4000, 5000, _, rfl, nmz_of (nt.same (s12.trans (s13.trans s14))) (zb_of zt (Nat.le_refl _)), n14, by decide, q H14⟩
end
theorem all_mk {l : PySem.W.OpenLaw} {w : World} {K : PySem.W.Frag} {h : Heap} {mg : Str → Option Value} {fa : Addr} (X : K.In h) (G : h.Ns mainGlobals mg) (hfa : mg "law" = some (.ref fa))
    {f_sum_of : Addr} {od_sum_of an_sum_of : Option Addr} {sl_sum_of : Array (Option Value)} {oc_sum_of kV_sum_of dc_sum_of pm_sum_of cd_sum_of ct_sum_of : Value} {f_difference_of : Addr} {od_difference_of an_difference_of : Option Addr} {sl_difference_of : Array (Option Value)} {oc_difference_of kV_difference_of dc_difference_of pm_difference_of cd_difference_of ct_difference_of : Value} {f_product_of : Addr} {od_product_of an_product_of : Option Addr} {sl_product_of : Array (Option Value)} {oc_product_of kV_product_of dc_product_of pm_product_of cd_product_of ct_product_of : Value} {f_lowest_terms : Addr} {od_lowest_terms an_lowest_terms : Option Addr} {sl_lowest_terms : Array (Option Value)} {oc_lowest_terms kV_lowest_terms dc_lowest_terms pm_lowest_terms cd_lowest_terms ct_lowest_terms : Value} {f_greatest_shared : Addr} {od_greatest_shared an_greatest_shared : Option Addr} {sl_greatest_shared : Array (Option Value)} {oc_greatest_shared kV_greatest_shared dc_greatest_shared pm_greatest_shared cd_greatest_shared ct_greatest_shared : Value} {f_lengthenings : Addr} {od_lengthenings an_lengthenings : Option Addr} {sl_lengthenings : Array (Option Value)} {oc_lengthenings kV_lengthenings dc_lengthenings pm_lengthenings cd_lengthenings ct_lengthenings : Value} {f_arm_between : Addr} {od_arm_between an_arm_between : Option Addr} {sl_arm_between : Array (Option Value)} {oc_arm_between kV_arm_between dc_arm_between pm_arm_between cd_arm_between ct_arm_between : Value} {f_pair_difference : Addr} {od_pair_difference an_pair_difference : Option Addr} {sl_pair_difference : Array (Option Value)} {oc_pair_difference kV_pair_difference dc_pair_difference pm_pair_difference cd_pair_difference ct_pair_difference : Value} {f_pair_product : Addr} {od_pair_product an_pair_product : Option Addr} {sl_pair_product : Array (Option Value)} {oc_pair_product kV_pair_product dc_pair_product pm_pair_product cd_pair_product ct_pair_product : Value} {f_check_bars : Addr} {od_check_bars an_check_bars : Option Addr} {sl_check_bars : Array (Option Value)} {oc_check_bars kV_check_bars dc_check_bars pm_check_bars cd_check_bars ct_check_bars : Value} {f_price_of : Addr} {od_price_of an_price_of : Option Addr} {sl_price_of : Array (Option Value)} {oc_price_of kV_price_of dc_price_of pm_price_of cd_price_of ct_price_of : Value} {f_all_bounds : Addr} {od_all_bounds an_all_bounds : Option Addr} {sl_all_bounds : Array (Option Value)} {oc_all_bounds kV_all_bounds dc_all_bounds pm_all_bounds cd_all_bounds ct_all_bounds : Value} {f_has_nought : Addr} {od_has_nought an_has_nought : Option Addr} {sl_has_nought : Array (Option Value)} {oc_has_nought kV_has_nought dc_has_nought pm_has_nought cd_has_nought ct_has_nought : Value} {f_law_cell_at : Addr} {od_law_cell_at an_law_cell_at : Option Addr} {sl_law_cell_at : Array (Option Value)} {oc_law_cell_at kV_law_cell_at dc_law_cell_at pm_law_cell_at cd_law_cell_at ct_law_cell_at : Value} {f_law_field : Addr} {od_law_field an_law_field : Option Addr} {sl_law_field : Array (Option Value)} {oc_law_field kV_law_field dc_law_field pm_law_field cd_law_field ct_law_field : Value} {f_law_lowest : Addr} {od_law_lowest an_law_lowest : Option Addr} {sl_law_lowest : Array (Option Value)} {oc_law_lowest kV_law_lowest dc_law_lowest pm_law_lowest cd_law_lowest ct_law_lowest : Value} {f_law_sum : Addr} {od_law_sum an_law_sum : Option Addr} {sl_law_sum : Array (Option Value)} {oc_law_sum kV_law_sum dc_law_sum pm_law_sum cd_law_sum ct_law_sum : Value} {f_law_times : Addr} {od_law_times an_law_times : Option Addr} {sl_law_times : Array (Option Value)} {oc_law_times kV_law_times dc_law_times pm_law_times cd_law_times ct_law_times : Value} {f_law_turned : Addr} {od_law_turned an_law_turned : Option Addr} {sl_law_turned : Array (Option Value)} {oc_law_turned kV_law_turned dc_law_turned pm_law_turned cd_law_turned ct_law_turned : Value} {f_law_name : Addr} {od_law_name an_law_name : Option Addr} {sl_law_name : Array (Option Value)} {oc_law_name kV_law_name dc_law_name pm_law_name cd_law_name ct_law_name : Value} {f_law_spot : Addr} {od_law_spot an_law_spot : Option Addr} {sl_law_spot : Array (Option Value)} {oc_law_spot kV_law_spot dc_law_spot pm_law_spot cd_law_spot ct_law_spot : Value} {f_law_ways : Addr} {od_law_ways an_law_ways : Option Addr} {sl_law_ways : Array (Option Value)} {oc_law_ways kV_law_ways dc_law_ways pm_law_ways cd_law_ways ct_law_ways : Value} {f_law_few_pins : Addr} {od_law_few_pins an_law_few_pins : Option Addr} {sl_law_few_pins : Array (Option Value)} {oc_law_few_pins kV_law_few_pins dc_law_few_pins pm_law_few_pins cd_law_few_pins ct_law_few_pins : Value} {f_law_bars : Addr} {od_law_bars an_law_bars : Option Addr} {sl_law_bars : Array (Option Value)} {oc_law_bars kV_law_bars dc_law_bars pm_law_bars cd_law_bars ct_law_bars : Value} {f_law_frame : Addr} {od_law_frame an_law_frame : Option Addr} {sl_law_frame : Array (Option Value)} {oc_law_frame kV_law_frame dc_law_frame pm_law_frame cd_law_frame ct_law_frame : Value} {f_law_arm : Addr} {od_law_arm an_law_arm : Option Addr} {sl_law_arm : Array (Option Value)} {oc_law_arm kV_law_arm dc_law_arm pm_law_arm cd_law_arm ct_law_arm : Value} {f_law_number : Addr} {od_law_number an_law_number : Option Addr} {sl_law_number : Array (Option Value)} {oc_law_number kV_law_number dc_law_number pm_law_number cd_law_number ct_law_number : Value} {f_law_dot : Addr} {od_law_dot an_law_dot : Option Addr} {sl_law_dot : Array (Option Value)} {oc_law_dot kV_law_dot dc_law_dot pm_law_dot cd_law_dot ct_law_dot : Value} {f_law_longer : Addr} {od_law_longer an_law_longer : Option Addr} {sl_law_longer : Array (Option Value)} {oc_law_longer kV_law_longer dc_law_longer pm_law_longer cd_law_longer ct_law_longer : Value} {f_law_bounds : Addr} {od_law_bounds an_law_bounds : Option Addr} {sl_law_bounds : Array (Option Value)} {oc_law_bounds kV_law_bounds dc_law_bounds pm_law_bounds cd_law_bounds ct_law_bounds : Value} {f_law_alike : Addr} {od_law_alike an_law_alike : Option Addr} {sl_law_alike : Array (Option Value)} {oc_law_alike kV_law_alike dc_law_alike pm_law_alike cd_law_alike ct_law_alike : Value} {f_law_price : Addr} {od_law_price an_law_price : Option Addr} {sl_law_price : Array (Option Value)} {oc_law_price kV_law_price dc_law_price pm_law_price cd_law_price ct_law_price : Value} {f_law_motion : Addr} {od_law_motion an_law_motion : Option Addr} {sl_law_motion : Array (Option Value)} {oc_law_motion kV_law_motion dc_law_motion pm_law_motion cd_law_motion ct_law_motion : Value} {f_law : Addr} {od_law an_law : Option Addr} {sl_law : Array (Option Value)} {oc_law kV_law dc_law pm_law cd_law ct_law : Value} {tk_MOST_PINS : Tok} {tk_MOST_BARS : Tok} {c_NOUGHT : Addr} {cd_NOUGHT : Option Addr} {ck0_NOUGHT : Tok} {ck1_NOUGHT : Tok} {cn_NOUGHT : Nat} {cs_NOUGHT : Array (Option Value)} {c_NO_MOVE : Addr} {cd_NO_MOVE : Option Addr} {cn_NO_MOVE : Nat} {cs_NO_MOVE : Array (Option Value)} {c_NO_MOVE_0 : Addr} {cd_NO_MOVE_0 : Option Addr} {ck0_NO_MOVE_0 : Tok} {ck1_NO_MOVE_0 : Tok} {cn_NO_MOVE_0 : Nat} {cs_NO_MOVE_0 : Array (Option Value)} {c_NO_MOVE_1 : Addr} {cd_NO_MOVE_1 : Option Addr} {ck0_NO_MOVE_1 : Tok} {ck1_NO_MOVE_1 : Tok} {cn_NO_MOVE_1 : Nat} {cs_NO_MOVE_1 : Array (Option Value)} {C_YardError : Addr} {C_NoWay : Addr} {C_PinThere : Addr} {C_SpotTaken : Addr} {C_NoPin : Addr} {C_BarThere : Addr} {C_NoBar : Addr} {C_NoLength : Addr} {C_TooMany : Addr} {C_NoBound : Addr} {C_Frame : Addr} {C_Hold : Addr} {C_Roller : Addr} {C_Fixed : Addr} {f_Frame_init : Addr} {od_Frame_init an_Frame_init : Option Addr} {sl_Frame_init : Array (Option Value)} {oc_Frame_init kV_Frame_init dc_Frame_init pm_Frame_init cd_Frame_init ct_Frame_init : Value} {td_Frame_put_pin : Addr} {tc_Frame_put_pin : Value} {tdd_Frame_put_pin : Option Addr} {tn_Frame_put_pin : Nat} {tsl_Frame_put_pin : Array (Option Value)} {f_Frame_put_pin : Addr} {od_Frame_put_pin an_Frame_put_pin : Option Addr} {sl_Frame_put_pin : Array (Option Value)} {oc_Frame_put_pin kV_Frame_put_pin dc_Frame_put_pin pm_Frame_put_pin cd_Frame_put_pin ct_Frame_put_pin : Value} {f_Frame_put_bar : Addr} {od_Frame_put_bar an_Frame_put_bar : Option Addr} {sl_Frame_put_bar : Array (Option Value)} {oc_Frame_put_bar kV_Frame_put_bar dc_Frame_put_bar pm_Frame_put_bar cd_Frame_put_bar ct_Frame_put_bar : Value} {f_Frame_check_bar : Addr} {od_Frame_check_bar an_Frame_check_bar : Option Addr} {sl_Frame_check_bar : Array (Option Value)} {oc_Frame_check_bar kV_Frame_check_bar dc_Frame_check_bar pm_Frame_check_bar cd_Frame_check_bar ct_Frame_check_bar : Value} {f_Frame_check_pin : Addr} {od_Frame_check_pin an_Frame_check_pin : Option Addr} {sl_Frame_check_pin : Array (Option Value)} {oc_Frame_check_pin kV_Frame_check_pin dc_Frame_check_pin pm_Frame_check_pin cd_Frame_check_pin ct_Frame_check_pin : Value} {f_Frame_pins : Addr} {od_Frame_pins an_Frame_pins : Option Addr} {sl_Frame_pins : Array (Option Value)} {oc_Frame_pins kV_Frame_pins dc_Frame_pins pm_Frame_pins cd_Frame_pins ct_Frame_pins : Value} {f_Frame_bars : Addr} {od_Frame_bars an_Frame_bars : Option Addr} {sl_Frame_bars : Array (Option Value)} {oc_Frame_bars kV_Frame_bars dc_Frame_bars pm_Frame_bars cd_Frame_bars ct_Frame_bars : Value} {f_Frame_place : Addr} {od_Frame_place an_Frame_place : Option Addr} {sl_Frame_place : Array (Option Value)} {oc_Frame_place kV_Frame_place dc_Frame_place pm_Frame_place cd_Frame_place ct_Frame_place : Value} {f_Frame_ways : Addr} {od_Frame_ways an_Frame_ways : Option Addr} {sl_Frame_ways : Array (Option Value)} {oc_Frame_ways kV_Frame_ways dc_Frame_ways pm_Frame_ways cd_Frame_ways ct_Frame_ways : Value} {f_Frame_ends : Addr} {od_Frame_ends an_Frame_ends : Option Addr} {sl_Frame_ends : Array (Option Value)} {oc_Frame_ends kV_Frame_ends dc_Frame_ends pm_Frame_ends cd_Frame_ends ct_Frame_ends : Value} {f_Hold_ways : Addr} {od_Hold_ways an_Hold_ways : Option Addr} {sl_Hold_ways : Array (Option Value)} {oc_Hold_ways kV_Hold_ways dc_Hold_ways pm_Hold_ways cd_Hold_ways ct_Hold_ways : Value} {f_Roller_init : Addr} {od_Roller_init an_Roller_init : Option Addr} {sl_Roller_init : Array (Option Value)} {oc_Roller_init kV_Roller_init dc_Roller_init pm_Roller_init cd_Roller_init ct_Roller_init : Value} {f_Roller_ways : Addr} {od_Roller_ways an_Roller_ways : Option Addr} {sl_Roller_ways : Array (Option Value)} {oc_Roller_ways kV_Roller_ways dc_Roller_ways pm_Roller_ways cd_Roller_ways ct_Roller_ways : Value} {f_Fixed_ways : Addr} {od_Fixed_ways an_Fixed_ways : Option Addr} {sl_Fixed_ways : Array (Option Value)} {oc_Fixed_ways kV_Fixed_ways dc_Fixed_ways pm_Fixed_ways cd_Fixed_ways ct_Fixed_ways : Value}
    (a_sum_of : PySem.W.nsIn K mainGlobals "sum_of" = some (some (.ref f_sum_of))) (l_sum_of : K.lookup f_sum_of = some ⟨oc_sum_of, od_sum_of, .func (PySem.W.fnOf "sum_of" "sum_of" (defArgs s_sum_of) (defBody s_sum_of) (defScope s_sum_of) .none kV_sum_of dc_sum_of pm_sum_of an_sum_of cd_sum_of ct_sum_of), sl_sum_of⟩) (c_sum_of : PySem.W.codeIn K cd_sum_of "sum_of" = true) (k_sum_of : PySem.W.keepIn K (.ref f_sum_of) = true) (a_difference_of : PySem.W.nsIn K mainGlobals "difference_of" = some (some (.ref f_difference_of))) (l_difference_of : K.lookup f_difference_of = some ⟨oc_difference_of, od_difference_of, .func (PySem.W.fnOf "difference_of" "difference_of" (defArgs s_difference_of) (defBody s_difference_of) (defScope s_difference_of) .none kV_difference_of dc_difference_of pm_difference_of an_difference_of cd_difference_of ct_difference_of), sl_difference_of⟩) (c_difference_of : PySem.W.codeIn K cd_difference_of "difference_of" = true) (k_difference_of : PySem.W.keepIn K (.ref f_difference_of) = true) (a_product_of : PySem.W.nsIn K mainGlobals "product_of" = some (some (.ref f_product_of))) (l_product_of : K.lookup f_product_of = some ⟨oc_product_of, od_product_of, .func (PySem.W.fnOf "product_of" "product_of" (defArgs s_product_of) (defBody s_product_of) (defScope s_product_of) .none kV_product_of dc_product_of pm_product_of an_product_of cd_product_of ct_product_of), sl_product_of⟩) (c_product_of : PySem.W.codeIn K cd_product_of "product_of" = true) (k_product_of : PySem.W.keepIn K (.ref f_product_of) = true) (a_lowest_terms : PySem.W.nsIn K mainGlobals "lowest_terms" = some (some (.ref f_lowest_terms))) (l_lowest_terms : K.lookup f_lowest_terms = some ⟨oc_lowest_terms, od_lowest_terms, .func (PySem.W.fnOf "lowest_terms" "lowest_terms" (defArgs s_lowest_terms) (defBody s_lowest_terms) (defScope s_lowest_terms) .none kV_lowest_terms dc_lowest_terms pm_lowest_terms an_lowest_terms cd_lowest_terms ct_lowest_terms), sl_lowest_terms⟩) (c_lowest_terms : PySem.W.codeIn K cd_lowest_terms "lowest_terms" = true) (k_lowest_terms : PySem.W.keepIn K (.ref f_lowest_terms) = true) (a_greatest_shared : PySem.W.nsIn K mainGlobals "greatest_shared" = some (some (.ref f_greatest_shared))) (l_greatest_shared : K.lookup f_greatest_shared = some ⟨oc_greatest_shared, od_greatest_shared, .func (PySem.W.fnOf "greatest_shared" "greatest_shared" (defArgs s_greatest_shared) (defBody s_greatest_shared) (defScope s_greatest_shared) .none kV_greatest_shared dc_greatest_shared pm_greatest_shared an_greatest_shared cd_greatest_shared ct_greatest_shared), sl_greatest_shared⟩) (c_greatest_shared : PySem.W.codeIn K cd_greatest_shared "greatest_shared" = true) (k_greatest_shared : PySem.W.keepIn K (.ref f_greatest_shared) = true) (a_lengthenings : PySem.W.nsIn K mainGlobals "lengthenings" = some (some (.ref f_lengthenings))) (l_lengthenings : K.lookup f_lengthenings = some ⟨oc_lengthenings, od_lengthenings, .func (PySem.W.fnOf "lengthenings" "lengthenings" (defArgs s_lengthenings) (defBody s_lengthenings) (defScope s_lengthenings) .none kV_lengthenings dc_lengthenings pm_lengthenings an_lengthenings cd_lengthenings ct_lengthenings), sl_lengthenings⟩) (c_lengthenings : PySem.W.codeIn K cd_lengthenings "lengthenings" = true) (k_lengthenings : PySem.W.keepIn K (.ref f_lengthenings) = true) (a_arm_between : PySem.W.nsIn K mainGlobals "arm_between" = some (some (.ref f_arm_between))) (l_arm_between : K.lookup f_arm_between = some ⟨oc_arm_between, od_arm_between, .func (PySem.W.fnOf "arm_between" "arm_between" (defArgs s_arm_between) (defBody s_arm_between) (defScope s_arm_between) .none kV_arm_between dc_arm_between pm_arm_between an_arm_between cd_arm_between ct_arm_between), sl_arm_between⟩) (c_arm_between : PySem.W.codeIn K cd_arm_between "arm_between" = true) (k_arm_between : PySem.W.keepIn K (.ref f_arm_between) = true) (a_pair_difference : PySem.W.nsIn K mainGlobals "pair_difference" = some (some (.ref f_pair_difference))) (l_pair_difference : K.lookup f_pair_difference = some ⟨oc_pair_difference, od_pair_difference, .func (PySem.W.fnOf "pair_difference" "pair_difference" (defArgs s_pair_difference) (defBody s_pair_difference) (defScope s_pair_difference) .none kV_pair_difference dc_pair_difference pm_pair_difference an_pair_difference cd_pair_difference ct_pair_difference), sl_pair_difference⟩) (c_pair_difference : PySem.W.codeIn K cd_pair_difference "pair_difference" = true) (k_pair_difference : PySem.W.keepIn K (.ref f_pair_difference) = true) (a_pair_product : PySem.W.nsIn K mainGlobals "pair_product" = some (some (.ref f_pair_product))) (l_pair_product : K.lookup f_pair_product = some ⟨oc_pair_product, od_pair_product, .func (PySem.W.fnOf "pair_product" "pair_product" (defArgs s_pair_product) (defBody s_pair_product) (defScope s_pair_product) .none kV_pair_product dc_pair_product pm_pair_product an_pair_product cd_pair_product ct_pair_product), sl_pair_product⟩) (c_pair_product : PySem.W.codeIn K cd_pair_product "pair_product" = true) (k_pair_product : PySem.W.keepIn K (.ref f_pair_product) = true) (a_check_bars : PySem.W.nsIn K mainGlobals "check_bars" = some (some (.ref f_check_bars))) (l_check_bars : K.lookup f_check_bars = some ⟨oc_check_bars, od_check_bars, .func (PySem.W.fnOf "check_bars" "check_bars" (defArgs s_check_bars) (defBody s_check_bars) (defScope s_check_bars) .none kV_check_bars dc_check_bars pm_check_bars an_check_bars cd_check_bars ct_check_bars), sl_check_bars⟩) (c_check_bars : PySem.W.codeIn K cd_check_bars "check_bars" = true) (k_check_bars : PySem.W.keepIn K (.ref f_check_bars) = true) (a_price_of : PySem.W.nsIn K mainGlobals "price_of" = some (some (.ref f_price_of))) (l_price_of : K.lookup f_price_of = some ⟨oc_price_of, od_price_of, .func (PySem.W.fnOf "price_of" "price_of" (defArgs s_price_of) (defBody s_price_of) (defScope s_price_of) .none kV_price_of dc_price_of pm_price_of an_price_of cd_price_of ct_price_of), sl_price_of⟩) (c_price_of : PySem.W.codeIn K cd_price_of "price_of" = true) (k_price_of : PySem.W.keepIn K (.ref f_price_of) = true) (a_all_bounds : PySem.W.nsIn K mainGlobals "all_bounds" = some (some (.ref f_all_bounds))) (l_all_bounds : K.lookup f_all_bounds = some ⟨oc_all_bounds, od_all_bounds, .func (PySem.W.fnOf "all_bounds" "all_bounds" (defArgs s_all_bounds) (defBody s_all_bounds) (defScope s_all_bounds) .none kV_all_bounds dc_all_bounds pm_all_bounds an_all_bounds cd_all_bounds ct_all_bounds), sl_all_bounds⟩) (c_all_bounds : PySem.W.codeIn K cd_all_bounds "all_bounds" = true) (k_all_bounds : PySem.W.keepIn K (.ref f_all_bounds) = true) (a_has_nought : PySem.W.nsIn K mainGlobals "has_nought" = some (some (.ref f_has_nought))) (l_has_nought : K.lookup f_has_nought = some ⟨oc_has_nought, od_has_nought, .func (PySem.W.fnOf "has_nought" "has_nought" (defArgs s_has_nought) (defBody s_has_nought) (defScope s_has_nought) .none kV_has_nought dc_has_nought pm_has_nought an_has_nought cd_has_nought ct_has_nought), sl_has_nought⟩) (c_has_nought : PySem.W.codeIn K cd_has_nought "has_nought" = true) (k_has_nought : PySem.W.keepIn K (.ref f_has_nought) = true) (a_law_cell_at : PySem.W.nsIn K mainGlobals "_law_cell_at" = some (some (.ref f_law_cell_at))) (l_law_cell_at : K.lookup f_law_cell_at = some ⟨oc_law_cell_at, od_law_cell_at, .func (PySem.W.fnOf "_law_cell_at" "_law_cell_at" (defArgs s_law_cell_at) (defBody s_law_cell_at) (defScope s_law_cell_at) .none kV_law_cell_at dc_law_cell_at pm_law_cell_at an_law_cell_at cd_law_cell_at ct_law_cell_at), sl_law_cell_at⟩) (c_law_cell_at : PySem.W.codeIn K cd_law_cell_at "_law_cell_at" = true) (k_law_cell_at : PySem.W.keepIn K (.ref f_law_cell_at) = true) (a_law_field : PySem.W.nsIn K mainGlobals "_law_field" = some (some (.ref f_law_field))) (l_law_field : K.lookup f_law_field = some ⟨oc_law_field, od_law_field, .func (PySem.W.fnOf "_law_field" "_law_field" (defArgs s_law_field) (defBody s_law_field) (defScope s_law_field) .none kV_law_field dc_law_field pm_law_field an_law_field cd_law_field ct_law_field), sl_law_field⟩) (c_law_field : PySem.W.codeIn K cd_law_field "_law_field" = true) (k_law_field : PySem.W.keepIn K (.ref f_law_field) = true) (a_law_lowest : PySem.W.nsIn K mainGlobals "_law_lowest" = some (some (.ref f_law_lowest))) (l_law_lowest : K.lookup f_law_lowest = some ⟨oc_law_lowest, od_law_lowest, .func (PySem.W.fnOf "_law_lowest" "_law_lowest" (defArgs s_law_lowest) (defBody s_law_lowest) (defScope s_law_lowest) .none kV_law_lowest dc_law_lowest pm_law_lowest an_law_lowest cd_law_lowest ct_law_lowest), sl_law_lowest⟩) (c_law_lowest : PySem.W.codeIn K cd_law_lowest "_law_lowest" = true) (k_law_lowest : PySem.W.keepIn K (.ref f_law_lowest) = true) (a_law_sum : PySem.W.nsIn K mainGlobals "_law_sum" = some (some (.ref f_law_sum))) (l_law_sum : K.lookup f_law_sum = some ⟨oc_law_sum, od_law_sum, .func (PySem.W.fnOf "_law_sum" "_law_sum" (defArgs s_law_sum) (defBody s_law_sum) (defScope s_law_sum) .none kV_law_sum dc_law_sum pm_law_sum an_law_sum cd_law_sum ct_law_sum), sl_law_sum⟩) (c_law_sum : PySem.W.codeIn K cd_law_sum "_law_sum" = true) (k_law_sum : PySem.W.keepIn K (.ref f_law_sum) = true) (a_law_times : PySem.W.nsIn K mainGlobals "_law_times" = some (some (.ref f_law_times))) (l_law_times : K.lookup f_law_times = some ⟨oc_law_times, od_law_times, .func (PySem.W.fnOf "_law_times" "_law_times" (defArgs s_law_times) (defBody s_law_times) (defScope s_law_times) .none kV_law_times dc_law_times pm_law_times an_law_times cd_law_times ct_law_times), sl_law_times⟩) (c_law_times : PySem.W.codeIn K cd_law_times "_law_times" = true) (k_law_times : PySem.W.keepIn K (.ref f_law_times) = true) (a_law_turned : PySem.W.nsIn K mainGlobals "_law_turned" = some (some (.ref f_law_turned))) (l_law_turned : K.lookup f_law_turned = some ⟨oc_law_turned, od_law_turned, .func (PySem.W.fnOf "_law_turned" "_law_turned" (defArgs s_law_turned) (defBody s_law_turned) (defScope s_law_turned) .none kV_law_turned dc_law_turned pm_law_turned an_law_turned cd_law_turned ct_law_turned), sl_law_turned⟩) (c_law_turned : PySem.W.codeIn K cd_law_turned "_law_turned" = true) (k_law_turned : PySem.W.keepIn K (.ref f_law_turned) = true) (a_law_name : PySem.W.nsIn K mainGlobals "_law_name" = some (some (.ref f_law_name))) (l_law_name : K.lookup f_law_name = some ⟨oc_law_name, od_law_name, .func (PySem.W.fnOf "_law_name" "_law_name" (defArgs s_law_name) (defBody s_law_name) (defScope s_law_name) .none kV_law_name dc_law_name pm_law_name an_law_name cd_law_name ct_law_name), sl_law_name⟩) (c_law_name : PySem.W.codeIn K cd_law_name "_law_name" = true) (k_law_name : PySem.W.keepIn K (.ref f_law_name) = true) (a_law_spot : PySem.W.nsIn K mainGlobals "_law_spot" = some (some (.ref f_law_spot))) (l_law_spot : K.lookup f_law_spot = some ⟨oc_law_spot, od_law_spot, .func (PySem.W.fnOf "_law_spot" "_law_spot" (defArgs s_law_spot) (defBody s_law_spot) (defScope s_law_spot) .none kV_law_spot dc_law_spot pm_law_spot an_law_spot cd_law_spot ct_law_spot), sl_law_spot⟩) (c_law_spot : PySem.W.codeIn K cd_law_spot "_law_spot" = true) (k_law_spot : PySem.W.keepIn K (.ref f_law_spot) = true) (a_law_ways : PySem.W.nsIn K mainGlobals "_law_ways" = some (some (.ref f_law_ways))) (l_law_ways : K.lookup f_law_ways = some ⟨oc_law_ways, od_law_ways, .func (PySem.W.fnOf "_law_ways" "_law_ways" (defArgs s_law_ways) (defBody s_law_ways) (defScope s_law_ways) .none kV_law_ways dc_law_ways pm_law_ways an_law_ways cd_law_ways ct_law_ways), sl_law_ways⟩) (c_law_ways : PySem.W.codeIn K cd_law_ways "_law_ways" = true) (k_law_ways : PySem.W.keepIn K (.ref f_law_ways) = true) (a_law_few_pins : PySem.W.nsIn K mainGlobals "_law_few_pins" = some (some (.ref f_law_few_pins))) (l_law_few_pins : K.lookup f_law_few_pins = some ⟨oc_law_few_pins, od_law_few_pins, .func (PySem.W.fnOf "_law_few_pins" "_law_few_pins" (defArgs s_law_few_pins) (defBody s_law_few_pins) (defScope s_law_few_pins) .none kV_law_few_pins dc_law_few_pins pm_law_few_pins an_law_few_pins cd_law_few_pins ct_law_few_pins), sl_law_few_pins⟩) (c_law_few_pins : PySem.W.codeIn K cd_law_few_pins "_law_few_pins" = true) (k_law_few_pins : PySem.W.keepIn K (.ref f_law_few_pins) = true) (a_law_bars : PySem.W.nsIn K mainGlobals "_law_bars" = some (some (.ref f_law_bars))) (l_law_bars : K.lookup f_law_bars = some ⟨oc_law_bars, od_law_bars, .func (PySem.W.fnOf "_law_bars" "_law_bars" (defArgs s_law_bars) (defBody s_law_bars) (defScope s_law_bars) .none kV_law_bars dc_law_bars pm_law_bars an_law_bars cd_law_bars ct_law_bars), sl_law_bars⟩) (c_law_bars : PySem.W.codeIn K cd_law_bars "_law_bars" = true) (k_law_bars : PySem.W.keepIn K (.ref f_law_bars) = true) (a_law_frame : PySem.W.nsIn K mainGlobals "_law_frame" = some (some (.ref f_law_frame))) (l_law_frame : K.lookup f_law_frame = some ⟨oc_law_frame, od_law_frame, .func (PySem.W.fnOf "_law_frame" "_law_frame" (defArgs s_law_frame) (defBody s_law_frame) (defScope s_law_frame) .none kV_law_frame dc_law_frame pm_law_frame an_law_frame cd_law_frame ct_law_frame), sl_law_frame⟩) (c_law_frame : PySem.W.codeIn K cd_law_frame "_law_frame" = true) (k_law_frame : PySem.W.keepIn K (.ref f_law_frame) = true) (a_law_arm : PySem.W.nsIn K mainGlobals "_law_arm" = some (some (.ref f_law_arm))) (l_law_arm : K.lookup f_law_arm = some ⟨oc_law_arm, od_law_arm, .func (PySem.W.fnOf "_law_arm" "_law_arm" (defArgs s_law_arm) (defBody s_law_arm) (defScope s_law_arm) .none kV_law_arm dc_law_arm pm_law_arm an_law_arm cd_law_arm ct_law_arm), sl_law_arm⟩) (c_law_arm : PySem.W.codeIn K cd_law_arm "_law_arm" = true) (k_law_arm : PySem.W.keepIn K (.ref f_law_arm) = true) (a_law_number : PySem.W.nsIn K mainGlobals "_law_number" = some (some (.ref f_law_number))) (l_law_number : K.lookup f_law_number = some ⟨oc_law_number, od_law_number, .func (PySem.W.fnOf "_law_number" "_law_number" (defArgs s_law_number) (defBody s_law_number) (defScope s_law_number) .none kV_law_number dc_law_number pm_law_number an_law_number cd_law_number ct_law_number), sl_law_number⟩) (c_law_number : PySem.W.codeIn K cd_law_number "_law_number" = true) (k_law_number : PySem.W.keepIn K (.ref f_law_number) = true) (a_law_dot : PySem.W.nsIn K mainGlobals "_law_dot" = some (some (.ref f_law_dot))) (l_law_dot : K.lookup f_law_dot = some ⟨oc_law_dot, od_law_dot, .func (PySem.W.fnOf "_law_dot" "_law_dot" (defArgs s_law_dot) (defBody s_law_dot) (defScope s_law_dot) .none kV_law_dot dc_law_dot pm_law_dot an_law_dot cd_law_dot ct_law_dot), sl_law_dot⟩) (c_law_dot : PySem.W.codeIn K cd_law_dot "_law_dot" = true) (k_law_dot : PySem.W.keepIn K (.ref f_law_dot) = true) (a_law_longer : PySem.W.nsIn K mainGlobals "_law_longer" = some (some (.ref f_law_longer))) (l_law_longer : K.lookup f_law_longer = some ⟨oc_law_longer, od_law_longer, .func (PySem.W.fnOf "_law_longer" "_law_longer" (defArgs s_law_longer) (defBody s_law_longer) (defScope s_law_longer) .none kV_law_longer dc_law_longer pm_law_longer an_law_longer cd_law_longer ct_law_longer), sl_law_longer⟩) (c_law_longer : PySem.W.codeIn K cd_law_longer "_law_longer" = true) (k_law_longer : PySem.W.keepIn K (.ref f_law_longer) = true) (a_law_bounds : PySem.W.nsIn K mainGlobals "_law_bounds" = some (some (.ref f_law_bounds))) (l_law_bounds : K.lookup f_law_bounds = some ⟨oc_law_bounds, od_law_bounds, .func (PySem.W.fnOf "_law_bounds" "_law_bounds" (defArgs s_law_bounds) (defBody s_law_bounds) (defScope s_law_bounds) .none kV_law_bounds dc_law_bounds pm_law_bounds an_law_bounds cd_law_bounds ct_law_bounds), sl_law_bounds⟩) (c_law_bounds : PySem.W.codeIn K cd_law_bounds "_law_bounds" = true) (k_law_bounds : PySem.W.keepIn K (.ref f_law_bounds) = true) (a_law_alike : PySem.W.nsIn K mainGlobals "_law_alike" = some (some (.ref f_law_alike))) (l_law_alike : K.lookup f_law_alike = some ⟨oc_law_alike, od_law_alike, .func (PySem.W.fnOf "_law_alike" "_law_alike" (defArgs s_law_alike) (defBody s_law_alike) (defScope s_law_alike) .none kV_law_alike dc_law_alike pm_law_alike an_law_alike cd_law_alike ct_law_alike), sl_law_alike⟩) (c_law_alike : PySem.W.codeIn K cd_law_alike "_law_alike" = true) (k_law_alike : PySem.W.keepIn K (.ref f_law_alike) = true) (a_law_price : PySem.W.nsIn K mainGlobals "_law_price" = some (some (.ref f_law_price))) (l_law_price : K.lookup f_law_price = some ⟨oc_law_price, od_law_price, .func (PySem.W.fnOf "_law_price" "_law_price" (defArgs s_law_price) (defBody s_law_price) (defScope s_law_price) .none kV_law_price dc_law_price pm_law_price an_law_price cd_law_price ct_law_price), sl_law_price⟩) (c_law_price : PySem.W.codeIn K cd_law_price "_law_price" = true) (k_law_price : PySem.W.keepIn K (.ref f_law_price) = true) (a_law_motion : PySem.W.nsIn K mainGlobals "_law_motion" = some (some (.ref f_law_motion))) (l_law_motion : K.lookup f_law_motion = some ⟨oc_law_motion, od_law_motion, .func (PySem.W.fnOf "_law_motion" "_law_motion" (defArgs s_law_motion) (defBody s_law_motion) (defScope s_law_motion) .none kV_law_motion dc_law_motion pm_law_motion an_law_motion cd_law_motion ct_law_motion), sl_law_motion⟩) (c_law_motion : PySem.W.codeIn K cd_law_motion "_law_motion" = true) (k_law_motion : PySem.W.keepIn K (.ref f_law_motion) = true) (a_law : PySem.W.nsIn K mainGlobals "law" = some (some (.ref f_law))) (l_law : K.lookup f_law = some ⟨oc_law, od_law, .func (PySem.W.fnOf "law" "law" (defArgs s_law) (defBody s_law) (defScope s_law) .none kV_law dc_law pm_law an_law cd_law ct_law), sl_law⟩) (c_law : PySem.W.codeIn K cd_law "law" = true) (k_law : PySem.W.keepIn K (.ref f_law) = true) (a_MOST_PINS : PySem.W.nsIn K mainGlobals "MOST_PINS" = some (some (.int 24 tk_MOST_PINS))) (a_MOST_BARS : PySem.W.nsIn K mainGlobals "MOST_BARS" = some (some (.int 60 tk_MOST_BARS))) (a_NOUGHT : PySem.W.nsIn K mainGlobals "NOUGHT" = some (some (.ref c_NOUGHT))) (t_NOUGHT : K.lookup c_NOUGHT = some ⟨.type "tuple", cd_NOUGHT, .seq #[.int 0 ck0_NOUGHT, .int 1 ck1_NOUGHT] cn_NOUGHT, cs_NOUGHT⟩) (a_NO_MOVE : PySem.W.nsIn K mainGlobals "NO_MOVE" = some (some (.ref c_NO_MOVE))) (t_NO_MOVE : K.lookup c_NO_MOVE = some ⟨.type "tuple", cd_NO_MOVE, .seq #[.ref c_NO_MOVE_0, .ref c_NO_MOVE_1] cn_NO_MOVE, cs_NO_MOVE⟩) (t_NO_MOVE_0 : K.lookup c_NO_MOVE_0 = some ⟨.type "tuple", cd_NO_MOVE_0, .seq #[.int 0 ck0_NO_MOVE_0, .int 1 ck1_NO_MOVE_0] cn_NO_MOVE_0, cs_NO_MOVE_0⟩) (t_NO_MOVE_1 : K.lookup c_NO_MOVE_1 = some ⟨.type "tuple", cd_NO_MOVE_1, .seq #[.int 0 ck0_NO_MOVE_1, .int 1 ck1_NO_MOVE_1] cn_NO_MOVE_1, cs_NO_MOVE_1⟩) (z_ValueError : PySem.W.nsIn K mainGlobals "ValueError" = some none) (z_abs : PySem.W.nsIn K mainGlobals "abs" = some none) (z_bool : PySem.W.nsIn K mainGlobals "bool" = some none) (z_dict : PySem.W.nsIn K mainGlobals "dict" = some none) (z_int : PySem.W.nsIn K mainGlobals "int" = some none) (z_isinstance : PySem.W.nsIn K mainGlobals "isinstance" = some none) (z_len : PySem.W.nsIn K mainGlobals "len" = some none) (z_list : PySem.W.nsIn K mainGlobals "list" = some none) (z_min : PySem.W.nsIn K mainGlobals "min" = some none) (z_range : PySem.W.nsIn K mainGlobals "range" = some none) (z_str : PySem.W.nsIn K mainGlobals "str" = some none) (z_tuple : PySem.W.nsIn K mainGlobals "tuple" = some none) (z_zip : PySem.W.nsIn K mainGlobals "zip" = some none) (a_YardError : PySem.W.nsIn K mainGlobals "YardError" = some (some (.ref C_YardError))) (a_NoWay : PySem.W.nsIn K mainGlobals "NoWay" = some (some (.ref C_NoWay))) (a_PinThere : PySem.W.nsIn K mainGlobals "PinThere" = some (some (.ref C_PinThere))) (a_SpotTaken : PySem.W.nsIn K mainGlobals "SpotTaken" = some (some (.ref C_SpotTaken))) (a_NoPin : PySem.W.nsIn K mainGlobals "NoPin" = some (some (.ref C_NoPin))) (a_BarThere : PySem.W.nsIn K mainGlobals "BarThere" = some (some (.ref C_BarThere))) (a_NoBar : PySem.W.nsIn K mainGlobals "NoBar" = some (some (.ref C_NoBar))) (a_NoLength : PySem.W.nsIn K mainGlobals "NoLength" = some (some (.ref C_NoLength))) (a_TooMany : PySem.W.nsIn K mainGlobals "TooMany" = some (some (.ref C_TooMany))) (a_NoBound : PySem.W.nsIn K mainGlobals "NoBound" = some (some (.ref C_NoBound))) (a_Frame : PySem.W.nsIn K mainGlobals "Frame" = some (some (.ref C_Frame))) (a_Hold : PySem.W.nsIn K mainGlobals "Hold" = some (some (.ref C_Hold))) (a_Roller : PySem.W.nsIn K mainGlobals "Roller" = some (some (.ref C_Roller))) (a_Fixed : PySem.W.nsIn K mainGlobals "Fixed" = some (some (.ref C_Fixed))) (pg_Frame : PySem.W.plainGet K C_Frame Str.empty = true) (hd_Frame : PySem.W.hasDictIn K C_Frame = true) (po_Frame : PySem.W.plainOver K C_Frame = true) (sa_Frame : PySem.W.findIn K (.ref C_Frame) "__setattr__" = some (some (.builtin "object.__setattr__"))) (mk_Frame : PySem.W.makesIn K C_Frame = true) (kc_Frame : PySem.W.keepIn K (.ref C_Frame) = true) (a_Frame_init : PySem.W.findIn K (.ref C_Frame) "__init__" = some (some (.ref f_Frame_init))) (i_Frame_init : PySem.W.isFn K (.ref f_Frame_init) = true) (l_Frame_init : K.lookup f_Frame_init = some ⟨oc_Frame_init, od_Frame_init, .func (PySem.W.fnOf "__init__" "Frame.__init__" (defArgs s_Frame_init) (defBody s_Frame_init) (defScope s_Frame_init) .none kV_Frame_init dc_Frame_init pm_Frame_init an_Frame_init cd_Frame_init ct_Frame_init), sl_Frame_init⟩) (c_Frame_init : PySem.W.codeIn K cd_Frame_init "Frame.__init__" = true) (k_Frame_init : PySem.W.keepIn K (.ref f_Frame_init) = true) (a_Frame_put_pin : PySem.W.findIn K (.ref C_Frame) "put_pin" = some (some (.ref f_Frame_put_pin))) (i_Frame_put_pin : PySem.W.isFn K (.ref f_Frame_put_pin) = true) (l_Frame_put_pin : K.lookup f_Frame_put_pin = some ⟨oc_Frame_put_pin, od_Frame_put_pin, .func (PySem.W.fnOf "put_pin" "Frame.put_pin" (defArgs s_Frame_put_pin) (defBody s_Frame_put_pin) (defScope s_Frame_put_pin) (.ref td_Frame_put_pin) kV_Frame_put_pin dc_Frame_put_pin pm_Frame_put_pin an_Frame_put_pin cd_Frame_put_pin ct_Frame_put_pin), sl_Frame_put_pin⟩) (t_Frame_put_pin : K.lookup td_Frame_put_pin = some ⟨tc_Frame_put_pin, tdd_Frame_put_pin, .seq #[.none] tn_Frame_put_pin, tsl_Frame_put_pin⟩) (c_Frame_put_pin : PySem.W.codeIn K cd_Frame_put_pin "Frame.put_pin" = true) (k_Frame_put_pin : PySem.W.keepIn K (.ref f_Frame_put_pin) = true) (a_Frame_put_bar : PySem.W.findIn K (.ref C_Frame) "put_bar" = some (some (.ref f_Frame_put_bar))) (i_Frame_put_bar : PySem.W.isFn K (.ref f_Frame_put_bar) = true) (l_Frame_put_bar : K.lookup f_Frame_put_bar = some ⟨oc_Frame_put_bar, od_Frame_put_bar, .func (PySem.W.fnOf "put_bar" "Frame.put_bar" (defArgs s_Frame_put_bar) (defBody s_Frame_put_bar) (defScope s_Frame_put_bar) .none kV_Frame_put_bar dc_Frame_put_bar pm_Frame_put_bar an_Frame_put_bar cd_Frame_put_bar ct_Frame_put_bar), sl_Frame_put_bar⟩) (c_Frame_put_bar : PySem.W.codeIn K cd_Frame_put_bar "Frame.put_bar" = true) (k_Frame_put_bar : PySem.W.keepIn K (.ref f_Frame_put_bar) = true) (a_Frame_check_bar : PySem.W.findIn K (.ref C_Frame) "check_bar" = some (some (.ref f_Frame_check_bar))) (i_Frame_check_bar : PySem.W.isFn K (.ref f_Frame_check_bar) = true) (l_Frame_check_bar : K.lookup f_Frame_check_bar = some ⟨oc_Frame_check_bar, od_Frame_check_bar, .func (PySem.W.fnOf "check_bar" "Frame.check_bar" (defArgs s_Frame_check_bar) (defBody s_Frame_check_bar) (defScope s_Frame_check_bar) .none kV_Frame_check_bar dc_Frame_check_bar pm_Frame_check_bar an_Frame_check_bar cd_Frame_check_bar ct_Frame_check_bar), sl_Frame_check_bar⟩) (c_Frame_check_bar : PySem.W.codeIn K cd_Frame_check_bar "Frame.check_bar" = true) (k_Frame_check_bar : PySem.W.keepIn K (.ref f_Frame_check_bar) = true) (a_Frame_check_pin : PySem.W.findIn K (.ref C_Frame) "check_pin" = some (some (.ref f_Frame_check_pin))) (i_Frame_check_pin : PySem.W.isFn K (.ref f_Frame_check_pin) = true) (l_Frame_check_pin : K.lookup f_Frame_check_pin = some ⟨oc_Frame_check_pin, od_Frame_check_pin, .func (PySem.W.fnOf "check_pin" "Frame.check_pin" (defArgs s_Frame_check_pin) (defBody s_Frame_check_pin) (defScope s_Frame_check_pin) .none kV_Frame_check_pin dc_Frame_check_pin pm_Frame_check_pin an_Frame_check_pin cd_Frame_check_pin ct_Frame_check_pin), sl_Frame_check_pin⟩) (c_Frame_check_pin : PySem.W.codeIn K cd_Frame_check_pin "Frame.check_pin" = true) (k_Frame_check_pin : PySem.W.keepIn K (.ref f_Frame_check_pin) = true) (a_Frame_pins : PySem.W.findIn K (.ref C_Frame) "pins" = some (some (.ref f_Frame_pins))) (i_Frame_pins : PySem.W.isFn K (.ref f_Frame_pins) = true) (l_Frame_pins : K.lookup f_Frame_pins = some ⟨oc_Frame_pins, od_Frame_pins, .func (PySem.W.fnOf "pins" "Frame.pins" (defArgs s_Frame_pins) (defBody s_Frame_pins) (defScope s_Frame_pins) .none kV_Frame_pins dc_Frame_pins pm_Frame_pins an_Frame_pins cd_Frame_pins ct_Frame_pins), sl_Frame_pins⟩) (c_Frame_pins : PySem.W.codeIn K cd_Frame_pins "Frame.pins" = true) (k_Frame_pins : PySem.W.keepIn K (.ref f_Frame_pins) = true) (a_Frame_bars : PySem.W.findIn K (.ref C_Frame) "bars" = some (some (.ref f_Frame_bars))) (i_Frame_bars : PySem.W.isFn K (.ref f_Frame_bars) = true) (l_Frame_bars : K.lookup f_Frame_bars = some ⟨oc_Frame_bars, od_Frame_bars, .func (PySem.W.fnOf "bars" "Frame.bars" (defArgs s_Frame_bars) (defBody s_Frame_bars) (defScope s_Frame_bars) .none kV_Frame_bars dc_Frame_bars pm_Frame_bars an_Frame_bars cd_Frame_bars ct_Frame_bars), sl_Frame_bars⟩) (c_Frame_bars : PySem.W.codeIn K cd_Frame_bars "Frame.bars" = true) (k_Frame_bars : PySem.W.keepIn K (.ref f_Frame_bars) = true) (a_Frame_place : PySem.W.findIn K (.ref C_Frame) "place" = some (some (.ref f_Frame_place))) (i_Frame_place : PySem.W.isFn K (.ref f_Frame_place) = true) (l_Frame_place : K.lookup f_Frame_place = some ⟨oc_Frame_place, od_Frame_place, .func (PySem.W.fnOf "place" "Frame.place" (defArgs s_Frame_place) (defBody s_Frame_place) (defScope s_Frame_place) .none kV_Frame_place dc_Frame_place pm_Frame_place an_Frame_place cd_Frame_place ct_Frame_place), sl_Frame_place⟩) (c_Frame_place : PySem.W.codeIn K cd_Frame_place "Frame.place" = true) (k_Frame_place : PySem.W.keepIn K (.ref f_Frame_place) = true) (a_Frame_ways : PySem.W.findIn K (.ref C_Frame) "ways" = some (some (.ref f_Frame_ways))) (i_Frame_ways : PySem.W.isFn K (.ref f_Frame_ways) = true) (l_Frame_ways : K.lookup f_Frame_ways = some ⟨oc_Frame_ways, od_Frame_ways, .func (PySem.W.fnOf "ways" "Frame.ways" (defArgs s_Frame_ways) (defBody s_Frame_ways) (defScope s_Frame_ways) .none kV_Frame_ways dc_Frame_ways pm_Frame_ways an_Frame_ways cd_Frame_ways ct_Frame_ways), sl_Frame_ways⟩) (c_Frame_ways : PySem.W.codeIn K cd_Frame_ways "Frame.ways" = true) (k_Frame_ways : PySem.W.keepIn K (.ref f_Frame_ways) = true) (a_Frame_ends : PySem.W.findIn K (.ref C_Frame) "ends" = some (some (.ref f_Frame_ends))) (i_Frame_ends : PySem.W.isFn K (.ref f_Frame_ends) = true) (l_Frame_ends : K.lookup f_Frame_ends = some ⟨oc_Frame_ends, od_Frame_ends, .func (PySem.W.fnOf "ends" "Frame.ends" (defArgs s_Frame_ends) (defBody s_Frame_ends) (defScope s_Frame_ends) .none kV_Frame_ends dc_Frame_ends pm_Frame_ends an_Frame_ends cd_Frame_ends ct_Frame_ends), sl_Frame_ends⟩) (c_Frame_ends : PySem.W.codeIn K cd_Frame_ends "Frame.ends" = true) (k_Frame_ends : PySem.W.keepIn K (.ref f_Frame_ends) = true) (pg_Hold : PySem.W.plainGet K C_Hold Str.empty = true) (hd_Hold : PySem.W.hasDictIn K C_Hold = true) (po_Hold : PySem.W.plainOver K C_Hold = true) (sa_Hold : PySem.W.findIn K (.ref C_Hold) "__setattr__" = some (some (.builtin "object.__setattr__"))) (mk_Hold : PySem.W.makesIn K C_Hold = true) (kc_Hold : PySem.W.keepIn K (.ref C_Hold) = true) (oi_Hold : PySem.W.findIn K (.ref C_Hold) "__init__" = some (some (.builtin "object.__init__"))) (a_Hold_ways : PySem.W.findIn K (.ref C_Hold) "ways" = some (some (.ref f_Hold_ways))) (i_Hold_ways : PySem.W.isFn K (.ref f_Hold_ways) = true) (l_Hold_ways : K.lookup f_Hold_ways = some ⟨oc_Hold_ways, od_Hold_ways, .func (PySem.W.fnOf "ways" "Hold.ways" (defArgs s_Hold_ways) (defBody s_Hold_ways) (defScope s_Hold_ways) .none kV_Hold_ways dc_Hold_ways pm_Hold_ways an_Hold_ways cd_Hold_ways ct_Hold_ways), sl_Hold_ways⟩) (c_Hold_ways : PySem.W.codeIn K cd_Hold_ways "Hold.ways" = true) (k_Hold_ways : PySem.W.keepIn K (.ref f_Hold_ways) = true) (pg_Roller : PySem.W.plainGet K C_Roller Str.empty = true) (hd_Roller : PySem.W.hasDictIn K C_Roller = true) (po_Roller : PySem.W.plainOver K C_Roller = true) (sa_Roller : PySem.W.findIn K (.ref C_Roller) "__setattr__" = some (some (.builtin "object.__setattr__"))) (mk_Roller : PySem.W.makesIn K C_Roller = true) (kc_Roller : PySem.W.keepIn K (.ref C_Roller) = true) (a_Roller_init : PySem.W.findIn K (.ref C_Roller) "__init__" = some (some (.ref f_Roller_init))) (i_Roller_init : PySem.W.isFn K (.ref f_Roller_init) = true) (l_Roller_init : K.lookup f_Roller_init = some ⟨oc_Roller_init, od_Roller_init, .func (PySem.W.fnOf "__init__" "Roller.__init__" (defArgs s_Roller_init) (defBody s_Roller_init) (defScope s_Roller_init) .none kV_Roller_init dc_Roller_init pm_Roller_init an_Roller_init cd_Roller_init ct_Roller_init), sl_Roller_init⟩) (c_Roller_init : PySem.W.codeIn K cd_Roller_init "Roller.__init__" = true) (k_Roller_init : PySem.W.keepIn K (.ref f_Roller_init) = true) (a_Roller_ways : PySem.W.findIn K (.ref C_Roller) "ways" = some (some (.ref f_Roller_ways))) (i_Roller_ways : PySem.W.isFn K (.ref f_Roller_ways) = true) (l_Roller_ways : K.lookup f_Roller_ways = some ⟨oc_Roller_ways, od_Roller_ways, .func (PySem.W.fnOf "ways" "Roller.ways" (defArgs s_Roller_ways) (defBody s_Roller_ways) (defScope s_Roller_ways) .none kV_Roller_ways dc_Roller_ways pm_Roller_ways an_Roller_ways cd_Roller_ways ct_Roller_ways), sl_Roller_ways⟩) (c_Roller_ways : PySem.W.codeIn K cd_Roller_ways "Roller.ways" = true) (k_Roller_ways : PySem.W.keepIn K (.ref f_Roller_ways) = true) (pg_Fixed : PySem.W.plainGet K C_Fixed Str.empty = true) (hd_Fixed : PySem.W.hasDictIn K C_Fixed = true) (po_Fixed : PySem.W.plainOver K C_Fixed = true) (sa_Fixed : PySem.W.findIn K (.ref C_Fixed) "__setattr__" = some (some (.builtin "object.__setattr__"))) (mk_Fixed : PySem.W.makesIn K C_Fixed = true) (kc_Fixed : PySem.W.keepIn K (.ref C_Fixed) = true) (oi_Fixed : PySem.W.findIn K (.ref C_Fixed) "__init__" = some (some (.builtin "object.__init__"))) (a_Fixed_ways : PySem.W.findIn K (.ref C_Fixed) "ways" = some (some (.ref f_Fixed_ways))) (i_Fixed_ways : PySem.W.isFn K (.ref f_Fixed_ways) = true) (l_Fixed_ways : K.lookup f_Fixed_ways = some ⟨oc_Fixed_ways, od_Fixed_ways, .func (PySem.W.fnOf "ways" "Fixed.ways" (defArgs s_Fixed_ways) (defBody s_Fixed_ways) (defScope s_Fixed_ways) .none kV_Fixed_ways dc_Fixed_ways pm_Fixed_ways an_Fixed_ways cd_Fixed_ways ct_Fixed_ways), sl_Fixed_ways⟩) (c_Fixed_ways : PySem.W.codeIn K cd_Fixed_ways "Fixed.ways" = true) (k_Fixed_ways : PySem.W.keepIn K (.ref f_Fixed_ways) = true) (n_places : PySem.W.findIn K (.ref C_Frame) "pin_places" = some none) (n_ways : PySem.W.findIn K (.ref C_Frame) "pin_ways" = some none) (n_ends : PySem.W.findIn K (.ref C_Frame) "bar_ends" = some none) (n_way : PySem.W.findIn K (.ref C_Roller) "way" = some none) (ht : l.prog.given.tree = none) :
    ∃ fd : FuncData, (∀ (s : Shared) (v : Value), BindsTo s fd ⟨[v], []⟩ [("_law_script", v)]) ∧ ∀ base : Heap, K.In base → base.Ns mainGlobals mg → FnOk l.prog w K mg base (CXr l.prog w) 42 fa fd ["_law_script"] (spLaw K) := by
  have e := hfa.symm.trans (PySem.W.mg_of X G a_law)
  cases e
  have D_sum_of : Def K mg "sum_of" s_sum_of ["one", "other"] := Def.of (fun_mk (st := s_sum_of) l_sum_of c_sum_of k_sum_of) ((fun_mk (st := s_sum_of) l_sum_of c_sum_of k_sum_of).binds (ps := ["one", "other"]) (fun _ _ _ _ _ _ us hl => match us, hl with | [_, _], _ => rfl)) (PySem.W.mg_of X G a_sum_of)
  have D_difference_of : Def K mg "difference_of" s_difference_of ["one", "other"] := Def.of (fun_mk (st := s_difference_of) l_difference_of c_difference_of k_difference_of) ((fun_mk (st := s_difference_of) l_difference_of c_difference_of k_difference_of).binds (ps := ["one", "other"]) (fun _ _ _ _ _ _ us hl => match us, hl with | [_, _], _ => rfl)) (PySem.W.mg_of X G a_difference_of)
  have D_product_of : Def K mg "product_of" s_product_of ["one", "other"] := Def.of (fun_mk (st := s_product_of) l_product_of c_product_of k_product_of) ((fun_mk (st := s_product_of) l_product_of c_product_of k_product_of).binds (ps := ["one", "other"]) (fun _ _ _ _ _ _ us hl => match us, hl with | [_, _], _ => rfl)) (PySem.W.mg_of X G a_product_of)
  have D_lowest_terms : Def K mg "lowest_terms" s_lowest_terms ["top", "bottom"] := Def.of (fun_mk (st := s_lowest_terms) l_lowest_terms c_lowest_terms k_lowest_terms) ((fun_mk (st := s_lowest_terms) l_lowest_terms c_lowest_terms k_lowest_terms).binds (ps := ["top", "bottom"]) (fun _ _ _ _ _ _ us hl => match us, hl with | [_, _], _ => rfl)) (PySem.W.mg_of X G a_lowest_terms)
  have D_greatest_shared : Def K mg "greatest_shared" s_greatest_shared ["one", "other"] := Def.of (fun_mk (st := s_greatest_shared) l_greatest_shared c_greatest_shared k_greatest_shared) ((fun_mk (st := s_greatest_shared) l_greatest_shared c_greatest_shared k_greatest_shared).binds (ps := ["one", "other"]) (fun _ _ _ _ _ _ us hl => match us, hl with | [_, _], _ => rfl)) (PySem.W.mg_of X G a_greatest_shared)
  have D_lengthenings : Def K mg "lengthenings" s_lengthenings ["F", "motion"] := Def.of (fun_mk (st := s_lengthenings) l_lengthenings c_lengthenings k_lengthenings) ((fun_mk (st := s_lengthenings) l_lengthenings c_lengthenings k_lengthenings).binds (ps := ["F", "motion"]) (fun _ _ _ _ _ _ us hl => match us, hl with | [_, _], _ => rfl)) (PySem.W.mg_of X G a_lengthenings)
  have D_arm_between : Def K mg "arm_between" s_arm_between ["F", "one", "other"] := Def.of (fun_mk (st := s_arm_between) l_arm_between c_arm_between k_arm_between) ((fun_mk (st := s_arm_between) l_arm_between c_arm_between k_arm_between).binds (ps := ["F", "one", "other"]) (fun _ _ _ _ _ _ us hl => match us, hl with | [_, _, _], _ => rfl)) (PySem.W.mg_of X G a_arm_between)
  have D_pair_difference : Def K mg "pair_difference" s_pair_difference ["one", "other"] := Def.of (fun_mk (st := s_pair_difference) l_pair_difference c_pair_difference k_pair_difference) ((fun_mk (st := s_pair_difference) l_pair_difference c_pair_difference k_pair_difference).binds (ps := ["one", "other"]) (fun _ _ _ _ _ _ us hl => match us, hl with | [_, _], _ => rfl)) (PySem.W.mg_of X G a_pair_difference)
  have D_pair_product : Def K mg "pair_product" s_pair_product ["one", "other"] := Def.of (fun_mk (st := s_pair_product) l_pair_product c_pair_product k_pair_product) ((fun_mk (st := s_pair_product) l_pair_product c_pair_product k_pair_product).binds (ps := ["one", "other"]) (fun _ _ _ _ _ _ us hl => match us, hl with | [_, _], _ => rfl)) (PySem.W.mg_of X G a_pair_product)
  have D_check_bars : Def K mg "check_bars" s_check_bars ["F", "told"] := Def.of (fun_mk (st := s_check_bars) l_check_bars c_check_bars k_check_bars) ((fun_mk (st := s_check_bars) l_check_bars c_check_bars k_check_bars).binds (ps := ["F", "told"]) (fun _ _ _ _ _ _ us hl => match us, hl with | [_, _], _ => rfl)) (PySem.W.mg_of X G a_check_bars)
  have D_price_of : Def K mg "price_of" s_price_of ["F", "bounds", "motion"] := Def.of (fun_mk (st := s_price_of) l_price_of c_price_of k_price_of) ((fun_mk (st := s_price_of) l_price_of c_price_of k_price_of).binds (ps := ["F", "bounds", "motion"]) (fun _ _ _ _ _ _ us hl => match us, hl with | [_, _, _], _ => rfl)) (PySem.W.mg_of X G a_price_of)
  have D_all_bounds : Def K mg "all_bounds" s_all_bounds ["F", "bounds"] := Def.of (fun_mk (st := s_all_bounds) l_all_bounds c_all_bounds k_all_bounds) ((fun_mk (st := s_all_bounds) l_all_bounds c_all_bounds k_all_bounds).binds (ps := ["F", "bounds"]) (fun _ _ _ _ _ _ us hl => match us, hl with | [_, _], _ => rfl)) (PySem.W.mg_of X G a_all_bounds)
  have D_has_nought : Def K mg "has_nought" s_has_nought ["two"] := Def.of (fun_mk (st := s_has_nought) l_has_nought c_has_nought k_has_nought) ((fun_mk (st := s_has_nought) l_has_nought c_has_nought k_has_nought).binds (ps := ["two"]) (fun _ _ _ _ _ _ us hl => match us, hl with | [_], _ => rfl)) (PySem.W.mg_of X G a_has_nought)
  have D_law_cell_at : Def K mg "_law_cell_at" s_law_cell_at ["_law_script", "_law_k"] := Def.of (fun_mk (st := s_law_cell_at) l_law_cell_at c_law_cell_at k_law_cell_at) ((fun_mk (st := s_law_cell_at) l_law_cell_at c_law_cell_at k_law_cell_at).binds (ps := ["_law_script", "_law_k"]) (fun _ _ _ _ _ _ us hl => match us, hl with | [_, _], _ => rfl)) (PySem.W.mg_of X G a_law_cell_at)
  have D_law_field : Def K mg "_law_field" s_law_field ["_law_cell", "_law_prime", "_law_many"] := Def.of (fun_mk (st := s_law_field) l_law_field c_law_field k_law_field) ((fun_mk (st := s_law_field) l_law_field c_law_field k_law_field).binds (ps := ["_law_cell", "_law_prime", "_law_many"]) (fun _ _ _ _ _ _ us hl => match us, hl with | [_, _, _], _ => rfl)) (PySem.W.mg_of X G a_law_field)
  have D_law_lowest : Def K mg "_law_lowest" s_law_lowest ["_law_top", "_law_bottom"] := Def.of (fun_mk (st := s_law_lowest) l_law_lowest c_law_lowest k_law_lowest) ((fun_mk (st := s_law_lowest) l_law_lowest c_law_lowest k_law_lowest).binds (ps := ["_law_top", "_law_bottom"]) (fun _ _ _ _ _ _ us hl => match us, hl with | [_, _], _ => rfl)) (PySem.W.mg_of X G a_law_lowest)
  have D_law_sum : Def K mg "_law_sum" s_law_sum ["_law_one", "_law_other"] := Def.of (fun_mk (st := s_law_sum) l_law_sum c_law_sum k_law_sum) ((fun_mk (st := s_law_sum) l_law_sum c_law_sum k_law_sum).binds (ps := ["_law_one", "_law_other"]) (fun _ _ _ _ _ _ us hl => match us, hl with | [_, _], _ => rfl)) (PySem.W.mg_of X G a_law_sum)
  have D_law_times : Def K mg "_law_times" s_law_times ["_law_one", "_law_other"] := Def.of (fun_mk (st := s_law_times) l_law_times c_law_times k_law_times) ((fun_mk (st := s_law_times) l_law_times c_law_times k_law_times).binds (ps := ["_law_one", "_law_other"]) (fun _ _ _ _ _ _ us hl => match us, hl with | [_, _], _ => rfl)) (PySem.W.mg_of X G a_law_times)
  have D_law_turned : Def K mg "_law_turned" s_law_turned ["_law_one"] := Def.of (fun_mk (st := s_law_turned) l_law_turned c_law_turned k_law_turned) ((fun_mk (st := s_law_turned) l_law_turned c_law_turned k_law_turned).binds (ps := ["_law_one"]) (fun _ _ _ _ _ _ us hl => match us, hl with | [_], _ => rfl)) (PySem.W.mg_of X G a_law_turned)
  have D_law_name : Def K mg "_law_name" s_law_name ["_law_cell", "_law_k"] := Def.of (fun_mk (st := s_law_name) l_law_name c_law_name k_law_name) ((fun_mk (st := s_law_name) l_law_name c_law_name k_law_name).binds (ps := ["_law_cell", "_law_k"]) (fun _ _ _ _ _ _ us hl => match us, hl with | [_, _], _ => rfl)) (PySem.W.mg_of X G a_law_name)
  have D_law_spot : Def K mg "_law_spot" s_law_spot ["_law_cell", "_law_kind"] := Def.of (fun_mk (st := s_law_spot) l_law_spot c_law_spot k_law_spot) ((fun_mk (st := s_law_spot) l_law_spot c_law_spot k_law_spot).binds (ps := ["_law_cell", "_law_kind"]) (fun _ _ _ _ _ _ us hl => match us, hl with | [_, _], _ => rfl)) (PySem.W.mg_of X G a_law_spot)
  have D_law_ways : Def K mg "_law_ways" s_law_ways ["_law_cell"] := Def.of (fun_mk (st := s_law_ways) l_law_ways c_law_ways k_law_ways) ((fun_mk (st := s_law_ways) l_law_ways c_law_ways k_law_ways).binds (ps := ["_law_cell"]) (fun _ _ _ _ _ _ us hl => match us, hl with | [_], _ => rfl)) (PySem.W.mg_of X G a_law_ways)
  have D_law_few_pins : Def K mg "_law_few_pins" s_law_few_pins ["_law_script"] := Def.of (fun_mk (st := s_law_few_pins) l_law_few_pins c_law_few_pins k_law_few_pins) ((fun_mk (st := s_law_few_pins) l_law_few_pins c_law_few_pins k_law_few_pins).binds (ps := ["_law_script"]) (fun _ _ _ _ _ _ us hl => match us, hl with | [_], _ => rfl)) (PySem.W.mg_of X G a_law_few_pins)
  have D_law_bars : Def K mg "_law_bars" s_law_bars ["_law_script", "_law_pins"] := Def.of (fun_mk (st := s_law_bars) l_law_bars c_law_bars k_law_bars) ((fun_mk (st := s_law_bars) l_law_bars c_law_bars k_law_bars).binds (ps := ["_law_script", "_law_pins"]) (fun _ _ _ _ _ _ us hl => match us, hl with | [_, _], _ => rfl)) (PySem.W.mg_of X G a_law_bars)
  have D_law_frame : Def K mg "_law_frame" s_law_frame ["_law_pins", "_law_bars_here"] := Def.of (fun_mk (st := s_law_frame) l_law_frame c_law_frame k_law_frame) ((fun_mk (st := s_law_frame) l_law_frame c_law_frame k_law_frame).binds (ps := ["_law_pins", "_law_bars_here"]) (fun _ _ _ _ _ _ us hl => match us, hl with | [_, _], _ => rfl)) (PySem.W.mg_of X G a_law_frame)
  have D_law_arm : Def K mg "_law_arm" s_law_arm ["_law_pins", "_law_bar", "_law_axis"] := Def.of (fun_mk (st := s_law_arm) l_law_arm c_law_arm k_law_arm) ((fun_mk (st := s_law_arm) l_law_arm c_law_arm k_law_arm).binds (ps := ["_law_pins", "_law_bar", "_law_axis"]) (fun _ _ _ _ _ _ us hl => match us, hl with | [_, _, _], _ => rfl)) (PySem.W.mg_of X G a_law_arm)
  have D_law_number : Def K mg "_law_number" s_law_number ["_law_x"] := Def.of (fun_mk (st := s_law_number) l_law_number c_law_number k_law_number) ((fun_mk (st := s_law_number) l_law_number c_law_number k_law_number).binds (ps := ["_law_x"]) (fun _ _ _ _ _ _ us hl => match us, hl with | [_], _ => rfl)) (PySem.W.mg_of X G a_law_number)
  have D_law_dot : Def K mg "_law_dot" s_law_dot ["_law_one", "_law_other"] := Def.of (fun_mk (st := s_law_dot) l_law_dot c_law_dot k_law_dot) ((fun_mk (st := s_law_dot) l_law_dot c_law_dot k_law_dot).binds (ps := ["_law_one", "_law_other"]) (fun _ _ _ _ _ _ us hl => match us, hl with | [_, _], _ => rfl)) (PySem.W.mg_of X G a_law_dot)
  have D_law_longer : Def K mg "_law_longer" s_law_longer ["_law_pins", "_law_bar", "_law_motion_here"] := Def.of (fun_mk (st := s_law_longer) l_law_longer c_law_longer k_law_longer) ((fun_mk (st := s_law_longer) l_law_longer c_law_longer k_law_longer).binds (ps := ["_law_pins", "_law_bar", "_law_motion_here"]) (fun _ _ _ _ _ _ us hl => match us, hl with | [_, _, _], _ => rfl)) (PySem.W.mg_of X G a_law_longer)
  have D_law_bounds : Def K mg "_law_bounds" s_law_bounds ["_law_script", "_law_bars_here"] := Def.of (fun_mk (st := s_law_bounds) l_law_bounds c_law_bounds k_law_bounds) ((fun_mk (st := s_law_bounds) l_law_bounds c_law_bounds k_law_bounds).binds (ps := ["_law_script", "_law_bars_here"]) (fun _ _ _ _ _ _ us hl => match us, hl with | [_, _], _ => rfl)) (PySem.W.mg_of X G a_law_bounds)
  have D_law_alike : Def K mg "_law_alike" s_law_alike ["_law_one", "_law_other"] := Def.of (fun_mk (st := s_law_alike) l_law_alike c_law_alike k_law_alike) ((fun_mk (st := s_law_alike) l_law_alike c_law_alike k_law_alike).binds (ps := ["_law_one", "_law_other"]) (fun _ _ _ _ _ _ us hl => match us, hl with | [_, _], _ => rfl)) (PySem.W.mg_of X G a_law_alike)
  have D_law_price : Def K mg "_law_price" s_law_price ["_law_pins", "_law_bars_here", "_law_bounds_here", "_law_motion_here"] := Def.of (fun_mk (st := s_law_price) l_law_price c_law_price k_law_price) ((fun_mk (st := s_law_price) l_law_price c_law_price k_law_price).binds (ps := ["_law_pins", "_law_bars_here", "_law_bounds_here", "_law_motion_here"]) (fun _ _ _ _ _ _ us hl => match us, hl with | [_, _, _, _], _ => rfl)) (PySem.W.mg_of X G a_law_price)
  have D_law_motion : Def K mg "_law_motion" s_law_motion ["_law_script", "_law_pins"] := Def.of (fun_mk (st := s_law_motion) l_law_motion c_law_motion k_law_motion) ((fun_mk (st := s_law_motion) l_law_motion c_law_motion k_law_motion).binds (ps := ["_law_script", "_law_pins"]) (fun _ _ _ _ _ _ us hl => match us, hl with | [_, _], _ => rfl)) (PySem.W.mg_of X G a_law_motion)
  have cls_Frame : Cls K C_Frame := ⟨pg_Frame, hd_Frame, po_Frame, sa_Frame⟩
  have M_Frame : Mk K C_Frame f_Frame_init := ⟨mk_Frame, a_Frame_init, i_Frame_init, kc_Frame⟩
  have F_Frame_init := fun_mk (st := s_Frame_init) l_Frame_init c_Frame_init k_Frame_init
  have b_Frame_init := F_Frame_init.binds (ps := ["self"]) (fun _ _ _ _ _ _ us hl => match us, hl with | [_], _ => rfl)
  have m_Frame_init : Meth K C_Frame "__init__" f_Frame_init := ⟨a_Frame_init, i_Frame_init, k_Frame_init⟩
  have F_Frame_put_pin := fun_mkD (st := s_Frame_put_pin) l_Frame_put_pin c_Frame_put_pin k_Frame_put_pin
  have b_Frame_put_pin : Binds K (PySem.W.fnOf "put_pin" "Frame.put_pin" (defArgs s_Frame_put_pin) (defBody s_Frame_put_pin) (defScope s_Frame_put_pin) (.ref td_Frame_put_pin) kV_Frame_put_pin dc_Frame_put_pin pm_Frame_put_pin an_Frame_put_pin cd_Frame_put_pin ct_Frame_put_pin) ["self", "name", "x", "y", "hold"] [] := fun s us X hl => match us, hl with | [_, _, _, _, _], _ => BindsTo.of_defaults rfl (X _ _ t_Frame_put_pin) rfl rfl rfl
  have bd_Frame_put_pin : Binds K (PySem.W.fnOf "put_pin" "Frame.put_pin" (defArgs s_Frame_put_pin) (defBody s_Frame_put_pin) (defScope s_Frame_put_pin) (.ref td_Frame_put_pin) kV_Frame_put_pin dc_Frame_put_pin pm_Frame_put_pin an_Frame_put_pin cd_Frame_put_pin ct_Frame_put_pin) ["self", "name", "x", "y", "hold"] [.none] := fun s us X hl => match us, (show us.length = 4 by simpa using hl) with | [_, _, _, _], _ => BindsTo.of_defaults rfl (X _ _ t_Frame_put_pin) rfl rfl rfl
  have m_Frame_put_pin : Meth K C_Frame "put_pin" f_Frame_put_pin := ⟨a_Frame_put_pin, i_Frame_put_pin, k_Frame_put_pin⟩
  have F_Frame_put_bar := fun_mk (st := s_Frame_put_bar) l_Frame_put_bar c_Frame_put_bar k_Frame_put_bar
  have b_Frame_put_bar := F_Frame_put_bar.binds (ps := ["self", "name", "one", "other"]) (fun _ _ _ _ _ _ us hl => match us, hl with | [_, _, _, _], _ => rfl)
  have m_Frame_put_bar : Meth K C_Frame "put_bar" f_Frame_put_bar := ⟨a_Frame_put_bar, i_Frame_put_bar, k_Frame_put_bar⟩
  have F_Frame_check_bar := fun_mk (st := s_Frame_check_bar) l_Frame_check_bar c_Frame_check_bar k_Frame_check_bar
  have b_Frame_check_bar := F_Frame_check_bar.binds (ps := ["self", "name", "one", "other"]) (fun _ _ _ _ _ _ us hl => match us, hl with | [_, _, _, _], _ => rfl)
  have m_Frame_check_bar : Meth K C_Frame "check_bar" f_Frame_check_bar := ⟨a_Frame_check_bar, i_Frame_check_bar, k_Frame_check_bar⟩
  have F_Frame_check_pin := fun_mk (st := s_Frame_check_pin) l_Frame_check_pin c_Frame_check_pin k_Frame_check_pin
  have b_Frame_check_pin := F_Frame_check_pin.binds (ps := ["self", "pin"]) (fun _ _ _ _ _ _ us hl => match us, hl with | [_, _], _ => rfl)
  have m_Frame_check_pin : Meth K C_Frame "check_pin" f_Frame_check_pin := ⟨a_Frame_check_pin, i_Frame_check_pin, k_Frame_check_pin⟩
  have F_Frame_pins := fun_mk (st := s_Frame_pins) l_Frame_pins c_Frame_pins k_Frame_pins
  have b_Frame_pins := F_Frame_pins.binds (ps := ["self"]) (fun _ _ _ _ _ _ us hl => match us, hl with | [_], _ => rfl)
  have m_Frame_pins : Meth K C_Frame "pins" f_Frame_pins := ⟨a_Frame_pins, i_Frame_pins, k_Frame_pins⟩
  have F_Frame_bars := fun_mk (st := s_Frame_bars) l_Frame_bars c_Frame_bars k_Frame_bars
  have b_Frame_bars := F_Frame_bars.binds (ps := ["self"]) (fun _ _ _ _ _ _ us hl => match us, hl with | [_], _ => rfl)
  have m_Frame_bars : Meth K C_Frame "bars" f_Frame_bars := ⟨a_Frame_bars, i_Frame_bars, k_Frame_bars⟩
  have F_Frame_place := fun_mk (st := s_Frame_place) l_Frame_place c_Frame_place k_Frame_place
  have b_Frame_place := F_Frame_place.binds (ps := ["self", "pin"]) (fun _ _ _ _ _ _ us hl => match us, hl with | [_, _], _ => rfl)
  have m_Frame_place : Meth K C_Frame "place" f_Frame_place := ⟨a_Frame_place, i_Frame_place, k_Frame_place⟩
  have F_Frame_ways := fun_mk (st := s_Frame_ways) l_Frame_ways c_Frame_ways k_Frame_ways
  have b_Frame_ways := F_Frame_ways.binds (ps := ["self", "pin"]) (fun _ _ _ _ _ _ us hl => match us, hl with | [_, _], _ => rfl)
  have m_Frame_ways : Meth K C_Frame "ways" f_Frame_ways := ⟨a_Frame_ways, i_Frame_ways, k_Frame_ways⟩
  have F_Frame_ends := fun_mk (st := s_Frame_ends) l_Frame_ends c_Frame_ends k_Frame_ends
  have b_Frame_ends := F_Frame_ends.binds (ps := ["self", "bar"]) (fun _ _ _ _ _ _ us hl => match us, hl with | [_, _], _ => rfl)
  have m_Frame_ends : Meth K C_Frame "ends" f_Frame_ends := ⟨a_Frame_ends, i_Frame_ends, k_Frame_ends⟩
  have cls_Hold : Cls K C_Hold := ⟨pg_Hold, hd_Hold, po_Hold, sa_Hold⟩
  have M_Hold : Mk0 K C_Hold := ⟨mk_Hold, oi_Hold, kc_Hold⟩
  have F_Hold_ways := fun_mk (st := s_Hold_ways) l_Hold_ways c_Hold_ways k_Hold_ways
  have b_Hold_ways := F_Hold_ways.binds (ps := ["self"]) (fun _ _ _ _ _ _ us hl => match us, hl with | [_], _ => rfl)
  have m_Hold_ways : Meth K C_Hold "ways" f_Hold_ways := ⟨a_Hold_ways, i_Hold_ways, k_Hold_ways⟩
  have cls_Roller : Cls K C_Roller := ⟨pg_Roller, hd_Roller, po_Roller, sa_Roller⟩
  have M_Roller : Mk K C_Roller f_Roller_init := ⟨mk_Roller, a_Roller_init, i_Roller_init, kc_Roller⟩
  have F_Roller_init := fun_mk (st := s_Roller_init) l_Roller_init c_Roller_init k_Roller_init
  have b_Roller_init := F_Roller_init.binds (ps := ["self", "x", "y"]) (fun _ _ _ _ _ _ us hl => match us, hl with | [_, _, _], _ => rfl)
  have m_Roller_init : Meth K C_Roller "__init__" f_Roller_init := ⟨a_Roller_init, i_Roller_init, k_Roller_init⟩
  have F_Roller_ways := fun_mk (st := s_Roller_ways) l_Roller_ways c_Roller_ways k_Roller_ways
  have b_Roller_ways := F_Roller_ways.binds (ps := ["self"]) (fun _ _ _ _ _ _ us hl => match us, hl with | [_], _ => rfl)
  have m_Roller_ways : Meth K C_Roller "ways" f_Roller_ways := ⟨a_Roller_ways, i_Roller_ways, k_Roller_ways⟩
  have cls_Fixed : Cls K C_Fixed := ⟨pg_Fixed, hd_Fixed, po_Fixed, sa_Fixed⟩
  have M_Fixed : Mk0 K C_Fixed := ⟨mk_Fixed, oi_Fixed, kc_Fixed⟩
  have F_Fixed_ways := fun_mk (st := s_Fixed_ways) l_Fixed_ways c_Fixed_ways k_Fixed_ways
  have b_Fixed_ways := F_Fixed_ways.binds (ps := ["self"]) (fun _ _ _ _ _ _ us hl => match us, hl with | [_], _ => rfl)
  have m_Fixed_ways : Meth K C_Fixed "ways" f_Fixed_ways := ⟨a_Fixed_ways, i_Fixed_ways, k_Fixed_ways⟩
  have m_MOST_PINS := PySem.W.mg_of X G a_MOST_PINS
  have m_MOST_BARS := PySem.W.mg_of X G a_MOST_BARS
  have m_NOUGHT : mg "NOUGHT" = some (.ref c_NOUGHT) := PySem.W.mg_of X G a_NOUGHT
  have m_NO_MOVE : mg "NO_MOVE" = some (.ref c_NO_MOVE) := PySem.W.mg_of X G a_NO_MOVE
  have m_YardError : mg "YardError" = some (.ref C_YardError) := PySem.W.mg_of X G a_YardError
  have m_NoWay : mg "NoWay" = some (.ref C_NoWay) := PySem.W.mg_of X G a_NoWay
  have m_PinThere : mg "PinThere" = some (.ref C_PinThere) := PySem.W.mg_of X G a_PinThere
  have m_SpotTaken : mg "SpotTaken" = some (.ref C_SpotTaken) := PySem.W.mg_of X G a_SpotTaken
  have m_NoPin : mg "NoPin" = some (.ref C_NoPin) := PySem.W.mg_of X G a_NoPin
  have m_BarThere : mg "BarThere" = some (.ref C_BarThere) := PySem.W.mg_of X G a_BarThere
  have m_NoBar : mg "NoBar" = some (.ref C_NoBar) := PySem.W.mg_of X G a_NoBar
  have m_NoLength : mg "NoLength" = some (.ref C_NoLength) := PySem.W.mg_of X G a_NoLength
  have m_TooMany : mg "TooMany" = some (.ref C_TooMany) := PySem.W.mg_of X G a_TooMany
  have m_NoBound : mg "NoBound" = some (.ref C_NoBound) := PySem.W.mg_of X G a_NoBound
  have m_Frame : mg "Frame" = some (.ref C_Frame) := PySem.W.mg_of X G a_Frame
  have m_Hold : mg "Hold" = some (.ref C_Hold) := PySem.W.mg_of X G a_Hold
  have m_Roller : mg "Roller" = some (.ref C_Roller) := PySem.W.mg_of X G a_Roller
  have m_Fixed : mg "Fixed" = some (.ref C_Fixed) := PySem.W.mg_of X G a_Fixed
  have m_ValueError : mg "ValueError" = none := PySem.W.mg_none_of X G z_ValueError
  have m_abs : mg "abs" = none := PySem.W.mg_none_of X G z_abs
  have m_bool : mg "bool" = none := PySem.W.mg_none_of X G z_bool
  have m_dict : mg "dict" = none := PySem.W.mg_none_of X G z_dict
  have m_int : mg "int" = none := PySem.W.mg_none_of X G z_int
  have m_isinstance : mg "isinstance" = none := PySem.W.mg_none_of X G z_isinstance
  have m_len : mg "len" = none := PySem.W.mg_none_of X G z_len
  have m_list : mg "list" = none := PySem.W.mg_none_of X G z_list
  have m_min : mg "min" = none := PySem.W.mg_none_of X G z_min
  have m_range : mg "range" = none := PySem.W.mg_none_of X G z_range
  have m_str : mg "str" = none := PySem.W.mg_none_of X G z_str
  have m_tuple : mg "tuple" = none := PySem.W.mg_none_of X G z_tuple
  have m_zip : mg "zip" = none := PySem.W.mg_none_of X G z_zip
  have F := fun_mk (st := s_law) l_law c_law k_law
  refine ⟨PySem.W.fnOf "law" "law" (defArgs s_law) (defBody s_law) (defScope s_law) .none kV_law dc_law pm_law an_law cd_law ct_law, fun s v => .of_eq rfl, fun base _ _ => ?_⟩
  have hM : Mute (CXr l.prog w) := CXr.mute
  have nm : ∀ {c : Addr} {o : Option Addr} {k0 k1 : Tok} {n : Nat} {sl : Array (Option Value)}, K.lookup c = some ⟨.type "tuple", o, .seq #[.int 0 k0, .int 1 k1] n, sl⟩ → ∀ H : Hp, NmR K H (.ref c) 0 := fun t H => ⟨_, rfl, by rw [qr_nought]; exact .inr ⟨_, _, _, t, rfl, rfl, (by show 2 ≤ sizeLine; decide), .cons ⟨_, rfl⟩ (.cons ⟨_, rfl⟩ .nil)⟩⟩
  have hN : ∀ H : Hp, NmR K H (.ref c_NOUGHT) 0 := nm t_NOUGHT
  have hMo : ∀ H : Hp, PtR K H (.ref c_NO_MOVE) (0, 0) := fun H => ⟨_, .ref c_NO_MOVE_0, .ref c_NO_MOVE_1, rfl, .inr ⟨_, _, _, t_NO_MOVE, rfl, rfl, (by show 2 ≤ sizeLine; decide), .cons rfl (.cons rfl .nil)⟩, nm t_NO_MOVE_0 H, nm t_NO_MOVE_1 H⟩
  have fc : FrC K C_Frame := ⟨cls_Frame, n_places, n_ways, n_ends⟩
  have G1 := ok_greatest_shared (P := l.prog) (w := w) (base := base) (CX := CXr l.prog w) D_greatest_shared m_abs
  have G2 := ok_lowest_terms ht D_lowest_terms G1
  have GS := fn_add (ok_sum_of hM D_sum_of G2)
  have GD := fn_sub (ok_difference_of hM D_difference_of G2)
  have GP := fn_mul (ok_product_of hM D_product_of G2)
  have GPD := ok_pair_difference hM D_pair_difference GD
  have GPP := ok_pair_product hM D_pair_product GS GP
  have GI := ok_Frame_init (P := l.prog) (w := w) (mg := mg) (base := base) F_Frame_init fc
  have MBs : MtdOk l.prog w K mg base (CXr l.prog w) 1 C_Frame "bars" ["self"] (spBars K C_Frame) := ⟨_, _, cls_Frame, m_Frame_bars, ok_Frame_bars F_Frame_bars fc m_list, b_Frame_bars⟩
  have MCp : MtdOk l.prog w K mg base (CXr l.prog w) 1 C_Frame "check_pin" ["self", "pin"] (spCheckPin K C_Frame) := ⟨_, _, cls_Frame, m_Frame_check_pin, ok_Frame_check_pin F_Frame_check_pin fc, b_Frame_check_pin⟩
  have MCb : MtdOk l.prog w K mg base (CXr l.prog w) 2 C_Frame "check_bar" ["self", "name", "one", "other"] (spCheckBar K C_Frame) := ⟨_, _, cls_Frame, m_Frame_check_bar, ok_Frame_check_bar F_Frame_check_bar fc m_MOST_BARS m_len MCp, b_Frame_check_bar⟩
  have MPb : MtdOk l.prog w K mg base (CXr l.prog w) 3 C_Frame "put_bar" ["self", "name", "one", "other"] (spPutBar K C_Frame) := ⟨_, _, cls_Frame, m_Frame_put_bar, ok_Frame_put_bar F_Frame_put_bar fc MCb, b_Frame_put_bar⟩
  have okP := ok_Frame_put_pin (P := l.prog) (w := w) (mg := mg) (base := base) F_Frame_put_pin fc m_MOST_PINS m_len m_list
  have MPp : MtdOk l.prog w K mg base (CXr l.prog w) 3 C_Frame "put_pin" ["self", "name", "x", "y", "hold"] (spPutPinW l.prog w K mg base C_Frame) := ⟨_, _, cls_Frame, m_Frame_put_pin, okP, b_Frame_put_pin⟩
  have MPd : MtdOkD l.prog w K mg base (CXr l.prog w) 3 C_Frame "put_pin" ["self", "name", "x", "y", "hold"] [.none] (spPutPinW l.prog w K mg base C_Frame) := ⟨_, _, cls_Frame, m_Frame_put_pin, okP, bd_Frame_put_pin⟩
  have MPl : MtdOk l.prog w K mg base (CXr l.prog w) 2 C_Frame "place" ["self", "pin"] (spPlace K C_Frame) := ⟨_, _, cls_Frame, m_Frame_place, ok_Frame_place F_Frame_place fc MCp, b_Frame_place⟩
  have ME : MtdOk l.prog w K mg base (CXr l.prog w) 1 C_Frame "ends" ["self", "bar"] (spEnds K C_Frame) := ⟨_, _, cls_Frame, m_Frame_ends, ok_Frame_ends F_Frame_ends fc, b_Frame_ends⟩
  have wR : MtdOk l.prog w K mg base (CXr l.prog w) 1 C_Roller "ways" ["self"] (spRWays K C_Roller) := ⟨_, _, cls_Roller, m_Roller_ways, ok_Roller_ways F_Roller_ways cls_Roller n_way, b_Roller_ways⟩
  have wF : MtdOk l.prog w K mg base (CXr l.prog w) 1 C_Fixed "ways" ["self"] (spFixed K) := ⟨_, _, cls_Fixed, m_Fixed_ways, ok_Fixed_ways F_Fixed_ways, b_Fixed_ways⟩
  have GRI := ok_Roller_init (P := l.prog) (w := w) (mg := mg) (base := base) F_Roller_init cls_Roller n_way
  have GA := ok_arm_between D_arm_between MPl GPD
  have GL := ok_lengthenings hMo m_NO_MOVE D_lengthenings MBs ME GA GPD GPP
  have GCB := ok_check_bars D_check_bars MBs
  have GHN := ok_has_nought (P := l.prog) (w := w) (base := base) D_has_nought
  have GAB := ok_all_bounds D_all_bounds MBs GCB GHN
  have GPO := ok_price_of hN m_NOUGHT m_zip D_price_of GAB GL GS GP
  have GC := ok_law_cell_at (P := l.prog) (w := w) (base := base) (CX := CXr l.prog w) D_law_cell_at m_len
  have GFi := ok_law_field (P := l.prog) (w := w) (base := base) (CX := CXr l.prog w) D_law_field
  have GLo := ok_law_lowest (w := w) (base := base) ht D_law_lowest m_abs
  have GSu := ok_law_sum (P := l.prog) (w := w) (base := base) D_law_sum
  have GTi := ok_law_times (P := l.prog) (w := w) (base := base) D_law_times
  have GTu := ok_law_turned (P := l.prog) (w := w) (base := base) D_law_turned
  have GNa := ok_law_name hM D_law_name m_str GFi
  have GSp := ok_law_spot D_law_spot GFi GLo
  have GWy := ok_law_ways D_law_ways GFi GLo
  have GPi := ok_law_few_pins D_law_few_pins m_range m_min GC GFi GSp GWy GNa GSu
  have GBa := ok_law_bars D_law_bars m_range m_len GC GFi GNa
  have GFr := ok_law_frame D_law_frame m_len M_Frame m_Frame GI b_Frame_init m_Roller m_Fixed M_Fixed M_Roller GRI b_Roller_init (wR.mono (by decide)) (wF.mono (by decide)) MPb MPp MPd
  have GNu := ok_law_number D_law_number m_len m_isinstance m_int m_bool m_tuple GLo
  have GAr := ok_law_arm D_law_arm GSu GTu
  have GDo := ok_law_dot D_law_dot GSu GTi
  have GLg := ok_law_longer D_law_longer m_range GSu GTu GAr GDo
  have GPr := ok_law_price D_law_price GSu GTi GLg
  have GMo := ok_law_motion D_law_motion m_range m_len m_int GC GFi GLo
  have GBo := ok_law_bounds D_law_bounds m_range m_len m_int GC GFi GLo
  have GAl := ok_law_alike (P := l.prog) (w := w) (base := base) D_law_alike
  exact ok_law F m_dict GPi GBa GFr GBo GMo GPO GNu GPr GAl
end T_k74
open PySem PySem.W PyProof.Rows
set_option maxRecDepth 100000 in
set_option maxHeartbeats 0 in
theorem PySem.Challenge.cw_trussyard_k74_a_price_holds : PySem.Challenge.rw_trussyard_k74_a_price.Holds := by
  w_on; o_law; k_head; (case hw => w_witness2)
  k_fill
  refine Ty.walk (l := PySem.Challenge.rw_trussyard_k74_a_price) (x := "_law_script") (k := 42) (CX := fun w => Ty.CXr (PySem.Challenge.rw_trussyard_k74_a_price).prog w) rfl rfl (by first | rfl | decide +kernel) ⟨rfl, by decide, by decide⟩ (fun w h Y => PySem.W.kIn_of Y) (fun w => Ty.CXr.mute) ?F
  case F =>
    intro w mg fa h KX G hmg
    refine' T_k74.all_mk KX G hmg ?a_sum_of ?l_sum_of ?c_sum_of ?k_sum_of ?a_difference_of ?l_difference_of ?c_difference_of ?k_difference_of ?a_product_of ?l_product_of ?c_product_of ?k_product_of ?a_lowest_terms ?l_lowest_terms ?c_lowest_terms ?k_lowest_terms ?a_greatest_shared ?l_greatest_shared ?c_greatest_shared ?k_greatest_shared ?a_lengthenings ?l_lengthenings ?c_lengthenings ?k_lengthenings ?a_arm_between ?l_arm_between ?c_arm_between ?k_arm_between ?a_pair_difference ?l_pair_difference ?c_pair_difference ?k_pair_difference ?a_pair_product ?l_pair_product ?c_pair_product ?k_pair_product ?a_check_bars ?l_check_bars ?c_check_bars ?k_check_bars ?a_price_of ?l_price_of ?c_price_of ?k_price_of ?a_all_bounds ?l_all_bounds ?c_all_bounds ?k_all_bounds ?a_has_nought ?l_has_nought ?c_has_nought ?k_has_nought ?a_law_cell_at ?l_law_cell_at ?c_law_cell_at ?k_law_cell_at ?a_law_field ?l_law_field ?c_law_field ?k_law_field ?a_law_lowest ?l_law_lowest ?c_law_lowest ?k_law_lowest ?a_law_sum ?l_law_sum ?c_law_sum ?k_law_sum ?a_law_times ?l_law_times ?c_law_times ?k_law_times ?a_law_turned ?l_law_turned ?c_law_turned ?k_law_turned ?a_law_name ?l_law_name ?c_law_name ?k_law_name ?a_law_spot ?l_law_spot ?c_law_spot ?k_law_spot ?a_law_ways ?l_law_ways ?c_law_ways ?k_law_ways ?a_law_few_pins ?l_law_few_pins ?c_law_few_pins ?k_law_few_pins ?a_law_bars ?l_law_bars ?c_law_bars ?k_law_bars ?a_law_frame ?l_law_frame ?c_law_frame ?k_law_frame ?a_law_arm ?l_law_arm ?c_law_arm ?k_law_arm ?a_law_number ?l_law_number ?c_law_number ?k_law_number ?a_law_dot ?l_law_dot ?c_law_dot ?k_law_dot ?a_law_longer ?l_law_longer ?c_law_longer ?k_law_longer ?a_law_bounds ?l_law_bounds ?c_law_bounds ?k_law_bounds ?a_law_alike ?l_law_alike ?c_law_alike ?k_law_alike ?a_law_price ?l_law_price ?c_law_price ?k_law_price ?a_law_motion ?l_law_motion ?c_law_motion ?k_law_motion ?a_law ?l_law ?c_law ?k_law ?a_MOST_PINS ?a_MOST_BARS ?a_NOUGHT ?t_NOUGHT ?a_NO_MOVE ?t_NO_MOVE ?t_NO_MOVE_0 ?t_NO_MOVE_1 ?z_ValueError ?z_abs ?z_bool ?z_dict ?z_int ?z_isinstance ?z_len ?z_list ?z_min ?z_range ?z_str ?z_tuple ?z_zip ?a_YardError ?a_NoWay ?a_PinThere ?a_SpotTaken ?a_NoPin ?a_BarThere ?a_NoBar ?a_NoLength ?a_TooMany ?a_NoBound ?a_Frame ?a_Hold ?a_Roller ?a_Fixed ?pg_Frame ?hd_Frame ?po_Frame ?sa_Frame ?mk_Frame ?kc_Frame ?a_Frame_init ?i_Frame_init ?l_Frame_init ?c_Frame_init ?k_Frame_init ?a_Frame_put_pin ?i_Frame_put_pin ?l_Frame_put_pin ?t_Frame_put_pin ?c_Frame_put_pin ?k_Frame_put_pin ?a_Frame_put_bar ?i_Frame_put_bar ?l_Frame_put_bar ?c_Frame_put_bar ?k_Frame_put_bar ?a_Frame_check_bar ?i_Frame_check_bar ?l_Frame_check_bar ?c_Frame_check_bar ?k_Frame_check_bar ?a_Frame_check_pin ?i_Frame_check_pin ?l_Frame_check_pin ?c_Frame_check_pin ?k_Frame_check_pin ?a_Frame_pins ?i_Frame_pins ?l_Frame_pins ?c_Frame_pins ?k_Frame_pins ?a_Frame_bars ?i_Frame_bars ?l_Frame_bars ?c_Frame_bars ?k_Frame_bars ?a_Frame_place ?i_Frame_place ?l_Frame_place ?c_Frame_place ?k_Frame_place ?a_Frame_ways ?i_Frame_ways ?l_Frame_ways ?c_Frame_ways ?k_Frame_ways ?a_Frame_ends ?i_Frame_ends ?l_Frame_ends ?c_Frame_ends ?k_Frame_ends ?pg_Hold ?hd_Hold ?po_Hold ?sa_Hold ?mk_Hold ?kc_Hold ?oi_Hold ?a_Hold_ways ?i_Hold_ways ?l_Hold_ways ?c_Hold_ways ?k_Hold_ways ?pg_Roller ?hd_Roller ?po_Roller ?sa_Roller ?mk_Roller ?kc_Roller ?a_Roller_init ?i_Roller_init ?l_Roller_init ?c_Roller_init ?k_Roller_init ?a_Roller_ways ?i_Roller_ways ?l_Roller_ways ?c_Roller_ways ?k_Roller_ways ?pg_Fixed ?hd_Fixed ?po_Fixed ?sa_Fixed ?mk_Fixed ?kc_Fixed ?oi_Fixed ?a_Fixed_ways ?i_Fixed_ways ?l_Fixed_ways ?c_Fixed_ways ?k_Fixed_ways ?n_places ?n_ways ?n_ends ?n_way ?ht
    (case a_sum_of => k_is); (case l_sum_of => k_is); (case c_sum_of => k_is); (case k_sum_of => k_is); (case a_difference_of => k_is); (case l_difference_of => k_is); (case c_difference_of => k_is); (case k_difference_of => k_is); (case a_product_of => k_is); (case l_product_of => k_is); (case c_product_of => k_is); (case k_product_of => k_is); (case a_lowest_terms => k_is); (case l_lowest_terms => k_is); (case c_lowest_terms => k_is); (case k_lowest_terms => k_is); (case a_greatest_shared => k_is); (case l_greatest_shared => k_is); (case c_greatest_shared => k_is); (case k_greatest_shared => k_is); (case a_lengthenings => k_is); (case l_lengthenings => k_is); (case c_lengthenings => k_is); (case k_lengthenings => k_is); (case a_arm_between => k_is); (case l_arm_between => k_is); (case c_arm_between => k_is); (case k_arm_between => k_is); (case a_pair_difference => k_is); (case l_pair_difference => k_is); (case c_pair_difference => k_is); (case k_pair_difference => k_is); (case a_pair_product => k_is); (case l_pair_product => k_is); (case c_pair_product => k_is); (case k_pair_product => k_is); (case a_check_bars => k_is); (case l_check_bars => k_is); (case c_check_bars => k_is); (case k_check_bars => k_is); (case a_price_of => k_is); (case l_price_of => k_is); (case c_price_of => k_is); (case k_price_of => k_is); (case a_all_bounds => k_is); (case l_all_bounds => k_is); (case c_all_bounds => k_is); (case k_all_bounds => k_is); (case a_has_nought => k_is); (case l_has_nought => k_is); (case c_has_nought => k_is); (case k_has_nought => k_is); (case a_law_cell_at => k_is); (case l_law_cell_at => k_is); (case c_law_cell_at => k_is); (case k_law_cell_at => k_is); (case a_law_field => k_is); (case l_law_field => k_is); (case c_law_field => k_is); (case k_law_field => k_is); (case a_law_lowest => k_is); (case l_law_lowest => k_is); (case c_law_lowest => k_is); (case k_law_lowest => k_is); (case a_law_sum => k_is); (case l_law_sum => k_is); (case c_law_sum => k_is); (case k_law_sum => k_is); (case a_law_times => k_is); (case l_law_times => k_is); (case c_law_times => k_is); (case k_law_times => k_is); (case a_law_turned => k_is); (case l_law_turned => k_is); (case c_law_turned => k_is); (case k_law_turned => k_is); (case a_law_name => k_is); (case l_law_name => k_is); (case c_law_name => k_is); (case k_law_name => k_is); (case a_law_spot => k_is); (case l_law_spot => k_is); (case c_law_spot => k_is); (case k_law_spot => k_is); (case a_law_ways => k_is); (case l_law_ways => k_is); (case c_law_ways => k_is); (case k_law_ways => k_is); (case a_law_few_pins => k_is); (case l_law_few_pins => k_is); (case c_law_few_pins => k_is); (case k_law_few_pins => k_is); (case a_law_bars => k_is); (case l_law_bars => k_is); (case c_law_bars => k_is); (case k_law_bars => k_is); (case a_law_frame => k_is); (case l_law_frame => k_is); (case c_law_frame => k_is); (case k_law_frame => k_is); (case a_law_arm => k_is); (case l_law_arm => k_is); (case c_law_arm => k_is); (case k_law_arm => k_is); (case a_law_number => k_is); (case l_law_number => k_is); (case c_law_number => k_is); (case k_law_number => k_is); (case a_law_dot => k_is); (case l_law_dot => k_is); (case c_law_dot => k_is); (case k_law_dot => k_is); (case a_law_longer => k_is); (case l_law_longer => k_is); (case c_law_longer => k_is); (case k_law_longer => k_is); (case a_law_bounds => k_is); (case l_law_bounds => k_is); (case c_law_bounds => k_is); (case k_law_bounds => k_is); (case a_law_alike => k_is); (case l_law_alike => k_is); (case c_law_alike => k_is); (case k_law_alike => k_is); (case a_law_price => k_is); (case l_law_price => k_is); (case c_law_price => k_is); (case k_law_price => k_is); (case a_law_motion => k_is); (case l_law_motion => k_is); (case c_law_motion => k_is); (case k_law_motion => k_is); (case a_law => k_is); (case l_law => k_is); (case c_law => k_is); (case k_law => k_is); (case a_MOST_PINS => k_is); (case a_MOST_BARS => k_is); (case a_NOUGHT => k_is); (case t_NOUGHT => k_is); (case a_NO_MOVE => k_is); (case t_NO_MOVE => k_is); (case t_NO_MOVE_0 => k_is); (case t_NO_MOVE_1 => k_is); (case z_ValueError => k_is); (case z_abs => k_is); (case z_bool => k_is); (case z_dict => k_is); (case z_int => k_is); (case z_isinstance => k_is); (case z_len => k_is); (case z_list => k_is); (case z_min => k_is); (case z_range => k_is); (case z_str => k_is); (case z_tuple => k_is); (case z_zip => k_is); (case a_YardError => k_is); (case a_NoWay => k_is); (case a_PinThere => k_is); (case a_SpotTaken => k_is); (case a_NoPin => k_is); (case a_BarThere => k_is); (case a_NoBar => k_is); (case a_NoLength => k_is); (case a_TooMany => k_is); (case a_NoBound => k_is); (case a_Frame => k_is); (case a_Hold => k_is); (case a_Roller => k_is); (case a_Fixed => k_is); (case pg_Frame => k_is); (case hd_Frame => k_is); (case po_Frame => k_is); (case sa_Frame => k_is); (case mk_Frame => k_is); (case kc_Frame => k_is); (case a_Frame_init => k_is); (case i_Frame_init => k_is); (case l_Frame_init => k_is); (case c_Frame_init => k_is); (case k_Frame_init => k_is); (case a_Frame_put_pin => k_is); (case i_Frame_put_pin => k_is); (case l_Frame_put_pin => k_is); (case t_Frame_put_pin => k_is); (case c_Frame_put_pin => k_is); (case k_Frame_put_pin => k_is); (case a_Frame_put_bar => k_is); (case i_Frame_put_bar => k_is); (case l_Frame_put_bar => k_is); (case c_Frame_put_bar => k_is); (case k_Frame_put_bar => k_is); (case a_Frame_check_bar => k_is); (case i_Frame_check_bar => k_is); (case l_Frame_check_bar => k_is); (case c_Frame_check_bar => k_is); (case k_Frame_check_bar => k_is); (case a_Frame_check_pin => k_is); (case i_Frame_check_pin => k_is); (case l_Frame_check_pin => k_is); (case c_Frame_check_pin => k_is); (case k_Frame_check_pin => k_is); (case a_Frame_pins => k_is); (case i_Frame_pins => k_is); (case l_Frame_pins => k_is); (case c_Frame_pins => k_is); (case k_Frame_pins => k_is); (case a_Frame_bars => k_is); (case i_Frame_bars => k_is); (case l_Frame_bars => k_is); (case c_Frame_bars => k_is); (case k_Frame_bars => k_is); (case a_Frame_place => k_is); (case i_Frame_place => k_is); (case l_Frame_place => k_is); (case c_Frame_place => k_is); (case k_Frame_place => k_is); (case a_Frame_ways => k_is); (case i_Frame_ways => k_is); (case l_Frame_ways => k_is); (case c_Frame_ways => k_is); (case k_Frame_ways => k_is); (case a_Frame_ends => k_is); (case i_Frame_ends => k_is); (case l_Frame_ends => k_is); (case c_Frame_ends => k_is); (case k_Frame_ends => k_is); (case pg_Hold => k_is); (case hd_Hold => k_is); (case po_Hold => k_is); (case sa_Hold => k_is); (case mk_Hold => k_is); (case kc_Hold => k_is); (case oi_Hold => k_is); (case a_Hold_ways => k_is); (case i_Hold_ways => k_is); (case l_Hold_ways => k_is); (case c_Hold_ways => k_is); (case k_Hold_ways => k_is); (case pg_Roller => k_is); (case hd_Roller => k_is); (case po_Roller => k_is); (case sa_Roller => k_is); (case mk_Roller => k_is); (case kc_Roller => k_is); (case a_Roller_init => k_is); (case i_Roller_init => k_is); (case l_Roller_init => k_is); (case c_Roller_init => k_is); (case k_Roller_init => k_is); (case a_Roller_ways => k_is); (case i_Roller_ways => k_is); (case l_Roller_ways => k_is); (case c_Roller_ways => k_is); (case k_Roller_ways => k_is); (case pg_Fixed => k_is); (case hd_Fixed => k_is); (case po_Fixed => k_is); (case sa_Fixed => k_is); (case mk_Fixed => k_is); (case kc_Fixed => k_is); (case oi_Fixed => k_is); (case a_Fixed_ways => k_is); (case i_Fixed_ways => k_is); (case l_Fixed_ways => k_is); (case c_Fixed_ways => k_is); (case k_Fixed_ways => k_is); (case n_places => k_is); (case n_ways => k_is); (case n_ends => k_is); (case n_way => k_is); (case ht => rfl)
#print axioms PySem.Challenge.cw_trussyard_k74_a_price_holds


