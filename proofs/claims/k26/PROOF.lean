import PyProof.Rows.All
import Wide.All
import OpenK.AllK
import Wide.FinOn
import Lean
import PyProof.EqAt
import PyProof.EqKinds
import PyProof.TupleCall
import PyProof.ZipIter
import PyProof.SumWalkG
import PyProof.ListCopy
import PyProof.ListStr
import PyProof.DictItems
import PyProof.DictWalks
import PyProof.DictTruth
import PyProof.EnumMake
import PySem.Challenge.RW_trussyard_k26_whole_as_many_needed
set_option Elab.async false
set_option linter.all false
set_option maxRecDepth 100000
namespace L2
open PySem PySem.Spec PyProof.Rows

abbrev Key := Sum Int Str
def keyIs : Key → Value → Bool
  | .inl k, v => Value.isInt k v
  | .inr x, v => Value.isStrOf x v
def keyH (w : World) : Key → Int
  | .inl k => hashInt k
  | .inr x => hashStr w x
theorem keyIs_shape : ∀ {k : Key} {v : Value}, keyIs k v = true → (∃ i t, k = Sum.inl i ∧ v = Value.int i t) ∨ (∃ x t, k = Sum.inr x ∧ v = Value.str x t)
  | .inl i, v, h => by
    obtain ⟨t, e⟩ := Value.isInt_shape (k := i) (v := v) h
    exact .inl ⟨i, t, rfl, e⟩
  | .inr x, v, h => by
    obtain ⟨t, e⟩ := Value.isStrOf_shape (x := x) (v := v) h
    exact .inr ⟨x, t, rfl, e⟩
theorem keyIs_int (i : Int) (t : Tok) : keyIs (.inl i) (.int i t) = true := by simp [keyIs, Value.isInt]
theorem keyIs_str (x : Str) (t : Tok) : keyIs (.inr x) (.str x t) = true := by simp [keyIs, Value.isStrOf]
theorem key_ll (a b : Int) : decide ((Sum.inl a : Key) = Sum.inl b) = (a == b) := by
  by_cases e : a = b
  · subst e; simp
  · have h : ¬ (Sum.inl a : Key) = Sum.inl b := fun q => e (Sum.inl.inj q)
    rw [decide_eq_false h]
    exact (beq_eq_false_iff_ne.mpr e).symm
theorem key_rr (a b : Str) : decide ((Sum.inr a : Key) = Sum.inr b) = decide (a = b) := by
  by_cases e : a = b
  · subst e; simp
  · have h : ¬ (Sum.inr a : Key) = Sum.inr b := fun q => e (Sum.inr.inj q)
    rw [decide_eq_false h, decide_eq_false e]
theorem key_lr (a : Int) (b : Str) : decide ((Sum.inl a : Key) = Sum.inr b) = false := decide_eq_false (fun q => nomatch q)
theorem key_rl (a : Str) (b : Int) : decide ((Sum.inr a : Key) = Sum.inl b) = false := decide_eq_false (fun q => nomatch q)

def mixKind (prog : Program) (w : World) : PySem.KeyKind prog w Key where
  is := keyIs
  hash := keyH w
  inj := fun v a b ha hb => by
    rcases keyIs_shape ha with ⟨i, t, rfl, rfl⟩ | ⟨x, t, rfl, rfl⟩
    · rcases keyIs_shape hb with ⟨j, u, rfl, e⟩ | ⟨y, u, rfl, e⟩
      · injection e with e1 _; rw [e1]
      · exact nomatch e
    · rcases keyIs_shape hb with ⟨j, u, rfl, e⟩ | ⟨y, u, rfl, e⟩
      · exact nomatch e
      · injection e with e1 _; rw [e1]
  byValue := fun k v h => by
    rcases keyIs_shape h with ⟨i, t, rfl, rfl⟩ | ⟨x, t, rfl, rfl⟩ <;> rfl
  pyHash := fun hv h => by
    rcases keyIs_shape hv with ⟨i, t, rfl, rfl⟩ | ⟨x, t, rfl, rfl⟩
    · exact wpAny_pyHash_int h
    · exact wpAny_pyHash_str h
  eqBool := fun hu hv h => by
    rcases keyIs_shape hu with ⟨i, t, rfl, rfl⟩ | ⟨x, t, rfl, rfl⟩
    · rcases keyIs_shape hv with ⟨j, u, rfl, rfl⟩ | ⟨y, u, rfl, rfl⟩
      · rw [key_ll] at h; exact wpAny_eqBool_int h
      · rw [key_lr] at h; exact SeqAt.EqAt.int_str i t y u _ _ _ _ h
    · rcases keyIs_shape hv with ⟨j, u, rfl, rfl⟩ | ⟨y, u, rfl, rfl⟩
      · rw [key_rl] at h; exact SeqAt.EqAt.str_int x t j u _ _ _ _ h
      · rw [key_rr] at h; exact wpAny_eqBool_str h
  «strs» := fun k x t v h => by
    rcases keyIs_shape h with ⟨i, u, rfl, e⟩ | ⟨y, u, rfl, e⟩
    · exact nomatch e
    · injection e with e1 _
      subst e1
      cases v <;> rfl

theorem mixKind_int (prog : Program) (w : World) (i : Int) (t : Tok) : (mixKind prog w).is (.inl i) (.int i t) = true := keyIs_int i t
theorem mixKind_str (prog : Program) (w : World) (x : Str) (t : Tok) : (mixKind prog w).is (.inr x) (.str x t) = true := keyIs_str x t
end L2

namespace L2
open PySem PySem.Spec PyProof.Rows

inductive V where
  | non | bl (b : Bool) | int (i : Int) | str (x : Str) | byt (b : Array UInt8) | flt (b : UInt64) | ref (a : Addr) | ty (n : String)
  deriving DecidableEq

def RelV : V → Value → Prop
  | .non, u => u = Value.none
  | .bl b, u => u = Value.bool b
  | .int i, u => ∃ t, u = Value.int i t
  | .str x, u => ∃ t, u = Value.str x t
  | .byt b, u => ∃ t, u = Value.bytes b t
  | .flt b, u => ∃ t, u = Value.float b t
  | .ref a, u => u = Value.ref a
  | .ty n, u => u = Value.type n

abbrev Vals : List V → List Value → Prop := Paired RelV
theorem Vals.length {xs : List V} {us : List Value} (r : Vals xs us) : xs.length = us.length := Paired.length r
theorem Vals.get : ∀ {xs : List V} {us : List Value} {i : Nat} {x : V}, Vals xs us → xs[i]? = some x → ∃ u, us[i]? = some u ∧ RelV x u
  | _, _, _, _, .nil, e => by simp at e
  | _, _, 0, _, .cons r _, e => by simp at e; subst e; exact ⟨_, rfl, r⟩
  | _, _, i + 1, x, .cons _ t, e => by
    obtain ⟨u, h1, h2⟩ := Vals.get (i := i) (x := x) t (by simpa using e)
    exact ⟨u, by simpa using h1, h2⟩
theorem Vals.set {x : V} {u : Value} (r : RelV x u) : ∀ {xs : List V} {us : List Value} (i : Nat), Vals xs us → Vals (xs.set i x) (us.set i u)
  | _, _, _, .nil => .nil
  | _, _, 0, .cons _ t => .cons r t
  | _, _, i + 1, .cons q t => .cons q (Vals.set r i t)
theorem Vals.append : ∀ {xs ys : List V} {us ws : List Value}, Vals xs us → Vals ys ws → Vals (xs ++ ys) (us ++ ws)
  | _, _, _, _, .nil, s => s
  | _, _, _, _, .cons r t, s => .cons r (Vals.append t s)
theorem Vals.take : ∀ {xs : List V} {us : List Value} (n : Nat), Vals xs us → Vals (xs.take n) (us.take n)
  | _, _, 0, _ => .nil
  | _, _, _ + 1, .nil => .nil
  | _, _, n + 1, .cons r t => .cons r (Vals.take n t)
theorem Vals.drop : ∀ {xs : List V} {us : List Value} (n : Nat), Vals xs us → Vals (xs.drop n) (us.drop n)
  | _, _, 0, r => r
  | _, _, _ + 1, .nil => .nil
  | _, _, n + 1, .cons _ t => Vals.drop n t
theorem Vals.none_of : ∀ {xs : List V} {us : List Value} {i : Nat}, Vals xs us → xs[i]? = none → us[i]? = none := fun {xs us i} r e => by
  have h1 := r.length
  have h2 : xs.length ≤ i := List.getElem?_eq_none_iff.mp e
  exact List.getElem?_eq_none_iff.mpr (by omega)

def RelO : Option V → Option Value → Prop
  | some v, some u => RelV v u
  | none, none => True
  | _, _ => False
def KV {κ : Type} : List (κ × V) → List (κ × Value) → Prop := Paired fun (p : κ × V) (q : κ × Value) => p.1 = q.1 ∧ RelV p.2 q.2

def kV : Key → V
  | .inl i => .int i
  | .inr x => .str x

inductive HO where
  /-- a list -/
  | lst (xs : List V)
  /-- a tuple (never changes) -/
  | tup (xs : List V)
  /-- a dict whose keys are ints and texts; one whose keys are tuples of ints and texts (the empty one is both) -/
  | dK (kvs : List (Key × V)) | dT (kvs : List (List Key × V))
  /-- a set of ints: its members, its size -/
  | set (S : Int → Bool) (n : Nat)
  /-- an instance of the class at C, its dict at dx, its attributes -/
  | ins (C dx : Addr) (fs : List (Str × V))
  /-- the dict of the instance at x -/
  | own (x : Addr)
  /-- the dict of an exception -/
  | xd (fs : List (Str × V))
  /-- a bound method, f of x -/
  | met (f x : Addr)
  /-- a range object lo, lo + 1, .. below hi -/
  | rng (lo hi : Int)
  /-- a thing that is known to the object (the script; a dict while a loop walks it): read, never written while it is so -/
  | frz (o : Obj) (u : HO)
  /-- a code object's table -/
  | tbl (ps : Array Value)
  /-- any other thing, by what is true of its one object (a def of one's own: SetO a S n := HO.ext fun h => ..) -/
  | ext (φ : Heap → Prop)

abbrev Hp := Addr → Option HO
def upd (H : Hp) (a : Addr) (o : HO) : Hp := fun b => if b = a then some o else H b
theorem upd_same {H : Hp} {a : Addr} {o : HO} : upd H a o a = some o := by unfold upd; rw [if_pos rfl]
theorem upd_ne {H : Hp} {a b : Addr} {o : HO} (h : b ≠ a) : upd H a o b = H b := by unfold upd; rw [if_neg h]
theorem ne_of {H : Hp} {a b : Addr} {o u : HO} (h : H a = some o) (h' : H b = some u) (d : o ≠ u) : a ≠ b := by
  intro e; subst e; rw [h] at h'; exact d (Option.some.inj h')
theorem ne_of_none {H : Hp} {a b : Addr} {o : HO} (h : H a = some o) (h' : H b = none) : a ≠ b := by
  intro e; subst e; rw [h] at h'; cases h'

section
variable (P : Program) (w : World)
def ObjOk (H : Hp) (h : Heap) (a : Addr) : HO → Prop
  | .lst xs => xs.length ≤ sizeLine ∧ ∃ (its : List Value) (n : Nat), Vals xs its ∧ h.get? a = some { cls := .type "list", data := .seq its.toArray n }
  | .tup xs => xs.length ≤ sizeLine ∧ ∃ its : List Value, Vals xs its ∧ IsTup h a its.toArray
  | .dK kvs => kvs.length ≤ sizeLine ∧ (a == sysModules) = false ∧ ∃ vs, KV kvs vs ∧ h.DictOf (mixKind P w) a vs
  | .dT kvs => kvs.length ≤ sizeLine ∧ (a == sysModules) = false ∧ ∃ xs : List (List Key × Addr × Value),
      Paired (fun (p : List Key × V) (q : List Key × Addr × Value) => p.1 = q.1 ∧ H q.2.1 = some (.tup (p.1.map kV)) ∧ RelV p.2 q.2.2) kvs xs ∧
      ∃ o es ep, h.get? a = some o ∧ o.ExactDict ∧ o.data = .dict es ep ∧ es.toList = xs.map (entryOfKey (tupleKind (mixKind P w))) ∧ (xs.map (·.1)).Nodup
  | .set S n => h.SetOf (intKind P w) a S n
  | .ins C dx fs => H dx = some (.own a) ∧ fs.length ≤ 1000 ∧ dx ≠ a ∧ h.get? a = some (PySem.W.instObj C dx) ∧
      ∃ mA, h.Ns1 dx mA ∧ (∀ f, RelO (fs.lookup f) (mA f)) ∧ PySem.Within mA (fs.map (·.1))
  | .own _ => ∃ o, h.get? a = some o
  | .xd fs => ∃ mA, h.Ns1 a mA ∧ ∀ f, RelO (fs.lookup f) (mA f)
  | .rng lo hi => ∃ t u v, h.get? a = some { cls := .type "range", data := .fields #[.int lo t, .int hi u, .int 1 v] }
  | .frz o u => h.get? a = some o ∧ ObjOk H h a u
  | .tbl ps => h.get? a = some { cls := .none, data := .fields ps }
  | .met f x => h.get? a = some (PySem.W.methodObj (.ref f) (.ref x))
  | .ext φ => φ h ∧ (∃ o, h.get? a = some o) ∧ ∀ h1 h2 : Heap, φ h1 → (∀ o, h1.get? a = some o → h2.get? a = some o) → φ h2
def HOk (H : Hp) (h : Heap) : Prop := ∀ a o, H a = some o → ObjOk P w H h a o
end

section
variable {P : Program} {w : World} {H H' : Hp} {h h' : Heap} {a : Addr} {o : HO}
theorem ObjOk.lt (x : ObjOk P w H h a o) : a < h.objs.size := by
  cases o with
  | lst xs => obtain ⟨_, _, _, _, e⟩ := x; exact Heap.lt_size e
  | tup xs => obtain ⟨_, _, _, p⟩ := x; exact p.lt
  | dK kvs => obtain ⟨_, _, _, _, o, _, _, e, _⟩ := x; exact Heap.lt_size e
  | dT kvs => obtain ⟨_, _, _, _, o, _, _, e, _⟩ := x; exact Heap.lt_size e
  | set S n => obtain ⟨o, _, _, _, e, _⟩ := x; exact Heap.lt_size e
  | ins C dx fs => obtain ⟨_, _, _, e, _⟩ := x; exact Heap.lt_size e
  | own y => obtain ⟨_, e⟩ := x; exact Heap.lt_size e
  | xd fs => obtain ⟨_, ⟨_, _, _, e, _⟩, _⟩ := x; exact Heap.lt_size e
  | rng lo hi => obtain ⟨_, _, _, e⟩ := x; exact Heap.lt_size e
  | frz ob u => obtain ⟨e, _⟩ := x; exact Heap.lt_size e
  | tbl ps => exact Heap.lt_size (show h.get? a = some _ from x)
  | met f y => exact Heap.lt_size (show h.get? a = some _ from x)
  | ext φ => obtain ⟨_, ⟨_, e⟩, _⟩ := x; exact Heap.lt_size e
theorem Paired.mapP {α β : Type} {F G : α → β → Prop} : ∀ {l₁ : List α} {l₂ : List β}, Paired F l₁ l₂ → (∀ a b, F a b → G a b) → Paired G l₁ l₂
  | _, _, .nil, _ => .nil
  | _, _, .cons r t, f => .cons (f _ _ r) (Paired.mapP t f)
theorem ObjOk.stay (x : ObjOk P w H h a o) (k : ∀ b u, (b = a ∨ H b = some (.own a)) → h.get? b = some u → h'.get? b = some u)
    (ho : ∀ b, H b = some (.own a) → H' b = some (.own a)) (ht : ∀ b xs, H b = some (.tup xs) → H' b = some (.tup xs)) : ObjOk P w H' h' a o := by
  induction o with
  | lst xs => obtain ⟨z, its, n, r, e⟩ := x; exact ⟨z, its, n, r, k _ _ (.inl rfl) e⟩
  | tup xs => obtain ⟨z, its, r, ob, e, c⟩ := x; exact ⟨z, its, r, ob, k _ _ (.inl rfl) e, c⟩
  | dK kvs => obtain ⟨z, y, vs, r, ob, es, ep, e, c⟩ := x; exact ⟨z, y, vs, r, ob, es, ep, k _ _ (.inl rfl) e, c⟩
  | dT kvs =>
    obtain ⟨z, y, xs, r, ob, es, ep, e, c⟩ := x
    exact ⟨z, y, xs, Paired.mapP r fun p q z => ⟨z.1, ht _ _ z.2.1, z.2.2⟩, ob, es, ep, k _ _ (.inl rfl) e, c⟩
  | set S n => obtain ⟨ob, es, ep, t, e, c⟩ := x; exact ⟨ob, es, ep, t, k _ _ (.inl rfl) e, c⟩
  | ins C dx fs =>
    obtain ⟨d, z, ne, e, mA, ⟨od, es, ep, e2, c⟩, r⟩ := x
    exact ⟨ho _ d, z, ne, k _ _ (.inl rfl) e, mA, ⟨od, es, ep, k _ _ (.inr d) e2, c⟩, r⟩
  | own y => obtain ⟨ob, e⟩ := x; exact ⟨ob, k _ _ (.inl rfl) e⟩
  | xd fs => obtain ⟨mA, ⟨od, es, ep, e, c⟩, r⟩ := x; exact ⟨mA, ⟨od, es, ep, k _ _ (.inl rfl) e, c⟩, r⟩
  | rng lo hi => obtain ⟨t, u, v, e⟩ := x; exact ⟨t, u, v, k _ _ (.inl rfl) e⟩
  | frz ob u ih => obtain ⟨e, q⟩ := x; exact ⟨k _ _ (.inl rfl) e, ih q⟩
  | tbl ps =>
    have e : h.get? a = some { cls := .none, data := .fields ps } := x
    show h'.get? a = some { cls := .none, data := .fields ps }
    exact k a _ (.inl rfl) e
  | met f y =>
    have e : h.get? a = some (PySem.W.methodObj (.ref f) (.ref y)) := x
    show h'.get? a = some (PySem.W.methodObj (.ref f) (.ref y))
    exact k a _ (.inl rfl) e
  | ext φ => obtain ⟨p, ⟨o, e⟩, st⟩ := x; exact ⟨st _ _ p fun o q => k _ _ (.inl rfl) q, ⟨o, k _ _ (.inl rfl) e⟩, st⟩
theorem HOk.lt (x : HOk P w H h) (e : H a = some o) : a < h.objs.size := (x a o e).lt
theorem HOk.fresh (x : HOk P w H h) (e : h.objs.size ≤ a) : H a = none := by
  cases q : H a with
  | none => rfl
  | some u => exact absurd (Nat.lt_of_lt_of_le (x.lt q) e) (Nat.lt_irrefl _)
theorem HOk.kept (x : HOk P w H h) (k : ∀ b u, h.get? b = some u → h'.get? b = some u) : HOk P w H h' := fun a o e =>
  (x a o e).stay (fun b u _ q => k b u q) (fun _ q => q) fun _ _ q => q
theorem HOk.laid (x : HOk P w H h) (k : ∀ b u, h.get? b = some u → h'.get? b = some u) (hp : h.objs.size ≤ a) (new : ObjOk P w (upd H a o) h' a o) : HOk P w (upd H a o) h' := fun b u e => by
  have hn := x.fresh hp
  by_cases hb : b = a
  · subst hb; rw [upd_same] at e; cases e; exact new
  · rw [upd_ne hb] at e
    exact (x b u e).stay (fun c v _ q => k c v q) (fun c q => by rw [upd_ne (ne_of_none q hn)]; exact q) fun c xs q => by rw [upd_ne (ne_of_none q hn)]; exact q
end

def Rd (H : Hp) (a : Addr) (u : HO) : Prop := H a = some u ∨ ∃ o, H a = some (.frz o u)
theorem Rd.of {H : Hp} {a : Addr} {u : HO} (h : H a = some u) : Rd H a u := .inl h
theorem Rd.ok {P : Program} {w : World} {H : Hp} {h : Heap} {a : Addr} {u : HO} (r : Rd H a u) (x : HOk P w H h) : ObjOk P w H h a u := by
  rcases r with r | ⟨o, r⟩
  · exact x a u r
  · obtain ⟨_, q⟩ := x a _ r
    exact q
def Mut : Option HO → Prop
  | some (.lst _) => True
  | some (.dK _) => True
  | some (.dT _) => True
  | some (.set _ _) => True
  | some (.ins _ _ _) => True
  | some (.ext _) => True
  | _ => False
section
variable {P : Program} {w : World} {H : Hp} {h h' : Heap} {x e : Addr} {o' : HO}
theorem HOk.write (ok : HOk P w H h) (mu : Mut (H x)) (he : e = x ∨ H e = some (.own x)) (k : ∀ b u, b ≠ e → h.get? b = some u → h'.get? b = some u) (heo : ∃ u, h'.get? e = some u)
    (new : ObjOk P w (upd H x o') h' x o') : HOk P w (upd H x o') h' := fun b u q => by
  have nown : ∀ c y, H c = some (.own y) → c ≠ x := fun c y r z => by subst z; rw [r] at mu; exact mu
  have ntup : ∀ c xs, H c = some (.tup xs) → c ≠ x := fun c xs r z => by subst z; rw [r] at mu; exact mu
  by_cases hb : b = x
  · subst hb; rw [upd_same] at q; cases q; exact new
  · rw [upd_ne hb] at q
    by_cases hbe : b = e
    · have q' : H b = some (.own x) := by
        rcases he with z | z
        · exact absurd (hbe.trans z) hb
        · rw [hbe]; exact z
      rw [q] at q'; cases q'
      obtain ⟨v, hv⟩ := heo
      exact ⟨v, by rw [hbe]; exact hv⟩
    · refine (ok b u q).stay (fun c v hc r => k c v ?_ r) (fun c r => by rw [upd_ne (nown c b r)]; exact r) fun c xs r => by rw [upd_ne (ntup c xs r)]; exact r
      rcases hc with rfl | hc
      · exact hbe
      · rintro rfl
        rcases he with z | z
        · exact nown c b hc z
        · rw [hc] at z; cases z; exact hb rfl
end

structure Un (fs ex : List Addr) (H H' : Hp) (h h' : Heap) : Prop where
  keep : ∀ b o, h.get? b = some o → H b = none → b ∉ fs → b ∉ ex → h'.get? b = some o
  slot : ∀ b o, h.get? b = some o → H b = none → b ∈ fs → b ∉ ex → ∃ sl, h'.get? b = some { o with slots := sl }
  free : ∀ b o, h.get? b = some o → H b = none → b ∉ ex → H' b = none
  there : ∀ b o, h.get? b = some o → b ∉ ex → ∃ o', h'.get? b = some o'
  tups : ∀ b xs, H b = some (.tup xs) → H' b = some (.tup xs)
  frzs : ∀ b o u, H b = some (.frz o u) → H' b = some (.frz o u)
  tbls : ∀ b ps, H b = some (.tbl ps) → ∃ more, H' b = some (.tbl (ps ++ more))
section
variable {fs fs' ex ex' : List Addr} {H H1 H2 : Hp} {h h1 h2 h' : Heap} {a x e : Addr} {o : HO}
theorem Un.any (u : Un fs ex H H1 h h1) {b : Addr} {ob : Obj} (q : h.get? b = some ob) (n : H b = none) (hx : b ∉ ex) : ∃ sl, h1.get? b = some { ob with slots := sl } := by
  by_cases hb : b ∈ fs
  · exact u.slot b ob q n hb hx
  · exact ⟨ob.slots, u.keep b ob q n hb hx⟩
theorem Un.trans (a : Un fs ex H H1 h h1) (b : Un fs ex H1 H2 h1 h2) : Un fs ex H H2 h h2 where
  keep := fun c ob q n hc hx => b.keep c ob (a.keep c ob q n hc hx) (a.free c ob q n hx) hc hx
  slot := fun c ob q n hc hx => by
    obtain ⟨sl, e1⟩ := a.slot c ob q n hc hx
    obtain ⟨sl', e2⟩ := b.slot c _ e1 (a.free c ob q n hx) hc hx
    exact ⟨sl', e2⟩
  free := fun c ob q n hx => by
    obtain ⟨o', e1⟩ := a.there c ob q hx
    exact b.free c o' e1 (a.free c ob q n hx) hx
  there := fun c ob q hx => by
    obtain ⟨o', e1⟩ := a.there c ob q hx
    exact b.there c o' e1 hx
  tups := fun c xs q => b.tups c xs (a.tups c xs q)
  frzs := fun c ob xs q => b.frzs c ob xs (a.frzs c ob xs q)
  tbls := fun c ps q => by
    obtain ⟨m1, e1⟩ := a.tbls c ps q
    obtain ⟨m2, e2⟩ := b.tbls c _ e1
    exact ⟨m1 ++ m2, by rw [e2, Array.append_assoc]⟩
theorem Un.kept (k : ∀ b u, h.get? b = some u → h'.get? b = some u) : Un fs ex H H h h' :=
  ⟨fun b ob q _ _ _ => k b ob q, fun b ob q _ _ _ => ⟨ob.slots, k b ob q⟩, fun _ _ _ n _ => n, fun b ob q _ => ⟨ob, k b ob q⟩, fun _ _ q => q, fun _ _ _ q => q, fun _ ps q => ⟨#[], by rw [q]; simp⟩⟩
theorem Un.refl : Un fs ex H H h h := Un.kept fun _ _ q => q
theorem Un.laid (k : ∀ b u, h.get? b = some u → h'.get? b = some u) (hp : h.objs.size ≤ a) (hn : H a = none) : Un fs ex H (upd H a o) h h' where
  keep := fun b u q _ _ _ => k b u q
  slot := fun b u q _ _ _ => ⟨u.slots, k b u q⟩
  free := fun b u q n _ => by rw [upd_ne (Nat.ne_of_lt (Nat.lt_of_lt_of_le (Heap.lt_size q) hp))]; exact n
  there := fun b u q _ => ⟨u, k b u q⟩
  tups := fun b xs q => by rw [upd_ne (ne_of_none q hn)]; exact q
  frzs := fun b u xs q => by rw [upd_ne (ne_of_none q hn)]; exact q
  tbls := fun b ps q => ⟨#[], by rw [upd_ne (ne_of_none q hn), q]; simp⟩
theorem Un.write (mu : Mut (H x)) (he : e = x ∨ H e = some (.own x)) (k : ∀ b u, b ≠ e → h.get? b = some u → h'.get? b = some u) (heo : ∃ u, h'.get? e = some u) : Un fs ex H (upd H x o) h h' := by
  have hx : ∀ b, H b = none → b ≠ x := fun b n z => by subst z; rw [n] at mu; exact mu
  have hb : ∀ b, H b = none → b ≠ e := fun b n z => by
    subst z
    rcases he with r | r
    · exact hx b n r
    · rw [n] at r; cases r
  have hm : ∀ b u, H b = some u → ¬ Mut (some u) → b ≠ x := fun b u q nm z => by subst z; rw [q] at mu; exact nm mu
  refine ⟨fun b u q n _ _ => k b u (hb b n) q, fun b u q n _ _ => ⟨u.slots, k b u (hb b n) q⟩, fun b u q n _ => by rw [upd_ne (hx b n)]; exact n, fun b u q _ => ?_,
    fun b xs q => by rw [upd_ne (hm b _ q fun z => z)]; exact q, fun b u xs q => by rw [upd_ne (hm b _ q fun z => z)]; exact q, fun b ps q => ⟨#[], by rw [upd_ne (hm b _ q fun z => z), q]; simp⟩⟩
  by_cases hbe : b = e
  · subst hbe; exact heo
  · exact ⟨u, k b u hbe q⟩
theorem Un.mono (u : Un fs ex H H1 h h1) (hs : ∀ b ∈ fs, b ∈ fs') (hx : ∀ b ∈ ex, b ∈ ex') : Un fs' ex' H H1 h h1 :=
  ⟨fun b ob q n hb he => u.keep b ob q n (fun z => hb (hs b z)) fun z => he (hx b z), fun _ _ q n _ he => u.any q n fun z => he (hx _ z), fun b ob q n he => u.free b ob q n fun z => he (hx b z), fun b ob q he => u.there b ob q fun z => he (hx b z), u.tups, u.frzs, u.tbls⟩
end

def trk (h : Heap) (H : Hp) : List Addr := (List.range h.objs.size).filter fun a => (H a).isSome
def hidT (h : Heap) (H : Hp) : Heap := PySem.W.hideAll h (trk h H)
theorem hidT_size (h : Heap) (H : Hp) : (hidT h H).objs.size = h.objs.size := PySem.W.hideAll_size _ _
theorem hidT_get {h : Heap} {H : Hp} {b : Addr} {o : Obj} (e : h.get? b = some o) (n : H b = none) : (hidT h H).get? b = some o :=
  PySem.W.hideAll_get _ e fun hm => by
    have q : (H b).isSome = true := (List.mem_filter.mp hm).2
    rw [n] at q; simp at q
theorem of_hidT {h : Heap} {H : Hp} {b : Addr} {o : Obj} (e : (hidT h H).get? b = some o) : h.get? b = some o ∧ H b = none := by
  have e' : h.get? b = some o := PySem.W.of_hideAll (trk h H) e
  refine ⟨e', ?_⟩
  cases q : H b with
  | none => rfl
  | some x =>
    have hm : b ∈ trk h H := List.mem_filter.mpr ⟨List.mem_range.mpr (Heap.lt_size e'), by simp [q]⟩
    have z : (hidT h H).get? b = none := PySem.W.hideAll_none (trk h H) hm
    rw [z] at e; cases e

def allNews (g h : Heap) (L : Addr) : List (Addr × Obj) := (List.range h.objs.size).filterMap fun a => if a = L ∨ (g.get? a).isSome = true then none else (h.get? a).map fun o => (a, o)
def rest (g h : Heap) (L d : Addr) : List (Addr × Obj) := (allNews g h L).filter fun p => decide (p.1 ≠ d)
end L2

namespace L2
open PySem PySem.Spec PyProof.Rows

structure Mod (K : PySem.W.Frag) (mg : Str → Option Value) (base : Heap) : Prop where
  kin : K.In base
  glob : base.Ns mainGlobals mg
  blt : ∃ mb, base.Ns builtinsNs mb ∧ ∀ x : Str, x ≠ "__name__" → mb x = bootBuiltins x
  nolimit : base.NoLimit
  seer : base.NoSeer

structure Cx where
  prog : Program
  w : World
  K : PySem.W.Frag
  mg : Str → Option Value
  base : Heap
  A : Around
  N : List Str
  s₀ : Shared
  H₀ : Hp
  env : Env
  outer : List Env
  stack : List Env
  ex : List Addr
  fn : Str → Bool
  calm : Bool
  pn : List (Addr × Obj)
  xe : Value → Shared → Prop
def frs (l : List Env) : List Addr := l.filterMap (·.frame)
abbrev Cx.fs (X : Cx) : List Addr := frs X.outer

def Vis (sc : Scope) (x : Str) : Prop := sc.names.lookup x = some .local ∨ sc.names.lookup x = some .cell ∨ sc.names.lookup x = some .free
def Loc (sc : Scope) (x : Str) : Prop := sc.names.lookup x = some .local ∨ sc.names.lookup x = some .cell
def Look (env : Env) (h : Heap) (m : Str → Option Value) (x : Str) (u : Value) : Prop :=
  (env.kindOf x = some .local ∧ m x = some u) ∨ ((env.kindOf x = some .cell ∨ env.kindOf x = some .free) ∧ ∃ c, env.cells.lookup x = some c ∧ h.IsCell c (some u))

structure Cx.Ok (X : Cx) : Prop where
  mod : Mod X.K X.mg X.base
  kind : X.env.scope.kind = .function
  glob : X.env.globals = mainGlobals
  blt : X.env.builtins = builtinsNs
  above : X.s₀.heap.objs.size ≤ X.env.locals
  inj : ∀ x y c, X.env.cells.lookup x = some c → X.env.cells.lookup y = some c → x = y
  has : ∀ x, (X.env.kindOf x = some .cell ∨ X.env.kindOf x = some .free) → ∃ c, X.env.cells.lookup x = some c
  cab : ∀ x c, X.fn x = true → X.env.cells.lookup x = some c → X.s₀.heap.objs.size ≤ c
  hd : X.calm = true → X.A.handled = none
  frames : X.A.frames = some X.stack
  stk : X.stack = X.outer ∨ (X.stack = X.env :: X.outer ∧ X.env.frame = some X.env.locals)
  exf : ∀ b ∈ X.ex, b ≠ X.env.locals ∧ ∀ x c, X.env.cells.lookup x = some c → c ≠ b
  bs : ∀ b o, X.base.get? b = some o → X.s₀.heap.get? b = some o ∧ X.H₀ b = none
  bsz : X.base.objs.size ≤ X.s₀.heap.objs.size
  noex : ∀ b o, X.base.get? b = some o → b ∉ X.ex
  exfs : ∀ b ∈ X.ex, b ∉ X.fs
  funs : X.s₀.heap.FunFrames X.base X.outer
  frf : ∀ b ∈ X.fs, X.H₀ b = none

structure Inv (X : Cx) (pins : List (Addr × Obj)) (σ : List (Option V)) (H : Hp) (s : Shared) : Prop where
  ok : X.Ok
  os : s.os = X.s₀.os
  bare : AllBare s.gens
  base : Un X.fs X.ex X.H₀ H X.s₀.heap s.heap
  loc : ∃ m, s.heap.Ns X.env.locals m ∧ ∀ (i : Nat) (x : Str) (v : V), X.N[i]? = some x → σ[i]? = some (some v) → Vis X.env.scope x → ∃ u, RelV v u ∧ Look X.env s.heap m x u
  cell : ∀ x c, X.env.cells.lookup x = some c → ∃ v, s.heap.IsCell c v
  free : H X.env.locals = none
  freeC : ∀ x c, X.env.cells.lookup x = some c → H c = none
  pin : ∀ p ∈ X.pn ++ pins, s.heap.get? p.1 = some p.2 ∧ H p.1 = none ∧ p.1 ≠ X.env.locals ∧ p.1 ∉ X.fs ∧ ∀ v, p.2.data ≠ .cell v
  hok : HOk X.prog X.w H s.heap
  len : σ.length = X.N.length

section
variable {X : Cx} {pins : List (Addr × Obj)} {σ : List (Option V)} {H H' : Hp} {s : Shared} {h' : Heap}

theorem Cx.Ok.nofr (ok : X.Ok) {b : Addr} {o : Obj} (e : X.base.get? b = some o) : b ∉ X.fs := fun hb => by
  have := (ok.funs.mem hb).1
  rw [e] at this; cases this
theorem Inv.bs (I : Inv X pins σ H s) : ∀ b o, X.base.get? b = some o → s.heap.get? b = some o ∧ H b = none := fun b o e =>
  ⟨I.base.keep b o (I.ok.bs b o e).1 (I.ok.bs b o e).2 (I.ok.nofr e) (I.ok.noex b o e), I.base.free b o (I.ok.bs b o e).1 (I.ok.bs b o e).2 (I.ok.noex b o e)⟩
theorem Inv.bk (I : Inv X pins σ H s) : ∀ b o, X.base.get? b = some o → s.heap.get? b = some o := fun b o e => (I.bs b o e).1
theorem Inv.mod (I : Inv X pins σ H s) : Mod X.K X.mg X.base := I.ok.mod
theorem Inv.kIn (I : Inv X pins σ H s) : X.K.In s.heap := I.ok.mod.kin.keeps I.bk
theorem Inv.nolimit (I : Inv X pins σ H s) : s.heap.NoLimit := I.ok.mod.nolimit.keeps I.bk
theorem Inv.fr (I : Inv X pins σ H s) : ∃ m, Fr X.base X.env.locals s.heap m :=
  let ⟨m, hn, _⟩ := I.loc
  ⟨m, hn, I.bk, Nat.le_trans I.ok.bsz I.ok.above⟩
theorem Inv.lt (I : Inv X pins σ H s) : X.env.locals < s.heap.objs.size := let ⟨_, hn, _⟩ := I.loc; hn.lt
theorem Inv.sz (I : Inv X pins σ H s) : X.s₀.heap.objs.size ≤ s.heap.objs.size := Nat.le_trans I.ok.above (Nat.le_of_lt I.lt)
theorem Inv.nofs (I : Inv X pins σ H s) {a : Addr} (h : s.heap.objs.size ≤ a) : a ∉ X.fs := fun hb => by
  obtain ⟨_, o, ho, _⟩ := I.ok.funs.mem hb
  exact absurd (Nat.lt_of_lt_of_le (Heap.lt_size ho) (Nat.le_trans I.sz h)) (Nat.lt_irrefl _)
theorem Inv.cne (I : Inv X pins σ H s) : ∀ x c, X.env.cells.lookup x = some c → c ≠ X.env.locals := fun x c e z => by
  obtain ⟨v, o, ho, hd⟩ := I.cell x c e
  obtain ⟨m, ⟨o', es, ep, ho', hd', _⟩, _⟩ := I.loc
  rw [z, ho'] at ho; cases ho; rw [hd'] at hd; cases hd
theorem Inv.funs (I : Inv X pins σ H s) : s.heap.FunFrames X.base X.outer := by
  have all : ∀ (l : List Env), (∀ b ∈ frs l, b ∈ X.fs) → X.s₀.heap.FunFrames X.base l → s.heap.FunFrames X.base l := by
    intro l
    induction l with
    | nil => intro _ _; trivial
    | cons env r ih =>
      intro hs hl
      obtain ⟨hk, ⟨L, o, hf, hn, ho, hd⟩, hr⟩ := hl
      have hL : L ∈ X.fs := hs L (by unfold frs; rw [List.filterMap_cons, hf]; exact List.mem_cons_self)
      obtain ⟨sl, e⟩ := I.base.slot L o ho (I.ok.frf L hL) hL fun z => I.ok.exfs L z hL
      exact ⟨hk, ⟨L, _, hf, hn, e, hd⟩, ih (fun b hb => hs b (by unfold frs; rw [List.filterMap_cons, hf]; exact List.mem_cons_of_mem _ hb)) hr⟩
  exact all X.outer (fun _ hb => hb) I.ok.funs

theorem Inv.stack (I : Inv X pins σ H s) : s.heap.FunFrames X.base X.stack := by
  rcases I.ok.stk with e | ⟨e, hf⟩
  · rw [e]; exact I.funs
  · rw [e]
    obtain ⟨m, hn, _⟩ := I.loc
    refine .cons (by rw [I.ok.kind]; decide) hf hn ?_ I.funs
    exact Heap.get?_none_of_le (Nat.le_trans I.ok.bsz I.ok.above)
theorem Inv.stkSub (I : Inv X pins σ H s) : ∀ b ∈ frs X.stack, b ∈ X.env.locals :: X.fs := fun b hb => by
  rcases I.ok.stk with e | ⟨e, hf⟩
  · rw [e] at hb; exact List.mem_cons_of_mem _ hb
  · rw [e] at hb
    unfold frs at hb
    rw [List.filterMap_cons, hf] at hb
    exact hb
theorem Inv.stkFree (I : Inv X pins σ H s) : ∀ b ∈ frs X.stack, H b = none := fun b hb => by
  rcases List.mem_cons.mp (I.stkSub b hb) with e | hb
  · rw [e]; exact I.free
  · obtain ⟨_, o, ho, _⟩ := I.ok.funs.mem hb
    exact I.base.free b o ho (I.ok.frf b hb) fun z => I.ok.exfs b z hb

theorem Inv.step {g' : Array GenState} {t' : Nat} {d' : Drawn} {ch : List Addr} (I : Inv X pins σ H s)
    (hch : ∀ b ∈ ch, (b ∈ X.ex ∨ X.s₀.heap.objs.size ≤ b) ∧ b ≠ X.env.locals ∧ (∀ x c, X.env.cells.lookup x = some c → c ≠ b) ∧ ∀ p ∈ X.pn ++ pins, p.1 ≠ b)
    (keep : ∀ b o, b ≠ X.env.locals → b ∉ X.fs → b ∉ ch → s.heap.get? b = some o → H b = none → h'.get? b = some o)
    (slot : ∀ b o, b ≠ X.env.locals → b ∈ X.fs → b ∉ ch → s.heap.get? b = some o → H b = none → ∃ sl, h'.get? b = some { o with slots := sl }) (free : ∀ b o, b ∉ ch → s.heap.get? b = some o → H b = none → H' b = none)
    (there : ∀ b o, b ∉ ch → s.heap.get? b = some o → ∃ o', h'.get? b = some o')
    (tups : ∀ b xs, H b = some (.tup xs) → H' b = some (.tup xs)) (frzs : ∀ b o u, H b = some (.frz o u) → H' b = some (.frz o u)) (tbls : ∀ b ps, H b = some (.tbl ps) → ∃ more, H' b = some (.tbl (ps ++ more)))
    (ns : ∀ m, s.heap.Ns X.env.locals m → h'.Ns X.env.locals m) (hok : HOk X.prog X.w H' h') (hg : AllBare g') :
    Inv X pins σ H' { s with heap := h', gens := g', drawn := d', toks := t' } := by
  have neL : ∀ b o, X.s₀.heap.get? b = some o → b ≠ X.env.locals := fun b o e => Nat.ne_of_lt (Nat.lt_of_lt_of_le (Heap.lt_size e) I.ok.above)
  have neC : ∀ b o, X.s₀.heap.get? b = some o → b ∉ X.ex → b ∉ ch := fun b o e hx hb => by
    rcases (hch b hb).1 with z | z
    · exact hx z
    · exact absurd (Nat.lt_of_lt_of_le (Heap.lt_size e) z) (Nat.lt_irrefl _)
  have cellK : ∀ x c, X.env.cells.lookup x = some c → ∀ v, s.heap.IsCell c v → h'.IsCell c v := fun x c e v ⟨o, ho, hd⟩ => by
    have nch : c ∉ ch := fun z => (hch c z).2.2.1 x c e rfl
    by_cases hc : c ∈ X.fs
    · obtain ⟨sl, q⟩ := slot c o (I.cne x c e) hc nch ho (I.freeC x c e)
      exact ⟨_, q, hd⟩
    · exact ⟨o, keep c o (I.cne x c e) hc nch ho (I.freeC x c e), hd⟩
  refine ⟨I.ok, I.os, hg, ⟨fun b o e n hb hx => ?_, fun b o e n hb hx => ?_, fun b o e n hx => ?_, fun b o e hx => ?_, fun b xs e => tups b xs (I.base.tups b xs e), fun b o xs e => frzs b o xs (I.base.frzs b o xs e), fun b ps e => ?_⟩, ?_, fun x c e => ?_, ?_, fun x c e => ?_, fun p hp => ?_, hok, I.len⟩
  · exact keep b o (neL b o e) hb (neC b o e hx) (I.base.keep b o e n hb hx) (I.base.free b o e n hx)
  · obtain ⟨sl, e1⟩ := I.base.slot b o e n hb hx
    obtain ⟨sl', e2⟩ := slot b _ (neL b o e) hb (neC b o e hx) e1 (I.base.free b o e n hx)
    exact ⟨sl', e2⟩
  · obtain ⟨o', e1⟩ := I.base.there b o e hx
    exact free b o' (neC b o e hx) e1 (I.base.free b o e n hx)
  · obtain ⟨o', e1⟩ := I.base.there b o e hx
    exact there b o' (neC b o e hx) e1
  · obtain ⟨m1, e1⟩ := I.base.tbls b ps e
    obtain ⟨m2, e2⟩ := tbls b _ e1
    exact ⟨m1 ++ m2, by rw [e2, Array.append_assoc]⟩
  · obtain ⟨m, hn, hl⟩ := I.loc
    refine ⟨m, ns m hn, fun i x v e1 e2 e3 => ?_⟩
    obtain ⟨u, r, l⟩ := hl i x v e1 e2 e3
    refine ⟨u, r, ?_⟩
    rcases l with l | ⟨k, c, e, z⟩
    · exact .inl l
    · exact .inr ⟨k, c, e, cellK x c e _ z⟩
  · obtain ⟨v, z⟩ := I.cell x c e
    exact ⟨v, cellK x c e v z⟩
  · obtain ⟨m, ⟨o, _, _, ho, _⟩, _⟩ := I.loc
    exact free _ o (fun z => (hch _ z).2.1 rfl) ho I.free
  · obtain ⟨v, o, ho, hd⟩ := I.cell x c e
    exact free c o (fun z => (hch c z).2.2.1 x c e rfl) ho (I.freeC x c e)
  · obtain ⟨e, n, ne, nf, d⟩ := I.pin p hp
    have nch : p.1 ∉ ch := fun z => (hch p.1 z).2.2.2 p hp rfl
    exact ⟨keep p.1 p.2 ne nf nch e n, free p.1 p.2 nch e n, ne, nf, d⟩
theorem Inv.un {t' : Nat} (I : Inv X pins σ H s) (u : Un X.fs [] H H' s.heap h') (hok : HOk X.prog X.w H' h') : Inv X pins σ H' { s with heap := h', toks := t' } := by
  obtain ⟨m, ⟨o, es, ep, ho, r⟩, _⟩ := id I.loc
  obtain ⟨sl, hL⟩ := u.any ho I.free (by simp)
  exact I.step (g' := s.gens) (d' := s.drawn) (ch := []) (fun _ z => nomatch z) (fun b o _ hb _ e n => u.keep b o e n hb (by simp)) (fun b o _ hb _ e n => u.slot b o e n hb (by simp)) (fun b o _ e n => u.free b o e n (by simp)) (fun b o _ e => u.there b o e (by simp)) u.tups u.frzs u.tbls (fun m' hm => by
    obtain ⟨o', es', ep', ho', r'⟩ := hm
    rw [ho] at ho'; cases ho'
    exact ⟨_, es', ep', hL, r'⟩) hok I.bare
theorem Inv.call {g' : Array GenState} {t' : Nat} {d' : Drawn} {ch : List Addr} (I : Inv X pins σ H s) (u : Un (frs X.stack) ch H H' s.heap h') (hok : HOk X.prog X.w H' h') (hg : AllBare g')
    (hch : ∀ b ∈ ch, (b ∈ X.ex ∨ X.s₀.heap.objs.size ≤ b) ∧ b ≠ X.env.locals ∧ (∀ x c, X.env.cells.lookup x = some c → c ≠ b) ∧ ∀ p ∈ X.pn ++ pins, p.1 ≠ b) :
    Inv X pins σ H' { s with heap := h', gens := g', drawn := d', toks := t' } := by
  obtain ⟨m, ⟨o, es, ep, ho, r⟩, _⟩ := id I.loc
  obtain ⟨sl, hL⟩ := u.any ho I.free fun z => (hch _ z).2.1 rfl
  exact I.step (ch := ch) hch (fun b o hL hb hc e n => u.keep b o e n (fun z => (List.mem_cons.mp (I.stkSub b z)).elim hL hb) hc) (fun b o _ _ hc e n => u.any e n hc) (fun b o hc e n => u.free b o e n hc) (fun b o hc e => u.there b o e hc) u.tups u.frzs u.tbls (fun m' hm => by
    obtain ⟨o', es', ep', ho', r'⟩ := hm
    rw [ho] at ho'; cases ho'
    exact ⟨_, es', ep', hL, r'⟩) hok hg
theorem Inv.turned {t' : Nat} {it : Addr} (I : Inv X pins σ H s) (k : ∀ b o, b ≠ it → s.heap.get? b = some o → h'.get? b = some o) (hn : H it = none) (hL : it ≠ X.env.locals)
    (h1 : it ∈ X.ex ∨ X.s₀.heap.objs.size ≤ it) (h2 : ∀ x c, X.env.cells.lookup x = some c → c ≠ it) (h3 : ∀ p ∈ X.pn ++ pins, p.1 ≠ it) : Inv X pins σ H { s with heap := h', toks := t' } := by
  have nit : ∀ b u, H b = some u → b ≠ it := fun b u e z => by rw [z, hn] at e; cases e
  refine I.step (g' := s.gens) (d' := s.drawn) (ch := [it]) (fun b hb => ?_) (fun b o _ _ hc e _ => k b o (fun z => hc (by simp [z])) e) (fun b o _ _ hc e _ => ⟨o.slots, k b o (fun z => hc (by simp [z])) e⟩) (fun _ _ _ _ n => n)
    (fun b o hc e => ⟨o, k b o (fun z => hc (by simp [z])) e⟩) (fun _ _ e => e) (fun _ _ _ e => e) (fun b ps e => ⟨#[], by rw [e]; simp⟩) (fun m hm => ?_) (fun b u e => ?_) I.bare
  · have e : b = it := by simpa using hb
    subst e
    exact ⟨h1, hL, h2, h3⟩
  · obtain ⟨o, es, ep, ho, r⟩ := hm
    exact ⟨o, es, ep, k _ o (Ne.symm hL) ho, r⟩
  · refine (I.hok b u e).stay (fun c v hc q => k c v ?_ q) (fun _ q => q) fun _ _ q => q
    rcases hc with z | z
    · rw [z]; exact nit b u e
    · exact nit c _ z
theorem Inv.tok (I : Inv X pins σ H s) (t : Nat) : Inv X pins σ H { s with toks := t } := I.un (h' := s.heap) (t' := t) Un.refl I.hok
theorem Inv.kept {t' : Nat} (I : Inv X pins σ H s) (k : ∀ b u, s.heap.get? b = some u → h'.get? b = some u) : Inv X pins σ H { s with heap := h', toks := t' } := I.un (Un.kept k) (I.hok.kept k)
theorem Inv.laid {a : Addr} {o : HO} {t' : Nat} (I : Inv X pins σ H s) (k : ∀ b u, s.heap.get? b = some u → h'.get? b = some u) (hp : s.heap.objs.size ≤ a) (new : ObjOk X.prog X.w (upd H a o) h' a o) :
    Inv X pins σ (upd H a o) { s with heap := h', toks := t' } := I.un (Un.laid k hp (I.hok.fresh hp)) (I.hok.laid k hp new)
theorem Inv.write {x e : Addr} {o : HO} {t' : Nat} (I : Inv X pins σ H s) (mu : Mut (H x)) (he : e = x ∨ H e = some (.own x)) (k : ∀ b u, b ≠ e → s.heap.get? b = some u → h'.get? b = some u) (heo : ∃ u, h'.get? e = some u)
    (new : ObjOk X.prog X.w (upd H x o) h' x o) : Inv X pins σ (upd H x o) { s with heap := h', toks := t' } := I.un (Un.write mu he k heo) (I.hok.write mu he k heo new)
theorem Inv.pins_of {pins' : List (Addr × Obj)} (I : Inv X pins σ H s) (h : ∀ p ∈ pins', s.heap.get? p.1 = some p.2 ∧ H p.1 = none ∧ p.1 ≠ X.env.locals ∧ p.1 ∉ X.fs ∧ ∀ v, p.2.data ≠ .cell v) : Inv X pins' σ H s :=
  ⟨I.ok, I.os, I.bare, I.base, I.loc, I.cell, I.free, I.freeC, fun p hp => (List.mem_append.mp hp).elim (fun z => I.pin p (List.mem_append_left _ z)) (h p), I.hok, I.len⟩

theorem nodup_ix {N : List Str} (hN : N.Nodup) {i j : Nat} {x : Str} (a : N[i]? = some x) (b : N[j]? = some x) : i = j := by
  obtain ⟨h1, e1⟩ := List.getElem?_eq_some_iff.mp a
  obtain ⟨h2, e2⟩ := List.getElem?_eq_some_iff.mp b
  exact (List.getElem_inj hN).mp (e1.trans e2.symm)

theorem store_ok2 {M : Model} {A : Around} {E : Value → Shared → Prop} {i : Nat} {x : Str} {v : V} {u : Value} {Q : Unit → Shared → Prop} (I : Inv X pins σ H s) (hN : X.N.Nodup) (hi : X.N[i]? = some x) (hx : Loc X.env.scope x) (r : RelV v u)
    (h : ∀ s', Inv X pins (σ.set i (some v)) H s' → (∃ a, Heap.SameBut a s.heap s'.heap ∧ (a = X.env.locals ∨ X.env.cells.lookup x = some a)) → Q () s') (hf : X.fn x = true ∨ X.env.scope.names.lookup x = some .local := by first | exact .inl rfl | exact .inr rfl | assumption) : wpAny M A (storeName X.env x u) Q E s := by
  obtain ⟨m, hn, hl⟩ := id I.loc
  have hcls : (X.env.scope.kind == .class || (X.env.scope.kind == .module && X.env.locals != X.env.globals)) = false := by rw [I.ok.kind]; rfl
  have hiσ : i < σ.length := by rw [I.len]; exact (List.getElem?_eq_some_iff.mp hi).1
  have cne := I.cne
  have tracked : ∀ {a : Addr} {h' : Heap}, (∃ o, s.heap.get? a = some o ∧ H a = none) → Heap.SameBut a s.heap h' → HOk X.prog X.w H h' := fun {a h'} ha hs b ob e => by
    obtain ⟨_, _, hfree⟩ := ha
    refine (I.hok b ob e).stay (fun c w' hc q => (hs.2 c ?_).trans q) (fun _ q => q) fun _ _ q => q
    rintro rfl
    rcases hc with rfl | hc
    · rw [hfree] at e; cases e
    · rw [hfree] at hc; cases hc
  rcases hx with hk | hk
  · refine wpAny_storeName_local hk hn (fun h' hn' hs => ?_) hcls
    obtain ⟨oL, _, _, hoL, _⟩ := id hn
    refine h _ ⟨I.ok, I.os, I.bare, ⟨fun b o e n hb hx => ?_, fun b o e n hb hx => ?_, I.base.free, fun b o e hx => ?_, I.base.tups, I.base.frzs, I.base.tbls⟩, ⟨_, hn', fun j y v' e1 e2 e3 => ?_⟩, fun y c e => ?_, I.free, I.freeC, fun p hp => ?_, tracked ⟨oL, hoL, I.free⟩ hs, by simpa using I.len⟩ ⟨_, hs, .inl rfl⟩
    · exact (hs.2 b (Nat.ne_of_lt (Nat.lt_of_lt_of_le (Heap.lt_size e) I.ok.above))).trans (I.base.keep b o e n hb hx)
    · obtain ⟨sl, e1⟩ := I.base.slot b o e n hb hx
      exact ⟨sl, (hs.2 b (Nat.ne_of_lt (Nat.lt_of_lt_of_le (Heap.lt_size e) I.ok.above))).trans e1⟩
    · obtain ⟨o', e1⟩ := I.base.there b o e hx
      exact ⟨o', (hs.2 b (Nat.ne_of_lt (Nat.lt_of_lt_of_le (Heap.lt_size e) I.ok.above))).trans e1⟩
    · by_cases hj : j = i
      · subst hj
        rw [hi] at e1; cases e1
        rw [List.getElem?_set_self hiσ] at e2
        cases e2
        exact ⟨u, r, .inl ⟨hk, by simp⟩⟩
      · rw [List.getElem?_set_ne (Ne.symm hj)] at e2
        obtain ⟨u', r', q⟩ := hl j y v' e1 e2 e3
        refine ⟨u', r', ?_⟩
        rcases q with ⟨k, e⟩ | ⟨k, c, e, z⟩
        · refine .inl ⟨k, ?_⟩
          have : y ≠ x := fun e => hj (nodup_ix hN e1 (e ▸ hi))
          simp [this, e]
        · exact .inr ⟨k, c, e, z.sameBut hs (cne y c e)⟩
    · obtain ⟨w', z⟩ := I.cell y c e
      exact ⟨w', z.sameBut hs (cne y c e)⟩
    · obtain ⟨e, n, ne, nf, d⟩ := I.pin p hp
      exact ⟨(hs.2 p.1 ne).trans e, n, ne, nf, d⟩
  · have hfn : X.fn x = true := by
      rcases hf with z | z
      · exact z
      · rw [z] at hk; cases hk
    obtain ⟨c, hc⟩ := I.ok.has x (.inl hk)
    obtain ⟨w', z⟩ := I.cell x c hc
    refine wpAny_storeName_cell I.ok.kind hk hc z (fun h' hc' hs => ?_)
    obtain ⟨oc, hoc, hocd⟩ := id z
    refine h { s with heap := h' } ⟨I.ok, I.os, I.bare, ⟨fun b o e n hb hx => ?_, fun b o e n hb hx => ?_, I.base.free, fun b o e hx => ?_, I.base.tups, I.base.frzs, I.base.tbls⟩, ⟨m, hn.sameBut hs (Ne.symm (cne x c hc)), fun j y v' e1 e2 e3 => ?_⟩, fun y c' e => ?_, I.free, I.freeC, fun p hp => ?_, tracked ⟨oc, hoc, I.freeC x c hc⟩ hs, by simpa using I.len⟩ ⟨c, hs, .inr hc⟩
    · exact (hs.2 b (Nat.ne_of_lt (Nat.lt_of_lt_of_le (Heap.lt_size e) (I.ok.cab x c hfn hc)))).trans (I.base.keep b o e n hb hx)
    · obtain ⟨sl, e1⟩ := I.base.slot b o e n hb hx
      exact ⟨sl, (hs.2 b (Nat.ne_of_lt (Nat.lt_of_lt_of_le (Heap.lt_size e) (I.ok.cab x c hfn hc)))).trans e1⟩
    · obtain ⟨o', e1⟩ := I.base.there b o e hx
      exact ⟨o', (hs.2 b (Nat.ne_of_lt (Nat.lt_of_lt_of_le (Heap.lt_size e) (I.ok.cab x c hfn hc)))).trans e1⟩
    · by_cases hj : j = i
      · subst hj
        rw [hi] at e1; cases e1
        rw [List.getElem?_set_self hiσ] at e2
        cases e2
        exact ⟨u, r, .inr ⟨.inl hk, c, hc, hc'⟩⟩
      · rw [List.getElem?_set_ne (Ne.symm hj)] at e2
        obtain ⟨u', r', q⟩ := hl j y v' e1 e2 e3
        refine ⟨u', r', ?_⟩
        rcases q with q | ⟨k, c', e, z'⟩
        · exact .inl q
        · refine .inr ⟨k, c', e, z'.sameBut hs ?_⟩
          rintro rfl
          exact hj (nodup_ix hN e1 (I.ok.inj _ _ _ e hc ▸ hi))
    · by_cases hcc : c' = c
      · subst hcc; exact ⟨_, hc'⟩
      · obtain ⟨w2, z2⟩ := I.cell y c' e
        exact ⟨w2, z2.sameBut hs hcc⟩
    · obtain ⟨e, n, ne, nf, d⟩ := I.pin p hp
      refine ⟨(hs.2 p.1 ?_).trans e, n, ne, nf, d⟩
      intro q
      rw [q, hoc] at e
      have q' : oc = p.2 := Option.some.inj e
      exact d w' (by rw [← q']; exact hocd)
theorem store_ok {M : Model} {A : Around} {E : Value → Shared → Prop} {i : Nat} {x : Str} {v : V} {u : Value} {Q : Unit → Shared → Prop} (I : Inv X pins σ H s) (hN : X.N.Nodup) (hi : X.N[i]? = some x) (hx : Loc X.env.scope x) (r : RelV v u)
    (h : ∀ s', Inv X pins (σ.set i (some v)) H s' → Q () s') (hf : X.fn x = true ∨ X.env.scope.names.lookup x = some .local := by first | exact .inl rfl | exact .inr rfl | assumption) : wpAny M A (storeName X.env x u) Q E s :=
  store_ok2 I hN hi hx r (fun s' I' _ => h s' I') hf
theorem Inv.call' {s' : Shared} {ch : List Addr} (I : Inv X pins σ H s) (ho : s'.os = s.os) (u : Un (frs X.stack) ch H H' s.heap s'.heap) (hok : HOk X.prog X.w H' s'.heap) (hg : AllBare s'.gens)
    (hch : ∀ b ∈ ch, (b ∈ X.ex ∨ X.s₀.heap.objs.size ≤ b) ∧ b ≠ X.env.locals ∧ (∀ x c, X.env.cells.lookup x = some c → c ≠ b) ∧ ∀ p ∈ X.pn ++ pins, p.1 ≠ b) : Inv X pins σ H' s' := by
  obtain ⟨h', g', d', t', o'⟩ := s'
  have e : o' = s.os := ho
  subst e
  exact I.call (g' := g') (t' := t') (d' := d') u hok hg hch
end

abbrev XK := Value → Option Addr → Hp → Prop
abbrev St := List (Option V)
abbrev VK := V → Hp → Prop
abbrev TE := St → Hp → VK → Prop
abbrev TT := St → Hp → (Bool → Hp → Prop) → Prop
abbrev TA := St → Hp → (List V → Hp → Prop) → Prop
structure Ends where
  nx : St → Hp → Prop
  rt : VK
  bk : St → Hp → Prop := fun _ _ => False
  ct : St → Hp → Prop := fun _ _ => False
abbrev TS := Ends → St → Hp → Prop

def EP (X : Cx) (pins : List (Addr × Obj)) (σ : St) (Q : VK) (u : Value) (s' : Shared) : Prop := ∃ v H', Inv X pins σ H' s' ∧ RelV v u ∧ Q v H'
def TP (X : Cx) (pins : List (Addr × Obj)) (σ : St) (Q : Bool → Hp → Prop) (b : Bool) (s' : Shared) : Prop := ∃ H', Inv X pins σ H' s' ∧ Q b H'
def AP (X : Cx) (pins : List (Addr × Obj)) (σ : St) (Q : List V → Hp → Prop) (us : List Value) (s' : Shared) : Prop := ∃ vs H', Inv X pins σ H' s' ∧ Vals vs us ∧ Q vs H'
def SP (X : Cx) (pins : List (Addr × Obj)) (D : Ends) (f : Flow) (s' : Shared) : Prop :=
  match f with
  | .next => ∃ σ' H', Inv X pins σ' H' s' ∧ D.nx σ' H'
  | .brk => ∃ σ' H', Inv X pins σ' H' s' ∧ D.bk σ' H'
  | .cont => ∃ σ' H', Inv X pins σ' H' s' ∧ D.ct σ' H'
  | .ret u => ∃ v σ' H', Inv X pins σ' H' s' ∧ RelV v u ∧ D.rt v H'

def PE (X : Cx) (e : Expr) (t : TE) : Prop :=
  ∀ (pins : List (Addr × Obj)) (s : Shared) (σ : St) (H : Hp) (Q : VK), Inv X pins σ H s → t σ H Q → wpAny (model X.prog X.w) X.A (eval e X.env) (EP X pins σ Q) X.xe s
def PT (X : Cx) (e : Expr) (t : TT) : Prop :=
  ∀ (pins : List (Addr × Obj)) (s : Shared) (σ : St) (H : Hp) (Q : Bool → Hp → Prop), Inv X pins σ H s → t σ H Q → wpAny (model X.prog X.w) X.A (isTrue e X.env (eval e X.env)) (TP X pins σ Q) X.xe s
def PW (X : Cx) (e : Expr) (t : TT) : Prop :=
  ∀ (whole : Sem Value) (pins : List (Addr × Obj)) (s : Shared) (σ : St) (H : Hp) (Q : Bool → Hp → Prop), Inv X pins σ H s → t σ H Q → wpAny (model X.prog X.w) X.A (isTrue e X.env whole) (TP X pins σ Q) X.xe s
theorem PW.pt {X : Cx} {e : Expr} {t : TT} (h : PW X e t) : PT X e t := h _
def PA (X : Cx) (es : List Expr) (t : TA) : Prop :=
  ∀ (pos : Pos) (pins : List (Addr × Obj)) (s : Shared) (σ : St) (H : Hp) (Q : List V → Hp → Prop), Inv X pins σ H s → t σ H Q → wpAny (model X.prog X.w) X.A (spliced (backTo pos (starEach es X.env))) (AP X pins σ Q) X.xe s
def PS (X : Cx) (st : Stmt) (t : TS) : Prop :=
  ∀ (pins : List (Addr × Obj)) (s : Shared) (σ : St) (H : Hp) (D : Ends), Inv X pins σ H s → t D σ H → wpAny (model X.prog X.w) X.A (exec st X.env) (SP X pins D) X.xe s
def PSs (X : Cx) (st : List Stmt) (t : TS) : Prop :=
  ∀ (pins : List (Addr × Obj)) (s : Shared) (σ : St) (H : Hp) (D : Ends), Inv X pins σ H s → t D σ H → wpAny (model X.prog X.w) X.A (execs st X.env) (SP X pins D) X.xe s
theorem thn {α : Type} {t : Sem α} {Q Q' : α → Shared → Prop} {M : Model} {A : Around} {E : Value → Shared → Prop} {s : Shared} (h : wpAny M A t Q E s) (hQ : ∀ a s, Q a s → Q' a s) : wpAny M A t Q' E s := wpAny_mono h hQ fun _ _ x => x
end L2

namespace L2
open PySem PySem.Spec PyProof.Rows
section
variable {X : Cx}

def tVar (i : Nat) : TE := fun σ H Q => ∃ v, σ[i]? = some (some v) ∧ Q v H
def tC (v : V) : TE := fun _ H Q => Q v H
theorem pe_var {i : Nat} {x : Str} {pos : Pos} (hN : X.N[i]? = some x) (hv : Vis X.env.scope x) (hd : (x == ("__debug__" : Str)) = false := by decide) (hcd : (x == ("__classdict__" : Str)) = false := by decide) : PE X (.Name x pos) (tVar i) := by
  intro pins s σ H Q I h
  obtain ⟨v, e, h⟩ := h
  obtain ⟨m, hn, hl⟩ := I.loc
  obtain ⟨u, r, l⟩ := hl i x v hN e hv
  have fin : EP X pins σ Q u s := ⟨v, H, I, r, h⟩
  rcases l with ⟨hk, hm⟩ | ⟨hk, c, hc, hcell⟩
  · exact wpAny_Name (wpAny_loadName_local I.ok.kind hk hn hm fin) hd
  · rcases hk with hk | hk
    · exact wpAny_Name (wpAny_loadName_cell I.ok.kind hk hc hcell fin) hd
    · exact wpAny_Name (wpAny_loadName_free I.ok.kind hk hc hcell fin hcd) hd
theorem pe_int {i j pos} : PE X (.Constant (.int i) j pos) (tC (.int i)) := fun _ _ _ H _ I h => wpAny_Constant_int ⟨.int i, H, I.tok _, ⟨_, rfl⟩, h⟩
theorem pe_bl {b j pos} : PE X (.Constant (.bool b) j pos) (tC (.bl b)) := fun _ _ _ H _ I h => Constant_bool ⟨.bl b, H, I, rfl, h⟩
theorem pe_non {j pos} : PE X (.Constant .none j pos) (tC .non) := fun _ _ _ H _ I h => Constant_none ⟨.non, H, I, rfl, h⟩
theorem pe_str {x j pos} : PE X (.Constant (.str x) j pos) (tC (.str x)) := fun _ _ _ H _ I h => Calls.Constant_str ⟨.str x, H, I.tok _, ⟨_, rfl⟩, h⟩

def Gl (X : Cx) (x : Str) : Prop := X.env.kindOf x = some .globalImplicit
theorem ld_glob {E : Value → Shared → Prop} {pins : List (Addr × Obj)} {s : Shared} {σ : St} {H : Hp} {x : Str} {u : Value} {pos : Pos} {Q : Value → Shared → Prop} (I : Inv X pins σ H s) (hg : Gl X x) (hm : X.mg x = some u) (h : Q u s)
    (hd : (x == ("__debug__" : Str)) = false := by decide) : wpAny (model X.prog X.w) X.A (eval (.Name x pos) X.env) Q E s :=
  Calls.Name_function_global I.ok.kind hg (Calls.loadGlobal_global (by rw [I.ok.glob]; exact I.mod.glob.keeps I.bk) hm h) hd
theorem ld_blt {E : Value → Shared → Prop} {pins : List (Addr × Obj)} {s : Shared} {σ : St} {H : Hp} {x : Str} {u : Value} {pos : Pos} {Q : Value → Shared → Prop} (I : Inv X pins σ H s) (hg : Gl X x) (hm : X.mg x = none) (hv : bootBuiltins x = some u) (h : Q u s)
    (hn : x ≠ "__name__" := by decide) (hd : (x == ("__debug__" : Str)) = false := by decide) : wpAny (model X.prog X.w) X.A (eval (.Name x pos) X.env) Q E s := by
  obtain ⟨mb, h1, h2⟩ := I.mod.blt
  exact Calls.Name_function_global I.ok.kind hg (Calls.loadGlobal_builtin (by rw [I.ok.glob]; exact I.mod.glob.keeps I.bk) hm (by rw [I.ok.blt]; exact h1.keeps I.bk) ((h2 x hn).trans hv) h) hd
theorem pe_glob {x : Str} {v : V} {u : Value} {pos : Pos} (hg : Gl X x) (hm : X.mg x = some u) (r : RelV v u) (hd : (x == ("__debug__" : Str)) = false := by decide) : PE X (.Name x pos) (tC v) :=
  fun _ _ _ H _ I h => ld_glob I hg hm ⟨v, H, I, r, h⟩ hd
theorem pe_bltn {x : Str} {v : V} {u : Value} {pos : Pos} (hg : Gl X x) (hm : X.mg x = none) (hv : bootBuiltins x = some u) (r : RelV v u) (hn : x ≠ "__name__" := by decide) (hd : (x == ("__debug__" : Str)) = false := by decide) : PE X (.Name x pos) (tC v) :=
  fun _ _ _ H _ I h => ld_blt I hg hm hv ⟨v, H, I, r, h⟩ hn hd

def t2I (ta tb : TE) (k : Int → Int → Hp → Prop) : St → Hp → Prop := fun σ H => ta σ H fun x H1 => tb σ H1 fun y H2 => ∃ i j, x = .int i ∧ y = .int j ∧ k i j H2
def tAdd (ta tb : TE) : TE := fun σ H Q => t2I ta tb (fun i j H2 => Q (.int (i + j)) H2) σ H
def tSub (ta tb : TE) : TE := fun σ H Q => t2I ta tb (fun i j H2 => Q (.int (i - j)) H2) σ H
def tMul (ta tb : TE) : TE := fun σ H Q => t2I ta tb (fun i j H2 => (-(2 ^ 64) < i ∧ i < 2 ^ 64) ∧ Q (.int (i * j)) H2) σ H
variable {a b : Expr} {ta tb : TE} {pos : Pos}
def PC (X : Cx) (op : CmpOp) (a b : Expr) (t : TE) : Prop :=
  ∀ (pins : List (Addr × Obj)) (s : Shared) (σ : St) (H : Hp) (Q : VK), Inv X pins σ H s → t σ H Q →
    wpAny (model X.prog X.w) X.A (eval a X.env) (fun v s₁ => wpAny (model X.prog X.w) X.A (eval b X.env) (fun u s₂ => wpAny (model X.prog X.w) X.A (compareOp op v u) (EP X pins σ Q) X.xe s₂) X.xe s₁) X.xe s
theorem nobehind (b : Expr) {op : CmpOp} (h : op ≠ .In) (h2 : op ≠ .NotIn) : behindInMarks op b = false := by
  have e1 : (op == CmpOp.In) = false := by cases op <;> first | rfl | exact absurd rfl h
  have e2 : (op == CmpOp.NotIn) = false := by cases op <;> first | rfl | exact absurd rfl h2
  cases b <;> simp [behindInMarks, e1, e2]
def tCmp (p : Int → Int → Bool) (ta tb : TE) : TE := fun σ H Q => t2I ta tb (fun i j H2 => Q (.bl (p i j)) H2) σ H
abbrev tLt : TE → TE → TE := tCmp fun i j => decide (i < j)
abbrev tLe : TE → TE → TE := tCmp fun i j => decide (i ≤ j)
abbrev tGt : TE → TE → TE := tCmp fun i j => decide (j < i)
abbrev tGe : TE → TE → TE := tCmp fun i j => decide (j ≤ i)
abbrev tEqI : TE → TE → TE := tCmp fun i j => decide (i = j)
abbrev tNeI : TE → TE → TE := tCmp fun i j => !decide (i = j)
def tIsN (ta : TE) : TE := fun σ H Q => ta σ H fun x H1 => Q (.bl (decide (x = .non))) H1
def tNotN (ta : TE) : TE := fun σ H Q => ta σ H fun x H1 => Q (.bl (!decide (x = .non))) H1
def tB (t : TE) : TT := fun σ H Q => t σ H fun x H1 => ∃ c, x = .bl c ∧ Q c H1
theorem pe_cmp {op : CmpOp} {t : TE} (h : PC X op a b t) (h1 : behindInMarks op b = false := by first | exact nobehind _ (by decide) (by decide) | rfl) : PE X (.Compare a [op] [b] pos) t := fun pins s σ H Q I hw => wpAny_Compare1 (h pins s σ H Q I hw) h1
theorem pt_cmp {op : CmpOp} {t : TE} (h : PC X op a b t) (h1 : behindInMarks op b = false := by first | exact nobehind _ (by decide) (by decide) | rfl) : PT X (.Compare a [op] [b] pos) (tB t) := by
  intro pins s σ H Q I hw
  refine wpAny_isTrue_Compare1 (thn (h pins s σ H _ I hw) fun v s1 h1 => thn h1 fun u s2 h2 => thn h2 fun c s3 ⟨x, H1, I1, r1, q1⟩ => ?_) h1
  obtain ⟨d, rfl, q⟩ := q1
  cases r1
  exact wpAny_truthy_bool ⟨H1, I1, q⟩
theorem pt_val {e : Expr} {t : TE} (h : PE X e t) (he : ∀ whole, isTrue e X.env whole = (do let v ← whole; standAt e.pos; holding [v] (truthy v)) := by intro _; rfl) : PT X e (tB t) := by
  intro pins s σ H Q I hw
  refine isTrue_plain (thn (h pins s σ H _ I hw) fun v s1 ⟨x, H1, I1, r1, q1⟩ => ?_) (he _)
  obtain ⟨d, rfl, q⟩ := q1
  cases r1
  exact wpAny_truthy_bool ⟨H1, I1, q⟩

variable {tA tB' : TT} {rest : List Expr}
def tAnd (t u : TT) : TT := fun σ H Q => t σ H fun c H1 => if c = true then u σ H1 Q else Q false H1
def tOr (t u : TT) : TT := fun σ H Q => t σ H fun c H1 => if c = true then Q true H1 else u σ H1 Q
def tNot (t : TT) : TT := fun σ H Q => t σ H fun c H1 => Q (!c) H1
theorem pw_and1 (ha : PT X a tA) : PW X (.BoolOp .And [a] pos) tA := by
  intro wh pins s σ H Q I h
  refine isTrue_and (thn (ha pins s σ H Q I h) fun c s1 e => ?_)
  cases c with
  | true => exact isTrue_and_nil e
  | false => exact e
theorem pw_or1 (ha : PT X a tA) : PW X (.BoolOp .Or [a] pos) tA := by
  intro wh pins s σ H Q I h
  refine isTrue_or (thn (ha pins s σ H Q I h) fun c s1 e => ?_)
  cases c with
  | false => exact isTrue_or_nil e
  | true => exact e
theorem pw_and (ha : PT X a tA) (hb : PW X (.BoolOp .And (b :: rest) pos) tB') : PW X (.BoolOp .And (a :: b :: rest) pos) (tAnd tA tB') := by
  intro wh pins s σ H Q I h
  refine isTrue_and (thn (ha pins s σ H _ I h) fun c s1 ⟨H1, I1, q1⟩ => ?_)
  cases c with
  | true => exact hb wh pins s1 σ H1 Q I1 q1
  | false => exact ⟨H1, I1, q1⟩
theorem pw_or (ha : PT X a tA) (hb : PW X (.BoolOp .Or (b :: rest) pos) tB') : PW X (.BoolOp .Or (a :: b :: rest) pos) (tOr tA tB') := by
  intro wh pins s σ H Q I h
  refine isTrue_or (thn (ha pins s σ H _ I h) fun c s1 ⟨H1, I1, q1⟩ => ?_)
  cases c with
  | true => exact ⟨H1, I1, q1⟩
  | false => exact hb wh pins s1 σ H1 Q I1 q1
theorem pt_not (ha : PT X a tA) : PT X (.UnaryOp .Not a pos) (tNot tA) := by
  intro pins s σ H Q I h
  exact isTrue_not (ha pins s σ H (fun c H1 => Q (!c) H1) I h)
def tAndV (ta tb : TE) : TE := fun σ H Q => ta σ H fun x H1 => ∃ c, x = .bl c ∧ if c = true then tb σ H1 Q else Q (.bl false) H1
def tOrV (ta tb : TE) : TE := fun σ H Q => ta σ H fun x H1 => ∃ c, x = .bl c ∧ if c = true then Q (.bl true) H1 else tb σ H1 Q
def tNotV (ta : TE) : TE := fun σ H Q => ta σ H fun x H1 => ∃ c, x = .bl c ∧ Q (.bl (!c)) H1
def tIf (t : TT) (ta tb : TE) : TE := fun σ H Q => t σ H fun c H1 => if c = true then ta σ H1 Q else tb σ H1 Q
theorem pe_ifExp {c : Expr} (hc : PT X c tA) (ha : PE X a ta) (hb : PE X b tb) : PE X (.IfExp c a b pos) (tIf tA ta tb) := by
  intro pins s σ H Q I h
  refine wpAny_IfExp (thn (hc pins s σ H _ I h) fun d s1 ⟨H1, I1, q1⟩ => ?_)
  cases d with
  | true => exact ha pins s1 σ H1 Q I1 q1
  | false => exact hb pins s1 σ H1 Q I1 q1
end
end L2

namespace L2
open PySem PySem.Spec PyProof.Rows

def SqL (K : PySem.W.Frag) (H : Hp) (a : Addr) (xs : List V) : Prop :=
  Rd H a (.lst xs) ∨
    ∃ (o : Obj) (its : Array Value) (n : Nat), K.lookup a = some o ∧ o.cls = .type "list" ∧ o.dict = none ∧ o.data = .seq its n ∧ its.size ≤ sizeLine ∧ Vals xs its.toList
def SqT (K : PySem.W.Frag) (H : Hp) (a : Addr) (xs : List V) : Prop :=
  Rd H a (.tup xs) ∨
    ∃ (o : Obj) (its : Array Value) (n : Nat), K.lookup a = some o ∧ o.cls = .type "tuple" ∧ o.data = .seq its n ∧ its.size ≤ sizeLine ∧ Vals xs its.toList
def absV : Value → Option V
  | .none => some .non
  | .bool b => some (.bl b)
  | .int i _ => some (.int i)
  | .str x _ => some (.str x)
  | .bytes b _ => some (.byt b)
  | .float b _ => some (.flt b)
  | .ref a => some (.ref a)
  | .type n => some (.ty n)
  | _ => none
theorem RelV.abs {x : V} {u : Value} (r : RelV x u) : absV u = some x := by
  cases x with
  | non => cases r; rfl
  | bl _ => cases r; rfl
  | int _ => obtain ⟨t, rfl⟩ := r; rfl
  | str _ => obtain ⟨t, rfl⟩ := r; rfl
  | byt _ => obtain ⟨t, rfl⟩ := r; rfl
  | flt _ => obtain ⟨t, rfl⟩ := r; rfl
  | ref _ => cases r; rfl
  | ty _ => cases r; rfl
theorem RelV.inj {x y : V} {u : Value} (r : RelV x u) (q : RelV y u) : x = y := Option.some.inj (r.abs.symm.trans q.abs)
theorem Vals.inj : ∀ {xs ys : List V} {us : List Value}, Vals xs us → Vals ys us → xs = ys
  | _, _, _, .nil, .nil => rfl
  | _, _, _, .cons r t, .cons r' t' => by rw [r.inj r', Vals.inj t t']
section
variable {X : Cx} {pins : List (Addr × Obj)} {σ : St} {H : Hp} {s : Shared} {a : Addr} {xs ys : List V}
theorem SqL.of {K : PySem.W.Frag} (h : H a = some (.lst xs)) : SqL K H a xs := .inl (.inl h)
theorem SqT.of {K : PySem.W.Frag} (h : H a = some (.tup xs)) : SqT K H a xs := .inl (.inl h)
theorem Inv.list (I : Inv X pins σ H s) (h : SqL X.K H a xs) : ∃ its : List Value, Vals xs its ∧ PlainL s.heap a its.toArray ∧ xs.length ≤ sizeLine := by
  rcases h with h | ⟨o, its, n, hk, hc, hd, hs, hz, r⟩
  · obtain ⟨z, its, n, r, e⟩ := h.ok I.hok
    exact ⟨its, r, ⟨_, n, e, rfl, rfl, rfl⟩, z⟩
  · refine ⟨its.toList, r, ⟨o, n, I.kIn a o hk, hc, hd, by simpa using hs⟩, ?_⟩
    have e := r.length
    simp only [Array.length_toList] at e
    omega
theorem Inv.tuple (I : Inv X pins σ H s) (h : SqT X.K H a xs) : ∃ its : List Value, Vals xs its ∧ IsTup s.heap a its.toArray ∧ xs.length ≤ sizeLine := by
  rcases h with h | ⟨o, its, n, hk, hc, hs, hz, r⟩
  · obtain ⟨z, its, r, p⟩ := h.ok I.hok
    exact ⟨its, r, p, z⟩
  · refine ⟨its.toList, r, ⟨o, I.kIn a o hk, hc, n, by simpa using hs⟩, ?_⟩
    have e := r.length
    simp only [Array.length_toList] at e
    omega
theorem Inv.list_inj (I : Inv X pins σ H s) (h : SqL X.K H a xs) (h' : SqL X.K H a ys) : xs = ys := by
  obtain ⟨its, r, ⟨o, n, e, _, _, d⟩, _⟩ := I.list h
  obtain ⟨its', r', ⟨o', n', e', _, _, d'⟩, _⟩ := I.list h'
  rw [e] at e'; cases e'
  rw [d] at d'
  injection d' with d1 _
  have : its = its' := by simpa using congrArg Array.toList d1
  subst this
  exact r.inj r'
theorem Inv.tuple_inj (I : Inv X pins σ H s) (h : SqT X.K H a xs) (h' : SqT X.K H a ys) : xs = ys := by
  obtain ⟨its, r, ⟨o, e, _, n, d⟩, _⟩ := I.tuple h
  obtain ⟨its', r', ⟨o', e', _, n', d'⟩, _⟩ := I.tuple h'
  rw [e] at e'; cases e'
  rw [d] at d'
  injection d' with d1 _
  have : its = its' := by simpa using congrArg Array.toList d1
  subst this
  exact r.inj r'
end

abbrev Cx.wish (X : Cx) (E : Value → Shared → Prop) : Cx := { X with xe := E }
abbrev Cx.nox (X : Cx) : Cx := X.wish fun _ _ => False
theorem Cx.Ok.wish {X : Cx} (ok : X.Ok) (E : Value → Shared → Prop) : (X.wish E).Ok :=
  ⟨ok.mod, ok.kind, ok.glob, ok.blt, ok.above, ok.inj, ok.has, ok.cab, ok.hd, ok.frames, ok.stk, ok.exf, ok.bs, ok.bsz, ok.noex, ok.exfs, ok.funs, ok.frf⟩
theorem Cx.Ok.unwish {X : Cx} {E : Value → Shared → Prop} (ok : (X.wish E).Ok) : X.Ok :=
  ⟨ok.mod, ok.kind, ok.glob, ok.blt, ok.above, ok.inj, ok.has, ok.cab, ok.hd, ok.frames, ok.stk, ok.exf, ok.bs, ok.bsz, ok.noex, ok.exfs, ok.funs, ok.frf⟩
section
variable {X : Cx} {pins : List (Addr × Obj)} {σ : St} {H : Hp} {s : Shared} {E : Value → Shared → Prop}
theorem Inv.wish (I : Inv X pins σ H s) (E : Value → Shared → Prop) : Inv (X.wish E) pins σ H s := ⟨I.ok.wish E, I.os, I.bare, I.base, I.loc, I.cell, I.free, I.freeC, I.pin, I.hok, I.len⟩
theorem Inv.unwish (I : Inv (X.wish E) pins σ H s) : Inv X pins σ H s := ⟨I.ok.unwish, I.os, I.bare, I.base, I.loc, I.cell, I.free, I.freeC, I.pin, I.hok, I.len⟩
theorem SP.unwish {D : Ends} {f : Flow} {s' : Shared} (h : SP (X.wish E) pins D f s') : SP X pins D f s' := by
  cases f with
  | next => obtain ⟨σ', H', I, q⟩ := h; exact ⟨σ', H', I.unwish, q⟩
  | brk => obtain ⟨σ', H', I, q⟩ := h; exact ⟨σ', H', I.unwish, q⟩
  | cont => obtain ⟨σ', H', I, q⟩ := h; exact ⟨σ', H', I.unwish, q⟩
  | ret u => obtain ⟨v, σ', H', I, r, q⟩ := h; exact ⟨v, σ', H', I.unwish, r, q⟩
theorem PE.nox {e : Expr} {t : TE} (h : PE X.nox e t) : PE X e t := fun pins s σ H Q I hw =>
  wpAny_mono (h pins s σ H Q (I.wish _) hw) (fun _ _ ⟨v, H', I', r, q⟩ => ⟨v, H', I'.unwish, r, q⟩) fun _ _ z => False.elim z
theorem PT.nox {e : Expr} {t : TT} (h : PT X.nox e t) : PT X e t := fun pins s σ H Q I hw =>
  wpAny_mono (h pins s σ H Q (I.wish _) hw) (fun _ _ ⟨H', I', q⟩ => ⟨H', I'.unwish, q⟩) fun _ _ z => False.elim z
theorem PSs.nox {st : List Stmt} {t : TS} (h : PSs X.nox st t) : PSs X st t := fun pins s σ H D I hw =>
  wpAny_mono (h pins s σ H D (I.wish _) hw) (fun _ _ q => q.unwish) fun _ _ z => False.elim z
end

section
variable {X : Cx} {st : Stmt} {rest : List Stmt} {t u : TS} {e : Expr} {te : TE} {pos : Pos}
def tNext : TS := fun D σ H => D.nx σ H
def tSeq (t u : TS) : TS := fun D σ H => t { D with nx := u D } σ H
theorem pss_nil : PSs X [] tNext := fun _ _ σ H _ I h => wpAny_execs_nil ⟨σ, H, I, h⟩
theorem pss_cons (h1 : PS X st t) (h2 : PSs X rest u) : PSs X (st :: rest) (tSeq t u) := by
  intro pins s σ H D I h
  refine wpAny_execs_cons (thn (h1 pins s σ H { D with nx := u D } I h) fun f s1 q => ?_)
  cases f with
  | next =>
    obtain ⟨σ', H', I', q⟩ := q
    exact h2 pins s1 σ' H' D I' q
  | ret v => exact q
  | brk => exact q
  | cont => exact q
theorem pss_one (h1 : PS X st t) : PSs X [st] t := by
  intro pins s σ H D I h
  refine wpAny_execs_cons (thn (h1 pins s σ H D I h) fun f s1 q => ?_)
  cases f with
  | next => exact wpAny_execs_nil q
  | ret v => exact q
  | brk => exact q
  | cont => exact q
def tBreak : TS := fun D σ H => D.bk σ H
def tCont : TS := fun D σ H => D.ct σ H
theorem ps_continue : PS X (.Continue pos) tCont := fun _ _ σ H _ I h => wpAny_Continue ⟨σ, H, I, h⟩
theorem Inv.quiet {pins : List (Addr × Obj)} {σ : St} {H : Hp} {s : Shared} (I : Inv X pins σ H s) : interactive X.env = false := by simp [interactive, I.ok.kind]
def tDrop (te : TE) : TS := fun D σ H => te σ H fun _ H1 => D.nx σ H1
theorem ps_expr (he : PE X e te) (hs : swapsWith e none pos.line X.env = pure false := by rfl) : PS X (.Expr e pos) (tDrop te) := by
  intro pins s σ H D I h
  exact wpAny_Expr_any (thn (he pins s σ H _ I h) fun v s1 ⟨x, H1, I1, r1, q1⟩ => ⟨σ, H1, I1, q1⟩) I.quiet hs
def tRet (te : TE) : TS := fun D σ H => te σ H D.rt
theorem ps_ret (he : PE X e te) : PS X (.Return (some e) pos) (tRet te) := by
  intro pins s σ H D I h
  exact wpAny_Return_some (thn (he pins s σ H _ I h) fun v s1 ⟨x, H1, I1, r1, q1⟩ => ⟨x, σ, H1, I1, r1, q1⟩)
def tRetN : TS := fun D _ H => D.rt .non H
def tIfS (c : TT) (t u : TS) : TS := fun D σ H => c σ H fun b H1 => if b = true then t D σ H1 else u D σ H1
theorem ps_if {c : Expr} {a b : List Stmt} {tc : TT} (hc : PT X c tc) (ha : PSs X a t) (hb : PSs X b u) : PS X (.If c a b pos) (tIfS tc t u) := by
  intro pins s σ H D I h
  refine wpAny_If (thn (hc pins s σ H _ I h) fun d s1 ⟨H1, I1, q1⟩ => ?_)
  cases d with
  | true => exact ha pins s1 σ H1 D I1 q1
  | false => exact hb pins s1 σ H1 D I1 q1
def tNever : TS := fun _ _ _ => False
end

abbrev TG := V → St → Hp → (St → Hp → Prop) → Prop
abbrev TGs := List V → St → Hp → (St → Hp → Prop) → Prop
def PG (X : Cx) (target : Expr) (t : TG) : Prop :=
  ∀ (pins : List (Addr × Obj)) (s : Shared) (σ : St) (H : Hp) (v : V) (u : Value) (Q : St → Hp → Prop), Inv X pins σ H s → RelV v u → t v σ H Q →
    wpAny (model X.prog X.w) X.A (assign target X.env u) (fun _ s' => ∃ σ' H', Inv X pins σ' H' s' ∧ Q σ' H') X.xe s
def PGs (X : Cx) (ts : List Expr) (t : TGs) : Prop :=
  ∀ (pins : List (Addr × Obj)) (s : Shared) (σ : St) (H : Hp) (vs : List V) (us : List Value) (Q : St → Hp → Prop), Inv X pins σ H s → Vals vs us → t vs σ H Q →
    wpAny (model X.prog X.w) X.A (assignInOrder ((assignEach ts X.env).map (·.2)) us) (fun _ s' => ∃ σ' H', Inv X pins σ' H' s' ∧ Q σ' H') X.xe s
abbrev TSet := V → V → V → Hp → (Hp → Prop) → Prop
def PSet (X : Cx) (t : TSet) : Prop :=
  ∀ (pins : List (Addr × Obj)) (s : Shared) (σ : St) (H : Hp) (o i v : V) (ov iv u : Value) (Q : Hp → Prop), Inv X pins σ H s → RelV o ov → RelV i iv → RelV v u → t o i v H Q →
    wpAny (model X.prog X.w) X.A (setItem ov iv u) (fun _ s' => ∃ H', Inv X pins σ H' s' ∧ Q H') X.xe s
abbrev TIp := V → V → Hp → VK → Prop
def PIp (X : Cx) (op : Operator) (t : TIp) : Prop :=
  ∀ (pins : List (Addr × Obj)) (s : Shared) (σ : St) (H : Hp) (x y : V) (v u : Value) (Q : VK), Inv X pins σ H s → RelV x v → RelV y u → t x y H Q →
    wpAny (model X.prog X.w) X.A (inplaceOp op v u) (EP X pins σ Q) X.xe s
section
variable {X : Cx} {pos : Pos}
def gName (i : Nat) : TG := fun v σ H Q => Q (σ.set i (some v)) H
theorem pg_name {i : Nat} {x : Str} (hN : X.N.Nodup) (hi : X.N[i]? = some x) (hx : Loc X.env.scope x) (hf : X.fn x = true ∨ X.env.scope.names.lookup x = some .local := by first | exact .inl rfl | exact .inr rfl | assumption) : PG X (.Name x pos) (gName i) := by
  intro pins s σ H v u Q I r h
  exact wpAny_assign_Name (store_ok I hN hi hx r (fun s' I' => ⟨_, H, I', h⟩) hf)
def gNil : TGs := fun vs σ H Q => vs = [] ∧ Q σ H
def gCons (t : TG) (u : TGs) : TGs := fun vs σ H Q => ∃ v r, vs = v :: r ∧ t v σ H fun σ' H' => u r σ' H' Q
theorem pgs_nil : PGs X [] gNil := by
  intro pins s σ H vs us Q I r h
  obtain ⟨e, h⟩ := h
  subst e
  cases r
  exact assignInOrder_nil ⟨σ, H, I, h⟩
theorem pgs_cons {e : Expr} {es : List Expr} {t : TG} {u : TGs} (h1 : PG X e t) (h2 : PGs X es u)
    (hs : (assignEach (e :: es) X.env).map (·.2) = assign e X.env :: (assignEach es X.env).map (·.2) := by rfl) : PGs X (e :: es) (gCons t u) := by
  intro pins s σ H vs us Q I r h
  obtain ⟨v, vr, e1, h⟩ := h
  subst e1
  cases r with
  | cons r rr =>
    rw [hs]
    refine assignInOrder_cons (thn (h1 pins s σ H _ _ _ I r h) fun _ s1 ⟨σ1, H1, I1, q1⟩ => ?_)
    exact h2 pins s1 σ1 H1 _ _ Q I1 rr q1
def gTup (K : PySem.W.Frag) (n : Nat) (t : TGs) : TG := fun v σ H Q => ∃ a xs, v = .ref a ∧ SqT K H a xs ∧ xs.length = n ∧ t xs σ H Q
theorem pg_tup {es : List Expr} {k : Nat} {t : TGs} {n : Nat} (hc : X.calm = true) (h : PGs X es t)
    (hn : (assignEach es X.env).length = n := by rfl) (hst : (assignEach es X.env).findIdx? (·.1) = none := by rfl) : PG X (.Tuple es k pos) (gTup X.K n t) := by
  intro pins s σ H v u Q I r hw
  obtain ⟨a, xs, e1, hq, hl, hw⟩ := hw
  subst e1
  cases r
  obtain ⟨its, rv, ht, hz⟩ := I.tuple hq
  refine assign_Tuple_tuple (I.ok.hd hc) ht (by simp [hn, ← hl, rv.length]) hst fun h' hx => ?_
  have I1 : Inv X pins σ H { s with heap := h' } := I.kept (t' := s.toks) fun b o e => hx b o (Nat.ne_of_lt (Heap.lt_size e)) e
  exact h pins _ σ H xs _ Q I1 (by simpa using rv) hw
def gSub (to ti : TE) (t : TSet) : TG := fun v σ H Q => to σ H fun o H1 => ti σ H1 fun i H2 => t o i v H2 fun H3 => Q σ H3
theorem pg_sub {o i : Expr} {to ti : TE} {t : TSet} (ho : PE X o to) (hi : PE X i ti) (hs : PSet X t)
    (ha : ∀ v, assign (.Subscript o i pos) X.env v = (do
      let ov ← holding [v] (eval o X.env)
      let iv ← holding [v, ov] (eval i X.env)
      standAt pos
      holding [v, ov, iv] (setItem ov iv v)
      release [v, ov, iv] []) := by intro _; rfl) : PG X (.Subscript o i pos) (gSub to ti t) := by
  intro pins s σ H v u Q I r h
  rw [ha]
  refine wpAny_bind (wpAny_holding (thn (ho pins s σ H _ I h) fun ov s1 ⟨x, H1, I1, r1, q1⟩ => ?_))
  refine wpAny_bind (wpAny_holding (thn (hi pins s1 σ H1 _ I1 q1) fun iv s2 ⟨y, H2, I2, r2, q2⟩ => ?_))
  refine wpAny_bind (wpAny_standAt (wpAny_bind (wpAny_holding (thn (hs pins s2 σ H2 x y v ov iv u _ I2 r1 r2 r q2) fun _ s3 ⟨H3, I3, q3⟩ => ?_))))
  exact wpAny_release ⟨σ, H3, I3, q3⟩
def tAsg (te : TE) (g : TG) : TS := fun D σ H => te σ H fun x H1 => g x σ H1 D.nx
theorem ps_asg {tg e : Expr} {te : TE} {g : TG} (he : PE X e te) (hg : PG X tg g) (hs : swapsWithSole [tg] e pos.line X.env = pure false := by rfl) (hw : swappedStores [tg] e X.env = pure none := by rfl)
    (h1 : (assignEach [tg] X.env).map (·.2) = [assign tg X.env] := by rfl) : PS X (.Assign [tg] e pos) (tAsg te g) := by
  intro pins s σ H D I h
  refine wpAny_Assign_stores (thn (he pins s σ H _ I h) fun v s1 ⟨x, H1, I1, r1, q1⟩ => ?_) hs hw
  rw [h1]
  exact thn (hg pins s1 σ H1 x v _ I1 r1 q1) fun _ s2 q => q
theorem ps_set {i : Nat} {x : Str} {e : Expr} {te : TE} {pos' : Pos} (hN : X.N.Nodup) (hi : X.N[i]? = some x) (hx : Loc X.env.scope x) (he : PE X e te) (hs : swapsWith e (some (.Name x pos')) pos.line X.env = pure false := by rfl) (hf : X.fn x = true ∨ X.env.scope.names.lookup x = some .local := by first | exact .inl rfl | exact .inr rfl | assumption) :
    PS X (.Assign [.Name x pos'] e pos) (tAsg te (gName i)) := by
  intro pins s σ H D I h
  refine wpAny_Assign_Name (thn (he pins s σ H _ I h) fun v s1 ⟨y, H1, I1, r1, q1⟩ => ?_) hs
  exact store_ok I1 hN hi hx r1 (fun s2 I2 => ⟨_, H1, I2, q1⟩) hf
def tPar (i j : Nat) (ta : TA) : TS := fun D σ H => ta σ H fun vs H1 => ∃ v w, vs = [v, w] ∧ D.nx ((σ.set i (some v)).set j (some w)) H1
theorem ps_par {i j : Nat} {x y : Str} {a b : Expr} {ta : TA} {px py pt : Pos} {kt k2 pt2} (hc : X.calm = true) (hN : X.N.Nodup) (hi : X.N[i]? = some x) (hj : X.N[j]? = some y) (hij : i ≠ j)
    (hx : X.env.scope.names.lookup x = some .local) (hy : X.env.scope.names.lookup y = some .local) (ha : PA X [a, b] ta)
    (hw : swappedStores [.Tuple [.Name x px, .Name y py] kt pt] (.Tuple [a, b] k2 pt2) X.env = pure (some [x, y]))
    (hs : swapsWithSole [.Tuple [.Name x px, .Name y py] kt pt] (.Tuple [a, b] k2 pt2) pos.line X.env = pure false := by rfl) :
    PS X (.Assign [.Tuple [.Name x px, .Name y py] kt pt] (.Tuple [a, b] k2 pt2) pos) (tPar i j ta) := by
  intro pins s σ H D I h
  rw [exec_Assign_arm]
  refine wpAny_bind (wpAny_standAt ?_)
  rw [hs]
  refine wpAny_bind (wpAny_pure ?_)
  rw [if_neg (by decide)]
  refine wpAny_bind (Tuple_ (thn (ha _ pins s σ H _ I h) fun us s1 ⟨vs, H1, I1, r1, q1⟩ => ?_))
  obtain ⟨v, w, e1, q1⟩ := q1
  subst e1
  obtain ⟨u1, u2, rfl, rv, rw'⟩ : ∃ u1 u2, us = [u1, u2] ∧ RelV v u1 ∧ RelV w u2 := by
    cases r1 with
    | cons p q =>
      cases q with
      | cons p' q' =>
        cases q'
        exact ⟨_, _, rfl, p, p'⟩
  refine wpAny_newObj_type ?_ (by show 2 ≤ sizeLine; decide)
  have I2 : Inv X pins σ H1 { s1 with heap := s1.heap.push { cls := .type "tuple", data := .seq [u1, u2].toArray } } := I1.kept (t' := s1.toks) fun b o e => Heap.get?_push_of_some _ e
  rw [hw]
  refine wpAny_bind (wpAny_pure ?_)
  show wpAny (model X.prog X.w) X.A (do rule "assign.swapped-stores"; let items ← unpackItems (.ref s1.heap.objs.size) 2 none; assignInOrder [fun v => bindName X.env y v, fun v => bindName X.env x v] items.reverse; pure Flow.next) _ _ _
  refine wpAny_bind (wpAny_rule (wpAny_bind (unpackItems_tuple (items := #[u1, u2]) (I.ok.hd hc) (IsTup.new s1.heap _) fun h' hx' => ?_)))
  have I3 := I2.kept (h' := h') (t' := s1.toks) fun b o e => hx' b o (Nat.ne_of_lt (Heap.lt_size e)) e
  show wpAny _ _ (assignInOrder [fun v => bindName X.env y v, fun v => bindName X.env x v] [u2, u1] >>= fun _ => pure Flow.next) _ _ _
  refine wpAny_bind (assignInOrder_cons (wpAny_bindName (store_ok I3 hN hj (.inl hy) rw' (fun s2 I4 => ?_) (.inr hy))))
  refine assignInOrder_cons (wpAny_bindName (store_ok I4 hN hi (.inl hx) rv (fun s3 I5 => assignInOrder_nil (wpAny_pure ?_)) (.inr hx)))
  rw [List.set_comm _ _ (Ne.symm hij)] at I5
  exact ⟨_, H1, I5, q1⟩
def tAug (i : Nat) (te : TE) (ti : TIp) : TS := fun D σ H => ∃ x, σ[i]? = some (some x) ∧ te σ H fun y H1 => ti x y H1 fun z H2 => D.nx (σ.set i (some z)) H2
def tAugS (to ti te : TE) (tget : V → V → Hp → VK → Prop) (tip : TIp) (tset : TSet) : TS := fun D σ H => to σ H fun o H1 => ti σ H1 fun i H2 => tget o i H2 fun x H3 => te σ H3 fun y H4 => tip x y H4 fun z H5 => tset o i z H5 fun H6 => D.nx σ H6
def PGet (X : Cx) (t : V → V → Hp → VK → Prop) : Prop :=
  ∀ (pins : List (Addr × Obj)) (s : Shared) (σ : St) (H : Hp) (o i : V) (ov iv : Value) (Q : VK), Inv X pins σ H s → RelV o ov → RelV i iv → t o i H Q →
    wpAny (model X.prog X.w) X.A (getItem ov iv) (EP X pins σ Q) X.xe s
def ipI (f : Int → Int → Int) : TIp := fun x y H Q => ∃ i j, x = .int i ∧ y = .int j ∧ Q (.int (f i j)) H
end

section
variable {X : Cx} {pos : Pos}
def tWhile (c : TT) (tb : TS) : TS := fun D σ H => ∃ W : Nat → St → Hp → Prop, (∃ m, W m σ H) ∧ ∀ m σ H, W m σ H →
  c σ H fun b H1 => if b = true then ∃ N : St → Hp → Prop, (∀ σ' H', N σ' H' → ∃ m', m' < m ∧ W m' σ' H') ∧ tb { D with nx := N, ct := N, bk := D.nx } σ H1 else D.nx σ H1
theorem ps_while {c : Expr} {body : List Stmt} {tc : TT} {tb : TS} (hp : PassesOwn (model X.prog X.w) X.A X.env X.xe) (hc : PT X c tc) (hb : PSs X body tb) : PS X (.While c body [] pos) (tWhile tc tb) := by
  intro pins s σ H D I h
  obtain ⟨W, ⟨m0, w0⟩, turn⟩ := h
  refine wpAny_While (codeAny_whileLoop (fun n s' => ∃ σ' H', Inv X pins σ' H' s' ∧ W n σ' H') ?_ m0 ⟨σ, H, I, w0⟩)
  rintro n s1 ⟨σ1, H1, I1, w1⟩
  refine wpAny_passesOwn hp (thn (hc pins s1 σ1 H1 _ I1 (turn n σ1 H1 w1)) fun b s2 ⟨H2, I2, q2⟩ => ?_)
  cases b with
  | true =>
    obtain ⟨N, hN, q2⟩ := q2
    rw [if_pos rfl]
    refine wpAny_passesOwn hp (thn (hb pins s2 σ1 H2 _ I2 q2) fun f s3 q3 => ?_)
    cases f with
    | next =>
      obtain ⟨σ3, H3, I3, n3⟩ := q3
      obtain ⟨m', hm, w3⟩ := hN σ3 H3 n3
      exact ⟨m', hm, σ3, H3, I3, w3⟩
    | cont =>
      obtain ⟨σ3, H3, I3, n3⟩ := q3
      obtain ⟨m', hm, w3⟩ := hN σ3 H3 n3
      exact ⟨m', hm, σ3, H3, I3, w3⟩
    | brk => exact q3
    | ret v => exact q3
  | false =>
    rw [if_neg Bool.false_ne_true]
    exact wpAny_execs_nil ⟨σ1, H2, I2, q2⟩
end

structure It where
  go : Nat → Hp → Prop
  yld : Nat → Hp → V → Hp → Prop
  stop : Nat → Hp → Prop
def FpOk (X : Cx) (pins : List (Addr × Obj)) (H : Hp) (b : Addr) : Prop :=
  H b = none ∧ b ≠ X.env.locals ∧ b ∉ X.fs ∧ (b ∈ X.ex ∨ X.s₀.heap.objs.size ≤ b) ∧ (∀ x c, X.env.cells.lookup x = some c → c ≠ b) ∧ ∀ p ∈ X.pn ++ pins, p.1 ≠ b
theorem Inv.fpOk {X : Cx} {pins : List (Addr × Obj)} {σ : St} {H H' : Hp} {s : Shared} {b : Addr} (I : Inv X pins σ H s) (hb : s.heap.objs.size ≤ b) (hn : H' b = none) : FpOk X pins H' b := by
  refine ⟨hn, Nat.ne_of_gt (Nat.lt_of_lt_of_le I.lt hb), I.nofs hb, .inr (Nat.le_trans I.sz hb), fun x c e z => ?_, fun p hp z => ?_⟩
  · obtain ⟨v, q⟩ := I.cell x c e
    exact absurd (Nat.lt_of_lt_of_le q.lt (by rw [z]; exact hb)) (Nat.lt_irrefl _)
  · exact absurd (Nat.lt_of_lt_of_le (Heap.lt_size (I.pin p hp).1) (by rw [z]; exact hb)) (Nat.lt_irrefl _)
structure Turn (P : Program) (w : World) (K : PySem.W.Frag) (tg : Expr) (J : It) (fp : List Addr) (it : Addr) (tn : Nat → Heap → Prop) : Prop where
  mem : it ∈ fp
  obj : ∀ i h, tn i h → ∀ b ∈ fp, ∃ o, h.get? b = some o ∧ ∀ v, o.data ≠ .cell v
  keep : ∀ i h h', tn i h → (∀ b ∈ fp, ∀ o, h.get? b = some o → h'.get? b = some o) → tn i h'
  item : ∀ (X : Cx), X.prog = P → X.w = w → X.K = K → X.calm = true → ∀ (i : Nat) (pins : List (Addr × Obj)) (s : Shared) (σ : St) (H : Hp) (E : Value → Shared → Prop), Inv X pins σ H s → (∀ b ∈ fp, FpOk X pins H b) → tn i s.heap → J.go i H →
    wpAny (model P w) X.A (pyNext (.ref it)) (fun r s1 => ∃ u, r = some u ∧
      wpAny (model P w) X.A (letOwnedTupleGo tg (.ref it) u) (fun _ s2 => ∃ x H', Inv X pins σ H' s2 ∧ RelV x u ∧ J.yld i H x H' ∧ tn (i + 1) s2.heap ∧ ∀ b ∈ fp, H' b = none) E s1) E s
  done : ∀ (X : Cx), X.prog = P → X.w = w → X.K = K → X.calm = true → ∀ (i : Nat) (pins : List (Addr × Obj)) (s : Shared) (σ : St) (H : Hp) (E : Value → Shared → Prop), Inv X pins σ H s → (∀ b ∈ fp, FpOk X pins H b) → tn i s.heap → J.stop i H →
    wpAny (model P w) X.A (pyNext (.ref it)) (fun r s1 => r = none ∧ Inv X pins σ H s1) E s
  self : ∀ (A : Around) (i : Nat) (s : Shared) (Q : Value → Shared → Prop) (E : Value → Shared → Prop), tn i s.heap → Q (.ref it) s → wpAny (model P w) A (pyIter (.ref it)) Q E s
abbrev TI := St → Hp → (It → Hp → Prop) → Prop
def PIE (X : Cx) (pins : List (Addr × Obj)) (σ : St) (tg : Expr) (R : It → Hp → Prop) (itv : Value) (s2 : Shared) : Prop :=
  ∃ (it : Addr) (fp : List Addr) (tn : Nat → Heap → Prop) (J : It) (H' : Hp), itv = .ref it ∧ Inv X pins σ H' s2 ∧ Turn X.prog X.w X.K tg J fp it tn ∧ tn 0 s2.heap ∧ (∀ b ∈ fp, FpOk X pins H' b) ∧ R J H'
def PI (X : Cx) (tg iter : Expr) (wi : TI) : Prop :=
  ∀ (pins : List (Addr × Obj)) (s : Shared) (σ : St) (H : Hp) (R : It → Hp → Prop), Inv X pins σ H s → wi σ H R →
    wpAny (model X.prog X.w) X.A (eval iter X.env) (fun v s1 => wpAny (model X.prog X.w) X.A (pyIter v) (PIE X pins σ tg R) X.xe s1) X.xe s

theorem go_of {M : Model} {A : Around} {E : Value → Shared → Prop} {s : Shared} {tg : Expr} {it : Addr} {u : Value} {o : Obj} {n : String} {vs : Array Value} {Q : Unit → Shared → Prop} (ho : s.heap.get? it = some o) (hc : o.cls = .type n) (hd : o.data = .fields vs)
    (hn : ["enumerate", "zip", "dict_itemiterator", "dict_reverseitemiterator", "odict_iterator", "itertools.zip_longest", "itertools.pairwise"].contains n = false) (hQ : Q () s) : wpAny M A (letOwnedTupleGo tg (.ref it) u) Q E s := by
  unfold letOwnedTupleGo
  cases tg <;> first
    | exact wpAny_pure hQ
    | (cases u <;> first
        | exact wpAny_pure hQ
        | (refine wpAny_bind (wpAny_load ho ?_)
           rw [hc, hd]
           show wpAny M A (if (["enumerate", "zip", "dict_itemiterator", "dict_reverseitemiterator", "odict_iterator", "itertools.zip_longest", "itertools.pairwise"].contains n && vs[0]? == some (rawInt _)) = true then _ else _) Q E s
           rw [if_neg (by intro h; rw [hn, Bool.false_and] at h; cases h)]
           exact wpAny_pure hQ))

def Itl (K : PySem.W.Frag) (a : Addr) : It :=
  ⟨fun i H => ∃ xs x, SqL K H a xs ∧ xs[i]? = some x, fun i H x H' => H' = H ∧ ∀ xs, SqL K H a xs → xs[i]? = some x, fun i H => ∃ xs, SqL K H a xs ∧ xs.length ≤ i⟩
def Itt (K : PySem.W.Frag) (a : Addr) : It :=
  ⟨fun i H => ∃ xs x, SqT K H a xs ∧ xs[i]? = some x, fun i H x H' => H' = H ∧ ∀ xs, SqT K H a xs → xs[i]? = some x, fun i H => ∃ xs, SqT K H a xs ∧ xs.length ≤ i⟩
def Itr (lo : Int) (n : Nat) : It := ⟨fun i _ => i < n, fun i H x H' => H' = H ∧ x = .int (lo + i), fun i _ => n ≤ i⟩
theorem turn_list {P : Program} {w : World} {K : PySem.W.Frag} {tg : Expr} (a it : Addr) : Turn P w K tg (Itl K a) [it] it (fun i h => h.IsListIter it a i) where
  mem := by simp
  obj := fun i h st b hb => by
    have e : b = it := by simpa using hb
    subst e
    obtain ⟨o, e, c, d⟩ := st
    exact ⟨o, e, fun v z => by rw [d] at z; cases z⟩
  keep := fun i h h' st k => st.at fun o e => k it (by simp) o e
  item := by
    intro X hP hw hK hc i pins s σ H E I hf st hg
    subst hP hw hK
    obtain ⟨xs, x, hq, hx⟩ := hg
    obtain ⟨its, rv, p, hz⟩ := I.list hq
    obtain ⟨u, hu, ru⟩ := rv.get hx
    obtain ⟨f0, f1, f2, f3, f4, f5⟩ := hf it (by simp)
    refine wpAny_pyNext_list_item st p.isList (x := u) (by simpa using hu) fun h' st' sb => ?_
    have I1 : Inv X pins σ H { s with heap := h' } := I.turned (t' := s.toks) (fun b o hb e => (sb.2 b hb).trans e) f0 f1 f3 f4 f5
    obtain ⟨o, e, c, d⟩ := id st'
    exact ⟨u, rfl, go_of (s := { s with heap := h' }) e c d (by decide) ⟨x, H, I1, ru, ⟨rfl, fun ys hy => by rw [I.list_inj hy hq]; exact hx⟩, st', fun b hb => (hf b hb).1⟩⟩
  done := by
    intro X hP hw hK hc i pins s σ H E I hf st hg
    subst hP hw hK
    obtain ⟨xs, hq, hx⟩ := hg
    obtain ⟨its, rv, p, hz⟩ := I.list hq
    obtain ⟨f0, f1, f2, f3, f4, f5⟩ := hf it (by simp)
    have hl := rv.length
    exact wpAny_pyNext_list_end (I.ok.hd hc) st p.isList (by simp; omega) fun h' eb => ⟨rfl, I.turned (t' := s.toks) (fun b o hb e => eb b o hb e) f0 f1 f3 f4 f5⟩
  self := fun _ _ _ _ _ st h => wpAny_pyIter_listiter st h
theorem turn_range {P : Program} {w : World} {K : PySem.W.Frag} {tg : Expr} (it : Addr) (lo : Int) (n : Nat) : Turn P w K tg (Itr lo n) [it] it (fun i h => IsRangeIter h it (lo + (i : Nat) * 1) ((n : Int) - (i : Nat)) 1) where
  mem := by simp
  obj := fun i h st b hb => by
    have e : b = it := by simpa using hb
    subst e
    exact ⟨_, st, fun v z => by
      have z' : Data.fields _ = Data.cell v := z
      cases z'⟩
  keep := fun i h h' st k => k it (by simp) _ st
  item := by
    intro X hP hw hK hc i pins s σ H E I hf st hg
    subst hP hw hK
    obtain ⟨f0, f1, f2, f3, f4, f5⟩ := hf it (by simp)
    have W := Walks.range (prog := X.prog) (w := X.w) (I.ok.hd hc) it lo 1 n
    refine W.item i s _ _ hg st fun v h' tk hv st' kk => ?_
    obtain ⟨t, rfl⟩ := hv
    have I1 : Inv X pins σ H { s with heap := h', toks := tk } := I.turned (fun b o hb e => kk b o (by simpa using hb) e) f0 f1 f3 f4 f5
    refine ⟨_, rfl, go_of (s := { s with heap := h', toks := tk }) (n := "range_iterator") st' rfl rfl (by decide) ⟨.int (lo + i), H, I1, ⟨t, ?_⟩, ⟨rfl, rfl⟩, st', fun b hb => (hf b hb).1⟩⟩
    rw [Int.mul_one]
  done := by
    intro X hP hw hK hc i pins s σ H E I hf st hg
    subst hP hw hK
    obtain ⟨f0, f1, f2, f3, f4, f5⟩ := hf it (by simp)
    exact wpAny_pyNext_range_end (I.ok.hd hc) st (by have : n ≤ i := hg; omega) fun h' eb => ⟨rfl, I.turned (t' := s.toks) (fun b o hb e => eb b o hb e) f0 f1 f3 f4 f5⟩
  self := fun _ _ _ _ _ st h => wpAny_pyIter_rangeiter st h
end L2

namespace L2
open PySem PySem.Spec PyProof.Rows
section
variable {X : Cx} {tg : Expr}
def iList (K : PySem.W.Frag) (tl : TE) : TI := fun σ H R => tl σ H fun x H1 => ∃ a, x = .ref a ∧ (∃ xs, SqL K H1 a xs) ∧ R (Itl K a) H1
def iTup (K : PySem.W.Frag) (tl : TE) : TI := fun σ H R => tl σ H fun x H1 => ∃ a, x = .ref a ∧ (∃ xs, SqT K H1 a xs) ∧ R (Itt K a) H1
theorem pi_list {l : Expr} {tl : TE} (hl : PE X l tl) : PI X tg l (iList X.K tl) := by
  intro pins s σ H R I h
  refine thn (hl pins s σ H _ I h) fun v s1 ⟨x, H1, I1, r1, q1⟩ => ?_
  obtain ⟨a, e, ⟨xs, hq⟩, q⟩ := q1
  subst e
  cases r1
  obtain ⟨its, rv, p, hz⟩ := I1.list hq
  refine wpAny_pyIter_list p.isList ?_
  refine ⟨s1.heap.objs.size, [s1.heap.objs.size], _, _, H1, rfl, I1.kept (t' := s1.toks) fun b o e => Heap.get?_push_of_some _ e, turn_list a _, ⟨_, Heap.get?_push_size _ rfl, rfl, rfl⟩, fun b hb => ?_, q⟩
  have e : b = s1.heap.objs.size := by simpa using hb
  subst e
  exact I1.fpOk (Nat.le_refl _) (I1.hok.fresh (Nat.le_refl _))
theorem range_it {pins : List (Addr × Obj)} {σ : St} {H : Hp} {s : Shared} {R : It → Hp → Prop} {E : Value → Shared → Prop} {lo hi : Int} {t u v : Tok} {tk : Nat} (I : Inv X pins σ H s) (h1 : -(2 ^ 62) ≤ lo) (h2 : lo < 2 ^ 62) (h3 : -(2 ^ 62) ≤ hi) (h4 : hi < 2 ^ 62)
    (q : R (Itr lo (hi - lo).toNat) H) : wpAny (model X.prog X.w) X.A (pyIter (.ref s.heap.objs.size)) (PIE X pins σ tg R) E { s with heap := s.heap.push { cls := .type "range", data := .fields #[.int lo t, .int hi u, .int 1 v] }, toks := tk } := by
  refine wpAny_pyIter_range (IsRange.new ..) (small_one h1 h2 h3 h4) ?_
  have I1 : Inv X pins σ H { s with heap := s.heap.push { cls := .type "range", data := .fields #[.int lo t, .int hi u, .int 1 v] }, toks := tk } := I.kept fun b o e => Heap.get?_push_of_some _ e
  refine ⟨(s.heap.push { cls := .type "range", data := .fields #[.int lo t, .int hi u, .int 1 v] }).objs.size, [(s.heap.push { cls := .type "range", data := .fields #[.int lo t, .int hi u, .int 1 v] }).objs.size], _, _, H, rfl,
    I1.kept (t' := tk) fun b o e => Heap.get?_push_of_some _ e, turn_range _ lo (hi - lo).toNat, ?_, fun b hb => ?_, q⟩
  · have e1 : lo + ((0 : Nat) : Int) * 1 = lo := by simp
    have e2 : (((hi - lo).toNat : Nat) : Int) - ((0 : Nat) : Int) = Builtin.Range.rangeSize lo hi 1 := by rw [rangeSize_one]; split <;> omega
    show IsRangeIter _ _ (lo + ((0 : Nat) : Int) * 1) ((((hi - lo).toNat : Nat) : Int) - ((0 : Nat) : Int)) 1
    rw [e1, e2]
    exact Heap.get?_push_size _ rfl
  · have e : b = (s.heap.push { cls := .type "range", data := .fields #[.int lo t, .int hi u, .int 1 v] }).objs.size := by simpa using hb
    subst e
    exact I1.fpOk (Nat.le_refl _) (I1.hok.fresh (Nat.le_refl _))
def iRng1 (ta : TA) : TI := fun σ H R => ta σ H fun vs H1 => ∃ j : Int, vs = [.int j] ∧ -(2 ^ 62) ≤ j ∧ j < 2 ^ 62 ∧ R (Itr 0 j.toNat) H1
def iRng2 (ta : TA) : TI := fun σ H R => ta σ H fun vs H1 => ∃ i j : Int, vs = [.int i, .int j] ∧ (-(2 ^ 62) ≤ i ∧ i < 2 ^ 62 ∧ -(2 ^ 62) ≤ j ∧ j < 2 ^ 62) ∧ R (Itr i (j - i).toNat) H1
theorem pi_range1 {a : Expr} {ta : TA} {p pos : Pos} (hg : Gl X "range") (hm : X.mg "range" = none) (ha : PA X [a] ta) (hs : starEach [a] X.env = [(false, eval a X.env)] := by rfl) : PI X tg (.Call (.Name "range" p) [a] [] pos) (iRng1 ta) := by
  intro pins s σ H R I h
  refine Call_ (ld_blt I hg hm boot_range (PyProof.Rows.callWith_type1 (thn (ha pos pins s σ H _ I h) fun us s1 ⟨vs, H1, I1, r1, q1⟩ => ?_) hs rfl))
  obtain ⟨j, e, q1, q2, q⟩ := q1
  subst e
  cases r1 with
  | cons r rr =>
    cases rr
    obtain ⟨t, rfl⟩ := r
    exact call_range_1 (range_it I1 (by omega) (by omega) q1 q2 (by simpa using q))
theorem pi_range2 {a b : Expr} {ta : TA} {p pos : Pos} (hg : Gl X "range") (hm : X.mg "range" = none) (ha : PA X [a, b] ta) (hs : starEach [a, b] X.env = [(false, eval a X.env), (false, eval b X.env)] := by rfl) (hs2 : starEach [b] X.env = [(false, eval b X.env)] := by rfl) :
    PI X tg (.Call (.Name "range" p) [a, b] [] pos) (iRng2 ta) := by
  intro pins s σ H R I h
  refine Call_ (ld_blt I hg hm boot_range (PyProof.Rows.callWith_type1 (thn (ha pos pins s σ H _ I h) fun us s1 ⟨vs, H1, I1, r1, q1⟩ => ?_) (by rw [hs, hs2]) (by rw [hs2]; rfl)))
  obtain ⟨i, j, e, ⟨q1, q2, q3, q4⟩, q⟩ := q1
  subst e
  cases r1 with
  | cons r rr =>
    cases rr with
    | cons r' rr =>
      cases rr
      obtain ⟨t, rfl⟩ := r
      obtain ⟨t', rfl⟩ := r'
      exact call_range_2 (range_it I1 q1 q2 q3 q4 q)

def tFor (wi : TI) (g : TG) (tb : TS) : TS := fun D σ H => wi σ H fun J H1 => ∃ W : Nat → Nat → St → Hp → Prop, (∃ m, W 0 m σ H1) ∧ ∀ i m σ H, W i m σ H →
  (J.stop i H ∧ D.nx σ H) ∨ (J.go i H ∧ ∃ N : St → Hp → Prop, (∀ σ' H', N σ' H' → ∃ m', m' < m ∧ W (i + 1) m' σ' H') ∧ ∀ x H', J.yld i H x H' → g x σ H' fun σ2 H2 => tb { D with nx := N, ct := N, bk := D.nx } σ2 H2)
def pinsAt (fp : List Addr) (h : Heap) : List (Addr × Obj) := fp.filterMap fun b => (h.get? b).map fun o => (b, o)
theorem mem_pinsAt {fp : List Addr} {h : Heap} {b : Addr} {o : Obj} (hb : b ∈ fp) (e : h.get? b = some o) : (b, o) ∈ pinsAt fp h := List.mem_filterMap.mpr ⟨b, hb, by rw [e]; rfl⟩
theorem of_pinsAt {fp : List Addr} {h : Heap} {p : Addr × Obj} (hp : p ∈ pinsAt fp h) : p.1 ∈ fp ∧ h.get? p.1 = some p.2 := by
  obtain ⟨b, hb, e⟩ := List.mem_filterMap.mp hp
  cases q : h.get? b with
  | none => rw [q] at e; cases e
  | some o =>
    rw [q] at e
    have e' : (b, o) = p := Option.some.inj e
    subst e'
    exact ⟨hb, q⟩
theorem Inv.pinned {pins : List (Addr × Obj)} {σ : St} {H : Hp} {s : Shared} {fp : List Addr} (I : Inv X pins σ H s) (hf : ∀ b ∈ fp, FpOk X pins H b) (ho : ∀ b ∈ fp, ∃ o, s.heap.get? b = some o ∧ ∀ v, o.data ≠ .cell v) : Inv X (pins ++ pinsAt fp s.heap) σ H s :=
  I.pins_of fun p hp => (List.mem_append.mp hp).elim (fun z => I.pin p (List.mem_append_right _ z)) fun z => by
    obtain ⟨hb, e⟩ := of_pinsAt z
    obtain ⟨f0, f1, f2, _⟩ := hf p.1 hb
    obtain ⟨o, e', d⟩ := ho p.1 hb
    rw [e] at e'; cases e'
    exact ⟨e, f0, f1, f2, d⟩
theorem Inv.unpinned {pins pl : List (Addr × Obj)} {σ : St} {H : Hp} {s : Shared} (I : Inv X (pins ++ pl) σ H s) : Inv X pins σ H s := I.pins_of fun p hp => I.pin p (List.mem_append_right _ (List.mem_append_left _ hp))
theorem ps_for {iter : Expr} {body : List Stmt} {wi : TI} {g : TG} {tb : TS} {pos : Pos} (hp : PassesOwn (model X.prog X.w) X.A X.env X.xe) (hc : X.calm = true) (hi : PI X tg iter wi) (hg : PG X tg g) (hb : PSs X body tb)
    (hs : ∀ x, foldedSetIterable iter X.env x = pure x := by intro _; rfl) : PS X (.For tg iter body [] pos) (tFor wi g tb) := by
  intro pins s σ H D I h
  refine wpAny_For (thn (hi pins s σ H _ I h) fun v s1 h1 => thn h1 fun itv s2 h2 => ?_) hs
  obtain ⟨it, fp, tn, J, H2, e, I2, T, st2, f2, W, ⟨m0, w0⟩, turn⟩ := h2
  subst e
  -- what stays true of the iterator's objects through the loop
  have stat : ∀ {H' : Hp}, (∀ b ∈ fp, H' b = none) → ∀ b ∈ fp, FpOk X pins H' b := fun hn b hb => ⟨hn b hb, (f2 b hb).2⟩
  refine codeAny_forLoop_any (fun n s' => ∃ i σ' H', Inv X pins σ' H' s' ∧ tn i s'.heap ∧ (∀ b ∈ fp, H' b = none) ∧ W i n σ' H') ?_ m0 ⟨0, σ, H2, I2, st2, fun b hb => (f2 b hb).1, w0⟩
  rintro n s3 ⟨i, σ3, H3, I3, st3, fr3, w3⟩
  rcases turn i n σ3 H3 w3 with ⟨stop, qn⟩ | ⟨go, N, hN, step⟩
  · refine wpAny_passesOwn hp (thn (T.done X rfl rfl rfl hc i pins s3 σ3 H3 X.xe I3 (stat fr3) st3 stop) fun r s4 ⟨hr, I4⟩ => ?_)
    subst hr
    exact wpAny_execs_nil ⟨σ3, H3, I4, qn⟩
  · refine wpAny_passesOwn hp (thn (T.item X rfl rfl rfl hc i pins s3 σ3 H3 X.xe I3 (stat fr3) st3 go) fun r s4 ⟨u, hr, h4⟩ => ?_)
    subst hr
    refine wpAny_passesOwn hp (thn h4 fun _ s5 ⟨x, H5, I5, r5, y5, st5, fr5⟩ => ?_)
    have I5' := I5.pinned (stat fr5) (T.obj _ _ st5)
    refine wpAny_passesOwn hp (thn (hg _ s5 σ3 H5 x u _ I5' r5 (step x H5 y5)) fun _ s6 ⟨σ6, H6, I6, q6⟩ => ?_)
    refine wpAny_passesOwn hp (thn (hb _ s6 σ6 H6 _ I6 q6) fun f s7 q7 => ?_)
    have again : ∀ {σ7 : St} {H7 : Hp}, Inv X (pins ++ pinsAt fp s5.heap) σ7 H7 s7 → N σ7 H7 → ∃ m, m < n ∧ ∃ i σ' H', Inv X pins σ' H' s7 ∧ tn i s7.heap ∧ (∀ b ∈ fp, H' b = none) ∧ W i m σ' H' := fun {σ7 H7} I7 n7 => by
      obtain ⟨m', hm, w7⟩ := hN σ7 H7 n7
      refine ⟨m', hm, i + 1, σ7, H7, I7.unpinned, T.keep _ _ _ st5 fun b hb o e => (I7.pin (b, o) (List.mem_append_right _ (List.mem_append_right _ (mem_pinsAt hb e)))).1, fun b hb => ?_, w7⟩
      obtain ⟨o, e, d⟩ := T.obj _ _ st5 b hb
      exact (I7.pin (b, o) (List.mem_append_right _ (List.mem_append_right _ (mem_pinsAt hb e)))).2.1
    cases f with
    | next => obtain ⟨σ7, H7, I7, n7⟩ := q7; exact again I7 n7
    | cont => obtain ⟨σ7, H7, I7, n7⟩ := q7; exact again I7 n7
    | brk => obtain ⟨σ7, H7, I7, q7⟩ := q7; exact ⟨σ7, H7, I7.unpinned, q7⟩
    | ret v => obtain ⟨x7, σ7, H7, I7, r7, q7⟩ := q7; exact ⟨x7, σ7, H7, I7.unpinned, r7, q7⟩
end

theorem for_list {K : PySem.W.Frag} {a : Addr} {xs : List V} {g : TG} {tb : TS} {D : Ends} {σ : St} {H : Hp} (Pv : Nat → St → Hp → Prop) (h0 : Pv 0 σ H) (hl : ∀ i σ H, i ≤ xs.length → Pv i σ H → SqL K H a xs)
    (hs : ∀ i x σ H, xs[i]? = some x → Pv i σ H → g x σ H fun σ2 H2 => tb { D with nx := Pv (i + 1), ct := Pv (i + 1), bk := D.nx } σ2 H2) (hd : ∀ σ H, Pv xs.length σ H → D.nx σ H) :
    ∃ W : Nat → Nat → St → Hp → Prop, (∃ m, W 0 m σ H) ∧ ∀ i m σ H, W i m σ H →
      ((Itl K a).stop i H ∧ D.nx σ H) ∨ ((Itl K a).go i H ∧ ∃ N : St → Hp → Prop, (∀ σ' H', N σ' H' → ∃ m', m' < m ∧ W (i + 1) m' σ' H') ∧ ∀ x H', (Itl K a).yld i H x H' → g x σ H' fun σ2 H2 => tb { D with nx := N, ct := N, bk := D.nx } σ2 H2) := by
  refine ⟨fun i m σ H => m = xs.length - i ∧ i ≤ xs.length ∧ Pv i σ H, ⟨xs.length, by simp, Nat.zero_le _, h0⟩, ?_⟩
  rintro i m σ H ⟨rfl, hi, p⟩
  have q := hl i σ H hi p
  by_cases hlt : i < xs.length
  · refine .inr ⟨⟨xs, xs[i], q, by simp [hlt]⟩, Pv (i + 1), fun σ' H' p' => ⟨xs.length - (i + 1), by omega, rfl, hlt, p'⟩, fun x H' y => ?_⟩
    obtain ⟨e, y⟩ := y
    subst e
    exact hs i x σ _ (y xs q) p
  · have e : i = xs.length := by omega
    subst e
    exact .inl ⟨⟨xs, q, Nat.le_refl _⟩, hd σ H p⟩
theorem for_range {lo : Int} {n : Nat} {g : TG} {tb : TS} {D : Ends} {σ : St} {H : Hp} (Pv : Nat → St → Hp → Prop) (h0 : Pv 0 σ H)
    (hs : ∀ i σ H, i < n → Pv i σ H → g (.int (lo + i)) σ H fun σ2 H2 => tb { D with nx := Pv (i + 1), ct := Pv (i + 1), bk := D.nx } σ2 H2) (hd : ∀ σ H, Pv n σ H → D.nx σ H) :
    ∃ W : Nat → Nat → St → Hp → Prop, (∃ m, W 0 m σ H) ∧ ∀ i m σ H, W i m σ H →
      ((Itr lo n).stop i H ∧ D.nx σ H) ∨ ((Itr lo n).go i H ∧ ∃ N : St → Hp → Prop, (∀ σ' H', N σ' H' → ∃ m', m' < m ∧ W (i + 1) m' σ' H') ∧ ∀ x H', (Itr lo n).yld i H x H' → g x σ H' fun σ2 H2 => tb { D with nx := N, ct := N, bk := D.nx } σ2 H2) := by
  refine ⟨fun i m σ H => m = n - i ∧ i ≤ n ∧ Pv i σ H, ⟨n, by simp, Nat.zero_le _, h0⟩, ?_⟩
  rintro i m σ H ⟨rfl, hi, p⟩
  by_cases hlt : i < n
  · refine .inr ⟨hlt, Pv (i + 1), fun σ' H' p' => ⟨n - (i + 1), by omega, rfl, hlt, p'⟩, fun x H' y => ?_⟩
    obtain ⟨e, y⟩ := y
    subst e y
    exact hs i σ _ hlt p
  · have e : i = n := by omega
    subst e
    exact .inl ⟨Nat.le_refl _, hd σ H p⟩
theorem while_by {c : TT} {tb : TS} {D : Ends} {σ : St} {H : Hp} (Pv : St → Hp → Prop) (μ : St → Hp → Nat) (h0 : Pv σ H)
    (hs : ∀ σ H, Pv σ H → c σ H fun b H1 => if b = true then tb { D with nx := fun σ' H' => Pv σ' H' ∧ μ σ' H' < μ σ H, ct := fun σ' H' => Pv σ' H' ∧ μ σ' H' < μ σ H, bk := D.nx } σ H1 else D.nx σ H1)
    (mono : ∀ σ H Q Q', (∀ b H1, Q b H1 → Q' b H1) → c σ H Q → c σ H Q') : tWhile c tb D σ H := by
  refine ⟨fun m σ H => m = μ σ H ∧ Pv σ H, ⟨_, rfl, h0⟩, ?_⟩
  rintro m σ H ⟨rfl, p⟩
  refine mono σ H _ _ (fun b H1 q => ?_) (hs σ H p)
  cases b with
  | true => exact ⟨_, fun σ' H' ⟨p', l⟩ => ⟨_, l, rfl, p'⟩, q⟩
  | false => exact q
end L2

namespace L2
open PySem PySem.Spec PyProof.Rows

abbrev R2 := V → V → Hp → VK → Prop
def OpR (X : Cx) (f : Value → Value → Sem Value) (r : R2) : Prop :=
  ∀ (pins : List (Addr × Obj)) (s : Shared) (σ : St) (H : Hp) (x y : V) (v u : Value) (Q : VK), Inv X pins σ H s → RelV x v → RelV y u → r x y H Q →
    wpAny (model X.prog X.w) X.A (f v u) (EP X pins σ Q) X.xe s
def UnR (X : Cx) (f : Value → Sem Value) (r : V → Hp → VK → Prop) : Prop :=
  ∀ (pins : List (Addr × Obj)) (s : Shared) (σ : St) (H : Hp) (x : V) (v : Value) (Q : VK), Inv X pins σ H s → RelV x v → r x H Q →
    wpAny (model X.prog X.w) X.A (f v) (EP X pins σ Q) X.xe s
def CallR (X : Cx) (f : Value) (r : List V → Hp → VK → Prop) : Prop :=
  ∀ (pins : List (Addr × Obj)) (s : Shared) (σ : St) (H : Hp) (xs : List V) (us : List Value) (Q : VK), Inv X pins σ H s → Vals xs us → r xs H Q →
    wpAny (model X.prog X.w) X.A (call f us) (EP X pins σ Q) X.xe s
def TruR (X : Cx) (r : V → Hp → (Bool → Hp → Prop) → Prop) : Prop :=
  ∀ (pins : List (Addr × Obj)) (s : Shared) (σ : St) (H : Hp) (x : V) (v : Value) (Q : Bool → Hp → Prop), Inv X pins σ H s → RelV x v → r x H Q →
    wpAny (model X.prog X.w) X.A (truthy v) (TP X pins σ Q) X.xe s

def tOp (r : R2) (ta tb : TE) : TE := fun σ H Q => ta σ H fun x H1 => tb σ H1 fun y H2 => r x y H2 Q
def tUn (r : V → Hp → VK → Prop) (ta : TE) : TE := fun σ H Q => ta σ H fun x H1 => r x H1 Q
def rI (C : Int → Int → Prop) (g : Int → Int → V) : R2 := fun x y H Q => ∃ i j, x = .int i ∧ y = .int j ∧ C i j ∧ Q (g i j) H
def rI0 (g : Int → Int → V) : R2 := fun x y H Q => ∃ i j, x = .int i ∧ y = .int j ∧ Q (g i j) H
def rU (g : Int → V) : V → Hp → VK → Prop := fun x H Q => ∃ i, x = .int i ∧ Q (g i) H

section
variable {X : Cx} {a b c : Expr} {ta tb tc : TE} {pos : Pos}

theorem binT (ha : PE X a ta) (hb : PE X b tb) {pins : List (Addr × Obj)} {s : Shared} {σ : St} {H : Hp} {R : V → V → Hp → Prop} (I : Inv X pins σ H s)
    (h : ta σ H fun x H1 => tb σ H1 fun y H2 => R x y H2) {Q : Value → Shared → Prop} {f : Value → Value → Sem Value}
    (hf : ∀ v u s2 x y H2, Inv X pins σ H2 s2 → RelV x v → RelV y u → R x y H2 → wpAny (model X.prog X.w) X.A (f v u) Q X.xe s2) :
    wpAny (model X.prog X.w) X.A (eval a X.env) (fun v s₁ => wpAny (model X.prog X.w) X.A (eval b X.env) (fun u s₂ => wpAny (model X.prog X.w) X.A (f v u) Q X.xe s₂) X.xe s₁) X.xe s := by
  refine thn (ha pins s σ H _ I h) fun v s1 ⟨x, H1, I1, r1, q1⟩ => ?_
  refine thn (hb pins s1 σ H1 _ I1 q1) fun u s2 ⟨y, H2, I2, r2, q2⟩ => ?_
  exact hf v u s2 x y H2 I2 r1 r2 q2

theorem pe_op {op : Operator} {r : R2} (ho : OpR X (binaryOp op) r) (ha : PE X a ta) (hb : PE X b tb) : PE X (.BinOp a op b pos) (tOp r ta tb) := by
  intro pins s σ H Q I h
  exact wpAny_BinOp (binT ha hb I h fun v u s2 x y H2 I2 rx ry q => ho pins s2 σ H2 x y v u Q I2 rx ry q)
theorem pe_un {op : UnaryOp} {r : V → Hp → VK → Prop} (ho : UnR X (unaryOp op) r) (ha : PE X a ta) : PE X (.UnaryOp op a pos) (tUn r ta) := by
  intro pins s σ H Q I h
  exact UnaryOp_ (thn (ha pins s σ H _ I h) fun v s1 ⟨x, H1, I1, r1, q1⟩ => ho pins s1 σ H1 x v Q I1 r1 q1)
theorem opI {f : Value → Value → Sem Value} {C : Int → Int → Prop} {g : Int → Int → Int}
    (rule : ∀ (i j : Int) (t u : Tok) (s : Shared) (Q : Value → Shared → Prop) (E : Value → Shared → Prop), C i j → Q (.int (g i j) s.toks) { s with toks := s.toks + 1 } → wpAny (model X.prog X.w) X.A (f (.int i t) (.int j u)) Q E s) :
    OpR X f (rI C fun i j => .int (g i j)) := by
  intro pins s σ H x y v u Q I rx ry h
  obtain ⟨i, j, rfl, rfl, hc, q⟩ := h
  obtain ⟨t, rfl⟩ := rx
  obtain ⟨t', rfl⟩ := ry
  exact rule i j t t' s _ _ hc ⟨.int (g i j), H, I.tok _, ⟨_, rfl⟩, q⟩
theorem opI0 {f : Value → Value → Sem Value} {g : Int → Int → Int}
    (rule : ∀ (i j : Int) (t u : Tok) (s : Shared) (Q : Value → Shared → Prop) (E : Value → Shared → Prop), Q (.int (g i j) s.toks) { s with toks := s.toks + 1 } → wpAny (model X.prog X.w) X.A (f (.int i t) (.int j u)) Q E s) :
    OpR X f (rI0 fun i j => .int (g i j)) := by
  intro pins s σ H x y v u Q I rx ry h
  obtain ⟨i, j, rfl, rfl, q⟩ := h
  obtain ⟨t, rfl⟩ := rx
  obtain ⟨t', rfl⟩ := ry
  exact rule i j t t' s _ _ ⟨.int (g i j), H, I.tok _, ⟨_, rfl⟩, q⟩
theorem opB0 {f : Value → Value → Sem Value} {g : Int → Int → Bool}
    (rule : ∀ (i j : Int) (t u : Tok) (s : Shared) (Q : Value → Shared → Prop) (E : Value → Shared → Prop), Q (.bool (g i j)) s → wpAny (model X.prog X.w) X.A (f (.int i t) (.int j u)) Q E s) :
    OpR X f (rI0 fun i j => .bl (g i j)) := by
  intro pins s σ H x y v u Q I rx ry h
  obtain ⟨i, j, rfl, rfl, q⟩ := h
  obtain ⟨t, rfl⟩ := rx
  obtain ⟨t', rfl⟩ := ry
  exact rule i j t t' s _ _ ⟨.bl (g i j), H, I, rfl, q⟩

def CDiv (i j : Int) : Prop := 0 < j ∧ j < 1073741824
def CDivN (i j : Int) : Prop := j ≠ 0 ∧ j.natAbs < 1073741824
def CPow (i j : Int) : Prop := 0 ≤ j ∧ j ≤ 1000000 ∧ i.natAbs < 2 ^ 64
def CMul (i j : Int) : Prop := (-(2 ^ 64) < i ∧ i < 2 ^ 64) ∨ (-(2 ^ 64) < j ∧ j < 2 ^ 64)
theorem CMul.ok {i j : Int} (h : CMul i j) : IntMulOk i j := by
  rcases h with ⟨h1, h2⟩ | ⟨h1, h2⟩
  · exact .of_left (intBits_le_64 h1 h2)
  · exact .of_right (intBits_le_64 h1 h2)
theorem op_add : OpR X (binaryOp .Add) (rI0 fun i j => .int (i + j)) := opI0 fun _ _ _ _ _ _ _ q => add_int q
theorem op_sub : OpR X (binaryOp .Sub) (rI0 fun i j => .int (i - j)) := opI0 fun _ _ _ _ _ _ _ q => sub_int q
theorem op_modN : OpR X (binaryOp .Mod) (rI (fun _ j => j ≠ 0) fun i j => .int (i.fmod j)) := opI fun _ _ _ _ _ _ _ hc q => mod_int' hc q
theorem op_pow : OpR X (binaryOp .Pow) (rI CPow fun i j => .int (i ^ j.toNat)) := opI fun _ _ _ _ _ _ _ hc q => pow_int_small hc.1 hc.2.1 hc.2.2 q
theorem unI {f : Value → Sem Value} {g : Int → Int}
    (rule : ∀ (i : Int) (t : Tok) (s : Shared) (Q : Value → Shared → Prop) (E : Value → Shared → Prop), Q (.int (g i) s.toks) { s with toks := s.toks + 1 } → wpAny (model X.prog X.w) X.A (f (.int i t)) Q E s) :
    UnR X f (rU fun i => .int (g i)) := by
  intro pins s σ H x v Q I rx h
  obtain ⟨i, rfl, q⟩ := h
  obtain ⟨t, rfl⟩ := rx
  exact rule i t s _ _ ⟨.int (g i), H, I.tok _, ⟨_, rfl⟩, q⟩
theorem un_neg : UnR X (unaryOp .USub) (rU fun i => .int (-i)) := unI fun _ _ _ _ _ q => neg_int q
end

def scal : V → V → Bool
  | .non, .non => true | .non, .int _ => true | .int _, .non => true | .non, .bl _ => true | .bl _, .non => true | .non, .str _ => true | .str _, .non => true
  | .int _, .int _ => true | .bl _, .bl _ => true | .str _, .str _ => true | .byt _, .byt _ => true
  | .int _, .str _ => true | .str _, .int _ => true | .bl _, .str _ => true | .str _, .bl _ => true
  | _, _ => false
def rEq : R2 := fun x y H Q => scal x y = true ∧ Q (.bl (decide (x = y))) H
def rNe : R2 := fun x y H Q => scal x y = true ∧ Q (.bl (!decide (x = y))) H

theorem dec_int {i j : Int} : decide (V.int i = V.int j) = (i == j) := by
  rw [Bool.eq_iff_iff]
  simp
theorem dec_bl {i j : Bool} : decide (V.bl i = V.bl j) = (i == j) := by
  rw [Bool.eq_iff_iff]
  simp
theorem dec_str {i j : Str} : decide (V.str i = V.str j) = (i == j) := by
  rw [Bool.eq_iff_iff]
  simp
theorem dec_byt {i j : Array UInt8} : decide (V.byt i = V.byt j) = (i.toList == j.toList) := by
  rw [Bool.eq_iff_iff]
  cases i
  cases j
  simp

section
variable {X : Cx} {a b c : Expr} {ta tb tc : TE} {pos : Pos}
theorem fin_bl {pins : List (Addr × Obj)} {σ : St} {H : Hp} {s : Shared} {Q : VK} {k k' : Bool} (I : Inv X pins σ H s) (q : Q (.bl k) H) (e : k = k') : EP X pins σ Q (.bool k') s := by
  subst e
  exact ⟨.bl k, H, I, rfl, q⟩
theorem op_eq : OpR X (compareOp .Eq) rEq := by
  intro pins s σ H x y v u Q I rx ry h
  obtain ⟨hs, q⟩ := h
  cases x with
  | non =>
    cases rx
    cases y with
    | non => cases ry; exact PySem.EqNone.eq_none_none (fin_bl I q (by simp))
    | bl j => cases ry; exact PySem.EqNone.eq_none_bool (fin_bl I q (by simp))
    | int j => obtain ⟨t', rfl⟩ := ry; exact PySem.EqNone.eq_none_int (fin_bl I q (by simp))
    | str j => obtain ⟨t', rfl⟩ := ry; exact PySem.EqNone.eq_none_str (fin_bl I q (by simp))
    | _ => exact absurd (show false = true from hs) Bool.false_ne_true
  | bl i =>
    cases rx
    cases y with
    | non => cases ry; exact PySem.EqNone.eq_bool_none (fin_bl I q (by simp))
    | bl j => cases ry; exact eq_bool (fin_bl I q dec_bl)
    | str j => obtain ⟨t', rfl⟩ := ry; exact PySem.EqMixed.eq_bool_str (fin_bl I q (by simp))
    | _ => exact absurd (show false = true from hs) Bool.false_ne_true
  | int i =>
    obtain ⟨t, rfl⟩ := rx
    cases y with
    | non => cases ry; exact PySem.EqNone.eq_int_none (fin_bl I q (by simp))
    | int j => obtain ⟨t', rfl⟩ := ry; exact eq_int (fin_bl I q dec_int)
    | str j => obtain ⟨t', rfl⟩ := ry; exact PySem.EqMixed.eq_int_str (fin_bl I q (by simp))
    | _ => exact absurd (show false = true from hs) Bool.false_ne_true
  | str i =>
    obtain ⟨t, rfl⟩ := rx
    cases y with
    | non => cases ry; exact PySem.EqNone.eq_str_none (fin_bl I q (by simp))
    | bl j => cases ry; exact PySem.EqMixed.eq_str_bool (fin_bl I q (by simp))
    | int j => obtain ⟨t', rfl⟩ := ry; exact PySem.EqMixed.eq_str_int (fin_bl I q (by simp))
    | str j => obtain ⟨t', rfl⟩ := ry; exact eq_str (fin_bl I q dec_str)
    | _ => exact absurd (show false = true from hs) Bool.false_ne_true
  | byt i =>
    obtain ⟨t, rfl⟩ := rx
    cases y with
    | byt j => obtain ⟨t', rfl⟩ := ry; exact PySem.W.eq_bytes (fin_bl I q dec_byt)
    | _ => exact absurd (show false = true from hs) Bool.false_ne_true
  | _ => cases y <;> exact absurd (show false = true from hs) Bool.false_ne_true
theorem op_ne : OpR X (compareOp .NotEq) rNe := by
  intro pins s σ H x y v u Q I rx ry h
  obtain ⟨hs, q⟩ := h
  cases x with
  | non =>
    cases rx
    cases y with
    | non => cases ry; exact PySem.EqNone.ne_none_none (fin_bl I q (by simp))
    | bl j => cases ry; exact PySem.EqNone.ne_none_bool (fin_bl I q (by simp))
    | int j => obtain ⟨t', rfl⟩ := ry; exact PySem.EqNone.ne_none_int (fin_bl I q (by simp))
    | str j => obtain ⟨t', rfl⟩ := ry; exact PySem.EqNone.ne_none_str (fin_bl I q (by simp))
    | _ => exact absurd (show false = true from hs) Bool.false_ne_true
  | bl i =>
    cases rx
    cases y with
    | non => cases ry; exact PySem.EqNone.ne_bool_none (fin_bl I q (by simp))
    | bl j => cases ry; exact ne_bool (fin_bl I q (congrArg not dec_bl))
    | str j => obtain ⟨t', rfl⟩ := ry; exact PySem.EqMixed.ne_bool_str (fin_bl I q (by simp))
    | _ => exact absurd (show false = true from hs) Bool.false_ne_true
  | int i =>
    obtain ⟨t, rfl⟩ := rx
    cases y with
    | non => cases ry; exact PySem.EqNone.ne_int_none (fin_bl I q (by simp))
    | int j => obtain ⟨t', rfl⟩ := ry; exact ne_int (fin_bl I q (congrArg not dec_int))
    | str j => obtain ⟨t', rfl⟩ := ry; exact PySem.EqMixed.ne_int_str (fin_bl I q (by simp))
    | _ => exact absurd (show false = true from hs) Bool.false_ne_true
  | str i =>
    obtain ⟨t, rfl⟩ := rx
    cases y with
    | non => cases ry; exact PySem.EqNone.ne_str_none (fin_bl I q (by simp))
    | bl j => cases ry; exact PySem.EqMixed.ne_str_bool (fin_bl I q (by simp))
    | int j => obtain ⟨t', rfl⟩ := ry; exact PySem.EqMixed.ne_str_int (fin_bl I q (by simp))
    | str j => obtain ⟨t', rfl⟩ := ry; exact ne_str (fin_bl I q (congrArg not dec_str))
    | _ => exact absurd (show false = true from hs) Bool.false_ne_true
  | byt i =>
    obtain ⟨t, rfl⟩ := rx
    cases y with
    | byt j => obtain ⟨t', rfl⟩ := ry; exact PySem.W.ne_bytes (fin_bl I q (congrArg not dec_byt))
    | _ => exact absurd (show false = true from hs) Bool.false_ne_true
  | _ => cases y <;> exact absurd (show false = true from hs) Bool.false_ne_true

theorem op_lt : OpR X (compareOp .Lt) (rI0 fun i j => .bl (decide (i < j))) := opB0 fun _ _ _ _ _ _ _ q => lt_int q
theorem op_gt : OpR X (compareOp .Gt) (rI0 fun i j => .bl (decide (j < i))) := opB0 fun _ _ _ _ _ _ _ q => gt_int q
theorem op_isN : OpR X (compareOp .Is) (fun x y H Q => y = .non ∧ Q (.bl (decide (x = .non))) H) := by
  intro pins s σ H x y v u Q I rx ry h
  obtain ⟨rfl, q⟩ := h
  cases ry
  refine is_none_gen (fin_bl I q ?_)
  cases x <;> first
    | (cases rx; rfl)
    | (obtain ⟨t, rfl⟩ := rx; rfl)
theorem op_notN : OpR X (compareOp .IsNot) (fun x y H Q => y = .non ∧ Q (.bl (!decide (x = .non))) H) := by
  intro pins s σ H x y v u Q I rx ry h
  obtain ⟨rfl, q⟩ := h
  cases ry
  refine isnot_none_gen (fin_bl I q ?_)
  cases x <;> first
    | (cases rx; rfl)
    | (obtain ⟨t, rfl⟩ := rx; rfl)

def isObj : HO → Bool
  | .lst _ => true
  | .ins _ _ _ => true
  | _ => false
theorem OpR.or {f : Value → Value → Sem Value} {r r' : R2} (h : OpR X f r) (h' : OpR X f r') : OpR X f (fun x y H Q => r x y H Q ∨ r' x y H Q) := by
  intro pins s σ H x y v u Q I rx ry q
  rcases q with q | q
  · exact h pins s σ H x y v u Q I rx ry q
  · exact h' pins s σ H x y v u Q I rx ry q

theorem nomark (b : Expr) {op : CmpOp} (h : op ≠ .In := by decide) (h2 : op ≠ .NotIn := by decide) : behindInMarks op b = false := by
  have e1 : (op == CmpOp.In) = false := by cases op <;> first | rfl | exact absurd rfl h
  have e2 : (op == CmpOp.NotIn) = false := by cases op <;> first | rfl | exact absurd rfl h2
  cases b <;> simp [behindInMarks, e1, e2]
theorem pe_cmpR {op : CmpOp} {r : R2} (ho : OpR X (compareOp op) r) (ha : PE X a ta) (hb : PE X b tb) (hm : behindInMarks op b = false) : PE X (.Compare a [op] [b] pos) (tOp r ta tb) := by
  intro pins s σ H Q I h
  exact wpAny_Compare1 (binT ha hb I h fun v u s2 x y H2 I2 rx ry q => ho pins s2 σ H2 x y v u Q I2 rx ry q) hm
def tTest (t : TE) : TT := fun σ H Q => t σ H fun x H' => ∃ k, x = .bl k ∧ Q k H'
theorem pt_cmpR {op : CmpOp} {r : R2} (ho : OpR X (compareOp op) r) (ha : PE X a ta) (hb : PE X b tb) (hm : behindInMarks op b = false) : PT X (.Compare a [op] [b] pos) (tTest (tOp r ta tb)) := by
  intro pins s σ H Q I h
  refine wpAny_isTrue_Compare1 (thn (ha pins s σ H _ I h) fun v s1 ⟨x, H1, I1, r1, q1⟩ => thn (hb pins s1 σ H1 _ I1 q1) fun u s2 ⟨y, H2, I2, r2, q2⟩ =>
    thn (ho pins s2 σ H2 x y v u _ I2 r1 r2 q2) fun c s3 ⟨z, H3, I3, r3, k, e, q3⟩ => ?_) hm
  subst e
  cases r3
  exact wpAny_truthy_bool ⟨H3, I3, q3⟩
def tChain (r r' : R2) (ta tb tc : TE) : TE := fun σ H Q => ta σ H fun x H1 => tb σ H1 fun y H2 => r x y H2 fun z H3 => ∃ k, z = .bl k ∧
  (if k = true then tc σ H3 fun w' H4 => r' y w' H4 Q else Q (.bl false) H3)
def TruV (K : PySem.W.Frag) (x : V) (H : Hp) (k : Bool) : Prop :=
  match x with
  | .non => k = false
  | .bl b => k = b
  | .int i => k = (i != 0)
  | .str y => y.length ≤ sizeLine ∧ k = ((y.length : Int) != 0)
  | .byt y => y.size ≤ sizeLine ∧ k = ((y.size : Int) != 0)
  | .ref p => (∃ xs, SqL K H p xs ∧ k = !xs.isEmpty) ∨ (∃ xs, SqT K H p xs ∧ k = !xs.isEmpty) ∨ ∃ kvs, H p = some (.dK kvs) ∧ k = !kvs.isEmpty
  | _ => False
theorem line63 : (sizeLine : Nat) < 2 ^ 63 := by rw [sizeLine_eq]; decide
def PlainIxT (b : Expr) : Prop := ∀ o i, subscripted b false o i = operate [o, i] (getItem o i)
theorem vals1 {x : V} {us : List Value} (r : Vals [x] us) : ∃ u, us = [u] ∧ RelV x u := by
  cases r with
  | cons r1 r2 => cases r2; exact ⟨_, rfl, r1⟩
theorem vals2 {x y : V} {us : List Value} (r : Vals [x, y] us) : ∃ u w', us = [u, w'] ∧ RelV x u ∧ RelV y w' := by
  cases r with
  | cons r1 r2 =>
    cases r2 with
    | cons r3 r4 => cases r4; exact ⟨_, _, rfl, r1, r3⟩
theorem call_abs : CallR X (.builtin "abs") (fun xs H Q => ∃ i, xs = [.int i] ∧ Q (.int (if i < 0 then -i else i)) H) := by
  intro pins s σ H xs us Q I r h
  obtain ⟨i, rfl, q⟩ := h
  obtain ⟨u, rfl, t, rfl⟩ := vals1 r
  exact call_abs_int fun u tk => ⟨.int (if i < 0 then -i else i), H, I.tok _, ⟨_, rfl⟩, q⟩
theorem call_int1 : CallR X (.type "int") (fun xs H Q => (∃ i, xs = [.int i] ∧ Q (.int i) H) ∨ ∃ k, xs = [.bl k] ∧ Q (.int (if k then 1 else 0)) H) := by
  intro pins s σ H xs us Q I r h
  rcases h with ⟨i, rfl, q⟩ | ⟨k, rfl, q⟩
  · obtain ⟨u, rfl, t, rfl⟩ := vals1 r
    exact call_int_int ⟨.int i, H, I, ⟨_, rfl⟩, q⟩
  · obtain ⟨u, rfl, r1⟩ := vals1 r
    cases r1
    exact call_int_bool ⟨.int (if k then 1 else 0), H, I.tok _, ⟨_, rfl⟩, q⟩
def LenV (K : PySem.W.Frag) (x : V) (H : Hp) (n : Nat) : Prop :=
  match x with
  | .str y => y.length ≤ sizeLine ∧ n = y.length
  | .byt y => y.size ≤ sizeLine ∧ n = y.size
  | .ref p => (∃ xs, SqL K H p xs ∧ n = xs.length) ∨ ∃ xs, SqT K H p xs ∧ n = xs.length
  | _ => False
end
end L2

namespace L2
open PySem PySem.Spec PyProof.Rows

structure ObjM (h : Heap) (x dx C : Addr) (mA : Str → Option Value) : Prop where
  obj : h.get? x = some (PySem.W.instObj C dx)
  ns : h.Ns1 dx mA
  ne : dx ≠ x

theorem lookIn_ns {h : Heap} {dx : Addr} {mA : Str → Option Value} (n : h.Ns1 dx mA) : ∃ od, h.get? dx = some od ∧ ∀ name, PySem.W.lookIn name od = some (mA name) := by
  obtain ⟨o, es, ep, ho, hd, hk, _, hm⟩ := n
  refine ⟨o, ho, fun name => ?_⟩
  have e := hm name
  unfold nsFind findBy at e
  rw [← Array.find?_toList] at e
  unfold PySem.W.lookIn
  rw [hd]
  dsimp only
  split
  · rename_i y q
    rw [q] at e
    exact congrArg some e
  · rename_i q
    rw [q] at e
    have a : es.toList.any (·.refKey) = false := by
      rw [List.any_eq_false]
      intro y hy
      obtain ⟨z, t, hkey⟩ := hk y (Array.mem_toList_iff.mp hy)
      simp [DictEntry.refKey, hkey]
    have a' : ¬ es.toList.any (·.refKey) = true := by rw [a]; exact Bool.false_ne_true
    rw [if_neg a']
    exact congrArg some e

theorem ObjM.look {h : Heap} {x dx C : Addr} {mA : Str → Option Value} (I : ObjM h x dx C mA) : ∃ od, PySem.W.InstAt h x (PySem.W.instObj C dx) C (some od) ∧ ∀ name, PySem.W.lookIn name od = some (mA name) :=
  let ⟨od, ho, hl⟩ := lookIn_ns I.ns
  ⟨od, ⟨I.obj, rfl, rfl, ho⟩, hl⟩

section
variable {prog : Program} {w : World} {A : Around} {E : Value → Shared → Prop} {s : Shared} {K : PySem.W.Frag} {x dx C f : Addr} {mA : Str → Option Value} {name : Str} {v : Value}

end

def putF (f : Str) (v : V) : List (Str × V) → List (Str × V)
  | [] => [(f, v)]
  | (g, x) :: r => if g = f then (g, v) :: r else (g, x) :: putF f v r
theorem RelO.some_of {v : V} {o : Option Value} (r : RelO (some v) o) : ∃ u, o = some u ∧ RelV v u := by
  cases o with
  | none => exact (show False from r).elim
  | some u => exact ⟨u, rfl, r⟩
theorem RelO.none_of {o : Option Value} (r : RelO none o) : o = none := by
  cases o with
  | none => rfl
  | some u => exact (show False from r).elim
section
variable {P : Program} {w : World} {H H' : Hp} {h h' : Heap} {a C dx : Addr} {fs fs' : List (Str × V)}
theorem ins_get (hok : HOk P w H h) (e : H a = some (.ins C dx fs)) : ∃ mA, ObjM h a dx C mA ∧ (∀ f, RelO (fs.lookup f) (mA f)) ∧ PySem.Within mA (fs.map (·.1)) ∧ fs.length ≤ 1000 ∧ H dx = some (.own a) := by
  obtain ⟨d, z, ne, ob, mA, n, r, q⟩ := (show ObjOk P w H h a (.ins C dx fs) from hok a _ e)
  exact ⟨mA, ⟨ob, n, ne⟩, r, q, z, d⟩
end

structure Cls (K : PySem.W.Frag) (C : Addr) : Prop where
  pg : PySem.W.plainGet K C Str.empty = true
  hd : PySem.W.hasDictIn K C = true
  po : PySem.W.plainOver K C = true
  sa : PySem.W.findIn K (.ref C) "__setattr__" = some (some (.builtin "object.__setattr__"))
theorem Cls.get {K : PySem.W.Frag} {C : Addr} (c : Cls K C) (f : Str) : PySem.W.plainGet K C f = true := c.pg
def NoAttr (K : PySem.W.Frag) (C : Addr) (f : Str) : Prop := PySem.W.findIn K (.ref C) f = some none
structure Con (K : PySem.W.Frag) (C : Addr) (f : Str) (v : V) (u : Value) : Prop where
  at_ : PySem.W.findIn K (.ref C) f = some (some u)
  rel : RelV v u
  get : PySem.W.specialIn K u "__get__" = some none
  cp : PySem.W.copiedNames.contains f = false
structure Meth (K : PySem.W.Frag) (C : Addr) (m : Str) (f : Addr) : Prop where
  at_ : PySem.W.findIn K (.ref C) m = some (some (.ref f))
  fn : PySem.W.isFn K (.ref f) = true
  kp : PySem.W.keepIn K (.ref f) = true

section
variable {X : Cx} {pins : List (Addr × Obj)} {σ : St} {H : Hp} {s : Shared} {a C dx : Addr} {fs : List (Str × V)} {f : Str} {v : V} {A : Around} {E : Value → Shared → Prop}

end

def tFld (K : PySem.W.Frag) (ta : TE) (f : Str) : TE := fun σ H Q => ta σ H fun x H1 => ∃ a C dx fs v, x = .ref a ∧ H1 a = some (.ins C dx fs) ∧ Cls K C ∧ NoAttr K C f ∧ fs.lookup f = some v ∧ Q v H1
def tCon (K : PySem.W.Frag) (ta : TE) (f : Str) : TE := fun σ H Q => ta σ H fun x H1 => ∃ a C dx fs v u, x = .ref a ∧ H1 a = some (.ins C dx fs) ∧ Cls K C ∧ Con K C f v u ∧ fs.lookup f = none ∧ Q v H1
def sFld (K : PySem.W.Frag) (ta tv : TE) (f : Str) : TS := fun D σ H => tv σ H fun y H1 => ta σ H1 fun x H2 => ∃ a C dx fs, x = .ref a ∧ H2 a = some (.ins C dx fs) ∧ Cls K C ∧ NoAttr K C f ∧ fs.length < 1000 ∧
  D.nx σ (upd H2 a (.ins C dx (putF f y fs)))
def InOp (X : Cx) (op : Operator) (rd : V → V → Hp → VK → Prop) : Prop :=
  ∀ (pins : List (Addr × Obj)) (s : Shared) (σ : St) (H : Hp) (x y : V) (u v : Value) (Q : VK), Inv X pins σ H s → RelV x u → RelV y v → rd x y H Q → wpAny (model X.prog X.w) X.A (inplaceOp op u v) (EP X pins σ Q) X.xe s
def sFldAug (K : PySem.W.Frag) (ta tv : TE) (rd : V → V → Hp → VK → Prop) (f : Str) : TS := fun D σ H => ta σ H fun x H1 => ∃ a C dx fs v, x = .ref a ∧ H1 a = some (.ins C dx fs) ∧ Cls K C ∧ NoAttr K C f ∧ fs.lookup f = some v ∧
  tv σ H1 fun y H2 => rd v y H2 fun z H3 => ∃ dx' fs', H3 a = some (.ins C dx' fs') ∧ fs'.length < 1000 ∧ D.nx σ (upd H3 a (.ins C dx' (putF f z fs')))

section
variable {X : Cx} {o e value : Expr} {f : Str} {pos pos' tpos : Pos} {ta tv : TE}
def rAdd : V → V → Hp → VK → Prop := fun x y H Q => ∃ i j, x = .int i ∧ y = .int j ∧ Q (.int (i + j)) H
def rSub : V → V → Hp → VK → Prop := fun x y H Q => ∃ i j, x = .int i ∧ y = .int j ∧ Q (.int (i - j)) H
end

section
variable {X : Cx} {pins : List (Addr × Obj)} {σ : St} {H : Hp} {s : Shared} {A : Around} {E : Value → Shared → Prop} {Q : Value → Shared → Prop} {c : Value} {b : Bool}
inductive TyOf (K : PySem.W.Frag) (H : Hp) : V → Value → Prop where
  | non : TyOf K H .non (.type "NoneType")
  | bl (x : Bool) : TyOf K H (.bl x) (.type "bool")
  | int (i : Int) : TyOf K H (.int i) (.type "int")
  | str (x : Str) : TyOf K H (.str x) (.type "str")
  | flt (x : UInt64) : TyOf K H (.flt x) (.type "float")
  | lst {a : Addr} {xs : List V} (e : H a = some (.lst xs)) : TyOf K H (.ref a) (.type "list")
  | frz {a : Addr} {o : Obj} {xs : List V} (e : H a = some (.frz o (.lst xs))) : TyOf K H (.ref a) (.type "list")
  | tup {a : Addr} {xs : List V} (e : H a = some (.tup xs)) : TyOf K H (.ref a) (.type "tuple")
  | dK {a : Addr} {kvs : List (Key × V)} (e : H a = some (.dK kvs)) : TyOf K H (.ref a) (.type "dict")
  | dT {a : Addr} {kvs : List (List Key × V)} (e : H a = some (.dT kvs)) : TyOf K H (.ref a) (.type "dict")
  | ins {a C dx : Addr} {fs : List (Str × V)} (e : H a = some (.ins C dx fs)) (cl : Cls K C) (ha : PySem.W.findIn K (.ref C) "__class__" = some (some (.builtin "object.__class__")))
      (hn : PySem.W.specialIn K (.builtin "object.__class__") "__get__" = some (some (.builtin "getset_descriptor.__get__"))) (htk : PySem.W.takesIn K (.builtin "object.__class__") = some true)
      (hm : PySem.W.mroIn K C (.type "object") = some true) : TyOf K H (.ref a) (.ref C)
theorem isinst_ok {x : V} {u t : Value} (I : Inv X pins σ H s) (rx : RelV x u) (ty : TyOf X.K H x t) (e : PySem.W.kitOne X.K t c = some b) (h : ∀ tk, Q (.bool b) { s with toks := tk }) :
    wpAny (model X.prog X.w) A (call (.builtin "isinstance") [u, c]) Q E s := by
  cases ty with
  | non => cases (show u = Value.none from rx); exact PySem.W.kia_one PySem.W.kitx_none I.kIn True.intro e (fun z => nomatch z) h
  | bl y => cases (show u = Value.bool y from rx); exact PySem.W.kia_one PySem.W.kitx_bool I.kIn True.intro e (fun z => nomatch z) h
  | int i => obtain ⟨t, q⟩ := (show ∃ t, u = Value.int i t from rx); cases q; exact PySem.W.kia_one PySem.W.kitx_int I.kIn True.intro e (fun z => nomatch z) h
  | str y => obtain ⟨t, q⟩ := (show ∃ t, u = Value.str y t from rx); cases q; exact PySem.W.kia_one PySem.W.kitx_str I.kIn True.intro e (fun z => nomatch z) h
  | flt y => obtain ⟨t, q⟩ := (show ∃ t, u = Value.float y t from rx); cases q; exact PySem.W.kia_one PySem.W.kitx_float I.kIn True.intro e (fun z => nomatch z) h
  | @lst a xs ea =>
    cases (show u = Value.ref a from rx)
    obtain ⟨_, _, n, _, h1⟩ := (show ObjOk X.prog X.w H s.heap a (.lst xs) from I.hok a _ ea)
    exact PySem.W.kia_one PySem.W.kitx_list I.kIn ⟨_, h1, rfl⟩ e (fun z => nomatch z) h
  | @frz a ob xs ea =>
    cases (show u = Value.ref a from rx)
    obtain ⟨_, _, _, n, _, h1⟩ := (show ObjOk X.prog X.w H s.heap a (.frz ob (.lst xs)) from I.hok a _ ea)
    exact PySem.W.kia_one PySem.W.kitx_list I.kIn ⟨_, h1, rfl⟩ e (fun z => nomatch z) h
  | @tup a xs ea =>
    cases (show u = Value.ref a from rx)
    obtain ⟨_, _, _, p⟩ := (show ObjOk X.prog X.w H s.heap a (.tup xs) from I.hok a _ ea)
    obtain ⟨o, h1, h2, _⟩ := p
    exact PySem.W.kia_one PySem.W.kitx_tuple I.kIn ⟨o, h1, h2⟩ e (fun z => nomatch z) h
  | @dK a kvs ea =>
    cases (show u = Value.ref a from rx)
    obtain ⟨_, _, vs, _, p⟩ := (show ObjOk X.prog X.w H s.heap a (.dK kvs) from I.hok a _ ea)
    obtain ⟨o, es, ep, h1, h2, _⟩ := p
    exact PySem.W.kia_one PySem.W.kitx_dict I.kIn ⟨o, h1, h2.1⟩ e (fun z => nomatch z) h
  | @dT a kvs ea =>
    cases (show u = Value.ref a from rx)
    obtain ⟨_, _, xs, _, o, es, ep, h1, h2, _⟩ := (show ObjOk X.prog X.w H s.heap a (.dT kvs) from I.hok a _ ea)
    exact PySem.W.kia_one PySem.W.kitx_dict I.kIn ⟨o, h1, h2.1⟩ e (fun z => nomatch z) h
  | @ins a C dx fs ea cl ha hn htk hm =>
    cases (show u = Value.ref a from rx)
    obtain ⟨mA, O, _⟩ := ins_get I.hok ea
    obtain ⟨od, J, _⟩ := O.look
    exact PySem.W.kia_one (PySem.W.kitx_own (cl.get _) cl.hd ha hn htk hm) I.kIn J e (fun z => nomatch z) h
end
end L2

namespace L2
open PySem PySem.Spec PyProof.Rows

structure Room (k : Nat) (A : Around) : Prop where
  hd : A.handled = none
  dp : A.depth + 3 * k + 5 < recursionLimit
  un : A.units + 16 * k + 200 < cLine
theorem Room.mono {j k : Nat} {A : Around} (r : Room k A) (h : j ≤ k) : Room j A := ⟨r.hd, by have := r.dp; omega, by have := r.un; omega⟩
theorem Room.deeper {k : Nat} {A : Around} (r : Room (k + 1) A) (env : Env) : Room k (A.deeper env) :=
  ⟨r.hd, by have := r.dp; show A.depth + 1 + 3 * k + 5 < _; omega, by have := r.un; show A.units + 3 + 16 * k + 200 < _; omega⟩
theorem Room.in1 {k : Nat} {A : Around} (r : Room (k + 1) A) : Room k A.in1 :=
  ⟨r.hd, by have := r.dp; show A.depth + 3 * k + 5 < _; omega, by have := r.un; show A.units + 1 + 16 * k + 200 < _; omega⟩
theorem make_depth {A : Around} {C : Addr} {us : List Value} {kw : List (Str × Value)} : (A.under (.builtin "type.__call__" ⟨.ref C :: us, kw⟩)).depth = A.depth + 1 := by
  first | rfl | simp [Around.under, Code.weight, Code.isCreation, Code.isGuard, Code.isCaller, Code.frames, Code.isFrame, guardIds]
theorem make_units {A : Around} {C : Addr} {us : List Value} {kw : List (Str × Value)} : (A.under (.builtin "type.__call__" ⟨.ref C :: us, kw⟩)).units = A.units + 1 := by
  first | rfl | simp [Around.under, Code.cUnits, Code.frames, Code.isFrame]
theorem Room.make {k : Nat} {A : Around} (r : Room (k + 1) A) (C : Addr) (us : List Value) (kw : List (Str × Value)) : Room k (A.under (.builtin "type.__call__" ⟨.ref C :: us, kw⟩)) :=
  ⟨r.hd, by have := r.dp; rw [make_depth]; omega, by have := r.un; rw [make_units]; omega⟩
theorem Room.depth {k : Nat} {A : Around} (r : Room k A) : A.depth < recursionLimit := by have := r.dp; omega
theorem Room.units {k : Nat} {A : Around} (r : Room k A) : A.units + 64 < cLine := by have := r.un; omega
def tNil : TA := fun _ H Q => Q [] H
def tCons (ta : TE) (tr : TA) : TA := fun σ H Q => ta σ H fun x H1 => tr σ H1 fun xs H2 => Q (x :: xs) H2
section
variable {X : Cx} {e : Expr} {es : List Expr} {te : TE} {t : TA} {pos : Pos}
theorem pa_nil : PA X [] tNil := fun _ _ _ _ H Q I h => Calls.spliced_nil ⟨[], H, I, .nil, h⟩
theorem pa_cons (ha : PE X e te) (hr : PA X es t) (hs : starEach (e :: es) X.env = (false, eval e X.env) :: starEach es X.env := by rfl) : PA X (e :: es) (tCons te t) := by
  intro pos pins s σ H Q I h
  rw [hs]
  show wpAny _ _ (spliced ((false, eval e X.env) :: backTo pos (starEach es X.env))) _ _ s
  refine Calls.spliced_cons (thn (ha pins s σ H _ I h) fun u s1 ⟨x, H1, I1, r1, q1⟩ => ?_)
  exact thn (hr pos pins s1 σ H1 _ I1 q1) fun us s2 ⟨xs, H2, I2, r2, q2⟩ => ⟨x :: xs, H2, I2, .cons r1 r2, q2⟩

def tTup (t : TA) : TE := fun σ H Q => t σ H fun xs H1 => xs.length ≤ sizeLine ∧ ∀ p, H1 p = none → Q (.ref p) (upd H1 p (.tup xs))
def tLst (t : TA) : TE := fun σ H Q => t σ H fun xs H1 => xs.length ≤ sizeLine ∧ ∀ p, H1 p = none → Q (.ref p) (upd H1 p (.lst xs))
theorem pe_tup {x1} (h : PA X es t) : PE X (.Tuple es x1 pos) (tTup t) := by
  intro pins s σ H Q I hq
  refine wpAny_Tuple_spliced (thn (h pos pins s σ H _ I hq) fun us s1 ⟨xs, H1, I1, r, z, q⟩ => ⟨by rw [← r.length]; exact z, ?_⟩)
  have hf : H1 s1.heap.objs.size = none := I1.hok.fresh (Nat.le_refl _)
  refine ⟨.ref s1.heap.objs.size, upd H1 s1.heap.objs.size (.tup xs), I1.laid (t' := s1.toks) (fun b u e => Heap.get?_push_of_some _ e) (Nat.le_refl _) ?_, rfl, q _ hf⟩
  exact ⟨z, us, r, ⟨_, Heap.get?_push_size _ rfl, rfl, _, rfl⟩⟩
theorem pe_lst (h : PA X es t) : PE X (.List es pos) (tLst t) := by
  intro pins s σ H Q I hq
  refine wpAny_List_spliced (thn (h pos pins s σ H _ I hq) fun us s1 ⟨xs, H1, I1, r, z, q⟩ => ⟨by rw [← r.length]; exact z, ?_⟩)
  have hf : H1 s1.heap.objs.size = none := I1.hok.fresh (Nat.le_refl _)
  refine ⟨.ref s1.heap.objs.size, upd H1 s1.heap.objs.size (.lst xs), I1.laid (t' := s1.toks) (fun b u e => Heap.get?_push_of_some _ e) (Nat.le_refl _) ?_, rfl, q _ hf⟩
  exact ⟨z, us, 0, r, Heap.get?_push_size _ rfl⟩
end

abbrev Sp := List V → Hp → VK → XK → Prop
abbrev CXT := List Env → Hp → Shared → XK → Value → Shared → Prop

structure Env0 (P : Program) (w : World) (K : PySem.W.Frag) (mg : Str → Option Value) (base : Heap) (A : Around) (outer : List Env) (s : Shared) (H : Hp) : Prop where
  frames : A.frames = some outer
  mod : Mod K mg base
  bs : ∀ b o, base.get? b = some o → s.heap.get? b = some o ∧ H b = none
  bsz : base.objs.size ≤ s.heap.objs.size
  funs : s.heap.FunFrames base outer
  frf : ∀ b ∈ frs outer, H b = none
  hok : HOk P w H s.heap
  bare : AllBare s.gens
def CE (outer : List Env) (P : Program) (w : World) (H : Hp) (s : Shared) (Q : VK) (u : Value) (s' : Shared) : Prop :=
  ∃ v H', s'.os = s.os ∧ AllBare s'.gens ∧ Un (frs outer) [] H H' s.heap s'.heap ∧ HOk P w H' s'.heap ∧ RelV v u ∧ Q v H'
def CR (CX : CXT) (outer : List Env) (P : Program) (w : World) (H : Hp) (s : Shared) (Q : VK) (E : XK) (r : Result) (s' : Shared) : Prop :=
  match r with
  | .ok (.ret u) => CE outer P w H s Q u s'
  | .ok _ => False
  | .error e => CX outer H s E e s'
structure FnOk (P : Program) (w : World) (K : PySem.W.Frag) (mg : Str → Option Value) (base : Heap) (CX : CXT) (k : Nat) (f : Addr) (fd : FuncData) (ps : List Str) (sp : Sp) : Prop where
  len : ∀ vs H Q E, sp vs H Q E → vs.length = ps.length
  run : ∀ (A : Around) (outer : List Env) (s : Shared) (H : Hp) (args : Args) (us : List Value) (vs : List V) (Q : VK) (E : XK), Room k A → Env0 P w K mg base A outer s H → BindsTo s fd args (ps.zip us) → Vals vs us → sp vs H Q E →
    codeAny (model P w) A (.call (.ref f) args) (CR CX outer P w H s Q E) s
theorem FnOk.mono {P : Program} {w : World} {K : PySem.W.Frag} {mg : Str → Option Value} {base : Heap} {CX : CXT} {j k : Nat} {f : Addr} {fd : FuncData} {ps : List Str} {sp : Sp} (F : FnOk P w K mg base CX j f fd ps sp) (h : j ≤ k) :
    FnOk P w K mg base CX k f fd ps sp := ⟨F.len, fun A outer s H args us vs Q E hr => F.run A outer s H args us vs Q E (hr.mono h)⟩
theorem FnOk.imp {P : Program} {w : World} {K : PySem.W.Frag} {mg : Str → Option Value} {base : Heap} {CX : CXT} {k : Nat} {f : Addr} {fd : FuncData} {ps : List Str} {sp sp' : Sp} (F : FnOk P w K mg base CX k f fd ps sp)
    (h : ∀ vs H Q E, sp' vs H Q E → sp vs H Q E) : FnOk P w K mg base CX k f fd ps sp' :=
  ⟨fun vs H Q E q => F.len vs H Q E (h _ _ _ _ q), fun A outer s H args us vs Q E hr he hb hv hs => F.run A outer s H args us vs Q E hr he hb hv (h _ _ _ _ hs)⟩

theorem Env0.make {P : Program} {w : World} {K : PySem.W.Frag} {mg : Str → Option Value} {base : Heap} {A : Around} {outer : List Env} {s : Shared} {H : Hp} (e : Env0 P w K mg base A outer s H) (C : Addr) (us : List Value) (kw : List (Str × Value)) :
    Env0 P w K mg base (A.under (.builtin "type.__call__" ⟨.ref C :: us, kw⟩)) outer s H := ⟨by first | exact e.frames | (simpa [Around.under, Code.envs, Code.isFrame, pushEnvs] using e.frames), e.mod, e.bs, e.bsz, e.funs, e.frf, e.hok, e.bare⟩
theorem Env0.in1 {P : Program} {w : World} {K : PySem.W.Frag} {mg : Str → Option Value} {base : Heap} {A : Around} {outer : List Env} {s : Shared} {H : Hp} (e : Env0 P w K mg base A outer s H) :
    Env0 P w K mg base A.in1 outer s H := ⟨e.frames, e.mod, e.bs, e.bsz, e.funs, e.frf, e.hok, e.bare⟩

section
variable {X : Cx} {pins : List (Addr × Obj)} {σ : St} {H : Hp} {s s' : Shared}
theorem Inv.env0 (I : Inv X pins σ H s) : Env0 X.prog X.w X.K X.mg X.base X.A X.stack s H :=
  ⟨I.ok.frames, I.ok.mod, I.bs, Nat.le_trans I.ok.bsz I.sz, I.stack, I.stkFree, I.hok, I.bare⟩
theorem Inv.after {Q : VK} {u : Value} (I : Inv X pins σ H s) (h : CE X.stack X.prog X.w H s Q u s') : EP X pins σ Q u s' := by
  obtain ⟨v, H', os, bare, un, hok, r, q⟩ := h
  obtain ⟨hh, g, d, t, os'⟩ := s'
  obtain rfl : os' = s.os := os
  exact ⟨v, H', I.call (h' := hh) (g' := g) (d' := d) (t' := t) (ch := []) un hok bare (fun b z => absurd z (by simp)), r, q⟩
end

def tCall (sp : Sp) (dvs : List V) (E : XK) (t : TA) : TE := fun σ H Q => t σ H fun vs H1 => sp (vs ++ dvs) H1 Q E
def tMeth (C : Addr) (m : Str) (sp : Sp) (dvs : List V) (E : XK) (ta : TE) (t : TA) : TE := fun σ H Q => ta σ H fun x H1 => ∃ a dx fs, x = .ref a ∧ H1 a = some (.ins C dx fs) ∧ fs.lookup m = none ∧
  t σ H1 fun vs H2 => sp (x :: (vs ++ dvs)) H2 Q E
def tMake (C : Addr) (sp : Sp) (dvs : List V) (E : XK) (t : TA) : TE := fun σ H Q => t σ H fun vs H1 => ∀ x dx, H1 x = none → H1 dx = none → dx ≠ x →
  sp (.ref x :: (vs ++ dvs)) (upd (upd H1 dx (.own x)) x (.ins C dx [])) (fun v H2 => v = .non ∧ Q (.ref x) H2) E

def Binds (K : PySem.W.Frag) (fd : FuncData) (ps : List Str) (ds : List Value) : Prop :=
  ∀ (s : Shared) (us : List Value), K.In s.heap → (us ++ ds).length = ps.length → BindsTo s fd ⟨us, []⟩ (ps.zip (us ++ ds))
theorem Binds.all {K : PySem.W.Frag} {fd : FuncData} {ps : List Str} (h : ∀ us : List Value, us.length = ps.length → bindArgs fd ⟨us, []⟩ = pure (ps.zip us)) : Binds K fd ps [] := fun s us _ hl => by
  rw [List.append_nil] at hl ⊢
  exact .of_eq (h us hl)

def Passes (CX : CXT) (X : Cx) (E : XK) : Prop := ∀ (pins : List (Addr × Obj)) (σ : St) (H : Hp) (s : Shared) (e : Value) (s' : Shared), Inv X pins σ H s → CX X.stack H s E e s' → X.xe e s'

section
variable {X : Cx} {CX : CXT} {k : Nat} {f C : Addr} {fd : FuncData} {ps : List Str} {sp : Sp} {dvs : List V} {ds : List Value} {E : XK} {x m : Str} {p pos apos : Pos} {e o : Expr} {es : List Expr} {ta : TE} {t : TA}

theorem run_fn {pins : List (Addr × Obj)} {σ : St} {H : Hp} {s : Shared} {Q : VK} {us : List Value} {vs : List V} (F : FnOk X.prog X.w X.K X.mg X.base CX k f fd ps sp) (hr : Room k X.A) (hb : Binds X.K fd ps ds) (hd : Vals dvs ds) (hx : Passes CX X E)
    (I : Inv X pins σ H s) (r : Vals vs us) (h : sp (vs ++ dvs) H Q E) : wpAny (model X.prog X.w) X.A (call (.ref f) us) (EP X pins σ Q) X.xe s := by
  have r2 : Vals (vs ++ dvs) (us ++ ds) := r.append hd
  have hl : (us ++ ds).length = ps.length := by rw [← r2.length]; exact F.len _ _ _ _ h
  refine wpAny_call (codeAny_mono (F.run X.A X.stack s H ⟨us, []⟩ (us ++ ds) (vs ++ dvs) Q E hr I.env0 (hb s us I.kIn hl) r2 h) fun r s' hq => ?_)
  cases r with
  | error e => exact hx pins σ H s e s' I hq
  | ok fl =>
    cases fl with
    | ret u => exact I.after hq
    | next => exact False.elim hq
    | brk => exact False.elim hq
    | cont => exact False.elim hq

theorem pe_call (F : FnOk X.prog X.w X.K X.mg X.base CX k f fd ps sp) (hr : Room k X.A) (hg : Gl X x) (hm : X.mg x = some (.ref f)) (hk : PySem.W.keepIn X.K (.ref f) = true) (hb : Binds X.K fd ps ds) (hd : Vals dvs ds) (hx : Passes CX X E)
    (ha : PA X (e :: es) t) (hdb : (x == ("__debug__" : Str)) = false := by decide) (he : starEach (e :: es) X.env = (false, eval e X.env) :: starEach es X.env := by rfl) (hpl : (backTo pos (starEach es X.env)).any (·.1) = false := by rfl) :
    PE X (.Call (.Name x p) (e :: es) [] pos) (tCall sp dvs E t) := by
  intro pins s σ H Q I h
  refine wpAny_Call_Name_kw (ld_glob I hg hm ?_ hdb)
  refine PySem.W.callWith_K (h₀ := X.base) I.ok.mod.kin hk (thn (ha pos pins s σ H _ I h) fun us s1 ⟨vs, H1, I1, r, q⟩ => ⟨I1.kIn, ?_⟩) he hpl
  exact run_fn F hr hb hd hx I1 r q
structure Mk (K : PySem.W.Frag) (C f : Addr) : Prop where
  makes : PySem.W.makesIn K C = true
  init : PySem.W.findIn K (.ref C) "__init__" = some (some (.ref f))
  fn : PySem.W.isFn K (.ref f) = true
  kp : PySem.W.keepIn K (.ref C) = true

end

def PK (X : Cx) (kws : List Keyword) (t : TA) : Prop :=
  ∀ (pos : Pos) (pins : List (Addr × Obj)) (s : Shared) (σ : St) (H : Hp) (Q : List V → Hp → Prop), Inv X pins σ H s → t σ H Q → wpAny (model X.prog X.w) X.A (evalAll ((backToKw pos (keywordEach kws X.env)).map (·.2))) (AP X pins σ Q) X.xe s
section
variable {X : Cx} {CX : CXT} {k : Nat} {f C : Addr} {fd : FuncData} {ps ks : List Str} {sp : Sp} {E : XK} {x m : Str} {p pos apos kpos : Pos} {e o : Expr} {es : List Expr} {kws : List Keyword} {te ta : TE} {t tk : TA} {nm : Option Str}
structure KBinds (K : PySem.W.Frag) (fd : FuncData) (ps ks : List Str) (g : List Value → List Value → List Value) (gV : List V → List V → List V) : Prop where
  to : ∀ (s : Shared) (us ws : List Value), K.In s.heap → (g us ws).length = ps.length → BindsTo s fd ⟨us, ks.zip ws⟩ (ps.zip (g us ws))
  rel : ∀ {vs : List V} {us : List Value} {zs : List V} {ws : List Value}, Vals vs us → Vals zs ws → Vals (gV vs zs) (g us ws)
def tCallK (sp : Sp) (gV : List V → List V → List V) (E : XK) (t tk : TA) : TE := fun σ H Q => t σ H fun vs H1 => tk σ H1 fun zs H2 => sp (gV vs zs) H2 Q E
variable {g : List Value → List Value → List Value} {gV : List V → List V → List V}
end

structure FnScope (N P : List Str) (sc : Scope) : Prop where
  kind : sc.kind = .function
  co : sc.isCoroutine = false
  gen : sc.isGenerator = false
  nd : N.Nodup
  pre : N.take P.length = P
  par : ∀ x ∈ P, sc.names.lookup x = some .local ∨ sc.names.lookup x = some .cell
  nofree : ∀ y ∈ sc.names, y.2 ≠ .free

theorem bindL_out {kindOf : Str → Option NameKind} {x : Str} : ∀ {binds : List (Str × Value)} {m : Str → Option Value}, (∀ v, (x, v) ∉ binds) → bindL kindOf binds m x = m x
  | [], _, _ => rfl
  | (n, v) :: r, m, h => by
    unfold bindL
    rw [bindL_out fun w hw => h w (List.mem_cons_of_mem _ hw)]
    split
    · have : x ≠ n := by rintro rfl; exact h v List.mem_cons_self
      simp [this]
    · rfl
theorem bindC_out {kindOf : Str → Option NameKind} {x : Str} : ∀ {binds : List (Str × Value)} {m : Str → Option Value}, (∀ v, (x, v) ∉ binds) → bindC kindOf binds m x = m x
  | [], _, _ => rfl
  | (n, v) :: r, m, h => by
    unfold bindC
    rw [bindC_out fun w hw => h w (List.mem_cons_of_mem _ hw)]
    split
    · rfl
    · have : x ≠ n := by rintro rfl; exact h v List.mem_cons_self
      simp [this]
theorem bindL_get {kindOf : Str → Option NameKind} {x : Str} {v : Value} : ∀ {P : List Str} {vs : List Value} {i : Nat} {m : Str → Option Value}, P.Nodup → P[i]? = some x → vs[i]? = some v → kindOf x = some .local →
    bindL kindOf (P.zip vs) m x = some v
  | [], _, _, _, _, h, _, _ => by simp at h
  | _ :: _, [], _, _, _, _, h, _ => by simp at h
  | p :: P, w :: vs, 0, m, nd, h1, h2, hk => by
    simp at h1 h2; subst h1; subst h2
    show bindL kindOf ((p, w) :: P.zip vs) m p = _
    unfold bindL
    rw [bindL_out fun v hv => (List.nodup_cons.mp nd).1 (List.of_mem_zip hv).1, if_pos hk]
    simp
  | p :: P, w :: vs, i + 1, m, nd, h1, h2, hk => by
    show bindL kindOf ((p, w) :: P.zip vs) m x = _
    unfold bindL
    exact bindL_get (i := i) (List.nodup_cons.mp nd).2 (by simpa using h1) (by simpa using h2) hk
theorem bindC_get {kindOf : Str → Option NameKind} {x : Str} {v : Value} : ∀ {P : List Str} {vs : List Value} {i : Nat} {m : Str → Option Value}, P.Nodup → P[i]? = some x → vs[i]? = some v → kindOf x ≠ some .local →
    bindC kindOf (P.zip vs) m x = some v
  | [], _, _, _, _, h, _, _ => by simp at h
  | _ :: _, [], _, _, _, _, h, _ => by simp at h
  | p :: P, w :: vs, 0, m, nd, h1, h2, hk => by
    simp at h1 h2; subst h1; subst h2
    show bindC kindOf ((p, w) :: P.zip vs) m p = _
    unfold bindC
    rw [bindC_out fun v hv => (List.nodup_cons.mp nd).1 (List.of_mem_zip hv).1, if_neg hk]
    simp
  | p :: P, w :: vs, i + 1, m, nd, h1, h2, hk => by
    show bindC kindOf ((p, w) :: P.zip vs) m x = _
    unfold bindC
    exact bindC_get (i := i) (List.nodup_cons.mp nd).2 (by simpa using h1) (by simpa using h2) hk

def start (N : List Str) (vs : List V) : St := vs.map some ++ List.replicate (N.length - vs.length) none

def cxOf (CX : CXT) (P : Program) (w : World) (K : PySem.W.Frag) (mg : Str → Option Value) (base : Heap) (N : List Str) (qual : Str) (scope : Scope) (f : Addr) (cd : Value) (A : Around) (outer : List Env) (s : Shared) (H : Hp) (E : XK) : Cx where
  prog := P
  w := w
  K := K
  mg := mg
  base := base
  A := A.deeper (envOfC qual scope s.heap.objs.size f cd)
  N := N
  s₀ := s
  H₀ := H
  env := envOfC qual scope s.heap.objs.size f cd
  outer := outer
  stack := envOfC qual scope s.heap.objs.size f cd :: outer
  ex := []
  calm := true
  fn := fun _ => true
  pn := []
  xe := fun e s' => wpAny (model P w) (A.deeper (envOfC qual scope s.heap.objs.size f cd)) (leaving (envOfC qual scope s.heap.objs.size f cd) e) (fun _ s'' => CX outer H s E e s'') (fun e' s'' => CX outer H s E e' s'') s'

theorem cell_has {sc : Scope} {n : Nat} {x : Str} (h : sc.names.lookup x = some .cell) : ∃ c, (cellsFrom n sc.names []).lookup x = some c := by
  have q := PySem.W.cellsFrom_some sc.names n [] (.inl h)
  exact Option.isSome_iff_exists.mp q

theorem inv_start {CX : CXT} {P : Program} {w : World} {K : PySem.W.Frag} {mg : Str → Option Value} {base : Heap} {N ps : List Str} {qual : Str} {scope : Scope} {f : Addr} {cd : Value} {A : Around} {outer : List Env} {s s1 : Shared} {H : Hp} {E : XK} {us : List Value} {vs : List V}
    (S : FnScope N ps scope) (hd : A.handled = none) (e0 : Env0 P w K mg base A outer s H) (hl : vs.length = ps.length) (r : Vals vs us)
    (x : InCallC s s.heap.objs.size (bindL (envOfC qual scope s.heap.objs.size f cd).kindOf (ps.zip us) fun _ => none) (cellsFrom (s.heap.objs.size + 1) scope.names []) (bindC (envOfC qual scope s.heap.objs.size f cd).kindOf (ps.zip us) fun _ => none) s1) :
    Inv (cxOf CX P w K mg base N qual scope f cd A outer s H E) [] (start N vs) H s1 := by
  have hpl : ps.length ≤ N.length := by have := congrArg List.length S.pre; rw [List.length_take] at this; omega
  obtain ⟨h1, tk, rfl, hk⟩ := x.done
  have noA : ∀ b : Addr, b ∉ (cxOf CX P w K mg base N qual scope f cd A outer s H E).ex := fun b z => absurd (show b ∈ ([] : List Addr) from z) (by simp)
  refine ⟨⟨e0.mod, S.kind, rfl, rfl, Nat.le_refl _, fun y z c h1 h2 => ?_, fun y hy => ?_, fun y c _ h => ?_, fun _ => hd, Around.frames_deeper e0.frames, .inr ⟨rfl, rfl⟩, fun b z => absurd z (noA b), e0.bs, e0.bsz, fun b _ _ => noA b, fun b z => absurd z (noA b), e0.funs, e0.frf⟩,
    rfl, e0.bare, Un.kept hk, ⟨_, x.toInCall.ns, fun i y v h1 h2 h3 => ?_⟩, fun y c h => ⟨_, x.cell y c h⟩, e0.hok.fresh (Nat.le_refl _), fun y c h => ?_, fun p hp => absurd (show p ∈ ([] : List (Addr × Obj)) from hp) (by simp), e0.hok.kept hk, ?_⟩
  · exact name_of_addr x.apart (PySem.mem_of_lookup h1) (PySem.mem_of_lookup h2)
  · have hy : scope.names.lookup y = some .cell ∨ scope.names.lookup y = some .free := hy
    rcases hy with hy | hy
    · exact cell_has hy
    · exact absurd rfl (S.nofree _ (PySem.mem_of_lookup hy))
  · exact Nat.le_of_lt (x.above y c (PySem.mem_of_lookup h))
  · have hi : i < vs.length := by
      unfold start at h2
      by_cases hi : i < vs.length
      · exact hi
      · rw [List.getElem?_append_right (by simpa using hi)] at h2
        rw [List.getElem?_replicate] at h2
        split at h2 <;> cases h2
    have ha : vs[i]? = some v := by
      unfold start at h2
      rw [List.getElem?_append_left (by simpa using hi), List.getElem?_map] at h2
      cases e : vs[i]? with
      | none => rw [e] at h2; cases h2
      | some a => rw [e] at h2; cases h2; rfl
    obtain ⟨u, hu, rv⟩ := r.get ha
    have hp : ps[i]? = some y := by
      rw [← S.pre, List.getElem?_take_of_lt (by omega)]; exact h1
    have ndP : ps.Nodup := by rw [← S.pre]; exact S.nd.sublist (List.take_sublist _ _)
    refine ⟨u, rv, ?_⟩
    rcases S.par y (List.mem_of_getElem? hp) with k | k
    · exact .inl ⟨k, bindL_get ndP hp hu k⟩
    · obtain ⟨c, e⟩ := cell_has (n := s.heap.objs.size + 1) k
      refine .inr ⟨.inl k, c, e, ?_⟩
      have q := x.cell y c e
      rw [bindC_get ndP hp hu (by show scope.names.lookup y ≠ _; rw [k]; decide)] at q
      exact q
  · exact e0.hok.fresh (Nat.le_of_lt (x.above y c (PySem.mem_of_lookup h)))
  · unfold start
    show _ = N.length
    rw [List.length_append, List.length_map, List.length_replicate]
    omega

theorem fn_of {CX : CXT} {P : Program} {w : World} {K : PySem.W.Frag} {mg : Str → Option Value} {base : Heap} {k : Nat} {f : Addr} {name qual : Str} {params : Arguments} {body : List Stmt} {scope : Scope} {dV kV doc pm cdv ct oc : Value} {an od : Option Addr}
    {osl : Array (Option Value)} {N ps : List Str} {sp : Sp} (lk : K.lookup f = some ⟨oc, od, .func (PySem.W.fnOf name qual params body scope dV kV doc pm an cdv ct), osl⟩) (hcd : PySem.W.codeIn K cdv qual = true) (S : FnScope N ps scope)
    (len : ∀ vs H Q E, sp vs H Q E → vs.length = ps.length)
    (hbody : ∀ (A : Around) (outer : List Env) (s : Shared) (H : Hp) (vs : List V) (Q : VK) (E : XK), Room k (A.deeper (envOfC qual scope s.heap.objs.size f cdv)) → sp vs H Q E →
      ∃ t, PSs (cxOf CX P w K mg base N qual scope f cdv A outer s H E) body t ∧ t { nx := fun _ H' => Q .non H', rt := Q } (start N vs) H) :
    FnOk P w K mg base CX (k + 1) f (PySem.W.fnOf name qual params body scope dV kV doc pm an cdv ct) ps sp := by
  refine ⟨len, fun A outer s H args us vs Q E hr e0 hb r hsp => ?_⟩
  have hl := len _ _ _ _ hsp
  have KX : K.In s.heap := e0.mod.kin.keeps fun b o e => (e0.bs b o e).1
  have lim : s.heap.NoLimit := e0.mod.nolimit.keeps fun b o e => (e0.bs b o e).1
  have hkind : ∀ y ∈ ps.zip us, scope.names.lookup y.1 = some .local ∨ (scope.names.lookup y.1 = some .cell ∧ ((cellsFrom (s.heap.objs.size + 1) scope.names []).lookup y.1).isSome = true) := fun ⟨n, v⟩ hy => by
    rcases S.par n (List.of_mem_zip hy).1 with q | q
    · exact .inl q
    · exact .inr ⟨q, PySem.W.cellsFrom_some _ _ _ (.inl q)⟩
  refine codeAny_call_function hr.depth (KX _ _ lk) rfl S.co S.gen rfl (PySem.W.codeRec_of KX hcd) (hb _ _ _ _ ?_)
  refine wpAny_newFunctionEnv_cells S.kind hkind fun env he s1 x => ?_
  subst he
  refine ⟨lim.keeps x.toInCall.keep, codeAny_func ?_⟩
  obtain ⟨t, ht, hq⟩ := hbody A outer s H vs Q E (hr.deeper _) hsp
  have I : Inv (cxOf CX P w K mg base N qual scope f cdv A outer s H E) [] (start N vs) H s1 := inv_start S hr.hd e0 hl r x
  refine wpAny_mono (ht [] s1 (start N vs) H _ I hq) (fun fl s' hs => ?_) fun e s' hs => hs
  have fin : ∀ {σ' : St} {H' : Hp} {v : V} {u : Value}, Inv (cxOf CX P w K mg base N qual scope f cdv A outer s H E) [] σ' H' s' → RelV v u → Q v H' → CE outer P w H s Q u s' :=
    fun {σ' H' v u} J rv q => ⟨v, H', J.os, J.bare, J.base, J.hok, rv, q⟩
  cases fl with
  | ret u =>
    obtain ⟨v, σ', H', J, rv, q⟩ := hs
    exact fin J rv q
  | next =>
    obtain ⟨σ', H', J, q⟩ := hs
    exact fin (v := V.non) (u := Value.none) J rfl q
  | brk =>
    obtain ⟨_, _, _, q⟩ := hs
    exact False.elim q
  | cont =>
    obtain ⟨_, _, _, q⟩ := hs
    exact False.elim q
end L2

namespace L2
open PySem PySem.Spec PyProof.Rows
section
variable {X : Cx} {x : Str} {p pos : Pos} {e : Expr} {es : List Expr} {t : TA} {id T : String} {r : List V → Hp → VK → Prop}

def tCB (r : List V → Hp → VK → Prop) (t : TA) : TE := fun σ H Q => t σ H fun vs H1 => r vs H1 Q
theorem pe_callB (hc : CallR X (.builtin id) r) (hg : Gl X x) (hm : X.mg x = none) (hv : bootBuiltins x = some (.builtin id)) (ha : PA X (e :: es) t) (hn : x ≠ "__name__" := by decide) (hdb : (x == ("__debug__" : Str)) = false := by decide)
    (he : starEach (e :: es) X.env = (false, eval e X.env) :: starEach es X.env := by rfl) (hpl : (backTo pos (starEach es X.env)).any (·.1) = false := by rfl) : PE X (.Call (.Name x p) (e :: es) [] pos) (tCB r t) := by
  intro pins s σ H Q I h
  refine wpAny_Call_Name_kw (ld_blt I hg hm hv ?_ hn hdb)
  exact PyProof.Rows.callWith_builtin1 (thn (ha pos pins s σ H _ I h) fun us s1 ⟨vs, H1, I1, r1, q1⟩ => hc pins s1 σ H1 vs us Q I1 r1 q1) he hpl
theorem pe_callTy (hc : CallR X (.type T) r) (hg : Gl X x) (hm : X.mg x = none) (hv : bootBuiltins x = some (.type T)) (ha : PA X (e :: es) t) (hn : x ≠ "__name__" := by decide) (hdb : (x == ("__debug__" : Str)) = false := by decide)
    (he : starEach (e :: es) X.env = (false, eval e X.env) :: starEach es X.env := by rfl) (hpl : (backTo pos (starEach es X.env)).any (·.1) = false := by rfl) : PE X (.Call (.Name x p) (e :: es) [] pos) (tCB r t) := by
  intro pins s σ H Q I h
  refine wpAny_Call_Name_kw (ld_blt I hg hm hv ?_ hn hdb)
  exact PyProof.Rows.callWith_type1 (thn (ha pos pins s σ H _ I h) fun us s1 ⟨vs, H1, I1, r1, q1⟩ => hc pins s1 σ H1 vs us Q I1 r1 q1) he hpl
end
end L2

namespace HT
open PySem PyProof.Rows

def lexLt : List Int → List Int → Bool
  | [], [] => false
  | [], _ :: _ => true
  | _ :: _, [] => false
  | x :: xs, y :: ys => if x = y then lexLt xs ys else decide (x < y)
section
open PySem.SeqAt
open PySem.AutoSeq1 (wpAny_loadPart')
open PySem.MeetsSeq PySem.MeetsSeq2 PySem.MeetsSeq3

end

section
variable {prog : Program} {w : World} {A : Around} {E : Value → Shared → Prop} {s : Shared}

def sIx (n d : Nat) : Option Int → Nat
  | none => d
  | some v => if v < 0 then (v + (n : Int)).toNat else min v.toNat n
theorem sIx_none (n d : Nat) : sIx n d none = d := rfl
theorem sIx_nat (n d k : Nat) : sIx n d (some (k : Int)) = min k n := by
  show (if (k : Int) < 0 then ((k : Int) + (n : Int)).toNat else min (k : Int).toNat n) = min k n
  rw [if_neg (by omega), Int.toNat_natCast]
end
end HT

namespace L2
open PySem PySem.Spec PyProof.Rows

abbrev TO := St → Hp → (Option Int → Hp → Prop) → Prop
def PO (X : Cx) (e : Option Expr) (t : TO) : Prop :=
  ∀ (pins : List (Addr × Obj)) (s : Shared) (σ : St) (H : Hp) (Q : Option Int → Hp → Prop), Inv X pins σ H s → t σ H Q →
    wpAny (model X.prog X.w) X.A (evalPart e X.env) (fun u s' => ∃ o H', Inv X pins σ H' s' ∧ IsPart u o ∧ Q o H') X.xe s
def tNoPart : TO := fun _ H Q => Q none H
def tPart (t : TE) : TO := fun σ H Q => t σ H fun x H1 => ∃ i, x = .int i ∧ Q (some i) H1

section
variable {X : Cx} {e : Expr} {te : TE} {lo hi : Option Expr} {tl th : TO} {pos p2 : Pos}

theorem po_none : PO X none tNoPart := by
  intro pins s σ H Q I h
  rw [evalPart_none]
  exact wpAny_pure ⟨none, H, I, .none, h⟩
theorem po_some (h : PE X e te) : PO X (some e) (tPart te) := by
  intro pins s σ H Q I hw
  rw [evalPart_some]
  refine thn (h pins s σ H _ I hw) fun u s1 ⟨x, H1, I1, r1, q1⟩ => ?_
  obtain ⟨i, rfl, q⟩ := q1
  obtain ⟨t, rfl⟩ := r1
  exact ⟨some i, H1, I1, .int i t, q⟩

def SlR (X : Cx) (r : V → Option Int → Option Int → Hp → VK → Prop) : Prop :=
  ∀ (pins : List (Addr × Obj)) (s : Shared) (σ : St) (H : Hp) (x : V) (v vl vu : Value) (lo hi : Option Int) (sl : Addr) (Q : VK), Inv X pins σ H s → RelV x v → s.heap.IsSliceOf sl vl vu .none → IsPart vl lo → IsPart vu hi → r x lo hi H Q →
    ∃ T id, typeLookup (.type T) "__getitem__" = pure (some (.builtin id)) ∧ s.TypeIs v T ∧ wpAny (model X.prog X.w) X.A (getItem v (.ref sl)) (EP X pins σ Q) X.xe s
theorem SlR.or {r r' : V → Option Int → Option Int → Hp → VK → Prop} (h : SlR X r) (h' : SlR X r') : SlR X (fun x lo hi H Q => r x lo hi H Q ∨ r' x lo hi H Q) := by
  intro pins s σ H x v vl vu lo hi sl Q I rx hs pl pu q
  rcases q with q | q
  · exact h pins s σ H x v vl vu lo hi sl Q I rx hs pl pu q
  · exact h' pins s σ H x v vl vu lo hi sl Q I rx hs pl pu q
def tSl (r : V → Option Int → Option Int → Hp → VK → Prop) (te : TE) (tl th : TO) : TE := fun σ H Q => te σ H fun x H1 => tl σ H1 fun l H2 => th σ H2 fun u H3 => r x l u H3 Q
theorem pe_slice {r : V → Option Int → Option Int → Hp → VK → Prop} (hr : SlR X r) (he : PE X e te) (hl : PO X lo tl) (hu : PO X hi th) : PE X (.Subscript e (.Slice lo hi none p2) pos) (tSl r te tl th) := by
  intro pins s σ H Q I h
  refine Subscript_ (thn (he pins s σ H _ I h) fun v s1 ⟨x, H1, I1, r1, q1⟩ => ?_)
  refine wpAny_Slice (thn (hl pins s1 σ H1 _ I1 q1) fun vl s2 ⟨l, H2, I2, pl, q2⟩ => thn (hu pins s2 σ H2 _ I2 q2) fun vu s3 ⟨u, H3, I3, pu, q3⟩ => ?_)
  rw [evalPart_none]
  refine wpAny_pure ?_
  have I4 : Inv X pins σ H3 { s3 with heap := s3.heap.push { cls := .type "slice", data := .fields #[vl, vu, .none] } } := I3.kept (t' := s3.toks) fun b ob q => Heap.get?_push_of_some _ q
  obtain ⟨T, id, hT, ht, hg⟩ := hr pins { s3 with heap := s3.heap.push { cls := .type "slice", data := .fields #[vl, vu, .none] } } σ H3 x v vl vu l u s3.heap.objs.size Q I4 r1 (Heap.IsSliceOf.new ..) pl pu q3
  show wpAny (model X.prog X.w) X.A (subscriptTail e (.Slice lo hi none p2) v (.ref s3.heap.objs.size)) (EP X pins σ Q) X.xe { s3 with heap := s3.heap.push { cls := .type "slice", data := .fields #[vl, vu, .none] } }
  exact tail_any (ops := [.ref s3.heap.objs.size, v]) ht hT hg (by with_unfolding_all rfl)

def cutV (xs : List V) (lo hi : Option Int) : List V := (xs.drop (HT.sIx xs.length 0 lo)).take (HT.sIx xs.length xs.length hi - HT.sIx xs.length 0 lo)
theorem cutV_length (xs : List V) (lo hi : Option Int) : (cutV xs lo hi).length ≤ xs.length := by
  unfold cutV
  rw [List.length_take, List.length_drop]
  omega
def rSlT (K : PySem.W.Frag) : V → Option Int → Option Int → Hp → VK → Prop := fun x lo hi H Q => ∃ a xs, x = .ref a ∧ SqT K H a xs ∧
  ¬ (HT.sIx xs.length 0 lo = 0 ∧ HT.sIx xs.length xs.length hi = xs.length) ∧ ∀ p, H p = none → Q (.ref p) (upd H p (.tup (cutV xs lo hi)))
def rLtT (K : PySem.W.Frag) : R2 := fun x y H Q => ∃ a b ns ms, x = .ref a ∧ y = .ref b ∧ SqT K H a (ns.map V.int) ∧ SqT K H b (ms.map V.int) ∧ Q (.bl (HT.lexLt ns ms)) H
def rCatT (K : PySem.W.Frag) : R2 := fun x y H Q => ∃ a b xs ys, x = .ref a ∧ y = .ref b ∧ SqT K H a xs ∧ SqT K H b ys ∧ xs ≠ [] ∧ xs.length + ys.length ≤ sizeLine ∧
  (ys = [] → Q (.ref a) H) ∧ (ys ≠ [] → ∀ p, H p = none → Q (.ref p) (upd H p (.tup (xs ++ ys))))
end
end L2

namespace L2
open PySem PySem.Spec PyProof.Rows

def ixN (n : Nat) (i : Int) : Option Nat := if 0 ≤ i then (if i < n then some i.toNat else none) else if -(n : Int) ≤ i then some (i + n).toNat else none
def atI {α : Type} (xs : List α) (i : Int) : Option α := (ixN xs.length i).bind fun j => xs[j]?
theorem ixN_seq {n : Nat} {i : Int} {j : Nat} (h : ixN n i = some j) : seqIndex? i n = some j ∧ j < n ∧ -(n : Int) ≤ i ∧ i < n := by
  unfold ixN at h
  by_cases h0 : 0 ≤ i
  · rw [if_pos h0] at h
    by_cases h1 : i < n
    · rw [if_pos h1] at h
      have e : i.toNat = j := Option.some.inj h
      exact ⟨by rw [seqIndex_of h0 h1, e], by omega, by omega, h1⟩
    · rw [if_neg h1] at h; cases h
  · rw [if_neg h0] at h
    by_cases h1 : -(n : Int) ≤ i
    · rw [if_pos h1] at h
      have e : (i + n).toNat = j := Option.some.inj h
      exact ⟨by rw [seqIndex_neg (by omega) h1, e], by omega, h1, by omega⟩
    · rw [if_neg h1] at h; cases h
theorem atI_get {α : Type} {xs : List α} {i : Int} {v : α} (h : atI xs i = some v) : ∃ j, seqIndex? i xs.length = some j ∧ xs[j]? = some v ∧ j < xs.length ∧ -(xs.length : Int) ≤ i ∧ i < xs.length := by
  unfold atI at h
  cases e : ixN xs.length i with
  | none => rw [e] at h; cases h
  | some j =>
    rw [e] at h
    obtain ⟨h1, h2, h3, h4⟩ := ixN_seq e
    exact ⟨j, h1, h, h2, h3, h4⟩
theorem atI_nat {α : Type} {xs : List α} {j : Nat} {v : α} (h : xs[j]? = some v) : atI xs (j : Int) = some v := by
  have hj : j < xs.length := (List.getElem?_eq_some_iff.mp h).1
  have e : ixN xs.length (j : Int) = some j := by
    unfold ixN
    rw [if_pos (by omega), if_pos (by omega)]; simp
  unfold atI; rw [e]; exact h
def PlainIx (b : Expr) : Prop := ∀ o i, subscripted b false o i = operate [o, i] (getItem o i)
def IxR (X : Cx) (r : R2) : Prop :=
  ∀ (value slice : Expr) (pins : List (Addr × Obj)) (s : Shared) (σ : St) (H : Hp) (x y : V) (v u : Value) (Q : VK), Inv X pins σ H s → RelV x v → RelV y u → r x y H Q →
    subscripted slice false v u = operate [v, u] (getItem v u) → wpAny (model X.prog X.w) X.A (subscriptTail value slice v u) (EP X pins σ Q) X.xe s
def MtR (X : Cx) (id : String) (r : V → List V → Hp → VK → Prop) : Prop :=
  ∀ (pins : List (Addr × Obj)) (s : Shared) (σ : St) (H : Hp) (x : V) (xs : List V) (v : Value) (us : List Value) (Q : VK), Inv X pins σ H s → RelV x v → Vals xs us → r x xs H Q →
    wpAny (model X.prog X.w) X.A (call (.builtin id) (v :: us)) (EP X pins σ Q) X.xe s
section
variable {X : Cx} {a b : Expr} {ta tb : TE} {pos : Pos}
theorem IxR.or {r r' : R2} (h : IxR X r) (h' : IxR X r') : IxR X (fun x y H Q => r x y H Q ∨ r' x y H Q) := by
  intro value slice pins s σ H x y v u Q I rx ry q hs
  rcases q with q | q
  · exact h value slice pins s σ H x y v u Q I rx ry q hs
  · exact h' value slice pins s σ H x y v u Q I rx ry q hs
theorem MtR.or {id : String} {r r' : V → List V → Hp → VK → Prop} (h : MtR X id r) (h' : MtR X id r') : MtR X id (fun x xs H Q => r x xs H Q ∨ r' x xs H Q) := by
  intro pins s σ H x xs v us Q I rx rs q
  rcases q with q | q
  · exact h pins s σ H x xs v us Q I rx rs q
  · exact h' pins s σ H x xs v us Q I rx rs q
theorem pe_ix {r : R2} (hr : IxR X r) (ha : PE X a ta) (hb : PE X b tb) (hs : PlainIx b) : PE X (.Subscript a b pos) (tOp r ta tb) := by
  intro pins s σ H Q I h
  exact Subscript_ (binT ha hb I h fun v u s2 x y H2 I2 rx ry q => hr a b pins s2 σ H2 x y v u Q I2 rx ry q (hs _ _))

def rIxL (K : PySem.W.Frag) : R2 := fun x y H Q => ∃ p xs i v, x = .ref p ∧ y = .int i ∧ SqL K H p xs ∧ atI xs i = some v ∧ Q v H
def rIxT (K : PySem.W.Frag) : R2 := fun x y H Q => ∃ p xs i v, x = .ref p ∧ y = .int i ∧ SqT K H p xs ∧ atI xs i = some v ∧ Q v H
def rIxS : R2 := fun x y H Q => ∃ z i c, x = .str z ∧ y = .int i ∧ z.length ≤ sizeLine ∧ atI z.cps.toList i = some c ∧ Q (.str ⟨#[c]⟩) H
theorem ix_list : IxR X (rIxL X.K) := by
  intro value slice pins s σ H x y v u Q I rx ry h hs
  obtain ⟨p, xs, i, z, rfl, rfl, hq, he, q⟩ := h
  cases rx
  obtain ⟨t, rfl⟩ := ry
  obtain ⟨its, r, pl, hz⟩ := I.list hq
  obtain ⟨j, h1, h2, h3, h4, h5⟩ := atI_get he
  obtain ⟨w, ew, rw'⟩ := r.get h2
  have hl := r.length
  have hn := line63
  have fin : EP X pins σ Q w s := ⟨z, H, I, rw', q⟩
  by_cases h0 : 0 ≤ i
  · have hj : i.toNat = j := by
      rw [seqIndex_of h0 h5] at h1
      exact Option.some.inj h1
    exact item_listR pl.isList h0 (by omega) (by rw [hj]; simpa using ew) fin hs
  · have hj : (i + (its.toArray.size : Int)).toNat = j := by
      rw [seqIndex_neg (by omega) h4] at h1
      rw [List.size_toArray, ← hl]
      exact Option.some.inj h1
    exact subscriptTail_builtinR (x := w) pl.isList.typeIs slot_list_getitem.lookup
      (wpAny_getItem_list_neg (Q := fun r s' => r = w ∧ EP X pins σ Q r s') pl.isList (by omega) (by rw [List.size_toArray] <;> omega) (by omega) (by rw [hj]; simpa using ew) ⟨rfl, fin⟩) hs
theorem ix_tup : IxR X (rIxT X.K) := by
  intro value slice pins s σ H x y v u Q I rx ry h hs
  obtain ⟨p, xs, i, z, rfl, rfl, hq, he, q⟩ := h
  cases rx
  obtain ⟨t, rfl⟩ := ry
  obtain ⟨its, r, pl, hz⟩ := I.tuple hq
  obtain ⟨j, h1, h2, h3, h4, h5⟩ := atI_get he
  obtain ⟨w, ew, rw'⟩ := r.get h2
  have hl := r.length
  have hn := line63
  have fin : EP X pins σ Q w s := ⟨z, H, I, rw', q⟩
  exact subscriptTail_builtinR (x := w) pl.typeIs slot_tuple_getitem.lookup
    (getItem_tuple (j := j) (Q := fun r s' => r = w ∧ EP X pins σ Q r s') pl (by omega) (by omega) (by rw [List.size_toArray, ← hl]; exact h1) (by simpa using ew) ⟨rfl, fin⟩) hs
def rIx (K : PySem.W.Frag) : R2 := fun x y H Q => rIxL K x y H Q ∨ rIxT K x y H Q ∨ rIxS x y H Q
theorem mapSeq_set (its : List Value) (n j : Nat) (u : Value) : Obj.mapSeq (·.setIfInBounds j u) { cls := .type "list", data := .seq its.toArray n } = { cls := .type "list", data := .seq (its.set j u).toArray n } := by
  simp [Obj.mapSeq]
theorem Inv.lst {pins : List (Addr × Obj)} {σ : St} {H : Hp} {s : Shared} {p : Addr} {xs : List V} (I : Inv X pins σ H s) (h : H p = some (.lst xs)) :
    ∃ (its : List Value) (n : Nat), Vals xs its ∧ s.heap.get? p = some { cls := .type "list", data := .seq its.toArray n } ∧ xs.length ≤ sizeLine := by
  obtain ⟨z, its, n, r, e⟩ := I.hok p _ h
  exact ⟨its, n, r, e, z⟩
theorem Inv.lstUpd {pins : List (Addr × Obj)} {σ : St} {H : Hp} {s : Shared} {p : Addr} {xs ys : List V} {its its' : List Value} {n n' : Nat} {f : Obj → Obj} (I : Inv X pins σ H s) (h : H p = some (.lst xs))
    (ho : s.heap.get? p = some { cls := .type "list", data := .seq its.toArray n }) (hf : f { cls := .type "list", data := .seq its.toArray n } = { cls := .type "list", data := .seq its'.toArray n' }) (r : Vals ys its') (hz : ys.length ≤ sizeLine) (t : Nat) :
    Inv X pins σ (upd H p (.lst ys)) { s with heap := s.heap.update p f, toks := t } := by
  have e : (s.heap.update p f).get? p = some { cls := .type "list", data := .seq its'.toArray n' } := by
    rw [Heap.get?_update_self f ho (by rw [hf] <;> rfl), hf]
  refine I.write (x := p) (e := p) (by rw [h]; trivial) (.inl rfl) (fun b u hb q => (Heap.get?_update_other _ _ (Ne.symm hb)).trans q) ⟨_, e⟩ ?_
  exact ⟨hz, its', n', r, e⟩
def rSetL : V → V → V → Hp → (Hp → Prop) → Prop := fun o i v H Q => ∃ p xs k j, o = .ref p ∧ i = .int k ∧ H p = some (.lst xs) ∧ ixN xs.length k = some j ∧ Q (upd H p (.lst (xs.set j v)))
theorem set_list : PSet X rSetL := by
  intro pins s σ H o i v ov iv u Q I ro ri rv h
  obtain ⟨p, xs, k, j, rfl, rfl, hp, hj, q⟩ := h
  cases ro
  obtain ⟨t, rfl⟩ := ri
  obtain ⟨its, n, r, ho, hz⟩ := I.lst hp
  obtain ⟨h1, h2, h3, h4⟩ := ixN_seq hj
  have hl := r.length
  have hn := line63
  have I' : Inv X pins σ (upd H p (.lst (xs.set j v))) { s with heap := s.heap.update p (Obj.mapSeq (·.setIfInBounds j u)) } :=
    I.lstUpd hp ho (mapSeq_set its n j u) (r.set rv j) (by rw [List.length_set]; exact hz) s.toks
  by_cases h0 : 0 ≤ k
  · have hk : k.toNat = j := by
      rw [seqIndex_of h0 h4] at h1
      exact Option.some.inj h1
    exact PySem.W.ki_setAt ho h0 (by omega) (by rw [List.size_toArray, ← hl]; exact h4) (by rw [hk]; exact ⟨_, I', q⟩)
  · have hk : (k + (its.toArray.size : Int)).toNat = j := by
      rw [seqIndex_neg (by omega) h3] at h1
      rw [List.size_toArray, ← hl]
      exact Option.some.inj h1
    exact PySem.W.ki_setBack ho (by omega) (by rw [List.size_toArray, ← hl]; exact h3) (by omega) (by rw [hk]; exact ⟨_, I', q⟩)

theorem slice_bounds (lo hi : Option Int) (n : Nat) : (sliceBounds lo hi none n).1 = ((HT.sIx n 0 lo : Nat) : Int) ∧ (sliceBounds lo hi none n).2.1 = ((HT.sIx n n hi : Nat) : Int) ∧ (sliceBounds lo hi none n).2.2 = 1 := by
  refine ⟨?_, ?_, rfl⟩
  · cases lo with
    | none => simp [sliceBounds, HT.sIx]
    | some i =>
      simp only [sliceBounds, HT.sIx, Option.getD_none, show (1 : Int) > 0 by decide, if_true]
      by_cases h : i < 0
      · simp only [h, if_true] <;> omega
      · simp only [h, if_false] <;> omega
  · cases hi with
    | none => simp [sliceBounds, HT.sIx]
    | some i =>
      simp only [sliceBounds, HT.sIx, Option.getD_none, show (1 : Int) > 0 by decide, if_true]
      by_cases h : i < 0
      · simp only [h, if_true] <;> omega
      · simp only [h, if_false] <;> omega
theorem slicePick_cut (its : List Value) (lo hi : Option Int) : slicePick its.toArray lo hi none = ((its.drop (HT.sIx its.length 0 lo)).take (HT.sIx its.length its.length hi - HT.sIx its.length 0 lo)).toArray := by
  obtain ⟨h1, h2, h3⟩ := slice_bounds lo hi its.toArray.size
  unfold slicePick
  rw [h1, h2, h3]
  simp only [sliceRange_one, pick_run, List.size_toArray] <;> rfl
def rSlL (K : PySem.W.Frag) : V → Option Int → Option Int → Hp → VK → Prop := fun x lo hi H Q => ∃ a xs, x = .ref a ∧ SqL K H a xs ∧ ∀ p, H p = none → Q (.ref p) (upd H p (.lst (cutV xs lo hi)))
theorem sl_list : SlR X (rSlL X.K) := by
  intro pins s σ H x v vl vu lo hi sl Q I rx hs pl pu h
  obtain ⟨a, xs, rfl, hx, q⟩ := h
  cases rx
  obtain ⟨its, r, ht, hz⟩ := I.list hx
  have hlen := r.length
  refine ⟨"list", _, slot_list_getitem.lookup, ht.isList.typeIs, ?_⟩
  refine wpAny_getItem_list_slice ht.isList hs pl pu .none (by simp) ?_ (by rw [List.size_toArray] <;> omega)
  rw [slicePick_cut, ← hlen]
  refine ⟨.ref s.heap.objs.size, _, I.laid (t' := s.toks) (o := .lst (cutV xs lo hi)) (fun b ob q => Heap.get?_push_of_some _ q) (Nat.le_refl _) ?_, rfl, q _ (I.hok.fresh (Nat.le_refl _))⟩
  exact ⟨Nat.le_trans (cutV_length xs lo hi) hz, _, 0, (r.drop (HT.sIx xs.length 0 lo)).take (HT.sIx xs.length xs.length hi - HT.sIx xs.length 0 lo), Heap.get?_push_size _ rfl⟩

def flatV : V → Bool
  | .non => true
  | .bl _ => true
  | .int _ => true
  | .str _ => true
  | _ => false
def eqV : V → V → Bool
  | .non, .non => true
  | .bl a, .bl b => a == b
  | .bl a, .int b => (if a then 1 else 0) == b
  | .int a, .bl b => a == (if b then 1 else 0)
  | .int a, .int b => a == b
  | .str a, .str b => a == b
  | _, _ => false
theorem eqAt_V {A : Around} {s : Shared} {y x : V} {u v : Value} (ry : RelV y u) (rx : RelV x v) (fy : flatV y = true) (fx : flatV x = true) : SeqAt.EqAt A s u v (eqV y x) := by
  cases y with
  | non =>
    cases ry
    cases x with
    | non => cases rx; exact SeqAt.EqAt.same _
    | bl b => cases rx; exact SeqAt.EqAt.none_bool b
    | int b => obtain ⟨t, rfl⟩ := rx; exact SeqAt.EqAt.none_int b t
    | str b => obtain ⟨t, rfl⟩ := rx; exact SeqAt.EqAt.none_str b t
    | _ => exact absurd (show false = true from fx) Bool.false_ne_true
  | bl a =>
    cases ry
    cases x with
    | non => cases rx; exact SeqAt.EqAt.bool_none a
    | bl b => cases rx; exact SeqAt.EqAt.bool_bool a b
    | int b => obtain ⟨t, rfl⟩ := rx; exact SeqAt.EqAt.bool_int a b t
    | str b => obtain ⟨t, rfl⟩ := rx; exact SeqAt.EqAt.bool_str a b t
    | _ => exact absurd (show false = true from fx) Bool.false_ne_true
  | int a =>
    obtain ⟨t', rfl⟩ := ry
    cases x with
    | non => cases rx; exact SeqAt.EqAt.int_none a t'
    | bl b => cases rx; exact SeqAt.EqAt.int_bool a t' b
    | int b => obtain ⟨t, rfl⟩ := rx; exact SeqAt.EqAt.int_int a t' b t
    | str b => obtain ⟨t, rfl⟩ := rx; exact SeqAt.EqAt.int_str a t' b t
    | _ => exact absurd (show false = true from fx) Bool.false_ne_true
  | str a =>
    obtain ⟨t', rfl⟩ := ry
    cases x with
    | non => cases rx; exact SeqAt.EqAt.str_none a t'
    | bl b => cases rx; exact SeqAt.EqAt.str_bool a t' b
    | int b => obtain ⟨t, rfl⟩ := rx; exact SeqAt.EqAt.str_int a t' b t
    | str b => obtain ⟨t, rfl⟩ := rx; exact SeqAt.EqAt.str_str a t' b t
    | _ => exact absurd (show false = true from fx) Bool.false_ne_true
  | _ => exact absurd (show false = true from fy) Bool.false_ne_true
def eqU (x : V) (u : Value) : Bool := match u with
  | .none => eqV .non x
  | .bool b => eqV (.bl b) x
  | .int i _ => eqV (.int i) x
  | .str z _ => eqV (.str z) x
  | _ => false
def inV (x : V) (xs : List V) : Bool := xs.any fun y => eqV y x
def rIn (K : PySem.W.Frag) (neg : Bool) : R2 := fun x y H Q => ∃ p xs, y = .ref p ∧ (SqL K H p xs ∨ SqT K H p xs) ∧ flatV x = true ∧ xs.all flatV = true ∧ Q (.bl (if neg then !inV x xs else inV x xs)) H
theorem call_len_seq : CallR X (.builtin "len") (fun xs H Q => ∃ p ys, xs = [.ref p] ∧ (SqL X.K H p ys ∨ SqT X.K H p ys) ∧ Q (.int ys.length) H) := by
  intro pins s σ H xs us Q I r h
  obtain ⟨p, ys, rfl, hq, q⟩ := h
  obtain ⟨u, rfl, rx⟩ := vals1 r
  cases rx
  have hn := line63
  rcases hq with hq | hq
  · obtain ⟨its, r', pl, hz⟩ := I.list hq
    have hlen := r'.length
    exact Calls.call_len_list pl.isList (by simp only [List.size_toArray] <;> omega) ⟨.int ys.length, H, I.tok _, ⟨s.toks + 1, by rw [List.size_toArray, hlen]⟩, q⟩
  · obtain ⟨its, r', pl, hz⟩ := I.tuple hq
    have hlen := r'.length
    exact len_tuple pl (by simp only [List.size_toArray] <;> omega) ⟨.int ys.length, H, I.tok _, ⟨s.toks + 1, by rw [List.size_toArray, hlen]⟩, q⟩
theorem CallR.or {f : Value} {r r' : List V → Hp → VK → Prop} (h : CallR X f r) (h' : CallR X f r') : CallR X f (fun xs H Q => r xs H Q ∨ r' xs H Q) := by
  intro pins s σ H xs us Q I rs q
  rcases q with q | q
  · exact h pins s σ H xs us Q I rs q
  · exact h' pins s σ H xs us Q I rs q
def tyV (K : PySem.W.Frag) (T : String) (x : V) (H : Hp) : Prop := match x with
  | .str _ => T = "str"
  | .int _ => T = "int"
  | .ref p => (T = "list" ∧ ∃ xs, SqL K H p xs) ∨ (T = "tuple" ∧ ∃ o, K.lookup p = some o ∧ o.cls = .type "tuple" ∧ o.dict = none) ∨
      (T = "dict" ∧ ((∃ kvs, H p = some (.dK kvs)) ∨ ∃ kvs, H p = some (.dT kvs))) ∨ (T = "set" ∧ ∃ S n, H p = some (.set S n))
  | _ => False
theorem tyV_is {pins : List (Addr × Obj)} {σ : St} {H : Hp} {s : Shared} {T : String} {x : V} {v : Value} (I : Inv X pins σ H s) (r : RelV x v) (ty : tyV X.K T x H) :
    s.TypeIs v T ∧ ∀ a, v = .ref a → ∃ ob, s.heap.get? a = some ob ∧ ob.dict = none := by
  cases x with
  | str z =>
    obtain ⟨t, rfl⟩ := r
    cases (show T = "str" from ty)
    exact ⟨typeIs_str s z t, fun _ e => nomatch e⟩
  | int i =>
    obtain ⟨t, rfl⟩ := r
    cases (show T = "int" from ty)
    exact ⟨typeIs_int s i t, fun _ e => nomatch e⟩
  | ref p =>
    cases r
    rcases ty with ⟨rfl, xs, hq⟩ | ⟨rfl, o, hk, hc, hd⟩ | ⟨rfl, hk⟩ | ⟨rfl, S, n, hk⟩
    · obtain ⟨its, _, pl, _⟩ := I.list hq
      refine ⟨pl.isList.typeIs, fun a e => ?_⟩
      cases e
      obtain ⟨o, n, e, c, hd, _⟩ := pl
      exact ⟨o, e, hd⟩
    · refine ⟨⟨o, I.kIn p o hk, hc⟩, fun a e => ?_⟩
      cases e
      exact ⟨o, I.kIn _ o hk, hd⟩
    · have z : ∃ o, s.heap.get? p = some o ∧ o.ExactDict := by
        rcases hk with ⟨kvs, hk⟩ | ⟨kvs, hk⟩
        · obtain ⟨_, _, _, _, o, _, _, e, ex, _⟩ := I.hok p _ hk
          exact ⟨o, e, ex⟩
        · obtain ⟨_, _, _, _, o, _, _, e, ex, _⟩ := I.hok p _ hk
          exact ⟨o, e, ex⟩
      obtain ⟨o, e, ex⟩ := z
      refine ⟨⟨o, e, ex.1⟩, fun a e2 => ?_⟩
      cases e2
      exact ⟨o, e, ex.2.1⟩
    · obtain ⟨o, _, _, _, e, ex, _⟩ := I.hok p _ hk
      refine ⟨⟨o, e, ex.1⟩, fun a e2 => ?_⟩
      cases e2
      exact ⟨o, e, ex.2.1⟩
  | _ => exact False.elim ty
def tBM0 (K : PySem.W.Frag) (T : String) (r : V → List V → Hp → VK → Prop) (to : TE) : TE := fun σ H Q => to σ H fun x H1 => tyV K T x H1 ∧ r x [] H1 Q
def tBM (K : PySem.W.Frag) (T : String) (r : V → List V → Hp → VK → Prop) (to : TE) (t : TA) : TE := fun σ H Q => to σ H fun x H1 => tyV K T x H1 ∧ t σ H1 fun xs H2 => r x xs H2 Q
variable {o e : Expr} {es : List Expr} {to : TE} {t : TA} {name : Str} {apos cpos : Pos} {T id : String} {r : V → List V → Hp → VK → Prop}
theorem pe_bm (pa : PlainAttrs T) (slot : Slot T name id) (hty : typeOf (.builtin id) = pure (.type "method_descriptor")) (hm : MtR X id r) (ho : PE X o to) (ha : PA X (e :: es) t)
    (hbase : attributeBase o name X.env (eval o X.env) = eval o X.env := by rfl)
    (hfew : ((backTo cpos (starEach (e :: es) X.env)).all (fun x => !x.1) && (backToKw cpos (keywordEach [] X.env)).all (fun x => x.1.isSome)
      && decide ((e :: es).length + ([] : List Keyword).length + (if ([] : List Keyword).isEmpty then 0 else 1) < 30)) = true := by rfl)
    (hline : (apos.endLine == cpos.line) = true := by rfl) (hs : starEach (e :: es) X.env = (false, eval e X.env) :: starEach es X.env := by rfl) (hplain : (backTo cpos (starEach es X.env)).any (·.1) = false := by rfl) :
    PE X (.Call (.Attribute o name apos) (e :: es) [] cpos) (tBM X.K T r to t) := by
  intro pins s σ H Q I h
  refine wpAny_Call_method_late hbase hfew hline rfl (thn (ho pins s σ H _ I h) fun v s1 ⟨x, H1, I1, r1, ty, q1⟩ => ?_)
  obtain ⟨h1, h2⟩ := tyV_is I1 r1 ty
  refine ⟨T, id, pa, slot, hty, h1, h2, ?_⟩
  have hA := ha cpos pins s1 σ H1 _ I1 q1
  rw [hs] at hA ⊢
  refine Calls.callWith_builtin (by show (false || (backTo cpos (starEach es X.env)).any (·.1)) = false; rw [hplain] <;> rfl) (Calls.evalArgs_plain ?_)
  exact thn hA fun us s2 ⟨vs, H2, I2, r2, q2⟩ => hm pins s2 σ H2 x vs v us Q I2 r1 r2 q2
end
end L2

namespace L2
open PySem PySem.Spec PyProof.Rows

def MtM (X : Cx) (id : String) (r : V → List V → Hp → VK → Prop) : Prop :=
  ∀ (pins : List (Addr × Obj)) (s : Shared) (σ : St) (H : Hp) (x : V) (xs : List V) (v : Value) (us : List Value) (Q : VK), Inv X pins σ H s → RelV x v → Vals xs us → r x xs H Q →
    wpAny (model X.prog X.w) X.A (call (.builtin id) (v :: us)) (EP X pins σ Q) X.xe s

theorem Vals.one : ∀ {x : V} {us : List Value}, Vals [x] us → ∃ u, us = [u] ∧ RelV x u
  | _, _, .cons r .nil => ⟨_, rfl, r⟩
theorem Vals.two : ∀ {x y : V} {us : List Value}, Vals [x, y] us → ∃ u v, us = [u, v] ∧ RelV x u ∧ RelV y v
  | _, _, _, .cons r (.cons q .nil) => ⟨_, _, rfl, r, q⟩
theorem Vals.zero : ∀ {us : List Value}, Vals [] us → us = []
  | _, .nil => rfl
theorem Vals.dropLast {xs : List V} {us : List Value} (h : Vals xs us) : Vals xs.dropLast us.dropLast := by
  induction h with
  | nil => exact .nil
  | cons r t ih =>
    cases t with
    | nil => exact .nil
    | cons q t' => exact .cons r ih
theorem Vals.eraseIdx : ∀ {xs : List V} {us : List Value} (i : Nat), Vals xs us → Vals (xs.eraseIdx i) (us.eraseIdx i)
  | _, _, _, .nil => .nil
  | _, _, 0, .cons _ t => t
  | _, _, i + 1, .cons r t => .cons r (Vals.eraseIdx i t)
theorem Vals.reverse {xs : List V} {us : List Value} (h : Vals xs us) : Vals xs.reverse us.reverse := by
  induction h with
  | nil => exact .nil
  | cons r t ih => rw [List.reverse_cons, List.reverse_cons]; exact Vals.append ih (.cons r .nil)
theorem Vals.rep {xs : List V} {us : List Value} (h : Vals xs us) : ∀ k : Nat, Vals (List.replicate k xs).flatten (List.replicate k us).flatten
  | 0 => .nil
  | k + 1 => by
    rw [List.replicate_succ, List.replicate_succ, List.flatten_cons, List.flatten_cons]
    exact Vals.append h (Vals.rep h k)
theorem foldl_rep (its : List Value) : ∀ (k : Nat) (acc : List Value),
    List.foldl (fun x1 x2 => x1 ++ x2) acc.toArray (List.replicate k its.toArray) = (acc ++ (List.replicate k its).flatten).toArray
  | 0, acc => by simp
  | k + 1, acc => by
    have e : acc.toArray ++ its.toArray = (acc ++ its).toArray := by simp
    have e2 : (acc ++ its) ++ (List.replicate k its).flatten = acc ++ (List.replicate (k + 1) its).flatten := by
      rw [List.replicate_succ, List.flatten_cons, List.append_assoc]
    rw [← e2, ← foldl_rep its k (acc ++ its), ← e, List.replicate_succ, List.foldl_cons]

section
variable {X : Cx} {pins : List (Addr × Obj)} {σ : St} {H : Hp} {s : Shared} {l b : Addr} {xs ys zs : List V}

theorem Inv.lset {its its' : List Value} {n : Nat} {f : Array Value → Array Value} {t' : Nat} (I : Inv X pins σ H s) (hH : H l = some (.lst xs))
    (e : s.heap.get? l = some { cls := .type "list", data := .seq its.toArray n }) (hf : f its.toArray = its'.toArray) (hv : Vals ys its') (hz : ys.length ≤ sizeLine) :
    Inv X pins σ (upd H l (.lst ys)) { s with heap := s.heap.update l (Obj.mapSeq f), toks := t' } := by
  have q := PySem.IsL.update e f
  rw [hf] at q
  refine I.write (x := l) (e := l) (by rw [hH]; exact trivial) (.inl rfl) (fun b' u hb hu => (Heap.get?_update_other s.heap (Obj.mapSeq f) (Ne.symm hb)).trans hu) ⟨_, q⟩ ?_
  exact ⟨hz, its', _, hv, q⟩
theorem Inv.lnew {its : List Value} {t' : Nat} (I : Inv X pins σ H s) (hv : Vals ys its) (hz : ys.length ≤ sizeLine) :
    Inv X pins σ (upd H s.heap.objs.size (.lst ys)) { s with heap := s.heap.push { cls := .type "list", data := .seq its.toArray }, toks := t' } :=
  I.laid (fun _ _ q => Heap.get?_push_of_some _ q) (Nat.le_refl _) ⟨hz, its, 0, hv, Heap.get?_push_size _ rfl⟩
theorem Inv.fresh (I : Inv X pins σ H s) : H s.heap.objs.size = none := I.hok.fresh (Nat.le_refl _)
theorem Inv.lstM (I : Inv X pins σ H s) (hH : H l = some (.lst xs)) : xs.length ≤ sizeLine ∧ ∃ (its : List Value) (n : Nat), Vals xs its ∧ xs.length = its.length ∧ s.heap.get? l = some { cls := .type "list", data := .seq its.toArray n } := by
  obtain ⟨z, its, n, r, e⟩ := I.hok l _ hH
  exact ⟨z, its, n, r, r.length, e⟩

theorem notLongL {n : Nat} (h : n ≤ sizeLine) : Builtin.List.listTooLong n = false := by
  unfold Builtin.List.listTooLong
  exact decide_eq_false (by omega)
end

section
variable {X : Cx}

def rAppend : V → List V → Hp → VK → Prop := fun x vs H Q => ∃ l xs y, x = .ref l ∧ vs = [y] ∧ H l = some (.lst xs) ∧ xs.length < sizeLine ∧ Q .non (upd H l (.lst (xs ++ [y])))
theorem mt_append : MtM X "list.append" rAppend := by
  intro pins s σ H x vs v us Q I rx rv h
  obtain ⟨l, xs, y, rfl, rfl, hH, hz, q⟩ := h
  cases rx
  obtain ⟨u, rfl, ru⟩ := rv.one
  obtain ⟨z, its, n, r, hl, e⟩ := I.lstM hH
  refine call_meets F.slot_list_append ⟨_, e, rfl⟩ F.entry_list_append (F.args_list_append_2 _ _) (PySem.list_append l its.toArray n u (by rw [List.size_toArray]; omega)) ⟨e, ?_⟩
  refine ⟨.non, _, I.lset (its' := its ++ [u]) hH e (by simp) (r.append (.cons ru .nil)) ?_, rfl, q⟩
  rw [List.length_append, List.length_singleton]
  omega

def rExtend : V → List V → Hp → VK → Prop := fun x vs H Q => ∃ l b xs zs, x = .ref l ∧ vs = [.ref b] ∧ H l = some (.lst xs) ∧ H b = some (.lst zs) ∧ xs.length + zs.length ≤ sizeLine ∧ Q .non (upd H l (.lst (xs ++ zs)))
def rPop : V → List V → Hp → VK → Prop := fun x vs H Q => ∃ l xs y, x = .ref l ∧ vs = [] ∧ H l = some (.lst xs) ∧ xs[xs.length - 1]? = some y ∧ Q y (upd H l (.lst xs.dropLast))
def rPopAt : V → List V → Hp → VK → Prop := fun x vs H Q => ∃ l xs i k y, x = .ref l ∧ vs = [.int i] ∧ H l = some (.lst xs) ∧ -(2 ^ 63) ≤ i ∧ i < 2 ^ 63 ∧ seqIndex? i xs.length = some k ∧ xs[k]? = some y ∧ Q y (upd H l (.lst (xs.eraseIdx k)))
def rReverse : V → List V → Hp → VK → Prop := fun x vs H Q => ∃ l xs, x = .ref l ∧ vs = [] ∧ H l = some (.lst xs) ∧ Q .non (upd H l (.lst xs.reverse))
def rClear : V → List V → Hp → VK → Prop := fun x vs H Q => ∃ l xs, x = .ref l ∧ vs = [] ∧ H l = some (.lst xs) ∧ Q .non (upd H l (.lst []))
def rCat : R2 := fun x y H Q => ∃ l b xs zs, x = .ref l ∧ y = .ref b ∧ H l = some (.lst xs) ∧ H b = some (.lst zs) ∧ xs.length + zs.length ≤ sizeLine ∧ ∀ p, H p = none → Q (.ref p) (upd H p (.lst (xs ++ zs)))
theorem op_cat : OpR X (binaryOp .Add) rCat := by
  intro pins s σ H x y v u Q I rx ry h
  obtain ⟨l, b, xs, zs, rfl, rfl, hH, hB, hz, q⟩ := h
  cases rx
  cases ry
  obtain ⟨z, its, n, r, hl, e⟩ := I.lstM hH
  obtain ⟨z2, its2, n2, r2, hl2, e2⟩ := I.lstM hB
  refine PySem.P.add_list e e2 ?_ (by rw [List.size_toArray, List.size_toArray]; omega)
  have ea : its.toArray ++ its2.toArray = (its ++ its2).toArray := by simp
  rw [ea]
  exact ⟨.ref _, _, I.lnew (t' := s.toks) (r.append r2) (by rw [List.length_append]; omega), rfl, q _ I.fresh⟩
def rRep : R2 := fun x y H Q => ∃ l k xs, x = .ref l ∧ y = .int k ∧ H l = some (.lst xs) ∧ -(2 ^ 63) ≤ k ∧ k < 2 ^ 63 ∧ xs.length * k.toNat ≤ sizeLine ∧
  ∀ p, H p = none → Q (.ref p) (upd H p (.lst (List.replicate k.toNat xs).flatten))
theorem len_rep {α : Type} (xs : List α) (k : Nat) : (List.replicate k xs).flatten.length = k * xs.length := by
  induction k with
  | zero => simp
  | succ k ih => rw [List.replicate_succ, List.flatten_cons, List.length_append, ih, Nat.succ_mul, Nat.add_comm]
theorem op_rep : OpR X (binaryOp .Mult) rRep := by
  intro pins s σ H x y v u Q I rx ry h
  obtain ⟨l, k, xs, rfl, rfl, hH, h1, h2, hz, q⟩ := h
  cases rx
  obtain ⟨t, rfl⟩ := ry
  obtain ⟨z, its, n, r, hl, e⟩ := I.lstM hH
  have hlen : its.toArray.size * k.toNat ≤ sizeLine := by rw [List.size_toArray, ← hl]; exact hz
  have hcap : ¬ its.toArray.size * k.toNat > (2 ^ 63 - 1) / 8 := by
    have : (sizeLine : Nat) ≤ (2 ^ 63 - 1) / 8 := by decide
    omega
  have hfit : ¬ (!Builtin.List.listFitsIndex k) = true := by
    rw [fitsIndex_both h1 h2]
    exact Bool.false_ne_true
  have hlong : ¬ Builtin.List.listTooLong (its.toArray.size * k.toNat) = true := by
    rw [notLongL hlen]
    exact Bool.false_ne_true
  have hnew : List.foldl (fun x1 x2 => x1 ++ x2) #[] (List.replicate (if its.toArray.isEmpty = true then 0 else k.toNat) its.toArray) = (List.replicate k.toNat its).flatten.toArray := by
    have f0 : ∀ m : Nat, List.foldl (fun x1 x2 => x1 ++ x2) #[] (List.replicate m its.toArray) = (List.replicate m its).flatten.toArray := fun m => by
      have := foldl_rep its m []
      rw [List.nil_append] at this
      exact this
    rw [f0]
    cases its with
    | nil => simp
    | cons a r' => rw [if_neg (by simp)]
  refine wpAny_binaryOp_repeat_ref (T := "list") (U := "int") (by decide) ⟨_, e, rfl⟩ (fun s' => typeIs_int s' k t) noFill_list_mul F.fills_int_mul F.slot_int_rmul repeat_list F.slot_int_index.lookup
    (call_meets F.slot_int_rmul (typeIs_int s k t) F.entry_int_rmul (F.args_int_rmul_2 _ _) (int___rmul___int_list k t l its.toArray n)
      ⟨e, rfl, ⟨_, e, rfl⟩, call_meets F.slot_list_mul ⟨_, e, rfl⟩ F.entry_list_mul (F.args_list_mul_2 _ _) (AutoListH.list___mul___list_int_3 l its.toArray n k t hfit hcap hlong) ⟨e, ?_⟩⟩)
  rw [hnew]
  exact ⟨.ref _, _, I.lnew (t' := s.toks) (r.rep k.toNat) (by rw [len_rep, Nat.mul_comm]; exact hz), rfl, q _ I.fresh⟩

end

section
variable {prog : Program} {w : World} {A : Around} {E : Value → Shared → Prop} {s : Shared}
set_option maxRecDepth 100000 in
end

section
variable {X : Cx}
end
end L2

namespace Att
open PySem PySem.W PySem.Calls PyProof.Rows

theorem ints_of_wellAll {P : Params} {h : Heap} : ∀ (ns : List Int) (vs : List Value), WellAll P h vs (ns.map WData.int) → IntsAre vs ns := by
  intro ns
  induction ns with
  | nil =>
    intro vs w
    rw [List.map_nil] at w
    cases w
    exact .nil
  | cons n ns ih =>
    intro vs w
    rw [List.map_cons] at w
    cases w with
    | cons a b =>
      cases a
      exact .cons _ _ (ih _ b)

theorem script_of {l : OpenLaw} {n : Nat} (hn : l.most = some n) {P : Params} {h : Heap} {args : List WData} {vals : List Value}
    (hpre : l.row.toRowW.claim.pre args = true) (hwl : WellAll P h vals args) :
    ∃ a vs ns, vals = [Value.ref a] ∧ args = [WData.list (ns.map WData.int)] ∧ h.get? a = some { cls := .type "list", data := .seq vs.toArray } ∧ IntsAre vs ns ∧ ns.length ≤ n := by
  have hsh : WShape.hasAll [] args [.list .int] = true := (pre_splitW hpre).1
  have hc : l.pre.holds [] { args := args } = true := (pre_splitW hpre).2
  obtain ⟨d, r, rfl, h1, h2⟩ := hasAllW_cons hsh
  obtain rfl := hasAllW_nil h2
  obtain ⟨xs, rfl, h3⟩ := hasW_list h1
  obtain ⟨ns, rfl⟩ := items_int h3
  have hlen : ns.length ≤ n := by
    unfold OpenLaw.pre at hc
    have h4 : (WTm.not (.lt (.lit (.int (n : Int))) (.len (.arg 0)))).holds [] { args := [.list (ns.map .int)] } = true := by
      have h4 := (holds_andW hc).1
      rw [hn] at h4
      exact h4
    have h5 := condW_of h4 (w_not (w_lt w_lit (w_len_list (w_arg rfl))))
    rw [List.length_map] at h5
    refine Nat.le_of_not_lt fun q => ?_
    have q' : (n : Int) < ((ns.length : Nat) : Int) := by omega
    first
      | (rw [decide_eq_true q'] at h5; exact absurd h5 (by decide))
      | (simp at h5; omega)
  cases hwl with
  | cons w1 w2 =>
    cases w2
    cases w1 with
    | list ho hall => exact ⟨_, _, ns, rfl, rfl, ho, ints_of_wellAll ns _ hall, hlen⟩

theorem post_true (l : OpenLaw) (args : List WData) : l.row.toRowW.claim.post args (.bool true) args = true :=
  postW_of (r := l.row.toRowW) (X := (true == true))
    (show WShape.has [] (.bool true) .bool = true by first | rfl | decide | simp [WShape.has, WShape.arms, WShape.armsAll])
    (show (WTm.eq .res (.lit (.bool true))).value [] { args := args, res := some (.bool true), after := args } = some (.bool (true == true)) from w_eq_bool (w_res rfl) w_lit) rfl

section
variable {prog : Program} {w : World} {A : Around} {E : Value → Shared → Prop} {s : Shared} {K : Frag}

def noObjs (h : Heap) : Heap := { h with objs := #[] }
def ledger (h : Heap) (L d : Addr) : List (Addr × Obj) := (List.range h.objs.size).filterMap fun a => if a = L ∨ a = d then none else (h.get? a).map fun o => (a, o)
end
end Att

namespace L2
open PySem PySem.Spec PyProof.Rows

theorem vals_ints : ∀ {vs : List Value} {ns : List Int}, IntsAre vs ns → Vals (ns.map V.int) vs
  | _, _, .nil => .nil
  | _, _, .cons n t h => .cons ⟨t, rfl⟩ (vals_ints h)

def Only (H : Hp) : Prop := ∀ b, H b = none ∨ ∃ o xs, H b = some (.frz o (.lst xs))

theorem law_call {P : Program} {w : World} {K : PySem.W.Frag} {mg mb : Str → Option Value} {CX : CXT} {k : Nat} {fa a : Addr} {fd : FuncData} {x : Str} {sp : Sp} {s₁ : Shared} {vs : List Value} {ns : List Int}
    (KX : K.In s₁.heap) (hns : s₁.heap.Ns mainGlobals mg) (hb : s₁.heap.Ns builtinsNs mb) (hbb : ∀ x : Str, x ≠ "__name__" → mb x = bootBuiltins x) (hlim : s₁.heap.NoLimit) (hsee : s₁.heap.NoSeer) (hg : s₁.gens = #[])
    (ha : s₁.heap.get? a = some { cls := .type "list", data := .seq vs.toArray }) (hi : IntsAre vs ns) (hl : ns.length ≤ sizeLine) (hr : Room k callerA)
    (F : ∀ base : Heap, K.In base → base.Ns mainGlobals mg → FnOk P w K mg base CX k fa fd [x] sp) (hbind : ∀ (s : Shared) (u : Value), BindsTo s fd ⟨[u], []⟩ [(x, u)])
    (hsp : ∀ H : Hp, Only H → SqL K H a (ns.map V.int) → sp [.ref a] H (fun v _ => v = .bl true) fun _ _ _ => False)
    (hCX : ∀ H e s', CX [] H s₁ (fun _ _ _ => False) e s' → False) :
    codeAny (model P w) callerA (.call (.ref fa) ⟨[.ref a], []⟩) (fun r s' => r = .ok (.ret (.bool true)) ∧ OldK s₁.heap s'.heap ∧ s'.os = s₁.os ∧ AllBare s'.gens) s₁ := by
  have rv := vals_ints hi
  have lenV := hi.length
  -- from an abstract heap in which nothing but the script may be tracked
  have core : ∀ H : Hp, Only H → SqL K H a (ns.map V.int) → HOk P w H s₁.heap → (∀ b, H b ≠ none → b = a) → (H a ≠ none → K.lookup a = none) →
      codeAny (model P w) callerA (.call (.ref fa) ⟨[.ref a], []⟩) (fun r s' => r = .ok (.ret (.bool true)) ∧ OldK s₁.heap s'.heap ∧ s'.os = s₁.os ∧ AllBare s'.gens) s₁ := by
    intro H hO hS hok hA hK
    have base_of : ∀ {b : Addr} {o : Obj}, s₁.heap.get? b = some o → H b = none → (hidT s₁.heap H).get? b = some o := fun e n => hidT_get e n
    have noA : ∀ {b : Addr} {o : Obj} {es : Array DictEntry} {ep : Nat}, s₁.heap.get? b = some o → o.data = .dict es ep → H b = none := fun {b o es ep} e d => by
      cases q : H b with
      | none => rfl
      | some u =>
        have e' : b = a := hA b (by rw [q]; simp)
        subst e'
        rw [ha] at e; cases e
        have d' : Data.seq vs.toArray _ = Data.dict es ep := d
        cases d'
    have nsK : ∀ {b : Addr} {m : Str → Option Value}, s₁.heap.Ns b m → (hidT s₁.heap H).Ns b m := fun {b m} ⟨o, es, ep, e, d, r⟩ => ⟨o, es, ep, base_of e (noA e d), d, r⟩
    have hKb : K.In (hidT s₁.heap H) := fun b o e => base_of (KX b o e) (by
      cases q : H b with
      | none => rfl
      | some u =>
        have e' : b = a := hA b (by rw [q]; simp)
        subst e'
        rw [hK (by rw [q]; simp)] at e; cases e)
    have hM : Mod K mg (hidT s₁.heap H) := ⟨hKb, nsK hns, ⟨mb, nsK hb, hbb⟩, let ⟨mc, h1, h2⟩ := hlim; ⟨mc, nsK h1, h2⟩,
      ⟨let ⟨mc, h1, h2⟩ := hsee.statics; ⟨mc, nsK h1, h2⟩, let ⟨mc, h1, h2⟩ := hsee.mods; ⟨mc, nsK h1, h2⟩, let ⟨mc, h1, h2⟩ := hsee.imp; ⟨mc, nsK h1, h2⟩,
        let ⟨mg', bm, ob, h1, h2, h3, h4, h5⟩ := hsee.main; ⟨mg', bm, ob, nsK h1, h2, base_of h3 (by
          cases q : H bm with
          | none => rfl
          | some u =>
            have e' : bm = a := hA bm (by rw [q]; simp)
            subst e'
            rw [ha] at h3
            cases h3
            have h4' : Value.type "list" = Value.type "module" := h4
            injection h4' with e9
            exact absurd e9 (by decide)), h4, h5⟩⟩⟩
    have e0 : Env0 P w K mg (hidT s₁.heap H) callerA [] s₁ H := ⟨rfl, hM, fun b o e => of_hidT e, Nat.le_of_eq (hidT_size _ _), trivial, fun b hb => absurd (show b ∈ ([] : List Addr) from hb) (by simp), hok, .of_eq hg⟩
    refine codeAny_mono ((F _ hKb (nsK hns)).run callerA [] s₁ H ⟨[.ref a], []⟩ [.ref a] [.ref a] _ _ hr e0 (hbind s₁ (.ref a)) (.cons rfl .nil) (hsp H hO hS)) fun r s' h => ?_
    cases r with
    | error e => exact (hCX H e s' h).elim
    | ok fl =>
      cases fl with
      | next => exact False.elim h
      | brk => exact False.elim h
      | cont => exact False.elim h
      | ret u =>
        obtain ⟨v, H', os, bare, un, hok', r', q⟩ := h
        have q' : v = .bl true := q
        subst q'
        obtain rfl : u = Value.bool true := r'
        refine ⟨rfl, OldK.of_keep fun b o e => ?_, os, bare⟩
        cases q : H b with
        | none => exact un.keep b o e q (by intro z; exact absurd (show b ∈ ([] : List Addr) from z) (by simp)) (by simp)
        | some u =>
          rcases hO b with z | ⟨ob, xs, z⟩
          · rw [q] at z; cases z
          · have z2 := un.frzs b ob _ z
            obtain ⟨e1, _⟩ := hok b _ z
            obtain ⟨e2, _⟩ := hok' b _ z2
            rw [e] at e1; cases e1
            exact e2
  cases hk : K.lookup a with
  | some o =>
    -- the script is one of the module's own objects
    have e := KX a o hk
    rw [ha] at e
    cases e
    refine core (fun _ => none) (fun _ => .inl rfl) (.inr ⟨_, vs.toArray, _, hk, rfl, rfl, rfl, by rw [List.size_toArray, lenV]; exact hl, by simpa using rv⟩) (fun b u z => by have z' : (none : Option HO) = some u := z; cases z') (fun b z => absurd rfl z) fun z => absurd rfl z
  | none =>
    refine core (fun b => if b = a then some (.frz { cls := .type "list", data := .seq vs.toArray } (.lst (ns.map V.int))) else none) (fun b => ?_) (.inl (.inr ⟨{ cls := .type "list", data := .seq vs.toArray }, if_pos rfl⟩)) (fun b u z => ?_) (fun b z => ?_) fun _ => hk
    · by_cases hb : b = a
      · exact .inr ⟨_, _, if_pos hb⟩
      · exact .inl (if_neg hb)
    · by_cases hb : b = a
      · have z' := (if_pos hb).symm.trans z
        cases z'
        subst hb
        exact ⟨ha, by rw [List.length_map]; exact hl, vs, _, rv, ha⟩
      · have z' := (if_neg hb).symm.trans z
        cases z'
    · by_cases hb : b = a
      · exact hb
      · exact absurd (if_neg hb) z
end L2

namespace L2
open PySem PySem.Spec PyProof.Rows

abbrev KOf {K : PySem.W.Frag} {h : Heap} (_ : K.In h) : PySem.W.Frag := K


end L2

/- THE LAST THEOREM (shape; LID, My.* are yours):
   My.Adr: a structure of the addresses that your layer names (classes, functions); My.Txt K t: a structure (Prop) of the equations over K;
   My.txt_mk : {K} {implicit addresses ..} (e1 : nsIn K mainGlobals "law" = some (some (.ref f))) (e2 : K.lookup f = some ⟨oc, od, .func (fnOf "law" "law" params body scope dV kV doc pm an cdv ct), sl⟩) (e3 : codeIn K cdv "law" = true) .. : ∃ t, My.Txt K t

set_option maxRecDepth 100000 in
set_option maxHeartbeats 0 in
theorem PySem.Challenge.cw_LID_holds : PySem.Challenge.rw_LID.Holds := by
  w_on; o_law; k_head; (case hw => w_witness2)
  k_fill
  refine L2.walk_of (l := PySem.Challenge.rw_LID) (n := 63) (k := 40) (x := "script") (CX := fun w => ..) (sp := fun _ => My.sp_law) rfl (by decide) rfl ⟨rfl, by decide, by decide⟩ (fun w h Y => PySem.W.kIn_of Y) ?F ?S ?C
  case F =>
    intro w mg fa h KX G hmg
    have T : ∃ t, My.Txt (L2.KOf KX) t := by
      dsimp only [L2.KOf]                          -- K must stand as «<heap const> w.params» for k_is
      refine' My.txt_mk ?e1 ?e2 ?e3 ..
      (case e1 => PySem.W.k_is)                    -- in the order: a name -> its address -> its object -> its parts
      (case e2 => PySem.W.k_is)
      ..
    obtain ⟨t, T⟩ := T
    have e0 := hmg.symm.trans (PySem.W.mg_of KX G T.law)
    cases e0                                       -- fa is the law's own address
    exact ⟨_, fun s u => .of_eq rfl, fun base kb nb => My.law_fn T kb nb⟩     -- if «.of_eq rfl» comes too early: refine' ⟨_, ?b, fun base kb nb => My.law_fn T kb nb⟩; exact fun s u => .of_eq rfl
  case S => exact fun w H a ns hl hO hS => ..
  case C => exact ..
(the tactic k_is has no namespace: write k_is) -/

namespace L2
open PySem PySem.Spec PyProof.Rows

def inClass (s : Stmt) (j : Nat) : Stmt := match s with
  | .ClassDef _ _ _ body _ _ _ _ _ _ _ => body.getD j (.Pass ⟨0, 0, 0, 0⟩)
  | _ => .Pass ⟨0, 0, 0, 0⟩
def defArgs (s : Stmt) : Arguments := match s with
  | .FunctionDef _ a _ _ _ _ _ _ _ _ => a
  | _ => { posonlyargs := [], args := [], vararg := none, kwonlyargs := [], kw_defaults := [], kwarg := none, defaults := [] }
def defBody (s : Stmt) : List Stmt := match s with
  | .FunctionDef _ _ b _ _ _ _ _ _ _ => b
  | _ => []
def defScope (s : Stmt) : Scope := match s with
  | .FunctionDef _ _ _ _ _ _ sc _ _ _ => sc
  | _ => { kind := .function, names := [], isGenerator := false, isCoroutine := false }

abbrev CX0 : CXT := fun _ _ _ _ _ _ => False
abbrev E0 : XK := fun _ _ _ => False
structure Fun (K : PySem.W.Frag) (x qual : Str) (st : Stmt) (f : Addr) (fd : FuncData) : Prop where
  ex : ∃ (oc : Value) (od : Option Addr) (kV doc pm : Value) (an : Option Addr) (cdv ct : Value) (osl : Array (Option Value)),
    fd = PySem.W.fnOf x qual (defArgs st) (defBody st) (defScope st) .none kV doc pm an cdv ct ∧ K.lookup f = some ⟨oc, od, .func fd, osl⟩ ∧ PySem.W.codeIn K cdv qual = true
  kp : PySem.W.keepIn K (.ref f) = true
section
variable {P : Program} {w : World} {K : PySem.W.Frag} {mg : Str → Option Value} {base : Heap}
theorem Fun.ok {x qual : Str} {st : Stmt} {f : Addr} {fd : FuncData} {N ps : List Str} {k : Nat} {sp : Sp} (F : Fun K x qual st f fd) (S : FnScope N ps (defScope st)) (len : ∀ vs H Q E, sp vs H Q E → vs.length = ps.length)
    (hbody : ∀ (cdv : Value) (A : Around) (outer : List Env) (s : Shared) (H : Hp) (vs : List V) (Q : VK) (E : XK), Room k (A.deeper (envOfC qual (defScope st) s.heap.objs.size f cdv)) → sp vs H Q E →
      ∃ t, PSs (cxOf CX0 P w K mg base N qual (defScope st) f cdv A outer s H E).nox (defBody st) t ∧ t { nx := fun _ H' => Q .non H', rt := Q } (start N vs) H) : FnOk P w K mg base CX0 (k + 1) f fd ps sp := by
  obtain ⟨oc, od, kV, doc, pm, an, cdv, ct, osl, rfl, lk, hcd⟩ := F.ex
  refine fn_of lk hcd S len fun A outer s H vs Q E hr hsp => ?_
  obtain ⟨t, h, q⟩ := hbody cdv A outer s H vs Q E hr hsp
  exact ⟨t, h.nox, q⟩
theorem Fun.binds {x qual : Str} {st : Stmt} {f : Addr} {fd : FuncData} {ps : List Str} (F : Fun K x qual st f fd)
    (h : ∀ (kV doc pm : Value) (an : Option Addr) (cdv ct : Value) (us : List Value), us.length = ps.length → bindArgs (PySem.W.fnOf x qual (defArgs st) (defBody st) (defScope st) .none kV doc pm an cdv ct) ⟨us, []⟩ = pure (ps.zip us)) : Binds K fd ps [] := by
  obtain ⟨oc, od, kV, doc, pm, an, cdv, ct, osl, rfl, lk, hcd⟩ := F.ex
  exact .all (h kV doc pm an cdv ct)
theorem fun_mk {x qual : Str} {st : Stmt} {f : Addr} {oc : Value} {od an : Option Addr} {osl : Array (Option Value)} {kV doc pm cdv ct : Value} (l : K.lookup f = some ⟨oc, od, .func (PySem.W.fnOf x qual (defArgs st) (defBody st) (defScope st) .none kV doc pm an cdv ct), osl⟩)
    (c : PySem.W.codeIn K cdv qual = true) (k : PySem.W.keepIn K (.ref f) = true) : Fun K x qual st f (PySem.W.fnOf x qual (defArgs st) (defBody st) (defScope st) .none kV doc pm an cdv ct) := ⟨⟨oc, od, kV, doc, pm, an, cdv, ct, osl, rfl, l, c⟩, k⟩
end
theorem hu_of {A : Around} {k : Nat} (hr : Room k A) : A.units + 1 < cLine := Nat.lt_of_le_of_lt (Nat.add_le_add_left (by decide : 1 ≤ 64) _) hr.units
section
variable {X : Cx}
theorem pv (i : Nat) {x : Str} {pos : Pos} (hN : X.N[i]? = some x := by rfl) (hv : Vis X.env.scope x := by first | exact Or.inl rfl | exact Or.inr (Or.inl rfl) | exact Or.inr (Or.inr rfl)) (hd : (x == ("__debug__" : Str)) = false := by decide)
    (hcd : (x == ("__classdict__" : Str)) = false := by decide) : PE X (.Name x pos) (tVar i) := pe_var hN hv hd hcd
end

theorem iteF {A B : Prop} (h : B) : if false = true then A else B := by
  rw [if_neg Bool.false_ne_true]
  exact h
theorem ite2 {c A B : Prop} [Decidable c] (h1 : c → A) (h2 : ¬ c → B) : if c then A else B := by
  by_cases h : c
  · rw [if_pos h]
    exact h1 h
  · rw [if_neg h]
    exact h2 h
theorem iteNS {c A B : Prop} [Decidable c] (hc : c) (h : B) : if (!decide c) = true then A else B := by
  rw [decide_eq_true hc]
  exact iteF h

def Same (H H' : Hp) : Prop := ∀ b o, H b = some o → H' b = some o
theorem Same.refl (H : Hp) : Same H H := fun _ _ h => h
theorem Same.trans {H H1 H2 : Hp} (a : Same H H1) (b : Same H1 H2) : Same H H2 := fun c o h => b c o (a c o h)
theorem Same.free {H H' : Hp} (e : Same H H') {l : Addr} (h : H' l = Option.none) : H l = Option.none := by
  cases q : H l with
  | none => rfl
  | some o =>
    rw [e l o q] at h
    cases h
theorem Same.seq {K : PySem.W.Frag} {H H' : Hp} {a : Addr} {xs : List V} (e : Same H H') (h : SqL K H a xs) : SqL K H' a xs := by
  rcases h with (h | ⟨o, h⟩) | h
  · exact .inl (.inl (e _ _ h))
  · exact .inl (.inr ⟨o, e _ _ h⟩)
  · exact .inr h

end L2

namespace Ty
def gz (t b : Int) : Int := (Int.gcd t b : Nat)
def sg (t b : Int) : Int := if b < 0 then -gz t b else gz t b
def low (t b : Int) : Int × Int := (t.fdiv (sg t b), b.fdiv (sg t b))

theorem gcd_step (a b : Int) : Int.gcd b (a.fmod b) = Int.gcd a b := by
  rw [Int.fmod_def, Int.gcd_sub_mul_left_right, Int.gcd_comm]
theorem fmod_less {a b : Int} (h : b ≠ 0) : (a.fmod b).natAbs < b.natAbs := by
  rcases Int.lt_trichotomy b 0 with q | q | q
  · have h1 : (-a).fmod (-b) = -(a.fmod b) := by
      rw [Int.fmod_def, Int.fmod_def, Int.neg_fdiv_neg, Int.neg_mul]
      omega
    have h2 := Int.fmod_nonneg_of_pos (-a) (show 0 < -b by omega)
    have h3 := Int.fmod_lt_of_pos (-a) (show 0 < -b by omega)
    omega
  · exact absurd q h
  · have h2 := Int.fmod_nonneg_of_pos a q
    have h3 := Int.fmod_lt_of_pos a q
    omega
theorem gz_pos {t b : Int} (h : b ≠ 0) : 0 < gz t b := by
  have := Int.gcd_pos_iff.mpr (Or.inr h : t ≠ 0 ∨ b ≠ 0)
  show (0 : Int) < ((Int.gcd t b : Nat) : Int)
  omega
theorem gz_le {t b : Int} (h : b ≠ 0) : (gz t b).natAbs ≤ b.natAbs := by
  have h1 : Int.gcd t b ∣ b.natAbs := Int.natAbs_dvd_natAbs.mpr (Int.gcd_dvd_right t b)
  have h2 := Nat.le_of_dvd (by omega) h1
  show ((Int.gcd t b : Nat) : Int).natAbs ≤ _
  omega
theorem sg_ne {t b : Int} (h : b ≠ 0) : sg t b ≠ 0 := by
  have := gz_pos (t := t) h
  unfold sg
  split <;> omega
theorem sg_abs {t b : Int} : (sg t b).natAbs = (gz t b).natAbs := by
  unfold sg
  split
  · exact Int.natAbs_neg _
  · rfl
theorem sg_dvd_left (t b : Int) : sg t b ∣ t := by
  unfold sg gz
  split
  · exact Int.neg_dvd.mpr (Int.gcd_dvd_left t b)
  · exact Int.gcd_dvd_left t b
theorem sg_dvd_right (t b : Int) : sg t b ∣ b := by
  unfold sg gz
  split
  · exact Int.neg_dvd.mpr (Int.gcd_dvd_right t b)
  · exact Int.gcd_dvd_right t b
theorem fdiv_of_dvd {a g : Int} (h : g ≠ 0) (d : g ∣ a) : a = g * a.fdiv g := by
  obtain ⟨c, hc⟩ := d
  have := Int.fdiv_eq_of_eq_mul_right h hc
  rw [this]
  exact hc
theorem low_top {t b : Int} (h : b ≠ 0) : t = sg t b * (low t b).1 := fdiv_of_dvd (sg_ne h) (sg_dvd_left t b)
theorem low_bot {t b : Int} (h : b ≠ 0) : b = sg t b * (low t b).2 := fdiv_of_dvd (sg_ne h) (sg_dvd_right t b)
theorem low_pos {t b : Int} (h : b ≠ 0) : 0 < (low t b).2 := by
  have e := low_bot (t := t) h
  have g := gz_pos (t := t) h
  rcases Int.lt_trichotomy (low t b).2 0 with q | q | q
  · exfalso
    by_cases c : b < 0
    · have s : sg t b = -gz t b := by unfold sg; rw [if_pos c]
      rw [s] at e
      have := Int.mul_pos_of_neg_of_neg (show -gz t b < 0 by omega) q
      omega
    · have s : sg t b = gz t b := by unfold sg; rw [if_neg c]
      rw [s] at e
      have := Int.mul_neg_of_pos_of_neg g q
      omega
  · exfalso
    rw [q, Int.mul_zero] at e
    exact h e
  · exact q
theorem low_cross {t b : Int} (h : b ≠ 0) : (low t b).1 * b = t * (low t b).2 := by
  have e1 := low_top (t := t) h
  have e2 := low_bot (t := t) h
  calc (low t b).1 * b = (low t b).1 * (sg t b * (low t b).2) := by rw [← e2]
    _ = sg t b * (low t b).1 * (low t b).2 := by rw [← Int.mul_assoc, Int.mul_comm (low t b).1]
    _ = t * (low t b).2 := by rw [← e1]
theorem low_gcd {t b : Int} (h : b ≠ 0) : Int.gcd (low t b).1 (low t b).2 = 1 := by
  have e1 := low_top (t := t) h
  have e2 := low_bot (t := t) h
  have k : Int.gcd t b = (sg t b).natAbs * Int.gcd (low t b).1 (low t b).2 := by
    have q := Int.gcd_mul_left (sg t b) (low t b).1 (low t b).2
    rw [← e1, ← e2] at q
    exact q
  have g : (sg t b).natAbs = Int.gcd t b := by
    rw [sg_abs]
    rfl
  have p := Int.gcd_pos_iff.mpr (Or.inr h : t ≠ 0 ∨ b ≠ 0)
  rw [g] at k
  have k' : Int.gcd t b * 1 = Int.gcd t b * Int.gcd (low t b).1 (low t b).2 := by rw [Nat.mul_one]; exact k
  exact (Nat.eq_of_mul_eq_mul_left p k').symm
theorem natAbs_factor {g a : Int} (h : g ≠ 0) : a.natAbs ≤ (g * a).natAbs := by
  rw [Int.natAbs_mul]
  have : 1 ≤ g.natAbs := by omega
  have := Nat.mul_le_mul_right a.natAbs this
  omega
theorem low_top_le {t b : Int} (h : b ≠ 0) : (low t b).1.natAbs ≤ t.natAbs := by
  have e := low_top (t := t) h
  have := natAbs_factor (g := sg t b) (a := (low t b).1) (sg_ne h)
  rw [← e] at this
  exact this
theorem low_bot_le {t b : Int} (h : b ≠ 0) : (low t b).2.natAbs ≤ b.natAbs := by
  have e := low_bot (t := t) h
  have := natAbs_factor (g := sg t b) (a := (low t b).2) (sg_ne h)
  rw [← e] at this
  exact this
theorem low_of {t b g x y : Int} (hg : g ≠ 0) (ht : t = g * x) (hb : b = g * y) (hy : 0 < y) (h1 : Int.gcd x y = 1) : low t b = (x, y) := by
  have hbn : b ≠ 0 := by
    rw [hb]
    exact Int.mul_ne_zero hg (by omega)
  have gg : Int.gcd t b = g.natAbs := by
    rw [ht, hb, Int.gcd_mul_left, h1, Nat.mul_one]
  have s : sg t b = g := by
    unfold sg gz
    rw [gg]
    by_cases c : g < 0
    · have : b < 0 := by rw [hb]; exact Int.mul_neg_of_neg_of_pos c hy
      rw [if_pos this]
      omega
    · have : ¬ b < 0 := by
        have := Int.mul_nonneg (show 0 ≤ g by omega) (show 0 ≤ y by omega)
        omega
      rw [if_neg this]
      omega
  unfold low
  rw [s]
  rw [Int.fdiv_eq_of_eq_mul_right hg ht, Int.fdiv_eq_of_eq_mul_right hg hb]
theorem low_self {x y : Int} (hy : 0 < y) (h : Int.gcd x y = 1) : low x y = (x, y) := low_of (g := 1) (by decide) (by omega) (by omega) hy h
theorem low_zero {b : Int} (h : b ≠ 0) : low 0 b = (0, 1) := low_of (g := b) h (by omega) (by omega) (by decide) (by decide)
end Ty

set_option maxHeartbeats 4000000
namespace Ty
open PySem PySem.Spec PyProof.Rows L2
open Builtin.Int (intBits)
section
variable {X : Cx}
def CMulB (i j : Int) : Prop := intBits i ≤ 33554432 ∧ intBits j ≤ 33554432
theorem op_mulB : OpR X (binaryOp .Mult) (rI CMulB fun i j => .int (i * j)) :=
  opI fun _ _ _ _ _ _ _ hc q => mul_int q (IntMulOk.of_le hc.1 hc.2 (by decide))
def CDivB (i j : Int) : Prop := j ≠ 0 ∧ intBits j ≤ 9000
theorem noPy {i j : Int} (h : intBits j ≤ 9000) : Builtin.divisionGoesByPylong i j = false := by
  refine PyProof.noPylong_of_log2 ?_
  have h1 := intBits_le_iff.mp h
  by_cases h0 : j.natAbs = 0
  · rw [h0]
    decide +kernel
  · exact (Nat.log2_lt h0).mpr h1
theorem op_fdivB : OpR X (binaryOp .FloorDiv) (rI CDivB fun i j => .int (i.fdiv j)) :=
  opI fun _ _ _ _ _ _ _ hc q => floordiv_int hc.1 q (.inl (noPy hc.2))
end
inductive Da where
  | v (x : V)
  | t (ds : List Da)
  | l (ds : List Da)
mutual
def Is (K : PySem.W.Frag) (H : Hp) : Da → V → Prop
  | .v x, u => u = x ∧ flatV x = true
  | .t ds, u => ∃ p xs, u = .ref p ∧ SqT K H p xs ∧ Iss K H ds xs
  | .l ds, u => ∃ p xs, u = .ref p ∧ SqL K H p xs ∧ Iss K H ds xs
def Iss (K : PySem.W.Frag) (H : Hp) : List Da → List V → Prop
  | [], [] => True
  | d :: ds, x :: xs => Is K H d x ∧ Iss K H ds xs
  | _, _ => False
end
mutual
def eqDa : Da → Da → Bool
  | .v x, .v y => eqV x y
  | .t ds, .t es => eqDas ds es
  | .l ds, .l es => eqDas ds es
  | _, _ => false
def eqDas : List Da → List Da → Bool
  | [], [] => true
  | d :: ds, e :: es => eqDa d e && eqDas ds es
  | _, _ => false
end
mutual
def alike : Da → Da → Bool
  | .v _, .v _ => true
  | .t ds, .t es => alikes ds es
  | .l ds, .l es => alikes ds es
  | _, _ => false
def alikes : List Da → List Da → Bool
  | d :: ds, e :: es => alike d e && alikes ds es
  | _, _ => true
end
mutual
def dep : Da → Nat
  | .v _ => 0
  | .t ds => deps ds + 1
  | .l ds => deps ds + 1
def deps : List Da → Nat
  | [] => 0
  | d :: ds => max (dep d) (deps ds)
end
theorem Iss.length {K : PySem.W.Frag} {H : Hp} : ∀ {ds : List Da} {xs : List V}, Iss K H ds xs → ds.length = xs.length
  | [], [], _ => rfl
  | _ :: _, _ :: _, h => congrArg (· + 1) (Iss.length (by unfold Iss at h; exact h.2))
  | [], _ :: _, h => by unfold Iss at h; exact h.elim
  | _ :: _, [], h => by unfold Iss at h; exact h.elim
def bitDa (ds es : List Da) (j : Nat) : Bool := match ds[j]?, es[j]? with
  | some d, some e => eqDa d e
  | _, _ => true
theorem eqDas_bits : ∀ ds es : List Da, eqDas ds es = ((List.range (min ds.length es.length)).all (bitDa ds es) && ds.length == es.length)
  | [], [] => rfl
  | [], _ :: _ => by simp [eqDas]
  | _ :: _, [] => by simp [eqDas]
  | d :: ds, e :: es => by
    have ih := eqDas_bits ds es
    have r : min (d :: ds).length (e :: es).length = min ds.length es.length + 1 := by simp [Nat.succ_min_succ]
    rw [r, List.range_succ_eq_map, List.all_cons, List.all_map]
    have b0 : bitDa (d :: ds) (e :: es) 0 = eqDa d e := rfl
    have b1 : (bitDa (d :: ds) (e :: es) ∘ Nat.succ) = bitDa ds es := by
      funext j
      rfl
    have l1 : ((d :: ds).length == (e :: es).length) = (ds.length == es.length) := by simp
    rw [b0, b1, l1, Bool.and_assoc, ← ih]
    rfl
section
variable {X : Cx} {pins : List (Addr × Obj)} {σ : L2.St} {H : Hp} {s : Shared}
theorem eqV_refl {x : V} (h : flatV x = true) : eqV x x = true := by
  cases x <;> first | rfl | (simp [eqV]; done) | (cases h; done)
mutual
theorem is_same (I : Inv X pins σ H s) : ∀ (d e : Da) (x : V), Is X.K H d x → Is X.K H e x → alike d e = true → eqDa d e = true
  | .v a, .v b, x, h1, h2, _ => by
    unfold Is at h1 h2
    obtain ⟨rfl, f⟩ := h1
    obtain ⟨rfl, _⟩ := h2
    unfold eqDa
    exact eqV_refl f
  | .t ds, .t es, x, h1, h2, a => by
    unfold Is at h1 h2
    obtain ⟨p, xs, rfl, q1, k1⟩ := h1
    obtain ⟨p', ys, e', q2, k2⟩ := h2
    cases e'
    cases I.tuple_inj q1 q2
    unfold eqDa
    unfold alike at a
    exact iss_same I ds es xs k1 k2 a
  | .l ds, .l es, x, h1, h2, a => by
    unfold Is at h1 h2
    obtain ⟨p, xs, rfl, q1, k1⟩ := h1
    obtain ⟨p', ys, e', q2, k2⟩ := h2
    cases e'
    cases I.list_inj q1 q2
    unfold eqDa
    unfold alike at a
    exact iss_same I ds es xs k1 k2 a
  | .v _, .t _, _, _, _, a => by unfold alike at a; cases a
  | .v _, .l _, _, _, _, a => by unfold alike at a; cases a
  | .t _, .v _, _, _, _, a => by unfold alike at a; cases a
  | .t _, .l _, _, _, _, a => by unfold alike at a; cases a
  | .l _, .v _, _, _, _, a => by unfold alike at a; cases a
  | .l _, .t _, _, _, _, a => by unfold alike at a; cases a
theorem iss_same (I : Inv X pins σ H s) : ∀ (ds es : List Da) (xs : List V), Iss X.K H ds xs → Iss X.K H es xs → alikes ds es = true → eqDas ds es = true
  | [], [], _, _, _, _ => by unfold eqDas; rfl
  | d :: ds, e :: es, x :: xs, h1, h2, a => by
    unfold Iss at h1 h2
    unfold alikes at a
    rw [Bool.and_eq_true] at a
    unfold eqDas
    rw [is_same I d e x h1.1 h2.1 a.1, iss_same I ds es xs h1.2 h2.2 a.2]
    rfl
  | [], _ :: _, [], _, h2, _ => by unfold Iss at h2; exact h2.elim
  | [], _ :: _, _ :: _, h1, _, _ => by unfold Iss at h1; exact h1.elim
  | _ :: _, [], [], h1, _, _ => by unfold Iss at h1; exact h1.elim
  | _ :: _, [], _ :: _, _, h2, _ => by unfold Iss at h2; exact h2.elim
  | _ :: _, _ :: _, [], h1, _, _ => by unfold Iss at h1; exact h1.elim
end
theorem in1_units (A : Around) : A.in1.units = A.units + 1 := rfl
mutual
theorem eqAt_da (I : Inv X pins σ H s) : ∀ (d e : Da) (x y : V) (u w : Value) (A : Around), Is X.K H d x → Is X.K H e y → alike d e = true → RelV x u → RelV y w → A.units + dep d < cLine → SeqAt.EqAt A s u w (eqDa d e)
  | .v a, .v b, x, y, u, w, A, h1, h2, _, r1, r2, _ => by
    unfold Is at h1 h2
    obtain ⟨rfl, f1⟩ := h1
    obtain ⟨rfl, f2⟩ := h2
    unfold eqDa
    exact eqAt_V r1 r2 f1 f2
  | .t ds, .t es, x, y, u, w, A, h1, h2, a, r1, r2, hu => by
    have h1' := h1
    have h2' := h2
    unfold Is at h1 h2
    obtain ⟨p, xs, rfl, q1, k1⟩ := h1
    obtain ⟨p', ys, rfl, q2, k2⟩ := h2
    cases r1
    cases r2
    by_cases e : p = p'
    · subst e
      rw [is_same I _ _ _ h1' h2' a]
      exact .same _
    · refine .of_refs e ?_
      obtain ⟨its, v1, t1, _⟩ := I.tuple q1
      obtain ⟨its2, v2, t2, _⟩ := I.tuple q2
      unfold eqDa
      rw [eqDas_bits, k1.length, k2.length, v1.length, v2.length]
      have z := SeqAt.RcAt.tuples (A := A) (e := bitDa ds es) t1 t2 (by unfold dep at hu; omega) fun j g1 g2 => by
        unfold dep at hu
        unfold alike at a
        exact eqAt_das I ds es xs ys its its2 A.in1 k1 k2 a v1 v2 (by rw [in1_units]; omega) j (by simpa using g1) (by simpa using g2)
      simpa using z
  | .l ds, .l es, x, y, u, w, A, h1, h2, a, r1, r2, hu => by
    have h1' := h1
    have h2' := h2
    unfold Is at h1 h2
    obtain ⟨p, xs, rfl, q1, k1⟩ := h1
    obtain ⟨p', ys, rfl, q2, k2⟩ := h2
    cases r1
    cases r2
    by_cases e : p = p'
    · subst e
      rw [is_same I _ _ _ h1' h2' a]
      exact .same _
    · refine .of_refs e ?_
      obtain ⟨its, v1, t1, _⟩ := I.list q1
      obtain ⟨its2, v2, t2, _⟩ := I.list q2
      unfold eqDa
      unfold dep at hu
      unfold alike at a
      by_cases el : its.length = its2.length
      · rw [eqDas_bits, k1.length, k2.length, v1.length, v2.length]
        have z := SeqAt.RcAt.lists (A := A) (e := bitDa ds es) t1.isList t2.isList (by simpa using el) (by omega) fun j g1 g2 =>
          eqAt_das I ds es xs ys its its2 A.in1 k1 k2 a v1 v2 (by rw [in1_units]; omega) j (by simpa using g1) (by simpa using g2)
        rw [el, Nat.min_self, beq_self_eq_true, Bool.and_true]
        rw [List.size_toArray, el] at z
        exact z
      · have ne : eqDas ds es = false := by
          rw [eqDas_bits, k1.length, k2.length, v1.length, v2.length, beq_eq_false_iff_ne.mpr el, Bool.and_false]
        rw [ne]
        exact SeqAt.RcAt.lists_lengths t1.isList t2.isList (by simpa using el) (by omega)
  | .v _, .t _, _, _, _, _, _, _, _, a, _, _, _ => by unfold alike at a; cases a
  | .v _, .l _, _, _, _, _, _, _, _, a, _, _, _ => by unfold alike at a; cases a
  | .t _, .v _, _, _, _, _, _, _, _, a, _, _, _ => by unfold alike at a; cases a
  | .t _, .l _, _, _, _, _, _, _, _, a, _, _, _ => by unfold alike at a; cases a
  | .l _, .v _, _, _, _, _, _, _, _, a, _, _, _ => by unfold alike at a; cases a
  | .l _, .t _, _, _, _, _, _, _, _, a, _, _, _ => by unfold alike at a; cases a
theorem eqAt_das (I : Inv X pins σ H s) : ∀ (ds es : List Da) (xs ys : List V) (us ws : List Value) (A : Around), Iss X.K H ds xs → Iss X.K H es ys → alikes ds es = true → Vals xs us → Vals ys ws → A.units + deps ds < cLine →
    ∀ (j : Nat) (h1 : j < us.length) (h2 : j < ws.length), SeqAt.EqAt A s us[j] ws[j] (bitDa ds es j)
  | d :: ds, e :: es, x :: xs, y :: ys, u :: us, w :: ws, A, k1, k2, a, .cons r1 v1, .cons r2 v2, hu, 0, _, _ => by
    unfold Iss at k1 k2
    unfold alikes at a
    rw [Bool.and_eq_true] at a
    unfold deps at hu
    exact eqAt_da I d e x y u w A k1.1 k2.1 a.1 r1 r2 (by omega)
  | d :: ds, e :: es, x :: xs, y :: ys, u :: us, w :: ws, A, k1, k2, a, .cons r1 v1, .cons r2 v2, hu, j + 1, h1, h2 => by
    unfold Iss at k1 k2
    unfold alikes at a
    rw [Bool.and_eq_true] at a
    unfold deps at hu
    exact eqAt_das I ds es xs ys us ws A k1.2 k2.2 a.2 v1 v2 (by omega) j (by simpa using h1) (by simpa using h2)
  | [], _, [], _, _, _, _, _, _, _, .nil, _, _, _, h1, _ => absurd h1 (Nat.not_lt_zero _)
  | _, [], _, [], _, _, _, _, _, _, _, .nil, _, _, _, h2 => absurd h2 (Nat.not_lt_zero _)
  | [], _, _ :: _, _, _, _, _, k1, _, _, _, _, _, _, _, _ => by unfold Iss at k1; exact k1.elim
  | _ :: _, _, [], _, _, _, _, k1, _, _, _, _, _, _, _, _ => by unfold Iss at k1; exact k1.elim
  | _, [], _, _ :: _, _, _, _, _, k2, _, _, _, _, _, _, _ => by unfold Iss at k2; exact k2.elim
  | _, _ :: _, _, [], _, _, _, _, k2, _, _, _, _, _, _, _ => by unfold Iss at k2; exact k2.elim
end
end

section
variable {X : Cx}
def rEqDa (K : PySem.W.Frag) : R2 := fun x y H Q => ∃ ds es, ((Is K H (.t ds) x ∧ Is K H (.t es) y) ∨ (Is K H (.l ds) x ∧ Is K H (.l es) y)) ∧ alikes ds es = true ∧ deps ds ≤ 60 ∧ Q (.bl (eqDas ds es)) H
def rNeDa (K : PySem.W.Frag) : R2 := fun x y H Q => ∃ ds es, ((Is K H (.t ds) x ∧ Is K H (.t es) y) ∨ (Is K H (.l ds) x ∧ Is K H (.l es) y)) ∧ alikes ds es = true ∧ deps ds ≤ 60 ∧ Q (.bl (!eqDas ds es)) H
def clsV : V → Value
  | .ty n => .type n
  | .ref a => .ref a
  | _ => .none
def isCls : V → Bool
  | .ty _ => true
  | .ref _ => true
  | _ => false
theorem cls_rel {c : V} {u : Value} (h : isCls c = true) (r : RelV c u) : u = clsV c := by
  cases c <;> first | exact r | (cases h; done)
def rIsi (K : PySem.W.Frag) : List V → Hp → VK → Prop := fun xs H Q => ∃ x c t b, xs = [x, c] ∧ isCls c = true ∧ TyOf K H x t ∧ PySem.W.kitOne K t (clsV c) = some b ∧ Q (.bl b) H
theorem call_isi : CallR X (.builtin "isinstance") (rIsi X.K) := by
  intro pins s σ H xs us Q I r h
  obtain ⟨x, c, t, b, rfl, hc, ty, e, q⟩ := h
  obtain ⟨u, w, rfl, r1, r2⟩ := vals2 r
  obtain rfl := cls_rel hc r2
  exact isinst_ok I r1 ty e fun tk => ⟨.bl b, H, I.tok tk, rfl, q⟩
end
section
variable {K : PySem.W.Frag}
end
theorem b_len : bootBuiltins "len" = some (.builtin "len") := by decide +kernel
theorem b_abs : bootBuiltins "abs" = some (.builtin "abs") := by decide +kernel
theorem b_isinstance : bootBuiltins "isinstance" = some (.builtin "isinstance") := by decide +kernel
theorem b_int : bootBuiltins "int" = some (.type "int") := by decide +kernel
theorem b_list : bootBuiltins "list" = some (.type "list") := by decide +kernel
theorem b_tuple : bootBuiltins "tuple" = some (.type "tuple") := by decide +kernel
theorem b_dict : bootBuiltins "dict" = some (.type "dict") := by decide +kernel
theorem pe_ty {X : Cx} {x : Str} {n : String} {pos : Pos} (hg : Gl X x) (hm : X.mg x = none) (hv : bootBuiltins x = some (.type n)) (hn : x ≠ "__name__" := by decide) (hd : (x == ("__debug__" : Str)) = false := by decide) : PE X (.Name x pos) (tC (.ty n)) := pe_bltn (v := .ty n) hg hm hv rfl hn hd
def CMod (_ j : Int) : Prop := j ≠ 0
theorem nz {i j : Int} (h : j ≠ 0) : CMod i j := h
theorem op_modB {X : Cx} : OpR X (binaryOp .Mod) (rI CMod fun i j => .int (i.fmod j)) := op_modN
end Ty

set_option maxHeartbeats 4000000
namespace TyAtt
open PySem PySem.W PySem.Calls PyProof.Rows
open Builtin.Int (intBits)
theorem bits_item {ns : List Int} {n : Int} (h : (WData.list (ns.map WData.int)).layable = true) (hn : n ∈ ns) : intBits n ≤ 1048576 := by
  obtain ⟨_, _, hw⟩ := layableW_iff.mp h
  have a : ∀ (l : List Int), n ∈ l → intBits n ≤ WData.weightAll (l.map WData.int) := by
    intro l
    induction l with
    | nil => intro q; cases q
    | cons y r ih =>
      intro q
      rw [List.map_cons]
      unfold WData.weightAll
      rcases List.mem_cons.mp q with z | z
      · subst z
        have : intBits n ≤ WData.weight (.int n) := by
          unfold WData.weight
          exact Nat.le_refl _
        omega
      · have := ih z
        omega
  have b := a ns hn
  unfold WData.weight at hw
  omega
theorem attach_bits {l : OpenLaw} {n : Nat} {q : Program} {loose : List Str} {XP : (Str → Option Value) → Heap → Prop} {YP : World → Heap → Prop} {d : DefRec}
    (hn : l.most = some n) (hdf : d.params.defaults = [])
    (call : ∀ (w : World) (s₀ s₁ : Shared) (mg mb : Str → Option Value) (fa : Addr) (o : Obj) (pm cd doc : Value) (a : Addr) (vs : List Value) (ns : List Int),
      Ground q loose [] XP w s₀ mg mb s₁.heap → YP w s₁.heap →
      s₁.heap.get? fa = some o → o.data = .func (docDef d.name d.params d.body d.scope pm cd doc) → s₁.heap.CodeRec cd d.name → mg d.name = some (.ref fa) →
      s₁.heap.get? a = some { cls := .type "list", data := .seq vs.toArray } → IntsAre vs ns → ns.length ≤ n → (∀ i ∈ ns, intBits i ≤ 1048576) → s₁.gens = #[] →
      codeAny (model l.prog w) callerA (.call (.ref fa) ⟨[.ref a], []⟩) (fun r s' => r = .ok (.ret (.bool true)) ∧ OldK s₁.heap s'.heap ∧ s'.os = s₁.os ∧ AllBare s'.gens) s₁) :
    WalkO q loose XP YP l.row.toRowW d [] (fun f vs => PySem.call f vs) := by
  intro w s₀ s₁ mg mb G Y fa o pm cd doc dV kV ho hd hcd hD hmg hg args vals as hpre hlay hrd hwl hlo
  obtain rfl : dV = .none := Dflts.none hD hdf
  obtain rfl : kV = .none := Dflts.noKw hD
  obtain ⟨a, vs, ns, rfl, rfl, hobj, hints, hlen⟩ := Att.script_of hn hpre hwl
  have hb : ∀ i ∈ ns, intBits i ≤ 1048576 := fun i hi => bits_item (layW_cons hlay).1 hi
  refine enter_call (codeAny_mono (call w s₀ s₁ mg mb fa o pm cd doc a vs ns G Y ho (fd_plain hd) hcd hmg hobj hints hlen hb hg) fun r s' hq => ?_)
  obtain ⟨rfl, h2, h3, h4⟩ := hq
  exact ⟨.inl ⟨.bool true, .bool true, [], rfl, fun _ => rfl, .bool true, Att.post_true l _, fun _ => ⟨List.Pairwise.nil, fun _ hm => (nomatch hm)⟩⟩, h2, h3, h4⟩
end TyAtt
namespace Ty
open PySem PySem.Spec PyProof.Rows L2
open Builtin.Int (intBits)
structure Fn (P : Program) (w : World) (K : PySem.W.Frag) (mg : Str → Option Value) (base : Heap) (CX : CXT) (k : Nat) (x : Str) (ps : List Str) (sp : Sp) : Prop where
  ex : ∃ (f : Addr) (fd : FuncData), FnOk P w K mg base CX k f fd ps sp ∧ Binds K fd ps [] ∧ mg x = some (.ref f) ∧ PySem.W.keepIn K (.ref f) = true
structure Def (K : PySem.W.Frag) (mg : Str → Option Value) (x : Str) (st : Stmt) (ps : List Str) : Prop where
  ex : ∃ (f : Addr) (dV oc : Value) (od : Option Addr) (kV doc pm : Value) (an : Option Addr) (cdv ct : Value) (osl : Array (Option Value)),
    K.lookup f = some ⟨oc, od, .func (PySem.W.fnOf x x (defArgs st) (defBody st) (defScope st) dV kV doc pm an cdv ct), osl⟩ ∧ PySem.W.codeIn K cdv x = true ∧ PySem.W.keepIn K (.ref f) = true ∧
    Binds K (PySem.W.fnOf x x (defArgs st) (defBody st) (defScope st) dV kV doc pm an cdv ct) ps [] ∧ mg x = some (.ref f)
theorem Def.of {K : PySem.W.Frag} {mg : Str → Option Value} {x : Str} {st : Stmt} {ps : List Str} {f : Addr} {fd : FuncData} (F : Fun K x x st f fd) (b : Binds K fd ps []) (m : mg x = some (.ref f)) : Def K mg x st ps := by
  obtain ⟨oc, od, kV, doc, pm, an, cdv, ct, osl, rfl, lk, hcd⟩ := F.ex
  exact ⟨f, .none, oc, od, kV, doc, pm, an, cdv, ct, osl, lk, hcd, F.kp, b, m⟩
structure DefD (K : PySem.W.Frag) (mg : Str → Option Value) (x : Str) (st : Stmt) (ps : List Str) (ds : List Value) : Prop where
  ex : ∃ (f : Addr) (dV oc : Value) (od : Option Addr) (kV doc pm : Value) (an : Option Addr) (cdv ct : Value) (osl : Array (Option Value)),
    K.lookup f = some ⟨oc, od, .func (PySem.W.fnOf x x (defArgs st) (defBody st) (defScope st) dV kV doc pm an cdv ct), osl⟩ ∧ PySem.W.codeIn K cdv x = true ∧ PySem.W.keepIn K (.ref f) = true ∧
    Binds K (PySem.W.fnOf x x (defArgs st) (defBody st) (defScope st) dV kV doc pm an cdv ct) ps [] ∧ Binds K (PySem.W.fnOf x x (defArgs st) (defBody st) (defScope st) dV kV doc pm an cdv ct) ps ds ∧ mg x = some (.ref f)
section
variable {P : Program} {w : World} {K : PySem.W.Frag} {mg : Str → Option Value} {base : Heap} {CX : CXT}
theorem Fn.mono {j k : Nat} {x : Str} {ps : List Str} {sp : Sp} (F : Fn P w K mg base CX j x ps sp) (h : j ≤ k) : Fn P w K mg base CX k x ps sp := by
  obtain ⟨f, fd, a, b⟩ := F.ex
  exact ⟨f, fd, a.mono h, b⟩
theorem Def.ok {x : Str} {st : Stmt} {N ps : List Str} {k : Nat} {sp : Sp} (D : Def K mg x st ps) (S : FnScope N ps (defScope st)) (len : ∀ vs H Q E, sp vs H Q E → vs.length = ps.length)
    (hbody : ∀ (f : Addr) (cdv : Value) (A : Around) (outer : List Env) (s : Shared) (H : Hp) (vs : List V) (Q : VK) (E : XK), Room k (A.deeper (envOfC x (defScope st) s.heap.objs.size f cdv)) → sp vs H Q E →
      ∃ t, PSs (cxOf CX P w K mg base N x (defScope st) f cdv A outer s H E).nox (defBody st) t ∧ t { nx := fun _ H' => Q .non H', rt := Q } (start N vs) H) : Fn P w K mg base CX (k + 1) x ps sp := by
  obtain ⟨f, dV, oc, od, kV, doc, pm, an, cdv, ct, osl, lk, hcd, kp, b, m⟩ := D.ex
  refine ⟨f, _, fn_of lk hcd S len fun A outer s H vs Q E hr hsp => ?_, b, m, kp⟩
  obtain ⟨t, h, q⟩ := hbody f cdv A outer s H vs Q E hr hsp
  exact ⟨t, h.nox, q⟩
theorem _root_.L2.Fun.okG {x : Str} {st : Stmt} {f : Addr} {fd : FuncData} {N ps : List Str} {k : Nat} {sp : Sp} (F : Fun K x x st f fd) (S : FnScope N ps (defScope st)) (len : ∀ vs H Q E, sp vs H Q E → vs.length = ps.length)
    (hbody : ∀ (cdv : Value) (A : Around) (outer : List Env) (s : Shared) (H : Hp) (vs : List V) (Q : VK) (E : XK), Room k (A.deeper (envOfC x (defScope st) s.heap.objs.size f cdv)) → sp vs H Q E →
      ∃ t, PSs (cxOf CX P w K mg base N x (defScope st) f cdv A outer s H E).nox (defBody st) t ∧ t { nx := fun _ H' => Q .non H', rt := Q } (start N vs) H) : FnOk P w K mg base CX (k + 1) f fd ps sp := by
  obtain ⟨oc, od, kV, doc, pm, an, cdv, ct, osl, rfl, lk, hcd⟩ := F.ex
  refine fn_of lk hcd S len fun A outer s H vs Q E hr hsp => ?_
  obtain ⟨t, h, q⟩ := hbody cdv A outer s H vs Q E hr hsp
  exact ⟨t, h.nox, q⟩
def Mute (CX : CXT) : Prop := ∀ outer H s e s', CX outer H s E0 e s' → False
theorem passM {X : Cx} (h : Mute CX) : Passes CX X.nox E0 := fun _ _ _ _ _ _ _ q => (h _ _ _ _ _ q).elim
section
variable {X : Cx} {k : Nat} {ps : List Str} {sp : Sp} {E : XK} {x : Str} {p pos : Pos} {e : Expr} {es : List Expr} {t : TA}
theorem pe_fn (F : Fn X.prog X.w X.K X.mg X.base CX k x ps sp) (hr : Room k X.A) (hx : Passes CX X E) (ha : PA X (e :: es) t) (hg : Gl X x := by rfl) (hdb : (x == ("__debug__" : Str)) = false := by decide)
    (he : starEach (e :: es) X.env = (false, eval e X.env) :: starEach es X.env := by rfl) (hpl : (backTo pos (starEach es X.env)).any (·.1) = false := by rfl) : PE X (.Call (.Name x p) (e :: es) [] pos) (tCall sp [] E t) := by
  obtain ⟨f, fd, G, b, m, kp⟩ := F.ex
  exact pe_call G hr hg m kp b .nil hx ha hdb he hpl
structure FnD (P : Program) (w : World) (K : PySem.W.Frag) (mg : Str → Option Value) (base : Heap) (CX : CXT) (k : Nat) (x : Str) (ps : List Str) (ds : List Value) (sp : Sp) : Prop where
  ex : ∃ (f : Addr) (fd : FuncData), FnOk P w K mg base CX k f fd ps sp ∧ Binds K fd ps ds ∧ mg x = some (.ref f) ∧ PySem.W.keepIn K (.ref f) = true
end
end
def spLaw (K : PySem.W.Frag) : Sp := fun vs H Q _ => ∃ (a : Addr) (ns : List Int), vs = [.ref a] ∧ SqL K H a (ns.map V.int) ∧ ns.length ≤ 63 ∧ (∀ i ∈ ns, intBits i ≤ 1048576) ∧ ∀ H', Q (.bl true) H'
theorem walk {l : PySem.W.OpenLaw} {q : Program} {loose : List Str} {XP : (Str → Option Value) → Heap → Prop} {YP : World → Heap → Prop} {d : DefRec} {K : Params → PySem.W.Frag} {CX : World → CXT} {x : Str} {k : Nat}
    (hn : l.most = some 63) (hdf : d.params.defaults = []) (hi : importsNone q = true) (hr : Room k callerA)
    (hY : ∀ (w : World) (h : Heap), YP w h → (K w.params).In h) (hm : ∀ w, Mute (CX w))
    (F : ∀ (w : World) (mg : Str → Option Value) (fa : Addr) (h : Heap), (K w.params).In h → h.Ns mainGlobals mg → mg d.name = some (.ref fa) →
      ∃ fd : FuncData, (∀ (s : Shared) (u : Value), BindsTo s fd ⟨[u], []⟩ [(x, u)]) ∧
        ∀ base : Heap, (K w.params).In base → base.Ns mainGlobals mg → FnOk l.prog w (K w.params) mg base (CX w) k fa fd [x] (spLaw (K w.params))) :
    PySem.W.WalkO q loose XP YP l.row.toRowW d [] (fun f vs => PySem.call f vs) := by
  refine TyAtt.attach_bits hn hdf fun w s₀ s₁ mg mb fa o pm cd doc a vs ns G Y ho hd hcd hmg hobj hints hlen hb hg => ?_
  have KX := hY w _ Y
  obtain ⟨fd, hbd, hF⟩ := F w mg fa _ KX G.T.g hmg
  exact law_call KX G.T.g G.T.b G.T.builtins G.T.nolimit (G.T.seer hi) hg hobj hints (Nat.le_trans hlen (by decide)) hr hF hbd (fun H hO hS => ⟨a, ns, rfl, hS, hlen, hb, fun _ => rfl⟩) fun H e s' => hm w [] H s₁ e s'
end Ty

set_option maxHeartbeats 4000000
namespace Ty
open PySem PySem.Spec PyProof.Rows L2
def CXr (P : Program) (w : World) : CXT := fun outer H s E e s' => ∃ (a : Addr) (cls a0 : Value) (H' : Hp) (B : Heap),
  e = .ref a ∧ Heap.FlyingW B outer a cls a0 s'.heap ∧ Un (frs outer) [] H H' s.heap s'.heap ∧ HOk P w H' s'.heap ∧ s'.os = s.os ∧ AllBare s'.gens ∧
  (∀ b o, s.heap.get? b = some o → b ∉ frs outer → ∃ o', B.get? b = some o') ∧ (∀ b u, H' b = some u → ∃ o, B.get? b = some o) ∧ E cls none H'
theorem CXr.mute {P : Program} {w : World} : Mute (CXr P w) := fun _ _ _ _ _ ⟨_, _, _, _, _, _, _, _, _, _, _, _, _, z⟩ => z
section
variable {P : Program} {w : World} {K : PySem.W.Frag} {mg : Str → Option Value} {base : Heap} {N : List Str} {qual : Str} {scope : Scope} {f : Addr} {cdv : Value} {A : Around} {outer : List Env} {s0 : Shared} {H0 : Hp} {E : XK}
abbrev cxr (P : Program) (w : World) (K : PySem.W.Frag) (mg : Str → Option Value) (base : Heap) (N : List Str) (qual : Str) (scope : Scope) (f : Addr) (cdv : Value) (A : Around) (outer : List Env) (s0 : Shared) (H0 : Hp) (E : XK) : Cx := cxOf (CXr P w) P w K mg base N qual scope f cdv A outer s0 H0 E
def tRaise (C : Addr) (E : XK) (ta : TA) : TS := fun _ σ H => ta σ H fun vs H1 => vs.length ≤ sizeLine ∧ E (.ref C) none H1
end
end Ty

set_option maxHeartbeats 4000000
namespace Ty
open PySem PySem.Spec PyProof.Rows L2
section
variable {X : Cx} {pins : List (Addr × Obj)} {σ : L2.St} {H H' : Hp} {s : Shared}
abbrev hnd (X : Cx) (a : Addr) : Cx := { X with A := X.A.mark (some (.ref a)), calm := false, xe := fun _ _ => False }
def excO (cls : Value) (a : Addr) : HO := .ext fun h => ∃ o vs, h.get? a = some o ∧ o.cls = cls ∧ o.data = .fields vs
structure Ld (X : Cx) (pins : List (Addr × Obj)) (σ : L2.St) (H : Hp) (a : Addr) (cls : Value) (s : Shared) : Prop where
  ex : ∃ (H0 : Hp) (s0 : Shared) (a0 : Value) (B : Heap), Inv X pins σ H0 s0 ∧ Heap.FlyingW B X.stack a cls a0 s.heap ∧ Un (frs X.stack) [] H0 H s0.heap s.heap ∧ HOk X.prog X.w H s.heap ∧ s.os = s0.os ∧ AllBare s.gens ∧
    (∀ b o, s0.heap.get? b = some o → b ∉ frs X.stack → ∃ o', B.get? b = some o') ∧ (∀ b u, H b = some u → ∃ o, B.get? b = some o)
theorem Ld.free {a : Addr} {cls : Value} (L : Ld X pins σ H a cls s) : H a = none := by
  obtain ⟨H0, s0, a0, B, I, fl, un, ok, os, bare, th, tr⟩ := L.ex
  cases q : H a with
  | none => rfl
  | some u =>
    obtain ⟨o, e⟩ := tr a u q
    rw [fl.2.1] at e
    cases e
abbrev TH := Value → Ends → L2.St → Hp → Prop
def PH (X : Cx) (hs : List ExceptHandler) (t : TH) : Prop :=
  ∀ (pins : List (Addr × Obj)) (s : Shared) (σ : L2.St) (H : Hp) (a : Addr) (cls : Value) (D : Ends), Ld X pins σ H a cls s → t cls D σ H → wpAny (model X.prog X.w) X.A (handleBy (.ref a) X.env hs) (SP X pins D) X.xe s
structure ClsN (X : Cx) (c : Str) (cv : Value) : Prop where
  ld : ∀ (a : Addr) (pins : List (Addr × Obj)) (s : Shared) (σ : L2.St) (H : Hp) (np : Pos) (Q : Value → Shared → Prop) (E : Value → Shared → Prop), Inv (hnd X a) pins σ H s → Q cv s → wpAny (model X.prog X.w) (X.A.mark (some (.ref a))) (eval (.Name c np) X.env) Q E s
theorem ClsN.own {c : Str} {C : Addr} (hm : X.mg c = some (.ref C)) (hg : Gl X c := by rfl) (hd : (c == ("__debug__" : Str)) = false := by decide) : ClsN X c (.ref C) :=
  ⟨fun a pins s σ H np Q E I h => ld_glob (X := hnd X a) I hg hm h hd⟩
def tAs (i : Nat) (cv : Value) (K : PySem.W.Frag) (ts : TS) (tr : TH) : TH := fun cls D σ H => ∃ b, PySem.W.exmOne K cls cv = some b ∧
  if b = true then ∀ a, H a = none → ts { nx := fun σ2 H2 => D.nx (σ2.set i none) H2, rt := D.rt, bk := fun σ2 H2 => D.bk (σ2.set i none) H2, ct := fun σ2 H2 => D.ct (σ2.set i none) H2 } (σ.set i (some (.ref a))) (upd H a (excO cls a)) else tr cls D σ H
def XP (X : Cx) (pins : List (Addr × Obj)) (σ : L2.St) (E : XK) (e : Value) (s' : Shared) : Prop := ∃ H s, Inv X pins σ H s ∧ CXr X.prog X.w X.stack H s E e s'
abbrev TEx := L2.St → Hp → VK → XK → Prop
abbrev TSx := Ends → (L2.St → XK) → L2.St → Hp → Prop
def PEx (X : Cx) (e : Expr) (t : TEx) : Prop :=
  ∀ (pins : List (Addr × Obj)) (s : Shared) (σ : L2.St) (H : Hp) (Q : VK) (E : XK), Inv X pins σ H s → t σ H Q E → wpAny (model X.prog X.w) X.A (eval e X.env) (EP X pins σ Q) (XP X pins σ E) s
def PSx (X : Cx) (st : Stmt) (t : TSx) : Prop :=
  ∀ (pins : List (Addr × Obj)) (s : Shared) (σ : L2.St) (H : Hp) (D : Ends) (E : L2.St → XK), Inv X pins σ H s → t D E σ H → wpAny (model X.prog X.w) X.A (exec st X.env) (SP X pins D) (fun e s' => ∃ σ', XP X pins σ' (E σ') e s') s
end
end Ty

set_option maxHeartbeats 4000000
namespace TyExc
open PySem PySem.W PySem.Calls PyProof.Rows Builtin Builtin.ObjectAttr Builtin.Getset_descriptor
structure ExcK (K : Frag) (C : Addr) : Prop where
  ga : findIn K (.ref C) "__getattribute__" = some (some (.builtin "BaseException.__getattribute__"))
  gt : findIn K (.ref C) "__getattr__" = some none
  cl : findIn K (.ref C) "__class__" = some (some (.builtin "object.__class__"))
  mo : mroIn K C (.type "object") = some true
  mb : mroIn K C (.type "BaseException") = some true
  is : (clsIn K C).isSome = true
section
variable {prog : Program} {w : World} {A : Around} {E : Value → Shared → Prop} {K : Frag} {h : Heap} {g : Array GenState} {d : Drawn} {t : Nat} {os : OsState} {a C : Addr} {o : Obj}
end
def ExcAt (a C : Addr) (h : Heap) : Prop := ∃ o vs, h.get? a = some o ∧ o.cls = .ref C ∧ o.data = .fields vs
end TyExc

set_option maxHeartbeats 4000000
namespace Ty
open PySem PySem.Spec PyProof.Rows L2
section
variable {X : Cx}
def rIsiX (K : PySem.W.Frag) : List V → Hp → VK → Prop := fun xs H Q => ∃ a C c b, xs = [.ref a, c] ∧ isCls c = true ∧ H a = some (excO (.ref C) a) ∧ TyExc.ExcK K C ∧ PySem.W.kitOne K (.ref C) (clsV c) = some b ∧ Q (.bl b) H
def rCount (K : PySem.W.Frag) : V → List V → Hp → VK → Prop := fun x vs H Q => ∃ l xs y, x = .ref l ∧ vs = [y] ∧ SqL K H l xs ∧ flatV y = true ∧ xs.all flatV = true ∧ Q (.int (xs.countP (fun z => eqV z y) : Nat)) H
end
structure RoomH (k : Nat) (A : Around) : Prop where
  dp : A.depth + 3 * k + 5 < recursionLimit
  un : A.units + 16 * k + 200 < cLine
theorem RoomH.of {k : Nat} {A : Around} (r : Room k A) : RoomH k A := ⟨r.dp, r.un⟩
theorem RoomH.mono {j k : Nat} {A : Around} (r : RoomH k A) (h : j ≤ k) : RoomH j A := ⟨by have := r.dp; omega, by have := r.un; omega⟩
theorem RoomH.deeper {k : Nat} {A : Around} (r : RoomH (k + 1) A) (env : Env) : RoomH k (A.deeper env) :=
  ⟨by have := r.dp; show A.depth + 1 + 3 * k + 5 < _; omega, by have := r.un; show A.units + 3 + 16 * k + 200 < _; omega⟩
theorem RoomH.mark {k : Nat} {A : Around} (r : Room k A) (e : Option Value) : RoomH k (A.mark e) := ⟨r.dp, r.un⟩
theorem RoomH.units {k : Nat} {A : Around} (r : RoomH k A) : A.units + 64 < cLine := by have := r.un; omega
structure FnOkH (P : Program) (w : World) (K : PySem.W.Frag) (mg : Str → Option Value) (base : Heap) (k : Nat) (f : Addr) (fd : FuncData) (ps : List Str) (sp : Sp) : Prop where
  len : ∀ vs H Q E, sp vs H Q E → vs.length = ps.length
  run : ∀ (A : Around) (outer : List Env) (s : Shared) (H : Hp) (args : Args) (us : List Value) (vs : List V) (Q : VK), RoomH k A → Env0 P w K mg base A outer s H → BindsTo s fd args (ps.zip us) → Vals vs us → sp vs H Q E0 →
    codeAny (model P w) A (.call (.ref f) args) (CR CX0 outer P w H s Q E0) s
def cxh (P : Program) (w : World) (K : PySem.W.Frag) (mg : Str → Option Value) (base : Heap) (N : List Str) (qual : Str) (scope : Scope) (f : Addr) (cdv : Value) (A : Around) (outer : List Env) (s : Shared) (H : Hp) : Cx :=
  { cxOf CX0 P w K mg base N qual scope f cdv A outer s H E0 with calm := false, xe := fun _ _ => False }
structure FnH (P : Program) (w : World) (K : PySem.W.Frag) (mg : Str → Option Value) (base : Heap) (k : Nat) (x : Str) (ps : List Str) (sp : Sp) : Prop where
  ex : ∃ (f : Addr) (fd : FuncData), FnOkH P w K mg base k f fd ps sp ∧ Binds K fd ps [] ∧ mg x = some (.ref f) ∧ PySem.W.keepIn K (.ref f) = true
theorem Def.okX {P : Program} {w : World} {K : PySem.W.Frag} {mg : Str → Option Value} {base : Heap} {x : Str} {st : Stmt} {N ps : List Str} {k : Nat} {sp : Sp} (D : Def K mg x st ps) (S : FnScope N ps (defScope st)) (len : ∀ vs H Q E, sp vs H Q E → vs.length = ps.length)
    (hbody : ∀ (f : Addr) (cdv : Value) (A : Around) (outer : List Env) (s : Shared) (H : Hp) (vs : List V) (Q : VK) (E : XK), Room k (A.deeper (envOfC x (defScope st) s.heap.objs.size f cdv)) → sp vs H Q E →
      ∃ t, PSs (cxr P w K mg base N x (defScope st) f cdv A outer s H E) (defBody st) t ∧ t { nx := fun _ H' => Q .non H', rt := Q } (start N vs) H) : Fn P w K mg base (CXr P w) (k + 1) x ps sp := by
  obtain ⟨f, dV, oc, od, kV, doc, pm, an, cdv, ct, osl, lk, hcd, kp, b, m⟩ := D.ex
  exact ⟨f, _, fn_of lk hcd S len fun A outer s H vs Q E hr hsp => hbody f cdv A outer s H vs Q E hr hsp, b, m, kp⟩
theorem DefD.okX {P : Program} {w : World} {K : PySem.W.Frag} {mg : Str → Option Value} {base : Heap} {x : Str} {st : Stmt} {N ps : List Str} {ds : List Value} {k : Nat} {sp : Sp} (D : DefD K mg x st ps ds) (S : FnScope N ps (defScope st)) (len : ∀ vs H Q E, sp vs H Q E → vs.length = ps.length)
    (hbody : ∀ (f : Addr) (cdv : Value) (A : Around) (outer : List Env) (s : Shared) (H : Hp) (vs : List V) (Q : VK) (E : XK), Room k (A.deeper (envOfC x (defScope st) s.heap.objs.size f cdv)) → sp vs H Q E →
      ∃ t, PSs (cxr P w K mg base N x (defScope st) f cdv A outer s H E) (defBody st) t ∧ t { nx := fun _ H' => Q .non H', rt := Q } (start N vs) H) : Fn P w K mg base (CXr P w) (k + 1) x ps sp ∧ FnD P w K mg base (CXr P w) (k + 1) x ps ds sp := by
  obtain ⟨f, dV, oc, od, kV, doc, pm, an, cdv, ct, osl, lk, hcd, kp, b, b2, m⟩ := D.ex
  have F := fn_of (CX := CXr P w) (P := P) (w := w) (mg := mg) (base := base) lk hcd S len fun A outer s H vs Q E hr hsp => hbody f cdv A outer s H vs Q E hr hsp
  exact ⟨⟨f, _, F, b, m, kp⟩, ⟨f, _, F, b2, m, kp⟩⟩
abbrev bmVE : List Value := [.type "ValueError", .type "Exception", .type "BaseException", .type "object"]
end Ty

set_option maxHeartbeats 4000000
namespace Ty
open PySem PySem.Spec PyProof.Rows L2
section
variable {prog : Program} {w : World} {A : Around} {R : Result → Shared → Prop} {s : Shared}
theorem compLoop_any {elt target iter : Expr} {ifs : List Expr} {scope : Scope} {pos : Pos} {it acc : Value} {env : Env} (I : Nat → Shared → Prop)
    (turn : ∀ n s, I n s → wpAny (model prog w) A (pyNext it) (fun r s₁ => match r with
      | none => R (.ok .next) s₁
      | some v => wpAny (model prog w) A (letOwnedTupleGo target it v) (fun _ s₁' => wpAny (model prog w) A (assign target env v) (fun _ s₂ =>
          wpAny (model prog w) A (forIn ifs true fun c r => if r = true then do let ok ← isTrue c env (eval c env); pure (ForInStep.yield ok) else pure (ForInStep.yield r)) (fun ok s₃ =>
            if ok = true then wpAny (model prog w) A (eval elt env) (fun x s₄ =>
              wpAny (model prog w) A (call (.builtin "list.append") [acc, x]) (fun _ s₅ => ∃ m, m < n ∧ I m s₅) (fun _ _ => False) s₄) (fun _ _ => False) s₃
            else ∃ m, m < n ∧ I m s₃) (fun _ _ => False) s₂) (fun _ _ => False) s₁') (fun _ _ => False) s₁) (fun _ _ => False) s)
    (n : Nat) (h : I n s) :
    codeAny (model prog w) A (.compLoop (.ListComp elt [⟨target, iter, ifs, 0⟩] scope pos) 0 it acc env) R s := by
  refine codeAny_loop rfl I (fun n s hI => ?_) n h
  show wpAny _ A ((compTurn (.ListComp elt [⟨target, iter, ifs, 0⟩] scope pos) 0 it acc env).onRaise (fun x => do noteFrame x env; theTreesLotGoes x)) _ _ s
  refine wpAny_noted ?_
  rw [compTurn_list]
  refine wpAny_bind (wpAny_standAt (wpAny_bind (wpAny_mono (turn n s hI) (fun r s₁ h₁ => ?_) fun _ _ h' => h'.elim)))
  cases r with
  | none => exact wpAny_pure h₁
  | some v =>
    refine wpAny_bind (wpAny_mono h₁ (fun _ s₁' h₁' => ?_) fun _ _ h' => h'.elim)
    refine wpAny_bind (wpAny_mono h₁' (fun _ s₂ h₂ => wpAny_bind (wpAny_mono h₂ (fun ok s₃ h₃ => ?_) fun _ _ h' => h'.elim)) fun _ _ h' => h'.elim)
    cases ok with
    | false => exact wpAny_pure ⟨rfl, h₃⟩
    | true =>
      exact wpAny_bind (wpAny_bind (wpAny_mono h₃ (fun x s₄ h₄ => wpAny_bind (wpAny_mono h₄ (fun _ s₅ h₅ => wpAny_pure (wpAny_pure ⟨rfl, h₅⟩)) fun _ _ h' => h'.elim)) fun _ _ h' => h'.elim))
end
def capCl (env : Env) (fr : List Str) : List (Str × Addr) := fr.filterMap fun n => (env.cells.lookup n).map fun c => (n, c)
theorem lookup_mem {α : Type} {x : Str} {c : α} : ∀ {l : List (Str × α)}, l.lookup x = some c → (x, c) ∈ l
  | [], h => by simp at h
  | (y, d) :: r, h => by
    rw [List.lookup_cons] at h
    cases e : x == y with
    | true =>
      rw [e] at h
      have e1 : x = y := by simpa using e
      cases h
      rw [e1]
      exact List.mem_cons_self
    | false =>
      rw [e] at h
      exact List.mem_cons_of_mem _ (lookup_mem h)
theorem capCl_mem {env : Env} {fr : List Str} {x : Str} {c : Addr} (h : (x, c) ∈ capCl env fr) : env.cells.lookup x = some c := by
  obtain ⟨n, _, e⟩ := List.mem_filterMap.mp h
  cases q : env.cells.lookup n with
  | none => rw [q] at e; cases e
  | some d =>
    rw [q] at e
    have e' : (n, d) = (x, c) := Option.some.inj e
    cases e'
    exact q
theorem capCl_get {env : Env} {fr : List Str} {x : Str} {c : Addr} (h : (capCl env fr).lookup x = some c) : env.cells.lookup x = some c := capCl_mem (lookup_mem h)
theorem capCl_has {env : Env} {x : Str} {c : Addr} (q : env.cells.lookup x = some c) : ∀ {fr : List Str}, x ∈ fr → (capCl env fr).lookup x = some c
  | [], h => nomatch h
  | y :: r, h => by
    unfold capCl
    rw [List.filterMap_cons]
    by_cases e : x = y
    · subst e
      rw [q]
      simp
    · have hr : x ∈ r := by
        rcases List.mem_cons.mp h with z | z
        · exact absurd z e
        · exact z
      have ih := capCl_has q hr
      cases z : env.cells.lookup y with
      | none => exact ih
      | some d =>
        show List.lookup x ((y, d) :: _) = _
        rw [List.lookup_cons]
        have ne : (x == y) = false := by simpa using e
        rw [ne]
        exact ih
def AllCap (env : Env) : List Str → Prop
  | [] => True
  | y :: r => (env.kindOf y = some .cell ∨ env.kindOf y = some .free) ∧ AllCap env r
theorem AllCap.at {env : Env} {x : Str} : ∀ {fr : List Str}, AllCap env fr → x ∈ fr → env.kindOf x = some .cell ∨ env.kindOf x = some .free
  | [], _, h => nomatch h
  | y :: r, a, h => by
    rcases List.mem_cons.mp h with z | z
    · rw [z]
      exact a.1
    · exact AllCap.at a.2 z
section
variable {X : Cx}
def cxB (X : Cx) (NB : List Str) (scope : Scope) (cl : List (Str × Addr)) (C : Addr) (s : Shared) (H : Hp) (fp : List Addr) : Cx :=
  { prog := X.prog, w := X.w, K := X.K, mg := X.mg, base := X.base, A := X.A, N := NB, s₀ := s, H₀ := H, env := compEnvC scope cl C X.env, outer := X.stack, stack := X.stack, ex := fp, fn := fun _ => false, calm := X.calm, pn := [], xe := fun _ _ => False }
structure BlkS (X : Cx) (scope : Scope) (fr : List Str) (caps : List Nat) : Prop where
  clos : closureFor scope X.env = pure (capCl X.env fr)
  cell : ∀ y ∈ scope.names, y.2 ≠ .cell
  kind : scope.kind = .function
  names : ∀ y ∈ scope.names, y.2 = .local → scope.names.lookup y.1 = some .local
  free : ∀ y ∈ scope.names, y.2 = .free → y.1 ∈ fr
  caps : caps.map (fun i => X.N[i]?) = fr.map some
  out : AllCap X.env fr
  inn : AllCap (compEnvC scope [] 0 X.env) fr
def PF (X : Cx) (ifs : List Expr) (t : TT) : Prop :=
  ∀ (pins : List (Addr × Obj)) (s : Shared) (σ : L2.St) (H : Hp) (Q : Bool → Hp → Prop), Inv X pins σ H s → t σ H Q →
    wpAny (model X.prog X.w) X.A (forIn ifs true fun c r => if r = true then do let ok ← isTrue c X.env (eval c X.env); pure (ForInStep.yield ok) else pure (ForInStep.yield r)) (TP X pins σ Q) X.xe s
def tYes : TT := fun _ H Q => Q true H
theorem pf_nil : PF X [] tYes := fun _ _ _ H _ I h => wpAny_tests_nil ⟨H, I, h⟩
def sB (k : Nat) (caps : List Nat) (σ : L2.St) : L2.St := List.replicate k none ++ caps.map fun i => (σ[i]?).getD none
def tBlk (D : Addr) (g : TG) (tt : TT) (te : TE) (J : It) (σ0 : L2.St) (H1 : Hp) (Q : VK) : Prop := ∃ W : Nat → Nat → L2.St → List V → Hp → Prop,
  (∃ m, W 0 m σ0 [] (upd H1 D (.lst []))) ∧ ∀ i m σ2 ys H2, W i m σ2 ys H2 → (J.stop i H2 ∧ Q (.ref D) H2) ∨ (J.go i H2 ∧ ∀ x H3, J.yld i H2 x H3 → g x σ2 H3 fun σ4 H4 => tt σ4 H4 fun b H5 =>
    if b = true then te σ4 H5 fun v H6 => H6 D = some (.lst ys) ∧ ys.length < sizeLine ∧ ∃ m', m' < m ∧ W (i + 1) m' σ4 (ys ++ [v]) (upd H6 D (.lst (ys ++ [v]))) else ∃ m', m' < m ∧ W (i + 1) m' σ4 ys H5)
def tComp (k : Nat) (caps : List Nat) (wi : TI) (g : TG) (tt : TT) (te : TE) : TE := fun σ H Q => wi σ H fun J H1 => ∀ D, H1 D = none → tBlk D g tt te J (sB k caps σ) H1 Q
theorem sB_get {k : Nat} {caps : List Nat} {σ : L2.St} {i : Nat} {v : V} (h : (sB k caps σ)[i]? = some (some v)) : k ≤ i ∧ ∃ j, caps[i - k]? = some j ∧ σ[j]? = some (some v) := by
  unfold sB at h
  by_cases c : i < k
  · rw [List.getElem?_append_left (by simpa using c), List.getElem?_replicate, if_pos c] at h
    cases h
  · rw [List.getElem?_append_right (by simpa using Nat.le_of_not_lt c), List.length_replicate, List.getElem?_map] at h
    refine ⟨Nat.le_of_not_lt c, ?_⟩
    cases e : caps[i - k]? with
    | none => rw [e] at h; cases h
    | some j =>
      rw [e] at h
      refine ⟨j, rfl, ?_⟩
      have h' : (σ[j]?).getD none = some v := Option.some.inj h
      cases z : σ[j]? with
      | none => rw [z] at h'; cases h'
      | some o =>
        rw [z] at h'
        exact congrArg some h'
theorem comp_block {elt target iter : Expr} {ifs : List Expr} {scope : Scope} {pos : Pos} {tn fr : List Str} {caps : List Nat} {g : TG} {tt : TT} {te : TE} {pins : List (Addr × Obj)} {σ : L2.St} {H2 : Hp} {s2 : Shared} {J : It} {fp : List Addr} {it : Addr}
    {tnn : Nat → Heap → Prop} {Q : VK} {RR : Value → Addr → Result → Shared → Prop} {E : Value → Shared → Prop} (hc : X.calm = true) (B : BlkS X scope fr caps)
    (hg : ∀ C s H fp, PG (cxB X (tn ++ fr) scope (capCl X.env fr) C s H fp) target g) (ht : ∀ C s H fp, PF (cxB X (tn ++ fr) scope (capCl X.env fr) C s H fp) ifs tt) (he : ∀ C s H fp, PE (cxB X (tn ++ fr) scope (capCl X.env fr) C s H fp) elt te)
    (I2 : Inv X pins σ H2 s2) (T : Turn X.prog X.w X.K target J fp it tnn) (st2 : tnn 0 s2.heap) (f2 : ∀ b ∈ fp, FpOk X pins H2 b) (q : ∀ D, H2 D = none → tBlk D g tt te J (sB tn.length caps σ) H2 Q)
    (fin : ∀ D C H' s' m, Inv X pins σ H' s' → s'.heap.Ns C m → FpOk X pins H' C → Q (.ref D) H' → RR (.ref D) C (.ok .next) s') :
    wpAny (model X.prog X.w) X.A (newList []) (fun acc s₃ => wpAny (model X.prog X.w) X.A (newFunctionEnv scope X.env.globals (capCl X.env fr) [] X.env.qual none .none (some X.env)) (fun cenv s₄ =>
      codeAny (model X.prog X.w) X.A (.compStart (.ListComp elt [⟨target, iter, ifs, 0⟩] scope pos) 0 (.ref it) acc { cenv with scope := relabel scope X.env }) (RR acc cenv.locals) s₄) E s₃) E s2 := by
  refine wpAny_newObj_type (wpAny_newFunctionEnv B.cell (by intro y hy; simp at hy) (fun h₁ hns₁ hsb₁ => ?_) B.kind)
  have I3 : Inv X pins σ (upd H2 s2.heap.objs.size (.lst [])) { s2 with heap := s2.heap.push { cls := .type "list", data := .seq ([] : List Value).toArray } } := I2.lnew (t' := s2.toks) (its := []) .nil (Nat.zero_le _)
  obtain ⟨W, ⟨m0, w0⟩, turn⟩ := q s2.heap.objs.size (I2.hok.fresh (Nat.le_refl _))
  generalize hH3 : upd H2 s2.heap.objs.size (.lst []) = H3 at I3 w0
  have f3 : ∀ b ∈ fp, FpOk X pins H3 b := fun b hb => by
    obtain ⟨a0, a1⟩ := f2 b hb
    refine ⟨?_, a1⟩
    obtain ⟨o, e, _⟩ := T.obj _ _ st2 b hb
    rw [← hH3, upd_ne (Nat.ne_of_lt (Heap.lt_size e))]
    exact a0
  generalize hD : s2.heap.objs.size = D at *
  generalize hs3 : ({ s2 with heap := s2.heap.push { cls := .type "list", data := .seq ([] : List Value).toArray } } : Shared) = s3 at *
  have e3 : s3.heap = s2.heap.push { cls := .type "list", data := .seq ([] : List Value).toArray } := by rw [← hs3]
  have st3 : tnn 0 s3.heap := T.keep _ _ _ st2 fun b _ o e => by rw [e3]; exact Heap.get?_push_of_some _ e
  have kept : ∀ b o, s3.heap.get? b = some o → h₁.get? b = some o := fun b o e => (hsb₁.2 b (Nat.ne_of_lt (Heap.lt_size e))).trans (Heap.get?_push_of_some _ e)
  generalize hC : s3.heap.objs.size = C at *
  have hCs : s3.heap.objs.size ≤ C := Nat.le_of_eq hC
  have I4 : Inv X pins σ H3 { s3 with heap := h₁, toks := s3.toks + ([] : List (Str × Value)).length } := I3.kept kept
  have fpC : ∀ b ∈ fp, b ≠ C := fun b hb z => by
    obtain ⟨o, e, _⟩ := T.obj _ _ st3 b hb
    exact absurd z (Nat.ne_of_lt (Nat.lt_of_lt_of_le (Heap.lt_size e) hCs))
  have nst : ∀ b ∈ fp, b ∉ frs X.stack := fun b hb z => (List.mem_cons.mp (I3.stkSub b z)).elim (f3 b hb).2.1 (f3 b hb).2.2.1
  have okB : (cxB X (tn ++ fr) scope (capCl X.env fr) C s3 H3 fp).Ok := by
    refine ⟨I3.ok.mod, B.kind, I3.ok.glob, I3.ok.blt, hCs, fun x y c e1 e2 => I3.ok.inj x y c (capCl_get e1) (capCl_get e2), fun x hx => ?_, fun x c z => (nomatch z), I3.ok.hd, I3.ok.frames, .inl rfl,
      fun b hb => ⟨fpC b hb, fun x c e => (f3 b hb).2.2.2.2.1 x c (capCl_get e)⟩, I3.bs, Nat.le_trans I3.ok.bsz I3.sz, fun b o e hb => ?_, nst, I3.stack, I3.stkFree⟩
    · have hm : ∃ k, (x, k) ∈ scope.names ∧ k ≠ .local ∧ (k = .cell ∨ k = .free) := by
        have : ∃ k', (relabel scope X.env).names.lookup x = some k' ∧ (k' = .cell ∨ k' = .free) := by
          rcases hx with z | z
          · exact ⟨_, z, .inl rfl⟩
          · exact ⟨_, z, .inr rfl⟩
        obtain ⟨k', e', h'⟩ := this
        obtain ⟨⟨n, k⟩, hn, en⟩ := List.mem_map.mp (lookup_mem e')
        dsimp only at en
        by_cases cc : (k == NameKind.free && X.env.scope.kind == .function && X.env.kindOf n == some .cell) = true
        · rw [if_pos cc] at en
          cases en
          have kf : k = .free := by
            rw [Bool.and_eq_true, Bool.and_eq_true] at cc
            simpa using cc.1.1
          exact ⟨k, hn, (by intro z; rw [kf] at z; cases z), .inr kf⟩
        · rw [if_neg cc] at en
          cases en
          exact ⟨k', hn, fun z' => by rcases h' with y | y <;> (rw [y] at z'; cases z'), h'⟩
      obtain ⟨k, hk, _, h2⟩ := hm
      rcases h2 with z | z
      · exact absurd z (B.cell _ hk)
      · have hf := B.free _ hk z
        obtain ⟨c, ec⟩ := I3.ok.has x (B.out.at hf)
        exact ⟨c, capCl_has ec hf⟩
    · obtain ⟨_, _, _, h1, _⟩ := f3 b hb
      rcases h1 with z | z
      · exact I3.ok.noex b o e z
      · exact Nat.lt_irrefl _ (Nat.lt_of_lt_of_le (Nat.lt_of_lt_of_le (Heap.lt_size e) I3.ok.bsz) z)
  have IB : Inv (cxB X (tn ++ fr) scope (capCl X.env fr) C s3 H3 fp) [] (sB tn.length caps σ) H3 { s3 with heap := h₁, toks := s3.toks + ([] : List (Str × Value)).length } := by
    refine ⟨okB, rfl, I3.bare, Un.kept kept, ⟨_, hns₁, fun i x v e1 e2 _ => ?_⟩, fun x c e => I4.cell x c (capCl_get e), ?_, fun x c e => I3.freeC x c (capCl_get e), fun p hp => (nomatch hp), I3.hok.kept kept, ?_⟩
    · obtain ⟨hk, j, ej, es⟩ := sB_get e2
      have e1' : fr[i - tn.length]? = some x := by
        have z : (tn ++ fr)[i]? = some x := e1
        rw [List.getElem?_append_right hk] at z
        exact z
      have hx : x ∈ fr := List.mem_of_getElem? e1'
      have eN : X.N[j]? = some x := by
        have z := congrArg (fun l : List (Option Str) => l[i - tn.length]?) B.caps
        simp only [List.getElem?_map, ej, e1', Option.map_some] at z
        exact Option.some.inj z
      have ko := B.out.at hx
      obtain ⟨m, hn, hl⟩ := I4.loc
      obtain ⟨u, r, lk⟩ := hl j x v eN es (by rcases ko with z | z; exact .inr (.inl z); exact .inr (.inr z))
      refine ⟨u, r, ?_⟩
      rcases lk with ⟨k1, _⟩ | ⟨_, c, ec, ic⟩
      · rcases ko with z | z <;> (rw [z] at k1; cases k1)
      · exact .inr ⟨B.inn.at hx, c, capCl_has ec hx, ic⟩
    · exact I3.hok.fresh hCs
    · have := congrArg List.length B.caps
      simp only [List.length_map] at this
      show (sB tn.length caps σ).length = (tn ++ fr).length
      unfold sB
      simp [this]
  have statB : ∀ {H' : Hp}, (∀ b ∈ fp, H' b = none) → ∀ b ∈ fp, FpOk (cxB X (tn ++ fr) scope (capCl X.env fr) C s3 H3 fp) [] H' b := fun hn b hb =>
    ⟨hn b hb, fpC b hb, nst b hb, .inl hb, fun x c e => (f3 b hb).2.2.2.2.1 x c (capCl_get e), fun p hp => (nomatch hp)⟩
  have st4 : tnn 0 h₁ := T.keep _ _ _ st3 fun b _ o e => kept b o e
  have loop : codeAny (model X.prog X.w) X.A (.compLoop (.ListComp elt [⟨target, iter, ifs, 0⟩] scope pos) 0 (.ref it) (.ref D) (compEnvC scope (capCl X.env fr) C X.env)) (RR (.ref D) C) { s3 with heap := h₁, toks := s3.toks + ([] : List (Str × Value)).length } := by
    refine compLoop_any (fun n s' => ∃ i σ' ys H', Inv (cxB X (tn ++ fr) scope (capCl X.env fr) C s3 H3 fp) [] σ' H' s' ∧ tnn i s'.heap ∧ (∀ b ∈ fp, H' b = none) ∧ W i n σ' ys H') ?_ m0 ⟨0, _, [], H3, IB, st4, fun b hb => (f3 b hb).1, w0⟩
    rintro n s5 ⟨i, σ5, ys, H5, I5, st5, fr5, w5⟩
    rcases turn i n σ5 ys H5 w5 with ⟨stop, qn⟩ | ⟨go, step⟩
    · refine wpAny_mono (T.done (cxB X (tn ++ fr) scope (capCl X.env fr) C s3 H3 fp) rfl rfl rfl hc i [] s5 σ5 H5 (fun _ _ => False) I5 (statB fr5) st5 stop) (fun r s6 ⟨hr, I6⟩ => ?_) fun _ _ z => z
      subst hr
      obtain ⟨m, hn, _⟩ := I6.loc
      have J6 : Inv X pins σ H5 s6 := I3.call' (ch := fp) I6.os I6.base I6.hok I6.bare fun b hb => ⟨(f3 b hb).2.2.2.1, (f3 b hb).2.1, (f3 b hb).2.2.2.2.1, (f3 b hb).2.2.2.2.2⟩
      exact fin D C H5 s6 m J6 hn (I3.fpOk hCs I6.free) qn
    · refine wpAny_mono (T.item (cxB X (tn ++ fr) scope (capCl X.env fr) C s3 H3 fp) rfl rfl rfl hc i [] s5 σ5 H5 (fun _ _ => False) I5 (statB fr5) st5 go) (fun r s6 ⟨u, hr, h6⟩ => ?_) fun _ _ z => z
      subst hr
      refine wpAny_mono h6 (fun _ s7 ⟨x, H7, I7, r7, y7, st7, fr7⟩ => ?_) fun _ _ z => z
      have I7' := I7.pinned (statB fr7) (T.obj _ _ st7)
      have held : ∀ {σ' : L2.St} {H' : Hp} {s' : Shared}, Inv (cxB X (tn ++ fr) scope (capCl X.env fr) C s3 H3 fp) ([] ++ pinsAt fp s7.heap) σ' H' s' → tnn (i + 1) s'.heap ∧ ∀ b ∈ fp, H' b = none := fun {σ' H' s'} I' => by
        refine ⟨T.keep _ _ _ st7 fun b hb o e => (I'.pin (b, o) (List.mem_append_right _ (List.mem_append_right _ (mem_pinsAt hb e)))).1, fun b hb => ?_⟩
        obtain ⟨o, e, d⟩ := T.obj _ _ st7 b hb
        exact (I'.pin (b, o) (List.mem_append_right _ (List.mem_append_right _ (mem_pinsAt hb e)))).2.1
      refine wpAny_mono (hg C s3 H3 fp _ s7 σ5 H7 x u _ I7' r7 (step x H7 y7)) (fun _ s8 ⟨σ8, H8, I8, q8⟩ => ?_) fun _ _ z => z
      refine wpAny_mono (ht C s3 H3 fp _ s8 σ8 H8 _ I8 q8) (fun ok s9 ⟨H9, I9, q9⟩ => ?_) fun _ _ z => z
      cases ok with
      | false =>
        rw [if_neg Bool.false_ne_true] at q9
        obtain ⟨m', hm, w9⟩ := q9
        rw [if_neg Bool.false_ne_true]
        obtain ⟨a, b⟩ := held I9
        exact ⟨m', hm, i + 1, σ8, ys, H9, I9.unpinned, a, b, w9⟩
      | true =>
        rw [if_pos rfl] at q9
        rw [if_pos rfl]
        refine wpAny_mono (he C s3 H3 fp _ s9 σ8 H9 _ I9 q9) (fun v s10 ⟨y, H10, I10, r10, hDD, hl, m', hm, w10⟩ => ?_) fun _ _ z => z
        refine wpAny_mono (mt_append (X := cxB X (tn ++ fr) scope (capCl X.env fr) C s3 H3 fp) _ s10 σ8 H10 (.ref D) [y] (.ref D) [v] (fun _ H' => W (i + 1) m' σ8 (ys ++ [y]) H') I10 rfl (.cons r10 .nil) ⟨D, ys, y, rfl, rfl, hDD, hl, w10⟩) (fun _ s11 ⟨z, H11, I11, _, q11⟩ => ?_) fun _ _ z => z
        obtain ⟨a, b⟩ := held I11
        exact ⟨m', hm, i + 1, σ8, ys ++ [y], H11, I11.unpinned, a, b, q11⟩
  exact codeAny_compStart_list loop (T.self X.A 0 _ _ _ st4 loop)
theorem pe_comp {elt target iter : Expr} {ifs : List Expr} {scope : Scope} {pos : Pos} {tn fr : List Str} {caps : List Nat} {wi : TI} {g : TG} {tt : TT} {te : TE} (hc : X.calm = true) (B : BlkS X scope fr caps) (hi : PI X target iter wi)
    (hg : ∀ C s H fp, PG (cxB X (tn ++ fr) scope (capCl X.env fr) C s H fp) target g) (ht : ∀ C s H fp, PF (cxB X (tn ++ fr) scope (capCl X.env fr) C s H fp) ifs tt) (he : ∀ C s H fp, PE (cxB X (tn ++ fr) scope (capCl X.env fr) C s H fp) elt te)
    (hs : ∀ x, foldedSetIterable iter X.env x = pure x := by intro _; rfl) : PE X (.ListComp elt [⟨target, iter, ifs, 0⟩] scope pos) (tComp tn.length caps wi g tt te) := by
  intro pins s σ H Q I h
  rw [eval_ListComp]
  refine wpAny_comprehension_free (use := none) rfl hs B.clos B.kind B.names (thn (hi pins s σ H _ I h) fun v s1 h1 => thn h1 fun itv s2 h2 => ?_)
  obtain ⟨it, fp, tnn, J, H2, rfl, I2, T, st2, f2, q⟩ := h2
  refine comp_block (Q := Q) (RR := fun acc C => compPost (model X.prog X.w) X.A X.xe none (EP X pins σ Q) acc C) hc B hg ht he I2 T st2 f2 q ?_
  intro D C H' s' m I' hn fc qq
  obtain ⟨g0, g1, g2, g3, g4, g5⟩ := fc
  exact ⟨m, hn, fun h' hs' => ⟨.ref D, H', I'.turned (t' := s'.toks) (fun b o hb e => (hs'.2 b hb).trans e) g0 g1 g3 g4 g5, rfl, qq⟩⟩
theorem ps_setC {i : Nat} {y : Str} {py : Pos} {spos : Pos} {elt target iter : Expr} {ifs : List Expr} {scope : Scope} {pos : Pos} {tn fr : List Str} {caps : List Nat} {wi : TI} {g : TG} {tt : TT} {te : TE} (hN : X.N.Nodup) (hiN : X.N[i]? = some y) (hx : Loc X.env.scope y)
    (hc : X.calm = true) (B : BlkS X scope fr caps) (hi : PI X target iter wi)
    (hg : ∀ C s H fp, PG (cxB X (tn ++ fr) scope (capCl X.env fr) C s H fp) target g) (ht : ∀ C s H fp, PF (cxB X (tn ++ fr) scope (capCl X.env fr) C s H fp) ifs tt) (he : ∀ C s H fp, PE (cxB X (tn ++ fr) scope (capCl X.env fr) C s H fp) elt te)
    (hsw : swapsWith (.ListComp elt [⟨target, iter, ifs, 0⟩] scope pos) (some (.Name y py)) spos.line X.env = pure true := by rfl)
    (hs : ∀ x, foldedSetIterable iter X.env x = pure x := by intro _; rfl) (hf : X.fn y = true ∨ X.env.scope.names.lookup y = some .local := by first | exact .inl rfl | exact .inr rfl | assumption) :
    PS X (.Assign [.Name y py] (.ListComp elt [⟨target, iter, ifs, 0⟩] scope pos) spos) (tAsg (tComp tn.length caps wi g tt te) (gName i)) := by
  intro pins s σ H D I h
  rw [exec_Assign_Name_used _ _ _ _ hsw]
  refine wpAny_bind (wpAny_standAt (wpAny_bind ?_))
  show wpAny _ X.A (do let _ ← comprehension (.ListComp elt [⟨target, iter, ifs, 0⟩] scope pos) scope X.env _ (newList []) false (eval iter X.env) (some (assign (.Name y py) X.env))) _ _ s
  refine wpAny_bind (wpAny_mono (wpAny_comprehension_free (use := some (assign (.Name y py) X.env)) (Q := fun _ s' => SP X pins D .next s') rfl hs B.clos B.kind B.names
    (thn (hi pins s σ H _ I h) fun v s1 h1 => thn h1 fun itv s2 h2 => ?_)) (fun _ s' hq => wpAny_pure (wpAny_pure hq)) fun _ _ e => e)
  obtain ⟨it, fp, tnn, J, H2, rfl, I2, T, st2, f2, q⟩ := h2
  refine comp_block (Q := fun v H1 => gName i v σ H1 D.nx) (RR := fun acc C => compPost (model X.prog X.w) X.A X.xe (some (assign (.Name y py) X.env)) (fun _ s' => SP X pins D .next s') acc C) hc B hg ht he I2 T st2 f2 q ?_
  intro DD C H' s' m I' hn fc qq
  obtain ⟨g0, g1, g2, g3, g4, g5⟩ := fc
  show wpAny _ X.A (assign (.Name y py) X.env (.ref DD)) _ _ _
  refine wpAny_assign_Name (store_ok2 I' hN hiN hx (v := .ref DD) (u := .ref DD) rfl (fun s'' I'' ⟨a, sb, ha⟩ => ?_) hf)
  have hCa : C ≠ a := by
    rcases ha with z | z
    · rw [z]
      exact g1
    · exact fun e => g4 y a z e.symm
  exact ⟨m, hn.sameBut sb hCa, fun h' hs' => ⟨_, H', I''.turned (t' := s''.toks) (fun b o hb e => (hs'.2 b hb).trans e) g0 g1 g3 g4 g5, qq⟩⟩
end
section
variable {D : Addr} {te : TE} {cap : L2.St} {H1 : Hp} {Q : VK}
theorem blk_of {J : It} (n : Nat) (xs : Nat → V) (Pv : Nat → List V → Hp → Prop) (h0 : Pv 0 [] (upd H1 D (.lst [])))
    (go : ∀ i ys H, i < n → Pv i ys H → J.go i H ∧ ∀ x H', J.yld i H x H' → H' = H ∧ x = xs i) (stop : ∀ ys H, Pv n ys H → J.stop n H)
    (hs : ∀ i ys H (R : VK), i < n → Pv i ys H → H D = some (.lst ys) → (∀ v H6, H6 D = some (.lst ys) → ys.length < sizeLine → Pv (i + 1) (ys ++ [v]) (upd H6 D (.lst (ys ++ [v]))) → R v H6) → te (some (xs i) :: cap) H R)
    (hd : ∀ ys H, Pv n ys H → H D = some (.lst ys) → Q (.ref D) H) : tBlk D (gName 0) tYes te J (none :: cap) H1 Q := by
  refine ⟨fun i m σ ys H => m = n - i ∧ i ≤ n ∧ (∃ o, σ = o :: cap) ∧ Pv i ys H ∧ H D = some (.lst ys), ⟨n, by simp, Nat.zero_le _, ⟨none, rfl⟩, h0, upd_same⟩, ?_⟩
  rintro i m σ ys H ⟨rfl, hi, ⟨o, rfl⟩, p, hD⟩
  by_cases hlt : i < n
  · obtain ⟨g1, g2⟩ := go i ys H hlt p
    refine .inr ⟨g1, fun x H' y => ?_⟩
    obtain ⟨e1, e2⟩ := g2 x H' y
    subst e1 e2
    unfold gName tYes
    dsimp only
    rw [if_pos rfl]
    exact hs i ys _ _ hlt p hD fun v H6 a b c => ⟨a, b, n - (i + 1), by omega, rfl, by omega, ⟨_, rfl⟩, c, upd_same⟩
  · have e : i = n := by omega
    subst e
    exact .inl ⟨stop ys H p, hd ys H p hD⟩
end
def Its (x : Str) : It := ⟨fun i _ => i < x.cps.size, fun i H v H' => H' = H ∧ ∃ c, x.cps[i]? = some c ∧ v = .str ⟨#[c]⟩, fun i _ => i = x.cps.size⟩
section
variable {X : Cx} {tg : Expr}
def iStr (tl : TE) : TI := fun σ H R => tl σ H fun x H1 => ∃ z, x = .str z ∧ R (Its z) H1
end
end Ty

set_option maxHeartbeats 4000000
namespace Ty
open PySem PySem.Spec PyProof.Rows L2
section
variable {prog : Program} {w : World} {A : Around} {E : Value → Shared → Prop}
end
def gLst (K : PySem.W.Frag) (n : Nat) (t : TGs) : TG := fun v σ H Q => ∃ a xs, v = .ref a ∧ SqL K H a xs ∧ xs.length = n ∧ t xs σ H Q
structure Mk0 (K : PySem.W.Frag) (C : Addr) : Prop where
  makes : PySem.W.makesIn K C = true
  init : PySem.W.findIn K (.ref C) "__init__" = some (some (.builtin "object.__init__"))
  kp : PySem.W.keepIn K (.ref C) = true
def tMk0 (C : Addr) : TE := fun _ H Q => ∀ x dx, H x = none → H dx = none → dx ≠ x → Q (.ref x) (upd (upd H dx (.own x)) x (.ins C dx []))
section
variable {X : Cx}
end
structure MtdOk (P : Program) (w : World) (K : PySem.W.Frag) (mg : Str → Option Value) (base : Heap) (CX : CXT) (k : Nat) (C : Addr) (m : Str) (ps : List Str) (sp : Sp) : Prop where
  ex : ∃ (f : Addr) (fd : FuncData), Cls K C ∧ Meth K C m f ∧ FnOk P w K mg base CX k f fd ps sp ∧ Binds K fd ps []
theorem MtdOk.mono {P : Program} {w : World} {K : PySem.W.Frag} {mg : Str → Option Value} {base : Heap} {CX : CXT} {j k : Nat} {C : Addr} {m : Str} {ps : List Str} {sp : Sp} (M : MtdOk P w K mg base CX j C m ps sp) (h : j ≤ k) : MtdOk P w K mg base CX k C m ps sp := by
  obtain ⟨f, fd, a, b, c, d⟩ := M.ex
  exact ⟨f, fd, a, b, c.mono h, d⟩
section
variable {X : Cx} {CX : CXT} {k : Nat} {E : XK} {m : Str} {pos apos : Pos} {e o : Expr} {es : List Expr} {ta : TE} {t : TA}
def tMtd (P : Program) (w : World) (K : PySem.W.Frag) (mg : Str → Option Value) (base : Heap) (CX : CXT) (k : Nat) (m : Str) (E : XK) (ta : TE) (t : TA) : TE := fun σ H Q => ta σ H fun x H1 => ∃ a C dx fs ps sp, x = .ref a ∧ H1 a = some (.ins C dx fs) ∧ fs.lookup m = none ∧
  MtdOk P w K mg base CX k C m ps sp ∧ t σ H1 fun vs H2 => sp (x :: vs) H2 Q E
end
theorem passB {X : Cx} {CX : CXT} (h : Mute CX) (e : X.xe = fun _ _ => False) : Passes CX X E0 := fun _ _ _ _ _ _ _ q => (h _ _ _ _ _ q).elim
end Ty

set_option maxHeartbeats 4000000
namespace Ty
open PySem PySem.Spec PyProof.Rows L2
section
variable {σ : L2.St} {H : Hp} {Q : VK} {QB : Bool → Hp → Prop} {QA : List V → Hp → Prop} {D : Ends} {t u : TS} {ta tb te : TE} {tc td : TT} {t1 : TA}
end
end Ty

set_option maxHeartbeats 4000000
namespace Ty
open PySem PySem.Spec PyProof.Rows L2
section
variable {X : Cx}
def tFmt (te : TE) : TE := fun σ H Q => te σ H fun x H1 => ∃ z, x = .str z ∧ z.length ≤ sizeLine ∧ Q (.str z) H1
abbrev TJ := L2.St → Hp → (List Str → Hp → Prop) → Prop
def PJ (X : Cx) (es : List Expr) (t : TJ) : Prop :=
  ∀ (pins : List (Addr × Obj)) (s : Shared) (σ : L2.St) (H : Hp) (acc : Str) (Q : List Str → Hp → Prop), Inv X pins σ H s → acc.length + 5000 * es.length ≤ sizeLine → t σ H Q →
    Joins (model X.prog X.w) X.A X.xe (evalEach es X.env) acc (fun out s1 => ∃ ys H1, Inv X pins σ H1 s1 ∧ out = ys.foldl (· ++ ·) acc ∧ out.length ≤ sizeLine ∧ Q ys H1) s
def jNil : TJ := fun _ H Q => Q [] H
def jCons (te : TE) (t : TJ) : TJ := fun σ H Q => te σ H fun x H1 => ∃ z, x = .str z ∧ z.length ≤ 5000 ∧ t σ H1 fun ys H2 => Q (z :: ys) H2
def tJoin (t : TJ) : TE := fun σ H Q => t σ H fun ys H1 => Q (.str (ys.foldl (· ++ ·) Str.empty)) H1
def rStarts : V → List V → Hp → VK → Prop := fun x vs H Q => ∃ z y, x = .str z ∧ vs = [.str y] ∧ Q (.bl (Txt.startswith z y)) H
def rFind : V → List V → Hp → VK → Prop := fun x vs H Q => ∃ z y, x = .str z ∧ vs = [.str y] ∧ Q (.int (Txt.find z y)) H
def rPartition : V → List V → Hp → VK → Prop := fun x vs H Q => ∃ z y, x = .str z ∧ vs = [.str y] ∧ (y.length == 0) = false ∧ z.length ≤ sizeLine ∧
  ∀ p, H p = none → Q (.ref p) (upd H p (.tup [.str (Txt.partition z y).1, .str (Txt.partition z y).2.1, .str (Txt.partition z y).2.2]))
def rSlS : V → Option Int → Option Int → Hp → VK → Prop := fun x lo hi H Q => ∃ z, x = .str z ∧ z.length ≤ sizeLine ∧ Q (.str (Txt.slice z lo hi)) H
def rIntText : List V → Hp → VK → Prop := fun xs H Q => ∃ z n, xs = [.str z] ∧ PySem.intText? z = some n ∧ z.length ≤ 640 ∧ Q (.int n) H
def rMulS : R2 := fun x y H Q => ∃ z n, x = .str z ∧ y = .int n ∧ MulOk z n ∧ Q (.str (Txt.mul z n)) H
def rAll (K : PySem.W.Frag) : List V → Hp → VK → Prop := fun xs H Q => ∃ (p : Addr) (bs : List Bool), xs = [.ref p] ∧ SqL K H p (bs.map V.bl) ∧ Q (.bl (bs.all id)) H
end
end Ty

set_option maxHeartbeats 4000000
namespace Ty
open PySem PySem.Spec PyProof.Rows L2 PySem.NumText
def dg (m : Nat) : List Nat := (Nat.toDigits 10 m).map Char.toNat
def tx (n : Int) : Str := Str.ofString (toString n)
def slash : Str := Str.ofString "/"
def nt (q : Int × Int) : Str := if q.2 = 1 then tx q.1 else tx q.1 ++ slash ++ tx q.2
end Ty

set_option maxHeartbeats 4000000
namespace Ty
open PySem PySem.Spec PyProof.Rows L2 PySem.NumText
structure Txk (x : Str) : Prop where
  len : x.length ≤ 400
  cod : ∀ c ∈ x.cps.toList, c < 1000
section
variable {X : Cx}
def tRep (te : TE) : TE := fun σ H Q => te σ H fun x H1 => ∃ z, x = .str z ∧ Txk z ∧ ∀ y : Str, y.length ≤ 5000 → Q (.str y) H1
def rJoinL (K : PySem.W.Frag) : V → List V → Hp → VK → Prop := fun x vs H Q => ∃ (z : Str) (p : Addr) (ys : List Str), x = .str z ∧ vs = [.ref p] ∧ SqL K H p (ys.map V.str) ∧ (ys.map (·.length)).sum + ys.length * z.length ≤ 16777216 ∧ Q (.str (Txt.join z ys)) H
end
def isStar : Expr → Bool
  | .Starred .. => true
  | _ => false
theorem star_cons {e : Expr} {es : List Expr} {env : Env} (h : isStar e = false) : starEach (e :: es) env = (false, eval e env) :: starEach es env := by
  cases e <;> first | rfl | (cases h; done)
theorem pac {X : Cx} {e : Expr} {es : List Expr} {te : TE} {t : TA} (ha : PE X e te) (hr : PA X es t) (h : isStar e = false := by rfl) : PA X (e :: es) (tCons te t) := pa_cons ha hr (star_cons h)
def writs : List Expr → Option (List Str)
  | [] => some []
  | .Constant (.str x) _ _ :: r => (writs r).map (x :: ·)
  | _ => none
def tStrs (xs : List Str) : TA := fun _ H Q => Q (xs.map V.str) H
end Ty

set_option maxHeartbeats 4000000
namespace Ty
open PySem PySem.Spec PyProof.Rows L2
section
variable {D : Addr} {te : TE} {cap : L2.St} {H1 : Hp} {Q : VK}
def KSame (D : Addr) (H H' : Hp) : Prop := ∀ b o, b ≠ D → H b = some o → H' b = some o
theorem KSame.of {H H' : Hp} (s : Same H H') : KSame D H H' := fun b o _ e => s b o e
theorem KSame.upd {H : Hp} {o : HO} : KSame D H (upd H D o) := fun b o' n e => by rw [upd_ne n]; exact e
theorem comp_gen {J : It} (n : Nat) (xs : Nat → V) (Rel : Nat → V → Hp → Prop) (nD : H1 D = none) (hn : n < sizeLine)
    (go : ∀ i H, i < n → Same H1 H → J.go i H ∧ ∀ x H', J.yld i H x H' → H' = H ∧ x = xs i) (stop : ∀ H, Same H1 H → J.stop n H)
    (hR : ∀ i v H H' ys, H D = some (.lst ys) → KSame D H H' → Rel i v H → Rel i v H')
    (he : ∀ i H (R : VK), i < n → Same H1 H → (∀ v H6, Same H H6 → Rel i v H6 → R v H6) → te (some (xs i) :: cap) H R)
    (hd : ∀ ys H, ys.length = n → (∀ i v, ys[i]? = some v → Rel i v H) → Same H1 H → H D = some (.lst ys) → Q (.ref D) H) :
    tBlk D (gName 0) tYes te J (none :: cap) H1 Q := by
  refine blk_of n xs (fun i ys H => ys.length = i ∧ (∀ i v, ys[i]? = some v → Rel i v H) ∧ Same H1 H) ⟨rfl, fun i v e => by simp at e, fun b o e => by rw [upd_ne (ne_of_none e nD)]; exact e⟩ ?_ ?_ ?_ ?_
  · rintro i ys H hi ⟨_, _, s⟩
    exact go i H hi s
  · rintro ys H ⟨_, _, s⟩
    exact stop H s
  · rintro i ys H R hi ⟨l, r, s⟩ hD k
    refine he i H R hi s fun v H6 s6 rv => k v H6 (s6 _ _ hD) (by omega) ⟨by simp [l], fun j u e => ?_, fun b o e => ?_⟩
    · by_cases c : j < ys.length
      · rw [List.getElem?_append_left c] at e
        have ru := hR j u H H6 ys hD (KSame.of s6) (r j u e)
        exact hR j u H6 _ ys (s6 _ _ hD) KSame.upd ru
      · rw [List.getElem?_append_right (by omega)] at e
        have ej : j = i := by
          by_cases z : j - ys.length = 0
          · omega
          · rw [List.getElem?_eq_none (by simp; omega)] at e
            cases e
        subst ej
        have : v = u := by
          rw [show j - ys.length = 0 by omega] at e
          exact Option.some.inj e
        subst this
        exact hR j v H6 _ ys (s6 _ _ hD) KSame.upd rv
    · rw [upd_ne (ne_of_none e nD)]
      exact s6 _ _ (s _ _ e)
  · rintro ys H ⟨l, r, s⟩ hD
    exact hd ys H l r s hD
theorem comp_list {K : PySem.W.Frag} {a : Addr} {xs : List V} (Rel : Nat → V → Hp → Prop) (nD : H1 D = none) (hn : xs.length < sizeLine) (hS : ∀ H, Same H1 H → SqL K H a xs)
    (hR : ∀ i v H H' ys, H D = some (.lst ys) → KSame D H H' → Rel i v H → Rel i v H')
    (he : ∀ i x H (R : VK), xs[i]? = some x → Same H1 H → (∀ v H6, Same H H6 → Rel i v H6 → R v H6) → te (some x :: cap) H R)
    (hd : ∀ ys H, ys.length = xs.length → (∀ i v, ys[i]? = some v → Rel i v H) → Same H1 H → H D = some (.lst ys) → Q (.ref D) H) :
    tBlk D (gName 0) tYes te (Itl K a) (none :: cap) H1 Q := by
  refine comp_gen xs.length (fun i => (xs[i]?).getD .non) Rel nD hn (fun i H hi s => ⟨⟨xs, xs[i], hS H s, List.getElem?_eq_getElem hi⟩, fun x H' y => ⟨y.1, ?_⟩⟩) (fun H s => ⟨xs, hS H s, Nat.le_refl _⟩) hR (fun i H R hi s k => ?_) hd
  · rw [y.2 xs (hS H s)]; rfl
  · have e : xs[i]? = some xs[i] := List.getElem?_eq_getElem hi
    have k' := he i _ H R e s k
    rw [← (show (xs[i]?).getD .non = xs[i] by rw [e]; rfl)] at k'
    exact k'
theorem comp_range {lo : Int} {n : Nat} (Rel : Nat → V → Hp → Prop) (nD : H1 D = none) (hn : n < sizeLine)
    (hR : ∀ i v H H' ys, H D = some (.lst ys) → KSame D H H' → Rel i v H → Rel i v H')
    (he : ∀ (i : Nat) H (R : VK), i < n → Same H1 H → (∀ v H6, Same H H6 → Rel i v H6 → R v H6) → te (some (.int (lo + i)) :: cap) H R)
    (hd : ∀ ys H, ys.length = n → (∀ i v, ys[i]? = some v → Rel i v H) → Same H1 H → H D = some (.lst ys) → Q (.ref D) H) :
    tBlk D (gName 0) tYes te (Itr lo n) (none :: cap) H1 Q :=
  comp_gen n (fun i => .int (lo + i)) Rel nD hn (fun i H hi s => ⟨hi, fun x H' y => y⟩) (fun H s => Nat.le_refl n) hR he hd
end
end Ty

set_option maxHeartbeats 4000000
namespace Ty
open PySem PySem.Spec PyProof.Rows L2
section
variable {X : Cx} {pins : List (Addr × Obj)} {σ : L2.St} {H : Hp} {s : Shared} {h' : Heap}
theorem Inv.turnedL {t' : Nat} {fp : List Addr} (I : Inv X pins σ H s) (k : ∀ b o, b ∉ fp → s.heap.get? b = some o → h'.get? b = some o) (hf : ∀ b ∈ fp, FpOk X pins H b) : Inv X pins σ H { s with heap := h', toks := t' } := by
  have nit : ∀ b u, H b = some u → b ∉ fp := fun b u e z => by rw [(hf b z).1] at e; cases e
  refine I.step (g' := s.gens) (d' := s.drawn) (ch := fp) (fun b hb => ?_) (fun b o _ _ hc e _ => k b o hc e) (fun b o _ _ hc e _ => ⟨o.slots, k b o hc e⟩) (fun _ _ _ _ n => n)
    (fun b o hc e => ⟨o, k b o hc e⟩) (fun _ _ e => e) (fun _ _ _ e => e) (fun b ps e => ⟨#[], by rw [e]; simp⟩) (fun m hm => ?_) (fun b u e => ?_) I.bare
  · obtain ⟨f0, f1, f2, f3, f4, f5⟩ := hf b hb
    exact ⟨f3, f1, f4, f5⟩
  · obtain ⟨o, es, ep, ho, r⟩ := hm
    exact ⟨o, es, ep, k _ o (fun z => (hf _ z).2.1 rfl) ho, r⟩
  · refine (I.hok b u e).stay (fun c v hc q => k c v ?_ q) (fun _ q => q) fun _ _ q => q
    rcases hc with z | z
    · rw [z]; exact nit b u e
    · exact nit c _ z
theorem Inv.turnedT {t' : Nat} {fp : List Addr} {T : Addr} {xs : List V} {its : List Value} (I : Inv X pins σ H s) (k : ∀ b o, b ∉ fp → s.heap.get? b = some o → h'.get? b = some o) (hf : ∀ b ∈ fp, FpOk X pins H b) (hT : s.heap.objs.size ≤ T)
    (hz : xs.length ≤ sizeLine) (rv : Vals xs its) (ht : IsTup h' T its.toArray) : Inv X pins σ (upd H T (.tup xs)) { s with heap := h', toks := t' } := by
  have hn := I.hok.fresh hT
  have nit : ∀ b u, H b = some u → b ∉ fp := fun b u e z => by rw [(hf b z).1] at e; cases e
  have ne : ∀ b o, s.heap.get? b = some o → b ≠ T := fun b o e => Nat.ne_of_lt (Nat.lt_of_lt_of_le (Heap.lt_size e) hT)
  refine I.step (g' := s.gens) (d' := s.drawn) (ch := fp) (fun b hb => ?_) (fun b o _ _ hc e _ => k b o hc e) (fun b o _ _ hc e _ => ⟨o.slots, k b o hc e⟩) (fun b o _ e n => by rw [upd_ne (ne b o e)]; exact n)
    (fun b o hc e => ⟨o, k b o hc e⟩) (fun b ys e => by rw [upd_ne (ne_of_none e hn)]; exact e) (fun b o u e => by rw [upd_ne (ne_of_none e hn)]; exact e) (fun b ps e => ⟨#[], by rw [upd_ne (ne_of_none e hn), e]; simp⟩) (fun m hm => ?_) (fun b u e => ?_) I.bare
  · obtain ⟨f0, f1, f2, f3, f4, f5⟩ := hf b hb
    exact ⟨f3, f1, f4, f5⟩
  · obtain ⟨o, es, ep, ho, r⟩ := hm
    exact ⟨o, es, ep, k _ o (fun z => (hf _ z).2.1 rfl) ho, r⟩
  · by_cases hb : b = T
    · subst hb
      rw [upd_same] at e
      cases e
      exact ⟨hz, its, rv, ht⟩
    · rw [upd_ne hb] at e
      refine (I.hok b u e).stay (fun c v hc q => k c v ?_ q) (fun c q => by rw [upd_ne (ne_of_none q hn)]; exact q) fun c ys q => by rw [upd_ne (ne_of_none q hn)]; exact q
      rcases hc with z | z
      · rw [z]; exact nit b u e
      · exact nit c _ z
end
def Itz (K : PySem.W.Frag) (a b : Addr) : It :=
  ⟨fun i H => ∃ xs ys x y, SqL K H a xs ∧ SqL K H b ys ∧ xs[i]? = some x ∧ ys[i]? = some y,
   fun i H v H' => ∃ p x y, (∀ xs, SqL K H a xs → xs[i]? = some x) ∧ (∀ ys, SqL K H b ys → ys[i]? = some y) ∧ v = .ref p ∧ H p = none ∧ H' = upd H p (.tup [x, y]),
   fun i H => ∃ xs ys, SqL K H a xs ∧ SqL K H b ys ∧ (xs.length ≤ i ∨ ys.length ≤ i)⟩
theorem turn_zip {P : Program} {w : World} {K : PySem.W.Frag} {es : List Expr} {k : Nat} {pos : Pos} (a b z TI TO i1 i2 : Addr) (D : ZipApart z TI TO i1 i2 a b) :
    Turn P w K (.Tuple es k pos) (Itz K a b) [z, TI, TO, i1, i2] z (fun i h => IsZip h z TI TO .none ∧ IsPair h TI (.ref i1) (.ref i2) ∧ (∃ x y, IsPair h TO x y) ∧ h.IsListIter i1 a i ∧ h.IsListIter i2 b i) where
  mem := by simp
  obj := fun i h st c hc => by
    obtain ⟨hz, hTI, ⟨x, y, hTO⟩, ⟨o1, e1, c1, d1⟩, ⟨o2, e2, c2, d2⟩⟩ := st
    have hc' : c = z ∨ c = TI ∨ c = TO ∨ c = i1 ∨ c = i2 := by simpa using hc
    rcases hc' with e | e | e | e | e <;> subst e
    · exact ⟨_, hz, fun v z => by cases z⟩
    · exact ⟨_, hTI, fun v z => by cases z⟩
    · exact ⟨_, hTO, fun v z => by cases z⟩
    · exact ⟨_, e1, fun v z => by rw [d1] at z; cases z⟩
    · exact ⟨_, e2, fun v z => by rw [d2] at z; cases z⟩
  keep := fun i h h' st k => by
    obtain ⟨hz, hTI, ⟨x, y, hTO⟩, h1, h2⟩ := st
    exact ⟨k z (by simp) _ hz, k TI (by simp) _ hTI, ⟨x, y, k TO (by simp) _ hTO⟩, h1.at fun o e => k i1 (by simp) o e, h2.at fun o e => k i2 (by simp) o e⟩
  item := by
    intro X hP hw hK hc i pins s σ H E I hf st hg
    subst hP hw hK
    obtain ⟨hz, hTI, ⟨x0, y0, hTO⟩, h1, h2⟩ := st
    obtain ⟨xs, ys, x, y, qx, qy, ex, ey⟩ := hg
    obtain ⟨its, rv, p, _⟩ := I.list qx
    obtain ⟨jts, rw', p', _⟩ := I.list qy
    obtain ⟨u, hu, ru⟩ := rv.get ex
    obtain ⟨v, hv, rv'⟩ := rw'.get ey
    refine wpAny_pyNext_zip_item D hz hTI hTO h1 h2 p.isList p'.isList (x := u) (y := v) (by simpa using hu) (by simpa using hv) fun h' a1 a2 a3 a4 a5 a6 a7 => ?_
    refine ⟨_, rfl, wpAny_letOwnedTupleGo_zip (s := { s with heap := h' }) a1 fun h'' b1 sb => ?_⟩
    have nz : ∀ c, c ≠ z → ∀ o, h'.get? c = some o → h''.get? c = some o := fun c hc o e => (sb.2 c hc).trans e
    have kk : ∀ b o, b ∉ [z, TI, TO, i1, i2] → s.heap.get? b = some o → h''.get? b = some o := fun b o hb e => by
      have hb' : b ≠ z ∧ b ≠ TI ∧ b ≠ TO ∧ b ≠ i1 ∧ b ≠ i2 := by simpa using hb
      exact nz b hb'.1 o (a7 b o hb'.1 hb'.2.2.1 hb'.2.2.2.1 hb'.2.2.2.2 e)
    have sz : ∀ c o, s.heap.get? c = some o → s.heap.objs.size ≠ c := fun c o e => Nat.ne_of_gt (Heap.lt_size e)
    have tz : s.heap.objs.size ≠ z := sz _ _ hz
    have hn := I.hok.fresh (Nat.le_refl s.heap.objs.size)
    have I2 : Inv X pins σ (upd H s.heap.objs.size (.tup [x, y])) { s with heap := h'', toks := s.toks } :=
      Inv.turnedT I kk hf (Nat.le_refl _) (by show 2 ≤ sizeLine; decide) (its := [u, v]) (.cons ru (.cons rv' .nil)) ⟨_, nz _ tz _ a5, rfl, _, rfl⟩
    refine ⟨.ref s.heap.objs.size, _, I2, rfl, ⟨s.heap.objs.size, x, y, fun xs' q => by rw [I.list_inj q qx]; exact ex, fun ys' q => by rw [I.list_inj q qy]; exact ey, rfl, hn, rfl⟩, ⟨b1, nz _ D.TIz _ (a7 _ _ D.TIz D.TITO D.TIi1 D.TIi2 hTI), ⟨_, _, nz _ D.TOz _ a2⟩, a3.at fun o e => nz _ D.i1z o e, a4.at fun o e => nz _ D.i2z o e⟩, fun b hb => ?_⟩
    have ob : ∃ o, s.heap.get? b = some o := by
      obtain ⟨o1, e1, _⟩ := h1
      obtain ⟨o2, e2, _⟩ := h2
      have hc' : b = z ∨ b = TI ∨ b = TO ∨ b = i1 ∨ b = i2 := by simpa using hb
      rcases hc' with e | e | e | e | e <;> subst e
      · exact ⟨_, hz⟩
      · exact ⟨_, hTI⟩
      · exact ⟨_, hTO⟩
      · exact ⟨_, e1⟩
      · exact ⟨_, e2⟩
    obtain ⟨o, e⟩ := ob
    rw [upd_ne (Ne.symm (sz _ _ e))]
    exact (hf b hb).1
  done := by
    intro X hP hw hK hc i pins s σ H E I hf st hg
    subst hP hw hK
    obtain ⟨hz, hTI, ⟨x0, y0, hTO⟩, h1, h2⟩ := st
    obtain ⟨xs, ys, qx, qy, ee⟩ := hg
    obtain ⟨its, rv, p, _⟩ := I.list qx
    obtain ⟨jts, rw', p', _⟩ := I.list qy
    have l1 := rv.length
    have l2 := rw'.length
    refine wpAny_pyNext_zip_end (I.ok.hd hc) D hz hTI hTO h1 h2 p.isList p'.isList ?_ fun h' kk => ⟨rfl, Inv.turnedL I (fun b o hb e => ?_) hf⟩
    · rcases ee with e | e
      · exact .inl (by simp; omega)
      · exact .inr (by simp; omega)
    · have hb' : b ≠ z ∧ b ≠ TI ∧ b ≠ TO ∧ b ≠ i1 ∧ b ≠ i2 := by simpa using hb
      exact kk b o hb'.1 hb'.2.2.1 hb'.2.2.2.1 hb'.2.2.2.2 e
  self := fun _ _ _ _ _ st h => wpAny_pyIter_zip st.1 h
theorem boot_zip : bootBuiltins "zip" = some (.type "zip") := by decide +kernel
section
variable {X : Cx}
def iZip (K : PySem.W.Frag) (ta : TA) : TI := fun σ H R => ta σ H fun vs H1 => ∃ a b, vs = [.ref a, .ref b] ∧ (∃ xs, SqL K H1 a xs) ∧ (∃ ys, SqL K H1 b ys) ∧ R (Itz K a b) H1
theorem pi_zip {e1 e2 : Expr} {ta : TA} {p pos : Pos} {es : List Expr} {k : Nat} {tpos : Pos} (hg : Gl X "zip") (hm : X.mg "zip" = none) (ha : PA X [e1, e2] ta) (hs : starEach [e1, e2] X.env = [(false, eval e1 X.env), (false, eval e2 X.env)] := by rfl) (hs2 : starEach [e2] X.env = [(false, eval e2 X.env)] := by rfl) :
    PI X (.Tuple es k tpos) (.Call (.Name "zip" p) [e1, e2] [] pos) (iZip X.K ta) := by
  intro pins s σ H R I h
  refine Call_ (ld_blt I hg hm boot_zip (PyProof.Rows.callWith_type1 (thn (ha pos pins s σ H _ I h) fun us s1 ⟨vs, H1, I1, r1, q1⟩ => ?_) (by rw [hs, hs2]) (by rw [hs2]; rfl)))
  obtain ⟨a, b, e, ⟨xs, hx⟩, ⟨ys, hy⟩, q⟩ := q1
  subst e
  cases r1 with
  | cons r rr =>
    cases rr with
    | cons r' rr =>
      cases rr
      cases r
      cases r'
      obtain ⟨its, rv, pl, _⟩ := I1.list hx
      obtain ⟨jts, rw', pl', _⟩ := I1.list hy
      have lt1 : a < s1.heap.objs.size := by obtain ⟨o, ho, _⟩ := pl.isList; exact Heap.lt_size ho
      have lt2 : b < s1.heap.objs.size := by obtain ⟨o, ho, _⟩ := pl'.isList; exact Heap.lt_size ho
      refine call_zip_2 pl.isList pl'.isList fun h' hz hTI hTO hi1 hi2 hsz hk => wpAny_pyIter_zip (s := { s1 with heap := h' }) hz ?_
      refine ⟨s1.heap.objs.size + 4, [s1.heap.objs.size + 4, s1.heap.objs.size + 2, s1.heap.objs.size + 3, s1.heap.objs.size, s1.heap.objs.size + 1], _, _, H1, rfl, I1.kept (t' := s1.toks) hk, turn_zip a b _ _ _ _ _ ?_, ⟨hz, hTI, ⟨_, _, hTO⟩, hi1, hi2⟩, fun c hc => ?_, q⟩
      · constructor <;> (intro z; simp only [Addr] at *; omega)
      · have hc' : s1.heap.objs.size ≤ c := by
          have : c = s1.heap.objs.size + 4 ∨ c = s1.heap.objs.size + 2 ∨ c = s1.heap.objs.size + 3 ∨ c = s1.heap.objs.size ∨ c = s1.heap.objs.size + 1 := by simpa using hc
          simp only [Addr] at *
          omega
        exact I1.fpOk hc' (I1.hok.fresh hc')
def rSum (K : PySem.W.Frag) : List V → Hp → VK → Prop := fun xs H Q => ∃ (p : Addr) (ns : List Int), xs = [.ref p] ∧ SqL K H p (ns.map V.int) ∧ Q (.int ns.sum) H
def rListL (K : PySem.W.Frag) : List V → Hp → VK → Prop := fun xs H Q => ∃ (p : Addr) (ys : List V), xs = [.ref p] ∧ SqL K H p ys ∧ ∀ l, H l = none → Q (.ref l) (upd H l (.lst ys))
end
section
variable {X : Cx} {K : PySem.W.Frag}
theorem ix_tupK (h : X.K = K) : IxR X (rIxT K) := by subst h; exact ix_tup
theorem ix_listK (h : X.K = K) : IxR X (rIxL K) := by subst h; exact ix_list
theorem call_len_seqK (h : X.K = K) : CallR X (.builtin "len") (fun xs H Q => ∃ p ys, xs = [.ref p] ∧ (SqL K H p ys ∨ SqT K H p ys) ∧ Q (.int ys.length) H) := by subst h; exact call_len_seq
theorem pg_tupK {es : List Expr} {k : Nat} {t : TGs} {n : Nat} {pos : Pos} (hK : X.K = K) (hc : X.calm = true) (h : PGs X es t)
    (hn : (assignEach es X.env).length = n := by rfl) (hst : (assignEach es X.env).findIdx? (·.1) = none := by rfl) : PG X (.Tuple es k pos) (gTup K n t) := by subst hK; exact pg_tup hc h hn hst
end
section
variable {D : Addr} {te : TE} {cap : L2.St} {H1 : Hp} {Q : VK}
theorem comp_zip {K : PySem.W.Frag} {a b : Addr} {xs ys : List V} (Rel : Nat → V → Hp → Prop) (nD : H1 D = none) (hn : xs.length < sizeLine) (hl : ys.length = xs.length) (hX : ∀ H, Same H1 H → SqL K H a xs) (hY : ∀ H, Same H1 H → SqL K H b ys)
    (hR : ∀ i v H H' ys, H D = some (.lst ys) → KSame D H H' → Rel i v H → Rel i v H')
    (he : ∀ i x y H (R : VK), xs[i]? = some x → ys[i]? = some y → Same H1 H → (∀ v H6, Same H H6 → Rel i v H6 → R v H6) → te (some x :: some y :: cap) H R)
    (hd : ∀ zs H, zs.length = xs.length → (∀ i v, zs[i]? = some v → Rel i v H) → Same H1 H → H D = some (.lst zs) → Q (.ref D) H) :
    tBlk D (gTup K 2 (gCons (gName 0) (gCons (gName 1) gNil))) tYes te (Itz K a b) (none :: none :: cap) H1 Q := by
  refine ⟨fun i m σ zs H => m = xs.length - i ∧ i ≤ xs.length ∧ (∃ o o', σ = o :: o' :: cap) ∧ (zs.length = i ∧ (∀ i v, zs[i]? = some v → Rel i v H) ∧ Same H1 H) ∧ H D = some (.lst zs), ⟨xs.length, by simp, Nat.zero_le _, ⟨none, none, rfl⟩, ⟨rfl, fun i v e => by simp at e, fun b o e => by rw [upd_ne (ne_of_none e nD)]; exact e⟩, upd_same⟩, ?_⟩
  rintro i m σ zs H ⟨rfl, hi, ⟨o, o', rfl⟩, ⟨l, r, s⟩, hD⟩
  by_cases hlt : i < xs.length
  · have e1 : xs[i]? = some xs[i] := List.getElem?_eq_getElem hlt
    have e2 : ys[i]? = some (ys[i]'(by omega)) := List.getElem?_eq_getElem (by omega)
    refine .inr ⟨⟨xs, ys, _, _, hX H s, hY H s, e1, e2⟩, fun v H' y => ?_⟩
    obtain ⟨p, x, y, q1, q2, rfl, np, rfl⟩ := y
    have e1 := q1 xs (hX H s)
    have e2 := q2 ys (hY H s)
    have sp : Same H (upd H p (.tup [x, y])) := fun b o e => by rw [upd_ne (ne_of_none e np)]; exact e
    refine ⟨p, _, rfl, SqT.of upd_same, rfl, _, _, rfl, _, _, rfl, rfl, ?_⟩
    unfold tYes
    dsimp only
    rw [if_pos rfl]
    refine he i x y _ _ e1 e2 (fun b o e => sp _ _ (s _ _ e)) fun v H6 s6 rv => ⟨s6 _ _ (sp _ _ hD), by omega, xs.length - (i + 1), by omega, rfl, by omega, ⟨_, _, rfl⟩, ⟨by simp [l], fun j u e => ?_, fun b o e => ?_⟩, upd_same⟩
    · by_cases c : j < zs.length
      · rw [List.getElem?_append_left c] at e
        have ru := hR j u H H6 zs hD (KSame.of fun b o q => s6 _ _ (sp _ _ q)) (r j u e)
        exact hR j u H6 _ zs (s6 _ _ (sp _ _ hD)) KSame.upd ru
      · rw [List.getElem?_append_right (by omega)] at e
        have ej : j = i := by
          by_cases z : j - zs.length = 0
          · omega
          · rw [List.getElem?_eq_none (by simp; omega)] at e
            cases e
        subst ej
        have : v = u := by
          rw [show j - zs.length = 0 by omega] at e
          exact Option.some.inj e
        subst this
        exact hR j v H6 _ zs (s6 _ _ (sp _ _ hD)) KSame.upd rv
    · rw [upd_ne (ne_of_none e nD)]
      exact s6 _ _ (sp _ _ (s _ _ e))
  · have e : i = xs.length := by omega
    subst e
    exact .inl ⟨⟨xs, ys, hX H s, hY H s, .inl (Nat.le_refl _)⟩, hd zs H l r s hD⟩
end
end Ty

set_option maxHeartbeats 4000000
namespace Ty
open PySem PySem.Spec PyProof.Rows L2
open Builtin.Int (intBits)
def vl (q : Int × Int) : Rat := (q.1 : Rat) / (q.2 : Rat)
structure Sm (T B : Nat) (q : Int × Int) : Prop where
  pos : 0 < q.2
  low : Int.gcd q.1 q.2 = 1
  top : q.1.natAbs ≤ 2 ^ T
  bot : q.2.natAbs ≤ 2 ^ B
theorem ratne {b : Int} (h : b ≠ 0) : (b : Rat) ≠ 0 := by simpa using h
theorem vl_low {t b : Int} (h : b ≠ 0) : vl (low t b) = (t : Rat) / (b : Rat) := by
  have c := low_cross (t := t) h
  have p := low_pos (t := t) h
  have h1 := ratne h
  have h2 := ratne (b := (low t b).2) (by omega)
  have c' : ((low t b).1 : Rat) * b = t * (low t b).2 := by exact_mod_cast c
  unfold vl
  grind
theorem cast_fdiv {b d : Int} (hd : d ≠ 0) (h : d ∣ b) : ((b.fdiv d : Int) : Rat) = (b : Rat) / d := by
  have e := fdiv_of_dvd hd h
  have h1 := ratne hd
  have : (b : Rat) = d * (b.fdiv d : Int) := by exact_mod_cast e
  grind
def dotZ (xs ys : List Int) : Int := (List.zipWith (fun a b => a * b) xs ys).sum
def dotQ (xs ys : List (Int × Int)) : Rat := (List.zipWith (fun a b => vl a * vl b) xs ys).sum
theorem dotQ_cons {x y : Int × Int} {xs ys : List (Int × Int)} : dotQ (x :: xs) (y :: ys) = vl x * vl y + dotQ xs ys := by simp [dotQ]
def Whole (ts : List Int) (qs : List (Int × Int)) (b : Int) : Prop := ts.length = qs.length ∧ ∀ (i : Nat) (t : Int) (q : Int × Int), ts[i]? = some t → qs[i]? = some q → (t : Rat) = vl q * b
theorem Whole.tail {t : Int} {ts : List Int} {q : Int × Int} {qs : List (Int × Int)} {b : Int} (h : Whole (t :: ts) (q :: qs) b) : Whole ts qs b := ⟨by simpa using h.1, fun i t' q' e1 e2 => h.2 (i + 1) t' q' (by simpa using e1) (by simpa using e2)⟩
theorem pw_mul {a b : Int} {m n : Nat} (h1 : a.natAbs ≤ 2 ^ m) (h2 : b.natAbs ≤ 2 ^ n) : (a * b).natAbs ≤ 2 ^ (m + n) := by
  rw [Int.natAbs_mul, Nat.pow_add]
  exact Nat.mul_le_mul h1 h2
theorem pw_add {a b : Int} {m : Nat} (h1 : a.natAbs ≤ 2 ^ m) (h2 : b.natAbs ≤ 2 ^ m) : (a + b).natAbs ≤ 2 ^ (m + 1) := by
  have := Int.natAbs_add_le a b
  rw [Nat.pow_succ]
  omega
theorem pw_up {a : Int} {m n : Nat} (h : a.natAbs ≤ 2 ^ m) (hm : m ≤ n) : a.natAbs ≤ 2 ^ n := Nat.le_trans h (Nat.pow_le_pow_right (by decide) hm)
theorem pw_bits {a : Int} {m n : Nat} (h : a.natAbs ≤ 2 ^ m) (hm : m < n) : intBits a ≤ n := intBits_le_iff.mpr (Nat.lt_of_le_of_lt h (Nat.pow_lt_pow_right (by decide) hm))
theorem pw_cmul {a b : Int} {m n : Nat} (h1 : a.natAbs ≤ 2 ^ m) (h2 : b.natAbs ≤ 2 ^ n) (hm : m < 30000000) (hn : n < 30000000) : CMulB a b := ⟨Nat.le_trans (pw_bits h1 hm) (by decide), Nat.le_trans (pw_bits h2 hn) (by decide)⟩
theorem Sm.up {T B T' B' : Nat} {q : Int × Int} (h : Sm T B q) (hT : T ≤ T') (hB : B ≤ B') : Sm T' B' q := ⟨h.pos, h.low, pw_up h.top hT, pw_up h.bot hB⟩
theorem lcm_step {b d : Int} (hb : 0 < b) (hd : 0 < d) : 0 < b.fdiv (gz b d) * d ∧ b ∣ b.fdiv (gz b d) * d ∧ d ∣ b.fdiv (gz b d) * d ∧ (b.fdiv (gz b d) * d).natAbs ≤ b.natAbs * d.natAbs := by
  have gp := gz_pos (t := b) (b := d) (by omega)
  have g1 : gz b d ∣ b := Int.gcd_dvd_left ..
  have g2 : gz b d ∣ d := Int.gcd_dvd_right ..
  have e1 := fdiv_of_dvd (g := gz b d) (by omega) g1
  have e2 := fdiv_of_dvd (g := gz b d) (by omega) g2
  generalize gz b d = g at *
  have p1 : 0 < b.fdiv g := by
    rcases Int.lt_trichotomy (b.fdiv g) 0 with z | z | z
    · exfalso
      have := Int.mul_neg_of_pos_of_neg gp z
      omega
    · rw [z] at e1; omega
    · exact z
  refine ⟨Int.mul_pos p1 hd, ⟨d.fdiv g, ?_⟩, ⟨b.fdiv g, Int.mul_comm ..⟩, ?_⟩
  · have : b.fdiv g * d = b.fdiv g * (g * d.fdiv g) := by rw [← e2]
    rw [this]
    have h3 : b * d.fdiv g = g * b.fdiv g * d.fdiv g := by rw [← e1]
    rw [h3]
    rw [← Int.mul_assoc, Int.mul_comm (b.fdiv g) g]
  · rw [Int.natAbs_mul]
    exact Nat.mul_le_mul_right _ (by
      have := natAbs_factor (g := g) (a := b.fdiv g) (by omega)
      rw [← e1] at this
      exact this)
theorem whole_one {q : Int × Int} {b : Int} (hq : 0 < q.2) (h : q.2 ∣ b) : ((q.1 * b.fdiv q.2 : Int) : Rat) = vl q * b := by
  have e := cast_fdiv (b := b) (d := q.2) (by omega) h
  have : ((q.1 * b.fdiv q.2 : Int) : Rat) = q.1 * ((b.fdiv q.2 : Int) : Rat) := by push_cast; rfl
  rw [this, e]
  unfold vl
  grind
theorem fdiv_size {b d : Int} (hd : d ≠ 0) (h : d ∣ b) : (b.fdiv d).natAbs ≤ b.natAbs := by
  have := natAbs_factor (g := d) (a := b.fdiv d) hd
  rw [← fdiv_of_dvd hd h] at this
  exact this
end Ty

set_option maxHeartbeats 4000000
namespace Ty
open PySem PySem.Spec PyProof.Rows L2
section
variable {D : Addr} {te : TE} {cap : L2.St} {H1 : Hp} {Q : VK}
theorem comp_genD {J : It} (n : Nat) (xs : Nat → V) (Rel : Nat → V → Hp → Prop) (nD : H1 D = none) (hn : n < sizeLine)
    (go : ∀ i H, i < n → Same H1 H → J.go i H ∧ ∀ x H', J.yld i H x H' → H' = H ∧ x = xs i) (stop : ∀ H, Same H1 H → J.stop n H)
    (hR : ∀ i v H H' ys, H D = some (.lst ys) → KSame D H H' → Rel i v H → Rel i v H')
    (he : ∀ i H (R : VK), i < n → Same H1 H → (∃ ys, H D = some (.lst ys)) → (∀ v H6, Same H H6 → Rel i v H6 → R v H6) → te (some (xs i) :: cap) H R)
    (hd : ∀ ys H, ys.length = n → (∀ i v, ys[i]? = some v → Rel i v H) → Same H1 H → H D = some (.lst ys) → Q (.ref D) H) :
    tBlk D (gName 0) tYes te J (none :: cap) H1 Q := by
  refine blk_of n xs (fun i ys H => ys.length = i ∧ (∀ i v, ys[i]? = some v → Rel i v H) ∧ Same H1 H) ⟨rfl, fun i v e => by simp at e, fun b o e => by rw [upd_ne (ne_of_none e nD)]; exact e⟩ ?_ ?_ ?_ ?_
  · rintro i ys H hi ⟨_, _, s⟩
    exact go i H hi s
  · rintro ys H ⟨_, _, s⟩
    exact stop H s
  · rintro i ys H R hi ⟨l, r, s⟩ hD k
    refine he i H R hi s ⟨_, hD⟩ fun v H6 s6 rv => k v H6 (s6 _ _ hD) (by omega) ⟨by simp [l], fun j u e => ?_, fun b o e => ?_⟩
    · by_cases c : j < ys.length
      · rw [List.getElem?_append_left c] at e
        have ru := hR j u H H6 ys hD (KSame.of s6) (r j u e)
        exact hR j u H6 _ ys (s6 _ _ hD) KSame.upd ru
      · rw [List.getElem?_append_right (by omega)] at e
        have ej : j = i := by
          by_cases z : j - ys.length = 0
          · omega
          · rw [List.getElem?_eq_none (by simp; omega)] at e
            cases e
        subst ej
        have : v = u := by
          rw [show j - ys.length = 0 by omega] at e
          exact Option.some.inj e
        subst this
        exact hR j v H6 _ ys (s6 _ _ hD) KSame.upd rv
    · rw [upd_ne (ne_of_none e nD)]
      exact s6 _ _ (s _ _ e)
  · rintro ys H ⟨l, r, s⟩ hD
    exact hd ys H l r s hD
theorem comp_listD {K : PySem.W.Frag} {a : Addr} {xs : List V} (Rel : Nat → V → Hp → Prop) (nD : H1 D = none) (hn : xs.length < sizeLine) (hS : ∀ H, Same H1 H → SqL K H a xs)
    (hR : ∀ i v H H' ys, H D = some (.lst ys) → KSame D H H' → Rel i v H → Rel i v H')
    (he : ∀ i x H (R : VK), xs[i]? = some x → Same H1 H → (∃ ys, H D = some (.lst ys)) → (∀ v H6, Same H H6 → Rel i v H6 → R v H6) → te (some x :: cap) H R)
    (hd : ∀ ys H, ys.length = xs.length → (∀ i v, ys[i]? = some v → Rel i v H) → Same H1 H → H D = some (.lst ys) → Q (.ref D) H) :
    tBlk D (gName 0) tYes te (Itl K a) (none :: cap) H1 Q := by
  refine comp_genD xs.length (fun i => (xs[i]?).getD .non) Rel nD hn (fun i H hi s => ⟨⟨xs, xs[i], hS H s, List.getElem?_eq_getElem hi⟩, fun x H' y => ⟨y.1, ?_⟩⟩) (fun H s => ⟨xs, hS H s, Nat.le_refl _⟩) hR (fun i H R hi s dd k => ?_) hd
  · rw [y.2 xs (hS H s)]; rfl
  · have e : xs[i]? = some xs[i] := List.getElem?_eq_getElem hi
    have k' := he i _ H R e s dd k
    rw [← (show (xs[i]?).getD .non = xs[i] by rw [e]; rfl)] at k'
    exact k'
end
theorem look1 {x y : Str} {c c0 : Addr} {cl : List (Str × Addr)} (h : ((y, c0) :: cl).lookup x = some c) : (x = y ∧ c = c0) ∨ (x ≠ y ∧ cl.lookup x = some c) := by
  rw [List.lookup_cons] at h
  cases e : x == y with
  | true =>
    rw [e] at h
    exact .inl ⟨by simpa using e, (Option.some.inj h).symm⟩
  | false =>
    rw [e] at h
    exact .inr ⟨by simpa using e, h⟩
theorem newEnv1 {M : Model} {A : Around} {E : Value → Shared → Prop} {s : Shared} {scope : Scope} {globals : Addr} {cl : List (Str × Addr)} {y : Str} {qual : Str} {outer : Env} {Q : Env → Shared → Prop}
    (hc : ∀ n acc, cellsFrom n scope.names acc = (y, n) :: acc) (hp : ∀ h, pushCells h scope.names = h.push { cls := .type "cell", data := .cell none })
    (hQ : ∀ h', h'.Ns s.heap.objs.size (fun _ => none) → (∀ b o, s.heap.get? b = some o → h'.get? b = some o) → h'.IsCell (s.heap.objs.size + 1) none →
      Q (newEnv scope s.heap.objs.size globals ((y, s.heap.objs.size + 1) :: cl) qual none .none (some outer) builtinsNs) { s with heap := h', toks := s.toks + ([] : List (Str × Value)).length }) :
    wpAny M A (newFunctionEnv scope globals cl [] qual none .none (some outer)) Q E s := by
  simp only [newFunctionEnv, Option.isSome_some, if_true]
  refine wpAny_bind (wpAny_alloc ?_)
  refine wpAny_bind (wpAny_layCells _ (fun name kind cells => by cases hkc : kind == NameKind.cell <;> simp [hkc]) _ _ _ _ ?_)
  rw [show ({ s with heap := s.heap.push { cls := .type "dict", data := .dict #[] } } : Shared).heap.objs.size = s.heap.objs.size + 1 from Heap.size_push .., hc, hp]
  rw [List.forIn_nil]
  refine wpAny_bind (wpAny_pure (wpAny_pure ?_))
  refine hQ _ ((Heap.Ns.new s.heap (.type "dict")).keeps fun b o e => Heap.get?_push_of_some _ e) (fun b o e => Heap.get?_push_of_some _ (Heap.get?_push_of_some _ e)) ?_
  have := Heap.get?_push_size (s.heap.push { cls := .type "dict", data := .dict #[] }) (o := { cls := .type "cell", data := .cell none }) rfl
  rw [Heap.size_push] at this
  exact ⟨_, this, rfl⟩
section
variable {X : Cx}
theorem pi_listK {K : PySem.W.Frag} {tg l : Expr} {tl : TE} (h : X.K = K) (hl : PE X l tl) : PI X tg l (iList K tl) := by subst h; exact pi_list hl
def cxB1 (X : Cx) (NB : List Str) (scope : Scope) (y : Str) (cl : List (Str × Addr)) (C : Addr) (s : Shared) (H : Hp) (fp : List Addr) : Cx :=
  { prog := X.prog, w := X.w, K := X.K, mg := X.mg, base := X.base, A := X.A, N := NB, s₀ := s, H₀ := H, env := compEnvC scope ((y, C + 1) :: cl) C X.env, outer := X.stack, stack := X.stack, ex := fp, fn := fun x => x == y, calm := X.calm, pn := [], xe := fun _ _ => False }
structure Blk1 (X : Cx) (scope : Scope) (y : Str) (fr : List Str) (caps : List Nat) : Prop where
  clos : closureFor scope X.env = pure (capCl X.env fr)
  kind : scope.kind = .function
  names : ∀ y ∈ scope.names, y.2 = .local → scope.names.lookup y.1 = some .local
  free : ∀ y ∈ scope.names, y.2 = .free → y.1 ∈ fr
  caps : caps.map (fun i => X.N[i]?) = fr.map some
  out : AllCap X.env fr
  inn : AllCap (compEnvC scope [] 0 X.env) fr
  cells1 : ∀ n acc, cellsFrom n scope.names acc = (y, n) :: acc
  push1 : ∀ h, pushCells h scope.names = h.push { cls := .type "cell", data := .cell none }
  only : ∀ z ∈ scope.names, z.2 = .cell → z.1 = y
  ny : y ∉ fr
theorem comp_block1 {y : Str} {elt target iter : Expr} {ifs : List Expr} {scope : Scope} {pos : Pos} {tn fr : List Str} {caps : List Nat} {g : TG} {tt : TT} {te : TE} {pins : List (Addr × Obj)} {σ : L2.St} {H2 : Hp} {s2 : Shared} {J : It} {fp : List Addr} {it : Addr}
    {tnn : Nat → Heap → Prop} {Q : VK} {RR : Value → Addr → Result → Shared → Prop} {E : Value → Shared → Prop} (hc : X.calm = true) (B : Blk1 X scope y fr caps)
    (hg : ∀ C s H fp, PG (cxB1 X (tn ++ fr) scope y (capCl X.env fr) C s H fp) target g) (ht : ∀ C s H fp, PF (cxB1 X (tn ++ fr) scope y (capCl X.env fr) C s H fp) ifs tt) (he : ∀ C s H fp, PE (cxB1 X (tn ++ fr) scope y (capCl X.env fr) C s H fp) elt te)
    (I2 : Inv X pins σ H2 s2) (T : Turn X.prog X.w X.K target J fp it tnn) (st2 : tnn 0 s2.heap) (f2 : ∀ b ∈ fp, FpOk X pins H2 b) (q : ∀ D, H2 D = none → tBlk D g tt te J (sB tn.length caps σ) H2 Q)
    (fin : ∀ D C H' s' m, Inv X pins σ H' s' → s'.heap.Ns C m → FpOk X pins H' C → Q (.ref D) H' → RR (.ref D) C (.ok .next) s') :
    wpAny (model X.prog X.w) X.A (newList []) (fun acc s₃ => wpAny (model X.prog X.w) X.A (newFunctionEnv scope X.env.globals (capCl X.env fr) [] X.env.qual none .none (some X.env)) (fun cenv s₄ =>
      codeAny (model X.prog X.w) X.A (.compStart (.ListComp elt [⟨target, iter, ifs, 0⟩] scope pos) 0 (.ref it) acc { cenv with scope := relabel scope X.env }) (RR acc cenv.locals) s₄) E s₃) E s2 := by
  refine wpAny_newObj_type (newEnv1 B.cells1 B.push1 (fun h₁ hns₁ hk₁ hc₁ => ?_))
  have I3 : Inv X pins σ (upd H2 s2.heap.objs.size (.lst [])) { s2 with heap := s2.heap.push { cls := .type "list", data := .seq ([] : List Value).toArray } } := I2.lnew (t' := s2.toks) (its := []) .nil (Nat.zero_le _)
  obtain ⟨W, ⟨m0, w0⟩, turn⟩ := q s2.heap.objs.size (I2.hok.fresh (Nat.le_refl _))
  generalize hH3 : upd H2 s2.heap.objs.size (.lst []) = H3 at I3 w0
  have f3 : ∀ b ∈ fp, FpOk X pins H3 b := fun b hb => by
    obtain ⟨a0, a1⟩ := f2 b hb
    refine ⟨?_, a1⟩
    obtain ⟨o, e, _⟩ := T.obj _ _ st2 b hb
    rw [← hH3, upd_ne (Nat.ne_of_lt (Heap.lt_size e))]
    exact a0
  generalize hD : s2.heap.objs.size = D at *
  generalize hs3 : ({ s2 with heap := s2.heap.push { cls := .type "list", data := .seq ([] : List Value).toArray } } : Shared) = s3 at *
  have e3 : s3.heap = s2.heap.push { cls := .type "list", data := .seq ([] : List Value).toArray } := by rw [← hs3]
  have st3 : tnn 0 s3.heap := T.keep _ _ _ st2 fun b _ o e => by rw [e3]; exact Heap.get?_push_of_some _ e
  have kept : ∀ b o, s3.heap.get? b = some o → h₁.get? b = some o := fun b o e => hk₁ b o e
  generalize hC : s3.heap.objs.size = C at *
  have hCs : s3.heap.objs.size ≤ C := Nat.le_of_eq hC
  have I4 : Inv X pins σ H3 { s3 with heap := h₁, toks := s3.toks + ([] : List (Str × Value)).length } := I3.kept kept
  have fpC : ∀ b ∈ fp, b ≠ C := fun b hb z => by
    obtain ⟨o, e, _⟩ := T.obj _ _ st3 b hb
    exact absurd z (Nat.ne_of_lt (Nat.lt_of_lt_of_le (Heap.lt_size e) hCs))
  have nst : ∀ b ∈ fp, b ∉ frs X.stack := fun b hb z => (List.mem_cons.mp (I3.stkSub b z)).elim (f3 b hb).2.1 (f3 b hb).2.2.1
  have old : ∀ x c, (capCl X.env fr).lookup x = some c → c < C := fun x c e => by
    obtain ⟨v, ic⟩ := I3.cell x c (capCl_get e)
    rw [← hC]
    exact ic.lt
  have inj1 : ∀ x z c, ((y, C + 1) :: capCl X.env fr).lookup x = some c → ((y, C + 1) :: capCl X.env fr).lookup z = some c → x = z := fun x z c e1 e2 => by
    rcases look1 e1 with ⟨a1, b1⟩ | ⟨a1, b1⟩ <;> rcases look1 e2 with ⟨a2, b2⟩ | ⟨a2, b2⟩
    · rw [a1, a2]
    · have := old z c b2
      rw [b1] at this
      exact absurd this (Nat.not_lt.mpr (Nat.le_succ C))
    · have := old x c b1
      rw [b2] at this
      exact absurd this (Nat.not_lt.mpr (Nat.le_succ C))
    · exact I3.ok.inj x z c (capCl_get b1) (capCl_get b2)
  have cab1 : ∀ x c, (x == y) = true → ((y, C + 1) :: capCl X.env fr).lookup x = some c → s3.heap.objs.size ≤ c := fun x c hx e => by
    rcases look1 e with ⟨a1, b1⟩ | ⟨a1, b1⟩
    · rw [b1]; exact Nat.le_trans hCs (Nat.le_succ C)
    · exact absurd (by simpa using hx) a1
  have nfp : ∀ b ∈ fp, ∀ x c, ((y, C + 1) :: capCl X.env fr).lookup x = some c → c ≠ b := fun b hb x c e => by
    rcases look1 e with ⟨a1, b1⟩ | ⟨a1, b1⟩
    · obtain ⟨o, eo, _⟩ := T.obj _ _ st3 b hb
      have := Heap.lt_size eo
      rw [hC] at this
      rw [b1]
      exact Ne.symm (Nat.ne_of_lt (Nat.lt_succ_of_lt this))
    · exact (f3 b hb).2.2.2.2.1 x c (capCl_get b1)
  have has1 : ∀ {x : Str} {c : Addr}, x ∈ fr → (capCl X.env fr).lookup x = some c → ((y, C + 1) :: capCl X.env fr).lookup x = some c := fun {x c} hx e => by
    rw [List.lookup_cons]
    have : (x == y) = false := by simpa using fun z : x = y => B.ny (by rw [← z]; exact hx)
    rw [this]
    exact e
  have okB : (cxB1 X (tn ++ fr) scope y (capCl X.env fr) C s3 H3 fp).Ok := by
    refine ⟨I3.ok.mod, B.kind, I3.ok.glob, I3.ok.blt, hCs, inj1, fun x hx => ?_, cab1, I3.ok.hd, I3.ok.frames, .inl rfl,
      fun b hb => ⟨fpC b hb, fun x c e => nfp b hb x c e⟩, I3.bs, Nat.le_trans I3.ok.bsz I3.sz, fun b o e hb => ?_, nst, I3.stack, I3.stkFree⟩
    · have hm : ∃ k, (x, k) ∈ scope.names ∧ k ≠ .local ∧ (k = .cell ∨ k = .free) := by
        have : ∃ k', (relabel scope X.env).names.lookup x = some k' ∧ (k' = .cell ∨ k' = .free) := by
          rcases hx with z | z
          · exact ⟨_, z, .inl rfl⟩
          · exact ⟨_, z, .inr rfl⟩
        obtain ⟨k', e', h'⟩ := this
        obtain ⟨⟨n, k⟩, hn, en⟩ := List.mem_map.mp (lookup_mem e')
        dsimp only at en
        by_cases cc : (k == NameKind.free && X.env.scope.kind == .function && X.env.kindOf n == some .cell) = true
        · rw [if_pos cc] at en
          cases en
          have kf : k = .free := by
            rw [Bool.and_eq_true, Bool.and_eq_true] at cc
            simpa using cc.1.1
          exact ⟨k, hn, (by intro z; rw [kf] at z; cases z), .inr kf⟩
        · rw [if_neg cc] at en
          cases en
          exact ⟨k', hn, fun z' => by rcases h' with y | y <;> (rw [y] at z'; cases z'), h'⟩
      obtain ⟨k, hk, _, h2⟩ := hm
      rcases h2 with z | z
      · exact ⟨C + 1, by show List.lookup x ((y, C + 1) :: _) = _; rw [show x = y from B.only _ hk z]; simp⟩
      · have hf := B.free _ hk z
        obtain ⟨c, ec⟩ := I3.ok.has x (B.out.at hf)
        exact ⟨c, has1 hf (capCl_has ec hf)⟩
    · obtain ⟨_, _, _, h1, _⟩ := f3 b hb
      rcases h1 with z | z
      · exact I3.ok.noex b o e z
      · exact Nat.lt_irrefl _ (Nat.lt_of_lt_of_le (Nat.lt_of_lt_of_le (Heap.lt_size e) I3.ok.bsz) z)
  have IB : Inv (cxB1 X (tn ++ fr) scope y (capCl X.env fr) C s3 H3 fp) [] (sB tn.length caps σ) H3 { s3 with heap := h₁, toks := s3.toks + ([] : List (Str × Value)).length } := by
    refine ⟨okB, rfl, I3.bare, Un.kept kept, ⟨_, hns₁, fun i x v e1 e2 _ => ?_⟩, fun x c e => (look1 e).elim (fun z => ⟨none, by rw [z.2]; exact hc₁⟩) (fun z => I4.cell x c (capCl_get z.2)), ?_, fun x c e => (look1 e).elim (fun z => by rw [z.2]; exact I3.hok.fresh (Nat.le_trans hCs (Nat.le_succ _))) (fun z => I3.freeC x c (capCl_get z.2)), fun p hp => (nomatch hp), I3.hok.kept kept, ?_⟩
    · obtain ⟨hk, j, ej, es⟩ := sB_get e2
      have e1' : fr[i - tn.length]? = some x := by
        have z : (tn ++ fr)[i]? = some x := e1
        rw [List.getElem?_append_right hk] at z
        exact z
      have hx : x ∈ fr := List.mem_of_getElem? e1'
      have eN : X.N[j]? = some x := by
        have z := congrArg (fun l : List (Option Str) => l[i - tn.length]?) B.caps
        simp only [List.getElem?_map, ej, e1', Option.map_some] at z
        exact Option.some.inj z
      have ko := B.out.at hx
      obtain ⟨m, hn, hl⟩ := I4.loc
      obtain ⟨u, r, lk⟩ := hl j x v eN es (by rcases ko with z | z; exact .inr (.inl z); exact .inr (.inr z))
      refine ⟨u, r, ?_⟩
      rcases lk with ⟨k1, _⟩ | ⟨_, c, ec, ic⟩
      · rcases ko with z | z <;> (rw [z] at k1; cases k1)
      · exact .inr ⟨B.inn.at hx, c, has1 hx (capCl_has ec hx), ic⟩
    · exact I3.hok.fresh hCs
    · have := congrArg List.length B.caps
      simp only [List.length_map] at this
      show (sB tn.length caps σ).length = (tn ++ fr).length
      unfold sB
      simp [this]
  have statB : ∀ {H' : Hp}, (∀ b ∈ fp, H' b = none) → ∀ b ∈ fp, FpOk (cxB1 X (tn ++ fr) scope y (capCl X.env fr) C s3 H3 fp) [] H' b := fun hn b hb =>
    ⟨hn b hb, fpC b hb, nst b hb, .inl hb, nfp b hb, fun p hp => (nomatch hp)⟩
  have st4 : tnn 0 h₁ := T.keep _ _ _ st3 fun b _ o e => kept b o e
  have loop : codeAny (model X.prog X.w) X.A (.compLoop (.ListComp elt [⟨target, iter, ifs, 0⟩] scope pos) 0 (.ref it) (.ref D) (compEnvC scope ((y, C + 1) :: capCl X.env fr) C X.env)) (RR (.ref D) C) { s3 with heap := h₁, toks := s3.toks + ([] : List (Str × Value)).length } := by
    refine compLoop_any (fun n s' => ∃ i σ' ys H', Inv (cxB1 X (tn ++ fr) scope y (capCl X.env fr) C s3 H3 fp) [] σ' H' s' ∧ tnn i s'.heap ∧ (∀ b ∈ fp, H' b = none) ∧ W i n σ' ys H') ?_ m0 ⟨0, _, [], H3, IB, st4, fun b hb => (f3 b hb).1, w0⟩
    rintro n s5 ⟨i, σ5, ys, H5, I5, st5, fr5, w5⟩
    rcases turn i n σ5 ys H5 w5 with ⟨stop, qn⟩ | ⟨go, step⟩
    · refine wpAny_mono (T.done (cxB1 X (tn ++ fr) scope y (capCl X.env fr) C s3 H3 fp) rfl rfl rfl hc i [] s5 σ5 H5 (fun _ _ => False) I5 (statB fr5) st5 stop) (fun r s6 ⟨hr, I6⟩ => ?_) fun _ _ z => z
      subst hr
      obtain ⟨m, hn, _⟩ := I6.loc
      have J6 : Inv X pins σ H5 s6 := I3.call' (ch := fp) I6.os I6.base I6.hok I6.bare fun b hb => ⟨(f3 b hb).2.2.2.1, (f3 b hb).2.1, (f3 b hb).2.2.2.2.1, (f3 b hb).2.2.2.2.2⟩
      exact fin D C H5 s6 m J6 hn (I3.fpOk hCs I6.free) qn
    · refine wpAny_mono (T.item (cxB1 X (tn ++ fr) scope y (capCl X.env fr) C s3 H3 fp) rfl rfl rfl hc i [] s5 σ5 H5 (fun _ _ => False) I5 (statB fr5) st5 go) (fun r s6 ⟨u, hr, h6⟩ => ?_) fun _ _ z => z
      subst hr
      refine wpAny_mono h6 (fun _ s7 ⟨x, H7, I7, r7, y7, st7, fr7⟩ => ?_) fun _ _ z => z
      have I7' := I7.pinned (statB fr7) (T.obj _ _ st7)
      have held : ∀ {σ' : L2.St} {H' : Hp} {s' : Shared}, Inv (cxB1 X (tn ++ fr) scope y (capCl X.env fr) C s3 H3 fp) ([] ++ pinsAt fp s7.heap) σ' H' s' → tnn (i + 1) s'.heap ∧ ∀ b ∈ fp, H' b = none := fun {σ' H' s'} I' => by
        refine ⟨T.keep _ _ _ st7 fun b hb o e => (I'.pin (b, o) (List.mem_append_right _ (List.mem_append_right _ (mem_pinsAt hb e)))).1, fun b hb => ?_⟩
        obtain ⟨o, e, d⟩ := T.obj _ _ st7 b hb
        exact (I'.pin (b, o) (List.mem_append_right _ (List.mem_append_right _ (mem_pinsAt hb e)))).2.1
      refine wpAny_mono (hg C s3 H3 fp _ s7 σ5 H7 x u _ I7' r7 (step x H7 y7)) (fun _ s8 ⟨σ8, H8, I8, q8⟩ => ?_) fun _ _ z => z
      refine wpAny_mono (ht C s3 H3 fp _ s8 σ8 H8 _ I8 q8) (fun ok s9 ⟨H9, I9, q9⟩ => ?_) fun _ _ z => z
      cases ok with
      | false =>
        rw [if_neg Bool.false_ne_true] at q9
        obtain ⟨m', hm, w9⟩ := q9
        rw [if_neg Bool.false_ne_true]
        obtain ⟨a, b⟩ := held I9
        exact ⟨m', hm, i + 1, σ8, ys, H9, I9.unpinned, a, b, w9⟩
      | true =>
        rw [if_pos rfl] at q9
        rw [if_pos rfl]
        refine wpAny_mono (he C s3 H3 fp _ s9 σ8 H9 _ I9 q9) (fun v s10 ⟨y9, H10, I10, r10, hDD, hl, m', hm, w10⟩ => ?_) fun _ _ z => z
        refine wpAny_mono (mt_append (X := cxB1 X (tn ++ fr) scope y (capCl X.env fr) C s3 H3 fp) _ s10 σ8 H10 (.ref D) [y9] (.ref D) [v] (fun _ H' => W (i + 1) m' σ8 (ys ++ [y9]) H') I10 rfl (.cons r10 .nil) ⟨D, ys, y9, rfl, rfl, hDD, hl, w10⟩) (fun _ s11 ⟨z, H11, I11, _, q11⟩ => ?_) fun _ _ z => z
        obtain ⟨a, b⟩ := held I11
        exact ⟨m', hm, i + 1, σ8, ys ++ [y9], H11, I11.unpinned, a, b, q11⟩
  exact codeAny_compStart_list loop (T.self X.A 0 _ _ _ st4 loop)
theorem pe_comp1 {y : Str} {elt target iter : Expr} {ifs : List Expr} {scope : Scope} {pos : Pos} {tn fr : List Str} {caps : List Nat} {wi : TI} {g : TG} {tt : TT} {te : TE} (hc : X.calm = true) (B : Blk1 X scope y fr caps) (hi : PI X target iter wi)
    (hg : ∀ C s H fp, PG (cxB1 X (tn ++ fr) scope y (capCl X.env fr) C s H fp) target g) (ht : ∀ C s H fp, PF (cxB1 X (tn ++ fr) scope y (capCl X.env fr) C s H fp) ifs tt) (he : ∀ C s H fp, PE (cxB1 X (tn ++ fr) scope y (capCl X.env fr) C s H fp) elt te)
    (hs : ∀ x, foldedSetIterable iter X.env x = pure x := by intro _; rfl) : PE X (.ListComp elt [⟨target, iter, ifs, 0⟩] scope pos) (tComp tn.length caps wi g tt te) := by
  intro pins s σ H Q I h
  rw [eval_ListComp]
  refine wpAny_comprehension_free (use := none) rfl hs B.clos B.kind B.names (thn (hi pins s σ H _ I h) fun v s1 h1 => thn h1 fun itv s2 h2 => ?_)
  obtain ⟨it, fp, tnn, J, H2, rfl, I2, T, st2, f2, q⟩ := h2
  refine comp_block1 (Q := Q) (RR := fun acc C => compPost (model X.prog X.w) X.A X.xe none (EP X pins σ Q) acc C) hc B hg ht he I2 T st2 f2 q ?_
  intro D C H' s' m I' hn fc qq
  obtain ⟨g0, g1, g2, g3, g4, g5⟩ := fc
  exact ⟨m, hn, fun h' hs' => ⟨.ref D, H', I'.turned (t' := s'.toks) (fun b o hb e => (hs'.2 b hb).trans e) g0 g1 g3 g4 g5, rfl, qq⟩⟩
end
end Ty

namespace L2
open PySem PySem.Spec PyProof.Rows

section
variable {κ : Type} [DecidableEq κ]
def valV (kvs : List (κ × V)) (k : κ) : Option V := (kvs.find? fun kv => decide (kv.1 = k)).map (·.2)
def putK (kvs : List (κ × V)) (k : κ) (v : V) : List (κ × V) :=
  if (kvs.any fun kv => decide (kv.1 = k)) = true then kvs.map (fun kv => if kv.1 = k then (kv.1, v) else kv) else kvs ++ [(k, v)]
def dropK (kvs : List (κ × V)) (k : κ) : List (κ × V) := kvs.filter fun kv => decide (kv.1 ≠ k)

theorem valV_pos {p : κ × V} {r : List (κ × V)} {k : κ} (e : p.1 = k) : valV (p :: r) k = some p.2 := by simp [valV, List.find?_cons, e]
theorem valV_neg {p : κ × V} {r : List (κ × V)} {k : κ} (e : ¬ p.1 = k) : valV (p :: r) k = valV r k := by simp [valV, List.find?_cons, e]
theorem valV_any (k : κ) : ∀ kvs : List (κ × V), (kvs.any fun kv => decide (kv.1 = k)) = (valV kvs k).isSome
  | [] => rfl
  | p :: r => by
    rw [List.any_cons]
    by_cases e : p.1 = k
    · simp only [valV_pos e, decide_eq_true e, Bool.true_or, Option.isSome_some]
    · rw [valV_neg e, decide_eq_false e, Bool.false_or]; exact valV_any k r
theorem length_putK (kvs : List (κ × V)) (k : κ) (v : V) : (putK kvs k v).length ≤ kvs.length + 1 := by
  unfold putK
  split
  · rw [List.length_map]; omega
  · rw [List.length_append, List.length_cons, List.length_nil]; omega
theorem putK_new {kvs : List (κ × V)} {k : κ} (v : V) (h : valV kvs k = none) : putK kvs k v = kvs ++ [(k, v)] := by
  unfold putK
  rw [valV_any, h]
  exact if_neg (by decide)

theorem RelO.isSome_eq {o : Option V} {u : Option Value} (r : RelO o u) : o.isSome = u.isSome := by
  cases o with
  | none => cases u with
    | none => rfl
    | some _ => exact (show False from r).elim
  | some _ => cases u with
    | none => exact (show False from r).elim
    | some _ => rfl
theorem RelO.getD {o : Option V} {u : Option Value} {d : V} {d' : Value} (r : RelO o u) (rd : RelV d d') : RelV (o.getD d) (u.getD d') := by
  cases o with
  | none => cases u with
    | none => exact rd
    | some _ => exact (show False from r).elim
  | some _ => cases u with
    | none => exact (show False from r).elim
    | some _ => exact r

theorem KV.val {kvs : List (κ × V)} {vs : List (κ × Value)} (r : KV kvs vs) (k : κ) : RelO (valV kvs k) (valueAt vs k) := by
  unfold KV at r
  induction r with
  | nil => exact True.intro
  | @cons p q ps qs h t ih =>
    obtain ⟨h1, h2⟩ := h
    by_cases e : p.1 = k
    · have e' : q.1 = k := h1.symm.trans e
      have b : valueAt (q :: qs) k = some q.2 := by simp [valueAt, List.find?_cons, e']
      rw [valV_pos e, b]; exact h2
    · have e' : ¬ q.1 = k := fun z => e (h1.trans z)
      have b : valueAt (q :: qs) k = valueAt qs k := by simp [valueAt, List.find?_cons, e']
      rw [valV_neg e, b]; exact ih
theorem KV.any {kvs : List (κ × V)} {vs : List (κ × Value)} (r : KV kvs vs) (k : κ) : (kvs.any fun kv => decide (kv.1 = k)) = vs.any fun kv => decide (kv.1 = k) := by
  unfold KV at r
  induction r with
  | nil => rfl
  | cons h t ih => rw [List.any_cons, List.any_cons, ih, h.1]
theorem KV.repl {kvs : List (κ × V)} {vs : List (κ × Value)} (r : KV kvs vs) (k : κ) {y : V} {u : Value} (ry : RelV y u) :
    KV (kvs.map fun kv => if kv.1 = k then (kv.1, y) else kv) (vs.map fun kv => if kv.1 = k then (kv.1, u) else kv) := by
  unfold KV at r ⊢
  induction r with
  | nil => exact .nil
  | @cons p q ps qs h t ih =>
    rw [List.map_cons, List.map_cons]
    refine .cons ?_ ih
    obtain ⟨h1, h2⟩ := h
    by_cases e : p.1 = k
    · rw [if_pos e, if_pos (h1.symm.trans e)]; exact ⟨h1, ry⟩
    · rw [if_neg e, if_neg (fun z => e (h1.trans z))]; exact ⟨h1, h2⟩
theorem KV.put {kvs : List (κ × V)} {vs : List (κ × Value)} (r : KV kvs vs) (k : κ) {y : V} {u : Value} (ry : RelV y u) : KV (putK kvs k y) (stored vs k u) := by
  unfold putK stored
  rw [r.any k]
  by_cases e : (vs.any fun kv => decide (kv.1 = k)) = true
  · rw [if_pos e, if_pos e]; exact r.repl k ry
  · rw [if_neg e, if_neg e]; exact Paired.snoc r ⟨rfl, ry⟩
theorem KV.drop {kvs : List (κ × V)} {vs : List (κ × Value)} (r : KV kvs vs) (k : κ) : KV (dropK kvs k) (without vs k) := by
  unfold KV at r ⊢
  unfold dropK without
  induction r with
  | nil => exact .nil
  | @cons p q ps qs h t ih =>
    obtain ⟨h1, h2⟩ := h
    rw [List.filter_cons, List.filter_cons]
    by_cases e : p.1 = k
    · have a : ¬ decide (p.1 ≠ k) = true := by simp [e]
      have b : ¬ decide (q.1 ≠ k) = true := by simp [h1.symm.trans e]
      rw [if_neg a, if_neg b]; exact ih
    · have e' : ¬ q.1 = k := fun z => e (h1.trans z)
      have a : decide (p.1 ≠ k) = true := by simp [e]
      have b : decide (q.1 ≠ k) = true := by simp [e']
      rw [if_pos a, if_pos b]; exact .cons ⟨h1, h2⟩ ih
theorem KV.keys {kvs : List (κ × V)} {vs : List (κ × Value)} (r : KV kvs vs) : kvs.map (·.1) = vs.map (·.1) := by
  unfold KV at r
  induction r with
  | nil => rfl
  | cons h t ih => rw [List.map_cons, List.map_cons, ih, h.1]
theorem KV.length {kvs : List (κ × V)} {vs : List (κ × Value)} (r : KV kvs vs) : kvs.length = vs.length := Paired.length r
end


theorem kV_is {P : Program} {w : World} {k : Key} {u : Value} (r : RelV (kV k) u) : (mixKind P w).is k u = true := by
  cases k with
  | inl i => obtain ⟨t, e⟩ := (show ∃ t, u = Value.int i t from r); subst e; exact mixKind_int P w i t
  | inr x => obtain ⟨t, e⟩ := (show ∃ t, u = Value.str x t from r); subst e; exact mixKind_str P w x t
theorem items_are {P : Program} {w : World} : ∀ {ks : List Key} {us : List Value}, Vals (ks.map kV) us → ItemsAre (mixKind P w) ks us
  | [], _, r => by rw [List.map_nil] at r; cases r; exact .nil
  | k :: ks, _, r => by
    rw [List.map_cons] at r
    cases r with
    | cons h t => exact .cons (kV_is h) (items_are t)

abbrev KT (H : Hp) : List (List Key × V) → List (List Key × Addr × Value) → Prop := Paired fun p q => p.1 = q.1 ∧ H q.2.1 = some (.tup (p.1.map kV)) ∧ RelV p.2 q.2.2
theorem KT.val {H : Hp} {kvs : List (List Key × V)} {xs : List (List Key × Addr × Value)} (r : KT H kvs xs) (k : List Key) : RelO (valV kvs k) ((atKey xs k).map (·.2)) := by
  induction r with
  | nil => exact True.intro
  | @cons p q ps qs h t ih =>
    obtain ⟨h1, _, h2⟩ := h
    by_cases e : p.1 = k
    · have e' : q.1 = k := h1.symm.trans e
      have b : atKey (q :: qs) k = some q.2 := by simp [atKey, List.find?_cons, e']
      rw [valV_pos e, b]; exact h2
    · have e' : ¬ q.1 = k := fun z => e (h1.trans z)
      have b : atKey (q :: qs) k = atKey qs k := by simp [atKey, List.find?_cons, e']
      rw [valV_neg e, b]; exact ih
theorem KT.repl {H : Hp} {kvs : List (List Key × V)} {xs : List (List Key × Addr × Value)} (r : KT H kvs xs) (k : List Key) {y : V} {u : Value} (ry : RelV y u) :
    KT H (kvs.map fun kv => if kv.1 = k then (kv.1, y) else kv) (xs.map (putAt k u)) := by
  induction r with
  | nil => exact .nil
  | @cons p q ps qs h t ih =>
    rw [List.map_cons, List.map_cons]
    refine .cons ?_ ih
    obtain ⟨h1, h2, h3⟩ := h
    unfold putAt
    by_cases e : p.1 = k
    · rw [if_pos e, if_pos (h1.symm.trans e)]; exact ⟨h1, h2, ry⟩
    · rw [if_neg e, if_neg (fun z => e (h1.trans z))]; exact ⟨h1, h2, h3⟩
theorem KT.put {H : Hp} {kvs : List (List Key × V)} {xs : List (List Key × Addr × Value)} (r : KT H kvs xs) (k : List Key) {b : Addr} {y : V} {u : Value} (hb : H b = some (.tup (k.map kV))) (ry : RelV y u) :
    KT H (putK kvs k y) (storedH xs k b u) := by
  have e : (kvs.any fun kv => decide (kv.1 = k)) = (atKey xs k).isSome := by
    rw [valV_any, (r.val k).isSome_eq, Option.isSome_map]
  unfold putK storedH
  rw [e]
  by_cases q : (atKey xs k).isSome = true
  · rw [if_pos q, if_pos q]; exact r.repl k ry
  · rw [if_neg q, if_neg q]; exact Paired.snoc r ⟨rfl, hb, ry⟩
theorem KT.keeps {H H' : Hp} {kvs : List (List Key × V)} {xs : List (List Key × Addr × Value)} (r : KT H kvs xs) (ht : ∀ b ys, H b = some (.tup ys) → H' b = some (.tup ys)) : KT H' kvs xs :=
  Paired.mapP r fun _ _ z => ⟨z.1, ht _ _ z.2.1, z.2.2⟩

section
variable {P : Program} {w : World} {H : Hp} {h : Heap} {a : Addr}
theorem rd_of {u : HO} (ok : HOk P w H h) (e : Rd H a u) : ObjOk P w H h a u := e.ok ok
theorem dk_rd {kvs : List (Key × V)} (ok : HOk P w H h) (e : Rd H a (.dK kvs)) : kvs.length ≤ sizeLine ∧ (a == sysModules) = false ∧ ∃ vs, KV kvs vs ∧ h.DictOf (mixKind P w) a vs :=
  show ObjOk P w H h a (.dK kvs) from rd_of ok e
theorem dk_of {kvs : List (Key × V)} (ok : HOk P w H h) (e : H a = some (.dK kvs)) : kvs.length ≤ sizeLine ∧ (a == sysModules) = false ∧ ∃ vs, KV kvs vs ∧ h.DictOf (mixKind P w) a vs := dk_rd ok (.inl e)
theorem key_of {ks : List Key} (ok : HOk P w H h) (e : H a = some (.tup (ks.map kV))) : (tupleKind (mixKind P w)).is h ks a := by
  obtain ⟨_, its, r, o, h1, h2, n, h3⟩ := (show ObjOk P w H h a (.tup (ks.map kV)) from ok a _ e)
  exact ⟨o, its.toArray, n, h1, h2, h3, by simpa using items_are r⟩
theorem dt_rd {kvs : List (List Key × V)} (ok : HOk P w H h) (e : Rd H a (.dT kvs)) : kvs.length ≤ sizeLine ∧ (a == sysModules) = false ∧
    ∃ xs, KT H kvs xs ∧ h.DictOfH (tupleKind (mixKind P w)) a xs := by
  obtain ⟨z, y, xs, r, o, es, ep, h1, h2, h3, h4, h5⟩ := (show ObjOk P w H h a (.dT kvs) from rd_of ok e)
  refine ⟨z, y, xs, r, o, es, ep, h1, h2, h3, h4, fun x hx => ?_, h5⟩
  have all : ∀ {l : List (List Key × V)} {m : List (List Key × Addr × Value)}, KT H l m → ∀ x ∈ m, (tupleKind (mixKind P w)).is h x.1 x.2.1 := by
    intro l m q
    induction q with
    | nil => intro x hx; exact nomatch hx
    | @cons p q ps qs hq t ih =>
      intro x hx
      rcases List.mem_cons.mp hx with e | hx
      · subst e
        exact key_of ok (by rw [← hq.1]; exact hq.2.1)
      · exact ih x hx
  exact all r x hx
theorem dt_of {kvs : List (List Key × V)} (ok : HOk P w H h) (e : H a = some (.dT kvs)) : kvs.length ≤ sizeLine ∧ (a == sysModules) = false ∧
    ∃ xs, KT H kvs xs ∧ h.DictOfH (tupleKind (mixKind P w)) a xs := dt_rd ok (.inl e)
end

def DGet (H : Hp) (a : Addr) (y : V) (r : Option V) : Prop :=
  (∃ kvs k, Rd H a (.dK kvs) ∧ y = kV k ∧ r = valV kvs k) ∨ ∃ kvs k b, Rd H a (.dT kvs) ∧ y = .ref b ∧ H b = some (.tup (k.map kV)) ∧ r = valV kvs k
def DPut (H : Hp) (a : Addr) (y v : V) (H' : Hp) : Prop :=
  (∃ kvs k, H a = some (.dK kvs) ∧ y = kV k ∧ kvs.length < sizeLine ∧ H' = upd H a (.dK (putK kvs k v))) ∨
  ∃ kvs k b, H a = some (.dT kvs) ∧ y = .ref b ∧ H b = some (.tup (k.map kV)) ∧ kvs.length < sizeLine ∧ H' = upd H a (.dT (putK kvs k v))
theorem DGet.k {H : Hp} {a : Addr} {kvs : List (Key × V)} {k : Key} (e : H a = some (.dK kvs)) : DGet H a (kV k) (valV kvs k) := .inl ⟨kvs, k, .inl e, rfl, rfl⟩
theorem DGet.t {H : Hp} {a b : Addr} {kvs : List (List Key × V)} {k : List Key} (e : H a = some (.dT kvs)) (eb : H b = some (.tup (k.map kV))) : DGet H a (.ref b) (valV kvs k) := .inr ⟨kvs, k, b, .inl e, rfl, eb, rfl⟩
theorem DPut.k {H : Hp} {a : Addr} {kvs : List (Key × V)} {k : Key} {v : V} (e : H a = some (.dK kvs)) (hl : kvs.length < sizeLine) : DPut H a (kV k) v (upd H a (.dK (putK kvs k v))) := .inl ⟨kvs, k, e, rfl, hl, rfl⟩
theorem DPut.t {H : Hp} {a b : Addr} {kvs : List (List Key × V)} {k : List Key} {v : V} (e : H a = some (.dT kvs)) (eb : H b = some (.tup (k.map kV))) (hl : kvs.length < sizeLine) :
    DPut H a (.ref b) v (upd H a (.dT (putK kvs k v))) := .inr ⟨kvs, k, b, e, rfl, eb, hl, rfl⟩


section
variable {X : Cx} {pins : List (Addr × Obj)} {σ : St} {H : Hp} {s : Shared} {a : Addr} {y v : V} {u r : Value} {o : Option V} {A : Around} {E : Value → Shared → Prop}

theorem Inv.big (I : Inv X pins σ H s) : sysModules < s.heap.objs.size := by
  have h : mainGlobals < s.heap.objs.size := (I.mod.glob.keeps I.bk).lt
  exact Nat.lt_trans (by decide) h

theorem d_getItem {Q : Value → Shared → Prop} (hu : A.units + 1 < cLine) (I : Inv X pins σ H s) (g : DGet H a y (some v)) (ry : RelV y u) (h : ∀ w' s', Inv X pins σ H s' → RelV v w' → Q w' s') :
    wpAny (model X.prog X.w) A (getItem (.ref a) u) Q E s := by
  rcases g with ⟨kvs, k, e, ey, l⟩ | ⟨kvs, k, b, e, ey, eb, l⟩
  · subst ey
    obtain ⟨z, hd, vs, rel, dd⟩ := dk_rd I.hok e
    obtain ⟨w', hw, rw'⟩ := RelO.some_of (v := v) (o := valueAt vs k) (by rw [l]; exact rel.val k)
    exact wpAny_getItem_of (kV_is ry) dd.mapOf hw (h w' _ (I.tok _) rw')
  · subst ey
    cases (show u = Value.ref b from ry)
    obtain ⟨z, hd, xs, rel, dd⟩ := dt_rd I.hok e
    obtain ⟨w', hw, rw'⟩ := RelO.some_of (v := v) (o := (atKey xs k).map (·.2)) (by rw [l]; exact rel.val k)
    obtain ⟨p, hp, hp2⟩ := Option.map_eq_some_iff.mp hw
    refine wpAny_getItem_heap (tupleKind_room_in1 hu) (key_of I.hok eb) dd hp ?_
    rw [hp2]
    exact h w' _ (I.tok _) rw'
theorem d_in {Q : Value → Shared → Prop} (hu : A.units + 1 < cLine) (I : Inv X pins σ H s) (g : DGet H a y o) (ry : RelV y u) (h : ∀ s', Inv X pins σ H s' → Q (.bool o.isSome) s') :
    wpAny (model X.prog X.w) A (compareOp .In u (.ref a)) Q E s := by
  rcases g with ⟨kvs, k, e, ey, l⟩ | ⟨kvs, k, b, e, ey, eb, l⟩
  · subst ey
    obtain ⟨z, hd, vs, rel, dd⟩ := dk_rd I.hok e
    refine wpAny_in_of (kV_is ry) hd dd.mapOf ?_
    rw [← (rel.val k).isSome_eq, ← l]
    exact h _ (I.tok _)
  · subst ey
    cases (show u = Value.ref b from ry)
    obtain ⟨z, hd, xs, rel, dd⟩ := dt_rd I.hok e
    refine wpAny_in_heap (tupleKind_room_in1 hu) (key_of I.hok eb) hd dd ?_
    have q := (rel.val k).isSome_eq
    rw [Option.isSome_map] at q
    rw [← q, ← l]
    exact h _ (I.tok _)
theorem d_notIn {Q : Value → Shared → Prop} (hu : A.units + 1 < cLine) (I : Inv X pins σ H s) (g : DGet H a y o) (ry : RelV y u) (h : ∀ s', Inv X pins σ H s' → Q (.bool (!o.isSome)) s') :
    wpAny (model X.prog X.w) A (compareOp .NotIn u (.ref a)) Q E s := by
  rcases g with ⟨kvs, k, e, ey, l⟩ | ⟨kvs, k, b, e, ey, eb, l⟩
  · subst ey
    obtain ⟨z, hd, vs, rel, dd⟩ := dk_rd I.hok e
    refine wpAny_notIn_of (kV_is ry) hd dd.mapOf ?_
    rw [← (rel.val k).isSome_eq, ← l]
    exact h _ (I.tok _)
  · subst ey
    cases (show u = Value.ref b from ry)
    obtain ⟨z, hd, xs, rel, dd⟩ := dt_rd I.hok e
    refine wpAny_notIn_heap (tupleKind_room_in1 hu) (key_of I.hok eb) hd dd ?_
    have q := (rel.val k).isSome_eq
    rw [Option.isSome_map] at q
    rw [← q, ← l]
    exact h _ (I.tok _)
theorem d_write {h' : Heap} {t' : Nat} {ob : HO} (I : Inv X pins σ H s) (mu : Mut (H a)) (hs : Heap.SameBut a s.heap h') (he : ∃ q, h'.get? a = some q) (new : ObjOk X.prog X.w (upd H a ob) h' a ob) :
    Inv X pins σ (upd H a ob) { s with heap := h', toks := t' } :=
  I.write (x := a) (e := a) mu (.inl rfl) (fun b q hb z => (hs.2 b hb).trans z) he new
theorem dk_new {P : Program} {w : World} {H' : Hp} {h' : Heap} {kvs : List (Key × V)} {vs : List (Key × Value)} (z : kvs.length ≤ sizeLine) (hd : (a == sysModules) = false) (rel : KV kvs vs) (dd : h'.DictOf (mixKind P w) a vs) :
    ObjOk P w H' h' a (.dK kvs) := ⟨z, hd, vs, rel, dd⟩
theorem d_setItem {H' : Hp} {Q : Unit → Shared → Prop} (hu : A.units + 1 < cLine) (I : Inv X pins σ H s) (g : DPut H a y v H') (ry : RelV y u) (rv : RelV v r) (h : ∀ s', Inv X pins σ H' s' → Q () s') :
    wpAny (model X.prog X.w) A (setItem (.ref a) u r) Q E s := by
  rcases g with ⟨kvs, k, e, ey, l, eH⟩ | ⟨kvs, k, b, e, ey, eb, l, eH⟩
  · subst ey eH
    obtain ⟨z, hd, vs, rel, dd⟩ := dk_of I.hok e
    have hz : vs.length ≤ sizeLine := by rw [← rel.length]; exact z
    have hl : (putK kvs k v).length ≤ sizeLine := by have := length_putK kvs k v; omega
    refine wpAny_setItem_pairs (hsz := hz) (kV_is ry) dd fun h' dd' hs => h _ ?_
    have he : ∃ q, h'.get? a = some q := let ⟨q, _, _, hq, _⟩ := dd'; ⟨q, hq⟩
    exact d_write I (by rw [e]; exact True.intro) hs he (dk_new hl hd (rel.put k rv) dd')
  · subst ey eH
    cases (show u = Value.ref b from ry)
    obtain ⟨z, hd, xs, rel, dd⟩ := dt_of I.hok e
    have hz : xs.length ≤ sizeLine := by rw [← Paired.length rel]; exact z
    have hl : (putK kvs k v).length ≤ sizeLine := by have := length_putK kvs k v; omega
    refine wpAny_setItem_heap (hsz := hz) (tupleKind_room_in1 hu) (key_of I.hok eb) dd fun h' dd' hs => h _ ?_
    obtain ⟨q, es, ep, hq, h2, h3, h4, _, h5⟩ := dd'
    refine d_write I (by rw [e]; exact True.intro) hs ⟨q, hq⟩ ⟨hl, hd, _, (rel.put k eb rv).keeps fun c ys ec => ?_, q, es, ep, hq, h2, h3, h4, h5⟩
    rw [upd_ne (ne_of ec e (fun z => nomatch z))]
    exact ec
end

section
variable {X : Cx} {pins : List (Addr × Obj)} {σ : St} {H : Hp} {s : Shared} {a : Addr} {kvs : List (Key × V)} {k : Key} {u : Value} {A : Around} {E : Value → Shared → Prop}
theorem d_len {Q : Value → Shared → Prop} (I : Inv X pins σ H s) (e : Rd H a (.dK kvs)) (h : ∀ t s', Inv X pins σ H s' → Q (.int kvs.length t) s') : wpAny (model X.prog X.w) A (call (.builtin "len") [.ref a]) Q E s := by
  obtain ⟨z, hd, vs, rel, dd⟩ := dk_rd I.hok e
  refine call_len_dict hd dd (by rw [← rel.length]; rw [sizeLine_eq] at z; omega) ?_
  rw [← rel.length]
  exact h _ _ (I.tok _)
end


def NoSl (i : Expr) : Prop := ∀ ov iv, subscripted i false ov iv = operate [ov, iv] (getItem ov iv)
theorem subD_of {prog : Program} {w : World} {A : Around} {E : Value → Shared → Prop} {s : Shared} {env : Env} {value slice : Expr} {pos : Pos} {T id : String} {Q : Value → Shared → Prop}
    (hl : typeLookup (.type T) "__getitem__" = pure (some (.builtin id))) (hs : NoSl slice)
    (h : wpAny (model prog w) A (eval value env) (fun o s₁ => wpAny (model prog w) A (eval slice env) (fun i s₂ => s₂.TypeIs o T ∧ wpAny (model prog w) A (getItem o i) Q E s₂) E s₁) E s) :
    wpAny (model prog w) A (eval (.Subscript value slice pos) env) Q E s := by
  refine Subscript_ (wpAny_mono h (fun o s₁ h₁ => wpAny_mono h₁ (fun i s₂ h₂ => ?_) fun _ _ x => x) fun _ _ x => x)
  obtain ⟨hT, h₂⟩ := h₂
  unfold subscriptTail
  refine wpAny_bind ?_
  rw [getitemInPython_of_ne hT.not_modules]
  refine wpAny_bind (wpAny_specialOf hT hl ?_)
  have fin : wpAny (model prog w) A (subscripted slice false o i) (fun r s₃ => wpAny (model prog w) A (letTemporaryGo value o r >>= fun _ => pure r) Q E s₃) E s₂ := by
    rw [hs o i]
    exact wpAny_operating (wpAny_mono h₂ (fun r s₃ h₃ => wpAny_bind (wpAny_letTemporaryGo (wpAny_pure h₃))) fun _ _ x => x)
  first
    | exact wpAny_pure (wpAny_bind fin)
    | exact wpAny_bind (wpAny_pure (wpAny_bind fin))
    | exact wpAny_bind fin

theorem dict_typeIs {X : Cx} {pins : List (Addr × Obj)} {σ : St} {H : Hp} {s : Shared} {a : Addr} {y : V} {o : Option V} (I : Inv X pins σ H s) (g : DGet H a y o) : s.TypeIs (.ref a) "dict" := by
  rcases g with ⟨kvs, k, e, _, _⟩ | ⟨kvs, k, b, e, _, _, _⟩
  · obtain ⟨_, _, vs, _, dd⟩ := dk_rd I.hok e
    exact dd.typeIs
  · obtain ⟨_, _, xs, _, dd⟩ := dt_rd I.hok e
    exact dd.typeIs
def tDGet (td ty : TE) : TE := fun σ H Q => td σ H fun x H1 => ty σ H1 fun y H2 => ∃ a v, x = .ref a ∧ DGet H2 a y (some v) ∧ Q v H2
def tDIn (ty td : TE) : TE := fun σ H Q => ty σ H fun y H1 => td σ H1 fun x H2 => ∃ a o, x = .ref a ∧ DGet H2 a y o ∧ Q (.bl o.isSome) H2
def tDNotIn (ty td : TE) : TE := fun σ H Q => ty σ H fun y H1 => td σ H1 fun x H2 => ∃ a o, x = .ref a ∧ DGet H2 a y o ∧ Q (.bl (!o.isSome)) H2
def sDPut (td ty tv : TE) : TS := fun D σ H => tv σ H fun v H1 => td σ H1 fun x H2 => ty σ H2 fun y H3 => ∃ a H4, x = .ref a ∧ DPut H3 a y v H4 ∧ D.nx σ H4
def sDAug (td ty tv : TE) (rd : V → V → Hp → VK → Prop) : TS := fun D σ H => td σ H fun x H1 => ty σ H1 fun y H2 => ∃ a v, x = .ref a ∧ DGet H2 a y (some v) ∧
  tv σ H2 fun y2 H3 => rd v y2 H3 fun z H4 => ∃ H5, DPut H4 a y z H5 ∧ D.nx σ H5
def sDDel (td ty : TE) : TS := fun D σ H => td σ H fun x H1 => ty σ H1 fun y H2 => ∃ a kvs k, x = .ref a ∧ H2 a = some (.dK kvs) ∧ y = kV k ∧ (valV kvs k).isSome = true ∧ D.nx σ (upd H2 a (.dK (dropK kvs k)))

section
variable {X : Cx} {o i e value : Expr} {pos pos' tpos : Pos} {td ty tv : TE}
theorem pe_dget (hu : X.A.units + 1 < cLine) (ho : PE X o td) (hi : PE X i ty) (hs : NoSl i) : PE X (.Subscript o i pos) (tDGet td ty) := by
  intro pins s σ H Q I h
  refine subD_of PySem.F.slot_dict_getitem.lookup hs (thn (ho pins s σ H _ I h) fun u s1 ⟨x, H1, I1, rx, q1⟩ => thn (hi pins s1 σ H1 _ I1 q1) fun iv s2 ⟨y, H2, I2, ry, a, v, ex, g, q2⟩ => ?_)
  subst ex
  obtain rfl : u = Value.ref a := rx
  exact ⟨dict_typeIs I2 g, d_getItem hu I2 g ry fun w' s3 I3 rw' => ⟨v, H2, I3, rw', q2⟩⟩
theorem pc_din (hu : X.A.units + 1 < cLine) (hi : PE X i ty) (ho : PE X o td) : PC X .In i o (tDIn ty td) := by
  intro pins s σ H Q I h
  refine thn (hi pins s σ H _ I h) fun iv s1 ⟨y, H1, I1, ry, q1⟩ => thn (ho pins s1 σ H1 _ I1 q1) fun u s2 ⟨x, H2, I2, rx, a, ov, ex, g, q2⟩ => ?_
  subst ex
  obtain rfl : u = Value.ref a := rx
  exact d_in hu I2 g ry fun s3 I3 => ⟨.bl ov.isSome, H2, I3, rfl, q2⟩
theorem pc_dnotin (hu : X.A.units + 1 < cLine) (hi : PE X i ty) (ho : PE X o td) : PC X .NotIn i o (tDNotIn ty td) := by
  intro pins s σ H Q I h
  refine thn (hi pins s σ H _ I h) fun iv s1 ⟨y, H1, I1, ry, q1⟩ => thn (ho pins s1 σ H1 _ I1 q1) fun u s2 ⟨x, H2, I2, rx, a, ov, ex, g, q2⟩ => ?_
  subst ex
  obtain rfl : u = Value.ref a := rx
  exact d_notIn hu I2 g ry fun s3 I3 => ⟨.bl (!ov.isSome), H2, I3, rfl, q2⟩
theorem ps_dput (hu : X.A.units + 1 < cLine) (ho : PE X o td) (hi : PE X i ty) (hv : PE X value tv) (hs : swapsWith value (some (.Subscript o i pos')) pos.line X.env = pure false) :
    PS X (.Assign [.Subscript o i pos'] value pos) (sDPut td ty tv) := by
  intro pins s σ H D I h
  refine wpAny_Assign_Subscript (thn (hv pins s σ H _ I h) fun r s1 ⟨v, H1, I1, rv, q1⟩ => thn (ho pins s1 σ H1 _ I1 q1) fun u s2 ⟨x, H2, I2, rx, q2⟩ => thn (hi pins s2 σ H2 _ I2 q2) fun iv s3 ⟨y, H3, I3, ry, a, H4, ex, g, q3⟩ => ?_) hs
  subst ex
  obtain rfl : u = Value.ref a := rx
  exact d_setItem hu I3 g ry rv fun s4 I4 => ⟨σ, H4, I4, q3⟩
end


theorem dk_empty {P : Program} {w : World} {H : Hp} (h : Heap) (hb : sysModules < h.objs.size) : ObjOk P w H (h.push { cls := .type "dict", data := .dict #[] }) h.objs.size (.dK []) :=
  ⟨Nat.zero_le _, beq_eq_false_iff_ne.mpr (Ne.symm (Nat.ne_of_lt hb)), [], .nil, Heap.DictOf.new h⟩
def tDNewK : TE := fun _ H Q => ∀ p, H p = none → Q (.ref p) (upd H p (.dK []))
def tDNewT : TE := fun _ H Q => ∀ p, H p = none → Q (.ref p) (upd H p (.dT []))
section
variable {X : Cx} {pos : Pos}
theorem pe_dnewK : PE X (.Dict [] [] pos) tDNewK := fun pins s σ H Q I h =>
  wpAny_Dict_empty ⟨.ref s.heap.objs.size, _, I.laid (a := s.heap.objs.size) (o := .dK []) (t' := s.toks) (fun _ _ q => Heap.get?_push_of_some _ q) (Nat.le_refl _) (dk_empty s.heap I.big), rfl, h _ (I.hok.fresh (Nat.le_refl _))⟩
end

def tPairs : List (TE × TE) → St → Hp → (List (V × V) → Hp → Prop) → Prop
  | [], _, H, Q => Q [] H
  | (tk, tv) :: r, σ, H, Q => tk σ H fun x H1 => tv σ H1 fun y H2 => tPairs r σ H2 fun ps H3 => Q ((x, y) :: ps) H3
abbrev VV : List (V × V) → List (Value × Value) → Prop := Paired fun p q => RelV p.1 q.1 ∧ RelV p.2 q.2
def PPs (X : Cx) (pos : Pos) (keys : List (Option Expr)) (values : List Expr) (trs : List (TE × TE)) : Prop :=
  ∀ (pins : List (Addr × Obj)) (s : Shared) (σ : St) (H : Hp) (Q : List (V × V) → Hp → Prop), Inv X pins σ H s → tPairs trs σ H Q →
    wpAny (model X.prog X.w) X.A (evalPairs (pairTrees keys values X.env pos)) (fun vs s' => ∃ ps H', Inv X pins σ H' s' ∧ VV ps vs ∧ Q ps H') X.xe s
def mergeK (kvs more : List (Key × V)) : List (Key × V) := more.foldl (fun acc kv => putK acc kv.1 kv.2) kvs
def tDisp (trs : List (TE × TE)) : TE := fun σ H Q => ∀ p, H p = none → tPairs trs σ (upd H p (.dK [])) fun ps H2 => H2 p = some (.dK []) ∧ ∃ kvs : List (Key × V), ps = kvs.map (fun kv => (kV kv.1, kv.2)) ∧ kvs.length ≤ 15 ∧ Q (.ref p) (upd H2 p (.dK (mergeK [] kvs)))
structure M1 (X : Cx) (o : Expr) (m : Str) (apos : Pos) (e : Expr) (cpos : Pos) : Prop where
  base : attributeBase o m X.env (eval o X.env) = eval o X.env
  few : ((backTo cpos (starEach [e] X.env)).all (fun x => !x.1) && (backToKw cpos (keywordEach [] X.env)).all (fun x => x.1.isSome)
    && decide (([e] : List Expr).length + ([] : List Keyword).length + (if ([] : List Keyword).isEmpty then 0 else 1) < 30)) = true
  line : (apos.endLine == cpos.line) = true
  trees : backTo cpos (starEach [e] X.env) = [(false, eval e X.env)]
structure M2 (X : Cx) (o : Expr) (m : Str) (apos : Pos) (e f : Expr) (cpos : Pos) : Prop where
  base : attributeBase o m X.env (eval o X.env) = eval o X.env
  few : ((backTo cpos (starEach [e, f] X.env)).all (fun x => !x.1) && (backToKw cpos (keywordEach [] X.env)).all (fun x => x.1.isSome)
    && decide (([e, f] : List Expr).length + ([] : List Keyword).length + (if ([] : List Keyword).isEmpty then 0 else 1) < 30)) = true
  line : (apos.endLine == cpos.line) = true
  trees : backTo cpos (starEach [e, f] X.env) = [(false, eval e X.env), (false, eval f X.env)]

def IsD (H : Hp) (a : Addr) : Prop := (∃ kvs, Rd H a (.dK kvs)) ∨ ∃ kvs, Rd H a (.dT kvs)
section
variable {X : Cx} {pins : List (Addr × Obj)} {σ : St} {H : Hp} {s : Shared} {a : Addr} {y d : V} {u r : Value} {o : Option V} {A : Around} {E : Value → Shared → Prop}
end

def tDGet1 (td ty : TE) : TE := fun σ H Q => td σ H fun x H1 => ∃ a, x = .ref a ∧ IsD H1 a ∧ ty σ H1 fun y H2 => ∃ o, DGet H2 a y o ∧ Q (o.getD .non) H2
def tDGet2 (td ty tx : TE) : TE := fun σ H Q => td σ H fun x H1 => ∃ a, x = .ref a ∧ IsD H1 a ∧ ty σ H1 fun y H2 => tx σ H2 fun z H3 => ∃ o, DGet H3 a y o ∧ Q (o.getD z) H3
def tDPop1 (td ty : TE) : TE := fun σ H Q => td σ H fun x H1 => ∃ a, x = .ref a ∧ IsD H1 a ∧ ty σ H1 fun y H2 => ∃ kvs k v, H2 a = some (.dK kvs) ∧ y = kV k ∧ valV kvs k = some v ∧ Q v (upd H2 a (.dK (dropK kvs k)))
def tDPop2 (td ty tx : TE) : TE := fun σ H Q => td σ H fun x H1 => ∃ a, x = .ref a ∧ IsD H1 a ∧ ty σ H1 fun y H2 => tx σ H2 fun z H3 => ∃ kvs k, H3 a = some (.dK kvs) ∧ y = kV k ∧
  (∀ v, valV kvs k = some v → Q v (upd H3 a (.dK (dropK kvs k)))) ∧ (valV kvs k = none → Q z H3)
section
variable {X : Cx} {o e f : Expr} {apos cpos : Pos} {td ty tx : TE}
end

section
variable {X : Cx} {pins : List (Addr × Obj)} {σ : St} {H : Hp} {s : Shared} {a : Addr} {kvs : List (Key × V)} {A : Around} {E : Value → Shared → Prop}
end


section
variable {X : Cx} {pins : List (Addr × Obj)} {σ : St} {H : Hp} {s : Shared} {a : Addr} {y : V} {u : Value} {A : Around} {E : Value → Shared → Prop}
end
end L2

set_option maxHeartbeats 4000000
namespace Ty
open PySem PySem.Spec PyProof.Rows L2
section
variable {X : Cx}
theorem seer_of {pins : List (Addr × Obj)} {σ : L2.St} {H : Hp} {s : Shared} (I : Inv X pins σ H s) : s.heap.NoSeer := I.ok.mod.seer.keeps I.bk
theorem Room.py {k : Nat} {A : Around} (r : Room k A) (h : 32 ≤ k) : A.depth + Builtin.pylongFrames < recursionLimit := by
  have := r.dp
  have : Builtin.pylongFrames = 100 := rfl
  omega
theorem op_fdivU {env : Env} {l : List Env} (ht : X.prog.given.tree = none) (hd : X.A.depth + Builtin.pylongFrames < recursionLimit) (hst : X.stack = env :: l) (h1 : env.scope.isGenerator = false) (h2 : env.scope.isCoroutine = false) (h3 : env.builtins = builtinsNs) (h4 : env.globals = mainGlobals) :
    OpR X (binaryOp .FloorDiv) (rI CMod fun i j => .int (i.fdiv j)) := by
  intro pins s σ H x y v u Q I rx ry h
  obtain ⟨i, j, rfl, rfl, hc, q⟩ := h
  obtain ⟨t, rfl⟩ := rx
  obtain ⟨t', rfl⟩ := ry
  exact floordiv_int hc ⟨.int _, H, I.tok _, ⟨_, rfl⟩, q⟩ (.inr (PylongRoom.of I.nolimit hd (SeerAt.of (seer_of I) ht (by rw [I.ok.frames, hst]) h1 h2 h3 h4)))
end
end Ty

set_option maxHeartbeats 4000000
namespace Ty
open PySem PySem.Spec PyProof.Rows L2
section
variable {prog : Program} {w : World} {A : Around} {E : Value → Shared → Prop} {s : Shared} {KK : Type} [DecidableEq KK] {knd : KeyKind prog w KK}
theorem hint_dict {d : Addr} {kvs : List (KK × Value)} {Q : Bool → Shared → Prop} (hm : s.heap.DictOf knd d kvs) (h : Q false s) : wpAny (model prog w) A (Builtin.List.listLengthHint (.ref d)) Q E s := by
  unfold Builtin.List.listLengthHint
  refine wpAny_bind (wpAny_specialOf (name := Str.ofString "__len__") hm.typeIs F.slot_dict_len.lookup ?_)
  generalize hid : ("dict.__len__" : String) = id0
  wp_delta
  rw [show splitId id0 = some ("dict", "__len__") from by subst hid; decide +kernel]
  subst hid
  refine wpAny_bind (wpAny_isInstance (T := "dict") (b := true) hm.typeIs (by rw [isSubtype_type]; kernel_rfl) ?_)
  refine wpAny_ite_split (fun hab => absurd hab (by decide)) (fun _ => ?_)
  refine wpAny_ite_split (fun _ => ?_) (fun hab => absurd (by decide +kernel) hab)
  refine wpAny_bind (wpAny_typeOf (T := "dict") hm.typeIs ?_)
  exact wpAny_pure h
theorem extend_dict {R : Result → Shared → Prop} {d : Addr} {kvs : List (KK × Value)} {ep : Nat} (hh : A.handled = none) (hd : (d == sysModules) = false) (hm : s.heap.DictAt knd d kvs ep) (hlen : kvs.length ≤ sizeLine) (S : Addr) (res : Value) (c₀ : Nat) (hS : s.heap.get? S = some { cls := .type "list", data := .seq #[] c₀ })
    (hR : ∀ h' tk acc' c', (∀ b o, b ≠ S → s.heap.get? b = some o → h'.get? b = some o) → h'.get? S = some { cls := .type "list", dict := none, data := .seq acc' c', slots := #[] } →
      ItemsOf (fun i v => ∃ k x, kvs[i]? = some (k, x) ∧ knd.is k v = true) acc' kvs.length → R (.ok (.ret res)) { s with heap := h', toks := tk }) :
    wpAny (model prog w) A.in1 (Builtin.List.listExtendWith (.ref S) (.ref d) res)
      (fun fin s' => match fin with | .done f => R (.ok f) s' | .again c' => c'.quiet = true ∧ codeAny (model prog w) A c' R s') (fun e s' => R (.error e) s') s := by
  obtain ⟨od, es, hod, hcd, hdat, hk0, hp0, hn0⟩ := id hm
  have hT : s.TypeIs (.ref d) "dict" := hm.dictOf.typeIs
  have hSd : S ≠ d := fun e => by
    rw [e] at hS
    rw [hS] at hod
    cases hod
    cases hdat
  have hdI : d ≠ s.heap.objs.size := Nat.ne_of_lt (Heap.lt_size hod)
  have hSI : S ≠ s.heap.objs.size := Nat.ne_of_lt (Heap.lt_size hS)
  have hSf : S ∉ [s.heap.objs.size, d] := fun hm => by
    rcases List.mem_cons.mp hm with z | z
    · exact hSI z
    · exact hSd (List.mem_singleton.mp z)
  have W := (Walks.dictKeys (knd := knd) (A := A.in1) hh s.heap.objs.size d hdI kvs ep).toS
  unfold Builtin.List.listExtendWith
  refine wpAny_bind (wpAny_typeOf (T := "dict") hT ?_)
  have h1 : Builtin.List.listSameRef (.ref S) (.ref d) = false := by simp [Builtin.List.listSameRef, hSd]
  have h2 : (Value.type "dict" == Value.type "list") = false := by decide
  have h3 : (Value.type "dict" == Value.type "tuple") = false := by decide
  simp only [h1, h2, h3, Bool.or_false, Bool.false_eq_true, if_false]
  refine wpAny_bind (wpAny_pyIter_dict hd hm ?_)
  have hm1 : (s.heap.push { cls := .type "dict_keyiterator", data := .fields #[.ref d, .int 0 0, .int kvs.length 0, .int ep 0] }).DictAt knd d kvs ep := hm.at' fun o e => Heap.get?_push_of_some _ e
  refine wpAny_bind (wpAny_holding (hint_dict (knd := knd) hm1.dictOf ?_))
  have hS₁ := Heap.get?_push_of_some { cls := .type "dict_keyiterator", data := .fields #[.ref d, .int 0 0, .int kvs.length 0, .int ep 0] } hS
  have it₁ : (s.heap.push { cls := .type "dict_keyiterator", data := .fields #[.ref d, .int 0 0, .int kvs.length 0, .int ep 0] }).IsKeyIter s.heap.objs.size d 0 kvs.length ep := ⟨_, Heap.get?_push_size _ rfl, rfl, rfl⟩
  have key : ∀ (h : Heap) (c₁ tk : Nat), h.IsKeyIter s.heap.objs.size d 0 kvs.length ep → h.DictAt knd d kvs ep → (∀ b o, b ≠ S → s.heap.get? b = some o → h.get? b = some o) →
      h.get? S = some { cls := .type "list", data := .seq #[] c₁ } → codeAny (model prog w) A (.builtin "list.extend.loop" ⟨[.ref S, .ref s.heap.objs.size, res], []⟩) R { s with heap := h, toks := tk } := by
    intro h c₁ tk hit hdm hk hS₁
    refine codeAny_extend_loopS W hlen S hSf res kvs.length 0 _ #[] c₁ rfl (Nat.zero_le _) ⟨hit, hdm⟩ hS₁ (ItemsOf.nil _) fun s' acc' c' hm' hS' hacc => ?_
    rw [Moved.eq_with hm']
    refine hR s'.heap s'.toks acc' c' (fun b o hb e => hm'.heap b o (fun hmem => ?_) (hk b o hb e)) hS' hacc
    rcases List.mem_cons.mp hmem with e' | hmem
    · exact hb e'
    · exact absurd (Heap.lt_size e) (by rw [List.mem_singleton.mp hmem]; exact Nat.lt_irrefl _)
  refine wpAny_ite_split (fun _ => ?_) (fun _ => wpAny_pure ⟨plainId_quiet F.plain_extend_loop _, key _ c₀ _ it₁ hm1 (fun b o _ e => Heap.get?_push_of_some _ e) hS₁⟩)
  refine wpAny_bind (wpAny_rule ?_)
  refine wpAny_bind ?_
  show wpAny _ _ (updateSeq S (·.push .none) >>= fun _ => updateSeq S (·.pop)) _ _ _
  refine wpAny_bind (wpAny_updateSeq hS₁ rfl ?_)
  have hS₂ := Heap.get?_update_self (Obj.mapSeq (·.push Value.none)) hS₁ rfl
  refine wpAny_updateSeq (hz := by seq_fits) hS₂ rfl ?_
  have hS₃ := Heap.get?_update_self (Obj.mapSeq (·.pop)) hS₂ rfl
  refine wpAny_pure ⟨plainId_quiet F.plain_extend_loop _, key _ _ _ (it₁.at fun o e => ?_) (hm1.at' fun o e => ?_) (fun b o hb e => ?_) hS₃⟩
  · exact (Heap.get?_update_other _ _ hSI).trans ((Heap.get?_update_other _ _ hSI).trans e)
  · exact (Heap.get?_update_other _ _ hSd).trans ((Heap.get?_update_other _ _ hSd).trans e)
  · exact (Heap.get?_update_other _ _ (Ne.symm hb)).trans ((Heap.get?_update_other _ _ (Ne.symm hb)).trans (Heap.get?_push_of_some _ e))
theorem list_init_dict {R : Result → Shared → Prop} {d : Addr} {kvs : List (KK × Value)} {ep : Nat} (hh : A.handled = none) (hd : (d == sysModules) = false) (hm : s.heap.DictAt knd d kvs ep) (hlen : kvs.length ≤ sizeLine) (S : Addr) (hS : s.heap.get? S = some { cls := .type "list", data := .seq #[] })
    (hR : ∀ h' tk acc' c', (∀ b o, b ≠ S → s.heap.get? b = some o → h'.get? b = some o) → h'.get? S = some { cls := .type "list", dict := none, data := .seq acc' c', slots := #[] } →
      ItemsOf (fun i v => ∃ k x, kvs[i]? = some (k, x) ∧ knd.is k v = true) acc' kvs.length → R (.ok (.ret .none)) { s with heap := h', toks := tk }) :
    wpAny (model prog w) A.in1 (Builtin.«list.__init__» ⟨[.ref S, .ref d], []⟩)
      (fun fin s' => match fin with | .done f => R (.ok f) s' | .again c' => c'.quiet = true ∧ codeAny (model prog w) A c' R s') (fun e s' => R (.error e) s') s := by
  obtain ⟨od, es, hod, hcd, hdat, hk0, hp0, hn0⟩ := id hm
  have hSd : S ≠ d := fun e => by
    rw [e] at hS
    rw [hS] at hod
    cases hod
    cases hdat
  show wpAny _ _ (do let old ← Builtin.List.listItems (.ref S); Builtin.List.listUpdate (.ref S) (fun _ => #[]); letGo old.toList.reverse; Builtin.List.listExtendWith (.ref S) (.ref d) .none) _ _ s
  refine wpAny_bind ?_
  unfold Builtin.List.listItems
  refine wpAny_bind (wpAny_seqItems hS rfl (wpAny_pure ?_))
  show wpAny _ _ (updateSeq S (fun _ => #[]) >>= fun _ => letGo (#[] : Array Value).toList.reverse >>= fun _ => Builtin.List.listExtendWith (.ref S) (.ref d) .none) _ _ s
  refine wpAny_bind (wpAny_updateSeq hS rfl ?_)
  have hS₂ := Heap.get?_update_self (Obj.mapSeq (fun _ => (#[] : Array Value))) hS rfl
  have oth : ∀ b o, b ≠ S → s.heap.get? b = some o → (s.heap.update S (Obj.mapSeq (fun _ => (#[] : Array Value)))).get? b = some o :=
    fun b o hb e => (Heap.get?_update_other _ _ (Ne.symm hb)).trans e
  refine wpAny_bind (wpAny_letGo ?_)
  refine extend_dict hh hd (hm.at' fun o e => oth d o (Ne.symm hSd) e) hlen S .none _ hS₂ fun h' tk acc' c' hk hS' hacc => ?_
  exact hR h' tk acc' c' (fun b o hb e => hk b o hb (oth b o hb e)) hS' hacc
theorem call_list_dict {Q : Value → Shared → Prop} {d : Addr} {kvs : List (KK × Value)} {ep : Nat} (hh : A.handled = none) (hd : (d == sysModules) = false) (hm : s.heap.DictAt knd d kvs ep) (hlen : kvs.length ≤ sizeLine)
    (hQ : ∀ h' tk acc' c', (∀ b o, s.heap.get? b = some o → h'.get? b = some o) →
      h'.get? s.heap.objs.size = some { cls := .type "list", dict := none, data := .seq acc' c', slots := #[] } → ItemsOf (fun i v => ∃ k x, kvs[i]? = some (k, x) ∧ knd.is k v = true) acc' kvs.length → Q (.ref s.heap.objs.size) { s with heap := h', toks := tk }) :
    wpAny (model prog w) A (call (.type "list") [.ref d]) Q E s := by
  refine callType_codes (Q₁ := fun obj s₁ => obj = .ref s.heap.objs.size ∧ s₁ = { s with heap := s.heap.push { cls := .type "list", data := .seq #[] } }) F.called_list (F.typeCall_list_1 _) F.entry_list_init
    (code_list_new _ ⟨rfl, rfl⟩) fun obj s₁ h₁ => ?_
  obtain ⟨rfl, rfl⟩ := h₁
  have hS : (s.heap.push { cls := .type "list", data := .seq #[] }).get? s.heap.objs.size = some { cls := .type "list", data := .seq #[] } := Heap.get?_push_size _ rfl
  refine ⟨⟨_, hS, rfl⟩, F.args_list_init_2 _ _, list_init_dict (A := A.in1) hh hd (hm.at' fun o e => Heap.get?_push_of_some _ e) hlen _ hS fun h' tk acc' c' hk hS' hacc => ?_⟩
  exact ⟨rfl, hQ h' tk acc' c' (fun b o e => hk b o (Nat.ne_of_lt (Heap.lt_size e)) (Heap.get?_push_of_some _ e)) hS' hacc⟩
end
theorem paired_get {α β : Type} {F : α → β → Prop} : ∀ {l₁ : List α} {l₂ : List β} {i : Nat} {a : α}, Paired F l₁ l₂ → l₁[i]? = some a → ∃ b, l₂[i]? = some b ∧ F a b
  | _, _, _, _, .nil, h => by simp at h
  | _, _, 0, _, .cons r _, h => by
    cases h
    exact ⟨_, rfl, r⟩
  | _, _, i + 1, _, .cons _ t, h => by
    obtain ⟨b, e, f⟩ := paired_get (i := i) t (by simpa using h)
    exact ⟨b, by simpa using e, f⟩
theorem paired_of {α β : Type} {F : α → β → Prop} : ∀ {l₁ : List α} {l₂ : List β}, l₁.length = l₂.length → (∀ (i : Nat) (a : α) (b : β), l₁[i]? = some a → l₂[i]? = some b → F a b) → Paired F l₁ l₂
  | [], [], _, _ => .nil
  | a :: l₁, b :: l₂, h, f => .cons (f 0 a b rfl rfl) (paired_of (by simpa using h) fun i a b e1 e2 => f (i + 1) a b (by simpa using e1) (by simpa using e2))
  | [], _ :: _, h, _ => by simp at h
  | _ :: _, [], h, _ => by simp at h
theorem key_rel {P : Program} {w : World} {k : Key} {u : Value} (h : (mixKind P w).is k u = true) : RelV (kV k) u := by
  rcases keyIs_shape h with ⟨i, t, rfl, rfl⟩ | ⟨x, t, rfl, rfl⟩
  · exact ⟨t, rfl⟩
  · exact ⟨t, rfl⟩
section
variable {X : Cx}
def rListD : List V → Hp → VK → Prop := fun xs H Q => ∃ (p : Addr) (kvs : List (Key × V)), xs = [.ref p] ∧ Rd H p (.dK kvs) ∧ ∀ l, H l = none → Q (.ref l) (upd H l (.lst (kvs.map fun kv => kV kv.1)))
theorem call_listD (hc : X.calm = true) : CallR X (.type "list") rListD := by
  intro pins s σ H xs us Q I r h
  obtain ⟨p, kvs, rfl, hq, q⟩ := h
  obtain ⟨u, rfl, r1⟩ := vals1 r
  cases r1
  obtain ⟨z, hd, vs, rel, o, es, ep, ho, hx, hdat, hk, hp, hn⟩ := dk_rd I.hok hq
  have hl := rel.length
  refine call_list_dict (knd := mixKind X.prog X.w) (I.ok.hd hc) hd ⟨o, es, ho, hx, hdat, hk, hp, hn⟩ (by omega) fun h' tk acc' c' kk hS hacc => ?_
  have hn' := I.hok.fresh (Nat.le_refl s.heap.objs.size)
  have rv : Vals (kvs.map fun kv => kV kv.1) acc'.toList := paired_of (by have := hacc.1; simp; omega) fun i a b e1 e2 => by
    rw [List.getElem?_map] at e1
    obtain ⟨kv, ek, rfl⟩ := Option.map_eq_some_iff.mp e1
    obtain ⟨q', eq, e3, _⟩ := paired_get rel ek
    obtain ⟨k, x, e4, e5⟩ := hacc.2 i b (by simpa using e2)
    rw [eq] at e4
    cases e4
    rw [e3]
    exact key_rel e5
  have I2 : Inv X pins σ (upd H s.heap.objs.size (.lst (kvs.map fun kv => kV kv.1))) { s with heap := h', toks := tk } := I.laid (t' := tk) kk (Nat.le_refl _) ⟨by rw [List.length_map]; exact z, acc'.toList, c', rv, by simpa using hS⟩
  exact ⟨.ref _, _, I2, rfl, q _ hn'⟩
theorem Inv.freeze {pins : List (Addr × Obj)} {σ : L2.St} {H : Hp} {s : Shared} {d : Addr} {kvs : List (Key × V)} {o : Obj} (I : Inv X pins σ H s) (e : H d = some (.dK kvs)) (ho : s.heap.get? d = some o) : Inv X pins σ (upd H d (.frz o (.dK kvs))) s := by
  have nx : ∀ b u, H b = some u → b ≠ d → upd H d (.frz o (.dK kvs)) b = some u := fun b u q n => by rw [upd_ne n]; exact q
  refine I.step (g' := s.gens) (t' := s.toks) (d' := s.drawn) (ch := []) (fun _ z => nomatch z) (fun b o _ _ _ e _ => e) (fun b o _ _ _ e _ => ⟨o.slots, e⟩) (fun b o _ _ n => by rw [upd_ne (fun z => by rw [z, e] at n; cases n)]; exact n) (fun b o _ e => ⟨o, e⟩)
    (fun b xs q => nx b _ q fun z => by rw [z, e] at q; cases q) (fun b o' u q => nx b _ q fun z => by rw [z, e] at q; cases q) (fun b ps q => ⟨#[], by rw [nx b _ q fun z => by rw [z, e] at q; cases q]; simp⟩) (fun m hm => hm) (fun b u q => ?_) I.bare
  by_cases hb : b = d
  · subst hb
    rw [upd_same] at q
    cases q
    exact ⟨ho, I.hok b _ e⟩
  · rw [upd_ne hb] at q
    exact (I.hok b u q).stay (fun _ _ _ k => k) (fun c k => nx c _ k fun z => by rw [z, e] at k; cases k) fun c xs k => nx c _ k fun z => by rw [z, e] at k; cases k
def Itd (d : Addr) (o : Obj) (kvs : List (Key × V)) : It :=
  ⟨fun i H => H d = some (.frz o (.dK kvs)) ∧ i < kvs.length,
   fun i H v H' => ∃ p k x, kvs[i]? = some (k, x) ∧ v = .ref p ∧ H p = none ∧ H' = upd H p (.tup [kV k, x]),
   fun i H => H d = some (.frz o (.dK kvs)) ∧ kvs.length ≤ i⟩
theorem frz_at {P : Program} {w : World} {H : Hp} {h : Heap} {d : Addr} {o : Obj} {kvs : List (Key × V)} {es0 : Array DictEntry} {ep : Nat} (ok : HOk P w H h) (e : H d = some (.frz o (.dK kvs))) (he : o.data = .dict es0 ep) :
    (d == sysModules) = false ∧ ∃ vs, KV kvs vs ∧ h.DictAt (mixKind P w) d vs ep ∧ kvs.length ≤ sizeLine := by
  obtain ⟨h1, z, hd, vs, rel, o', es, ep', ho, hx, hdat, hk, hp, hn⟩ := ok d _ e
  rw [h1] at ho
  cases ho
  rw [he] at hdat
  cases hdat
  exact ⟨hd, vs, rel, ⟨o, es0, h1, hx, he, hk, hp, hn⟩, z⟩
theorem entry_iter_items : entryFor table "dict_itemiterator.__iter__" = some Builtin.«dict_keyiterator.__iter__» :=
  entryFor_alias (id' := "dict_keyiterator.__iter__") (by kernel_rfl) (by first | rfl | decide +kernel | (unfold String.splitOn; simp +decide [String.splitOnAux])) (by decide +kernel) (by kernel_rfl)
theorem iter_items {P : Program} {w : World} {A : Around} {E : Value → Shared → Prop} {s : Shared} {it d : Addr} {i n ep : Nat} {ok ov : Value} {Q : Value → Shared → Prop} (st : IsItemIter s.heap it d i n ep ok ov) (h : Q (.ref it) s) : wpAny (model P w) A (pyIter (.ref it)) Q E s := by
  have hT : s.TypeIs (.ref it) "dict_itemiterator" := ⟨_, st, rfl⟩
  refine wpAny_pyIter_slot hT F.slot_dict_itemiterator_iter (wpAny_call_entry F.slot_dict_itemiterator_iter hT entry_iter_items ?_ (F.args_dict_itemiterator_iter_1 _))
  show wpAny _ _ (ret (.ref it)) _ _ s
  exact wpAny_pure ⟨_, rfl, "dict_itemiterator", _, hT, F.slot_dict_itemiterator_next.lookup, h⟩
theorem turn_items {P : Program} {w : World} {K : PySem.W.Frag} {es : List Expr} {k : Nat} {pos : Pos} (d it : Addr) (o : Obj) (kvs : List (Key × V)) {es0 : Array DictEntry} {ep : Nat} (he : o.data = .dict es0 ep) (hne : it ≠ d) :
    Turn P w K (.Tuple es k pos) (Itd d o kvs) [it] it (fun i h => ∃ ok ov, IsItemIter h it d i kvs.length ep ok ov) where
  mem := by simp
  obj := fun i h st b hb => by
    have e : b = it := by simpa using hb
    subst e
    obtain ⟨ok, ov, st⟩ := st
    exact ⟨_, st, fun v z => by cases z⟩
  keep := fun i h h' st k => by
    obtain ⟨ok, ov, st⟩ := st
    exact ⟨ok, ov, k it (by simp) _ st⟩
  item := by
    intro X hP hw hK hc i pins s σ H E I hf st hg
    subst hP hw hK
    obtain ⟨ok, ov, st⟩ := st
    obtain ⟨fz, hi⟩ := hg
    obtain ⟨hd, vs, rel, da, _⟩ := frz_at I.hok fz he
    have ek : kvs[i]? = some kvs[i] := List.getElem?_eq_getElem hi
    obtain ⟨⟨k', u⟩, ev, e1, ru⟩ := paired_get rel ek
    have lv := rel.length
    rw [lv] at st
    refine wpAny_pyNext_items_item st da ev fun key h' hkey out tup sz kk => ?_
    refine ⟨_, rfl, wpAny_letOwnedTupleGo_items (s := { s with heap := h' }) out fun h'' it'' sb => ?_⟩
    have hsz : ∀ c o, s.heap.get? c = some o → s.heap.objs.size ≠ c := fun c o e => Nat.ne_of_gt (Heap.lt_size e)
    have tz : s.heap.objs.size ≠ it := hsz _ _ st
    have nz : ∀ c, c ≠ it → ∀ o, h'.get? c = some o → h''.get? c = some o := fun c hc o e => (sb.2 c hc).trans e
    have hn := I.hok.fresh (Nat.le_refl s.heap.objs.size)
    have e1' : kvs[i].1 = k' := e1
    have I2 : Inv X pins σ (upd H s.heap.objs.size (.tup [kV kvs[i].1, kvs[i].2])) { s with heap := h'', toks := s.toks } :=
      Inv.turnedT I (fun b o hb e => nz b (by simpa using hb) o (kk b o (by simpa using hb) e)) hf (Nat.le_refl _) (by show 2 ≤ sizeLine; decide) (its := [key, u]) (.cons (by rw [e1']; exact key_rel hkey) (.cons ru .nil)) ⟨_, nz _ tz _ tup, rfl, _, rfl⟩
    refine ⟨.ref s.heap.objs.size, _, I2, rfl, ⟨s.heap.objs.size, kvs[i].1, kvs[i].2, ek, rfl, hn, rfl⟩, ⟨_, _, by rw [lv]; exact it''⟩, fun b hb => ?_⟩
    have eb : b = it := by simpa using hb
    rw [upd_ne (by rw [eb]; exact Ne.symm tz)]
    exact (hf b hb).1
  done := by
    intro X hP hw hK hc i pins s σ H E I hf st hg
    subst hP hw hK
    obtain ⟨ok, ov, st⟩ := st
    obtain ⟨fz, hi⟩ := hg
    obtain ⟨hd, vs, rel, da, _⟩ := frz_at I.hok fz he
    have lv := rel.length
    rw [lv] at st
    obtain ⟨f0, f1, f2, f3, f4, f5⟩ := hf it (by simp)
    exact wpAny_pyNext_items_end (I.ok.hd hc) st da (List.getElem?_eq_none (by omega)) fun h' eb => ⟨rfl, I.turned (t' := s.toks) (fun b o hb e => eb b o hb e) f0 f1 f3 f4 f5⟩
  self := fun _ _ _ _ _ st h => by
    obtain ⟨ok, ov, st⟩ := st
    exact iter_items st h
def iItems (te : TE) : TI := fun σ H R => te σ H fun x H1 => ∃ d kvs, x = .ref d ∧ H1 d = some (.dK kvs) ∧ ∀ o, R (Itd d o kvs) (upd H1 d (.frz o (.dK kvs)))
end
end Ty

set_option maxHeartbeats 4000000
namespace Ty
def ev : List Int → (Nat → Rat) → Rat
  | [], _ => 0
  | a :: r, z => (a : Rat) * z 0 + ev r (fun i => z (i + 1))
theorem ev_add : ∀ (l : List Int) (z y : Nat → Rat), ev l (fun i => z i + y i) = ev l z + ev l y
  | [], _, _ => by simp [ev]; grind
  | a :: r, z, y => by
    simp only [ev]
    rw [ev_add r (fun i => z (i + 1)) (fun i => y (i + 1))]
    grind
theorem ev_none : ∀ (l : List Int) (z : Nat → Rat), (∀ j, ((l.getD j 0 : Int) : Rat) * z j = 0) → ev l z = 0
  | [], _, _ => rfl
  | a :: r, z, h => by
    have h0 := h 0
    have ih := ev_none r (fun i => z (i + 1)) (fun j => by simpa using h (j + 1))
    simp only [ev]
    rw [ih]
    simp at h0
    grind
theorem ev_one : ∀ (l : List Int) (z : Nat → Rat) (p : Nat), (∀ j, j ≠ p → ((l.getD j 0 : Int) : Rat) * z j = 0) → ev l z = ((l.getD p 0 : Int) : Rat) * z p
  | [], _, _, _ => by simp [ev]
  | a :: r, z, 0, h => by
    have ih := ev_none r (fun i => z (i + 1)) (fun j => by simpa using h (j + 1) (by omega))
    simp only [ev]
    rw [ih]
    simp
    grind
  | a :: r, z, p + 1, h => by
    have h0 := h 0 (by omega)
    have ih := ev_one r (fun i => z (i + 1)) p (fun j hj => by simpa using h (j + 1) (by omega))
    simp only [ev]
    rw [ih]
    simp at h0
    simp
    grind
theorem ev_lin {s t u : Int} : ∀ {new line lead : List Int}, new.length = line.length → lead.length = line.length → (∀ j, s * new.getD j 0 = t * line.getD j 0 - u * lead.getD j 0) → ∀ z : Nat → Rat, (s : Rat) * ev new z = t * ev line z - u * ev lead z
  | [], [], [], _, _, _, z => by simp [ev]; grind
  | a :: new, b :: line, c :: lead, h1, h2, h, z => by
    have h0 := h 0
    have ih := ev_lin (by simpa using h1) (by simpa using h2) (fun j => by simpa using h (j + 1)) (fun i => z (i + 1))
    simp at h0
    have h0' : (s : Rat) * a = t * b - u * c := by exact_mod_cast h0
    simp only [ev]
    grind
  | [], _ :: _, _, h, _, _, _ => by simp at h
  | _ :: _, [], _, h, _, _, _ => by simp at h
  | _, [], _ :: _, _, h, _, _ => by simp at h
  | _, _ :: _, [], _, h, _, _ => by simp at h
def csum : List Rat → List (List Int) → Nat → Rat
  | c :: y, o :: os, j => c * ((o.getD j 0 : Int) : Rat) + csum y os j
  | _, _, _ => 0
theorem csum_lin {s t u : Rat} (hs : s ≠ 0) (j : Nat) : ∀ (os : List (List Int)) (y1 y2 : List Rat), y1.length = os.length → y2.length = os.length → s * csum (List.zipWith (fun a b => (t * a - u * b) / s) y1 y2) os j = t * csum y1 os j - u * csum y2 os j
  | [], [], [], _, _ => by simp [csum]; grind
  | o :: os, a :: y1, b :: y2, h1, h2 => by
    have ih := csum_lin (t := t) (u := u) hs j os y1 y2 (by simpa using h1) (by simpa using h2)
    simp only [List.zipWith_cons_cons, csum]
    grind
  | [], _ :: _, _, h, _ => by simp at h
  | [], [], _ :: _, _, h => by simp at h
  | _ :: _, [], _, h, _ => by simp at h
  | _ :: _, _ :: _, [], _, h => by simp at h
theorem csum_zero (j : Nat) : ∀ (os : List (List Int)), csum (List.replicate os.length 0) os j = 0
  | [] => rfl
  | o :: os => by
    simp only [List.length_cons, List.replicate_succ, csum]
    rw [csum_zero j os]
    grind
def Comb (os : List (List Int)) (l : List Int) : Prop := ∃ y : List Rat, y.length = os.length ∧ ∀ j, ((l.getD j 0 : Int) : Rat) = csum y os j
theorem comb_mem : ∀ {os : List (List Int)} {l : List Int}, l ∈ os → Comb os l
  | o :: os, l, h => by
    rcases List.mem_cons.mp h with z | z
    · subst z
      refine ⟨1 :: List.replicate os.length 0, by simp, fun j => ?_⟩
      simp only [csum]
      rw [csum_zero]
      grind
    · obtain ⟨y, hl, hy⟩ := comb_mem z
      refine ⟨0 :: y, by simp [hl], fun j => ?_⟩
      simp only [csum]
      rw [← hy j]
      grind
theorem comb_lin {os : List (List Int)} {new line lead : List Int} {s t u : Int} (hs : s ≠ 0) (h : ∀ j, s * new.getD j 0 = t * line.getD j 0 - u * lead.getD j 0) (h1 : Comb os line) (h2 : Comb os lead) : Comb os new := by
  obtain ⟨y1, l1, e1⟩ := h1
  obtain ⟨y2, l2, e2⟩ := h2
  have hs' := ratne hs
  refine ⟨List.zipWith (fun a b => ((t : Rat) * a - u * b) / s) y1 y2, by simp [l1, l2], fun j => ?_⟩
  have k := csum_lin (t := (t : Rat)) (u := (u : Rat)) hs' j os y1 y2 l1 l2
  rw [← e1 j, ← e2 j] at k
  have h' : (s : Rat) * (new.getD j 0 : Int) = t * (line.getD j 0 : Int) - u * (lead.getD j 0 : Int) := by exact_mod_cast h j
  rw [← h'] at k
  grind
def zOf (y : List Rat) : Nat → Rat := fun i => if i < y.length then y.getD i 0 else -1
theorem ev_col (j : Nat) (c : Int) : ∀ (os : List (List Int)) (y : List Rat), y.length = os.length → ev (os.map (fun o => o.getD j 0) ++ [c]) (zOf y) = csum y os j - c
  | [], [], _ => by simp [ev, zOf, csum]; grind
  | o :: os, a :: y, h => by
    have ih := ev_col j c os y (by simpa using h)
    have ez : (fun i => zOf (a :: y) (i + 1)) = zOf y := by
      funext i
      simp [zOf]
    simp only [List.map_cons, List.cons_append, ev, csum]
    rw [ez, ih]
    simp [zOf]
    grind
  | [], _ :: _, h => by simp at h
  | _ :: _, [], h => by simp at h
theorem csum_scale (k : Rat) (j : Nat) : ∀ (os : List (List Int)) (y : List Rat), csum (y.map (fun a => a * k)) os j = csum y os j * k
  | [], _ => by cases ‹List Rat› <;> simp [csum] <;> grind
  | _ :: _, [] => by simp [csum]
  | o :: os, a :: y => by
    simp only [List.map_cons, csum]
    rw [csum_scale k j os y]
    grind
structure Clr (line lead new : List Int) (c : Nat) : Prop where
  len : new.length = line.length
  nought : new.getD c 0 = 0
  lin : ∃ s t u : Int, s ≠ 0 ∧ t ≠ 0 ∧ ∀ j, s * new.getD j 0 = t * line.getD j 0 - u * lead.getD j 0
theorem Clr.zero {line lead new : List Int} {c : Nat} (h : Clr line lead new c) {j : Nat} (h1 : line.getD j 0 = 0) (h2 : lead.getD j 0 = 0) : new.getD j 0 = 0 := by
  obtain ⟨s, t, u, hs, _, e⟩ := h.lin
  have := e j
  rw [h1, h2, Int.mul_zero, Int.mul_zero, Int.sub_self] at this
  rcases Int.mul_eq_zero.mp this with z | z
  · exact absurd z hs
  · exact z
theorem Clr.at {line lead new : List Int} {c : Nat} (h : Clr line lead new c) {j : Nat} (h2 : lead.getD j 0 = 0) (h1 : line.getD j 0 ≠ 0) : new.getD j 0 ≠ 0 := by
  obtain ⟨s, t, u, hs, ht, e⟩ := h.lin
  have := e j
  rw [h2] at this
  intro z
  rw [z, Int.mul_zero, Int.mul_zero, Int.sub_zero] at this
  rcases Int.mul_eq_zero.mp this.symm with y | y
  · exact ht y
  · exact h1 y
theorem Clr.comb {os : List (List Int)} {line lead new : List Int} {c : Nat} (h : Clr line lead new c) (h1 : Comb os line) (h2 : Comb os lead) : Comb os new := by
  obtain ⟨s, t, u, hs, ht, e⟩ := h.lin
  exact comb_lin hs e h1 h2
theorem Clr.ev {line lead new : List Int} {c : Nat} (h : Clr line lead new c) (hl : lead.length = line.length) {z : Nat → Rat} (h2 : Ty.ev lead z = 0) : Ty.ev new z = 0 ↔ Ty.ev line z = 0 := by
  obtain ⟨s, t, u, hs, ht, e⟩ := h.lin
  have k := ev_lin h.len hl e z
  rw [h2] at k
  have hs' := ratne hs
  have ht' := ratne ht
  constructor
  · intro w
    rw [w] at k
    grind
  · intro w
    rw [w] at k
    grind
end Ty

set_option maxHeartbeats 4000000
namespace Ty
open PySem PySem.Spec PyProof.Rows L2
def Itn (K : PySem.W.Frag) (a : Addr) : It :=
  ⟨fun i H => ∃ xs x, SqL K H a xs ∧ xs[i]? = some x,
   fun i H v H' => ∃ p x, (∀ xs, SqL K H a xs → xs[i]? = some x) ∧ v = .ref p ∧ H p = none ∧ H' = upd H p (.tup [.int (i : Int), x]),
   fun i H => ∃ xs, SqL K H a xs ∧ xs.length ≤ i⟩
theorem turn_enum {P : Program} {w : World} {K : PySem.W.Frag} {es : List Expr} {k : Nat} {pos : Pos} (a e it : Addr) (hne : e ≠ it) :
    Turn P w K (.Tuple es k pos) (Itn K a) [e, it] e (fun i h => (∃ old, IsEnum h e it ((i : Nat) : Int) old) ∧ h.IsListIter it a i) where
  mem := by simp
  obj := fun i h st c hc => by
    obtain ⟨⟨old, he⟩, ⟨o1, e1, c1, d1⟩⟩ := st
    have hc' : c = e ∨ c = it := by simpa using hc
    rcases hc' with z | z <;> subst z
    · exact ⟨_, he, fun v z => by cases z⟩
    · exact ⟨_, e1, fun v z => by rw [d1] at z; cases z⟩
  keep := fun i h h' st k => by
    obtain ⟨⟨old, he⟩, h1⟩ := st
    exact ⟨⟨old, k e (by simp) _ he⟩, h1.at fun o e => k it (by simp) o e⟩
  item := by
    intro X hP hw hK hc i pins s σ H E I hf st hg
    subst hP hw hK
    obtain ⟨⟨old, he⟩, h1⟩ := st
    obtain ⟨xs, x, qx, ex⟩ := hg
    obtain ⟨its, rv, p, _⟩ := I.list qx
    obtain ⟨u, hu, ru⟩ := rv.get ex
    refine wpAny_pyNext_enum_item he h1 p.isList (x := u) (by simpa using hu) hne fun h' a1 a2 a3 a4 a5 => ?_
    refine ⟨_, rfl, wpAny_letOwnedTupleGo_enum (s := { s with heap := h', toks := s.toks + 1 }) a1 fun h'' b1 sb => ?_⟩
    have nz : ∀ c, c ≠ e → ∀ o, h'.get? c = some o → h''.get? c = some o := fun c hc o q => (sb.2 c hc).trans q
    have kk : ∀ b o, b ∉ [e, it] → s.heap.get? b = some o → h''.get? b = some o := fun b o hb q => by
      have hb' : b ≠ e ∧ b ≠ it := by simpa using hb
      exact nz b hb'.1 o (a5 b o hb'.1 hb'.2 q)
    have sz : ∀ c o, s.heap.get? c = some o → s.heap.objs.size ≠ c := fun c o q => Nat.ne_of_gt (Heap.lt_size q)
    have tz : s.heap.objs.size ≠ e := sz _ _ he
    have hn := I.hok.fresh (Nat.le_refl s.heap.objs.size)
    have I2 : Inv X pins σ (upd H s.heap.objs.size (.tup [.int (i : Int), x])) { s with heap := h'', toks := s.toks + 1 } :=
      Inv.turnedT I kk hf (Nat.le_refl _) (by show 2 ≤ sizeLine; decide) (its := [.int i s.toks, u]) (.cons ⟨_, rfl⟩ (.cons ru .nil)) ⟨_, nz _ tz _ a3, rfl, _, rfl⟩
    refine ⟨.ref s.heap.objs.size, _, I2, rfl, ⟨s.heap.objs.size, x, fun xs' q => by rw [I.list_inj q qx]; exact ex, rfl, hn, rfl⟩, ⟨⟨_, by exact b1⟩, a2.at fun o q => nz _ (Ne.symm hne) o q⟩, fun b hb => ?_⟩
    have ob : ∃ o, s.heap.get? b = some o := by
      obtain ⟨o1, e1, _⟩ := h1
      have hc' : b = e ∨ b = it := by simpa using hb
      rcases hc' with z | z <;> subst z
      · exact ⟨_, he⟩
      · exact ⟨_, e1⟩
    obtain ⟨o, q⟩ := ob
    rw [upd_ne (Ne.symm (sz _ _ q))]
    exact (hf b hb).1
  done := by
    intro X hP hw hK hc i pins s σ H E I hf st hg
    subst hP hw hK
    obtain ⟨⟨old, he⟩, h1⟩ := st
    obtain ⟨xs, qx, ee⟩ := hg
    obtain ⟨its, rv, p, _⟩ := I.list qx
    have l1 := rv.length
    refine wpAny_pyNext_enum_end (I.ok.hd hc) he h1 p.isList (by simp; omega) fun h' kk => ⟨rfl, Inv.turnedL I (fun b o hb q => ?_) hf⟩
    have hb' : b ≠ e ∧ b ≠ it := by simpa using hb
    exact kk b o hb'.2 q
  self := fun _ _ _ _ _ st h => by
    obtain ⟨⟨old, he⟩, _⟩ := st
    exact wpAny_pyIter_enum he h
theorem boot_enumerate : bootBuiltins "enumerate" = some (.type "enumerate") := by decide +kernel
section
variable {X : Cx}
def iEnum (K : PySem.W.Frag) (ta : TA) : TI := fun σ H R => ta σ H fun vs H1 => ∃ a, vs = [.ref a] ∧ (∃ xs, SqL K H1 a xs) ∧ R (Itn K a) H1
theorem pi_enum {e1 : Expr} {ta : TA} {p pos : Pos} {es : List Expr} {k : Nat} {tpos : Pos} (hg : Gl X "enumerate") (hm : X.mg "enumerate" = none) (ha : PA X [e1] ta) (hs : starEach [e1] X.env = [(false, eval e1 X.env)] := by rfl) :
    PI X (.Tuple es k tpos) (.Call (.Name "enumerate" p) [e1] [] pos) (iEnum X.K ta) := by
  intro pins s σ H R I h
  refine Call_ (ld_blt I hg hm boot_enumerate (PyProof.Rows.callWith_type1 (thn (ha pos pins s σ H _ I h) fun us s1 ⟨vs, H1, I1, r1, q1⟩ => ?_) hs rfl))
  obtain ⟨a, e, ⟨xs, hx⟩, q⟩ := q1
  subst e
  cases r1 with
  | cons r rr =>
    cases rr
    cases r
    obtain ⟨its, rv, pl, _⟩ := I1.list hx
    refine call_enumerate_list pl.isList fun h' hE hI hsz hk => wpAny_pyIter_enum (s := { s1 with heap := h' }) hE ?_
    refine ⟨s1.heap.objs.size + 1, [s1.heap.objs.size + 1, s1.heap.objs.size], _, _, H1, rfl, I1.kept (t' := s1.toks) hk, turn_enum a _ _ (Nat.succ_ne_self _), ⟨⟨_, hE⟩, hI⟩, fun c hc => ?_, q⟩
    have hc' : s1.heap.objs.size ≤ c := by
      have : c = s1.heap.objs.size + 1 ∨ c = s1.heap.objs.size := by simpa using hc
      simp only [Addr] at *
      omega
    exact I1.fpOk hc' (I1.hok.fresh hc')
theorem any_range (bs : List Bool) : (List.range bs.length).any (fun i => (bs[i]?).getD true) = bs.any id := by
  rw [Bool.eq_iff_iff, List.any_eq_true, List.any_eq_true]
  constructor
  · rintro ⟨i, hi, h⟩
    have hi' : i < bs.length := List.mem_range.mp hi
    rw [List.getElem?_eq_getElem hi'] at h
    exact ⟨bs[i], List.getElem_mem hi', h⟩
  · rintro ⟨b, hb, h⟩
    obtain ⟨i, hi⟩ := List.getElem?_of_mem hb
    exact ⟨i, List.mem_range.mpr (List.getElem?_eq_some_iff.mp hi).1, by rw [hi]; exact h⟩
def rAny (K : PySem.W.Frag) : List V → Hp → VK → Prop := fun xs H Q => ∃ (p : Addr) (bs : List Bool), xs = [.ref p] ∧ SqL K H p (bs.map V.bl) ∧ Q (.bl (bs.any id)) H
theorem call_anyB (hc : X.calm = true) : CallR X (.builtin "any") (rAny X.K) := by
  intro pins s σ H xs us Q I r h
  obtain ⟨p, bs, rfl, hq, q⟩ := h
  obtain ⟨u, rfl, r1⟩ := vals1 r
  cases r1
  obtain ⟨its, rv, pl, hz⟩ := I.list hq
  refine call_any_walk (wpAny_pyIter_list pl.isList ?_)
  have hne : p ≠ s.heap.objs.size := by obtain ⟨o, ho, _⟩ := pl.isList; exact Nat.ne_of_lt (Heap.lt_size ho)
  have I1 : Inv X pins σ H { s with heap := s.heap.push { cls := .type "list_iterator", data := .fields #[.ref p, .int 0 0] } } := I.kept (t' := s.toks) fun b o e => Heap.get?_push_of_some _ e
  obtain ⟨f0, f1, f2, f3, f4, f5⟩ := I.fpOk (H' := H) (Nat.le_refl s.heap.objs.size) (I.hok.fresh (Nat.le_refl _))
  have hl : its.length = bs.length := by rw [← rv.length, List.length_map]
  refine ⟨s.heap.objs.size, _, _, _, _, _, fun i => (bs[i]?).getD true, rfl, Walks.list (A := X.A.in1) (I.ok.hd hc) s.heap.objs.size p hne its.toArray, ⟨⟨_, Heap.get?_push_size _ rfl, rfl, rfl⟩, pl.isList.at fun o e => Heap.get?_push_of_some _ e⟩, ?_, fun h' tk kk => ?_⟩
  · intro i v s' Q' E' hv hq'
    have hv' : its[i]? = some v := by simpa using hv
    have hi : i < bs.length := by rw [← hl]; exact (List.getElem?_eq_some_iff.mp hv').1
    have eb : (bs.map V.bl)[i]? = some (.bl bs[i]) := by rw [List.getElem?_map, List.getElem?_eq_getElem hi]; rfl
    obtain ⟨u, eu, ru⟩ := rv.get eb
    rw [hv'] at eu
    cases eu
    cases ru
    dsimp only at hq'
    rw [List.getElem?_eq_getElem hi] at hq'
    exact wpAny_truthy_bool hq'
  · refine ⟨.bl (bs.any id), H, I1.turned (t' := tk) (it := s.heap.objs.size) (fun b o hb e => kk b o (by simpa using hb) e) f0 f1 f3 f4 f5, ?_, q⟩
    show _ = _
    rw [← any_range bs, List.size_toArray, hl]
theorem b_any : bootBuiltins "any" = some (.builtin "any") := by decide +kernel
end
theorem for_enum {K : PySem.W.Frag} {a : Addr} {xs : List V} {g : TG} {tb : TS} {D : Ends} {σ : L2.St} {H : Hp} (Pv : Nat → L2.St → Hp → Prop) (h0 : Pv 0 σ H) (hl : ∀ i σ H, i ≤ xs.length → Pv i σ H → SqL K H a xs)
    (hs : ∀ i x σ H p, xs[i]? = some x → Pv i σ H → H p = none → g (.ref p) σ (upd H p (.tup [.int (i : Int), x])) fun σ2 H2 => tb { D with nx := Pv (i + 1), ct := Pv (i + 1), bk := D.nx } σ2 H2) (hd : ∀ σ H, Pv xs.length σ H → D.nx σ H) :
    ∃ W : Nat → Nat → L2.St → Hp → Prop, (∃ m, W 0 m σ H) ∧ ∀ i m σ H, W i m σ H →
      ((Itn K a).stop i H ∧ D.nx σ H) ∨ ((Itn K a).go i H ∧ ∃ N : L2.St → Hp → Prop, (∀ σ' H', N σ' H' → ∃ m', m' < m ∧ W (i + 1) m' σ' H') ∧ ∀ x H', (Itn K a).yld i H x H' → g x σ H' fun σ2 H2 => tb { D with nx := N, ct := N, bk := D.nx } σ2 H2) := by
  refine ⟨fun i m σ H => m = xs.length - i ∧ i ≤ xs.length ∧ Pv i σ H, ⟨xs.length, by simp, Nat.zero_le _, h0⟩, ?_⟩
  rintro i m σ H ⟨rfl, hi, p⟩
  have q := hl i σ H hi p
  by_cases hlt : i < xs.length
  · have e : xs[i]? = some xs[i] := List.getElem?_eq_getElem hlt
    refine .inr ⟨⟨xs, _, q, e⟩, Pv (i + 1), fun σ' H' z => ⟨xs.length - (i + 1), by omega, rfl, by omega, z⟩, fun x H' y => ?_⟩
    obtain ⟨pp, x', y1, rfl, np, rfl⟩ := y
    exact hs i x' σ H pp (y1 xs q) p np
  · have e : i = xs.length := by omega
    subst e
    exact .inl ⟨⟨xs, q, Nat.le_refl _⟩, hd σ H p⟩
theorem for_items {d : Addr} {o : Obj} {kvs : List (Key × V)} {g : TG} {tb : TS} {D : Ends} {σ : L2.St} {H : Hp} (Pv : Nat → L2.St → Hp → Prop) (h0 : Pv 0 σ H) (hl : ∀ i σ H, i ≤ kvs.length → Pv i σ H → H d = some (.frz o (.dK kvs)))
    (hs : ∀ i k x σ H p, kvs[i]? = some (k, x) → Pv i σ H → H p = none → g (.ref p) σ (upd H p (.tup [kV k, x])) fun σ2 H2 => tb { D with nx := Pv (i + 1), ct := Pv (i + 1), bk := D.nx } σ2 H2) (hd : ∀ σ H, Pv kvs.length σ H → D.nx σ H) :
    ∃ W : Nat → Nat → L2.St → Hp → Prop, (∃ m, W 0 m σ H) ∧ ∀ i m σ H, W i m σ H →
      ((Itd d o kvs).stop i H ∧ D.nx σ H) ∨ ((Itd d o kvs).go i H ∧ ∃ N : L2.St → Hp → Prop, (∀ σ' H', N σ' H' → ∃ m', m' < m ∧ W (i + 1) m' σ' H') ∧ ∀ x H', (Itd d o kvs).yld i H x H' → g x σ H' fun σ2 H2 => tb { D with nx := N, ct := N, bk := D.nx } σ2 H2) := by
  refine ⟨fun i m σ H => m = kvs.length - i ∧ i ≤ kvs.length ∧ Pv i σ H, ⟨kvs.length, by simp, Nat.zero_le _, h0⟩, ?_⟩
  rintro i m σ H ⟨rfl, hi, p⟩
  have q := hl i σ H hi p
  by_cases hlt : i < kvs.length
  · refine .inr ⟨⟨q, hlt⟩, Pv (i + 1), fun σ' H' z => ⟨kvs.length - (i + 1), by omega, rfl, by omega, z⟩, fun x H' y => ?_⟩
    obtain ⟨pp, k, x', y1, rfl, np, rfl⟩ := y
    exact hs i k x' σ H pp y1 p np
  · have e : i = kvs.length := by omega
    subst e
    exact .inl ⟨⟨q, Nat.le_refl _⟩, hd σ H p⟩
end Ty

set_option maxHeartbeats 4000000
namespace Ty
open PySem PySem.Spec PyProof.Rows L2
open Builtin.Int (intBits)
section
variable {X : Cx}
def CMulS (i j : Int) : Prop := intBits i + intBits j ≤ 134217728
theorem op_mulZ : OpR X (binaryOp .Mult) (rI CMulS fun i j => .int (i * j)) :=
  opI fun _ _ _ _ _ _ _ hc q => mul_int q (IntMulOk.of_le (Nat.le_refl _) (Nat.le_refl _) hc)
theorem pw_cmulS {a b : Int} {m n : Nat} (h1 : a.natAbs ≤ 2 ^ m) (h2 : b.natAbs ≤ 2 ^ n) (h : m + n ≤ 134000000) : CMulS a b := by
  have x1 := pw_bits h1 (Nat.lt_succ_self m)
  have x2 := pw_bits h2 (Nat.lt_succ_self n)
  unfold CMulS
  omega
def rIsiT (K : PySem.W.Frag) : List V → Hp → VK → Prop := fun xs H Q => ∃ p ys, xs = [.ref p, .ty "tuple"] ∧ SqT K H p ys ∧ Q (.bl true) H
end
theorem Same.seqT {K : PySem.W.Frag} {H H' : Hp} {a : Addr} {xs : List V} (e : Same H H') (h : SqT K H a xs) : SqT K H' a xs := by
  rcases h with (h | ⟨o, h⟩) | h
  · exact .inl (.inl (e _ _ h))
  · exact .inl (.inr ⟨o, e _ _ h⟩)
  · exact .inr h
section
variable {D : Addr} {te : TE} {cap : L2.St} {H1 : Hp} {Q : VK}
theorem comp_zipD {K : PySem.W.Frag} {a b : Addr} {xs ys : List V} (Rel : Nat → V → Hp → Prop) (nD : H1 D = none) (hn : xs.length < sizeLine) (hl : ys.length = xs.length) (hX : ∀ H, Same H1 H → SqL K H a xs) (hY : ∀ H, Same H1 H → SqL K H b ys)
    (hR : ∀ i v H H' ys, H D = some (.lst ys) → KSame D H H' → Rel i v H → Rel i v H')
    (he : ∀ i x y H (R : VK), xs[i]? = some x → ys[i]? = some y → Same H1 H → (∃ ys, H D = some (.lst ys)) → (∀ v H6, Same H H6 → Rel i v H6 → R v H6) → te (some x :: some y :: cap) H R)
    (hd : ∀ zs H, zs.length = xs.length → (∀ i v, zs[i]? = some v → Rel i v H) → Same H1 H → H D = some (.lst zs) → Q (.ref D) H) :
    tBlk D (gTup K 2 (gCons (gName 0) (gCons (gName 1) gNil))) tYes te (Itz K a b) (none :: none :: cap) H1 Q := by
  refine ⟨fun i m σ zs H => m = xs.length - i ∧ i ≤ xs.length ∧ (∃ o o', σ = o :: o' :: cap) ∧ (zs.length = i ∧ (∀ i v, zs[i]? = some v → Rel i v H) ∧ Same H1 H) ∧ H D = some (.lst zs), ⟨xs.length, by simp, Nat.zero_le _, ⟨none, none, rfl⟩, ⟨rfl, fun i v e => by simp at e, fun b o e => by rw [upd_ne (ne_of_none e nD)]; exact e⟩, upd_same⟩, ?_⟩
  rintro i m σ zs H ⟨rfl, hi, ⟨o, o', rfl⟩, ⟨l, r, s⟩, hD⟩
  by_cases hlt : i < xs.length
  · have e1 : xs[i]? = some xs[i] := List.getElem?_eq_getElem hlt
    have e2 : ys[i]? = some (ys[i]'(by omega)) := List.getElem?_eq_getElem (by omega)
    refine .inr ⟨⟨xs, ys, _, _, hX H s, hY H s, e1, e2⟩, fun v H' y => ?_⟩
    obtain ⟨p, x, y, q1, q2, rfl, np, rfl⟩ := y
    have e1 := q1 xs (hX H s)
    have e2 := q2 ys (hY H s)
    have sp : Same H (upd H p (.tup [x, y])) := fun b o e => by rw [upd_ne (ne_of_none e np)]; exact e
    refine ⟨p, _, rfl, SqT.of upd_same, rfl, _, _, rfl, _, _, rfl, rfl, ?_⟩
    unfold tYes
    dsimp only
    rw [if_pos rfl]
    refine he i x y _ _ e1 e2 (fun b o e => sp _ _ (s _ _ e)) ⟨zs, sp _ _ hD⟩ fun v H6 s6 rv => ⟨s6 _ _ (sp _ _ hD), by omega, xs.length - (i + 1), by omega, rfl, by omega, ⟨_, _, rfl⟩, ⟨by simp [l], fun j u e => ?_, fun b o e => ?_⟩, upd_same⟩
    · by_cases c : j < zs.length
      · rw [List.getElem?_append_left c] at e
        have ru := hR j u H H6 zs hD (KSame.of fun b o q => s6 _ _ (sp _ _ q)) (r j u e)
        exact hR j u H6 _ zs (s6 _ _ (sp _ _ hD)) KSame.upd ru
      · rw [List.getElem?_append_right (by omega)] at e
        have ej : j = i := by
          by_cases z : j - zs.length = 0
          · omega
          · rw [List.getElem?_eq_none (by simp; omega)] at e
            cases e
        subst ej
        have : v = u := by
          rw [show j - zs.length = 0 by omega] at e
          exact Option.some.inj e
        subst this
        exact hR j v H6 _ zs (s6 _ _ (sp _ _ hD)) KSame.upd rv
    · rw [upd_ne (ne_of_none e nD)]
      exact s6 _ _ (sp _ _ (s _ _ e))
  · have e : i = xs.length := by omega
    subst e
    exact .inl ⟨⟨xs, ys, hX H s, hY H s, .inl (Nat.le_refl _)⟩, hd zs H l r s hD⟩
end
def NmK (K : PySem.W.Frag) (H : Hp) (v : V) (q : Int × Int) : Prop := ∃ p, v = .ref p ∧ SqT K H p [.int q.1, .int q.2]
theorem NmK.same {K : PySem.W.Frag} {H H' : Hp} {v : V} {q : Int × Int} (h : NmK K H v q) (s : Same H H') : NmK K H' v q := by
  obtain ⟨p, e, k⟩ := h
  exact ⟨p, e, Ty.Same.seqT s k⟩
def NmsK (K : PySem.W.Frag) (H : Hp) (us : List V) (qs : List (Int × Int)) : Prop := us.length = qs.length ∧ ∀ (i : Nat) (u : V) (q : Int × Int), us[i]? = some u → qs[i]? = some q → NmK K H u q
theorem NmsK.same {K : PySem.W.Frag} {H H' : Hp} {us : List V} {qs : List (Int × Int)} (h : NmsK K H us qs) (s : Same H H') : NmsK K H' us qs := ⟨h.1, fun i u q e1 e2 => (h.2 i u q e1 e2).same s⟩
theorem NmsK.at {K : PySem.W.Frag} {H : Hp} {us : List V} {qs : List (Int × Int)} (h : NmsK K H us qs) {i : Nat} {u : V} (e : us[i]? = some u) : ∃ q, qs[i]? = some q ∧ NmK K H u q := by
  have hi : i < us.length := (List.getElem?_eq_some_iff.mp e).1
  have hl := h.1
  have e2 : qs[i]? = some (qs[i]'(by omega)) := List.getElem?_eq_getElem (by omega)
  exact ⟨_, e2, h.2 i u _ e e2⟩
theorem NmsK.at' {K : PySem.W.Frag} {H : Hp} {us : List V} {qs : List (Int × Int)} (h : NmsK K H us qs) {i : Nat} {q : Int × Int} (e : qs[i]? = some q) : ∃ u, us[i]? = some u ∧ NmK K H u q := by
  have hi : i < qs.length := (List.getElem?_eq_some_iff.mp e).1
  have hl := h.1
  have e2 : us[i]? = some (us[i]'(by omega)) := List.getElem?_eq_getElem (by omega)
  exact ⟨_, e2, h.2 i _ q e2 e⟩
theorem NmsK.set {K : PySem.W.Frag} {H : Hp} {us : List V} {qs : List (Int × Int)} {j : Nat} {v : V} {q : Int × Int} (h : NmsK K H us qs) (n : NmK K H v q) : NmsK K H (us.set j v) (qs.set j q) := by
  refine ⟨by simp [h.1], fun i u q' e1 e2 => ?_⟩
  rw [List.getElem?_set] at e1 e2
  by_cases c : j = i
  · subst c
    rw [if_pos rfl] at e1 e2
    have l := h.1
    by_cases hj : j < us.length
    · rw [if_pos hj] at e1
      rw [if_pos (by omega)] at e2
      cases e1
      cases e2
      exact n
    · rw [if_neg hj] at e1
      cases e1
  · rw [if_neg c] at e1 e2
    exact h.2 i u q' e1 e2
def RowK (K : PySem.W.Frag) (H : Hp) (a : Addr) (qs : List (Int × Int)) : Prop := ∃ us, SqL K H a us ∧ NmsK K H us qs
theorem RowK.same {K : PySem.W.Frag} {H H' : Hp} {a : Addr} {qs : List (Int × Int)} (h : RowK K H a qs) (s : Same H H') : RowK K H' a qs := by
  obtain ⟨us, h1, h2⟩ := h
  exact ⟨us, s.seq h1, h2.same s⟩
def sumTo : Nat → (Nat → Rat) → Rat
  | 0, _ => 0
  | n + 1, f => f 0 + sumTo n (fun i => f (i + 1))
theorem sumTo_add : ∀ (n : Nat) (f g : Nat → Rat), sumTo n (fun i => f i + g i) = sumTo n f + sumTo n g
  | 0, _, _ => by simp [sumTo]; grind
  | n + 1, f, g => by
    simp only [sumTo]
    rw [sumTo_add n (fun i => f (i + 1)) (fun i => g (i + 1))]
    grind
theorem sumTo_mul (c : Rat) : ∀ (n : Nat) (f : Nat → Rat), sumTo n (fun i => c * f i) = c * sumTo n f
  | 0, _ => by simp [sumTo]
  | n + 1, f => by
    simp only [sumTo]
    rw [sumTo_mul c n (fun i => f (i + 1))]
    grind
theorem sumTo_zero : ∀ (n : Nat) (f : Nat → Rat), (∀ i, f i = 0) → sumTo n f = 0
  | 0, _, _ => rfl
  | n + 1, f, h => by
    simp only [sumTo]
    rw [h 0, sumTo_zero n (fun i => f (i + 1)) (fun i => h (i + 1))]
    grind
theorem ev_sumTo : ∀ (n : Nat) (l : List Int) (z : Nat → Rat), l.length ≤ n → ev l z = sumTo n (fun j => ((l.getD j 0 : Int) : Rat) * z j)
  | n, [], z, _ => by
    rw [sumTo_zero n _ (fun i => by simp)]
    rfl
  | 0, _ :: _, _, h => by simp at h
  | n + 1, a :: r, z, h => by
    simp only [ev, sumTo]
    rw [ev_sumTo n r (fun i => z (i + 1)) (by simpa using h)]
    simp
theorem csum_ev (n : Nat) (z : Nat → Rat) : ∀ (y : List Rat) (os : List (List Int)), (∀ o ∈ os, o.length ≤ n) → (∀ o ∈ os, ev o z = 0) → sumTo n (fun j => csum y os j * z j) = 0
  | c :: y, o :: os, h1, h2 => by
    have ih := csum_ev n z y os (fun x hx => h1 x (List.mem_cons_of_mem _ hx)) (fun x hx => h2 x (List.mem_cons_of_mem _ hx))
    have e := h2 o List.mem_cons_self
    rw [ev_sumTo n o z (h1 o List.mem_cons_self)] at e
    have k : (fun j => csum (c :: y) (o :: os) j * z j) = fun j => c * (((o.getD j 0 : Int) : Rat) * z j) + csum y os j * z j := by
      funext j
      simp only [csum]
      grind
    rw [k, sumTo_add, sumTo_mul, e, ih]
    grind
  | [], os, _, _ => sumTo_zero n _ (fun j => by cases os <;> simp [csum])
  | _ :: _, [], _, _ => sumTo_zero n _ (fun j => by simp [csum])
theorem ev_comb {os : List (List Int)} {l : List Int} {n : Nat} {z : Nat → Rat} (h : Comb os l) (hl : l.length ≤ n) (ho : ∀ o ∈ os, o.length ≤ n) (hz : ∀ o ∈ os, ev o z = 0) : ev l z = 0 := by
  obtain ⟨y, _, e⟩ := h
  rw [ev_sumTo n l z hl, ← csum_ev n z y os ho hz]
  congr 1
  funext j
  rw [e j]
theorem ev_whole : ∀ {ts : List Int} {qs xs : List (Int × Int)} {d : Int × Int} {b : Int}, Whole ts (qs ++ [d]) b → xs.length = qs.length → ev ts (zOf (xs.map vl)) = (dotQ qs xs - vl d) * b
  | [], qs, xs, d, b, h, _ => by have := h.1; simp at this
  | t :: ts, [], [], d, b, h, _ => by
    have e := h.2 0 t d rfl rfl
    have l := h.1
    have : ts = [] := by simpa using l
    subst this
    simp [ev, zOf, dotQ]
    rw [e]
    grind
  | t :: ts, q :: qs, x :: xs, d, b, h, hl => by
    have e := h.2 0 t q rfl rfl
    have ih := ev_whole (ts := ts) (qs := qs) (xs := xs) (d := d) (b := b) h.tail (by simpa using hl)
    have ez : (fun i => zOf ((x :: xs).map vl) (i + 1)) = zOf (xs.map vl) := by
      funext i
      simp [zOf]
    simp only [ev]
    rw [ez, ih, e]
    have e0 : zOf ((x :: xs).map vl) 0 = vl x := by simp [zOf]
    have ed : dotQ (q :: qs) (x :: xs) = vl q * vl x + dotQ qs xs := by simp [dotQ]
    rw [e0, ed]
    grind
  | _ :: _, [], _ :: _, _, _, _, hl => by simp at hl
  | _ :: _, _ :: _, [], _, _, _, hl => by simp at hl
end Ty

set_option maxHeartbeats 4000000
namespace Ty
open PySem PySem.Spec PyProof.Rows L2
theorem upd_id {H : Hp} {d : Addr} {o : HO} (e : H d = some o) : upd H d o = H := by
  funext b
  by_cases z : b = d
  · subst z
    rw [upd_same, e]
  · rw [upd_ne z]
section
variable {X : Cx}
def iItemsR (te : TE) : TI := fun σ H R => te σ H fun x H1 => ∃ d kvs, x = .ref d ∧ Rd H1 d (.dK kvs) ∧ ∀ o, R (Itd d o kvs) (upd H1 d (.frz o (.dK kvs)))
theorem pi_itemsR {e : Expr} {te : TE} {apos cpos : Pos} {es : List Expr} {k : Nat} {tpos : Pos} (ho : PE X e te) (hbase : attributeBase e "items" X.env (eval e X.env) = eval e X.env := by rfl) (hline : (apos.endLine == cpos.line) = true := by rfl) :
    PI X (.Tuple es k tpos) (.Call (.Attribute e "items" apos) [] [] cpos) (iItemsR te) := by
  intro pins s σ H R I h
  refine wpAny_Call_method0_late hbase hline (thn (ho pins s σ H _ I h) fun v s1 ⟨x, H1, I1, r1, q1⟩ => ?_)
  obtain ⟨d, kvs, rfl, e, q⟩ := q1
  cases r1
  obtain ⟨z, hd, vs, rel, o, es1, ep, ho1, hx, hdat, hk, hp, hn⟩ := dk_rd I1.hok e
  have da : s1.heap.DictAt (mixKind X.prog X.w) d vs ep := ⟨o, es1, ho1, hx, hdat, hk, hp, hn⟩
  have h1 : s1.TypeIs (.ref d) "dict" := da.dictOf.typeIs
  have h2 : ∀ a, Value.ref d = .ref a → ∃ ob, s1.heap.get? a = some ob ∧ ob.dict = none := fun a z => by
    cases z
    exact ⟨o, ho1, hx.2.1⟩
  have lv := rel.length
  refine ⟨"dict", "dict.items", F.plainAttrs_dict, F.slot_dict_items, F.type_dict_items, h1, h2, Calls.callWith_builtin rfl (PySem.evalArgs_none ?_)⟩
  refine call_meetsIn F.slot_dict_items h1 F.entry_dict_items (F.args_dict_items_1 _) (meets_dict_items (mixKind X.prog X.w) d hd) ⟨⟨vs, da.dictOf⟩, ?_⟩
  have I2 : Inv X pins σ (upd H1 d (.frz o (.dK kvs))) s1 := by
    rcases e with e | ⟨o', e⟩
    · exact Inv.freeze I1 e ho1
    · have g := (I1.hok d _ e).1
      rw [ho1] at g
      cases g
      rw [upd_id e]
      exact I1
  have da2 : (s1.heap.push { cls := .type "dict_items", data := .fields #[.ref d] }).DictAt (mixKind X.prog X.w) d vs ep := da.at' fun o e => Heap.get?_push_of_some _ e
  show wpAny (model X.prog X.w) X.A (pyIter (.ref s1.heap.objs.size)) _ _ _
  refine wpAny_pyIter_items (s := { s1 with heap := s1.heap.push { cls := .type "dict_items", data := .fields #[.ref d] } }) ⟨_, Heap.get?_push_size _ rfl, rfl, rfl⟩ da2 ?_
  have sz : (s1.heap.push { cls := .type "dict_items", data := .fields #[.ref d] }).objs.size = s1.heap.objs.size + 1 := Heap.size_push ..
  have ne : (s1.heap.push { cls := .type "dict_items", data := .fields #[.ref d] }).objs.size ≠ d := by
    rw [sz]
    exact Ne.symm (Nat.ne_of_lt (Nat.lt_succ_of_lt (Heap.lt_size ho1)))
  have I3 : Inv X pins σ (upd H1 d (.frz o (.dK kvs))) { s1 with heap := (s1.heap.push { cls := .type "dict_items", data := .fields #[.ref d] }).push { cls := .type "dict_itemiterator", data := .fields #[.none, .bool false, .ref d, .int 0 0, .int vs.length 0, .int ep 0, .none, .none] } } := I2.kept (t' := s1.toks) fun b o e => Heap.get?_push_of_some _ (Heap.get?_push_of_some _ e)
  refine ⟨_, [_], _, _, _, rfl, I3, turn_items d _ o kvs hdat ne, ⟨_, _, by rw [lv]; exact Heap.get?_push_size _ rfl⟩, fun b hb => ?_, q o⟩
  have eb : b = (s1.heap.push { cls := .type "dict_items", data := .fields #[.ref d] }).objs.size := by simpa using hb
  have le : s1.heap.objs.size ≤ b := by rw [eb, sz]; exact Nat.le_succ _
  exact I2.fpOk le (I2.hok.fresh le)
end
section
variable {D : Addr} {te : TE} {cap : L2.St} {H1 : Hp} {Q : VK}
theorem comp_enumD {K : PySem.W.Frag} {a : Addr} {xs : List V} (Rel : Nat → V → Hp → Prop) (nD : H1 D = none) (hn : xs.length < sizeLine) (hX : ∀ H, Same H1 H → SqL K H a xs)
    (hR : ∀ i v H H' ys, H D = some (.lst ys) → KSame D H H' → Rel i v H → Rel i v H')
    (he : ∀ (i : Nat) x H (R : VK), xs[i]? = some x → Same H1 H → (∃ ys, H D = some (.lst ys)) → (∀ v H6, Same H H6 → Rel i v H6 → R v H6) → te (some (.int (i : Int)) :: some x :: cap) H R)
    (hd : ∀ zs H, zs.length = xs.length → (∀ i v, zs[i]? = some v → Rel i v H) → Same H1 H → H D = some (.lst zs) → Q (.ref D) H) :
    tBlk D (gTup K 2 (gCons (gName 0) (gCons (gName 1) gNil))) tYes te (Itn K a) (none :: none :: cap) H1 Q := by
  refine ⟨fun i m σ zs H => m = xs.length - i ∧ i ≤ xs.length ∧ (∃ o o', σ = o :: o' :: cap) ∧ (zs.length = i ∧ (∀ i v, zs[i]? = some v → Rel i v H) ∧ Same H1 H) ∧ H D = some (.lst zs), ⟨xs.length, by simp, Nat.zero_le _, ⟨none, none, rfl⟩, ⟨rfl, fun i v e => by simp at e, fun b o e => by rw [upd_ne (ne_of_none e nD)]; exact e⟩, upd_same⟩, ?_⟩
  rintro i m σ zs H ⟨rfl, hi, ⟨o, o', rfl⟩, ⟨l, r, s⟩, hD⟩
  by_cases hlt : i < xs.length
  · have e1 : xs[i]? = some xs[i] := List.getElem?_eq_getElem hlt
    refine .inr ⟨⟨xs, _, hX H s, e1⟩, fun v H' y => ?_⟩
    obtain ⟨p, x, q1, rfl, np, rfl⟩ := y
    have e1 := q1 xs (hX H s)
    have sp : Same H (upd H p (.tup [.int (i : Int), x])) := fun b o e => by rw [upd_ne (ne_of_none e np)]; exact e
    refine ⟨p, _, rfl, SqT.of upd_same, rfl, _, _, rfl, _, _, rfl, rfl, ?_⟩
    unfold tYes
    dsimp only
    rw [if_pos rfl]
    refine he i x _ _ e1 (fun b o e => sp _ _ (s _ _ e)) ⟨zs, sp _ _ hD⟩ fun v H6 s6 rv => ⟨s6 _ _ (sp _ _ hD), by omega, xs.length - (i + 1), by omega, rfl, by omega, ⟨_, _, rfl⟩, ⟨by simp [l], fun j u e => ?_, fun b o e => ?_⟩, upd_same⟩
    · by_cases c : j < zs.length
      · rw [List.getElem?_append_left c] at e
        have ru := hR j u H H6 zs hD (KSame.of fun b o q => s6 _ _ (sp _ _ q)) (r j u e)
        exact hR j u H6 _ zs (s6 _ _ (sp _ _ hD)) KSame.upd ru
      · rw [List.getElem?_append_right (by omega)] at e
        have ej : j = i := by
          by_cases z : j - zs.length = 0
          · omega
          · rw [List.getElem?_eq_none (by simp; omega)] at e
            cases e
        subst ej
        have : v = u := by
          rw [show j - zs.length = 0 by omega] at e
          exact Option.some.inj e
        subst this
        exact hR j v H6 _ zs (s6 _ _ (sp _ _ hD)) KSame.upd rv
    · rw [upd_ne (ne_of_none e nD)]
      exact s6 _ _ (sp _ _ (s _ _ e))
  · have e : i = xs.length := by omega
    subst e
    exact .inl ⟨⟨xs, hX H s, Nat.le_refl _⟩, hd zs H l r s hD⟩
end
end Ty

set_option maxHeartbeats 4000000
namespace Ty
open PySem PySem.Spec PyProof.Rows L2
section
variable {X : Cx}
theorem ints_of : ∀ {ns : List Int} {us : List Value}, Vals (ns.map V.int) us → IntsAre us ns
  | [], _, .nil => .nil
  | n :: ns, _, .cons r rr => by
    obtain ⟨t, rfl⟩ := r
    exact .cons n t (ints_of rr)
theorem vals_ints : ∀ {us : List Value} {ns : List Int}, IntsAre us ns → Vals (ns.map V.int) us
  | _, _, .nil => .nil
  | _, _, .cons n t h => .cons ⟨t, rfl⟩ (vals_ints h)
def rSorted (K : PySem.W.Frag) : List V → Hp → VK → Prop := fun xs H Q => ∃ (p : Addr) (ns : List Int), xs = [.ref p] ∧ SqL K H p (ns.map V.int) ∧ ns.length < 64 ∧ ∀ (l : Addr) (ms : List Int), H l = none → ms.Perm ns → ms.Pairwise (· ≤ ·) → Q (.ref l) (upd H l (.lst (ms.map V.int)))
def tListR (ta : TA) : TE := fun σ H Q => ta σ H fun vs H1 => ∃ n : Nat, vs = [.int (n : Int)] ∧ n ≤ 1000 ∧ ∀ l, H1 l = none → Q (.ref l) (upd H1 l (.lst ((List.range n).map fun (i : Nat) => V.int (i : Int))))
def Itv (d : Addr) (o : Obj) (kvs : List (Key × V)) : It :=
  ⟨fun i H => H d = some (.frz o (.dK kvs)) ∧ i < kvs.length,
   fun i H v H' => H' = H ∧ ∃ k, kvs[i]? = some (k, v),
   fun i H => H d = some (.frz o (.dK kvs)) ∧ kvs.length ≤ i⟩
def iVals (te : TE) : TI := fun σ H R => te σ H fun x H1 => ∃ d o kvs, x = .ref d ∧ H1 d = some (.frz o (.dK kvs)) ∧ R (Itv d o kvs) H1
def tClear (H0 : Hp) (te : TE) : TE := fun σ H Q => te σ H fun x H1 => ∃ d o kvs, x = .ref d ∧ H1 d = some (.frz o (.dK kvs)) ∧ H0 d = none ∧ Q .non (upd H1 d (.dK []))
end
end Ty

set_option maxHeartbeats 4000000
namespace Ty
open PySem PySem.Spec PyProof.Rows L2
section
variable {X : Cx}
theorem vals_rev {xs : List V} {us : List Value} (h : Vals xs us) : Vals xs.reverse us.reverse := by
  have hl := h.length
  refine paired_of (by simp [hl]) fun i a b e1 e2 => ?_
  have hi : i < xs.length := by
    have := (List.getElem?_eq_some_iff.mp e1).1
    simpa using this
  rw [List.getElem?_reverse hi] at e1
  rw [List.getElem?_reverse (by omega), ← hl] at e2
  obtain ⟨b', e3, r⟩ := paired_get h e1
  rw [e2] at e3
  cases e3
  exact r
def tRev (K : PySem.W.Frag) (te ts : TE) : TE := fun σ H Q => te σ H fun x H1 => ts σ H1 fun y H2 => y = .int (-1) ∧ ∃ l xs, x = .ref l ∧ SqL K H2 l xs ∧ ∀ p, H2 p = none → Q (.ref p) (upd H2 p (.lst xs.reverse))
theorem pe_rev {K : PySem.W.Frag} {e st : Expr} {te ts : TE} {p2 pos : Pos} (hK : X.K = K) (he : PE X e te) (hs : PE X st ts) : PE X (.Subscript e (.Slice none none (some st) p2) pos) (tRev K te ts) := by
  subst hK
  intro pins s σ H Q I h
  refine Subscript_ (thn (he pins s σ H _ I h) fun v s1 ⟨x, H1, I1, r1, q1⟩ => ?_)
  refine wpAny_Slice ?_
  rw [evalPart_none]
  refine wpAny_pure (wpAny_pure ?_)
  rw [evalPart_some]
  refine thn (hs pins s1 σ H1 _ I1 q1) fun vk s3 ⟨y, H3, I3, ry, q3⟩ => ?_
  obtain ⟨rfl, l, xs, rfl, hx, q⟩ := q3
  obtain ⟨t, rfl⟩ := ry
  cases r1
  have I4 : Inv X pins σ H3 { s3 with heap := s3.heap.push { cls := .type "slice", data := .fields #[.none, .none, .int (-1) t] } } := I3.kept (t' := s3.toks) fun b ob q => Heap.get?_push_of_some _ q
  obtain ⟨its, r, ht, hz⟩ := I4.list hx
  have hlen := r.length
  show wpAny (model X.prog X.w) X.A (subscriptTail e (.Slice none none (some st) p2) (.ref l) (.ref s3.heap.objs.size)) (EP X pins σ Q) X.xe { s3 with heap := s3.heap.push { cls := .type "slice", data := .fields #[.none, .none, .int (-1) t] } }
  refine tail_any (ops := [.ref l, .ref s3.heap.objs.size]) ht.isList.typeIs slot_list_getitem.lookup ?_ (by with_unfolding_all rfl)
  refine wpAny_getItem_list_slice ht.isList (Heap.IsSliceOf.new ..) .none .none (.int (-1) t) (by decide) ?_ (by rw [List.size_toArray] <;> omega)
  rw [PySem.W.krv_pick]
  refine ⟨.ref _, _, I4.laid (t' := s3.toks) (o := .lst xs.reverse) (fun b ob q => Heap.get?_push_of_some _ q) (Nat.le_refl _) ?_, rfl, q _ (I4.hok.fresh (Nat.le_refl _))⟩
  exact ⟨by rw [List.length_reverse]; exact hz, its.reverse, 0, vals_rev r, Heap.get?_push_size _ rfl⟩
def rLenD : List V → Hp → VK → Prop := fun xs H Q => ∃ (p : Addr) (kvs : List (Key × V)), xs = [.ref p] ∧ Rd H p (.dK kvs) ∧ Q (.int (kvs.length : Int)) H
theorem call_lenD : CallR X (.builtin "len") rLenD := by
  intro pins s σ H xs us Q I r h
  obtain ⟨p, kvs, rfl, hq, q⟩ := h
  obtain ⟨u, rfl, r1⟩ := vals1 r
  cases r1
  exact d_len I hq fun t s' I' => ⟨.int _, H, I', ⟨t, rfl⟩, q⟩
end
section
variable {D : Addr} {te : TE} {cap : L2.St} {H1 : Hp} {Q : VK}
theorem comp_rangeD {lo : Int} {n : Nat} (Rel : Nat → V → Hp → Prop) (nD : H1 D = none) (hn : n < sizeLine)
    (hR : ∀ i v H H' ys, H D = some (.lst ys) → KSame D H H' → Rel i v H → Rel i v H')
    (he : ∀ (i : Nat) H (R : VK), i < n → Same H1 H → (∃ ys, H D = some (.lst ys)) → (∀ v H6, Same H H6 → Rel i v H6 → R v H6) → te (some (.int (lo + i)) :: cap) H R)
    (hd : ∀ ys H, ys.length = n → (∀ i v, ys[i]? = some v → Rel i v H) → Same H1 H → H D = some (.lst ys) → Q (.ref D) H) :
    tBlk D (gName 0) tYes te (Itr lo n) (none :: cap) H1 Q :=
  comp_genD n (fun i => .int (lo + i)) Rel nD hn (fun i H hi s => ⟨hi, fun x H' y => y⟩) (fun H s => Nat.le_refl n) hR he hd
end
end Ty

set_option maxHeartbeats 4000000
namespace T_k26
open PySem PySem.Spec PyProof.Rows L2 Ty
open Builtin.Int (intBits)
seal L2.PE L2.PS L2.PSs L2.PA
def top (i : Nat) : Stmt := PySem.Challenge.pw_trussyard_k26_whole_as_many_needed.main.body.getD i (.Pass ⟨0, 0, 0, 0⟩)
abbrev s_lowest_terms : Stmt := top 3
abbrev s_greatest_shared : Stmt := top 4
abbrev s_solve_rows : Stmt := top 6
abbrev s_split_rows : Stmt := top 7
abbrev s_spare_columns : Stmt := top 8
abbrev s_spare_list : Stmt := top 9
abbrev s_needed_columns : Stmt := top 10
abbrev s_turned : Stmt := top 11
abbrev s_whole_row : Stmt := top 12
abbrev s_unit_line : Stmt := top 13
abbrev s_solution_of : Stmt := top 14
abbrev s_reduced : Stmt := top 15
abbrev s_first_not_nought : Stmt := top 16
abbrev s_cleared : Stmt := top 17
abbrev s_divided : Stmt := top 18
abbrev s_law_cell_at : Stmt := top 20
abbrev s_law_number : Stmt := top 21
abbrev s_law_mixed : Stmt := top 22
abbrev s_law_draw : Stmt := top 23
abbrev s_law_add : Stmt := top 24
abbrev s_law_rows : Stmt := top 25
abbrev s_law_leaning : Stmt := top 26
abbrev s_law_nought_column : Stmt := top 27
abbrev s_law_dues : Stmt := top 28
abbrev s_law_needed : Stmt := top 29
abbrev s_law : Stmt := top 30
section
variable {P : Program} {w : World} {K : PySem.W.Frag} {mg : Str → Option Value} {base : Heap} {CX : CXT}
def Nm (H : Hp) (v : V) (q : Int × Int) : Prop := ∃ p, v = .ref p ∧ H p = some (.tup [.int q.1, .int q.2])
theorem Nm.same {H H' : Hp} {v : V} {q : Int × Int} (h : Nm H v q) (s : Same H H') : Nm H' v q := by
  obtain ⟨p, e, k⟩ := h
  exact ⟨p, e, s _ _ k⟩
structure Okn (k : Nat) (q : Int × Int) : Prop where
  pos : 0 < q.2
  top : intBits q.1 ≤ k
  bot : intBits q.2 ≤ k
theorem same_new {H : Hp} {p : Addr} (h : H p = none) (o : HO) : Same H (upd H p o) := fun b u q => by rw [upd_ne (ne_of_none q h)]; exact q
def gives (H : Hp) (Q : VK) (q : Int × Int) : Prop := ∀ (p : Addr) (H' : Hp), Same H H' → H' p = some (.tup [.int q.1, .int q.2]) → Q (.ref p) H'
def spShared : Sp := fun vs H Q _ => ∃ a b : Int, vs = [.int a, .int b] ∧ Q (.int (gz a b)) H
def spLowest : Sp := fun vs H Q _ => ∃ t b : Int, vs = [.int t, .int b] ∧ b ≠ 0 ∧ intBits b ≤ 9000 ∧ gives H Q (low t b)
def spBin (f : Int × Int → Int × Int → Int × Int) : Sp := fun vs H Q _ => ∃ (u v : V) (x y : Int × Int), vs = [u, v] ∧ Nm H u x ∧ Nm H v y ∧ Okn 4000 x ∧ Okn 4000 y ∧ gives H Q (f x y)
def addQ (x y : Int × Int) : Int × Int := low (x.1 * y.2 + y.1 * x.2) (x.2 * y.2)
def subQ (x y : Int × Int) : Int × Int := low (x.1 * y.2 - y.1 * x.2) (x.2 * y.2)
def mulQ (x y : Int × Int) : Int × Int := low (x.1 * y.1) (x.2 * y.2)
theorem at0 {a b : V} : atI [a, b] 0 = some a := rfl
theorem at1 {a b : V} : atI [a, b] 1 = some b := rfl
def Nms (H : Hp) (us : List V) (qs : List (Int × Int)) : Prop := us.length = qs.length ∧ ∀ (i : Nat) (u : V) (q : Int × Int), us[i]? = some u → qs[i]? = some q → Nm H u q
theorem Nms.same {H H' : Hp} {us : List V} {qs : List (Int × Int)} (h : Nms H us qs) (s : Same H H') : Nms H' us qs := ⟨h.1, fun i u q e1 e2 => (h.2 i u q e1 e2).same s⟩
def Row (K : PySem.W.Frag) (H : Hp) (a : Addr) (qs : List (Int × Int)) : Prop := ∃ us, SqL K H a us ∧ Nms H us qs
theorem Row.same {H H' : Hp} {a : Addr} {qs : List (Int × Int)} (h : Row K H a qs) (s : Same H H') : Row K H' a qs := by
  obtain ⟨us, h1, h2⟩ := h
  exact ⟨us, s.seq h1, h2.same s⟩
theorem Nm.kept {H H' : Hp} {D : Addr} {ys : List V} {v : V} {q : Int × Int} (h : Nm H v q) (hD : H D = some (.lst ys)) (k : KSame D H H') : Nm H' v q := by
  obtain ⟨p, e, z⟩ := h
  exact ⟨p, e, k p _ (fun e => by rw [e, hD] at z; cases z) z⟩
def Line (H : Hp) (v : V) (ts : List Int) (b : Int) : Prop := ∃ p l, v = .ref p ∧ H p = some (.tup [.ref l, .int b]) ∧ H l = some (.lst (ts.map V.int))
theorem Line.same {H H' : Hp} {v : V} {ts : List Int} {b : Int} (h : Line H v ts b) (s : Same H H') : Line H' v ts b := by
  obtain ⟨p, l, e, h1, h2⟩ := h
  exact ⟨p, l, e, s _ _ h1, s _ _ h2⟩
theorem ints_of {ys : List V} {n : Nat} (hl : ys.length = n) (F : Nat → Int) (h : ∀ (i : Nat) (v : V), ys[i]? = some v → v = .int (F i)) : ys = ((List.range n).map F).map V.int := by
  refine List.ext_getElem? fun i => ?_
  by_cases hi : i < n
  · have e : ys[i]? = some (ys[i]'(by omega)) := List.getElem?_eq_getElem (by omega)
    rw [e, h i _ e, List.getElem?_map, List.getElem?_map, List.getElem?_range hi]
    rfl
  · rw [List.getElem?_eq_none (by omega), List.getElem?_eq_none (by simp; omega)]
def Ln (H : Hp) (v : V) (l : List Int) : Prop := ∃ p, v = .ref p ∧ H p = some (.lst (l.map V.int))
theorem Ln.same {H H' : Hp} {v : V} {l : List Int} (h : Ln H v l) (s : Same H H') : Ln H' v l := by
  obtain ⟨p, e, k⟩ := h
  exact ⟨p, e, s _ _ k⟩
def Lns (H : Hp) (us : List V) (ls : List (List Int)) : Prop := us.length = ls.length ∧ ∀ (i : Nat) (u : V) (l : List Int), us[i]? = some u → ls[i]? = some l → Ln H u l
theorem Lns.same {H H' : Hp} {us : List V} {ls : List (List Int)} (h : Lns H us ls) (s : Same H H') : Lns H' us ls := ⟨h.1, fun i u l e1 e2 => (h.2 i u l e1 e2).same s⟩
theorem ln_at {l : List Int} {j : Nat} (h : j < l.length) : atI (l.map V.int) (j : Int) = some (.int (l.getD j 0)) := atI_nat (by rw [List.getElem?_map, List.getElem?_eq_getElem h, List.getD_eq_getElem?_getD, List.getElem?_eq_getElem h]; rfl)
theorem getD_mem {l : List Int} {j : Nat} {x : Int} (e : l[j]? = some x) : l.getD j 0 = x := by rw [List.getD_eq_getElem?_getD, e]; rfl
def Bd (b : Nat) (l : List Int) : Prop := ∀ j, (l.getD j 0).natAbs ≤ 2 ^ b
theorem Bd.mem {b : Nat} {l : List Int} (h : Bd b l) {x : Int} (hx : x ∈ l) : x.natAbs ≤ 2 ^ b := by
  obtain ⟨i, hi⟩ := List.getElem?_of_mem hx
  rw [← getD_mem hi]
  exact h i
theorem Bd.up {b c : Nat} {l : List Int} (h : Bd b l) (hc : b ≤ c) : Bd c l := fun j => pw_up (h j) hc
theorem sc_greatest_shared : FnScope ["one", "other", "left"] ["one", "other"] (defScope s_greatest_shared) := ⟨rfl, rfl, rfl, by decide +kernel, rfl, by decide +kernel, by decide +kernel⟩
theorem ok_greatest_shared (D : Def K mg "greatest_shared" s_greatest_shared ["one", "other"]) (m_abs : mg "abs" = none) : Fn P w K mg base CX 1 "greatest_shared" ["one", "other"] spShared := by
  refine D.ok sc_greatest_shared (fun vs H Q E h => ?_) (fun f cdv A outer s H vs Q E hr h => ?_)
  · obtain ⟨a, b, rfl, _⟩ := h
    rfl
  obtain ⟨a, b, rfl, q⟩ := h
  refine ⟨_, (pss_cons (ps_while PassesOwn.never (pt_cmpR op_ne (pv 1) pe_int (nomark _)) (pss_cons (ps_set (i := 2) sc_greatest_shared.nd rfl (Or.inl rfl) (pe_op op_modB (pv 0) (pv 1)))
      (pss_cons (ps_set (i := 0) sc_greatest_shared.nd rfl (Or.inl rfl) (pv 1))
      (pss_one (ps_set (i := 1) sc_greatest_shared.nd rfl (Or.inl rfl) (pv 2))))))
    (pss_one (ps_ret (pe_callB call_abs rfl m_abs b_abs (pac (pv 0) pa_nil))))), ?_⟩
  refine while_by (fun σ H' => ∃ (x y : Int) (l : Option V), σ = [some (.int x), some (.int y), l] ∧ H' = H ∧ Int.gcd x y = Int.gcd a b) (fun σ _ => match σ with | [_, some (.int y), _] => y.natAbs | _ => 0) ⟨a, b, none, rfl, rfl, rfl⟩ ?_ ?_
  · rintro σ H' ⟨x, y, l, rfl, rfl, g⟩
    refine ⟨_, rfl, rfl, _, rfl, ?_⟩
    refine ite2 (fun c => ?_) (fun c => ?_)
    · have hy : y ≠ 0 := by
        intro z
        subst z
        simp at c
      refine ⟨_, rfl, _, rfl, _, _, rfl, rfl, hy, ?_⟩
      refine ⟨_, rfl, _, rfl, ?_⟩
      exact ⟨⟨_, _, _, rfl, rfl, by rw [gcd_step]; exact g⟩, fmod_less hy⟩
    · have hy : y = 0 := by
        have := Bool.eq_false_iff.mpr c
        simp at this
        exact this
      subst hy
      refine ⟨_, rfl, x, rfl, ?_⟩
      have e : (if x < 0 then -x else x) = gz a b := by
        rw [Int.gcd_zero_right] at g
        unfold gz
        rw [← g]
        split <;> omega
      rw [e]
      exact q
  · rintro σ H' Q1 Q2 h ⟨v, e1, e2, k, ek, z⟩
    exact ⟨v, e1, e2, k, ek, h _ _ z⟩
def spLowestU : Sp := fun vs H Q _ => ∃ t b : Int, vs = [.int t, .int b] ∧ b ≠ 0 ∧ gives H Q (low t b)
theorem sc_lowest_terms : FnScope ["top", "bottom", "shared"] ["top", "bottom"] (defScope s_lowest_terms) := ⟨rfl, rfl, rfl, by decide +kernel, rfl, by decide +kernel, by decide +kernel⟩
theorem ok_lowest_terms (ht : P.given.tree = none) (D : Def K mg "lowest_terms" s_lowest_terms ["top", "bottom"]) (G_greatest_shared : Fn P w K mg base (CXr P w) 1 "greatest_shared" ["one", "other"] spShared) : Fn P w K mg base (CXr P w) 33 "lowest_terms" ["top", "bottom"] spLowestU := by
  refine D.ok sc_lowest_terms (fun vs H Q E h => ?_) (fun f cdv A outer s H vs Q E hr h => ?_)
  · obtain ⟨t, b, rfl, _⟩ := h
    rfl
  obtain ⟨t, b, rfl, hb, q⟩ := h
  have px := passM (X := (cxOf (CXr P w) P w K mg base ["top", "bottom", "shared"] "lowest_terms" (defScope s_lowest_terms) f cdv A outer s H E)) (CXr.mute (P := P) (w := w))
  have tail2 : ∃ tt, PSs (cxOf (CXr P w) P w K mg base ["top", "bottom", "shared"] "lowest_terms" (defScope s_lowest_terms) f cdv A outer s H E).nox ((defBody s_lowest_terms).drop 2) tt ∧ ∀ g : Int, g = sg t b → tt { nx := fun _ H' => Q .non H', rt := Q } [some (.int t), some (.int b), some (.int g)] H := by
    refine ⟨_, (pss_one (ps_ret (pe_tup (pac (pe_op (op_fdivU ht (Ty.Room.py hr (by decide)) rfl rfl rfl rfl rfl) (pv 0) (pv 2)) (pac (pe_op (op_fdivU ht (Ty.Room.py hr (by decide)) rfl rfl rfl rfl rfl) (pv 1) (pv 2)) pa_nil))))), ?_⟩
    rintro g rfl
    have c := sg_ne (t := t) hb
    refine ⟨_, rfl, _, rfl, _, _, rfl, rfl, c, _, rfl, _, rfl, _, _, rfl, rfl, c, (by show 2 ≤ sizeLine; decide), fun p hp => ?_⟩
    exact q p _ (same_new hp _) upd_same
  obtain ⟨t2, p2, q2⟩ := tail2
  refine ⟨_, (pss_cons (ps_set (i := 2) sc_lowest_terms.nd rfl (Or.inl rfl) (pe_fn G_greatest_shared (hr.mono (by decide)) px (pac (pv 0) (pac (pv 1) pa_nil)))) (pss_cons (ps_if (pt_cmpR op_lt (pv 1) pe_int (nomark _)) (pss_one (ps_set (i := 2) sc_lowest_terms.nd rfl (Or.inl rfl) (pe_un un_neg (pv 2)))) pss_nil) p2)), ?_⟩
  refine ⟨_, rfl, _, rfl, t, b, rfl, ?_⟩
  refine ⟨_, rfl, _, _, rfl, rfl, _, rfl, ?_⟩
  refine ite2 (fun c => ?_) (fun c => ?_)
  · refine ⟨_, rfl, _, rfl, q2 _ ?_⟩
    have c' : b < 0 := of_decide_eq_true c
    unfold sg
    rw [if_pos c']
  · refine q2 _ ?_
    have c' : ¬ b < 0 := of_decide_eq_false (Bool.eq_false_iff.mpr c)
    unfold sg
    rw [if_neg c']
def spWR (K : PySem.W.Frag) : Sp := fun vs H Q _ => ∃ (a : Addr) (qs : List (Int × Int)) (T B : Nat), vs = [.ref a] ∧ Row K H a qs ∧ (∀ q ∈ qs, Sm T B q) ∧ T ≤ 20000 ∧ B * qs.length ≤ 8000 ∧ B ≤ 8000 ∧ qs.length ≤ 1000 ∧
  ∀ (p l : Addr) (ts : List Int) (b : Int) (H' : Hp), Same H H' → H l = none → H' p = some (.tup [.ref l, .int b]) → H' l = some (.lst (ts.map V.int)) → 0 < b → b.natAbs ≤ 2 ^ (B * qs.length) → Whole ts qs b → (∀ t ∈ ts, t.natAbs ≤ 2 ^ (T + B * qs.length)) → Q (.ref p) H'
theorem sc_whole_row : FnScope ["row", "bottom", "number"] ["row"] (defScope s_whole_row) := ⟨rfl, rfl, rfl, by decide +kernel, rfl, by decide +kernel, by decide +kernel⟩
theorem ok_whole_row (D : Def K mg "whole_row" s_whole_row ["row"]) (G_greatest_shared : Fn P w K mg base (CXr P w) 1 "greatest_shared" ["one", "other"] spShared) : Fn P w K mg base (CXr P w) 2 "whole_row" ["row"] (spWR K) := by
  refine D.ok sc_whole_row (fun vs H Q E h => ?_) (fun f cdv A outer s H vs Q E hr h => ?_)
  · obtain ⟨a, qs, T, B, rfl, _⟩ := h
    rfl
  obtain ⟨a, qs, T, B, rfl, ⟨us, hS, hN⟩, sm, hT, hB, hB1, hl, q⟩ := h
  have px := passM (X := (cxOf (CXr P w) P w K mg base ["row", "bottom", "number"] "whole_row" (defScope s_whole_row) f cdv A outer s H E)) (CXr.mute (P := P) (w := w))
  refine ⟨_, (pss_cons (ps_set (i := 1) sc_whole_row.nd rfl (Or.inr rfl) pe_int)
    (pss_cons (ps_for PassesOwn.never rfl (pi_list (pv 0)) (pg_name (i := 2) sc_whole_row.nd rfl (Or.inl rfl)) (pss_one (ps_set (i := 1) sc_whole_row.nd rfl (Or.inr rfl) (pe_op op_mulB (pe_op op_fdivB (pv 1) (pe_fn G_greatest_shared (hr.mono (by decide)) px (pac (pv 1) (pac (pe_ix ix_tup (pv 2) pe_int (fun _ _ => rfl)) pa_nil)))) (pe_ix ix_tup (pv 2) pe_int (fun _ _ => rfl))))))
    (pss_one (ps_ret (pe_tup (pac (pe_comp (tn := ["number"]) (fr := ["bottom"]) (caps := [1]) rfl ⟨rfl, by decide +kernel, rfl, by decide +kernel, by decide +kernel, rfl, ⟨(by first | exact Or.inl rfl | exact Or.inr rfl), trivial⟩, ⟨(by first | exact Or.inl rfl | exact Or.inr rfl), trivial⟩⟩ (pi_list (pv 0)) (fun _ _ _ _ => (pg_name (i := 0) (show (["number", "bottom"] : List Str).Nodup from by decide +kernel) rfl (Or.inl rfl))) (fun _ _ _ _ => pf_nil) (fun _ _ _ _ => (pe_op op_mulB (pe_ix (ix_tupK (K := K) rfl) (pv 0) pe_int (fun _ _ => rfl)) (pe_op op_fdivB (pv 1) (pe_ix (ix_tupK (K := K) rfl) (pv 0) pe_int (fun _ _ => rfl)))))) (pac (pv 1) pa_nil))))))), ?_⟩
  have hlu := hN.1
  have qat : ∀ {i : Nat} {u : V}, us[i]? = some u → ∃ q, qs[i]? = some q ∧ Nm H u q ∧ Sm T B q := fun {i u} e => by
    have hi : i < us.length := (List.getElem?_eq_some_iff.mp e).1
    have e2 : qs[i]? = some (qs[i]'(by omega)) := List.getElem?_eq_getElem (by omega)
    exact ⟨_, e2, hN.2 i u _ e e2, sm _ (List.getElem_mem _)⟩
  refine ⟨_, rfl, a, rfl, ⟨_, hS⟩, for_list (K := K) (a := a) (xs := us) (fun i σ H' => ∃ (b : Int) (o : Option V), σ = [some (.ref a), some (.int b), o] ∧ H' = H ∧ 0 < b ∧ b.natAbs ≤ 2 ^ (B * i) ∧ ∀ j, j < i → ∀ q, qs[j]? = some q → q.2 ∣ b) ⟨1, none, rfl, rfl, by decide, by simp, fun j h => absurd h (Nat.not_lt_zero _)⟩ (fun i σ H' _ ⟨b, o, _, e, _⟩ => by rw [e]; exact hS) ?_ ?_⟩
  · rintro i u σ H' hu ⟨b, o, rfl, rfl, hb, hs, hd⟩
    obtain ⟨n, en, ⟨p, rfl, hp⟩, sn⟩ := qat hu
    have hi : i < qs.length := (List.getElem?_eq_some_iff.mp en).1
    have nb : n.2.natAbs ≤ 2 ^ B := sn.bot
    obtain ⟨l1, l2, l3, l4⟩ := lcm_step hb sn.pos
    have gp := gz_pos (t := b) (b := n.2) (by have := sn.pos; omega)
    have gl := gz_le (t := b) (b := n.2) (by have := sn.pos; omega)
    have sz : (b.fdiv (gz b n.2) * n.2).natAbs ≤ 2 ^ (B * (i + 1)) := by
      refine Nat.le_trans l4 ?_
      rw [Nat.mul_succ, Nat.pow_add]
      exact Nat.mul_le_mul hs nb
    have bi : B * i ≤ 8000 := Nat.le_trans (Nat.mul_le_mul_left B (by omega)) hB
    have g1 : gz b n.2 ∣ b := Int.gcd_dvd_left ..
    refine ⟨_, rfl, _, rfl, _, rfl, p, _, _, _, rfl, rfl, SqT.of hp, at1, b, n.2, rfl, ?_⟩
    refine ⟨_, _, rfl, rfl, ⟨by omega, Nat.le_trans (pw_bits (Nat.le_trans gl nb) (Nat.lt_succ_self B)) (by omega)⟩, ?_⟩
    refine ⟨_, rfl, p, _, _, _, rfl, rfl, SqT.of hp, at1, _, _, rfl, rfl, pw_cmul (Nat.le_trans (fdiv_size (by omega) g1) hs) nb (by omega) (by omega), ?_⟩
    refine ⟨_, _, rfl, rfl, l1, sz, fun j hj q' e' => ?_⟩
    rcases Nat.lt_succ_iff_lt_or_eq.mp hj with z | z
    · exact Int.dvd_trans (hd j z q' e') l2
    · subst z
      rw [en] at e'
      cases e'
      exact l3
  · rintro σ H' ⟨b, o, rfl, rfl, hb, hs, hd⟩
    rw [hlu] at hs hd
    refine ⟨_, rfl, a, rfl, ⟨_, hS⟩, fun D nD => ?_⟩
    refine comp_list (cap := [some (.int b)]) (K := K) (a := a) (xs := us) (fun i v _ => ∃ q, qs[i]? = some q ∧ v = .int (q.1 * b.fdiv q.2)) nD (by rw [hlu]; exact Nat.lt_of_le_of_lt hl (by decide)) (fun H2 s2 => s2.seq hS) (fun _ _ _ _ _ _ _ h => h) ?_ ?_
    · intro i u H2 R hu s2 k
      obtain ⟨n, en, ⟨p, rfl, hp⟩, sn⟩ := qat hu
      have hp2 := s2 _ _ hp
      have dv := hd i (List.getElem?_eq_some_iff.mp en).1 n en
      have n0 : n.2 ≠ 0 := by have := sn.pos; omega
      refine ⟨_, rfl, p, _, _, _, rfl, rfl, SqT.of hp2, at0, ?_⟩
      refine ⟨_, rfl, _, rfl, p, _, _, _, rfl, rfl, SqT.of hp2, at1, _, _, rfl, rfl, ⟨n0, Nat.le_trans (pw_bits sn.bot (Nat.lt_succ_self B)) (by omega)⟩, ?_⟩
      exact ⟨_, _, rfl, rfl, pw_cmul sn.top (Nat.le_trans (fdiv_size n0 dv) hs) (by omega) (by omega), k _ _ (Same.refl _) ⟨n, en, rfl⟩⟩
    · intro ys H2 hy hrel s2 hD
      have ey : ys = (qs.map fun n => n.1 * b.fdiv n.2).map V.int := by
        refine List.ext_getElem? fun i => ?_
        by_cases hi : i < ys.length
        · have e1 : ys[i]? = some ys[i] := List.getElem?_eq_getElem hi
          obtain ⟨n, en, ev⟩ := hrel i _ e1
          rw [e1, ev, List.getElem?_map, List.getElem?_map, en]
          rfl
        · rw [List.getElem?_eq_none (by omega), List.getElem?_eq_none (by simp; omega)]
      refine ⟨_, rfl, (by show 2 ≤ sizeLine; decide), fun p np => ?_⟩
      have s3 := same_new np (.tup [.ref D, .int b])
      refine q p D (qs.map fun n => n.1 * b.fdiv n.2) b _ (s2.trans s3) nD upd_same (s3 _ _ (by rw [hD, ey])) hb hs ⟨by simp, fun i t n e1 e2 => ?_⟩ (fun t ht => ?_)
      · rw [List.getElem?_map, e2] at e1
        have e1' : n.1 * b.fdiv n.2 = t := Option.some.inj e1
        rw [← e1']
        exact whole_one (sm n (List.mem_of_getElem? e2)).pos (hd i (List.getElem?_eq_some_iff.mp e2).1 n e2)
      · obtain ⟨n, hn, rfl⟩ := List.mem_map.mp ht
        obtain ⟨i, hi⟩ := List.getElem?_of_mem hn
        have n0 : n.2 ≠ 0 := by have := (sm n hn).pos; omega
        exact pw_mul (sm n hn).top (Nat.le_trans (fdiv_size n0 (hd i (List.getElem?_eq_some_iff.mp hi).1 n hi)) hs)
structure Dv (l l' : List Int) : Prop where
  len : l'.length = l.length
  fac : ∃ g : Int, g ≠ 0 ∧ ∀ j, g * l'.getD j 0 = l.getD j 0
def spDivided : Sp := fun vs H Q _ => ∃ (v : V) (l : List Int), vs = [v] ∧ Ln H v l ∧ l.length ≤ 1000 ∧ ∀ v' l' H', Same H H' → Ln H' v' l' → Dv l l' → (v' = v ∨ ∃ p, v' = .ref p ∧ H p = none) → Q v' H'
theorem dv_refl (l : List Int) : Dv l l := ⟨rfl, 1, by decide, fun j => Int.one_mul _⟩
theorem sc_divided : FnScope ["line", "shared", "whole"] ["line"] (defScope s_divided) := ⟨rfl, rfl, rfl, by decide +kernel, rfl, by decide +kernel, by decide +kernel⟩
theorem ok_divided (ht : P.given.tree = none) (D : Def K mg "divided" s_divided ["line"]) (G_greatest_shared : Fn P w K mg base (CXr P w) 1 "greatest_shared" ["one", "other"] spShared) : Fn P w K mg base (CXr P w) 33 "divided" ["line"] spDivided := by
  refine D.ok sc_divided (fun vs H Q E h => ?_) (fun f cdv A outer s H vs Q E hr h => ?_)
  · obtain ⟨v, l, rfl, _⟩ := h
    rfl
  obtain ⟨v, l, rfl, ⟨a, rfl, ha⟩, hn, q⟩ := h
  have px := passM (X := (cxOf (CXr P w) P w K mg base ["line", "shared", "whole"] "divided" (defScope s_divided) f cdv A outer s H E)) (CXr.mute (P := P) (w := w))
  have same : Q (.ref a) H := q _ l H (Same.refl H) ⟨a, rfl, ha⟩ (dv_refl l) (.inl rfl)
  refine ⟨_, (pss_cons (ps_set (i := 1) sc_divided.nd rfl (Or.inr rfl) pe_int)
    (pss_cons (ps_for PassesOwn.never rfl (pi_list (pv 0)) (pg_name (i := 2) sc_divided.nd rfl (Or.inl rfl)) (pss_cons (ps_set (i := 1) sc_divided.nd rfl (Or.inr rfl) (pe_fn G_greatest_shared (hr.mono (by decide)) px (pac (pv 2) (pac (pv 1) pa_nil))))
      (pss_one (ps_if (pt_cmpR op_eq (pv 1) pe_int (nomark _)) (pss_one (ps_ret (pv 0))) pss_nil))))
    (pss_one (ps_ret (pe_ifExp (pt_cmpR op_gt (pv 1) pe_int (nomark _)) (pe_comp (tn := ["whole"]) (fr := ["shared"]) (caps := [1]) rfl ⟨rfl, by decide +kernel, rfl, by decide +kernel, by decide +kernel, rfl, ⟨(by first | exact Or.inl rfl | exact Or.inr rfl), trivial⟩, ⟨(by first | exact Or.inl rfl | exact Or.inr rfl), trivial⟩⟩ (pi_list (pv 0)) (fun _ _ _ _ => (pg_name (i := 0) (show (["whole", "shared"] : List Str).Nodup from by decide +kernel) rfl (Or.inl rfl))) (fun _ _ _ _ => pf_nil) (fun _ _ _ _ => (pe_op (op_fdivU ht (Ty.Room.py hr (by decide)) rfl rfl rfl rfl rfl) (pv 0) (pv 1)))) (pv 0)))))), ?_⟩
  refine ⟨_, rfl, a, rfl, ⟨_, SqL.of ha⟩, for_list (K := K) (a := a) (xs := l.map V.int) (fun i σ H' => ∃ (g : Int) (o : Option V), σ = [some (.ref a), some (.int g), o] ∧ H' = H ∧ 0 ≤ g ∧ ∀ j, j < i → ∀ x, l[j]? = some x → g ∣ x) ⟨0, none, rfl, rfl, by decide, fun j h => absurd h (Nat.not_lt_zero _)⟩ (fun i σ H' _ ⟨g, o, _, e, _⟩ => by rw [e]; exact SqL.of ha) ?_ ?_⟩
  · rintro i u σ H' hu ⟨g, o, rfl, rfl, g0, hg⟩
    rw [List.getElem?_map] at hu
    obtain ⟨x, ex, rfl⟩ := Option.map_eq_some_iff.mp hu
    have d1 : gz x g ∣ x := Int.gcd_dvd_left ..
    have d2 : gz x g ∣ g := Int.gcd_dvd_right ..
    have p0 : 0 ≤ gz x g := Int.natCast_nonneg _
    refine ⟨_, rfl, _, rfl, x, g, rfl, ?_⟩
    refine ⟨_, rfl, rfl, _, rfl, ?_⟩
    refine ite2 (fun _ => ⟨_, rfl, same⟩) (fun _ => ?_)
    refine ⟨_, _, rfl, rfl, p0, fun j hj y ey => ?_⟩
    rcases Nat.lt_succ_iff_lt_or_eq.mp hj with z | z
    · exact Int.dvd_trans d2 (hg j z y ey)
    · subst z
      rw [ex] at ey
      cases ey
      exact d1
  · rintro σ H' ⟨g, o, rfl, rfl, g0, hg⟩
    rw [List.length_map] at hg
    refine ⟨_, rfl, _, _, rfl, rfl, _, rfl, ?_⟩
    refine ite2 (fun c => ?_) (fun _ => ⟨_, rfl, same⟩)
    have g1 : (1 : Int) < g := of_decide_eq_true c
    have gn : g ≠ 0 := by omega
    refine ⟨_, rfl, a, rfl, ⟨_, SqL.of ha⟩, fun D nD => ?_⟩
    refine comp_list (cap := [some (.int g)]) (K := K) (a := a) (xs := l.map V.int) (fun i v _ => ∃ x, l[i]? = some x ∧ v = .int (x.fdiv g)) nD (by rw [List.length_map]; exact Nat.lt_of_le_of_lt hn (by decide)) (fun H2 s2 => SqL.of (s2 _ _ ha)) (fun _ _ _ _ _ _ _ h => h) ?_ ?_
    · intro i u H2 R hu s2 k
      rw [List.getElem?_map] at hu
      obtain ⟨x, ex, rfl⟩ := Option.map_eq_some_iff.mp hu
      exact ⟨_, rfl, _, rfl, _, _, rfl, rfl, gn, k _ _ (Same.refl _) ⟨x, ex, rfl⟩⟩
    · intro ys H2 hy hrel s2 hD
      rw [List.length_map] at hy
      have ey : ys = (l.map fun x => x.fdiv g).map V.int := by
        refine List.ext_getElem? fun i => ?_
        by_cases hi : i < ys.length
        · have e1 : ys[i]? = some ys[i] := List.getElem?_eq_getElem hi
          obtain ⟨x, ex, ev⟩ := hrel i _ e1
          rw [e1, ev, List.getElem?_map, List.getElem?_map, ex]
          rfl
        · rw [List.getElem?_eq_none (by omega), List.getElem?_eq_none (by simp; omega)]
      refine q _ (l.map fun x => x.fdiv g) H2 s2 ⟨D, rfl, by rw [hD, ey]⟩ ⟨by simp, g, gn, fun j => ?_⟩ (.inr ⟨D, rfl, nD⟩)
      by_cases hj : j < l.length
      · have ej : l[j]? = some l[j] := List.getElem?_eq_getElem hj
        rw [getD_mem (l := l.map fun x => x.fdiv g) (x := l[j].fdiv g) (by rw [List.getElem?_map, ej]; rfl), getD_mem ej]
        exact (fdiv_of_dvd gn (hg j hj _ ej)).symm
      · rw [List.getD_eq_getElem?_getD, List.getD_eq_getElem?_getD, List.getElem?_eq_none (by simp; omega), List.getElem?_eq_none (by omega)]
        simp
def spCleared : Sp := fun vs H Q _ => ∃ (u v : V) (l m : List Int) (c b1 b2 : Nat), vs = [u, v, .int (c : Int)] ∧ Ln H u l ∧ Ln H v m ∧ m.length = l.length ∧ c < l.length ∧ l.length ≤ 1000 ∧ m.getD c 0 ≠ 0 ∧ Bd b1 l ∧ Bd b2 m ∧ b1 ≤ 29000000 ∧ b2 ≤ 29000000 ∧
  ∀ v' l' H', Same H H' → Ln H' v' l' → Clr l m l' c → Bd (b1 + b2 + 1) l' → (v' = u ∨ ∃ p, v' = .ref p ∧ H p = none) → Q v' H'
theorem fdiv_gz {a b : Int} (ha : a ≠ 0) : a = gz a b * a.fdiv (gz a b) ∧ b = gz a b * b.fdiv (gz a b) ∧ gz a b ≠ 0 ∧ a.fdiv (gz a b) ≠ 0 ∧ (a.fdiv (gz a b)).natAbs ≤ a.natAbs ∧ (b.fdiv (gz a b)).natAbs ≤ b.natAbs := by
  have gn : gz a b ≠ 0 := by
    intro z
    have z' : ((Int.gcd a b : Nat) : Int) = 0 := z
    have : Int.gcd a b = 0 := by omega
    exact ha (Int.gcd_eq_zero_iff.mp this).1
  have d1 : gz a b ∣ a := Int.gcd_dvd_left ..
  have d2 : gz a b ∣ b := Int.gcd_dvd_right ..
  have e1 := fdiv_of_dvd gn d1
  refine ⟨e1, fdiv_of_dvd gn d2, gn, fun z => ?_, fdiv_size gn d1, fdiv_size gn d2⟩
  rw [z, Int.mul_zero] at e1
  exact ha e1
theorem zip_lin {l m : List Int} {t u : Int} {ys : List V} (hl : m.length = l.length) (hy : ys.length = l.length) (h : ∀ (i : Nat) (v : V), ys[i]? = some v → ∃ x y, l[i]? = some x ∧ m[i]? = some y ∧ v = .int (t * x - u * y)) : ys = (List.zipWith (fun x y => t * x - u * y) l m).map V.int := by
  refine List.ext_getElem? fun i => ?_
  by_cases hi : i < ys.length
  · have e1 : ys[i]? = some ys[i] := List.getElem?_eq_getElem hi
    obtain ⟨x, y, ex, ey, ev⟩ := h i _ e1
    rw [e1, ev, List.getElem?_map, List.getElem?_zipWith, ex, ey]
    rfl
  · rw [List.getElem?_eq_none (by omega), List.getElem?_eq_none (by simp; omega)]
theorem lin_getD {l m : List Int} {t u : Int} (hl : m.length = l.length) (j : Nat) : (List.zipWith (fun x y => t * x - u * y) l m).getD j 0 = t * l.getD j 0 - u * m.getD j 0 := by
  by_cases hj : j < l.length
  · have e1 : l[j]? = some l[j] := List.getElem?_eq_getElem hj
    have e2 : m[j]? = some (m[j]'(by omega)) := List.getElem?_eq_getElem (by omega)
    rw [getD_mem e1, getD_mem e2]
    exact getD_mem (by rw [List.getElem?_zipWith, e1, e2])
  · rw [List.getD_eq_getElem?_getD, List.getD_eq_getElem?_getD, List.getD_eq_getElem?_getD, List.getElem?_eq_none (by simp; omega), List.getElem?_eq_none (by omega), List.getElem?_eq_none (by omega)]
    simp
theorem sc_cleared : FnScope ["line", "lead", "column", "shared", "times", "less"] ["line", "lead", "column"] (defScope s_cleared) := ⟨rfl, rfl, rfl, by decide +kernel, rfl, by decide +kernel, by decide +kernel⟩
theorem ok_cleared (ht : P.given.tree = none) (D : Def K mg "cleared" s_cleared ["line", "lead", "column"]) (m_zip : mg "zip" = none) (G_greatest_shared : Fn P w K mg base (CXr P w) 1 "greatest_shared" ["one", "other"] spShared) (G_divided : Fn P w K mg base (CXr P w) 33 "divided" ["line"] spDivided) : Fn P w K mg base (CXr P w) 34 "cleared" ["line", "lead", "column"] spCleared := by
  refine D.ok sc_cleared (fun vs H Q E h => ?_) (fun f cdv A outer s H vs Q E hr h => ?_)
  · obtain ⟨u, v, l, m, c, b1, b2, rfl, _⟩ := h
    rfl
  obtain ⟨u, v, l, m, c, b1, b2, rfl, ⟨a, rfl, ha⟩, ⟨a', rfl, ha'⟩, hl, hc, hn, hm, B1, B2, hb1, hb2, q⟩ := h
  have px := passM (X := (cxOf (CXr P w) P w K mg base ["line", "lead", "column", "shared", "times", "less"] "cleared" (defScope s_cleared) f cdv A outer s H E)) (CXr.mute (P := P) (w := w))
  refine ⟨_, (pss_cons (ps_if (pt_cmpR op_eq (pe_ix ix_list (pv 0) (pv 2) (fun _ _ => rfl)) pe_int (nomark _)) (pss_one (ps_ret (pv 0))) pss_nil)
    (pss_cons (ps_set (i := 3) sc_cleared.nd rfl (Or.inl rfl) (pe_fn G_greatest_shared (hr.mono (by decide)) px (pac (pe_ix ix_list (pv 1) (pv 2) (fun _ _ => rfl)) (pac (pe_ix ix_list (pv 0) (pv 2) (fun _ _ => rfl)) pa_nil))))
    (pss_cons (ps_set (i := 4) sc_cleared.nd rfl (Or.inr rfl) (pe_op (op_fdivU ht (Ty.Room.py hr (by decide)) rfl rfl rfl rfl rfl) (pe_ix ix_list (pv 1) (pv 2) (fun _ _ => rfl)) (pv 3)))
    (pss_cons (ps_set (i := 5) sc_cleared.nd rfl (Or.inr rfl) (pe_op (op_fdivU ht (Ty.Room.py hr (by decide)) rfl rfl rfl rfl rfl) (pe_ix ix_list (pv 0) (pv 2) (fun _ _ => rfl)) (pv 3)))
    (pss_one (ps_ret (pe_fn G_divided (hr.mono (by decide)) px (pac (pe_comp (tn := ["whole", "other"]) (fr := ["times", "less"]) (caps := [4, 5]) rfl ⟨rfl, by decide +kernel, rfl, by decide +kernel, by decide +kernel, rfl, ⟨(by first | exact Or.inl rfl | exact Or.inr rfl), ⟨(by first | exact Or.inl rfl | exact Or.inr rfl), trivial⟩⟩, ⟨(by first | exact Or.inl rfl | exact Or.inr rfl), ⟨(by first | exact Or.inl rfl | exact Or.inr rfl), trivial⟩⟩⟩ (pi_zip rfl m_zip (pac (pv 0) (pac (pv 1) pa_nil))) (fun _ _ _ _ => (pg_tupK (K := K) (n := 2) rfl rfl (pgs_cons (pg_name (i := 0) (show (["whole", "other", "times", "less"] : List Str).Nodup from by decide +kernel) rfl (Or.inl rfl)) (pgs_cons (pg_name (i := 1) (show (["whole", "other", "times", "less"] : List Str).Nodup from by decide +kernel) rfl (Or.inl rfl)) pgs_nil)))) (fun _ _ _ _ => pf_nil) (fun _ _ _ _ => (pe_op op_sub (pe_op op_mulB (pv 2) (pv 0)) (pe_op op_mulB (pv 3) (pv 1))))) pa_nil)))))))), ?_⟩
  have ea := ln_at (l := l) hc
  have em := ln_at (l := m) (j := c) (by omega)
  refine ⟨_, rfl, _, rfl, a, _, _, _, rfl, rfl, SqL.of ha, ea, rfl, _, rfl, ?_⟩
  refine ite2 (fun z => ?_) (fun z => ?_)
  · have z' : l.getD c 0 = 0 := by simpa using of_decide_eq_true z
    exact ⟨_, rfl, q _ l H (Same.refl H) ⟨a, rfl, ha⟩ ⟨rfl, z', 1, 1, 0, by decide, by decide, fun j => by omega⟩ (B1.up (by omega)) (.inl rfl)⟩
  · obtain ⟨f1, f2, f3, f4, f5, f6⟩ := fdiv_gz (a := m.getD c 0) (b := l.getD c 0) hm
    refine ⟨_, rfl, _, rfl, a', _, _, _, rfl, rfl, SqL.of ha', em, _, rfl, _, rfl, a, _, _, _, rfl, rfl, SqL.of ha, ea, _, _, rfl, ?_⟩
    refine ⟨_, rfl, _, rfl, a', _, _, _, rfl, rfl, SqL.of ha', em, _, rfl, _, _, rfl, rfl, f3, ?_⟩
    refine ⟨_, rfl, _, rfl, a, _, _, _, rfl, rfl, SqL.of ha, ea, _, rfl, _, _, rfl, rfl, f3, ?_⟩
    refine ⟨_, rfl, _, rfl, a, a', rfl, ⟨_, SqL.of ha⟩, ⟨_, SqL.of ha'⟩, fun D1 n1 => ?_⟩
    have st : ((m.getD c 0).fdiv (gz (m.getD c 0) (l.getD c 0))).natAbs ≤ 2 ^ b2 := Nat.le_trans f5 (B2 c)
    have su : ((l.getD c 0).fdiv (gz (m.getD c 0) (l.getD c 0))).natAbs ≤ 2 ^ b1 := Nat.le_trans f6 (B1 c)
    refine comp_zip (cap := [some (.int ((m.getD c 0).fdiv (gz (m.getD c 0) (l.getD c 0)))), some (.int ((l.getD c 0).fdiv (gz (m.getD c 0) (l.getD c 0))))]) (K := K) (xs := l.map V.int) (ys := m.map V.int) (fun i v _ => ∃ x y, l[i]? = some x ∧ m[i]? = some y ∧ v = .int ((m.getD c 0).fdiv (gz (m.getD c 0) (l.getD c 0)) * x - (l.getD c 0).fdiv (gz (m.getD c 0) (l.getD c 0)) * y)) n1 (by rw [List.length_map]; exact Nat.lt_of_le_of_lt hn (by decide)) (by simpa using hl) (fun H2 s2 => SqL.of (s2 _ _ ha)) (fun H2 s2 => SqL.of (s2 _ _ ha')) (fun _ _ _ _ _ _ _ h => h) ?_ ?_
    · intro i x y H2 R ex ey s2 k
      rw [List.getElem?_map] at ex ey
      obtain ⟨x', ex', rfl⟩ := Option.map_eq_some_iff.mp ex
      obtain ⟨y', ey', rfl⟩ := Option.map_eq_some_iff.mp ey
      refine ⟨_, rfl, _, rfl, _, _, rfl, rfl, pw_cmul st (B1.mem (List.mem_of_getElem? ex')) (by omega) (by omega), ?_⟩
      exact ⟨_, rfl, _, rfl, _, _, rfl, rfl, pw_cmul su (B2.mem (List.mem_of_getElem? ey')) (by omega) (by omega), _, _, rfl, rfl, k _ _ (Same.refl _) ⟨x', y', ex', ey', rfl⟩⟩
    · intro ys H2 hy hrel s2 hD
      rw [List.length_map] at hy
      have ey := zip_lin hl hy hrel
      refine ⟨_, _, rfl, ⟨D1, rfl, by rw [hD, ey]⟩, by simp; omega, fun v' l' H3 s3 L3 dv fr => ?_⟩
      obtain ⟨g, gn, hg⟩ := dv.fac
      have lin : ∀ j, g * l'.getD j 0 = (m.getD c 0).fdiv (gz (m.getD c 0) (l.getD c 0)) * l.getD j 0 - (l.getD c 0).fdiv (gz (m.getD c 0) (l.getD c 0)) * m.getD j 0 := fun j => by rw [hg j, lin_getD hl]
      refine q v' l' H3 (s2.trans s3) L3 ⟨by rw [dv.len]; simp [hl], ?_, g, _, _, gn, f4, lin⟩ (fun j => ?_) ?_
      · have e := lin c
        have z2 : (m.getD c 0).fdiv (gz (m.getD c 0) (l.getD c 0)) * l.getD c 0 - (l.getD c 0).fdiv (gz (m.getD c 0) (l.getD c 0)) * m.getD c 0 = 0 := by
          generalize gz (m.getD c 0) (l.getD c 0) = G at *
          generalize (m.getD c 0).fdiv G = t at *
          generalize (l.getD c 0).fdiv G = u at *
          rw [f1, f2]
          grind
        rw [z2] at e
        rcases Int.mul_eq_zero.mp e with y | y
        · exact absurd y gn
        · exact y
      · have b : (g * l'.getD j 0).natAbs ≤ 2 ^ (b1 + b2 + 1) := by
          rw [lin j, Int.sub_eq_add_neg]
          refine pw_add (pw_up (pw_mul st (B1 j)) (by omega)) ?_
          rw [Int.natAbs_neg]
          exact pw_mul su (B2 j)
        exact Nat.le_trans (natAbs_factor gn) b
      · rcases fr with z | ⟨p, e, n⟩
        · exact .inr ⟨D1, z, n1⟩
        · exact .inr ⟨p, e, s2.free n⟩
def spFirst (K : PySem.W.Frag) : Sp := fun vs H Q _ => ∃ (a : Addr) (us : List V) (ls : List (List Int)) (c : Nat), vs = [.ref a, .int (c : Int)] ∧ SqL K H a us ∧ Lns H us ls ∧ (∀ l ∈ ls, c < l.length) ∧
  (∀ (i : Nat) (l : List Int) (H' : Hp), Same H H' → ls[i]? = some l → l.getD c 0 ≠ 0 → Q (.int (i : Int)) H') ∧ ((∀ l ∈ ls, l.getD c 0 = 0) → ∀ H', Same H H' → Q .non H')
theorem Lns.at {H : Hp} {us : List V} {ls : List (List Int)} (h : Lns H us ls) {i : Nat} {u : V} (e : us[i]? = some u) : ∃ l, ls[i]? = some l ∧ Ln H u l := by
  have hi : i < us.length := (List.getElem?_eq_some_iff.mp e).1
  have hl := h.1
  have e2 : ls[i]? = some (ls[i]'(by omega)) := List.getElem?_eq_getElem (by omega)
  exact ⟨_, e2, h.2 i u _ e e2⟩
theorem Lns.at' {H : Hp} {us : List V} {ls : List (List Int)} (h : Lns H us ls) {i : Nat} {l : List Int} (e : ls[i]? = some l) : ∃ u, us[i]? = some u ∧ Ln H u l := by
  have hi : i < ls.length := (List.getElem?_eq_some_iff.mp e).1
  have hl := h.1
  have e2 : us[i]? = some (us[i]'(by omega)) := List.getElem?_eq_getElem (by omega)
  exact ⟨_, e2, h.2 i _ l e2 e⟩
theorem sc_first_not_nought : FnScope ["lines", "column", "at", "line"] ["lines", "column"] (defScope s_first_not_nought) := ⟨rfl, rfl, rfl, by decide +kernel, rfl, by decide +kernel, by decide +kernel⟩
theorem ok_first_not_nought (D : Def K mg "first_not_nought" s_first_not_nought ["lines", "column"]) (m_enumerate : mg "enumerate" = none) : Fn P w K mg base (CXr P w) 1 "first_not_nought" ["lines", "column"] (spFirst K) := by
  refine D.ok sc_first_not_nought (fun vs H Q E h => ?_) (fun f cdv A outer s H vs Q E hr h => ?_)
  · obtain ⟨a, us, ls, c, rfl, _⟩ := h
    rfl
  obtain ⟨a, us, ls, c, rfl, hS, L, hc, q1, q2⟩ := h
  have lu := L.1
  refine ⟨_, (pss_cons (ps_for PassesOwn.never rfl (pi_enum rfl m_enumerate (pac (pv 0) pa_nil)) (pg_tup rfl (pgs_cons (pg_name (i := 2) sc_first_not_nought.nd rfl (Or.inl rfl)) (pgs_cons (pg_name (i := 3) sc_first_not_nought.nd rfl (Or.inl rfl)) pgs_nil))) (pss_one (ps_if (pt_cmpR op_ne (pe_ix ix_list (pv 3) (pv 1) (fun _ _ => rfl)) pe_int (nomark _)) (pss_one (ps_ret (pv 2))) pss_nil)))
    (pss_one (ps_ret pe_non))), ?_⟩
  refine ⟨_, rfl, a, rfl, ⟨_, hS⟩, for_enum (K := K) (a := a) (xs := us) (fun i σ H' => ∃ o1 o2 : Option V, σ = [some (.ref a), some (.int (c : Int)), o1, o2] ∧ Same H H' ∧ ∀ j, j < i → ∀ l, ls[j]? = some l → l.getD c 0 = 0) ⟨none, none, rfl, Same.refl H, fun j h => absurd h (Nat.not_lt_zero _)⟩ (fun i σ H' _ ⟨o1, o2, _, s1, _⟩ => s1.seq hS) ?_ ?_⟩
  · rintro i u σ H' p hu ⟨o1, o2, rfl, s1, z⟩ np
    obtain ⟨l, el, b, rfl, hb⟩ := L.at hu
    have s2 := s1.trans (same_new np (.tup [.int (i : Int), .ref b]))
    have hcl := hc l (List.mem_of_getElem? el)
    refine ⟨p, _, rfl, SqT.of upd_same, rfl, _, _, rfl, _, _, rfl, rfl, ?_⟩
    refine ⟨_, rfl, _, rfl, b, _, _, _, rfl, rfl, SqL.of (s2 _ _ hb), ln_at hcl, rfl, _, rfl, ?_⟩
    refine ite2 (fun y => ?_) (fun y => ?_)
    · have y' : l.getD c 0 ≠ 0 := by simpa using y
      exact ⟨_, rfl, q1 i l _ s2 el y'⟩
    · have y' : l.getD c 0 = 0 := by simpa using y
      refine ⟨_, _, rfl, s2, fun j hj l' e' => ?_⟩
      rcases Nat.lt_succ_iff_lt_or_eq.mp hj with w | w
      · exact z j w l' e'
      · subst w
        rw [el] at e'
        cases e'
        exact y'
  · rintro σ H' ⟨o1, o2, rfl, s1, z⟩
    refine q2 (fun l hl => ?_) H' s1
    obtain ⟨j, hj⟩ := List.getElem?_of_mem hl
    exact z j (by have := (List.getElem?_eq_some_iff.mp hj).1; omega) l hj
structure Red (os : List (List Int)) (L c b : Nat) (nd : List (Nat × List Int)) (lv : List (List Int)) : Prop where
  lenN : ∀ x ∈ nd, x.2.length = L
  lenL : ∀ l ∈ lv, l.length = L
  cols : ∀ x ∈ nd, x.1 < c
  asc : (nd.map (·.1)).Pairwise (· < ·)
  here : ∀ x ∈ nd, x.2.getD x.1 0 ≠ 0
  off : ∀ x ∈ nd, ∀ y ∈ nd, x.1 ≠ y.1 → x.2.getD y.1 0 = 0
  low : ∀ x ∈ nd, ∀ j, j < x.1 → x.2.getD j 0 = 0
  zero : ∀ l ∈ lv, ∀ j, j < c → l.getD j 0 = 0
  combN : ∀ x ∈ nd, Comb os x.2
  combL : ∀ l ∈ lv, Comb os l
  sol : ∀ z, ((∀ x ∈ nd, ev x.2 z = 0) ∧ (∀ l ∈ lv, ev l z = 0)) ↔ ∀ o ∈ os, ev o z = 0
  bdN : ∀ x ∈ nd, Bd b x.2
  bdL : ∀ l ∈ lv, Bd b l
  cnt : nd.length + lv.length = os.length
theorem Red.start {os : List (List Int)} {L b : Nat} (hL : ∀ o ∈ os, o.length = L) (hb : ∀ o ∈ os, Bd b o) : Red os L 0 b [] os where
  lenN := by simp
  lenL := hL
  cols := by simp
  asc := by simp
  here := by simp
  off := by simp
  low := by simp
  zero := fun _ _ j h => absurd h (Nat.not_lt_zero _)
  combN := by simp
  combL := fun l h => comb_mem h
  sol := fun z => by simp
  bdN := by simp
  bdL := hb
  cnt := by simp
theorem Red.skip {os : List (List Int)} {L c b : Nat} {nd : List (Nat × List Int)} {lv : List (List Int)} (h : Red os L c b nd lv) (hz : ∀ l ∈ lv, l.getD c 0 = 0) : Red os L (c + 1) b nd lv where
  lenN := h.lenN
  lenL := h.lenL
  cols := fun x hx => Nat.lt_succ_of_lt (h.cols x hx)
  asc := h.asc
  here := h.here
  off := h.off
  low := h.low
  zero := fun l hl j hj => by
    rcases Nat.lt_succ_iff_lt_or_eq.mp hj with z | z
    · exact h.zero l hl j z
    · subst z
      exact hz l hl
  combN := h.combN
  combL := h.combL
  sol := h.sol
  bdN := h.bdN
  bdL := h.bdL
  cnt := h.cnt
structure Made (os : List (List Int)) (lead : List Int) (c b : Nat) (xs ys : List (List Int)) : Prop where
  len : ys.length = xs.length
  to : ∀ (i : Nat) (x : List Int), xs[i]? = some x → ∃ y, ys[i]? = some y ∧ Clr x lead y c ∧ Bd b y
theorem Made.ex {os : List (List Int)} {lead : List Int} {c b : Nat} {xs ys : List (List Int)} (h : Made os lead c b xs ys) {y : List Int} (hy : y ∈ ys) : ∃ x ∈ xs, Clr x lead y c ∧ Bd b y := by
  obtain ⟨i, hi⟩ := List.getElem?_of_mem hy
  have hl := h.len
  have hlt : i < ys.length := (List.getElem?_eq_some_iff.mp hi).1
  have e : xs[i]? = some (xs[i]'(by omega)) := List.getElem?_eq_getElem (by omega)
  obtain ⟨y', e', r⟩ := h.to i _ e
  rw [hi] at e'
  cases e'
  exact ⟨_, List.mem_of_getElem? e, r⟩
theorem Made.all {os : List (List Int)} {lead : List Int} {c b : Nat} {xs ys : List (List Int)} (h : Made os lead c b xs ys) {x : List Int} (hx : x ∈ xs) : ∃ y ∈ ys, Clr x lead y c ∧ Bd b y := by
  obtain ⟨i, hi⟩ := List.getElem?_of_mem hx
  obtain ⟨y, e, r⟩ := h.to i x hi
  exact ⟨y, List.mem_of_getElem? e, r⟩
theorem Red.step {os : List (List Int)} {L c b : Nat} {nd nd' : List (Nat × List Int)} {lv lv' rest : List (List Int)} {lead : List Int} (h : Red os L c b nd lv) (hlead : lead ∈ lv) (hrest : ∀ l ∈ rest, l ∈ lv) (hall : ∀ l ∈ lv, l = lead ∨ l ∈ rest) (hlen : rest.length + 1 = lv.length)
    (hc : lead.getD c 0 ≠ 0) (ML : Made os lead c (2 * b + 1) rest lv') (hk : nd'.map (·.1) = nd.map (·.1)) (MN : Made os lead c (2 * b + 1) (nd.map (·.2)) (nd'.map (·.2))) : Red os L (c + 1) (2 * b + 1) (nd' ++ [(c, lead)]) lv' := by
  have ll := h.lenL lead hlead
  have lz := h.zero lead hlead
  have hl' : nd'.length = nd.length := by simpa using congrArg List.length hk
  have pairs : ∀ x' ∈ nd', ∃ x ∈ nd, x.1 = x'.1 ∧ Clr x.2 lead x'.2 c ∧ Bd (2 * b + 1) x'.2 := by
    intro x' hx'
    obtain ⟨i, hi⟩ := List.getElem?_of_mem hx'
    have hlt : i < nd'.length := (List.getElem?_eq_some_iff.mp hi).1
    have e : nd[i]? = some (nd[i]'(by omega)) := List.getElem?_eq_getElem (by omega)
    have e1 : (nd'.map (·.1))[i]? = (nd.map (·.1))[i]? := by rw [hk]
    rw [List.getElem?_map, List.getElem?_map, hi, e] at e1
    obtain ⟨y, e2, r⟩ := MN.to i (nd[i]'(by omega)).2 (by rw [List.getElem?_map, e]; rfl)
    rw [List.getElem?_map, hi] at e2
    simp at e1 e2
    subst e2
    exact ⟨_, List.mem_of_getElem? e, e1.symm, r⟩
  have back : ∀ x ∈ nd, ∃ x' ∈ nd', x'.1 = x.1 ∧ Clr x.2 lead x'.2 c := by
    intro x hx
    obtain ⟨i, hi⟩ := List.getElem?_of_mem hx
    have hlt : i < nd.length := (List.getElem?_eq_some_iff.mp hi).1
    have e : nd'[i]? = some (nd'[i]'(by omega)) := List.getElem?_eq_getElem (by omega)
    have e1 : (nd'.map (·.1))[i]? = (nd.map (·.1))[i]? := by rw [hk]
    rw [List.getElem?_map, List.getElem?_map, hi, e] at e1
    obtain ⟨y, e2, r⟩ := MN.to i x.2 (by rw [List.getElem?_map, hi]; rfl)
    rw [List.getElem?_map, e] at e2
    simp at e1 e2
    exact ⟨_, List.mem_of_getElem? e, e1, by rw [e2]; exact r.1⟩
  have spl : ∀ x ∈ nd' ++ [(c, lead)], x ∈ nd' ∨ x = (c, lead) := fun x hx => by simpa using hx
  exact {
    lenN := fun x hx => by
      rcases spl x hx with z | z
      · obtain ⟨y, hy, _, k, _⟩ := pairs x z
        rw [k.len]
        exact h.lenN y hy
      · subst z
        exact ll
    lenL := fun l hl => by
      obtain ⟨x, hx, k, _⟩ := ML.ex hl
      rw [k.len]
      exact h.lenL x (hrest x hx)
    cols := fun x hx => by
      rcases spl x hx with z | z
      · obtain ⟨y, hy, e, _⟩ := pairs x z
        rw [← e]
        exact Nat.lt_succ_of_lt (h.cols y hy)
      · subst z
        exact Nat.lt_succ_self _
    asc := by
      rw [List.map_append, hk, List.pairwise_append]
      refine ⟨h.asc, by simp, fun a ha b' hb' => ?_⟩
      obtain ⟨x, hx, rfl⟩ := List.mem_map.mp ha
      have : b' = c := by simpa using hb'
      subst this
      exact h.cols x hx
    here := fun x hx => by
      rcases spl x hx with z | z
      · obtain ⟨y, hy, e, k, _⟩ := pairs x z
        rw [← e]
        exact k.at (lz _ (h.cols y hy)) (h.here y hy)
      · subst z
        exact hc
    off := fun x hx y hy ne => by
      rcases spl x hx with z | z <;> rcases spl y hy with u | u
      · obtain ⟨x0, hx0, e0, k0, _⟩ := pairs x z
        obtain ⟨y0, hy0, e1, _⟩ := pairs y u
        rw [← e1]
        exact k0.zero (h.off x0 hx0 y0 hy0 (by rw [e0, e1]; exact ne)) (lz _ (h.cols y0 hy0))
      · subst u
        obtain ⟨x0, hx0, e0, k0, _⟩ := pairs x z
        exact k0.nought
      · subst z
        obtain ⟨y0, hy0, e1, _⟩ := pairs y u
        rw [← e1]
        exact lz _ (h.cols y0 hy0)
      · subst z
        subst u
        exact absurd rfl ne
    low := fun x hx j hj => by
      rcases spl x hx with z | z
      · obtain ⟨y, hy, e, k, _⟩ := pairs x z
        rw [← e] at hj
        exact k.zero (h.low y hy j hj) (lz j (Nat.lt_trans hj (h.cols y hy)))
      · subst z
        exact lz j hj
    zero := fun l hl j hj => by
      obtain ⟨x, hx, k, _⟩ := ML.ex hl
      rcases Nat.lt_succ_iff_lt_or_eq.mp hj with z | z
      · exact k.zero (h.zero x (hrest x hx) j z) (lz j z)
      · subst z
        exact k.nought
    combN := fun x hx => by
      rcases spl x hx with z | z
      · obtain ⟨y, hy, _, k, _⟩ := pairs x z
        exact k.comb (h.combN y hy) (h.combL lead hlead)
      · subst z
        exact h.combL lead hlead
    combL := fun l hl => by
      obtain ⟨x, hx, k, _⟩ := ML.ex hl
      exact k.comb (h.combL x (hrest x hx)) (h.combL lead hlead)
    sol := fun z => by
      rw [← h.sol z]
      constructor
      · rintro ⟨a1, a2⟩
        have az : ev lead z = 0 := a1 (c, lead) (by simp)
        refine ⟨fun x hx => ?_, fun l hl => ?_⟩
        · obtain ⟨x', hx', _, k⟩ := back x hx
          exact (k.ev (by rw [ll, h.lenN x hx]) az).mp (a1 x' (by simp [hx']))
        · rcases hall l hl with u | u
          · rw [u]
            exact az
          · obtain ⟨y, hy, k, _⟩ := ML.all u
            exact (k.ev (by rw [ll, h.lenL l hl]) az).mp (a2 y hy)
      · rintro ⟨a1, a2⟩
        have az := a2 lead hlead
        refine ⟨fun x hx => ?_, fun l hl => ?_⟩
        · rcases spl x hx with u | u
          · obtain ⟨y, hy, _, k, _⟩ := pairs x u
            exact (k.ev (by rw [ll, h.lenN y hy]) az).mpr (a1 y hy)
          · subst u
            exact az
        · obtain ⟨x, hx, k, _⟩ := ML.ex hl
          exact (k.ev (by rw [ll, h.lenL x (hrest x hx)]) az).mpr (a2 x (hrest x hx))
    bdN := fun x hx => by
      rcases spl x hx with z | z
      · obtain ⟨y, hy, _, _, k⟩ := pairs x z
        exact k
      · subst z
        exact (h.bdL lead hlead).up (by omega)
    bdL := fun l hl => by
      obtain ⟨x, hx, _, k⟩ := ML.ex hl
      exact k
    cnt := by
      have a := ML.len
      have b := h.cnt
      rw [List.length_append, hl']
      simp
      omega }
def NdR (H : Hp) (kvs : List (Key × V)) (nd : List (Nat × List Int)) : Prop := kvs.length = nd.length ∧ ∀ (i : Nat) (kv : Key × V) (x : Nat × List Int), kvs[i]? = some kv → nd[i]? = some x → kv.1 = .inl (x.1 : Int) ∧ Ln H kv.2 x.2
theorem NdR.same {H H' : Hp} {kvs : List (Key × V)} {nd : List (Nat × List Int)} (h : NdR H kvs nd) (s : Same H H') : NdR H' kvs nd := ⟨h.1, fun i kv x e1 e2 => ⟨(h.2 i kv x e1 e2).1, (h.2 i kv x e1 e2).2.same s⟩⟩
theorem Ln.put {H : Hp} {v : V} {l : List Int} {d : Addr} {kvs : List (Key × V)} {o : HO} (h : Ln H v l) (e : H d = some (.dK kvs)) : Ln (upd H d o) v l := by
  obtain ⟨p, e1, k⟩ := h
  exact ⟨p, e1, by rw [upd_ne (fun z => by rw [z, e] at k; cases k)]; exact k⟩
theorem Lns.put {H : Hp} {us : List V} {ls : List (List Int)} {d : Addr} {kvs : List (Key × V)} {o : HO} (h : Lns H us ls) (e : H d = some (.dK kvs)) : Lns (upd H d o) us ls := ⟨h.1, fun i u l e1 e2 => (h.2 i u l e1 e2).put e⟩
theorem NdR.put {H : Hp} {kvs kv2 : List (Key × V)} {nd : List (Nat × List Int)} {d : Addr} {o : HO} (h : NdR H kvs nd) (e : H d = some (.dK kv2)) : NdR (upd H d o) kvs nd := ⟨h.1, fun i kv x e1 e2 => ⟨(h.2 i kv x e1 e2).1, (h.2 i kv x e1 e2).2.put e⟩⟩
theorem same_put {H H' : Hp} {d : Addr} {o : HO} (s : Same H H') (n : H d = none) : Same H (upd H' d o) := fun b o' e => by
  rw [upd_ne (fun z => by rw [z, n] at e; cases e)]
  exact s _ _ e
theorem NdR.at {H : Hp} {kvs : List (Key × V)} {nd : List (Nat × List Int)} (h : NdR H kvs nd) {i : Nat} {x : Nat × List Int} (e : nd[i]? = some x) : ∃ v, kvs[i]? = some (.inl (x.1 : Int), v) ∧ Ln H v x.2 := by
  have hi : i < nd.length := (List.getElem?_eq_some_iff.mp e).1
  have hl := h.1
  have e2 : kvs[i]? = some (kvs[i]'(by omega)) := List.getElem?_eq_getElem (by omega)
  obtain ⟨a, b⟩ := h.2 i _ x e2 e
  exact ⟨(kvs[i]'(by omega)).2, by rw [e2, ← a], b⟩
theorem NdR.keys {H : Hp} {kvs : List (Key × V)} {nd : List (Nat × List Int)} (h : NdR H kvs nd) : kvs.map (·.1) = nd.map (fun x => (Sum.inl (x.1 : Int) : Key)) := by
  refine List.ext_getElem? fun i => ?_
  have hl := h.1
  rw [List.getElem?_map, List.getElem?_map]
  by_cases hi : i < nd.length
  · have e : nd[i]? = some nd[i] := List.getElem?_eq_getElem hi
    obtain ⟨v, e2, _⟩ := h.at e
    rw [e, e2]
    rfl
  · rw [List.getElem?_eq_none (by omega), List.getElem?_eq_none (by omega)]
    rfl
theorem valV_at {k : Key} {v : V} : ∀ {kvs : List (Key × V)} {i : Nat}, (kvs.map (·.1)).Nodup → kvs[i]? = some (k, v) → valV kvs k = some v
  | [], _, _, e => by simp at e
  | p :: r, 0, _, e => by
    cases e
    exact valV_pos (p := (k, v)) rfl
  | p :: r, i + 1, n, e => by
    rw [List.map_cons, List.nodup_cons] at n
    have e' : r[i]? = some (k, v) := by simpa using e
    have ne : ¬ p.1 = k := fun z => n.1 (by rw [z]; exact List.mem_map.mpr ⟨(k, v), List.mem_of_getElem? e', rfl⟩)
    rw [valV_neg ne]
    exact valV_at n.2 e'
theorem valV_no {k : Key} : ∀ {kvs : List (Key × V)}, k ∉ kvs.map (·.1) → valV kvs k = none
  | [], _ => rfl
  | p :: r, h => by
    have h' : k ≠ p.1 ∧ k ∉ r.map (·.1) := by simpa using h
    rw [valV_neg (fun z => h'.1 z.symm)]
    exact valV_no h'.2
theorem map_put {k : Key} {v v' : V} : ∀ {kvs : List (Key × V)} {i : Nat}, (kvs.map (·.1)).Nodup → kvs[i]? = some (k, v) → kvs.map (fun kv => if kv.1 = k then (kv.1, v') else kv) = kvs.set i (k, v')
  | [], _, _, e => by simp at e
  | p :: r, 0, n, e => by
    rw [List.map_cons, List.nodup_cons] at n
    cases e
    have hr : r.map (fun kv => if kv.1 = k then (kv.1, v') else kv) = r := by
      refine (List.map_congr_left (fun q hq => ?_)).trans (List.map_id r)
      have ne : ¬ q.1 = k := fun z => n.1 (by show k ∈ _; rw [← z]; exact List.mem_map.mpr ⟨q, hq, rfl⟩)
      rw [if_neg ne]
      rfl
    rw [List.map_cons, hr, if_pos rfl, List.set_cons_zero]
  | p :: r, i + 1, n, e => by
    rw [List.map_cons, List.nodup_cons] at n
    have e' : r[i]? = some (k, v) := by simpa using e
    have ne : ¬ p.1 = k := fun z => n.1 (by rw [z]; exact List.mem_map.mpr ⟨(k, v), List.mem_of_getElem? e', rfl⟩)
    rw [List.map_cons, if_neg ne, map_put n.2 e', List.set_cons_succ]
theorem putK_at {k : Key} {v v' : V} {kvs : List (Key × V)} {i : Nat} (n : (kvs.map (·.1)).Nodup) (e : kvs[i]? = some (k, v)) : putK kvs k v' = kvs.set i (k, v') := by
  unfold putK
  rw [valV_any, valV_at n e]
  exact map_put n e
theorem NdR.set {H : Hp} {kvs : List (Key × V)} {nd : List (Nat × List Int)} (h : NdR H kvs nd) {i c : Nat} {v : V} {l : List Int} (hv : Ln H v l) : NdR H (kvs.set i (.inl (c : Int), v)) (nd.set i (c, l)) := by
  have hl := h.1
  refine ⟨by simp [hl], fun j kv x e1 e2 => ?_⟩
  rw [List.getElem?_set] at e1 e2
  by_cases z : i = j
  · subst z
    rw [if_pos rfl] at e1 e2
    by_cases hi : i < kvs.length
    · rw [if_pos hi] at e1
      rw [if_pos (by omega)] at e2
      cases e1
      cases e2
      exact ⟨rfl, hv⟩
    · rw [if_neg hi] at e1
      cases e1
  · rw [if_neg z] at e1 e2
    exact h.2 j kv x e1 e2
theorem NdR.snoc {H : Hp} {kvs : List (Key × V)} {nd : List (Nat × List Int)} (h : NdR H kvs nd) {c : Nat} {v : V} {l : List Int} (hv : Ln H v l) : NdR H (kvs ++ [(.inl (c : Int), v)]) (nd ++ [(c, l)]) := by
  have hl := h.1
  refine ⟨by simp [hl], fun j kv x e1 e2 => ?_⟩
  by_cases z : j < kvs.length
  · rw [List.getElem?_append_left z] at e1
    rw [List.getElem?_append_left (by omega)] at e2
    exact h.2 j kv x e1 e2
  · rw [List.getElem?_append_right (by omega)] at e1 e2
    rw [← hl] at e2
    by_cases y : j - kvs.length = 0
    · rw [y] at e1 e2
      cases e1
      cases e2
      exact ⟨rfl, hv⟩
    · rw [List.getElem?_eq_none (by simp; omega)] at e1
      cases e1
theorem keys_nodup : ∀ {nd : List (Nat × List Int)}, (nd.map (·.1)).Pairwise (· < ·) → (nd.map (fun x => (Sum.inl (x.1 : Int) : Key))).Nodup
  | [], _ => by simp
  | x :: r, h => by
    rw [List.map_cons, List.pairwise_cons] at h
    rw [List.map_cons, List.nodup_cons]
    refine ⟨fun z => ?_, keys_nodup h.2⟩
    obtain ⟨y, hy, e⟩ := List.mem_map.mp z
    have e' : (y.1 : Int) = x.1 := Sum.inl.inj e
    have := h.1 y.1 (List.mem_map.mpr ⟨y, hy, rfl⟩)
    omega
def bb (b : Nat) : Nat → Nat
  | 0 => b
  | k + 1 => 2 * bb b k + 1
theorem bb_eq (b : Nat) : ∀ k, bb b k + 1 = 2 ^ k * (b + 1)
  | 0 => by simp [bb]
  | k + 1 => by
    have := bb_eq b k
    show 2 * bb b k + 1 + 1 = _
    rw [Nat.pow_succ, Nat.mul_right_comm, ← this]
    omega
theorem bb_mono (b : Nat) {k m : Nat} (h : k ≤ m) : bb b k ≤ bb b m := by
  have e1 := bb_eq b k
  have e2 := bb_eq b m
  have : 2 ^ k * (b + 1) ≤ 2 ^ m * (b + 1) := Nat.mul_le_mul_right _ (Nat.pow_le_pow_right (by decide) h)
  omega
theorem cutV_to {xs : List V} {i : Nat} (h : i ≤ xs.length) : cutV xs none (some (i : Int)) = xs.take i := by
  unfold cutV
  rw [HT.sIx_nat, HT.sIx_none, Nat.min_eq_left h]
  rfl
theorem cutV_from {xs : List V} {i : Nat} (h : i ≤ xs.length) : cutV xs (some (i : Int)) none = xs.drop i := by
  unfold cutV
  rw [HT.sIx_nat, HT.sIx_none, Nat.min_eq_left h]
  exact List.take_of_length_le (by simp)
theorem SqL.put {K : PySem.W.Frag} {H : Hp} {a d : Addr} {xs : List V} {kvs : List (Key × V)} {o : HO} (h : SqL K H a xs) (e : H d = some (.dK kvs)) : SqL K (upd H d o) a xs := by
  rcases h with (h | ⟨o', h⟩) | h
  · exact .inl (.inl (by rw [upd_ne (fun z => by rw [z, e] at h; cases h)]; exact h))
  · exact .inl (.inr ⟨o', by rw [upd_ne (fun z => by rw [z, e] at h; cases h)]; exact h⟩)
  · exact .inr h
theorem Red.up {os : List (List Int)} {L c b b' : Nat} {nd : List (Nat × List Int)} {lv : List (List Int)} (h : Red os L c b nd lv) (hb : b ≤ b') : Red os L c b' nd lv := { h with bdN := fun x hx => (h.bdN x hx).up hb, bdL := fun x hx => (h.bdL x hx).up hb }
theorem Lns.erase {H : Hp} {us : List V} {ls : List (List Int)} (h : Lns H us ls) (j : Nat) : Lns H (us.eraseIdx j) (ls.eraseIdx j) := by
  have hl := h.1
  refine ⟨by rw [List.length_eraseIdx, List.length_eraseIdx, hl], fun i u l e1 e2 => ?_⟩
  rw [List.getElem?_eraseIdx] at e1 e2
  by_cases z : i < j
  · rw [if_pos z] at e1 e2
    exact h.2 _ _ _ e1 e2
  · rw [if_neg z] at e1 e2
    exact h.2 _ _ _ e1 e2
theorem list_pick {α β : Type} {P : Nat → α → β → Prop} : ∀ (xs : List α), (∀ i x, xs[i]? = some x → ∃ y, P i x y) → ∃ ys : List β, ys.length = xs.length ∧ ∀ i x y, xs[i]? = some x → ys[i]? = some y → P i x y
  | [], _ => ⟨[], rfl, fun i x y e => by simp at e⟩
  | x :: xs, h => by
    obtain ⟨y, hy⟩ := h 0 x rfl
    obtain ⟨ys, hl, hp⟩ := list_pick (P := fun i => P (i + 1)) xs (fun i x e => h (i + 1) x (by simpa using e))
    refine ⟨y :: ys, by simp [hl], fun i x' y' e1 e2 => ?_⟩
    cases i with
    | zero =>
      cases e1
      cases e2
      exact hy
    | succ i => exact hp i x' y' (by simpa using e1) (by simpa using e2)
def spReduced (K : PySem.W.Frag) : Sp := fun vs H Q _ => ∃ (a : Addr) (us : List V) (os : List (List Int)) (L m b : Nat), vs = [.ref a, .int (m : Int)] ∧ SqL K H a us ∧ Lns H us os ∧ (∀ o ∈ os, o.length = L) ∧ m ≤ L ∧ L ≤ 1000 ∧ os.length ≤ 1000 ∧ (∀ o ∈ os, Bd b o) ∧ bb b (min m os.length) ≤ 29000000 ∧
  ∀ (p d a' : Addr) (kvs : List (Key × V)) (us' : List V) (nd : List (Nat × List Int)) (lv : List (List Int)) (H' : Hp), Same H H' → H d = none → H p = none → H' p = some (.tup [.ref d, .ref a']) → H' d = some (.dK kvs) → SqL K H' a' us' → NdR H' kvs nd → Lns H' us' lv → Red os L m (bb b (min m os.length)) nd lv → Q (.ref p) H'
theorem sc_reduced : FnScope ["lines", "many", "needed", "left", "column", "at", "lead", "place"] ["lines", "many"] (defScope s_reduced) := ⟨rfl, rfl, rfl, by decide +kernel, rfl, by decide +kernel, by decide +kernel⟩
theorem ok_reduced (D : Def K mg "reduced" s_reduced ["lines", "many"]) (m_range : mg "range" = none) (m_list : mg "list" = none) (G_first_not_nought : Fn P w K mg base (CXr P w) 1 "first_not_nought" ["lines", "column"] (spFirst K)) (G_cleared : Fn P w K mg base (CXr P w) 34 "cleared" ["line", "lead", "column"] spCleared) : Fn P w K mg base (CXr P w) 35 "reduced" ["lines", "many"] (spReduced K) := by
  refine D.ok sc_reduced (fun vs H Q E h => ?_) (fun f cdv A outer s H vs Q E hr h => ?_)
  · obtain ⟨a, us, os, L, m, b, rfl, _⟩ := h
    rfl
  obtain ⟨a, us, os, L, m, b, rfl, hS, hL, hlen, hm, hL1, ho, hB, hb, q⟩ := h
  have px := passM (X := (cxOf (CXr P w) P w K mg base ["lines", "many", "needed", "left", "column", "at", "lead", "place"] "reduced" (defScope s_reduced) f cdv A outer s H E)) (CXr.mute (P := P) (w := w))
  refine ⟨_, (pss_cons (ps_set (i := 2) sc_reduced.nd rfl (Or.inl rfl) pe_dnewK)
    (pss_cons (ps_set (i := 3) sc_reduced.nd rfl (Or.inl rfl) (pv 0))
    (pss_cons (ps_for PassesOwn.never rfl (pi_range1 rfl m_range (pac (pv 1) pa_nil)) (pg_name (i := 4) sc_reduced.nd rfl (Or.inr rfl)) (pss_cons (ps_set (i := 5) sc_reduced.nd rfl (Or.inl rfl) (pe_fn G_first_not_nought (hr.mono (by decide)) px (pac (pv 3) (pac (pv 4) pa_nil))))
      (pss_cons (ps_if (pt_cmpR op_isN (pv 5) pe_non (nomark _)) (pss_one ps_continue) pss_nil)
      (pss_cons (ps_set (i := 6) sc_reduced.nd rfl (Or.inr rfl) (pe_ix ix_list (pv 3) (pv 5) (fun _ _ => rfl)))
      (pss_cons (ps_setC (i := 3) sc_reduced.nd rfl (Or.inl rfl) (tn := ["line"]) (fr := ["lead", "column"]) (caps := [6, 4]) rfl ⟨rfl, by decide +kernel, rfl, by decide +kernel, by decide +kernel, rfl, ⟨(by first | exact Or.inl rfl | exact Or.inr rfl), ⟨(by first | exact Or.inl rfl | exact Or.inr rfl), trivial⟩⟩, ⟨(by first | exact Or.inl rfl | exact Or.inr rfl), ⟨(by first | exact Or.inl rfl | exact Or.inr rfl), trivial⟩⟩⟩ (pi_list (pe_op op_cat (pe_slice sl_list (pv 3) po_none (po_some (pv 5))) (pe_slice sl_list (pv 3) (po_some (pe_op op_add (pv 5) pe_int)) po_none))) (fun _ _ _ _ => (pg_name (i := 0) (show (["line", "lead", "column"] : List Str).Nodup from by decide +kernel) rfl (Or.inl rfl))) (fun _ _ _ _ => pf_nil) (fun _ _ _ _ => (pe_fn G_cleared (hr.mono (by decide)) (passB (by first | assumption | exact CXr.mute) rfl) (pac (pv 0) (pac (pv 1) (pac (pv 2) pa_nil))))))
      (pss_cons (ps_for PassesOwn.never rfl (pi_list (pe_callTy (call_listD rfl) rfl m_list b_list (pac (pv 2) pa_nil))) (pg_name (i := 7) sc_reduced.nd rfl (Or.inl rfl)) (pss_one (ps_dput (hu_of hr) (pv 2) (pv 7) (pe_fn G_cleared (hr.mono (by decide)) px (pac (pe_dget (hu_of hr) (pv 2) (pv 7) (fun _ _ => rfl)) (pac (pv 6) (pac (pv 4) pa_nil)))) rfl)))
      (pss_one (ps_dput (hu_of hr) (pv 2) (pv 4) (pv 6) rfl))))))))
    (pss_one (ps_ret (pe_tup (pac (pv 2) (pac (pv 3) pa_nil)))))))), ?_⟩
  refine fun d nd0 => ?_
  have s0 : Same H (upd H d (.dK [])) := same_new nd0 _
  refine ⟨_, rfl, _, rfl, _, rfl, by omega, by omega, ?_⟩
  refine for_range (lo := 0) (n := m) (fun i σ H' => ∃ (al : Addr) (us1 : List V) (kvs : List (Key × V)) (nd : List (Nat × List Int)) (lv : List (List Int)) (o4 o5 o6 o7 : Option V), σ = [some (.ref a), some (.int (m : Int)), some (.ref d), some (.ref al), o4, o5, o6, o7] ∧ Same H H' ∧ H' d = some (.dK kvs) ∧ SqL K H' al us1 ∧ Lns H' us1 lv ∧ NdR H' kvs nd ∧ nd.length ≤ i ∧ Red os L i (bb b nd.length) nd lv)
    ⟨a, us, [], [], os, none, none, none, none, rfl, s0, upd_same, s0.seq hS, hL.same s0, ⟨rfl, by simp⟩, Nat.le_refl _, Red.start hlen hB⟩ ?_ ?_
  · rintro i σ H1 hi ⟨al, us1, kvs, nd, lv, o4, o5, o6, o7, rfl, s1, hd, hS1, hL1', hN, hni, R⟩
    refine ⟨_, rfl, _, rfl, al, us1, lv, i, by rw [Int.zero_add]; rfl, hS1, hL1', fun l hl => by rw [R.lenL l hl]; omega, fun j lead H2 s2 ej hj => ?_, fun hz H2 s2 => ?_⟩
    · have hjl : j < lv.length := (List.getElem?_eq_some_iff.mp ej).1
      have hul := hL1'.1
      have cnt := R.cnt
      have hbk : bb b nd.length ≤ 29000000 := Nat.le_trans (bb_mono b (by omega)) hb
      have hd2 := s2 _ _ hd
      have hS2 := s2.seq hS1
      have hL2 := hL1'.same s2
      have hN2 := hN.same s2
      obtain ⟨u, eu, hu⟩ := hL2.at' ej
      have hlead : lead ∈ lv := List.mem_of_getElem? ej
      refine ⟨_, rfl, rfl, _, rfl, ?_⟩
      refine ite2 (fun z => by simp at z) (fun _ => ?_)
      refine ⟨_, rfl, _, rfl, al, _, _, _, rfl, rfl, hS2, atI_nat eu, ?_⟩
      refine ⟨_, rfl, _, rfl, _, rfl, al, us1, rfl, hS2, fun p1 n1 => ?_⟩
      have t1 := same_new n1 (.lst (cutV us1 none (some (j : Int))))
      refine ⟨_, rfl, _, rfl, _, _, rfl, rfl, _, rfl, al, us1, rfl, t1.seq hS2, fun p2 n2 => ?_⟩
      have t2 := same_new n2 (.lst (cutV us1 (some ((j : Int) + 1)) none))
      have ecut : cutV us1 none (some (j : Int)) ++ cutV us1 (some ((j : Int) + 1)) none = us1.eraseIdx j := by
        rw [cutV_to (by omega), show ((j : Int) + 1) = ((j + 1 : Nat) : Int) from by omega, cutV_from (by omega), List.eraseIdx_eq_take_drop_succ]
      have lcut : (cutV us1 none (some (j : Int))).length + (cutV us1 (some ((j : Int) + 1)) none).length ≤ sizeLine := by
        rw [← List.length_append, ecut]
        exact Nat.le_trans (Nat.le_trans (List.length_eraseIdx_le ..) (show us1.length ≤ 1000 by omega)) (by decide)
      refine ⟨p1, p2, _, _, rfl, rfl, t2 _ _ upd_same, upd_same, lcut, fun p3 n3 => ?_⟩
      have t3 := same_new n3 (.lst (cutV us1 none (some (j : Int)) ++ cutV us1 (some ((j : Int) + 1)) none))
      refine ⟨p3, rfl, ⟨_, SqL.of upd_same⟩, fun D nD => ?_⟩
      have tt := (t1.trans t2).trans t3
      have hE := (hL2.same tt).erase j
      have hu3 := hu.same tt
      have er : (us1.eraseIdx j).length ≤ 1000 := Nat.le_trans (List.length_eraseIdx_le ..) (show us1.length ≤ 1000 by omega)
      refine comp_listD (cap := [some u, some (.int ((0 : Int) + i))]) (K := K) (a := p3) (xs := us1.eraseIdx j) (fun k v H => ∃ x y p, (lv.eraseIdx j)[k]? = some x ∧ v = .ref p ∧ p ≠ D ∧ H p = some (.lst (y.map V.int)) ∧ Clr x lead y i ∧ Bd (2 * bb b nd.length + 1) y) nD (Nat.lt_of_le_of_lt er (by decide)) (fun H3 s3 => SqL.of (s3 _ _ (by rw [upd_same, ecut]))) ?_ ?_ ?_
      · rintro k v H3 H4 ys hD3 ks ⟨x, y, p, e1, e2, e3, e4, e5⟩
        exact ⟨x, y, p, e1, e2, e3, ks _ _ e3 e4, e5⟩
      · rintro k x H3 RR ex s3 ⟨ys0, hys0⟩ kk
        obtain ⟨l, el, hl⟩ := hE.at ex
        have hmem : l ∈ lv := List.mem_of_mem_eraseIdx (List.mem_of_getElem? el)
        have hll := R.lenL l hmem
        have hld := R.lenL lead hlead
        refine ⟨_, rfl, _, rfl, _, rfl, x, u, l, lead, i, bb b nd.length, bb b nd.length, by rw [Int.zero_add]; rfl, hl.same s3, hu3.same s3, by rw [hll, hld], by omega, by omega, hj, R.bdL l hmem, R.bdL lead hlead, hbk, hbk, fun v' l' H4 s4 L4 cl bd fr => ?_⟩
        obtain ⟨p, e1, e2⟩ := L4
        refine kk v' H4 s4 ⟨l, l', p, el, e1, ?_, e2, cl, by rw [Nat.two_mul]; exact bd⟩
        rcases fr with z | ⟨p', z, n⟩
        · obtain ⟨px', z1, z2⟩ := hl
          rw [z1, e1] at z
          cases z
          exact ne_of_none z2 nD
        · rw [e1] at z
          cases z
          exact fun y => by rw [y, hys0] at n; cases n
      · intro ys H3 hy hrel s3 hD
        obtain ⟨lv', hl', hp⟩ := list_pick (P := fun k v y => ∃ x p, (lv.eraseIdx j)[k]? = some x ∧ v = .ref p ∧ p ≠ D ∧ H3 p = some (.lst (y.map V.int)) ∧ Clr x lead y i ∧ Bd (2 * bb b nd.length + 1) y) ys (fun k v e => by
          obtain ⟨x, y, p, r⟩ := hrel k v e
          exact ⟨y, x, p, r⟩)
        have hLn : Lns H3 ys lv' := ⟨hl'.symm, fun k v y e1 e2 => by
          obtain ⟨x, p, _, e, _, r, _⟩ := hp k v y e1 e2
          exact ⟨p, e, r⟩⟩
        have les : (us1.eraseIdx j).length = (lv.eraseIdx j).length := hE.1
        have ML : Made os lead i (2 * bb b nd.length + 1) (lv.eraseIdx j) lv' := ⟨by omega, fun k x e => by
          have hk : k < (lv.eraseIdx j).length := (List.getElem?_eq_some_iff.mp e).1
          have e1 : ys[k]? = some (ys[k]'(by omega)) := List.getElem?_eq_getElem (by omega)
          have e2 : lv'[k]? = some (lv'[k]'(by omega)) := List.getElem?_eq_getElem (by omega)
          obtain ⟨x', p, r1, _, _, _, r2⟩ := hp k _ _ e1 e2
          rw [e] at r1
          cases r1
          exact ⟨_, e2, r2⟩⟩
        have s13 := tt.trans s3
        have hd3 := s13 _ _ hd2
        have hN3 := hN2.same s13
        have hu4 := hu3.same s3
        refine ⟨_, rfl, d, kvs, rfl, Rd.of hd3, fun l3 n3 => ?_⟩
        have t4 := same_new n3 (.lst (kvs.map fun kv => kV kv.1))
        refine ⟨l3, rfl, ⟨_, SqL.of upd_same⟩, ?_⟩
        have dl : d ≠ l3 := ne_of_none hd3 n3
        refine for_list (K := K) (a := l3) (xs := kvs.map fun kv => kV kv.1) (fun t σ H' => ∃ (o7 : Option V) (kvs' : List (Key × V)) (nd' : List (Nat × List Int)), σ = [some (.ref a), some (.int (m : Int)), some (.ref d), some (.ref D), some (.int ((0 : Int) + i)), some (.int (j : Int)), some u, o7] ∧ Same H H' ∧ H' d = some (.dK kvs') ∧ H' l3 = some (.lst (kvs.map fun kv => kV kv.1)) ∧ H' D = some (.lst ys) ∧ Lns H' ys lv' ∧ Ln H' u lead ∧ NdR H' kvs' nd' ∧ nd'.map (·.1) = nd.map (·.1) ∧
            ∀ (k : Nat) (x : Nat × List Int), nd[k]? = some x → ∃ y, nd'[k]? = some (x.1, y) ∧ (t ≤ k → y = x.2) ∧ (k < t → Clr x.2 lead y i ∧ Bd (2 * bb b nd.length + 1) y))
          ⟨_, kvs, nd, rfl, ((s1.trans s2).trans s13).trans t4, t4 _ _ hd3, upd_same, t4 _ _ hD, hLn.same t4, hu4.same t4, hN3.same t4, rfl, fun k x e => ⟨x.2, e, fun _ => rfl, fun z => absurd z (Nat.not_lt_zero _)⟩⟩ (fun t σ H' _ h => by
            obtain ⟨_, _, _, _, _, _, h, _⟩ := h
            exact SqL.of h) ?_ ?_
        · rintro t u7 σ H4 hu7 ⟨o7, kvs', nd', rfl, s4, hd4, hl4, hD4, hL4, hu5, hN4, hk4, hx4⟩
          rw [List.getElem?_map] at hu7
          obtain ⟨kv, ekv, rfl⟩ := Option.map_eq_some_iff.mp hu7
          have htl : t < kvs.length := (List.getElem?_eq_some_iff.mp ekv).1
          have hnl := hN.1
          have ex : nd[t]? = some (nd[t]'(by omega)) := List.getElem?_eq_getElem (by omega)
          obtain ⟨x, hx⟩ : ∃ x, nd[t]? = some x := ⟨_, ex⟩
          obtain ⟨kx, hxm⟩ : kv.1 = .inl (x.1 : Int) ∧ x ∈ nd := ⟨(hN3.2 t kv x ekv hx).1, List.mem_of_getElem? hx⟩
          obtain ⟨y, ey, y1, _⟩ := hx4 t x hx
          have y2 := y1 (Nat.le_refl _)
          subst y2
          obtain ⟨v, ev, hv⟩ := hN4.at ey
          have nk : (kvs'.map (·.1)).Nodup := by
            rw [hN4.keys]
            exact keys_nodup (by rw [hk4]; exact R.asc)
          have vat := valV_at nk ev
          have hxl := R.lenN x hxm
          have hld := R.lenL lead hlead
          have dg : DGet H4 d (kV kv.1) (some v) := by
            rw [kx, ← vat]
            exact DGet.k hd4
          refine ⟨_, rfl, _, rfl, d, v, rfl, dg, _, rfl, _, rfl, v, u, x.2, lead, i, bb b nd.length, bb b nd.length, by rw [Int.zero_add]; rfl, hv, hu5, by rw [hxl, hld], by omega, by omega, hj, R.bdN x hxm, R.bdL lead hlead, hbk, hbk, fun v' l' H5 s5 L5 cl bd fr => ?_⟩
          have hd5 := s5 _ _ hd4
          have l4' := hN4.1
          have l5' : nd'.length = nd.length := by simpa using congrArg List.length hk4
          refine ⟨_, rfl, _, rfl, d, _, rfl, DPut.k hd5 (Nat.lt_of_le_of_lt (show kvs'.length ≤ 1000 by omega) (by decide)), ?_⟩
          rw [kx, putK_at nk ev]
          have dn : d ≠ D := fun z => by rw [z, hD4] at hd4; cases hd4
          refine ⟨_, kvs'.set t (.inl (x.1 : Int), v'), nd'.set t (x.1, l'), rfl, same_put (s4.trans s5) nd0, upd_same, by rw [upd_ne (Ne.symm dl)]; exact s5 _ _ hl4, by rw [upd_ne (Ne.symm dn)]; exact s5 _ _ hD4, (hL4.same s5).put hd5, (hu5.same s5).put hd5, ((hN4.same s5).set L5).put hd5, ?_, fun k x' ek => ?_⟩
          · rw [List.map_set, hk4]
            refine List.ext_getElem? fun k => ?_
            rw [List.getElem?_set]
            by_cases z : t = k
            · subst z
              rw [if_pos rfl, if_pos (by simp; omega), List.getElem?_map, hx]
              rfl
            · rw [if_neg z]
          · obtain ⟨y', ey', a1, a2⟩ := hx4 k x' ek
            by_cases z : t = k
            · subst z
              rw [hx] at ek
              cases ek
              refine ⟨l', by rw [List.getElem?_set, if_pos rfl, if_pos (by omega)], fun w => by omega, fun _ => ⟨cl, by rw [Nat.two_mul]; exact bd⟩⟩
            · exact ⟨y', by rw [List.getElem?_set, if_neg z]; exact ey', fun w => a1 (by omega), fun w => a2 (by omega)⟩
        · rintro σ H4 ⟨o7, kvs', nd', rfl, s4, hd4, hl4, hD4, hL4, hu5, hN4, hk4, hx4⟩
          have l4' := hN4.1
          have l5' : nd'.length = nd.length := by simpa using congrArg List.length hk4
          have hnl := hN.1
          rw [List.length_map] at hx4
          have MN : Made os lead i (2 * bb b nd.length + 1) (nd.map (·.2)) (nd'.map (·.2)) := ⟨by simp [l5'], fun k x e => by
            rw [List.getElem?_map] at e
            obtain ⟨x0, e0, rfl⟩ := Option.map_eq_some_iff.mp e
            have hk : k < nd.length := (List.getElem?_eq_some_iff.mp e0).1
            obtain ⟨y, ey, _, a2⟩ := hx4 k x0 e0
            exact ⟨y, by rw [List.getElem?_map, ey]; rfl, a2 (by omega)⟩⟩
          have hno : valV kvs' (.inl ((0 : Int) + i)) = none := valV_no (fun z => by
            rw [hN4.keys] at z
            obtain ⟨x', hx', e⟩ := List.mem_map.mp z
            have e1 : (x'.1 : Int) = 0 + i := Sum.inl.inj e
            have : x'.1 ∈ nd.map (·.1) := by rw [← hk4]; exact List.mem_map.mpr ⟨x', hx', rfl⟩
            obtain ⟨x, hx, e2⟩ := List.mem_map.mp this
            have := R.cols x hx
            omega)
          refine ⟨_, rfl, _, rfl, _, rfl, d, _, rfl, DPut.k (k := .inl ((0 : Int) + i)) hd4 (Nat.lt_of_le_of_lt (show kvs'.length ≤ 1000 by omega) (by decide)), ?_⟩
          rw [putK_new u hno]
          have dn : d ≠ D := fun z => by rw [z, hD4] at hd4; cases hd4
          have mem1 : ∀ l ∈ lv.eraseIdx j, l ∈ lv := fun l h => List.mem_of_mem_eraseIdx h
          have mem2 : ∀ l ∈ lv, l = lead ∨ l ∈ lv.eraseIdx j := fun l h => by
            obtain ⟨k, ek⟩ := List.getElem?_of_mem h
            rcases Nat.lt_trichotomy k j with z | z | z
            · exact .inr (List.mem_of_getElem? (i := k) (by rw [List.getElem?_eraseIdx, if_pos z]; exact ek))
            · subst z
              rw [ej] at ek
              cases ek
              exact .inl rfl
            · exact .inr (List.mem_of_getElem? (i := k - 1) (by rw [List.getElem?_eraseIdx, if_neg (by omega), show k - 1 + 1 = k by omega]; exact ek))
          have lenE : (lv.eraseIdx j).length + 1 = lv.length := by rw [List.length_eraseIdx, if_pos hjl]; omega
          have R2 := R.step hlead mem1 mem2 lenE hj ML hk4 MN
          refine ⟨D, ys, _, nd' ++ [(i, lead)], lv', _, _, _, _, rfl, same_put s4 nd0, upd_same, SqL.of (by rw [upd_ne (Ne.symm dn)]; exact hD4), hL4.put hd4, (by rw [Int.zero_add]; exact (hN4.snoc hu5).put hd4), by simp; omega, ?_⟩
          rw [List.length_append, l5']
          exact R2
    · refine ⟨_, rfl, rfl, _, rfl, ?_⟩
      refine ite2 (fun _ => ?_) (fun z => by simp at z)
      exact ⟨al, us1, kvs, nd, lv, _, _, _, _, rfl, s1.trans s2, s2 _ _ hd, s2.seq hS1, hL1'.same s2, hN.same s2, by omega, R.skip hz⟩
  · rintro σ H1 ⟨al, us1, kvs, nd, lv, o4, o5, o6, o7, rfl, s1, hd, hS1, hL1', hN, hni, R⟩
    refine ⟨_, rfl, _, rfl, (by show 2 ≤ sizeLine; decide), fun p np => ?_⟩
    have sp := same_new np (.tup [.ref d, .ref al])
    have cnt := R.cnt
    exact q p d al kvs us1 nd lv _ (s1.trans sp) nd0 (s1.free np) upd_same (sp _ _ hd) (sp.seq hS1) (hN.same sp) (hL1'.same sp) (R.up (bb_mono b (by omega)))
theorem sm_lowU {t b : Int} {T B : Nat} (hb : b ≠ 0) (h1 : t.natAbs ≤ 2 ^ T) (h2 : b.natAbs ≤ 2 ^ B) : Sm T B (low t b) := ⟨low_pos hb, low_gcd hb, Nat.le_trans (low_top_le hb) h1, Nat.le_trans (low_bot_le hb) h2⟩
theorem getD_out {l : List Int} {j : Nat} (h : l.length ≤ j) : l.getD j 0 = 0 := by
  rw [List.getD_eq_getElem?_getD, List.getElem?_eq_none h]
  rfl
def Fill (m t : Nat) (nd : List (Nat × List Int)) (qs : List (Int × Int)) : Prop := qs.length = m ∧ (∀ i, i < t → ∀ x, nd[i]? = some x → qs[x.1]? = some (low (x.2.getD m 0) (x.2.getD x.1 0))) ∧ ∀ j, j < m → (∀ i, i < t → ∀ x, nd[i]? = some x → x.1 ≠ j) → qs[j]? = some (0, 1)
theorem Fill.sm {os : List (List Int)} {m b : Nat} {nd : List (Nat × List Int)} {lv : List (List Int)} {qs : List (Int × Int)} (R : Red os (m + 1) m b nd lv) (F : Fill m nd.length nd qs) : ∀ q ∈ qs, Sm b b q := by
  intro q hq
  obtain ⟨j, hj⟩ := List.getElem?_of_mem hq
  have hjm : j < m := by have := (List.getElem?_eq_some_iff.mp hj).1; rw [← F.1]; exact this
  by_cases c : ∃ (i : Nat) (x : Nat × List Int), nd[i]? = some x ∧ x.1 = j
  · obtain ⟨i, x, e, rfl⟩ := c
    have hi : i < nd.length := (List.getElem?_eq_some_iff.mp e).1
    have h1 := F.2.1 i hi x e
    rw [hj] at h1
    cases h1
    have hm := List.mem_of_getElem? e
    exact sm_lowU (R.here x hm) (R.bdN x hm m) (R.bdN x hm x.1)
  · have h1 := F.2.2 j hjm (fun i _ x e z => c ⟨i, x, e, z⟩)
    rw [hj] at h1
    cases h1
    exact ⟨by decide, by decide, Nat.zero_le _, Nat.one_le_two_pow⟩
theorem Fill.sol {os : List (List Int)} {m b : Nat} {nd : List (Nat × List Int)} {lv : List (List Int)} {qs : List (Int × Int)} (R : Red os (m + 1) m b nd lv) (F : Fill m nd.length nd qs) (hz : ∀ l ∈ lv, l.getD m 0 = 0) : ∀ o ∈ os, ev o (zOf (qs.map vl)) = 0 := by
  have ql := F.1
  have zl : ∀ j q, qs[j]? = some q → zOf (qs.map vl) j = vl q := fun j q e => by
    have hj : j < qs.length := (List.getElem?_eq_some_iff.mp e).1
    unfold zOf
    rw [if_pos (by rw [List.length_map]; exact hj), List.getD_eq_getElem?_getD, List.getElem?_map, e]
    rfl
  have zm : zOf (qs.map vl) m = -1 := by
    unfold zOf
    rw [if_neg (by rw [List.length_map]; omega)]
  refine (R.sol _).mp ⟨fun x hx => ?_, fun l hl => ?_⟩
  · obtain ⟨i, e⟩ := List.getElem?_of_mem hx
    have hi : i < nd.length := (List.getElem?_eq_some_iff.mp e).1
    have hc := R.cols x hx
    have hh := R.here x hx
    have h1 := F.2.1 i hi x e
    have zc := zl _ _ h1
    rw [vl_low hh] at zc
    have other : ∀ j, j ≠ x.1 → j ≠ m → ((x.2.getD j 0 : Int) : Rat) * zOf (qs.map vl) j = 0 := by
      intro j n1 n2
      by_cases hj : j < m
      · by_cases c : ∃ (i : Nat) (x : Nat × List Int), nd[i]? = some x ∧ x.1 = j
        · obtain ⟨i', y, e', rfl⟩ := c
          rw [R.off x hx y (List.mem_of_getElem? e') (Ne.symm n1)]
          simp
        · have h2 := F.2.2 j hj (fun i _ x e z => c ⟨i, x, e, z⟩)
          rw [zl _ _ h2]
          unfold vl
          simp
          grind
      · rw [getD_out (by rw [R.lenN x hx]; omega)]
        simp
    have sp : zOf (qs.map vl) = fun i => (if i = m then 0 else zOf (qs.map vl) i) + (if i = m then -1 else 0) := by
      funext i
      by_cases z : i = m
      · rw [if_pos z, if_pos z, z, zm]
        grind
      · rw [if_neg z, if_neg z]
        grind
    rw [sp, ev_add]
    have a1 := ev_one x.2 (fun i => if i = m then 0 else zOf (qs.map vl) i) x.1 (fun j hj => by
      by_cases z : j = m
      · simp [z]
      · rw [if_neg z]
        exact other j hj z)
    have a2 := ev_one x.2 (fun i => if i = m then (-1 : Rat) else 0) m (fun j hj => by rw [if_neg hj]; simp)
    rw [a1, a2]
    rw [if_neg (by omega), if_pos rfl, zc]
    have hh' := ratne hh
    grind
  · refine ev_none l _ (fun j => ?_)
    have : l.getD j 0 = 0 := by
      by_cases h1 : j < m
      · exact R.zero l hl j h1
      · by_cases h2 : j = m
        · rw [h2]
          exact hz l hl
        · exact getD_out (by rw [R.lenL l hl]; omega)
    rw [this]
    simp
theorem Fill.put {m t b : Nat} {os : List (List Int)} {nd : List (Nat × List Int)} {lv : List (List Int)} {qs : List (Int × Int)} {x : Nat × List Int} (R : Red os (m + 1) m b nd lv) (F : Fill m t nd qs) (e : nd[t]? = some x) : Fill m (t + 1) nd (qs.set x.1 (low (x.2.getD m 0) (x.2.getD x.1 0))) := by
  have ql := F.1
  have hx := R.cols x (List.mem_of_getElem? e)
  have dis : ∀ i y, i < t → nd[i]? = some y → y.1 ≠ x.1 := fun i y hi ey => by
    have a := List.pairwise_iff_getElem.mp R.asc i t (by rw [List.length_map]; exact (List.getElem?_eq_some_iff.mp ey).1) (by rw [List.length_map]; exact (List.getElem?_eq_some_iff.mp e).1) hi
    simp only [List.getElem_map] at a
    have e1 := (List.getElem?_eq_some_iff.mp ey).2
    have e2 := (List.getElem?_eq_some_iff.mp e).2
    rw [e1, e2] at a
    omega
  refine ⟨by simp [ql], fun i hi y ey => ?_, fun j hj h => ?_⟩
  · rcases Nat.lt_succ_iff_lt_or_eq.mp hi with z | z
    · rw [List.getElem?_set, if_neg (Ne.symm (dis i y z ey))]
      exact F.2.1 i z y ey
    · subst z
      rw [e] at ey
      cases ey
      rw [List.getElem?_set, if_pos rfl, if_pos (by omega)]
  · rw [List.getElem?_set, if_neg (h t (Nat.lt_succ_self _) x e)]
    exact F.2.2 j hj (fun i hi y ey => h i (Nat.lt_succ_of_lt hi) y ey)
theorem ixN_at {n j : Nat} (h : j < n) : ixN n (j : Int) = some j := by
  unfold ixN
  simp
  omega
theorem SqT.putL {K : PySem.W.Frag} {H : Hp} {a d : Addr} {xs ys : List V} {o : HO} (h : SqT K H a xs) (e : H d = some (.lst ys)) : SqT K (upd H d o) a xs := by
  rcases h with (h | ⟨o', h⟩) | h
  · exact .inl (.inl (by rw [upd_ne (fun z => by rw [z, e] at h; cases h)]; exact h))
  · exact .inl (.inr ⟨o', by rw [upd_ne (fun z => by rw [z, e] at h; cases h)]; exact h⟩)
  · exact .inr h
def spSolution (K : PySem.W.Frag) : Sp := fun vs H Q _ => ∃ (a : Addr) (us : List V) (os : List (List Int)) (m b : Nat), vs = [.ref a, .int (m : Int)] ∧ SqL K H a us ∧ Lns H us os ∧ (∀ o ∈ os, o.length = m + 1) ∧ m ≤ 900 ∧ os.length ≤ 900 ∧ (∀ o ∈ os, Bd b o) ∧ bb b (min m os.length) ≤ 29000000 ∧
  (∀ (l : List Int) (H' : Hp), Same H H' → l.length = m + 1 → Comb os l → (∀ j, j < m → l.getD j 0 = 0) → l.getD m 0 ≠ 0 → Q .non H') ∧
  (∀ (x : Addr) (us' : List V) (qs : List (Int × Int)) (H' : Hp), Same H H' → H x = none → H' x = some (.lst us') → NmsK K H' us' qs → qs.length = m → (∀ q ∈ qs, Sm (bb b (min m os.length)) (bb b (min m os.length)) q) → (∀ o ∈ os, ev o (zOf (qs.map vl)) = 0) → Q (.ref x) H')
theorem sc_solution_of : FnScope ["lines", "many", "told", "x", "column", "line"] ["lines", "many"] (defScope s_solution_of) := ⟨rfl, rfl, rfl, by decide +kernel, rfl, by decide +kernel, by decide +kernel⟩
theorem ok_solution_of {aN : Addr} (hN : ∀ H : Hp, SqT K H aN [.int 0, .int 1]) (m_NOUGHT : mg "NOUGHT" = some (.ref aN)) (D : Def K mg "solution_of" s_solution_of ["lines", "many"]) (m_any : mg "any" = none) (G_reduced : Fn P w K mg base (CXr P w) 35 "reduced" ["lines", "many"] (spReduced K)) (G_lowest_terms : Fn P w K mg base (CXr P w) 33 "lowest_terms" ["top", "bottom"] spLowestU) : Fn P w K mg base (CXr P w) 36 "solution_of" ["lines", "many"] (spSolution K) := by
  refine D.ok sc_solution_of (fun vs H Q E h => ?_) (fun f cdv A outer s H vs Q E hr h => ?_)
  · obtain ⟨a, us, os, m, b, rfl, _⟩ := h
    rfl
  obtain ⟨a, us, os, m, b, rfl, hS, hL, hlen, hm, ho, hB, hb, q1, q2⟩ := h
  have px := passM (X := (cxOf (CXr P w) P w K mg base ["lines", "many", "told", "x", "column", "line"] "solution_of" (defScope s_solution_of) f cdv A outer s H E)) (CXr.mute (P := P) (w := w))
  refine ⟨_, (pss_cons (ps_set (i := 2) sc_solution_of.nd rfl (Or.inl rfl) (pe_fn G_reduced (hr.mono (by decide)) px (pac (pv 0) (pac (pv 1) pa_nil))))
    (pss_cons (ps_if (pt_val (pe_callB (call_anyB rfl) rfl m_any b_any (pac (pe_comp (tn := ["line"]) (fr := ["many"]) (caps := [1]) rfl ⟨rfl, by decide +kernel, rfl, by decide +kernel, by decide +kernel, rfl, ⟨(by first | exact Or.inl rfl | exact Or.inr rfl), trivial⟩, ⟨(by first | exact Or.inl rfl | exact Or.inr rfl), trivial⟩⟩ (pi_list (pe_ix ix_tup (pv 2) pe_int (fun _ _ => rfl))) (fun _ _ _ _ => (pg_name (i := 0) (show (["line", "many"] : List Str).Nodup from by decide +kernel) rfl (Or.inl rfl))) (fun _ _ _ _ => pf_nil) (fun _ _ _ _ => (pe_cmpR op_ne (pe_ix (ix_listK (K := K) rfl) (pv 0) (pv 1) (fun _ _ => rfl)) pe_int (nomark _)))) pa_nil))) (pss_one (ps_ret pe_non)) pss_nil)
    (pss_cons (ps_set (i := 3) sc_solution_of.nd rfl (Or.inl rfl) (pe_op op_rep (pe_lst (pac (pe_glob (v := .ref aN) rfl m_NOUGHT rfl) pa_nil)) (pv 1)))
    (pss_cons (ps_for PassesOwn.never rfl (pi_itemsR (pe_ix ix_tup (pv 2) pe_int (fun _ _ => rfl))) (pg_tup rfl (pgs_cons (pg_name (i := 4) sc_solution_of.nd rfl (Or.inl rfl)) (pgs_cons (pg_name (i := 5) sc_solution_of.nd rfl (Or.inl rfl)) pgs_nil))) (pss_one (ps_asg (pe_fn G_lowest_terms (hr.mono (by decide)) px (pac (pe_ix ix_list (pv 5) (pv 1) (fun _ _ => rfl)) (pac (pe_ix ix_list (pv 5) (pv 4) (fun _ _ => rfl)) pa_nil))) (pg_sub (pv 3) (pv 4) set_list))))
    (pss_one (ps_ret (pv 3))))))), ?_⟩
  refine ⟨_, rfl, _, rfl, a, us, os, m + 1, m, b, rfl, hS, hL, hlen, by omega, by omega, by omega, hB, hb, fun p d a' kvs us' nd lv H1 s1 nd0 np hp hd hS1 hN1 hL1 R => ?_⟩
  have lu := hL1.1
  have cnt := R.cnt
  refine ⟨_, rfl, p, _, _, _, rfl, rfl, SqT.of hp, at1, a', rfl, ⟨_, hS1⟩, fun D1 n1 => ?_⟩
  refine comp_list (cap := [some (.int (m : Int))]) (K := K) (a := a') (xs := us') (fun k v _ => ∃ l, lv[k]? = some l ∧ v = .bl (decide (l.getD m 0 ≠ 0))) n1 (Nat.lt_of_le_of_lt (show us'.length ≤ 1000 by omega) (by decide)) (fun H2 s2 => s2.seq hS1) (fun _ _ _ _ _ _ _ h => h) ?_ ?_
  · intro k x H2 RR ex s2 kk
    obtain ⟨l, el, b', rfl, hb'⟩ := hL1.at ex
    have hll := R.lenL l (List.mem_of_getElem? el)
    refine ⟨_, rfl, _, rfl, b', _, _, _, rfl, rfl, SqL.of (s2 _ _ hb'), ln_at (by omega), rfl, ?_⟩
    refine kk _ _ (Same.refl _) ⟨l, el, ?_⟩
    simp
  · intro ys H2 hy hrel s2 hD
    have ey : ys = (lv.map fun l => decide (l.getD m 0 ≠ 0)).map V.bl := by
      refine List.ext_getElem? fun i => ?_
      by_cases hi : i < ys.length
      · have e1 : ys[i]? = some ys[i] := List.getElem?_eq_getElem hi
        obtain ⟨l, el, e⟩ := hrel i _ e1
        rw [e1, e, List.getElem?_map, List.getElem?_map, el]
        rfl
      · rw [List.getElem?_eq_none (by omega), List.getElem?_eq_none (by simp; omega)]
    subst ey
    refine ⟨D1, _, rfl, SqL.of hD, _, rfl, ?_⟩
    have s12 := s1.trans s2
    refine ite2 (fun c => ?_) (fun c => ?_)
    · obtain ⟨b', hb', hb1⟩ := List.any_eq_true.mp c
      obtain ⟨l, hl, rfl⟩ := List.mem_map.mp hb'
      have hn : l.getD m 0 ≠ 0 := of_decide_eq_true hb1
      exact q1 l H2 s12 (R.lenL l hl) (R.combL l hl) (R.zero l hl) hn
    · have hz : ∀ l ∈ lv, l.getD m 0 = 0 := fun l hl => by
        by_cases z : l.getD m 0 = 0
        · exact z
        · exact absurd (List.any_eq_true.mpr ⟨true, List.mem_map.mpr ⟨l, hl, decide_eq_true z⟩, rfl⟩) c
      refine ⟨(by show 1 ≤ sizeLine; decide), fun p3 n3 => ?_⟩
      have s3 := same_new n3 (.lst [V.ref aN])
      refine ⟨_, rfl, p3, _, _, rfl, rfl, upd_same, by omega, by omega, Nat.le_trans (show 1 * (m : Int).toNat ≤ 1000 by omega) (by decide), fun x n4 => ?_⟩
      have s4 := same_new n4 (.lst (List.replicate (m : Int).toNat [V.ref aN]).flatten)
      have s14 := (s12.trans s3).trans s4
      have nx : H x = none := (s12.trans s3).free n4
      have er : (List.replicate (m : Int).toNat [V.ref aN]).flatten = List.replicate m (V.ref aN) := by simp
      have hp4 := s4 _ _ (s3 _ _ (s2 _ _ hp))
      have hd4 := s4 _ _ (s3 _ _ (s2 _ _ hd))
      have hN4 := ((hN1.same s2).same s3).same s4
      have dx : d ≠ x := ne_of_none (s3 _ _ (s2 _ _ hd)) n4
      refine ⟨_, rfl, p, _, _, _, rfl, rfl, SqT.of hp4, at0, d, kvs, rfl, .inl hd4, fun o => ?_⟩
      refine for_items (d := d) (o := o) (kvs := kvs) (fun t σ H' => ∃ (o4 o5 : Option V) (us2 : List V) (qs : List (Int × Int)), σ = [some (.ref a), some (.int (m : Int)), some (.ref p), some (.ref x), o4, o5] ∧ Same H H' ∧ H' d = some (.frz o (.dK kvs)) ∧ H' x = some (.lst us2) ∧ NmsK K H' us2 qs ∧ NdR H' kvs nd ∧ Fill m t nd qs)
        ⟨none, none, List.replicate m (V.ref aN), List.replicate m (0, 1), rfl, same_put s14 nd0, upd_same, by rw [upd_ne (Ne.symm dx), upd_same, er], ⟨by simp, fun i u q' e1 e2 => ?_⟩, hN4.put hd4, ⟨by simp, fun i hi => absurd hi (Nat.not_lt_zero _), fun j hj _ => by rw [List.getElem?_replicate, if_pos hj]⟩⟩ (fun t σ H' _ h => by
          obtain ⟨_, _, _, _, _, _, h, _⟩ := h
          exact h) ?_ ?_
      · rw [List.getElem?_replicate] at e1 e2
        by_cases z : i < m
        · rw [if_pos z] at e1 e2
          cases e1
          cases e2
          exact ⟨aN, rfl, hN _⟩
        · rw [if_neg z] at e1
          cases e1
      · rintro t k v σ H5 p7 ekv ⟨o4, o5, us2, qs, rfl, s5, hd5, hx5, hn5, hN5, F⟩ n7
        have ht : t < kvs.length := (List.getElem?_eq_some_iff.mp ekv).1
        have hl5 := hN5.1
        obtain ⟨c, ec⟩ : ∃ c, nd[t]? = some c := ⟨_, List.getElem?_eq_getElem (by omega)⟩
        obtain ⟨k1, k2⟩ := hN5.2 t _ c ekv ec
        have k1' : k = .inl (c.1 : Int) := k1
        subst k1'
        obtain ⟨b', eb, hb'⟩ := k2
        have eb' : v = .ref b' := eb
        subst eb'
        have hcm := List.mem_of_getElem? ec
        have hcl := R.lenN c hcm
        have hcc := R.cols c hcm
        have s7 := same_new n7 (.tup [kV (.inl (c.1 : Int)), .ref b'])
        have hb7 := s7 _ _ hb'
        refine ⟨p7, _, rfl, SqT.of upd_same, rfl, _, _, rfl, _, _, rfl, rfl, ?_⟩
        refine ⟨_, rfl, _, rfl, b', _, _, _, rfl, rfl, SqL.of hb7, ln_at (by omega), _, rfl, _, rfl, b', _, _, _, rfl, rfl, SqL.of hb7, ln_at (by omega), ?_⟩
        refine ⟨_, _, rfl, R.here c hcm, fun p8 H8 s8 e8 => ?_⟩
        have s78 := s7.trans s8
        have hx8 := s78 _ _ hx5
        have l2 := hn5.1
        have xn : ∀ {b0 : Addr} {o0 : HO}, H b0 = some o0 → b0 ≠ x := fun e => ne_of_none e nx
        have dx8 := s78 _ _ hd5
        refine ⟨_, rfl, _, rfl, x, us2, _, c.1, rfl, rfl, hx8, ixN_at (by rw [l2, F.1]; exact hcc), ?_⟩
        refine ⟨_, _, us2.set c.1 (.ref p8), qs.set c.1 (low (c.2.getD m 0) (c.2.getD c.1 0)), rfl, same_put (s5.trans s78) nx, by rw [upd_ne dx]; exact dx8, upd_same, ?_, ?_, F.put R ec⟩
        · have base : NmsK K H8 (us2.set c.1 (.ref p8)) (qs.set c.1 (low (c.2.getD m 0) (c.2.getD c.1 0))) := (hn5.same s78).set ⟨p8, rfl, SqT.of e8⟩
          refine ⟨base.1, fun i u q' e1 e2 => ?_⟩
          obtain ⟨p9, e9, h9⟩ := base.2 i u q' e1 e2
          exact ⟨p9, e9, SqT.putL h9 hx8⟩
        · have base := hN5.same s78
          refine ⟨base.1, fun i kv y e1 e2 => ⟨(base.2 i kv y e1 e2).1, ?_⟩⟩
          obtain ⟨p9, e9, h9⟩ := hN1.2 i kv y e1 e2 |>.2
          refine ⟨p9, e9, ?_⟩
          have px9 : p9 ≠ x := fun z => by
            have := (s3 _ _ (s2 _ _ h9))
            rw [z, n4] at this
            cases this
          rw [upd_ne px9]
          obtain ⟨p10, e10, h10⟩ := (base.2 i kv y e1 e2).2
          rw [e9] at e10
          cases e10
          exact h10
      · rintro σ H5 ⟨o4, o5, us2, qs, rfl, s5, hd5, hx5, hn5, hN5, F⟩
        have hl5 := hN5.1
        rw [hl5] at F
        exact ⟨_, rfl, q2 x us2 qs H5 s5 nx hx5 hn5 F.1 (F.sm R) (F.sol R hz)⟩
def MatV (H : Hp) (r : Addr) (ls : List Addr) (vss : List (List V)) : Prop := H r = some (.lst (ls.map V.ref)) ∧ ls.length = vss.length ∧ ∀ (i : Nat) (l : Addr) (vs : List V), ls[i]? = some l → vss[i]? = some vs → H l = some (.lst vs)
theorem MatV.same {H H' : Hp} {r : Addr} {ls : List Addr} {vss : List (List V)} (h : MatV H r ls vss) (s : Same H H') : MatV H' r ls vss := ⟨s _ _ h.1, h.2.1, fun i l vs e1 e2 => s _ _ (h.2.2 i l vs e1 e2)⟩
def Numss (H : Hp) (vss : List (List V)) (qss : List (List (Int × Int))) : Prop := vss.length = qss.length ∧ ∀ (i : Nat) (vs : List V) (qs : List (Int × Int)), vss[i]? = some vs → qss[i]? = some qs → Nms H vs qs
theorem Numss.same {H H' : Hp} {vss : List (List V)} {qss : List (List (Int × Int))} (h : Numss H vss qss) (s : Same H H') : Numss H' vss qss := ⟨h.1, fun i vs qs e1 e2 => (h.2 i vs qs e1 e2).same s⟩
def TSame (H H' : Hp) : Prop := ∀ (b : Addr) (xs : List V), H b = some (.tup xs) → H' b = some (.tup xs)
theorem TSame.of {H H' : Hp} (s : Same H H') : TSame H H' := fun b xs e => s _ _ e
theorem TSame.lst {H : Hp} {D : Addr} {ys : List V} {o : HO} (e : H D = some (.lst ys)) : TSame H (upd H D o) := fun b xs e' => by
  rw [upd_ne (by intro z; rw [z, e] at e'; cases e')]
  exact e'
theorem Nm.tsame {H H' : Hp} {v : V} {q : Int × Int} (h : Nm H v q) (s : TSame H H') : Nm H' v q := by
  obtain ⟨p, e, z⟩ := h
  exact ⟨p, e, s _ _ z⟩
theorem Nms.tsame {H H' : Hp} {us : List V} {qs : List (Int × Int)} (h : Nms H us qs) (s : TSame H H') : Nms H' us qs := ⟨h.1, fun i u q e1 e2 => (h.2 i u q e1 e2).tsame s⟩
theorem Numss.tsame {H H' : Hp} {vss : List (List V)} {qss : List (List (Int × Int))} (h : Numss H vss qss) (s : TSame H H') : Numss H' vss qss := ⟨h.1, fun i vs qs e1 e2 => (h.2 i vs qs e1 e2).tsame s⟩
theorem Nms.at {H : Hp} {us : List V} {qs : List (Int × Int)} (h : Nms H us qs) {i : Nat} {u : V} (e : us[i]? = some u) : ∃ q, qs[i]? = some q ∧ Nm H u q := by
  have hi : i < us.length := (List.getElem?_eq_some_iff.mp e).1
  have hl := h.1
  have e2 : qs[i]? = some (qs[i]'(by omega)) := List.getElem?_eq_getElem (by omega)
  exact ⟨_, e2, h.2 i u _ e e2⟩
theorem Nms.at' {H : Hp} {us : List V} {qs : List (Int × Int)} (h : Nms H us qs) {i : Nat} {q : Int × Int} (e : qs[i]? = some q) : ∃ u, us[i]? = some u ∧ Nm H u q := by
  have hi : i < qs.length := (List.getElem?_eq_some_iff.mp e).1
  have hl := h.1
  have e2 : us[i]? = some (us[i]'(by omega)) := List.getElem?_eq_getElem (by omega)
  exact ⟨_, e2, h.2 i _ q e2 e⟩
theorem Nms.set {H : Hp} {us : List V} {qs : List (Int × Int)} {j : Nat} {v : V} {q : Int × Int} (h : Nms H us qs) (n : Nm H v q) : Nms H (us.set j v) (qs.set j q) := by
  refine ⟨by simp [h.1], fun i u q' e1 e2 => ?_⟩
  rw [List.getElem?_set] at e1 e2
  by_cases c : j = i
  · subst c
    rw [if_pos rfl] at e1 e2
    have l := h.1
    by_cases hj : j < us.length
    · rw [if_pos hj] at e1
      rw [if_pos (by omega)] at e2
      cases e1
      cases e2
      exact n
    · rw [if_neg hj] at e1
      cases e1
  · rw [if_neg c] at e1 e2
    exact h.2 i u q' e1 e2
theorem Nms.snoc {H : Hp} {us : List V} {qs : List (Int × Int)} {v : V} {q : Int × Int} (h : Nms H us qs) (n : Nm H v q) : Nms H (us ++ [v]) (qs ++ [q]) := by
  refine ⟨by simp [h.1], fun i u q' e1 e2 => ?_⟩
  have l := h.1
  by_cases c : i < us.length
  · rw [List.getElem?_append_left c] at e1
    rw [List.getElem?_append_left (by omega)] at e2
    exact h.2 i u q' e1 e2
  · rw [List.getElem?_append_right (by omega)] at e1 e2
    by_cases z : i - us.length = 0
    · rw [z] at e1
      rw [show i - qs.length = 0 by omega] at e2
      cases e1
      cases e2
      exact n
    · rw [List.getElem?_eq_none (by simp; omega)] at e1
      cases e1
def Shape (T B m : Nat) (qss : List (List (Int × Int))) : Prop := ∀ qs ∈ qss, qs.length = m ∧ ∀ q ∈ qs, Sm T B q
theorem Shape.up {T B T' B' m : Nat} {qss : List (List (Int × Int))} (h : Shape T B m qss) (hT : T ≤ T') (hB : B ≤ B') : Shape T' B' m qss := fun qs hq => ⟨(h qs hq).1, fun q hm => ((h qs hq).2 q hm).up hT hB⟩
structure Own (H0 H : Hp) (r : Addr) (ls : List Addr) (vss : List (List V)) (qss : List (List (Int × Int))) : Prop where
  since : Same H0 H
  mat : MatV H r ls vss
  num : Numss H vss qss
  nd : ∀ (i j : Nat) (l : Addr), ls[i]? = some l → ls[j]? = some l → i = j
  nr : r ∉ ls
  fr : H0 r = none
  fl : ∀ l ∈ ls, H0 l = none
theorem Own.same {H0 H H' : Hp} {r : Addr} {ls : List Addr} {vss : List (List V)} {qss : List (List (Int × Int))} (h : Own H0 H r ls vss qss) (s : Same H H') : Own H0 H' r ls vss qss :=
  ⟨h.since.trans s, h.mat.same s, h.num.same s, h.nd, h.nr, h.fr, h.fl⟩
theorem Own.row {H0 H : Hp} {r : Addr} {ls : List Addr} {vss : List (List V)} {qss : List (List (Int × Int))} (h : Own H0 H r ls vss qss) {i : Nat} {qs : List (Int × Int)} (e : qss[i]? = some qs) : ∃ l us, ls[i]? = some l ∧ vss[i]? = some us ∧ H l = some (.lst us) ∧ Nms H us qs := by
  have hi : i < qss.length := (List.getElem?_eq_some_iff.mp e).1
  have l1 := h.mat.2.1
  have l2 := h.num.1
  have e1 : ls[i]? = some (ls[i]'(by omega)) := List.getElem?_eq_getElem (by omega)
  have e2 : vss[i]? = some (vss[i]'(by omega)) := List.getElem?_eq_getElem (by omega)
  exact ⟨_, _, e1, e2, h.mat.2.2 i _ _ e1 e2, h.num.2 i _ _ e2 e⟩
theorem Own.set {H0 H : Hp} {r D : Addr} {ls : List Addr} {vss : List (List V)} {qss : List (List (Int × Int))} {i : Nat} {us : List V} {qs : List (Int × Int)} (h : Own H0 H r ls vss qss) (hD : H D = some (.lst us)) (nD : D ∉ ls) (nr : D ≠ r) (f : H0 D = none) (n : Nms H us qs) :
    Own H0 (upd H r (.lst ((ls.map V.ref).set i (.ref D)))) r (ls.set i D) (vss.set i us) (qss.set i qs) := by
  obtain ⟨m1, m2, m3⟩ := h.mat
  have ts : TSame H (upd H r (.lst ((ls.map V.ref).set i (.ref D)))) := TSame.lst m1
  have nel : ∀ l ∈ ls, l ≠ r := fun l hl z => h.nr (z ▸ hl)
  refine ⟨fun b o e => ?_, ⟨?_, by simp [m2], fun j l vs e1 e2 => ?_⟩, ⟨by simp [h.num.1], fun j vs qs' e1 e2 => ?_⟩, ?_, fun z => ?_, h.fr, fun l hl => ?_⟩
  · rw [upd_ne (fun z => by rw [z, h.fr] at e; cases e)]
    exact h.since _ _ e
  · rw [upd_same, List.map_set]
  · rw [List.getElem?_set] at e1 e2
    by_cases c : i = j
    · subst c
      rw [if_pos rfl] at e1 e2
      by_cases hj : i < ls.length
      · rw [if_pos hj] at e1
        rw [if_pos (by omega)] at e2
        cases e1
        cases e2
        rw [upd_ne nr]
        exact hD
      · rw [if_neg hj] at e1
        cases e1
    · rw [if_neg c] at e1 e2
      rw [upd_ne (nel l (List.mem_of_getElem? e1))]
      exact m3 j l vs e1 e2
  · rw [List.getElem?_set] at e1 e2
    have l2 := h.num.1
    by_cases c : i = j
    · subst c
      rw [if_pos rfl] at e1 e2
      by_cases hj : i < vss.length
      · rw [if_pos hj] at e1
        rw [if_pos (by omega)] at e2
        cases e1
        cases e2
        exact n.tsame ts
      · rw [if_neg hj] at e1
        cases e1
    · rw [if_neg c] at e1 e2
      exact (h.num.2 j vs qs' e1 e2).tsame ts
  · intro a b l' e1 e2
    rw [List.getElem?_set] at e1 e2
    have notin : ∀ k : Nat, ls[k]? ≠ some D := fun k z => nD (List.mem_of_getElem? z)
    by_cases c1 : i = a <;> by_cases c2 : i = b
    · omega
    · rw [if_pos c1] at e1
      rw [if_neg c2] at e2
      by_cases hj : i < ls.length
      · rw [if_pos hj] at e1
        cases e1
        exact absurd e2 (notin b)
      · rw [if_neg hj] at e1
        cases e1
    · rw [if_neg c1] at e1
      rw [if_pos c2] at e2
      by_cases hj : i < ls.length
      · rw [if_pos hj] at e2
        cases e2
        exact absurd e1 (notin a)
      · rw [if_neg hj] at e2
        cases e2
    · rw [if_neg c1] at e1
      rw [if_neg c2] at e2
      exact h.nd a b l' e1 e2
  · rcases List.mem_or_eq_of_mem_set z with y | y
    · exact h.nr y
    · exact nr y.symm
  · rcases List.mem_or_eq_of_mem_set hl with y | y
    · exact h.fl l y
    · rw [y]; exact f
theorem Own.put {H0 H : Hp} {r l : Addr} {ls : List Addr} {vss : List (List V)} {qss : List (List (Int × Int))} {i j : Nat} {us : List V} {qs : List (Int × Int)} {v : V} {q : Int × Int} (h : Own H0 H r ls vss qss) (el : ls[i]? = some l) (eu : vss[i]? = some us) (eq : qss[i]? = some qs) (n : Nm H v q) :
    Own H0 (upd H l (.lst (us.set j v))) r ls (vss.set i (us.set j v)) (qss.set i (qs.set j q)) := by
  obtain ⟨m1, m2, m3⟩ := h.mat
  have hl := m3 i l us el eu
  have ts : TSame H (upd H l (.lst (us.set j v))) := TSame.lst hl
  have lr : r ≠ l := fun z => h.nr (z ▸ List.mem_of_getElem? el)
  have hi : i < ls.length := (List.getElem?_eq_some_iff.mp el).1
  refine ⟨fun b o e => ?_, ⟨by rw [upd_ne lr]; exact m1, by simp [m2], fun k l' vs e1 e2 => ?_⟩, ⟨by simp [h.num.1], fun k vs qs' e1 e2 => ?_⟩, h.nd, h.nr, h.fr, h.fl⟩
  · rw [upd_ne (fun z => by rw [z, h.fl l (List.mem_of_getElem? el)] at e; cases e)]
    exact h.since _ _ e
  · rw [List.getElem?_set] at e2
    by_cases c : i = k
    · subst c
      rw [if_pos rfl, if_pos (by omega)] at e2
      rw [el] at e1
      cases e1
      cases e2
      exact upd_same
    · rw [if_neg c] at e2
      have ne : l' ≠ l := fun z => by
        rw [z] at e1
        exact c (h.nd i k l el e1)
      rw [upd_ne ne]
      exact m3 k l' vs e1 e2
  · rw [List.getElem?_set] at e1 e2
    by_cases c : i = k
    · subst c
      rw [if_pos rfl] at e1 e2
      have l2 := h.num.1
      rw [if_pos (by omega)] at e1 e2
      cases e1
      cases e2
      exact ((h.num.2 i us qs eu eq).set n).tsame ts
    · rw [if_neg c] at e1 e2
      exact (h.num.2 k vs qs' e1 e2).tsame ts
theorem two_of {α : Type} {xs : List α} {x y : α} {j : Nat} (e : (xs ++ [x])[j]? = some y) : (j < xs.length ∧ xs[j]? = some y) ∨ (j = xs.length ∧ x = y) := by
  by_cases c : j < xs.length
  · rw [List.getElem?_append_left c] at e
    exact .inl ⟨c, e⟩
  · rw [List.getElem?_append_right (by omega)] at e
    by_cases z : j - xs.length = 0
    · rw [z] at e
      exact .inr ⟨by omega, Option.some.inj e⟩
    · rw [List.getElem?_eq_none (by simp; omega)] at e
      cases e
theorem MatV.snoc {H : Hp} {r D : Addr} {ls : List Addr} {vss : List (List V)} {us : List V} (h : MatV H r ls vss) (nr : r ∉ ls) (hD : H D = some (.lst us)) (nD : D ≠ r) : MatV (upd H r (.lst (ls.map V.ref ++ [.ref D]))) r (ls ++ [D]) (vss ++ [us]) := by
  obtain ⟨m1, m2, m3⟩ := h
  refine ⟨by rw [upd_same, List.map_append]; rfl, by simp [m2], fun j l vs e1 e2 => ?_⟩
  rcases two_of e1 with ⟨c1, d1⟩ | ⟨c1, d1⟩ <;> rcases two_of e2 with ⟨c2, d2⟩ | ⟨c2, d2⟩
  · have ne : l ≠ r := fun z => nr (by rw [← z]; exact List.mem_of_getElem? d1)
    rw [upd_ne ne]
    exact m3 j l vs d1 d2
  · omega
  · omega
  · subst d1 d2
    rw [upd_ne nD]
    exact hD
theorem MatV.row {H : Hp} {r : Addr} {ls : List Addr} {vss : List (List V)} (h : MatV H r ls vss) {i : Nat} {vs : List V} (e : vss[i]? = some vs) : ∃ l, ls[i]? = some l ∧ H l = some (.lst vs) := by
  have hi : i < vss.length := (List.getElem?_eq_some_iff.mp e).1
  have l1 := h.2.1
  have e1 : ls[i]? = some (ls[i]'(by omega)) := List.getElem?_eq_getElem (by omega)
  exact ⟨_, e1, h.2.2 i _ _ e1 e⟩
def colV (vss : List (List V)) (j : Nat) : List V := vss.map fun vs => vs.getD j .non
def colsV (vss : List (List V)) (m : Nat) : List (List V) := (List.range m).map fun j => colV vss j
def spTurned : Sp := fun vs H Q _ => ∃ (r : Addr) (ls : List Addr) (vss : List (List V)) (m : Int), vs = [.ref r, .int m] ∧ MatV H r ls vss ∧ 0 ≤ m ∧ m ≤ 1000 ∧ ls.length ≤ 1000 ∧ (∀ vs ∈ vss, m ≤ (vs.length : Int)) ∧ ∀ c cs H', Same H H' → MatV H' c cs (colsV vss m.toNat) → Q (.ref c) H'
theorem sc_turned : FnScope ["rows", "many", "columns", "column"] ["rows", "many"] (defScope s_turned) := ⟨rfl, rfl, rfl, by decide +kernel, rfl, by decide +kernel, by decide +kernel⟩
theorem ok_turned (D : Def K mg "turned" s_turned ["rows", "many"]) (m_range : mg "range" = none) : Fn P w K mg base (CXr P w) 1 "turned" ["rows", "many"] spTurned := by
  refine D.ok sc_turned (fun vs H Q E h => ?_) (fun f cdv A outer s H vs Q E hr h => ?_)
  · obtain ⟨r, ls, vss, m, rfl, _⟩ := h
    rfl
  obtain ⟨r, ls, vss, m, rfl, M, m0, m1, hn, hv, q⟩ := h
  refine ⟨_, (pss_cons (ps_set (i := 2) sc_turned.nd rfl (Or.inl rfl) (pe_lst pa_nil))
    (pss_cons (ps_for PassesOwn.never rfl (pi_range1 rfl m_range (pac (pv 1) pa_nil)) (pg_name (i := 3) sc_turned.nd rfl (Or.inr rfl)) (pss_one (ps_expr (pe_bm PySem.F.plainAttrs_list PySem.F.slot_list_append PySem.F.type_list_append mt_append (pv 2) (pac (pe_comp (tn := ["row"]) (fr := ["column"]) (caps := [3]) rfl ⟨rfl, by decide +kernel, rfl, by decide +kernel, by decide +kernel, rfl, ⟨(by first | exact Or.inl rfl | exact Or.inr rfl), trivial⟩, ⟨(by first | exact Or.inl rfl | exact Or.inr rfl), trivial⟩⟩ (pi_list (pv 0)) (fun _ _ _ _ => (pg_name (i := 0) (show (["row", "column"] : List Str).Nodup from by decide +kernel) rfl (Or.inl rfl))) (fun _ _ _ _ => pf_nil) (fun _ _ _ _ => (pe_ix (ix_listK (K := K) rfl) (pv 0) (pv 1) (fun _ _ => rfl)))) pa_nil)))))
    (pss_one (ps_ret (pv 2))))), ?_⟩
  have l1 := M.2.1
  refine ⟨(by show 0 ≤ sizeLine; decide), fun c nc => ?_⟩
  refine ⟨_, rfl, _, rfl, by omega, by omega, ?_⟩
  refine for_range (lo := 0) (n := m.toNat) (fun i σ H' => ∃ (o : Option V) (cs : List Addr), σ = [some (.ref r), some (.int m), some (.ref c), o] ∧ Same H H' ∧ MatV H' c cs (colsV vss i) ∧ c ∉ cs) ⟨none, [], rfl, same_new nc _, ⟨upd_same, rfl, fun i l vs e => by simp at e⟩, by simp⟩ ?_ ?_
  · rintro i σ H' hi ⟨o, cs, rfl, s1, C, ncs⟩
    have M' := M.same s1
    refine ⟨_, rfl, .inl ⟨rfl, _, SqL.of C.1⟩, ?_⟩
    refine ⟨_, rfl, r, rfl, ⟨_, SqL.of M'.1⟩, fun D nD => ?_⟩
    refine comp_list (cap := [some (.int ((0 : Int) + i))]) (K := K) (a := r) (xs := ls.map V.ref) (fun k v _ => ∃ vs, vss[k]? = some vs ∧ v = vs.getD i .non) nD (by rw [List.length_map]; exact Nat.lt_of_le_of_lt hn (by decide)) (fun H2 s2 => SqL.of (s2 _ _ M'.1)) (fun _ _ _ _ _ _ _ h => h) ?_ ?_
    · intro k u H2 R hu s2 kk
      rw [List.getElem?_map] at hu
      obtain ⟨l, el, rfl⟩ := Option.map_eq_some_iff.mp hu
      have hk : k < ls.length := (List.getElem?_eq_some_iff.mp el).1
      have ev : vss[k]? = some (vss[k]'(by omega)) := List.getElem?_eq_getElem (by omega)
      have hl := M'.2.2 k l _ el ev
      have hi' : i < (vss[k]'(by omega)).length := by
        have := hv _ (List.mem_of_getElem? ev)
        omega
      have ea : atI (vss[k]'(by omega)) ((0 : Int) + (i : Int)) = some ((vss[k]'(by omega)).getD i .non) := by
        rw [Int.zero_add]
        exact atI_nat (by rw [List.getElem?_eq_getElem hi', List.getD_eq_getElem?_getD, List.getElem?_eq_getElem hi']; rfl)
      exact ⟨_, rfl, _, rfl, l, _, _, _, rfl, rfl, SqL.of (s2 _ _ hl), ea, kk _ _ (Same.refl _) ⟨_, ev, rfl⟩⟩
    · intro ys H2 hy hrel s2 hD
      rw [List.length_map] at hy
      have ey : ys = colV vss i := by
        refine List.ext_getElem? fun k => ?_
        unfold colV
        by_cases hk : k < ys.length
        · have e1 : ys[k]? = some ys[k] := List.getElem?_eq_getElem hk
          obtain ⟨vs, ev, e2⟩ := hrel k _ e1
          rw [e1, e2, List.getElem?_map, ev]
          rfl
        · rw [List.getElem?_eq_none (by omega), List.getElem?_eq_none (by simp; omega)]
      subst ey
      have lc : cs.length = i := by have := C.2.1; simpa [colsV] using this
      have nDc : D ≠ c := fun z => by rw [z, C.1] at nD; cases nD
      have fc : ∀ b o, H b = some o → b ≠ c := fun b o e => ne_of_none e nc
      refine ⟨c, _, _, rfl, rfl, s2 _ _ C.1, by rw [List.length_map, lc]; exact Nat.lt_of_le_of_lt (show i ≤ 1000 by omega) (by decide), ?_⟩
      refine ⟨_, cs ++ [D], rfl, fun b o e => ?_, ?_, fun z => ?_⟩
      · rw [upd_ne (fc b o e)]
        exact s2 _ _ (s1 _ _ e)
      · have e : colsV vss (i + 1) = colsV vss i ++ [colV vss i] := by simp [colsV, List.range_succ]
        rw [e]
        exact (C.same s2).snoc ncs hD nDc
      · rcases List.mem_append.mp z with y | y
        · exact ncs y
        · exact nDc (List.mem_singleton.mp y).symm
  · rintro σ H' ⟨o, cs, rfl, s1, C, ncs⟩
    exact ⟨_, rfl, q c cs H' s1 C⟩
def colQ (qss : List (List (Int × Int))) (j : Nat) : List (Int × Int) := qss.map fun qs => qs.getD j (0, 1)
theorem col_nums {H : Hp} {vss : List (List V)} {qss : List (List (Int × Int))} {T B m j : Nat} (h : Numss H vss qss) (sh : Shape T B m qss) (hj : j < m) : Nms H (colV vss j) (colQ qss j) := by
  refine ⟨by simp [colV, colQ, h.1], fun i u q e1 e2 => ?_⟩
  unfold colV at e1
  unfold colQ at e2
  rw [List.getElem?_map] at e1 e2
  obtain ⟨vs, ev, rfl⟩ := Option.map_eq_some_iff.mp e1
  obtain ⟨qs, eq, rfl⟩ := Option.map_eq_some_iff.mp e2
  have N := h.2 i vs qs ev eq
  have hl := (sh qs (List.mem_of_getElem? eq)).1
  have lN := N.1
  refine N.2 j _ _ ?_ ?_
  · rw [List.getD_eq_getElem?_getD, List.getElem?_eq_getElem (by omega)]; rfl
  · rw [List.getD_eq_getElem?_getD, List.getElem?_eq_getElem (by omega)]; rfl
theorem col_sm {qss : List (List (Int × Int))} {T B m j : Nat} (sh : Shape T B m qss) (hj : j < m) : ∀ q ∈ colQ qss j, Sm T B q := fun q hq => by
  unfold colQ at hq
  obtain ⟨qs, hqs, rfl⟩ := List.mem_map.mp hq
  obtain ⟨hl, hs⟩ := sh qs hqs
  rw [List.getD_eq_getElem?_getD, List.getElem?_eq_getElem (by omega)]
  exact hs _ (List.getElem_mem _)
structure Told (x : Rat) (q : Int × Int) : Prop where
  pos : 0 < q.2
  low : Int.gcd q.1 q.2 = 1
  val : vl q = x
theorem Bd.of {b : Nat} {l : List Int} (h : ∀ t ∈ l, t.natAbs ≤ 2 ^ b) : Bd b l := fun j => by
  by_cases hj : j < l.length
  · have e : l[j]? = some l[j] := List.getElem?_eq_getElem hj
    rw [getD_mem e]
    exact h _ (List.getElem_mem hj)
  · rw [getD_out (by omega)]
    exact Nat.zero_le _
abbrev Wl := List Int × Int × Addr × Addr
def WlP (T B m : Nat) (qs : List (Int × Int)) (d : Int × Int) (w : Wl) : Prop := Whole w.1 (qs ++ [d]) w.2.1 ∧ 0 < w.2.1 ∧ w.2.1.natAbs ≤ 2 ^ (B * (m + 1)) ∧ ∀ t ∈ w.1, t.natAbs ≤ 2 ^ (T + B * (m + 1))
theorem col_ints {lns : List (List Int)} {j n : Nat} (h : ∀ l ∈ lns, l.length = n) (hj : j < n) : colV (lns.map fun l => l.map V.int) j = (lns.map fun l => l.getD j 0).map V.int := by
  unfold colV
  rw [List.map_map, List.map_map]
  refine List.map_congr_left fun l hl => ?_
  have hlen := h l hl
  have e : l[j]? = some (l[j]'(by omega)) := List.getElem?_eq_getElem (by omega)
  show (l.map V.int).getD j .non = .int (l.getD j 0)
  rw [getD_mem e, List.getD_eq_getElem?_getD, List.getElem?_map, e]
  rfl
theorem dot_csum (j : Nat) : ∀ {ws : List Wl} {ss ys : List (Int × Int)} {cs : List (Int × Int)}, ss.length = ws.length → ys.length = ws.length → cs.length = ws.length →
    (∀ (i : Nat) (w : Wl) (s y : Int × Int), ws[i]? = some w → ss[i]? = some s → ys[i]? = some y → vl y = vl s * w.2.1) → (∀ (i : Nat) (w : Wl) (c : Int × Int), ws[i]? = some w → cs[i]? = some c → ((w.1.getD j 0 : Int) : Rat) = vl c * w.2.1) → dotQ ys cs = csum (ss.map vl) (ws.map (·.1)) j
  | [], [], [], [], _, _, _, _, _ => by simp [dotQ, csum]
  | w :: ws, s :: ss, y :: ys, c :: cs, h1, h2, h3, h4, h5 => by
    have ih := dot_csum j (ws := ws) (ss := ss) (ys := ys) (cs := cs) (by simpa using h1) (by simpa using h2) (by simpa using h3) (fun i w s y e1 e2 e3 => h4 (i + 1) w s y (by simpa using e1) (by simpa using e2) (by simpa using e3)) (fun i w c e1 e2 => h5 (i + 1) w c (by simpa using e1) (by simpa using e2))
    have a := h4 0 w s y rfl rfl rfl
    have b := h5 0 w c rfl rfl
    have ed : dotQ (y :: ys) (c :: cs) = vl y * vl c + dotQ ys cs := by simp [dotQ]
    simp only [List.map_cons, csum]
    rw [ed, ih, a, b]
    grind
  | [], _ :: _, _, _, h, _, _, _, _ => by simp at h
  | [], [], _ :: _, _, _, h, _, _, _ => by simp at h
  | [], [], [], _ :: _, _, _, h, _, _ => by simp at h
  | _ :: _, [], _, _, h, _, _, _, _ => by simp at h
  | _ :: _, _ :: _, [], _, _, h, _, _, _ => by simp at h
  | _ :: _, _ :: _, _ :: _, [], _, _, h, _, _ => by simp at h
def pps (m : Nat) (lns : List (List Int)) : List (List Int) := (List.range m).map (fun j => (lns.map fun l => l.getD j 0) ++ [0]) ++ [(lns.map fun l => l.getD m 0) ++ [1]]
theorem pps_mem {m : Nat} {lns : List (List Int)} {o : List Int} (h : o ∈ pps m lns) : ∃ k, k < m + 1 ∧ o = (lns.map fun l => l.getD k 0) ++ [if k = m then 1 else 0] ∧ True := by
  unfold pps at h
  rcases List.mem_append.mp h with z | z
  · obtain ⟨j, hj, rfl⟩ := List.mem_map.mp z
    have hj' : j < m := List.mem_range.mp hj
    exact ⟨j, by omega, by rw [if_neg (by omega)], trivial⟩
  · exact ⟨m, by omega, by rw [if_pos rfl]; exact List.mem_singleton.mp z, trivial⟩
theorem pps_at {m k : Nat} {lns : List (List Int)} (h : k < m + 1) : (lns.map fun l => l.getD k 0) ++ [if k = m then 1 else 0] ∈ pps m lns := by
  unfold pps
  by_cases z : k = m
  · subst z
    rw [if_pos rfl]
    simp
  · rw [if_neg z]
    exact List.mem_append.mpr (.inl (List.mem_map.mpr ⟨k, List.mem_range.mpr (by omega), rfl⟩))
theorem paper_sure {m n : Nat} {l0 l1 : List Int} {ws : List Wl} (hlen : ∀ l ∈ ws.map (·.1), l.length = m + 1) (hn : ws.length = n) (c0 : Comb (ws.map (·.1)) l0) (h0 : ∀ j, j < m → l0.getD j 0 = 0) (h0m : l0.getD m 0 ≠ 0) (c1 : Comb (pps m (ws.map (·.1))) l1) (l1l : l1.length = n + 1) (h1 : ∀ j, j < n → l1.getD j 0 = 0) (hp : ∀ o ∈ pps m (ws.map (·.1)), o.length = n + 1) : l1.getD n 0 = 0 := by
  obtain ⟨y0, ly, ey⟩ := c0
  have h0m' := ratne h0m
  have ly' : (y0.map fun a => a * (1 / ((l0.getD m 0 : Int) : Rat))).length = (ws.map (·.1)).length := by simp [ly]
  have all : ∀ o ∈ pps m (ws.map (·.1)), ev o (zOf (y0.map fun a => a * (1 / ((l0.getD m 0 : Int) : Rat)))) = 0 := by
    intro o ho
    obtain ⟨k, hk, rfl, _⟩ := pps_mem ho
    rw [ev_col k _ (ws.map (·.1)) _ ly', csum_scale, ← ey k]
    by_cases z : k = m
    · subst z
      rw [if_pos rfl]
      have e' : ((1 : Int) : Rat) = 1 := by simp
      rw [e']
      grind
    · rw [if_neg z, h0 k (by omega)]
      simp
      grind
  have e := ev_comb (n := n + 1) c1 (by omega) (fun o ho => by rw [hp o ho]; exact Nat.le_refl _) all
  rw [ev_one l1 _ n (fun j hj => by
    by_cases z : j < n
    · rw [h1 j z]
      simp
    · rw [getD_out (by omega)]
      simp)] at e
  have zn : zOf (y0.map fun a => a * (1 / ((l0.getD m 0 : Int) : Rat))) n = -1 := by
    unfold zOf
    rw [if_neg (by rw [ly', List.length_map]; omega)]
  rw [zn] at e
  have : ((l1.getD n 0 : Int) : Rat) = 0 := by grind
  exact_mod_cast this
theorem whole_col {ts : List Int} {qs : List (Int × Int)} {d : Int × Int} {b : Int} {j : Nat} (h : Whole ts (qs ++ [d]) b) (hj : j < qs.length) : ((ts.getD j 0 : Int) : Rat) = vl (qs.getD j (0, 1)) * b := by
  have l := h.1
  rw [List.length_append] at l
  simp at l
  have e1 : ts[j]? = some (ts[j]'(by omega)) := List.getElem?_eq_getElem (by omega)
  have e2 : qs[j]? = some qs[j] := List.getElem?_eq_getElem hj
  have := h.2 j _ _ e1 (by rw [List.getElem?_append_left hj]; exact e2)
  rw [getD_mem e1, List.getD_eq_getElem?_getD, e2]
  exact this
theorem whole_last {ts : List Int} {qs : List (Int × Int)} {d : Int × Int} {b : Int} {m : Nat} (h : Whole ts (qs ++ [d]) b) (hm : qs.length = m) : ((ts.getD m 0 : Int) : Rat) = vl d * b := by
  have l := h.1
  rw [List.length_append] at l
  simp at l
  have e1 : ts[m]? = some (ts[m]'(by omega)) := List.getElem?_eq_getElem (by omega)
  have := h.2 m _ d e1 (by rw [List.getElem?_append_right (by omega), hm]; simp)
  rw [getD_mem e1]
  exact this
def spSolve (K : PySem.W.Frag) : Sp := fun vs H Q _ => ∃ (r dl : Addr) (m : Nat) (ls : List Addr) (vss : List (List V)) (qss : List (List (Int × Int))) (dus : List V) (ds : List (Int × Int)) (T B Z : Nat), vs = [.ref r, .ref dl, .int (m : Int)] ∧ MatV H r ls vss ∧ Numss H vss qss ∧ H dl = some (.lst dus) ∧ Nms H dus ds ∧ ds.length = qss.length ∧ Shape T B m qss ∧ (∀ d ∈ ds, Sm T B d) ∧ m ≤ 100 ∧ qss.length ≤ 100 ∧ T ≤ 20000 ∧ B * (m + 1) ≤ 8000 ∧ bb (T + B * (m + 1)) (min (m + 1) qss.length) ≤ Z ∧ Z ≤ 29000000 ∧
  (∀ (p x : Addr) (us : List V) (xs : List (Int × Int)) (H' : Hp), Same H H' → H' p = some (.tup [.str "solved", .ref x]) → H' x = some (.lst us) → NmsK K H' us xs → xs.length = m → (∀ q ∈ xs, Sm Z Z q) → (∀ (i : Nat) (qs : List (Int × Int)) (d : Int × Int), qss[i]? = some qs → ds[i]? = some d → dotQ qs xs = vl d) → Q (.ref p) H') ∧
  (∀ (p y : Addr) (us : List V) (ys : List (Int × Int)) (H' : Hp), Same H H' → H' p = some (.tup [.str "paper", .ref y]) → H' y = some (.lst us) → NmsK K H' us ys → ys.length = qss.length → (∀ q ∈ ys, Sm (Z + B * (m + 1)) Z q) → (∀ j, j < m → dotQ ys (colQ qss j) = 0) → dotQ ys ds = 1 → Q (.ref p) H')
theorem sc_solve_rows : FnScope ["rows", "due", "many", "wholes", "lines", "x", "columns", "papers", "shares"] ["rows", "due", "many"] (defScope s_solve_rows) := ⟨rfl, rfl, rfl, by decide +kernel, rfl, by decide +kernel, by decide +kernel⟩
theorem ok_solve_rows (D : Def K mg "solve_rows" s_solve_rows ["rows", "due", "many"]) (m_zip : mg "zip" = none) (m_len : mg "len" = none) (G_whole_row : Fn P w K mg base (CXr P w) 2 "whole_row" ["row"] (spWR K)) (G_solution_of : Fn P w K mg base (CXr P w) 36 "solution_of" ["lines", "many"] (spSolution K)) (G_turned : Fn P w K mg base (CXr P w) 1 "turned" ["rows", "many"] spTurned) (G_lowest_terms : Fn P w K mg base (CXr P w) 33 "lowest_terms" ["top", "bottom"] spLowestU) :
    Fn P w K mg base (CXr P w) 37 "solve_rows" ["rows", "due", "many"] (spSolve K) := by
  refine D.ok sc_solve_rows (fun vs H Q E h => ?_) (fun f cdv A outer s H vs Q E hr h => ?_)
  · obtain ⟨r, dl, m, ls, vss, qss, dus, ds, T, B, Z, rfl, _⟩ := h
    rfl
  obtain ⟨r, dl, m, ls, vss, qss, dus, ds, T, B, Z, rfl, M, NN, hdl, ND, hds, sh, sd, hm, hn, hT, hB, hZ, hZ1, q1, q2⟩ := h
  have px := passM (X := (cxOf (CXr P w) P w K mg base ["rows", "due", "many", "wholes", "lines", "x", "columns", "papers", "shares"] "solve_rows" (defScope s_solve_rows) f cdv A outer s H E)) (CXr.mute (P := P) (w := w))
  refine ⟨_, (pss_cons (ps_setC (i := 3) sc_solve_rows.nd rfl (Or.inl rfl) (tn := ["row", "number"]) (fr := []) (caps := []) rfl ⟨rfl, by decide +kernel, rfl, by decide +kernel, by decide +kernel, rfl, trivial, trivial⟩ (pi_zip rfl m_zip (pac (pv 0) (pac (pv 1) pa_nil))) (fun _ _ _ _ => (pg_tupK (K := K) (n := 2) rfl rfl (pgs_cons (pg_name (i := 0) (show (["row", "number"] : List Str).Nodup from by decide +kernel) rfl (Or.inl rfl)) (pgs_cons (pg_name (i := 1) (show (["row", "number"] : List Str).Nodup from by decide +kernel) rfl (Or.inl rfl)) pgs_nil)))) (fun _ _ _ _ => pf_nil) (fun _ _ _ _ => (pe_fn G_whole_row (hr.mono (by decide)) (passB (by first | assumption | exact CXr.mute) rfl) (pac (pe_op op_cat (pv 0) (pe_lst (pac (pv 1) pa_nil))) pa_nil))))
    (pss_cons (ps_setC (i := 4) sc_solve_rows.nd rfl (Or.inl rfl) (tn := ["whole"]) (fr := []) (caps := []) rfl ⟨rfl, by decide +kernel, rfl, by decide +kernel, by decide +kernel, rfl, trivial, trivial⟩ (pi_list (pv 3)) (fun _ _ _ _ => (pg_name (i := 0) (show (["whole"] : List Str).Nodup from by decide +kernel) rfl (Or.inl rfl))) (fun _ _ _ _ => pf_nil) (fun _ _ _ _ => (pe_ix (ix_tupK (K := K) rfl) (pv 0) pe_int (fun _ _ => rfl))))
    (pss_cons (ps_set (i := 5) sc_solve_rows.nd rfl (Or.inl rfl) (pe_fn G_solution_of (hr.mono (by decide)) px (pac (pv 4) (pac (pv 2) pa_nil))))
    (pss_cons (ps_if (pt_cmpR op_notN (pv 5) pe_non (nomark _)) (pss_one (ps_ret (pe_tup (pac pe_str (pac (pv 5) pa_nil))))) pss_nil)
    (pss_cons (ps_set (i := 6) sc_solve_rows.nd rfl (Or.inl rfl) (pe_fn G_turned (hr.mono (by decide)) px (pac (pv 4) (pac (pe_op op_add (pv 2) pe_int) pa_nil))))
    (pss_cons (ps_set (i := 7) sc_solve_rows.nd rfl (Or.inl rfl) (pe_op op_cat (pe_comp (tn := ["column"]) (fr := []) (caps := []) rfl ⟨rfl, by decide +kernel, rfl, by decide +kernel, by decide +kernel, rfl, trivial, trivial⟩ (pi_list (pe_slice sl_list (pv 6) po_none (po_some (pv 2)))) (fun _ _ _ _ => (pg_name (i := 0) (show (["column"] : List Str).Nodup from by decide +kernel) rfl (Or.inl rfl))) (fun _ _ _ _ => pf_nil) (fun _ _ _ _ => (pe_op op_cat (pv 0) (pe_lst (pac pe_int pa_nil))))) (pe_lst (pac (pe_op op_cat (pe_ix ix_list (pv 6) (pv 2) (fun _ _ => rfl)) (pe_lst (pac pe_int pa_nil))) pa_nil))))
    (pss_cons (ps_set (i := 8) sc_solve_rows.nd rfl (Or.inl rfl) (pe_fn G_solution_of (hr.mono (by decide)) px (pac (pv 7) (pac (pe_callB call_len_seq rfl m_len b_len (pac (pv 4) pa_nil)) pa_nil))))
    (pss_one (ps_ret (pe_tup (pac pe_str (pac (pe_comp (tn := ["share", "whole"]) (fr := []) (caps := []) rfl ⟨rfl, by decide +kernel, rfl, by decide +kernel, by decide +kernel, rfl, trivial, trivial⟩ (pi_zip rfl m_zip (pac (pv 8) (pac (pv 3) pa_nil))) (fun _ _ _ _ => (pg_tupK (K := K) (n := 2) rfl rfl (pgs_cons (pg_name (i := 0) (show (["share", "whole"] : List Str).Nodup from by decide +kernel) rfl (Or.inl rfl)) (pgs_cons (pg_name (i := 1) (show (["share", "whole"] : List Str).Nodup from by decide +kernel) rfl (Or.inl rfl)) pgs_nil)))) (fun _ _ _ _ => pf_nil) (fun _ _ _ _ => (pe_fn G_lowest_terms (hr.mono (by decide)) (passB (by first | assumption | exact CXr.mute) rfl) (pac (pe_op op_mulZ (pe_ix (ix_tupK (K := K) rfl) (pv 0) pe_int (fun _ _ => rfl)) (pe_ix (ix_tupK (K := K) rfl) (pv 1) pe_int (fun _ _ => rfl))) (pac (pe_ix (ix_tupK (K := K) rfl) (pv 0) pe_int (fun _ _ => rfl)) pa_nil))))) pa_nil)))))))))))), ?_⟩
  have l1 := M.2.1
  have l2 := NN.1
  have l3 := ND.1
  have hB1 : B ≤ 8000 := Nat.le_trans (Nat.le_mul_of_pos_right B (Nat.succ_pos m)) hB
  refine ⟨_, rfl, _, rfl, r, dl, rfl, ⟨_, SqL.of M.1⟩, ⟨_, SqL.of hdl⟩, fun D1 n1 => ?_⟩
  refine comp_zipD (cap := []) (K := K) (xs := ls.map V.ref) (ys := dus) (fun i v H => ∃ w : Wl, v = .ref w.2.2.2 ∧ w.2.2.1 ≠ D1 ∧ H w.2.2.2 = some (.tup [.ref w.2.2.1, .int w.2.1]) ∧ H w.2.2.1 = some (.lst (w.1.map V.int)) ∧ ∀ qs d, qss[i]? = some qs → ds[i]? = some d → WlP T B m qs d w) n1 (by rw [List.length_map]; exact Nat.lt_of_le_of_lt (show ls.length ≤ 1000 by omega) (by decide)) (by rw [List.length_map]; omega) (fun H2 s2 => SqL.of (s2 _ _ M.1)) (fun H2 s2 => SqL.of (s2 _ _ hdl)) ?_ ?_ ?_
  · rintro i v H2 H3 ys hD ks ⟨w, e1, e2, e3, e4, e5⟩
    exact ⟨w, e1, e2, ks _ _ (fun z => by rw [z, hD] at e3; cases e3) e3, ks _ _ e2 e4, e5⟩
  · rintro i x y H2 RR ex ey s2 ⟨ys0, hD0⟩ kk
    rw [List.getElem?_map] at ex
    obtain ⟨l, el, rfl⟩ := Option.map_eq_some_iff.mp ex
    have hi : i < ls.length := (List.getElem?_eq_some_iff.mp el).1
    obtain ⟨qs, eq⟩ : ∃ qs, qss[i]? = some qs := ⟨_, List.getElem?_eq_getElem (by omega)⟩
    obtain ⟨vs, ev⟩ : ∃ vs, vss[i]? = some vs := ⟨_, List.getElem?_eq_getElem (by omega)⟩
    have hl := M.2.2 i l vs el ev
    have hq := NN.2 i vs qs ev eq
    obtain ⟨d, ed, nd⟩ := ND.at ey
    obtain ⟨lq, sq⟩ := sh qs (List.mem_of_getElem? eq)
    have lvs := hq.1
    refine ⟨_, rfl, _, rfl, (by show 1 ≤ sizeLine; decide), fun p1 np1 => ?_⟩
    have t1 := same_new np1 (.lst [y])
    refine ⟨l, p1, vs, _, rfl, rfl, t1 _ _ (s2 _ _ hl), upd_same, Nat.le_trans (show vs.length + 1 ≤ 1000 by omega) (by decide), fun p2 np2 => ?_⟩
    have t2 := same_new np2 (.lst (vs ++ [y]))
    have t12 := t1.trans t2
    refine ⟨p2, qs ++ [d], T, B, rfl, ⟨_, SqL.of upd_same, (((hq.same s2).same t12).snoc ((nd.same s2).same t12))⟩, fun q' hq' => ?_, hT, by rw [List.length_append, lq]; exact hB, hB1, by rw [List.length_append, lq]; show m + 1 ≤ 1000; omega, fun p3 l3' ts b H3 s3 nl hp3 hl3 hb hbs wh hts => ?_⟩
    · rcases List.mem_append.mp hq' with z | z
      · exact sq q' z
      · rw [List.mem_singleton.mp z]
        exact sd d (List.mem_of_getElem? ed)
    · refine kk _ _ (t12.trans s3) ⟨(ts, b, l3', p3), rfl, fun z => ?_, hp3, hl3, fun qs' d' e1 e2 => ?_⟩
      · have := t12 _ _ hD0
        rw [show l3' = D1 from z, this] at nl
        cases nl
      · rw [eq] at e1
        rw [ed] at e2
        cases e1
        cases e2
        rw [List.length_append, lq] at hbs hts
        exact ⟨wh, hb, hbs, hts⟩
  · intro zs H2 hz hrel s2 hD1
    rw [List.length_map] at hz
    obtain ⟨ws, lw, hw⟩ := list_pick (P := fun i v (w : Wl) => v = .ref w.2.2.2 ∧ w.2.2.1 ≠ D1 ∧ H2 w.2.2.2 = some (.tup [.ref w.2.2.1, .int w.2.1]) ∧ H2 w.2.2.1 = some (.lst (w.1.map V.int)) ∧ ∀ qs d, qss[i]? = some qs → ds[i]? = some d → WlP T B m qs d w) zs hrel
    have ez : zs = ws.map (fun w => V.ref w.2.2.2) := by
      refine List.ext_getElem? fun i => ?_
      rw [List.getElem?_map]
      by_cases hi : i < zs.length
      · have e1 : zs[i]? = some zs[i] := List.getElem?_eq_getElem hi
        have e2 : ws[i]? = some (ws[i]'(by omega)) := List.getElem?_eq_getElem (by omega)
        have h := (hw i _ _ e1 e2).1
        rw [e1, e2, h]
        rfl
      · rw [List.getElem?_eq_none (by omega), List.getElem?_eq_none (by omega)]
        rfl
    subst ez
    have lwn : ws.length = qss.length := by omega
    have wat : ∀ (i : Nat) (w : Wl), ws[i]? = some w → H2 w.2.2.2 = some (.tup [.ref w.2.2.1, .int w.2.1]) ∧ H2 w.2.2.1 = some (.lst (w.1.map V.int)) ∧ ∀ qs d, qss[i]? = some qs → ds[i]? = some d → WlP T B m qs d w := fun i w e => (hw i _ w (by rw [List.getElem?_map, e]; rfl) e).2.2
    have wp : ∀ (i : Nat) (w : Wl), ws[i]? = some w → ∃ qs d, qss[i]? = some qs ∧ ds[i]? = some d ∧ WlP T B m qs d w := fun i w e => by
      have hi : i < ws.length := (List.getElem?_eq_some_iff.mp e).1
      obtain ⟨qs, eq⟩ : ∃ qs, qss[i]? = some qs := ⟨_, List.getElem?_eq_getElem (by omega)⟩
      obtain ⟨d, ed⟩ : ∃ d, ds[i]? = some d := ⟨_, List.getElem?_eq_getElem (by omega)⟩
      exact ⟨qs, d, eq, ed, (wat i w e).2.2 qs d eq ed⟩
    have wlen : ∀ l ∈ ws.map (·.1), l.length = m + 1 := fun l hl => by
      obtain ⟨w, hw', rfl⟩ := List.mem_map.mp hl
      obtain ⟨i, e⟩ := List.getElem?_of_mem hw'
      obtain ⟨qs, d, eq, _, wh, _⟩ := wp i w e
      have := wh.1
      rw [List.length_append, (sh qs (List.mem_of_getElem? eq)).1] at this
      exact this
    have wbd : ∀ l ∈ ws.map (·.1), Bd (T + B * (m + 1)) l := fun l hl => by
      obtain ⟨w, hw', rfl⟩ := List.mem_map.mp hl
      obtain ⟨i, e⟩ := List.getElem?_of_mem hw'
      obtain ⟨qs, d, eq, _, _, _, _, h⟩ := wp i w e
      exact Bd.of h
    have hlm : (ws.map (·.1)).length = qss.length := by rw [List.length_map]; exact lwn
    -- the lines
    refine ⟨_, rfl, D1, rfl, ⟨_, SqL.of hD1⟩, fun D2 n2 => ?_⟩
    refine comp_list (cap := []) (K := K) (a := D1) (xs := ws.map (fun w => V.ref w.2.2.2)) (fun k v _ => ∃ w, ws[k]? = some w ∧ v = .ref w.2.2.1) n2 (by rw [List.length_map]; exact Nat.lt_of_le_of_lt (show ws.length ≤ 1000 by omega) (by decide)) (fun H3 s3 => SqL.of (s3 _ _ hD1)) (fun _ _ _ _ _ _ _ h => h) ?_ ?_
    · intro k x H3 RR ex s3 kk
      rw [List.getElem?_map] at ex
      obtain ⟨w, ew, rfl⟩ := Option.map_eq_some_iff.mp ex
      exact ⟨_, rfl, w.2.2.2, _, _, _, rfl, rfl, SqT.of (s3 _ _ (wat k w ew).1), at0, kk _ _ (Same.refl _) ⟨w, ew, rfl⟩⟩
    intro ys H3 hy hrel3 s3 hD2
    have ey : ys = (ws.map (fun w => w.2.2.1)).map V.ref := by
      refine List.ext_getElem? fun i => ?_
      rw [List.length_map] at hy
      by_cases hi : i < ys.length
      · have e1 : ys[i]? = some ys[i] := List.getElem?_eq_getElem hi
        obtain ⟨w, e2, e3⟩ := hrel3 i _ e1
        rw [e1, e3, List.getElem?_map, List.getElem?_map, e2]
        rfl
      · rw [List.getElem?_eq_none (by omega), List.getElem?_eq_none (by simp; omega)]
    subst ey
    have hLl : Lns H3 ((ws.map (fun w => w.2.2.1)).map V.ref) (ws.map (·.1)) := ⟨by simp, fun i u l e1 e2 => by
      rw [List.getElem?_map, List.getElem?_map] at e1
      rw [List.getElem?_map] at e2
      cases e : ws[i]? with
      | none => rw [e] at e2; cases e2
      | some w =>
        rw [e] at e1 e2
        cases e1
        cases e2
        exact ⟨w.2.2.1, rfl, s3 _ _ (wat i w e).2.1⟩⟩
    have hMm : MatV H3 D2 (ws.map (fun w => w.2.2.1)) ((ws.map (·.1)).map fun l => l.map V.int) := ⟨hD2, by simp, fun i l vs e1 e2 => by
      rw [List.getElem?_map] at e1
      rw [List.getElem?_map, List.getElem?_map] at e2
      cases e : ws[i]? with
      | none => rw [e] at e2; cases e2
      | some w =>
        rw [e] at e1 e2
        cases e1
        cases e2
        exact s3 _ _ (wat i w e).2.1⟩
    have mn : bb (T + B * (m + 1)) (min m (ws.map (·.1)).length) ≤ Z := Nat.le_trans (bb_mono _ (by rw [hlm]; omega)) hZ
    have s23 := s2.trans s3
    refine ⟨_, rfl, _, rfl, D2, _, ws.map (·.1), m, T + B * (m + 1), rfl, SqL.of hD2, hLl, wlen, by omega, by omega, wbd, Nat.le_trans mn hZ1, fun l0 H4 s4 l0l cm l00 l0m => ?_, fun x us' xs H4 s4 nx hx nxs lxs sxs sol => ?_⟩
    · refine ⟨_, rfl, rfl, _, rfl, ?_⟩
      refine ite2 (fun z => by simp at z) (fun _ => ?_)
      have M4 := hMm.same s4
      refine ⟨_, rfl, _, rfl, _, _, rfl, rfl, D2, ws.map (fun w => w.2.2.1), _, (m : Int) + 1, rfl, M4, by omega, by omega, by rw [List.length_map]; omega, fun vs hvs => ?_, fun c cs H5 s5 M5 => ?_⟩
      · obtain ⟨l, hl, rfl⟩ := List.mem_map.mp hvs
        rw [List.length_map, wlen l hl]
        omega
      have lcs : cs.length = m + 1 := by
        have := M5.2.1
        unfold colsV at this
        simp at this
        omega
      have col : ∀ k, k < m + 1 → ∃ l, cs[k]? = some l ∧ H5 l = some (.lst (((ws.map (·.1)).map fun l => l.getD k 0).map V.int)) := fun k hk => by
        have e : (colsV ((ws.map (·.1)).map fun l => l.map V.int) ((m : Int) + 1).toNat)[k]? = some (((ws.map (·.1)).map fun l => l.getD k 0).map V.int) := by
          rw [← col_ints wlen hk]
          unfold colsV
          rw [List.getElem?_map, List.getElem?_range (by omega)]
          rfl
        exact M5.row e
      -- the papers
      refine ⟨_, rfl, _, rfl, _, rfl, c, _, rfl, SqL.of M5.1, fun p6 n6 => ?_⟩
      have t6 := same_new n6 (.lst (cutV (cs.map V.ref) none (some (m : Int))))
      refine ⟨p6, rfl, ⟨_, SqL.of upd_same⟩, fun D6 nD6 => ?_⟩
      have lcl : ((ws.map (·.1)).map fun l => l.getD 0 0).length ≤ 100 := by simp; omega
      refine comp_listD (cap := []) (K := K) (a := p6) (xs := (cs.map V.ref).take m) (fun k v H => ∃ p, v = .ref p ∧ p ≠ D6 ∧ H p = some (.lst ((List.map (fun l : List Int => l.getD k 0) (ws.map (fun w : Wl => w.1)) ++ [(0 : Int)]).map V.int))) nD6 (Nat.lt_of_le_of_lt (show ((cs.map V.ref).take m).length ≤ 1000 by simp; omega) (by decide)) (fun H7 s7 => SqL.of (s7 _ _ (by rw [upd_same, cutV_to (by simp; omega)]))) ?_ ?_ ?_
      · rintro k v H7 H8 ys hD ks ⟨p, e1, e2, e3⟩
        exact ⟨p, e1, e2, ks _ _ e2 e3⟩
      · rintro k x H7 RR ex s7 ⟨ys0, hy0⟩ kk
        have hk : k < m := by have := (List.getElem?_eq_some_iff.mp ex).1; simp at this; omega
        obtain ⟨l, el, hl⟩ := col k (by omega)
        rw [List.getElem?_take, if_pos hk, List.getElem?_map, el] at ex
        cases ex
        refine ⟨_, rfl, (by show 1 ≤ sizeLine; decide), fun pz nz => ?_⟩
        have tz := same_new nz (.lst [.int 0])
        refine ⟨l, pz, _, _, rfl, rfl, tz _ _ (s7 _ _ (t6 _ _ hl)), upd_same, Nat.le_trans (show _ ≤ 1000 by simp; omega) (by decide), fun pn nn => ?_⟩
        have tn := same_new nn (.lst (((ws.map (·.1)).map fun l => l.getD k 0).map V.int ++ [.int 0]))
        refine kk _ _ (tz.trans tn) ⟨pn, rfl, fun z => ?_, by rw [upd_same, List.map_append]; rfl⟩
        have := tz _ _ hy0
        rw [z, this] at nn
        cases nn
      intro ys6 H7 hy6 hrel6 s7 hD6
      have ly6 : ys6.length = m := by rw [hy6]; simp; omega
      have t67 := t6.trans s7
      obtain ⟨lm, elm, hlm'⟩ := col m (by omega)
      refine ⟨_, rfl, _, rfl, c, _, _, _, rfl, rfl, SqL.of (t67 _ _ M5.1), atI_nat (by rw [List.getElem?_map, elm]; rfl), (by show 1 ≤ sizeLine; decide), fun pz nz => ?_⟩
      have tz := same_new nz (.lst [.int 1])
      refine ⟨lm, pz, _, _, rfl, rfl, tz _ _ (t67 _ _ hlm'), upd_same, Nat.le_trans (show _ ≤ 1000 by simp; omega) (by decide), fun pn nn => ?_⟩
      have tn := same_new nn (.lst (((ws.map (·.1)).map fun l => l.getD m 0).map V.int ++ [.int 1]))
      refine ⟨(by show 1 ≤ sizeLine; decide), fun pL nL => ?_⟩
      have tL := same_new nL (.lst [V.ref pn])
      have tzL := (tz.trans tn).trans tL
      refine ⟨D6, pL, ys6, _, rfl, rfl, tzL _ _ hD6, upd_same, Nat.le_trans (show ys6.length + 1 ≤ 1000 by omega) (by decide), fun pP nP => ?_⟩
      have tP := same_new nP (.lst (ys6 ++ [V.ref pn]))
      have s7P := tzL.trans tP
      have hpn := tP _ _ (tL _ _ (upd_same (H := upd H7 pz (.lst [.int 1])) (a := pn) (o := .lst (((ws.map (·.1)).map fun l => l.getD m 0).map V.int ++ [.int 1]))))
      have eP : upd (upd (upd (upd H7 pz (.lst [.int 1])) pn (.lst (((ws.map (·.1)).map fun l => l.getD m 0).map V.int ++ [.int 1]))) pL (.lst [V.ref pn])) pP (.lst (ys6 ++ [V.ref pn])) pP = some (.lst (ys6 ++ [V.ref pn])) := upd_same
      have rel6 : ∀ (k : Nat) (v : V), ys6[k]? = some v → Ln H7 v (((ws.map (·.1)).map fun l => l.getD k 0) ++ [0]) := fun k v e => by
        obtain ⟨p, e1, _, e3⟩ := hrel6 k v e
        exact ⟨p, e1, e3⟩
      have s5P := t67.trans s7P
      generalize upd (upd (upd (upd H7 pz (.lst [.int 1])) pn (.lst (((ws.map (·.1)).map fun l => l.getD m 0).map V.int ++ [.int 1]))) pL (.lst [V.ref pn])) pP (.lst (ys6 ++ [V.ref pn])) = H9 at *
      have hpps : Lns H9 (ys6 ++ [V.ref pn]) (pps m (ws.map (·.1))) := by
        refine ⟨by simp [pps, ly6], fun k u l e1 e2 => ?_⟩
        unfold pps at e2
        by_cases hk : k < m
        · rw [List.getElem?_append_left (by omega)] at e1
          rw [List.getElem?_append_left (by simpa using hk), List.getElem?_map, List.getElem?_range hk] at e2
          cases e2
          exact (rel6 k u e1).same s7P
        · rw [List.getElem?_append_right (by omega)] at e1
          rw [List.getElem?_append_right (by simp; omega)] at e2
          by_cases hkm : k = m
          · subst hkm
            rw [show k - ys6.length = 0 by omega] at e1
            rw [show k - ((List.range k).map fun j => ((ws.map (·.1)).map fun l => l.getD j 0) ++ [0]).length = 0 by simp] at e2
            cases e1
            cases e2
            exact ⟨pn, rfl, by rw [hpn, List.map_append]; rfl⟩
          · rw [List.getElem?_eq_none (by simp; omega)] at e1
            cases e1
      have ppl : ∀ o ∈ pps m (ws.map (·.1)), o.length = qss.length + 1 := fun o ho => by
        rcases pps_mem ho with ⟨k, hk, e⟩
        rw [e.1]
        simp [lwn]
      have ppb : ∀ o ∈ pps m (ws.map (·.1)), Bd (T + B * (m + 1)) o := fun o ho => by
        rcases pps_mem ho with ⟨k, hk, e, hc⟩
        rw [e]
        refine Bd.of fun t ht => ?_
        rcases List.mem_append.mp ht with z | z
        · obtain ⟨l, hl, rfl⟩ := List.mem_map.mp z
          exact wbd l hl k
        · rw [List.mem_singleton.mp z]
          refine Nat.le_trans ?_ (Nat.one_le_two_pow (n := T + B * (m + 1)))
          split <;> decide
      have lpp : (pps m (ws.map (·.1))).length = m + 1 := by simp [pps]
      have mn2 : bb (T + B * (m + 1)) (min qss.length (pps m (ws.map (·.1))).length) ≤ Z := Nat.le_trans (bb_mono _ (by rw [lpp]; omega)) hZ
      have s39 := (s4.trans s5).trans s5P
      refine ⟨_, rfl, _, rfl, D2, _, rfl, .inl (SqL.of (s39 _ _ hD2)), pP, _, pps m (ws.map (·.1)), qss.length, T + B * (m + 1), by simp [lwn], SqL.of eP, hpps, ppl, by omega, by omega, ppb, Nat.le_trans mn2 hZ1, fun l1 H10 s10 l1l cm1 l10 l1m => ?_, fun x2 us2 ss H10 s10 nx2 hx2 nss lss sss sol2 => ?_⟩
      · exact absurd (paper_sure wlen lwn cm l00 l0m cm1 l1l l10 ppl) l1m
      have csm : ∀ k, k < m + 1 → csum (ss.map vl) (ws.map (·.1)) k = if k = m then 1 else 0 := fun k hk => by
        have e := sol2 _ (pps_at hk)
        rw [ev_col k _ (ws.map (·.1)) (ss.map vl) (by simp [lwn, lss])] at e
        by_cases z : k = m
        · rw [if_pos z] at e ⊢
          have e' : ((1 : Int) : Rat) = 1 := by simp
          rw [e'] at e
          grind
        · rw [if_neg z] at e ⊢
          have e' : ((0 : Int) : Rat) = 0 := by simp
          rw [e'] at e
          grind
      have s310 := s39.trans s10
      have hD10 := s310 _ _ (s3 _ _ hD1)
      have lns2 := nss.1
      refine ⟨_, rfl, _, rfl, x2, D1, rfl, ⟨_, SqL.of hx2⟩, ⟨_, SqL.of hD10⟩, fun D9 n9 => ?_⟩
      refine comp_zip (cap := []) (K := K) (xs := us2) (ys := ws.map (fun w => V.ref w.2.2.2)) (fun k v H => ∃ w q, ws[k]? = some w ∧ ss[k]? = some q ∧ Nm H v (low (q.1 * w.2.1) q.2)) n9 (Nat.lt_of_le_of_lt (show us2.length ≤ 1000 by omega) (by decide)) (by rw [List.length_map]; omega) (fun H11 s11 => SqL.of (s11 _ _ hx2)) (fun H11 s11 => SqL.of (s11 _ _ hD10)) ?_ ?_ ?_
      · rintro k v H11 H12 ys hD ks ⟨w, q, e1, e2, e3⟩
        exact ⟨w, q, e1, e2, e3.kept hD ks⟩
      · intro k x y H11 RR ex ey s11 kk
        obtain ⟨q, eq', ps, rfl, hps⟩ := nss.at ex
        rw [List.getElem?_map] at ey
        obtain ⟨w, ew, rfl⟩ := Option.map_eq_some_iff.mp ey
        obtain ⟨qs, d, eqs, eds, wh, wb, wbs, _⟩ := wp k w ew
        have sq := sss q (List.mem_of_getElem? eq')
        have hw1 := s11 _ _ (s310 _ _ (s3 _ _ (wat k w ew).1))
        have hps1 := Ty.Same.seqT s11 hps
        refine ⟨_, rfl, ps, _, _, _, rfl, rfl, hps1, at0, _, rfl, w.2.2.2, _, _, _, rfl, rfl, SqT.of hw1, at1, _, _, rfl, rfl, pw_cmulS (pw_up sq.top mn2) wbs (by omega), _, rfl, ps, _, _, _, rfl, rfl, hps1, at1, ?_⟩
        exact ⟨_, _, rfl, by have := sq.pos; omega, fun p8 H8 s8 e8 => kk _ _ s8 ⟨w, q, ew, eq', p8, rfl, e8⟩⟩
      intro us9 H11 h9 hrel9 s11 hD9
      refine ⟨(by show 2 ≤ sizeLine; decide), fun p12 n12 => ?_⟩
      have s12 := same_new n12 (.tup [.str "paper", .ref D9])
      have yat : ∀ (k : Nat) (w : Wl) (q : Int × Int), ws[k]? = some w → ss[k]? = some q → (List.zipWith (fun (w : Wl) (q : Int × Int) => low (q.1 * w.2.1) q.2) ws ss)[k]? = some (low (q.1 * w.2.1) q.2) := fun k w q e1 e2 => by rw [List.getElem?_zipWith, e1, e2]
      have ylen : (List.zipWith (fun (w : Wl) (q : Int × Int) => low (q.1 * w.2.1) q.2) ws ss).length = qss.length := by simp [lwn, lss]
      have vly : ∀ (k : Nat) (w : Wl) (q y : Int × Int), ws[k]? = some w → ss[k]? = some q → (List.zipWith (fun (w : Wl) (q : Int × Int) => low (q.1 * w.2.1) q.2) ws ss)[k]? = some y → vl y = vl q * w.2.1 := fun k w q y e1 e2 e3 => by
        rw [yat k w q e1 e2] at e3
        cases e3
        have sq := sss q (List.mem_of_getElem? e2)
        rw [vl_low (by have := sq.pos; omega)]
        unfold vl
        push_cast
        grind
      refine q2 p12 D9 us9 (List.zipWith (fun (w : Wl) (q : Int × Int) => low (q.1 * w.2.1) q.2) ws ss) _ (((s23.trans s310).trans s11).trans s12) upd_same (s12 _ _ hD9) ⟨by rw [h9, ylen]; omega, fun k u y e1 e2 => ?_⟩ ylen (fun y hy => ?_) (fun j hj => ?_) ?_
      · obtain ⟨w, q, ew, eq', p, e, hp⟩ := hrel9 k u e1
        rw [yat k w q ew eq'] at e2
        cases e2
        exact ⟨p, e, SqT.of (s12 _ _ hp)⟩
      · obtain ⟨k, hk⟩ := List.getElem?_of_mem hy
        have hkl : k < qss.length := by rw [← ylen]; exact (List.getElem?_eq_some_iff.mp hk).1
        obtain ⟨w, ew⟩ : ∃ w, ws[k]? = some w := ⟨_, List.getElem?_eq_getElem (by omega)⟩
        obtain ⟨q, eq'⟩ : ∃ q, ss[k]? = some q := ⟨_, List.getElem?_eq_getElem (by omega)⟩
        rw [yat k w q ew eq'] at hk
        cases hk
        obtain ⟨qs, d, eqs, eds, wh, wb, wbs, _⟩ := wp k w ew
        have sq := sss q (List.mem_of_getElem? eq')
        exact sm_lowU (by have := sq.pos; omega) (pw_mul (pw_up sq.top mn2) wbs) (pw_up sq.bot mn2)
      · rw [dot_csum j (ws := ws) (ss := ss) (by omega) (by rw [ylen, lwn]) (by simp [colQ, lwn]) vly ?_, csm j (by omega), if_neg (by omega)]
        intro k w cq ew ec
        obtain ⟨qs, d, eqs, eds, wh, _⟩ := wp k w ew
        unfold colQ at ec
        rw [List.getElem?_map, eqs] at ec
        cases ec
        exact whole_col wh (by rw [(sh qs (List.mem_of_getElem? eqs)).1]; exact hj)
      · rw [dot_csum m (ws := ws) (ss := ss) (by omega) (by rw [ylen, lwn]) (by omega) vly ?_, csm m (by omega), if_pos rfl]
        intro k w cq ew ec
        obtain ⟨qs, d, eqs, eds, wh, _⟩ := wp k w ew
        rw [ec] at eds
        cases eds
        exact whole_last wh (sh qs (List.mem_of_getElem? eqs)).1
    · refine ⟨_, rfl, rfl, _, rfl, ?_⟩
      refine ite2 (fun _ => ?_) (fun z => by simp at z)
      refine ⟨_, rfl, (by show 2 ≤ sizeLine; decide), fun p5 n5 => ?_⟩
      have s5 := same_new n5 (.tup [.str "solved", .ref x])
      refine q1 p5 x us' xs _ ((s23.trans s4).trans s5) upd_same (s5 _ _ hx) (nxs.same s5) lxs (fun q hq => (sxs q hq).up mn mn) (fun i qs d eq ed => ?_)
      have hi : i < qss.length := (List.getElem?_eq_some_iff.mp eq).1
      obtain ⟨w, ew⟩ : ∃ w, ws[i]? = some w := ⟨_, List.getElem?_eq_getElem (by omega)⟩
      obtain ⟨wh, wb, _⟩ := (wat i w ew).2.2 qs d eq ed
      have e0 := sol w.1 (List.mem_map.mpr ⟨w, List.mem_of_getElem? ew, rfl⟩)
      rw [ev_whole wh (by rw [lxs, (sh qs (List.mem_of_getElem? eq)).1])] at e0
      have wb' := ratne (b := w.2.1) (by omega)
      grind
def FillS (c m t : Nat) (nd : List (Nat × List Int)) (qs : List (Int × Int)) : Prop := qs.length = m ∧ qs[c]? = some (1, 1) ∧ (∀ i, i < t → ∀ x, nd[i]? = some x → qs[x.1]? = some (low (-(x.2.getD c 0)) (x.2.getD x.1 0))) ∧ ∀ j, j < m → j ≠ c → (∀ i, i < t → ∀ x, nd[i]? = some x → x.1 ≠ j) → qs[j]? = some (0, 1)
theorem FillS.put {L c m t b : Nat} {os : List (List Int)} {nd : List (Nat × List Int)} {lv : List (List Int)} {qs : List (Int × Int)} {x : Nat × List Int} (R : Red os L m b nd lv) (F : FillS c m t nd qs) (hc : ∀ y ∈ nd, y.1 ≠ c) (e : nd[t]? = some x) : FillS c m (t + 1) nd (qs.set x.1 (low (-(x.2.getD c 0)) (x.2.getD x.1 0))) := by
  have ql := F.1
  have hx := R.cols x (List.mem_of_getElem? e)
  have xc := hc x (List.mem_of_getElem? e)
  have dis : ∀ i y, i < t → nd[i]? = some y → y.1 ≠ x.1 := fun i y hi ey => by
    have a := List.pairwise_iff_getElem.mp R.asc i t (by rw [List.length_map]; exact (List.getElem?_eq_some_iff.mp ey).1) (by rw [List.length_map]; exact (List.getElem?_eq_some_iff.mp e).1) hi
    simp only [List.getElem_map] at a
    have e1 := (List.getElem?_eq_some_iff.mp ey).2
    have e2 := (List.getElem?_eq_some_iff.mp e).2
    rw [e1, e2] at a
    omega
  refine ⟨by simp [ql], by rw [List.getElem?_set, if_neg xc]; exact F.2.1, fun i hi y ey => ?_, fun j hj jc h => ?_⟩
  · rcases Nat.lt_succ_iff_lt_or_eq.mp hi with z | z
    · rw [List.getElem?_set, if_neg (Ne.symm (dis i y z ey))]
      exact F.2.2.1 i z y ey
    · subst z
      rw [e] at ey
      cases ey
      rw [List.getElem?_set, if_pos rfl, if_pos (by omega)]
  · rw [List.getElem?_set, if_neg (h t (Nat.lt_succ_self _) x e)]
    exact F.2.2.2 j hj jc (fun i hi y ey => h i (Nat.lt_succ_of_lt hi) y ey)
theorem Ln.ks {H H' : Hp} {v : V} {l : List Int} {d : Addr} {kvs : List (Key × V)} (h : Ln H v l) (r : Rd H d (.dK kvs)) (k : KSame d H H') : Ln H' v l := by
  obtain ⟨p, e, z⟩ := h
  refine ⟨p, e, k p _ (fun y => ?_) z⟩
  rw [y] at z
  rcases r with r | ⟨o, r⟩ <;> (rw [r] at z; cases z)
theorem NdR.ks {H H' : Hp} {kvs kv2 : List (Key × V)} {nd : List (Nat × List Int)} {d : Addr} (h : NdR H kvs nd) (r : Rd H d (.dK kv2)) (k : KSame d H H') : NdR H' kvs nd := ⟨h.1, fun i kv x e1 e2 => ⟨(h.2 i kv x e1 e2).1, (h.2 i kv x e1 e2).2.ks r k⟩⟩
theorem KSame.step {d : Addr} {H H' H2 : Hp} (k : KSame d H H') (s : Same H' H2) : KSame d H H2 := fun b o n e => s _ _ (k b o n e)
theorem KSame.put {d x : Addr} {H H' : Hp} {o : HO} (k : KSame d H H') (n : H x = none) : KSame d H (upd H' x o) := fun b o' nb e => by
  rw [upd_ne (fun z => by rw [z, n] at e; cases e)]
  exact k b o' nb e
def spSpare (K : PySem.W.Frag) : Sp := fun vs H Q _ => ∃ (d : Addr) (c m L b : Nat) (kvs : List (Key × V)) (nd : List (Nat × List Int)) (os lv : List (List Int)), vs = [.ref d, .int (c : Int), .int (m : Int)] ∧ Rd H d (.dK kvs) ∧ NdR H kvs nd ∧ Red os L m b nd lv ∧ m ≤ L ∧ m ≤ 900 ∧ c < m ∧ (∀ y ∈ nd, y.1 ≠ c) ∧
  ∀ (x : Addr) (us : List V) (qs : List (Int × Int)) (o : Obj) (H' : Hp), KSame d H H' → H' d = some (.frz o (.dK kvs)) → H x = none → H' x = some (.lst us) → NmsK K H' us qs → FillS c m nd.length nd qs → Q (.ref x) H'
theorem sc_spare_list : FnScope ["needed", "column", "many", "numbers", "place", "line"] ["needed", "column", "many"] (defScope s_spare_list) := ⟨rfl, rfl, rfl, by decide +kernel, rfl, by decide +kernel, by decide +kernel⟩
theorem ok_spare_list {aN aO : Addr} (hN : ∀ H : Hp, SqT K H aN [.int 0, .int 1]) (m_NOUGHT : mg "NOUGHT" = some (.ref aN)) (hO : ∀ H : Hp, SqT K H aO [.int 1, .int 1]) (m_ONE : mg "ONE" = some (.ref aO)) (D : Def K mg "spare_list" s_spare_list ["needed", "column", "many"]) (G_lowest_terms : Fn P w K mg base (CXr P w) 33 "lowest_terms" ["top", "bottom"] spLowestU) : Fn P w K mg base (CXr P w) 34 "spare_list" ["needed", "column", "many"] (spSpare K) := by
  refine D.ok sc_spare_list (fun vs H Q E h => ?_) (fun f cdv A outer s H vs Q E hr h => ?_)
  · obtain ⟨d, c, m, L, b, kvs, nd, os, lv, rfl, _⟩ := h
    rfl
  obtain ⟨d, c, m, L, b, kvs, nd, os, lv, rfl, rd, hN1, R, hmL, hm, hc, hnc, q⟩ := h
  have px := passM (X := (cxOf (CXr P w) P w K mg base ["needed", "column", "many", "numbers", "place", "line"] "spare_list" (defScope s_spare_list) f cdv A outer s H E)) (CXr.mute (P := P) (w := w))
  refine ⟨_, (pss_cons (ps_set (i := 3) sc_spare_list.nd rfl (Or.inl rfl) (pe_op op_rep (pe_lst (pac (pe_glob (v := .ref aN) rfl m_NOUGHT rfl) pa_nil)) (pv 2)))
    (pss_cons (ps_asg (pe_glob (v := .ref aO) rfl m_ONE rfl) (pg_sub (pv 3) (pv 1) set_list))
    (pss_cons (ps_for PassesOwn.never rfl (pi_itemsR (pv 0)) (pg_tup rfl (pgs_cons (pg_name (i := 4) sc_spare_list.nd rfl (Or.inl rfl)) (pgs_cons (pg_name (i := 5) sc_spare_list.nd rfl (Or.inl rfl)) pgs_nil))) (pss_one (ps_asg (pe_fn G_lowest_terms (hr.mono (by decide)) px (pac (pe_un un_neg (pe_ix ix_list (pv 5) (pv 1) (fun _ _ => rfl))) (pac (pe_ix ix_list (pv 5) (pv 4) (fun _ _ => rfl)) pa_nil))) (pg_sub (pv 3) (pv 4) set_list))))
    (pss_one (ps_ret (pv 3)))))), ?_⟩
  refine ⟨(by show 1 ≤ sizeLine; decide), fun p3 n3 => ?_⟩
  have s3 := same_new n3 (.lst [V.ref aN])
  refine ⟨_, rfl, p3, _, _, rfl, rfl, upd_same, by omega, by omega, Nat.le_trans (show 1 * (m : Int).toNat ≤ 1000 by omega) (by decide), fun x n4 => ?_⟩
  have er : (List.replicate (m : Int).toNat [V.ref aN]).flatten = List.replicate m (V.ref aN) := by simp
  rw [er]
  have s4 := same_new n4 (.lst (List.replicate m (V.ref aN)))
  have nx : H x = none := s3.free n4
  have xd : d ≠ x := by
    rcases rd with r | ⟨o, r⟩
    · exact ne_of_none r nx
    · exact ne_of_none r nx
  refine ⟨_, rfl, _, rfl, x, _, _, c, rfl, rfl, upd_same, by rw [List.length_replicate]; exact ixN_at hc, ?_⟩
  have s5 : Same H (upd (upd (upd H p3 (.lst [V.ref aN])) x (.lst (List.replicate m (V.ref aN)))) x (.lst ((List.replicate m (V.ref aN)).set c (V.ref aO)))) := same_put (s3.trans s4) nx
  have rd5 : Rd (upd (upd (upd H p3 (.lst [V.ref aN])) x (.lst (List.replicate m (V.ref aN)))) x (.lst ((List.replicate m (V.ref aN)).set c (V.ref aO)))) d (.dK kvs) := by
    rcases rd with r | ⟨o, r⟩
    · exact .inl (s5 _ _ r)
    · exact .inr ⟨o, s5 _ _ r⟩
  have x5 : upd (upd (upd H p3 (.lst [V.ref aN])) x (.lst (List.replicate m (V.ref aN)))) x (.lst ((List.replicate m (V.ref aN)).set c (V.ref aO))) x = some (.lst ((List.replicate m (V.ref aN)).set c (V.ref aO))) := upd_same
  generalize upd (upd (upd H p3 (.lst [V.ref aN])) x (.lst (List.replicate m (V.ref aN)))) x (.lst ((List.replicate m (V.ref aN)).set c (V.ref aO))) = H5 at *
  have hN5 := hN1.same s5
  refine ⟨_, rfl, d, kvs, rfl, rd5, fun o => ?_⟩
  have k5 : KSame d H (upd H5 d (.frz o (.dK kvs))) := fun b o' n e => by rw [upd_ne n]; exact s5 _ _ e
  have k55 : KSame d H5 (upd H5 d (.frz o (.dK kvs))) := fun b o' n e => by rw [upd_ne n]; exact e
  refine for_items (d := d) (o := o) (kvs := kvs) (fun t σ H' => ∃ (o4 o5 : Option V) (us2 : List V) (qs : List (Int × Int)), σ = [some (.ref d), some (.int (c : Int)), some (.int (m : Int)), some (.ref x), o4, o5] ∧ KSame d H H' ∧ H' d = some (.frz o (.dK kvs)) ∧ H' x = some (.lst us2) ∧ NmsK K H' us2 qs ∧ NdR H' kvs nd ∧ FillS c m t nd qs)
    ⟨none, none, (List.replicate m (V.ref aN)).set c (V.ref aO), (List.replicate m (0, 1)).set c (1, 1), rfl, k5, upd_same, by rw [upd_ne (Ne.symm xd)]; exact x5, NmsK.set ⟨by simp, fun i u q' e1 e2 => ?_⟩ ⟨aO, rfl, hO _⟩, hN5.ks rd5 k55, ⟨by simp, by rw [List.getElem?_set, if_pos rfl, if_pos (by simpa using hc)], fun i hi => absurd hi (Nat.not_lt_zero _), fun j hj jc _ => by rw [List.getElem?_set, if_neg (Ne.symm jc), List.getElem?_replicate, if_pos hj]⟩⟩ (fun t σ H' _ h => by
      obtain ⟨_, _, _, _, _, _, h, _⟩ := h
      exact h) ?_ ?_
  · rw [List.getElem?_replicate] at e1 e2
    by_cases z : i < m
    · rw [if_pos z] at e1 e2
      cases e1
      cases e2
      exact ⟨aN, rfl, hN _⟩
    · rw [if_neg z] at e1
      cases e1
  · rintro t k v σ H6 p7 ekv ⟨o4, o5, us2, qs, rfl, k6, hd6, hx6, hn6, hN6, F⟩ n7
    have ht : t < kvs.length := (List.getElem?_eq_some_iff.mp ekv).1
    have hl6 := hN6.1
    obtain ⟨y, ey⟩ : ∃ y, nd[t]? = some y := ⟨_, List.getElem?_eq_getElem (by omega)⟩
    obtain ⟨k1, k2⟩ := hN6.2 t _ y ekv ey
    have k1' : k = .inl (y.1 : Int) := k1
    subst k1'
    obtain ⟨b', eb, hb'⟩ := k2
    have eb' : v = .ref b' := eb
    subst eb'
    have hym := List.mem_of_getElem? ey
    have hyl := R.lenN y hym
    have hyc := R.cols y hym
    have s7 := same_new n7 (.tup [kV (.inl (y.1 : Int)), .ref b'])
    have hb7 := s7 _ _ hb'
    refine ⟨p7, _, rfl, SqT.of upd_same, rfl, _, _, rfl, _, _, rfl, rfl, ?_⟩
    refine ⟨_, rfl, _, rfl, b', _, _, _, rfl, rfl, SqL.of hb7, ln_at (by omega), _, rfl, _, rfl, _, rfl, b', _, _, _, rfl, rfl, SqL.of hb7, ln_at (by omega), ?_⟩
    refine ⟨_, _, rfl, R.here y hym, fun p8 H8 s8 e8 => ?_⟩
    have s78 := s7.trans s8
    have hx8 := s78 _ _ hx6
    have l2 := hn6.1
    have dx8 := s78 _ _ hd6
    refine ⟨_, rfl, _, rfl, x, us2, _, y.1, rfl, rfl, hx8, ixN_at (by rw [l2, F.1]; exact hyc), ?_⟩
    refine ⟨_, _, us2.set y.1 (.ref p8), qs.set y.1 (low (-(y.2.getD c 0)) (y.2.getD y.1 0)), rfl, KSame.put (KSame.step k6 s78) nx, by rw [upd_ne xd]; exact dx8, upd_same, ?_, ?_, F.put R hnc ey⟩
    · have base : NmsK K H8 (us2.set y.1 (.ref p8)) (qs.set y.1 (low (-(y.2.getD c 0)) (y.2.getD y.1 0))) := (hn6.same s78).set ⟨p8, rfl, SqT.of e8⟩
      refine ⟨base.1, fun i u q' e1 e2 => ?_⟩
      obtain ⟨p9, e9, h9⟩ := base.2 i u q' e1 e2
      exact ⟨p9, e9, SqT.putL h9 hx8⟩
    · have base := hN6.same s78
      refine ⟨base.1, fun i kv y' e1 e2 => ⟨(base.2 i kv y' e1 e2).1, ?_⟩⟩
      obtain ⟨p9, e9, h9⟩ := (hN1.2 i kv y' e1 e2).2
      refine ⟨p9, e9, ?_⟩
      rw [upd_ne (fun z => by rw [z, nx] at h9; cases h9)]
      obtain ⟨p10, e10, h10⟩ := (base.2 i kv y' e1 e2).2
      rw [e9] at e10
      cases e10
      exact h10
  · rintro σ H6 ⟨o4, o5, us2, qs, rfl, k6, hd6, hx6, hn6, hN6, F⟩
    have hl6 := hN6.1
    rw [hl6] at F
    exact ⟨_, rfl, q x us2 qs o H6 k6 hd6 nx hx6 hn6 F⟩
theorem SqT.ks {K : PySem.W.Frag} {H H' : Hp} {a d : Addr} {xs : List V} {kvs : List (Key × V)} (h : SqT K H a xs) (r : Rd H d (.dK kvs)) (k : KSame d H H') : SqT K H' a xs := by
  have ne : ∀ {u : HO}, H a = some u → (∀ o, u ≠ .frz o (.dK kvs)) → u ≠ .dK kvs → a ≠ d := fun {u} e n1 n2 z => by
    rw [z] at e
    rcases r with r | ⟨o, r⟩
    · rw [r] at e
      cases e
      exact n2 rfl
    · rw [r] at e
      cases e
      exact n1 o rfl
  rcases h with (h | ⟨o, h⟩) | h
  · exact .inl (.inl (k _ _ (ne h (fun o z => nomatch z) (fun z => nomatch z)) h))
  · exact .inl (.inr ⟨o, k _ _ (ne h (fun o z => by cases z) (fun z => nomatch z)) h⟩)
  · exact .inr h
theorem NmsK.ks {K : PySem.W.Frag} {H H' : Hp} {us : List V} {qs : List (Int × Int)} {d : Addr} {kvs : List (Key × V)} (h : NmsK K H us qs) (r : Rd H d (.dK kvs)) (k : KSame d H H') : NmsK K H' us qs := ⟨h.1, fun i u q e1 e2 => by
  obtain ⟨p, e, z⟩ := h.2 i u q e1 e2
  exact ⟨p, e, SqT.ks z r k⟩⟩
theorem SqT.put {K : PySem.W.Frag} {H : Hp} {a d : Addr} {xs : List V} {kvs : List (Key × V)} {o : HO} (h : SqT K H a xs) (e : H d = some (.dK kvs)) : SqT K (upd H d o) a xs := SqT.ks h (.inl e) (fun b o' n e' => by rw [upd_ne n]; exact e')
def SpR (K : PySem.W.Frag) (H : Hp) (kvs : List (Key × V)) (ss : List (Nat × List (Int × Int))) : Prop := kvs.length = ss.length ∧ ∀ (i : Nat) (kv : Key × V) (x : Nat × List (Int × Int)), kvs[i]? = some kv → ss[i]? = some x → kv.1 = .inl (x.1 : Int) ∧ ∃ p us, kv.2 = .ref p ∧ H p = some (.lst us) ∧ NmsK K H us x.2
theorem SpR.same {H H' : Hp} {kvs : List (Key × V)} {ss : List (Nat × List (Int × Int))} (h : SpR K H kvs ss) (s : Same H H') : SpR K H' kvs ss := ⟨h.1, fun i kv x e1 e2 => by
  obtain ⟨a, p, us, b, c, d⟩ := h.2 i kv x e1 e2
  exact ⟨a, p, us, b, s _ _ c, d.same s⟩⟩
theorem SpR.ks {H H' : Hp} {kvs kv2 : List (Key × V)} {ss : List (Nat × List (Int × Int))} {d : Addr} (h : SpR K H kvs ss) (r : Rd H d (.dK kv2)) (k : KSame d H H') : SpR K H' kvs ss := ⟨h.1, fun i kv x e1 e2 => by
  obtain ⟨a, p, us, b, c, d'⟩ := h.2 i kv x e1 e2
  refine ⟨a, p, us, b, k _ _ (fun z => ?_) c, NmsK.ks d' r k⟩
  rw [z] at c
  rcases r with r | ⟨o, r⟩ <;> (rw [r] at c; cases c)⟩
theorem SpR.snoc {H : Hp} {kvs : List (Key × V)} {ss : List (Nat × List (Int × Int))} (h : SpR K H kvs ss) {c : Nat} {p : Addr} {us : List V} {qs : List (Int × Int)} (hp : H p = some (.lst us)) (hn : NmsK K H us qs) : SpR K H (kvs ++ [(.inl (c : Int), .ref p)]) (ss ++ [(c, qs)]) := by
  have hl := h.1
  refine ⟨by simp [hl], fun j kv x e1 e2 => ?_⟩
  by_cases z : j < kvs.length
  · rw [List.getElem?_append_left z] at e1
    rw [List.getElem?_append_left (by omega)] at e2
    exact h.2 j kv x e1 e2
  · rw [List.getElem?_append_right (by omega)] at e1 e2
    rw [← hl] at e2
    by_cases y : j - kvs.length = 0
    · rw [y] at e1 e2
      cases e1
      cases e2
      exact ⟨rfl, p, us, rfl, hp, hn⟩
    · rw [List.getElem?_eq_none (by simp; omega)] at e1
      cases e1
theorem SpR.keys {H : Hp} {kvs : List (Key × V)} {ss : List (Nat × List (Int × Int))} (h : SpR K H kvs ss) : kvs.map (·.1) = ss.map (fun x => (Sum.inl (x.1 : Int) : Key)) := by
  refine List.ext_getElem? fun i => ?_
  have hl := h.1
  rw [List.getElem?_map, List.getElem?_map]
  by_cases hi : i < ss.length
  · have e : ss[i]? = some ss[i] := List.getElem?_eq_getElem hi
    have e2 : kvs[i]? = some (kvs[i]'(by omega)) := List.getElem?_eq_getElem (by omega)
    rw [e, e2]
    simp only [Option.map_some]
    rw [(h.2 i _ _ e2 e).1]
  · rw [List.getElem?_eq_none (by omega), List.getElem?_eq_none (by omega)]
    rfl
def WlQ (T B m : Nat) (qs : List (Int × Int)) (w : Wl) : Prop := Whole w.1 qs w.2.1 ∧ 0 < w.2.1 ∧ w.2.1.natAbs ≤ 2 ^ (B * m) ∧ ∀ t ∈ w.1, t.natAbs ≤ 2 ^ (T + B * m)
def Lines (T B m : Nat) (qss : List (List (Int × Int))) (os : List (List Int)) : Prop := os.length = qss.length ∧ ∀ (i : Nat) (o : List Int) (qs : List (Int × Int)), os[i]? = some o → qss[i]? = some qs → ∃ b : Int, 0 < b ∧ Whole o qs b
def free (nd : List (Nat × List Int)) (j : Nat) : Bool := nd.all fun y => decide (y.1 ≠ j)
theorem free_iff {nd : List (Nat × List Int)} {j : Nat} : free nd j = true ↔ ∀ y ∈ nd, y.1 ≠ j := by
  unfold free
  rw [List.all_eq_true]
  exact ⟨fun h y hy => of_decide_eq_true (h y hy), fun h y hy => decide_eq_true (h y hy)⟩
def Newl (H : Hp) (kvs : List (Key × V)) : Prop := ∀ kv ∈ kvs, ∃ p, kv.2 = .ref p ∧ H p = none
theorem newl_snoc {H : Hp} {kvs : List (Key × V)} {k : Key} {p : Addr} (h : Newl H kvs) (n : H p = none) : Newl H (kvs ++ [(k, .ref p)]) := fun kv hk => by
  rcases List.mem_append.mp hk with z | z
  · exact h kv z
  · rw [List.mem_singleton.mp z]
    exact ⟨p, rfl, n⟩
theorem Newl.back {H H' : Hp} {kvs : List (Key × V)} (h : Newl H' kvs) (s : Same H H') : Newl H kvs := fun kv hk => by
  obtain ⟨p, e, n⟩ := h kv hk
  exact ⟨p, e, s.free n⟩
def spSpares (K : PySem.W.Frag) : Sp := fun vs H Q _ => ∃ (r : Addr) (m : Nat) (ls : List Addr) (vss : List (List V)) (qss : List (List (Int × Int))) (T B Z : Nat), vs = [.ref r, .int (m : Int)] ∧ MatV H r ls vss ∧ Numss H vss qss ∧ Shape T B m qss ∧ m ≤ 100 ∧ qss.length ≤ 100 ∧ T ≤ 20000 ∧ B * m ≤ 8000 ∧ B ≤ 8000 ∧ bb (T + B * m) (min m qss.length) ≤ Z ∧ Z ≤ 29000000 ∧
  ∀ (sd : Addr) (kvs : List (Key × V)) (ss : List (Nat × List (Int × Int))) (os lv : List (List Int)) (nd : List (Nat × List Int)) (H' : Hp), Same H H' → H sd = none → H' sd = some (.dK kvs) → SpR K H' kvs ss → Newl H kvs → Lines T B m qss os → Red os m m Z nd lv → ss.map (·.1) = (List.range m).filter (free nd) → (∀ x ∈ ss, FillS x.1 m nd.length nd x.2) → Q (.ref sd) H'
theorem sc_spare_columns : FnScope ["rows", "many", "needed", "spare", "column"] ["rows", "many"] (defScope s_spare_columns) := ⟨rfl, rfl, rfl, by decide +kernel, rfl, by decide +kernel, by decide +kernel⟩
theorem ok_spare_columns (D : Def K mg "spare_columns" s_spare_columns ["rows", "many"]) (m_range : mg "range" = none) (G_whole_row : Fn P w K mg base (CXr P w) 2 "whole_row" ["row"] (spWR K)) (G_reduced : Fn P w K mg base (CXr P w) 35 "reduced" ["lines", "many"] (spReduced K)) (G_spare_list : Fn P w K mg base (CXr P w) 34 "spare_list" ["needed", "column", "many"] (spSpare K)) : Fn P w K mg base (CXr P w) 36 "spare_columns" ["rows", "many"] (spSpares K) := by
  refine D.ok sc_spare_columns (fun vs H Q E h => ?_) (fun f cdv A outer s H vs Q E hr h => ?_)
  · obtain ⟨r, m, ls, vss, qss, T, B, Z, rfl, _⟩ := h
    rfl
  obtain ⟨r, m, ls, vss, qss, T, B, Z, rfl, M, NN, sh, hm, hn, hT, hB, hB1, hZ, hZ1, q⟩ := h
  have px := passM (X := (cxOf (CXr P w) P w K mg base ["rows", "many", "needed", "spare", "column"] "spare_columns" (defScope s_spare_columns) f cdv A outer s H E)) (CXr.mute (P := P) (w := w))
  refine ⟨_, (pss_cons (ps_set (i := 2) sc_spare_columns.nd rfl (Or.inl rfl) (pe_ix ix_tup (pe_fn G_reduced (hr.mono (by decide)) px (pac (pe_comp (tn := ["row"]) (fr := []) (caps := []) rfl ⟨rfl, by decide +kernel, rfl, by decide +kernel, by decide +kernel, rfl, trivial, trivial⟩ (pi_list (pv 0)) (fun _ _ _ _ => (pg_name (i := 0) (show (["row"] : List Str).Nodup from by decide +kernel) rfl (Or.inl rfl))) (fun _ _ _ _ => pf_nil) (fun _ _ _ _ => (pe_ix (ix_tupK (K := K) rfl) (pe_fn G_whole_row (hr.mono (by decide)) (passB (by first | assumption | exact CXr.mute) rfl) (pac (pv 0) pa_nil)) pe_int (fun _ _ => rfl)))) (pac (pv 1) pa_nil))) pe_int (fun _ _ => rfl)))
    (pss_cons (ps_set (i := 3) sc_spare_columns.nd rfl (Or.inl rfl) pe_dnewK)
    (pss_cons (ps_for PassesOwn.never rfl (pi_range1 rfl m_range (pac (pv 1) pa_nil)) (pg_name (i := 4) sc_spare_columns.nd rfl (Or.inl rfl)) (pss_one (ps_if (pt_cmp (pc_dnotin (hu_of hr) (pv 4) (pv 2))) (pss_one (ps_dput (hu_of hr) (pv 3) (pv 4) (pe_fn G_spare_list (hr.mono (by decide)) px (pac (pv 2) (pac (pv 4) (pac (pv 1) pa_nil)))) rfl)) pss_nil)))
    (pss_one (ps_ret (pv 3)))))), ?_⟩
  have l1 := M.2.1
  have l2 := NN.1
  refine ⟨_, rfl, r, rfl, ⟨_, SqL.of M.1⟩, fun D1 n1 => ?_⟩
  refine comp_listD (cap := []) (K := K) (a := r) (xs := ls.map V.ref) (fun i v H => ∃ w : Wl, v = .ref w.2.2.1 ∧ w.2.2.1 ≠ D1 ∧ H w.2.2.1 = some (.lst (w.1.map V.int)) ∧ ∀ qs, qss[i]? = some qs → WlQ T B m qs w) n1 (by rw [List.length_map]; exact Nat.lt_of_le_of_lt (show ls.length ≤ 1000 by omega) (by decide)) (fun H2 s2 => SqL.of (s2 _ _ M.1)) ?_ ?_ ?_
  · rintro i v H2 H3 ys hD ks ⟨w, e1, e2, e3, e4⟩
    exact ⟨w, e1, e2, ks _ _ e2 e3, e4⟩
  · rintro i x H2 RR ex s2 ⟨ys0, hD0⟩ kk
    rw [List.getElem?_map] at ex
    obtain ⟨l, el, rfl⟩ := Option.map_eq_some_iff.mp ex
    have hi : i < ls.length := (List.getElem?_eq_some_iff.mp el).1
    obtain ⟨qs, eq⟩ : ∃ qs, qss[i]? = some qs := ⟨_, List.getElem?_eq_getElem (by omega)⟩
    obtain ⟨vs, ev⟩ : ∃ vs, vss[i]? = some vs := ⟨_, List.getElem?_eq_getElem (by omega)⟩
    have hl := M.2.2 i l vs el ev
    have hq := NN.2 i vs qs ev eq
    obtain ⟨lq, sq⟩ := sh qs (List.mem_of_getElem? eq)
    refine ⟨_, rfl, l, qs, T, B, rfl, ⟨_, SqL.of (s2 _ _ hl), hq.same s2⟩, sq, hT, by rw [lq]; exact hB, hB1, by omega, fun p3 l3' ts b H3 s3 nl hp3 hl3 hb hbs wh hts => ?_⟩
    rw [lq] at hbs hts
    refine ⟨p3, _, _, _, rfl, rfl, SqT.of hp3, at0, kk _ _ s3 ⟨(ts, b, l3', p3), rfl, fun z => ?_, hl3, fun qs' e1 => ?_⟩⟩
    · rw [show l3' = D1 from z, hD0] at nl
      cases nl
    · rw [eq] at e1
      cases e1
      exact ⟨wh, hb, hbs, hts⟩
  intro zs H2 hz hrel s2 hD1
  rw [List.length_map] at hz
  obtain ⟨ws, lw, hw⟩ := list_pick (P := fun i v (w : Wl) => v = .ref w.2.2.1 ∧ w.2.2.1 ≠ D1 ∧ H2 w.2.2.1 = some (.lst (w.1.map V.int)) ∧ ∀ qs, qss[i]? = some qs → WlQ T B m qs w) zs hrel
  have wp : ∀ (i : Nat) (w : Wl), ws[i]? = some w → ∃ v qs, zs[i]? = some v ∧ qss[i]? = some qs ∧ v = .ref w.2.2.1 ∧ H2 w.2.2.1 = some (.lst (w.1.map V.int)) ∧ WlQ T B m qs w := fun i w e => by
    have hi : i < ws.length := (List.getElem?_eq_some_iff.mp e).1
    obtain ⟨v, ev⟩ : ∃ v, zs[i]? = some v := ⟨_, List.getElem?_eq_getElem (by omega)⟩
    obtain ⟨qs, eq⟩ : ∃ qs, qss[i]? = some qs := ⟨_, List.getElem?_eq_getElem (by omega)⟩
    obtain ⟨h1, _, h3, h4⟩ := hw i v w ev e
    exact ⟨v, qs, ev, eq, h1, h3, h4 qs eq⟩
  have hLl : Lns H2 zs (ws.map (·.1)) := ⟨by simp [lw], fun i u l e1 e2 => by
    rw [List.getElem?_map] at e2
    obtain ⟨w, ew, rfl⟩ := Option.map_eq_some_iff.mp e2
    obtain ⟨v, qs, ev, _, e, h, _⟩ := wp i w ew
    rw [e1] at ev
    cases ev
    exact ⟨_, e, h⟩⟩
  have wlen : ∀ l ∈ ws.map (·.1), l.length = m := fun l hl => by
    obtain ⟨w, hw', rfl⟩ := List.mem_map.mp hl
    obtain ⟨i, e⟩ := List.getElem?_of_mem hw'
    obtain ⟨v, qs, _, eq, _, _, wh, _⟩ := wp i w e
    rw [wh.1, (sh qs (List.mem_of_getElem? eq)).1]
  have wbd : ∀ l ∈ ws.map (·.1), Bd (T + B * m) l := fun l hl => by
    obtain ⟨w, hw', rfl⟩ := List.mem_map.mp hl
    obtain ⟨i, e⟩ := List.getElem?_of_mem hw'
    obtain ⟨v, qs, _, eq, _, _, _, _, _, h⟩ := wp i w e
    exact Bd.of h
  have hlm : (ws.map (·.1)).length = qss.length := by rw [List.length_map]; omega
  have hLin : Lines T B m qss (ws.map (·.1)) := ⟨hlm, fun i o qs e1 e2 => by
    rw [List.getElem?_map] at e1
    obtain ⟨w, ew, rfl⟩ := Option.map_eq_some_iff.mp e1
    obtain ⟨v, qs', _, eq, _, _, wh, wb, _⟩ := wp i w ew
    rw [e2] at eq
    cases eq
    exact ⟨_, wb, wh⟩⟩
  refine ⟨_, rfl, D1, zs, ws.map (·.1), m, m, T + B * m, rfl, SqL.of hD1, hLl, wlen, Nat.le_refl _, by omega, by omega, wbd, by rw [hlm]; omega, fun p d a' kvs us' nd lv H3 s3 nd0 np hp hd hS1 hN1 hL1 R => ?_⟩
  rw [hlm] at R
  have RZ := R.up hZ
  refine ⟨p, _, _, _, rfl, rfl, SqT.of hp, at0, ?_⟩
  refine fun sd nsd => ?_
  have t4 := same_new nsd (.dK [])
  have s04 := (s2.trans s3).trans t4
  have Hd : H d = none := s2.free nd0
  have Hsd : H sd = none := (s2.trans s3).free nsd
  have ds : d ≠ sd := ne_of_none hd nsd
  refine ⟨_, rfl, _, rfl, by omega, by omega, ?_⟩
  refine for_range (lo := 0) (n := m) (fun i σ H' => ∃ (o4 : Option V) (skv : List (Key × V)) (ss : List (Nat × List (Int × Int))), σ = [some (.ref r), some (.int (m : Int)), some (.ref d), some (.ref sd), o4] ∧ Same H H' ∧ Rd H' d (.dK kvs) ∧ H' sd = some (.dK skv) ∧ NdR H' kvs nd ∧ SpR K H' skv ss ∧ ss.map (·.1) = (List.range i).filter (free nd) ∧ (∀ x ∈ ss, FillS x.1 m nd.length nd x.2) ∧ Newl H skv)
    ⟨none, [], [], rfl, s04, .inl (t4 _ _ hd), upd_same, hN1.same t4, ⟨rfl, fun i kv x e => by simp at e⟩, by simp, (fun x h => nomatch h), (fun x h => nomatch h)⟩ ?_ ?_
  · rintro i σ H5 hi ⟨o4, skv, ss, rfl, s5, rd5, hsd, hN5, hS5, hk5, hF5, hw5⟩
    have nk : (kvs.map (·.1)).Nodup := by
      rw [hN5.keys]
      exact keys_nodup R.asc
    by_cases fr : free nd i = true
    · have fr' := free_iff.mp fr
      have hno : valV kvs (.inl ((0 : Int) + i)) = none := valV_no (fun z => by
        rw [hN5.keys] at z
        obtain ⟨x', hx', e⟩ := List.mem_map.mp z
        have e1 : (x'.1 : Int) = 0 + i := Sum.inl.inj e
        exact fr' x' hx' (by omega))
      refine ⟨_, rfl, _, rfl, d, none, rfl, .inl ⟨kvs, .inl ((0 : Int) + i), rd5, rfl, hno.symm⟩, _, rfl, ?_⟩
      refine ite2 (fun _ => ?_) (fun c => absurd rfl c)
      refine ⟨_, rfl, _, rfl, _, rfl, d, i, m, m, Z, kvs, nd, ws.map (·.1), lv, by rw [Int.zero_add]; rfl, rd5, hN5, RZ, Nat.le_refl _, by omega, hi, fr', fun x us qs o H6 k6 hd6 nx hx6 hn6 F => ?_⟩
      have hsd6 : H6 sd = some (.dK skv) := k6 _ _ (Ne.symm ds) hsd
      have lsk := hS5.1
      have lss : ss.length ≤ m := by
        have := congrArg List.length hk5
        rw [List.length_map] at this
        have h2 := List.length_filter_le (free nd) (List.range i)
        rw [List.length_range] at h2
        omega
      refine ⟨_, rfl, _, rfl, sd, _, rfl, DPut.k (k := .inl ((0 : Int) + i)) hsd6 (Nat.lt_of_le_of_lt (show skv.length ≤ 1000 by omega) (by decide)), ?_⟩
      have hno2 : valV skv (.inl ((0 : Int) + i)) = none := valV_no (fun z => by
        rw [hS5.keys] at z
        obtain ⟨x', hx', e⟩ := List.mem_map.mp z
        have e1 : (x'.1 : Int) = 0 + i := Sum.inl.inj e
        have : x'.1 ∈ (List.range i).filter (free nd) := by rw [← hk5]; exact List.mem_map.mpr ⟨x', hx', rfl⟩
        have := List.mem_range.mp (List.mem_filter.mp this).1
        omega)
      rw [putK_new _ hno2, Int.zero_add]
      have s6 : Same H H6 := fun b o' e => k6 _ _ (ne_of_none e Hd) (s5 _ _ e)
      have ksd : KSame sd H6 (upd H6 sd (.dK (skv ++ [(.inl (i : Int), .ref x)]))) := fun b o' n e => by rw [upd_ne n]; exact e
      refine ⟨_, _, ss ++ [(i, qs)], rfl, same_put s6 Hsd, .inr ⟨o, by rw [upd_ne ds]; exact hd6⟩, upd_same, (hN5.ks rd5 k6).ks (.inl hsd6) ksd, ((hS5.ks rd5 k6).snoc hx6 hn6).ks (.inl hsd6) ksd, ?_, fun x' hx' => ?_, newl_snoc hw5 (s5.free nx)⟩
      · rw [List.map_append, hk5, List.range_succ, List.filter_append]
        simp [fr]
      · rcases List.mem_append.mp hx' with z | z
        · exact hF5 x' z
        · rw [List.mem_singleton.mp z]
          exact F
    · have nf : ∃ y ∈ nd, y.1 = i := by
        apply Classical.byContradiction
        intro z
        exact fr (free_iff.mpr fun y hy e => z ⟨y, hy, e⟩)
      obtain ⟨y, hy, ey⟩ := nf
      obtain ⟨t, et⟩ := List.getElem?_of_mem hy
      obtain ⟨v, ev, _⟩ := hN5.at et
      have vat := valV_at nk ev
      refine ⟨_, rfl, _, rfl, d, some v, rfl, .inl ⟨kvs, .inl ((0 : Int) + i), rd5, rfl, by rw [Int.zero_add, ← ey]; exact vat.symm⟩, _, rfl, ?_⟩
      refine ite2 (fun c => nomatch c) (fun _ => ?_)
      refine ⟨_, _, ss, rfl, s5, rd5, hsd, hN5, hS5, ?_, hF5, hw5⟩
      rw [hk5, List.range_succ, List.filter_append]
      simp [fr]
  · rintro σ H5 ⟨o4, skv, ss, rfl, s5, rd5, hsd, hN5, hS5, hk5, hF5, hw5⟩
    exact ⟨_, rfl, q sd skv ss _ lv nd H5 s5 Hsd hsd hS5 hw5 hLin RZ hk5 hF5⟩
def unit (n i : Nat) : List Int := (List.replicate n 0).set i 1
def spUnit : Sp := fun vs H Q _ => ∃ i n : Nat, vs = [.int (i : Int), .int (n : Int)] ∧ i < n ∧ n ≤ 900 ∧ ∀ (p : Addr) (H' : Hp), Same H H' → H p = none → H' p = some (.lst ((unit n i).map V.int)) → Q (.ref p) H'
theorem sc_unit_line : FnScope ["at", "many", "line"] ["at", "many"] (defScope s_unit_line) := ⟨rfl, rfl, rfl, by decide +kernel, rfl, by decide +kernel, by decide +kernel⟩
theorem ok_unit_line (D : Def K mg "unit_line" s_unit_line ["at", "many"]) : Fn P w K mg base (CXr P w) 1 "unit_line" ["at", "many"] spUnit := by
  refine D.ok sc_unit_line (fun vs H Q E h => ?_) (fun f cdv A outer s H vs Q E hr h => ?_)
  · obtain ⟨i, n, rfl, _⟩ := h
    rfl
  obtain ⟨i, n, rfl, hi, hn, q⟩ := h
  refine ⟨_, (pss_cons (ps_set (i := 2) sc_unit_line.nd rfl (Or.inl rfl) (pe_op op_rep (pe_lst (pac pe_int pa_nil)) (pv 1)))
    (pss_cons (ps_asg pe_int (pg_sub (pv 2) (pv 0) set_list))
    (pss_one (ps_ret (pv 2))))), ?_⟩
  refine ⟨(by show 1 ≤ sizeLine; decide), fun p3 n3 => ?_⟩
  have s3 := same_new n3 (.lst [V.int 0])
  refine ⟨_, rfl, p3, _, _, rfl, rfl, upd_same, by omega, by omega, Nat.le_trans (show 1 * (n : Int).toNat ≤ 1000 by omega) (by decide), fun x n4 => ?_⟩
  have er : (List.replicate (n : Int).toNat [V.int 0]).flatten = List.replicate n (V.int 0) := by simp
  rw [er]
  have s4 := same_new n4 (.lst (List.replicate n (V.int 0)))
  have nx : H x = none := s3.free n4
  refine ⟨_, rfl, _, rfl, x, _, _, i, rfl, rfl, upd_same, by rw [List.length_replicate]; exact ixN_at hi, ?_⟩
  refine ⟨_, rfl, q x _ (same_put (s3.trans s4) nx) nx ?_⟩
  rw [upd_same]
  unfold unit
  rw [List.map_set]
  simp
def LinesE (m n : Nat) (ws : List Wl) (es : List (List Int)) : Prop := es.length = n ∧ ws.length = n ∧ ∀ (i : Nat) (w : Wl), ws[i]? = some w → es[i]? = some (w.1 ++ unit n i)
def shareQ (m : Nat) (ws : List Wl) (x : Nat × List Int) : List (Int × Int) := List.zipWith (fun (s : Int) (w : Wl) => low (s * w.2.1) (x.2.getD x.1 0)) (x.2.drop m) ws
def spNeeded (K : PySem.W.Frag) : Sp := fun vs H Q _ => ∃ (r : Addr) (m : Nat) (ls : List Addr) (vss : List (List V)) (qss : List (List (Int × Int))) (T B Z : Nat), vs = [.ref r, .int (m : Int)] ∧ MatV H r ls vss ∧ Numss H vss qss ∧ Shape T B m qss ∧ m ≤ 100 ∧ qss.length ≤ 100 ∧ T ≤ 20000 ∧ B * m ≤ 8000 ∧ B ≤ 8000 ∧ bb (T + B * m) (min m qss.length) ≤ Z ∧ Z ≤ 29000000 ∧
  ∀ (dd : Addr) (kvs : List (Key × V)) (ss : List (Nat × List (Int × Int))) (ws : List Wl) (es lv : List (List Int)) (nd : List (Nat × List Int)) (H' : Hp), Same H H' → H dd = none → H' dd = some (.dK kvs) → SpR K H' kvs ss → Newl H kvs → LinesE m qss.length ws es → (∀ (i : Nat) (w : Wl) (qs : List (Int × Int)), ws[i]? = some w → qss[i]? = some qs → WlQ T B m qs w) → Red es (m + qss.length) m Z nd lv → ss = nd.map (fun x => (x.1, shareQ m ws x)) → Q (.ref dd) H'
theorem nodup_le : ∀ {l : List Nat} {m : Nat}, l.Nodup → (∀ c ∈ l, c < m) → l.length ≤ m := fun {l m} h1 h2 => by
  have := List.Nodup.length_le_of_subset h1 (l₂ := List.range m) (fun c hc => List.mem_range.mpr (h2 c hc))
  simpa using this
theorem cutV_drop {l : List Int} {m : Nat} (h : m ≤ l.length) : cutV (l.map V.int) (some (m : Int)) none = (l.drop m).map V.int := by
  rw [cutV_from (by rw [List.length_map]; exact h), List.map_drop]
theorem sc_needed_columns : FnScope ["rows", "many", "wholes", "lines", "needed", "column", "line", "shares"] ["rows", "many"] (defScope s_needed_columns) := ⟨rfl, rfl, rfl, by decide +kernel, rfl, by decide +kernel, by decide +kernel⟩
theorem ok_needed_columns (D : Def K mg "needed_columns" s_needed_columns ["rows", "many"]) (m_len : mg "len" = none) (m_zip : mg "zip" = none) (m_enumerate : mg "enumerate" = none) (G_whole_row : Fn P w K mg base (CXr P w) 2 "whole_row" ["row"] (spWR K)) (G_unit_line : Fn P w K mg base (CXr P w) 1 "unit_line" ["at", "many"] spUnit) (G_reduced : Fn P w K mg base (CXr P w) 35 "reduced" ["lines", "many"] (spReduced K)) (G_lowest_terms : Fn P w K mg base (CXr P w) 33 "lowest_terms" ["top", "bottom"] spLowestU) : Fn P w K mg base (CXr P w) 36 "needed_columns" ["rows", "many"] (spNeeded K) := by
  refine D.ok sc_needed_columns (fun vs H Q E h => ?_) (fun f cdv A outer s H vs Q E hr h => ?_)
  · obtain ⟨r, m, ls, vss, qss, T, B, Z, rfl, _⟩ := h
    rfl
  obtain ⟨r, m, ls, vss, qss, T, B, Z, rfl, M, NN, sh, hm, hn, hT, hB, hB1, hZ, hZ1, q⟩ := h
  have px := passM (X := (cxOf (CXr P w) P w K mg base ["rows", "many", "wholes", "lines", "needed", "column", "line", "shares"] "needed_columns" (defScope s_needed_columns) f cdv A outer s H E)) (CXr.mute (P := P) (w := w))
  refine ⟨_, (pss_cons (ps_set (i := 2) sc_needed_columns.nd rfl (Or.inr rfl) (pe_comp (tn := ["row"]) (fr := []) (caps := []) rfl ⟨rfl, by decide +kernel, rfl, by decide +kernel, by decide +kernel, rfl, trivial, trivial⟩ (pi_list (pv 0)) (fun _ _ _ _ => (pg_name (i := 0) (show (["row"] : List Str).Nodup from by decide +kernel) rfl (Or.inl rfl))) (fun _ _ _ _ => pf_nil) (fun _ _ _ _ => (pe_fn G_whole_row (hr.mono (by decide)) (passB (by first | assumption | exact CXr.mute) rfl) (pac (pv 0) pa_nil)))))
    (pss_cons (ps_setC (i := 3) sc_needed_columns.nd rfl (Or.inl rfl) (tn := ["at", "whole"]) (fr := ["wholes"]) (caps := [2]) rfl ⟨rfl, by decide +kernel, rfl, by decide +kernel, by decide +kernel, rfl, ⟨(by first | exact Or.inl rfl | exact Or.inr rfl), trivial⟩, ⟨(by first | exact Or.inl rfl | exact Or.inr rfl), trivial⟩⟩ (pi_enum rfl m_enumerate (pac (pv 2) pa_nil)) (fun _ _ _ _ => (pg_tupK (K := K) (n := 2) rfl rfl (pgs_cons (pg_name (i := 0) (show (["at", "whole", "wholes"] : List Str).Nodup from by decide +kernel) rfl (Or.inl rfl)) (pgs_cons (pg_name (i := 1) (show (["at", "whole", "wholes"] : List Str).Nodup from by decide +kernel) rfl (Or.inl rfl)) pgs_nil)))) (fun _ _ _ _ => pf_nil) (fun _ _ _ _ => (pe_op op_cat (pe_ix (ix_tupK (K := K) rfl) (pv 1) pe_int (fun _ _ => rfl)) (pe_fn G_unit_line (hr.mono (by decide)) (passB (by first | assumption | exact CXr.mute) rfl) (pac (pv 0) (pac (pe_callB (call_len_seqK (K := K) rfl) rfl m_len b_len (pac (pv 2) pa_nil)) pa_nil))))))
    (pss_cons (ps_set (i := 4) sc_needed_columns.nd rfl (Or.inl rfl) pe_dnewK)
    (pss_cons (ps_for PassesOwn.never rfl (pi_itemsR (pe_ix ix_tup (pe_fn G_reduced (hr.mono (by decide)) px (pac (pv 3) (pac (pv 1) pa_nil))) pe_int (fun _ _ => rfl))) (pg_tup rfl (pgs_cons (pg_name (i := 5) sc_needed_columns.nd rfl (Or.inr rfl)) (pgs_cons (pg_name (i := 6) sc_needed_columns.nd rfl (Or.inr rfl)) pgs_nil))) (pss_cons (ps_set (i := 7) sc_needed_columns.nd rfl (Or.inl rfl) (pe_slice sl_list (pv 6) (po_some (pv 1)) po_none))
      (pss_one (ps_dput (hu_of hr) (pv 4) (pv 5) (pe_comp (tn := ["share", "whole"]) (fr := ["line", "column"]) (caps := [6, 5]) rfl ⟨rfl, by decide +kernel, rfl, by decide +kernel, by decide +kernel, rfl, ⟨(by first | exact Or.inl rfl | exact Or.inr rfl), ⟨(by first | exact Or.inl rfl | exact Or.inr rfl), trivial⟩⟩, ⟨(by first | exact Or.inl rfl | exact Or.inr rfl), ⟨(by first | exact Or.inl rfl | exact Or.inr rfl), trivial⟩⟩⟩ (pi_zip rfl m_zip (pac (pv 7) (pac (pv 2) pa_nil))) (fun _ _ _ _ => (pg_tupK (K := K) (n := 2) rfl rfl (pgs_cons (pg_name (i := 0) (show (["share", "whole", "line", "column"] : List Str).Nodup from by decide +kernel) rfl (Or.inl rfl)) (pgs_cons (pg_name (i := 1) (show (["share", "whole", "line", "column"] : List Str).Nodup from by decide +kernel) rfl (Or.inl rfl)) pgs_nil)))) (fun _ _ _ _ => pf_nil) (fun _ _ _ _ => (pe_fn G_lowest_terms (hr.mono (by decide)) (passB (by first | assumption | exact CXr.mute) rfl) (pac (pe_op op_mulZ (pv 0) (pe_ix (ix_tupK (K := K) rfl) (pv 1) pe_int (fun _ _ => rfl))) (pac (pe_ix (ix_listK (K := K) rfl) (pv 2) (pv 3) (fun _ _ => rfl)) pa_nil))))) rfl))))
    (pss_one (ps_ret (pv 4))))))), ?_⟩
  have l1 := M.2.1
  have l2 := NN.1
  refine ⟨_, rfl, r, rfl, ⟨_, SqL.of M.1⟩, fun D1 n1 => ?_⟩
  refine comp_listD (cap := []) (K := K) (a := r) (xs := ls.map V.ref) (fun i v H => ∃ w : Wl, v = .ref w.2.2.2 ∧ w.2.2.1 ≠ D1 ∧ H w.2.2.2 = some (.tup [.ref w.2.2.1, .int w.2.1]) ∧ H w.2.2.1 = some (.lst (w.1.map V.int)) ∧ ∀ qs, qss[i]? = some qs → WlQ T B m qs w) n1 (by rw [List.length_map]; exact Nat.lt_of_le_of_lt (show ls.length ≤ 1000 by omega) (by decide)) (fun H2 s2 => SqL.of (s2 _ _ M.1)) ?_ ?_ ?_
  · rintro i v H2 H3 ys hD ks ⟨w, e1, e2, e3, e4, e5⟩
    exact ⟨w, e1, e2, ks _ _ (fun z => by rw [z, hD] at e3; cases e3) e3, ks _ _ e2 e4, e5⟩
  · rintro i x H2 RR ex s2 ⟨ys0, hD0⟩ kk
    rw [List.getElem?_map] at ex
    obtain ⟨l, el, rfl⟩ := Option.map_eq_some_iff.mp ex
    have hi : i < ls.length := (List.getElem?_eq_some_iff.mp el).1
    obtain ⟨qs, eq⟩ : ∃ qs, qss[i]? = some qs := ⟨_, List.getElem?_eq_getElem (by omega)⟩
    obtain ⟨vs, ev⟩ : ∃ vs, vss[i]? = some vs := ⟨_, List.getElem?_eq_getElem (by omega)⟩
    have hl := M.2.2 i l vs el ev
    have hq := NN.2 i vs qs ev eq
    obtain ⟨lq, sq⟩ := sh qs (List.mem_of_getElem? eq)
    refine ⟨_, rfl, l, qs, T, B, rfl, ⟨_, SqL.of (s2 _ _ hl), hq.same s2⟩, sq, hT, by rw [lq]; exact hB, hB1, by omega, fun p3 l3' ts b H3 s3 nl hp3 hl3 hb hbs wh hts => ?_⟩
    rw [lq] at hbs hts
    refine kk _ _ s3 ⟨(ts, b, l3', p3), rfl, fun z => ?_, hp3, hl3, fun qs' e1 => ?_⟩
    · rw [show l3' = D1 from z, hD0] at nl
      cases nl
    · rw [eq] at e1
      cases e1
      exact ⟨wh, hb, hbs, hts⟩
  intro zs H2 hz hrel s2 hD1
  rw [List.length_map] at hz
  obtain ⟨ws, lw, hw⟩ := list_pick (P := fun i v (w : Wl) => v = .ref w.2.2.2 ∧ w.2.2.1 ≠ D1 ∧ H2 w.2.2.2 = some (.tup [.ref w.2.2.1, .int w.2.1]) ∧ H2 w.2.2.1 = some (.lst (w.1.map V.int)) ∧ ∀ qs, qss[i]? = some qs → WlQ T B m qs w) zs hrel
  have lwn : ws.length = qss.length := by omega
  have wp : ∀ (i : Nat) (w : Wl), ws[i]? = some w → ∃ qs, zs[i]? = some (.ref w.2.2.2) ∧ qss[i]? = some qs ∧ H2 w.2.2.2 = some (.tup [.ref w.2.2.1, .int w.2.1]) ∧ H2 w.2.2.1 = some (.lst (w.1.map V.int)) ∧ WlQ T B m qs w ∧ w.1.length = m := fun i w e => by
    have hi : i < ws.length := (List.getElem?_eq_some_iff.mp e).1
    obtain ⟨v, ev⟩ : ∃ v, zs[i]? = some v := ⟨_, List.getElem?_eq_getElem (by omega)⟩
    obtain ⟨qs, eq⟩ : ∃ qs, qss[i]? = some qs := ⟨_, List.getElem?_eq_getElem (by omega)⟩
    obtain ⟨h1, _, h3, h4, h5⟩ := hw i v w ev e
    have h6 := h5 qs eq
    exact ⟨qs, by rw [ev, h1], eq, h3, h4, h6, by rw [h6.1.1, (sh qs (List.mem_of_getElem? eq)).1]⟩
  -- the lines with their units
  refine ⟨_, rfl, D1, rfl, ⟨_, SqL.of hD1⟩, fun D2 n2 => ?_⟩
  refine comp_enumD (cap := [some (.ref D1)]) (K := K) (a := D1) (xs := zs) (fun k v H => ∃ e : List Int, ∃ p : Addr, v = .ref p ∧ p ≠ D2 ∧ H p = some (.lst (e.map V.int)) ∧ ∀ w, ws[k]? = some w → e = w.1 ++ unit qss.length k) n2 (Nat.lt_of_le_of_lt (show zs.length ≤ 1000 by omega) (by decide)) (fun H3 s3 => SqL.of (s3 _ _ hD1)) ?_ ?_ ?_
  · rintro k v H3 H4 ys hD ks ⟨e, p, e1, e2, e3, e4⟩
    exact ⟨e, p, e1, e2, ks _ _ e2 e3, e4⟩
  · rintro k x H3 RR ex s3 ⟨ys0, hy0⟩ kk
    have hk : k < zs.length := (List.getElem?_eq_some_iff.mp ex).1
    obtain ⟨w, ew⟩ : ∃ w, ws[k]? = some w := ⟨_, List.getElem?_eq_getElem (by omega)⟩
    obtain ⟨qs, ez, eq, h3, h4, h5, h6⟩ := wp k w ew
    rw [ex] at ez
    cases ez
    refine ⟨_, rfl, w.2.2.2, _, _, _, rfl, rfl, SqT.of (s3 _ _ h3), at0, _, rfl, _, rfl, D1, _, rfl, .inl (SqL.of (s3 _ _ hD1)), k, qss.length, by rw [show zs.length = qss.length by omega]; rfl, by omega, by omega, fun pu Hu su nu hu => ?_⟩
    refine ⟨w.2.2.1, pu, _, _, rfl, rfl, su _ _ (s3 _ _ h4), hu, Nat.le_trans (show _ ≤ 1000 by simp [unit]; omega) (by decide), fun pn nn => ?_⟩
    refine kk _ _ (su.trans (same_new nn _)) ⟨w.1 ++ unit qss.length k, pn, rfl, fun z => ?_, by rw [upd_same, List.map_append], fun w' ew' => by rw [ew] at ew'; cases ew'; rfl⟩
    have := su _ _ hy0
    rw [z, this] at nn
    cases nn
  intro ys H3 hy hrel3 s3 hD2
  obtain ⟨es, le, hes⟩ := list_pick (P := fun k v (e : List Int) => ∃ p : Addr, v = .ref p ∧ p ≠ D2 ∧ H3 p = some (.lst (e.map V.int)) ∧ ∀ w, ws[k]? = some w → e = w.1 ++ unit qss.length k) ys hrel3
  have hE : LinesE m qss.length ws es := ⟨by omega, lwn, fun i w e => by
    have hi : i < ws.length := (List.getElem?_eq_some_iff.mp e).1
    have e1 : ys[i]? = some (ys[i]'(by omega)) := List.getElem?_eq_getElem (by omega)
    have e2 : es[i]? = some (es[i]'(by omega)) := List.getElem?_eq_getElem (by omega)
    obtain ⟨p, _, _, _, h⟩ := hes i _ _ e1 e2
    rw [e2, h w e]⟩
  have hLl : Lns H3 ys es := ⟨le.symm, fun i u l e1 e2 => by
    obtain ⟨p, h1, _, h3, _⟩ := hes i u l e1 e2
    exact ⟨p, h1, h3⟩⟩
  have elen : ∀ l ∈ es, l.length = m + qss.length ∧ Bd (T + B * m) l := fun l hl => by
    obtain ⟨i, e⟩ := List.getElem?_of_mem hl
    have hi : i < es.length := (List.getElem?_eq_some_iff.mp e).1
    obtain ⟨w, ew⟩ : ∃ w, ws[i]? = some w := ⟨_, List.getElem?_eq_getElem (by omega)⟩
    have e2 := hE.2.2 i w ew
    rw [e] at e2
    cases e2
    obtain ⟨qs, _, _, _, _, h5, h6⟩ := wp i w ew
    refine ⟨by rw [List.length_append, h6]; simp [unit], Bd.of fun t ht => ?_⟩
    rcases List.mem_append.mp ht with z | z
    · exact h5.2.2.2 t z
    · unfold unit at z
      rcases List.mem_or_eq_of_mem_set z with y | y
      · rw [(List.mem_replicate.mp y).2]
        exact Nat.zero_le _
      · rw [y]
        exact Nat.one_le_two_pow
  refine fun dd ndd => ?_
  have t4 := same_new ndd (.dK [])
  refine ⟨_, rfl, _, rfl, D2, ys, es, m + qss.length, m, T + B * m, rfl, SqL.of (t4 _ _ hD2), hLl.same t4, fun l hl => (elen l hl).1, by omega, by omega, by omega, fun l hl => (elen l hl).2, by rw [hE.1]; omega, fun p d a' kvs us' nd lv H5 s5 nd0 np hp hd hS1 hN1 hL1 R => ?_⟩
  rw [hE.1] at R
  have RZ := R.up hZ
  have s25 := (s3.trans t4).trans s5
  have s05 := s2.trans s25
  have Hd : H d = none := ((s2.trans s3).trans t4).free nd0
  have Hdd : H dd = none := (s2.trans s3).free ndd
  have hdd5 : H5 dd = some (.dK []) := s5 _ _ upd_same
  have ds : d ≠ dd := fun z => by rw [z, upd_same] at nd0; cases nd0
  refine ⟨p, _, _, _, rfl, rfl, SqT.of hp, at0, d, kvs, rfl, .inl hd, fun o => ?_⟩
  refine for_items (d := d) (o := o) (kvs := kvs) (fun t σ H' => ∃ (o5 o6 o7 : Option V) (skv : List (Key × V)), σ = [some (.ref r), some (.int (m : Int)), some (.ref D1), some (.ref D2), some (.ref dd), o5, o6, o7] ∧ Same H H' ∧ H' d = some (.frz o (.dK kvs)) ∧ H' dd = some (.dK skv) ∧ (∀ b o', b ≠ d → b ≠ dd → H5 b = some o' → H' b = some o') ∧ SpR K H' skv ((nd.take t).map fun x => (x.1, shareQ m ws x)) ∧ Newl H skv)
    ⟨none, none, none, [], rfl, same_put s05 Hd, upd_same, by rw [upd_ne (Ne.symm ds)]; exact hdd5, fun b o' n1 n2 e => by rw [upd_ne n1]; exact e, ⟨by simp, fun i kv x e => by simp at e⟩, (fun x h => nomatch h)⟩ (fun t σ H' _ h => by
      obtain ⟨_, _, _, _, _, _, h, _⟩ := h
      exact h) ?_ ?_
  · rintro t k v σ H6 p7 ekv ⟨o5, o6, o7, skv, rfl, s6, hd6, hdd6, k6, hS6, hw6⟩ n7
    have ht : t < kvs.length := (List.getElem?_eq_some_iff.mp ekv).1
    have hl6 := hN1.1
    obtain ⟨y, ey⟩ : ∃ y, nd[t]? = some y := ⟨_, List.getElem?_eq_getElem (by omega)⟩
    obtain ⟨k1, k2⟩ := hN1.2 t _ y ekv ey
    have k1' : k = .inl (y.1 : Int) := k1
    subst k1'
    obtain ⟨b', eb, hb'⟩ := k2
    have eb' : v = .ref b' := eb
    subst eb'
    have k6L : ∀ {b : Addr} {xs : List V}, H5 b = some (.lst xs) → H6 b = some (.lst xs) := fun {b xs} e => k6 _ _ (fun z => by rw [z, hd] at e; cases e) (fun z => by rw [z, hdd5] at e; cases e) e
    have k6T : ∀ {b : Addr} {xs : List V}, H5 b = some (.tup xs) → H6 b = some (.tup xs) := fun {b xs} e => k6 _ _ (fun z => by rw [z, hd] at e; cases e) (fun z => by rw [z, hdd5] at e; cases e) e
    have hym := List.mem_of_getElem? ey
    have hyl := R.lenN y hym
    have hyc := R.cols y hym
    have s7 := same_new n7 (.tup [kV (.inl (y.1 : Int)), .ref b'])
    have hb7 := s7 _ _ (k6L hb')
    refine ⟨p7, _, rfl, SqT.of upd_same, rfl, _, _, rfl, _, _, rfl, rfl, ?_⟩
    refine ⟨_, rfl, _, rfl, _, rfl, b', _, rfl, SqL.of hb7, fun ps nps => ?_⟩
    rw [cutV_drop (by omega)]
    have t8 := same_new nps (.lst ((y.2.drop m).map V.int))
    have s78 := s7.trans t8
    have hD16 := s78 _ _ (k6L (s25 _ _ hD1))
    refine ⟨_, rfl, _, rfl, ps, D1, rfl, ⟨_, SqL.of upd_same⟩, ⟨_, SqL.of hD16⟩, fun D9 n9 => ?_⟩
    have ldr : (y.2.drop m).length = qss.length := by rw [List.length_drop]; omega
    refine comp_zip (cap := [some (.ref b'), some (kV (.inl (y.1 : Int)))]) (K := K) (xs := (y.2.drop m).map V.int) (ys := zs) (fun k v H => ∃ s w, (y.2.drop m)[k]? = some s ∧ ws[k]? = some w ∧ Nm H v (low (s * w.2.1) (y.2.getD y.1 0))) n9 (Nat.lt_of_le_of_lt (show ((y.2.drop m).map V.int).length ≤ 1000 by rw [List.length_map]; omega) (by decide)) (by rw [List.length_map]; omega) (fun H8 s8 => SqL.of (s8 _ _ upd_same)) (fun H8 s8 => SqL.of (s8 _ _ hD16)) ?_ ?_ ?_
    · rintro k v H8 H9 ys9 hD ks ⟨s, w, e1, e2, e3⟩
      exact ⟨s, w, e1, e2, e3.kept hD ks⟩
    · intro k x z H8 RR ex ez s8 kk
      rw [List.getElem?_map] at ex
      obtain ⟨sv, es', rfl⟩ := Option.map_eq_some_iff.mp ex
      have hk : k < zs.length := (List.getElem?_eq_some_iff.mp ez).1
      obtain ⟨w, ew⟩ : ∃ w, ws[k]? = some w := ⟨_, List.getElem?_eq_getElem (by omega)⟩
      obtain ⟨qs, ez', eq, h3, h4, h5, h6⟩ := wp k w ew
      rw [ez] at ez'
      cases ez'
      have hw8 := s8 _ _ (s78 _ _ (k6T (s25 _ _ h3)))
      have hb8 := s8 _ _ (t8 _ _ hb7)
      have bs : sv.natAbs ≤ 2 ^ Z := (RZ.bdN y hym).mem (List.mem_of_mem_drop (List.mem_of_getElem? es'))
      refine ⟨_, rfl, _, rfl, w.2.2.2, _, _, _, rfl, rfl, SqT.of hw8, at1, _, _, rfl, rfl, pw_cmulS bs h5.2.2.1 (by omega), _, rfl, _, rfl, b', _, _, _, rfl, rfl, SqL.of hb8, ln_at (by omega), ?_⟩
      exact ⟨_, _, rfl, R.here y hym, fun p8 H9 s9 e9 => kk _ _ s9 ⟨sv, w, es', ew, p8, rfl, e9⟩⟩
    intro us9 H9 h9 hrel9 s9 hD9
    rw [List.length_map] at h9
    have s79 := s78.trans s9
    have hdd9 := s79 _ _ hdd6
    have lsk := hS6.1
    have lnd : nd.length ≤ m := by
      have a := R.cnt
      have := List.nodup_iff_pairwise_ne.mpr (R.asc.imp fun {a b} h => Nat.ne_of_lt h)
      have z := nodup_le this (fun c hc => by
        obtain ⟨x, hx, rfl⟩ := List.mem_map.mp hc
        exact R.cols x hx)
      rw [List.length_map] at z
      exact z
    have lsm : skv.length ≤ 100 := by
      rw [lsk, List.length_map, List.length_take]
      omega
    refine ⟨_, rfl, _, rfl, dd, _, rfl, DPut.k (k := .inl (y.1 : Int)) hdd9 (Nat.lt_of_le_of_lt (show skv.length ≤ 1000 by omega) (by decide)), ?_⟩
    have hno : valV skv (.inl (y.1 : Int)) = none := valV_no (fun z => by
      rw [hS6.keys] at z
      obtain ⟨x', hx', e⟩ := List.mem_map.mp z
      obtain ⟨x, hx, rfl⟩ := List.mem_map.mp hx'
      have e1 : (x.1 : Int) = y.1 := Sum.inl.inj e
      obtain ⟨i, hi⟩ := List.getElem?_of_mem hx
      rw [List.getElem?_take] at hi
      by_cases hit : i < t
      · rw [if_pos hit] at hi
        have a := List.pairwise_iff_getElem.mp R.asc i t (by rw [List.length_map]; exact (List.getElem?_eq_some_iff.mp hi).1) (by rw [List.length_map]; exact (List.getElem?_eq_some_iff.mp ey).1) hit
        simp only [List.getElem_map] at a
        have e1' := (List.getElem?_eq_some_iff.mp hi).2
        have e2' := (List.getElem?_eq_some_iff.mp ey).2
        rw [e1', e2'] at a
        omega
      · rw [if_neg hit] at hi
        cases hi)
    rw [putK_new _ hno]
    have ksd : KSame dd H9 (upd H9 dd (.dK (skv ++ [(.inl (y.1 : Int), .ref D9)]))) := fun b o' n e => by rw [upd_ne n]; exact e
    have hq9 : NmsK K H9 us9 (shareQ m ws y) := ⟨by unfold shareQ; rw [List.length_zipWith]; omega, fun i u q' e1 e2 => by
      obtain ⟨sv, w, a1, a2, p, a3, a4⟩ := hrel9 i u e1
      unfold shareQ at e2
      rw [List.getElem?_zipWith, a1, a2] at e2
      cases e2
      exact ⟨p, a3, SqT.of a4⟩⟩
    refine ⟨_, _, _, _, rfl, same_put (s6.trans s79) Hdd, by rw [upd_ne ds]; exact s79 _ _ hd6, upd_same, fun b o' n1 n2 e => by rw [upd_ne n2]; exact s79 _ _ (k6 _ _ n1 n2 e), ?_, newl_snoc hw6 ((s6.trans s78).free n9)⟩
    rw [List.take_succ, ey]
    rw [List.map_append]
    exact ((hS6.same s79).snoc hD9 hq9).ks (.inl hdd9) ksd
  · rintro σ H6 ⟨o5, o6, o7, skv, rfl, s6, hd6, hdd6, k6, hS6, hw6⟩
    have hl6 := hN1.1
    rw [hl6, List.take_of_length_le (Nat.le_refl _)] at hS6
    exact ⟨_, rfl, q dd skv _ ws es lv nd H6 s6 Hdd hdd6 hS6 hw6 hE (fun i w qs e1 e2 => by
      obtain ⟨qs', _, eq, _, _, h5, _⟩ := wp i w e1
      rw [e2] at eq
      cases eq
      exact h5) RZ rfl⟩
structure Split (K : PySem.W.Frag) (H : Hp) (p : Addr) (T B m Z : Nat) (qss : List (List (Int × Int))) (sd nd' : Addr) (skv nkv : List (Key × V)) (ss nn : List (Nat × List (Int × Int))) (os lv es lv2 : List (List Int)) (nd nd2 : List (Nat × List Int)) (ws : List Wl) : Prop where
  top : H p = some (.tup [.ref sd, .ref nd'])
  dS : H sd = some (.dK skv)
  dN : H nd' = some (.dK nkv)
  rS : SpR K H skv ss
  rN : SpR K H nkv nn
  lin : Lines T B m qss os
  red : Red os m m Z nd lv
  cols : ss.map (·.1) = (List.range m).filter (free nd)
  fill : ∀ x ∈ ss, FillS x.1 m nd.length nd x.2
  linE : LinesE m qss.length ws es
  wl : ∀ (i : Nat) (w : Wl) (qs : List (Int × Int)), ws[i]? = some w → qss[i]? = some qs → WlQ T B m qs w
  redE : Red es (m + qss.length) m Z nd2 lv2
  shares : nn = nd2.map (fun x => (x.1, shareQ m ws x))
def spSplit (K : PySem.W.Frag) : Sp := fun vs H Q _ => ∃ (r : Addr) (m : Nat) (ls : List Addr) (vss : List (List V)) (qss : List (List (Int × Int))) (T B Z : Nat), vs = [.ref r, .int (m : Int)] ∧ MatV H r ls vss ∧ Numss H vss qss ∧ Shape T B m qss ∧ m ≤ 100 ∧ qss.length ≤ 100 ∧ T ≤ 20000 ∧ B * m ≤ 8000 ∧ B ≤ 8000 ∧ bb (T + B * m) (min m qss.length) ≤ Z ∧ Z ≤ 29000000 ∧
  ∀ (p sd nd' : Addr) (skv nkv : List (Key × V)) (ss nn : List (Nat × List (Int × Int))) (os lv es lv2 : List (List Int)) (nd nd2 : List (Nat × List Int)) (ws : List Wl) (H' : Hp), Same H H' → H p = none → H sd = none → H nd' = none → sd ≠ nd' → Newl H skv → Newl H nkv → Split K H' p T B m Z qss sd nd' skv nkv ss nn os lv es lv2 nd nd2 ws → Q (.ref p) H'
theorem sc_split_rows : FnScope ["rows", "many"] ["rows", "many"] (defScope s_split_rows) := ⟨rfl, rfl, rfl, by decide +kernel, rfl, by decide +kernel, by decide +kernel⟩
theorem ok_split_rows (D : Def K mg "split_rows" s_split_rows ["rows", "many"]) (G_spare_columns : Fn P w K mg base (CXr P w) 36 "spare_columns" ["rows", "many"] (spSpares K)) (G_needed_columns : Fn P w K mg base (CXr P w) 36 "needed_columns" ["rows", "many"] (spNeeded K)) : Fn P w K mg base (CXr P w) 37 "split_rows" ["rows", "many"] (spSplit K) := by
  refine D.ok sc_split_rows (fun vs H Q E h => ?_) (fun f cdv A outer s H vs Q E hr h => ?_)
  · obtain ⟨r, m, ls, vss, qss, T, B, Z, rfl, _⟩ := h
    rfl
  obtain ⟨r, m, ls, vss, qss, T, B, Z, rfl, M, NN, sh, hm, hn, hT, hB, hB1, hZ, hZ1, q⟩ := h
  have px := passM (X := (cxOf (CXr P w) P w K mg base ["rows", "many"] "split_rows" (defScope s_split_rows) f cdv A outer s H E)) (CXr.mute (P := P) (w := w))
  refine ⟨_, (pss_one (ps_ret (pe_tup (pac (pe_fn G_spare_columns (hr.mono (by decide)) px (pac (pv 0) (pac (pv 1) pa_nil))) (pac (pe_fn G_needed_columns (hr.mono (by decide)) px (pac (pv 0) (pac (pv 1) pa_nil))) pa_nil))))), ?_⟩
  refine ⟨_, rfl, _, rfl, r, m, ls, vss, qss, T, B, Z, rfl, M, NN, sh, hm, hn, hT, hB, hB1, hZ, hZ1, fun sd skv ss os lv nd H1 s1 n1 d1 r1 w1 lin red cols fill => ?_⟩
  refine ⟨_, rfl, _, rfl, r, m, ls, vss, qss, T, B, Z, rfl, M.same s1, NN.same s1, sh, hm, hn, hT, hB, hB1, hZ, hZ1, fun dd nkv nn ws es lv2 nd2 H2 s2 n2 d2 r2 w2 linE wl redE shares => ?_⟩
  refine ⟨(by show 2 ≤ sizeLine; decide), fun p np => ?_⟩
  have s3 := same_new np (.tup [.ref sd, .ref dd])
  have s23 := s2.trans s3
  exact q p sd dd skv nkv ss nn os lv es lv2 nd nd2 ws _ (s1.trans s23) ((s1.trans s2).free np) n1 (s1.free n2) (ne_of_none d1 n2) w1 (w2.back s1) ⟨upd_same, s23 _ _ d1, s3 _ _ d2, r1.same s23, r2.same s3, lin, red, cols, fill, linE, wl, redE, shares⟩
def fsum (l : List Nat) (f : Nat → Rat) : Rat := (l.map f).sum
theorem fsum_nil (f : Nat → Rat) : fsum [] f = 0 := rfl
theorem fsum_cons (a : Nat) (l : List Nat) (f : Nat → Rat) : fsum (a :: l) f = f a + fsum l f := by simp [fsum]
theorem fsum_filter (p : Nat → Bool) (f : Nat → Rat) : ∀ l : List Nat, fsum l f = fsum (l.filter p) f + fsum (l.filter fun i => !p i) f
  | [] => by simp [fsum]; grind
  | a :: l => by
    have ih := fsum_filter p f l
    cases h : p a
    · rw [List.filter_cons_of_neg (by simp [h]), List.filter_cons_of_pos (by simp [h]), fsum_cons, fsum_cons, ih]
      grind
    · rw [List.filter_cons_of_pos h, List.filter_cons_of_neg (by simp [h]), fsum_cons, fsum_cons, ih]
      grind
theorem fsum_zero (f : Nat → Rat) : ∀ l : List Nat, (∀ i ∈ l, f i = 0) → fsum l f = 0
  | [], _ => rfl
  | a :: l, h => by
    rw [fsum_cons, h a List.mem_cons_self, fsum_zero f l (fun i hi => h i (List.mem_cons_of_mem _ hi))]
    grind
theorem fsum_one (f : Nat → Rat) (j : Nat) : ∀ l : List Nat, l.Nodup → j ∈ l → (∀ i ∈ l, i ≠ j → f i = 0) → fsum l f = f j
  | [], _, h, _ => nomatch h
  | a :: l, n, h, z => by
    rw [List.nodup_cons] at n
    rw [fsum_cons]
    by_cases e : a = j
    · subst e
      rw [fsum_zero f l (fun i hi => z i (List.mem_cons_of_mem _ hi) (fun y => n.1 (by rw [← y]; exact hi)))]
      grind
    · have hj : j ∈ l := by
        rcases List.mem_cons.mp h with y | y
        · exact absurd y.symm e
        · exact y
      rw [z a List.mem_cons_self e, fsum_one f j l n.2 hj (fun i hi => z i (List.mem_cons_of_mem _ hi))]
      grind
theorem fsum_congr {f g : Nat → Rat} : ∀ l : List Nat, (∀ i ∈ l, f i = g i) → fsum l f = fsum l g
  | [], _ => rfl
  | a :: l, h => by rw [fsum_cons, fsum_cons, h a List.mem_cons_self, fsum_congr l (fun i hi => h i (List.mem_cons_of_mem _ hi))]
theorem fsum_mul (c : Rat) (f : Nat → Rat) : ∀ l : List Nat, fsum l (fun i => c * f i) = c * fsum l f
  | [] => by simp [fsum]
  | a :: l => by
    rw [fsum_cons, fsum_cons, fsum_mul c f l]
    grind
theorem fsum_map (g : Nat → Nat) (f : Nat → Rat) (l : List Nat) : fsum (l.map g) f = fsum l (fun i => f (g i)) := by
  unfold fsum
  rw [List.map_map]
  rfl
theorem sumTo_fsum : ∀ (n : Nat) (f : Nat → Rat), sumTo n f = fsum (List.range n) f
  | 0, _ => rfl
  | n + 1, f => by
    rw [List.range_succ_eq_map, fsum_cons, fsum_map, ← sumTo_fsum n]
    rfl
theorem dot_sum : ∀ (qs xs : List (Int × Int)), xs.length = qs.length → dotQ qs xs = sumTo qs.length (fun j => vl (qs.getD j (0, 1)) * vl (xs.getD j (0, 1)))
  | [], [], _ => by simp [dotQ, Ty.sumTo]
  | q :: qs, x :: xs, h => by
    have ih := dot_sum qs xs (by simpa using h)
    have ed : dotQ (q :: qs) (x :: xs) = vl q * vl x + dotQ qs xs := by simp [dotQ]
    rw [ed, ih]
    simp [Ty.sumTo]
  | [], _ :: _, h => by simp at h
  | _ :: _, [], h => by simp at h
theorem dot_exch {m : Nat} {xs : List (Int × Int)} (hx : xs.length = m) : ∀ (qss : List (List (Int × Int))) (ys ds : List (Int × Int)), (∀ qs ∈ qss, qs.length = m) → ys.length = qss.length → ds.length = qss.length → (∀ (i : Nat) (qs : List (Int × Int)) (d : Int × Int), qss[i]? = some qs → ds[i]? = some d → vl d = dotQ qs xs) → dotQ ys ds = sumTo m (fun j => dotQ ys (colQ qss j) * vl (xs.getD j (0, 1)))
  | [], [], [], _, _, _, _ => by
    rw [sumTo_zero m _ (fun j => by simp [colQ, dotQ])]
    simp [dotQ]
  | qs :: qss, y :: ys, d :: ds, h1, h2, h3, h4 => by
    have ih := dot_exch hx qss ys ds (fun q hq => h1 q (List.mem_cons_of_mem _ hq)) (by simpa using h2) (by simpa using h3) (fun i q d e1 e2 => h4 (i + 1) q d (by simpa using e1) (by simpa using e2))
    have e0 := h4 0 qs d rfl rfl
    have l0 := h1 qs List.mem_cons_self
    have ed : dotQ (y :: ys) (d :: ds) = vl y * vl d + dotQ ys ds := by simp [dotQ]
    rw [ed, ih, e0, dot_sum qs xs (by omega), l0, ← sumTo_mul, ← sumTo_add]
    congr 1
    funext j
    have ec : dotQ (y :: ys) (colQ (qs :: qss) j) = vl y * vl (qs.getD j (0, 1)) + dotQ ys (colQ qss j) := by simp [dotQ, colQ]
    rw [ec]
    grind
  | [], _ :: _, _, _, h, _, _ => by simp at h
  | [], [], _ :: _, _, _, h, _ => by simp at h
  | _ :: _, [], _, _, h, _, _ => by simp at h
  | _ :: _, _ :: _, [], _, _, h, _ => by simp at h
theorem keys_nodupS : ∀ {ss : List (Nat × List (Int × Int))}, (ss.map (·.1)).Nodup → (ss.map (fun x => (Sum.inl (x.1 : Int) : Key))).Nodup
  | [], _ => by simp
  | x :: r, h => by
    rw [List.map_cons, List.nodup_cons] at h
    rw [List.map_cons, List.nodup_cons]
    refine ⟨fun z => h.1 ?_, keys_nodupS h.2⟩
    obtain ⟨y, hy, e⟩ := List.mem_map.mp z
    have e' : (y.1 : Int) = x.1 := Sum.inl.inj e
    exact List.mem_map.mpr ⟨y, hy, by omega⟩
theorem sumTo_eq : ∀ (m : Nat) (f g : Nat → Rat), (∀ j, j < m → f j = g j) → Ty.sumTo m f = Ty.sumTo m g
  | 0, _, _, _ => rfl
  | m + 1, f, g, h => by
    simp only [Ty.sumTo]
    rw [h 0 (by omega), sumTo_eq m (fun i => f (i + 1)) (fun i => g (i + 1)) (fun j hj => h (j + 1) (by omega))]
theorem FillS.sm24 {os lv : List (List Int)} {L m b c : Nat} {nd : List (Nat × List Int)} {qs : List (Int × Int)} (R : Red os L m b nd lv) (F : FillS c m nd.length nd qs) : ∀ q ∈ qs, Sm b b q := by
  intro q hq
  obtain ⟨j, hj⟩ := List.getElem?_of_mem hq
  have hjm : j < m := by have := (List.getElem?_eq_some_iff.mp hj).1; rw [← F.1]; exact this
  by_cases jc : j = c
  · subst jc
    rw [F.2.1] at hj
    cases hj
    exact ⟨by decide, by decide, Nat.one_le_two_pow, Nat.one_le_two_pow⟩
  by_cases cc : ∃ (i : Nat) (x : Nat × List Int), nd[i]? = some x ∧ x.1 = j
  · obtain ⟨i, x, e, rfl⟩ := cc
    have hi : i < nd.length := (List.getElem?_eq_some_iff.mp e).1
    have h1 := F.2.2.1 i hi x e
    rw [hj] at h1
    cases h1
    have hm := List.mem_of_getElem? e
    exact sm_lowU (R.here x hm) (by rw [Int.natAbs_neg]; exact R.bdN x hm c) (R.bdN x hm x.1)
  · have h1 := F.2.2.2 j hjm jc (fun i _ x e z => cc ⟨i, x, e, z⟩)
    rw [hj] at h1
    cases h1
    exact ⟨by decide, by decide, Nat.zero_le _, Nat.one_le_two_pow⟩
structure SpZ (nd : List (Nat × List Int)) (c : Nat) (z : Nat → Rat) : Prop where
  one : z c = 1
  at' : ∀ y ∈ nd, z y.1 = (-(y.2.getD c 0) : Int) / ((y.2.getD y.1 0 : Int) : Rat)
  no : ∀ j, j ≠ c → (∀ y ∈ nd, y.1 ≠ j) → z j = 0
theorem SpZ.sol {os lv : List (List Int)} {L m b c : Nat} {nd : List (Nat × List Int)} {z : Nat → Rat} (R : Red os L m b nd lv) (hc : c < m) (h : SpZ nd c z) (fr : ∀ y ∈ nd, y.1 ≠ c) : ∀ o ∈ os, ev o z = 0 := by
  refine (R.sol z).mp ⟨fun x hx => ?_, fun l hl => ?_⟩
  · have e : z = fun j => (if j = c then 1 else 0) + (if j = c then 0 else z j) := by
      funext j
      by_cases q : j = c
      · rw [if_pos q, if_pos q, q, h.one]
        grind
      · rw [if_neg q, if_neg q]
        grind
    rw [e, ev_add, ev_one x.2 (fun j => if j = c then 1 else 0) c (fun j hj => by rw [if_neg hj]; grind), ev_one x.2 (fun j => if j = c then 0 else z j) x.1 (fun j hj => ?_)]
    · have hh := ratne (R.here x hx)
      rw [if_pos rfl, if_neg (fr x hx), h.at' x hx]
      push_cast
      grind
    · by_cases q : j = c
      · rw [if_pos q]
        grind
      · rw [if_neg q]
        by_cases y : ∃ u ∈ nd, u.1 = j
        · obtain ⟨u, hu, rfl⟩ := y
          rw [R.off x hx u hu (Ne.symm hj)]
          simp
        · rw [h.no j q (fun u hu e => y ⟨u, hu, e⟩)]
          grind
  · refine ev_none l z fun j => ?_
    by_cases hj : j < m
    · rw [R.zero l hl j hj]
      simp
    · rw [h.no j (by omega) (fun y hy e => by have := R.cols y hy; omega)]
      grind
theorem SpZ.ex (c : Nat) : ∀ {nd : List (Nat × List Int)}, (nd.map (·.1)).Pairwise (· < ·) → (∀ y ∈ nd, y.1 ≠ c) → ∃ z, SpZ nd c z
  | [], _, _ => ⟨fun j => if j = c then 1 else 0, if_pos rfl, (fun y hy => nomatch hy), fun j h _ => if_neg h⟩
  | x :: r, a, f => by
    rw [List.map_cons, List.pairwise_cons] at a
    obtain ⟨z, hz⟩ := SpZ.ex c a.2 (fun y hy => f y (List.mem_cons_of_mem _ hy))
    refine ⟨fun j => if j = x.1 then (-(x.2.getD c 0) : Int) / ((x.2.getD x.1 0 : Int) : Rat) else z j, ?_, fun y hy => ?_, fun j h1 h2 => ?_⟩
    · show (if c = x.1 then _ else z c) = 1
      rw [if_neg (Ne.symm (f x List.mem_cons_self))]
      exact hz.one
    · rcases List.mem_cons.mp hy with q | q
      · subst q
        exact if_pos rfl
      · have := a.1 y.1 (List.mem_map.mpr ⟨y, q, rfl⟩)
        show (if y.1 = x.1 then _ else z y.1) = _
        rw [if_neg (by omega)]
        exact hz.at' y q
    · show (if j = x.1 then _ else z j) = 0
      rw [if_neg (Ne.symm (h2 x List.mem_cons_self))]
      exact hz.no j h1 (fun y hy => h2 y (List.mem_cons_of_mem _ hy))
theorem SpZ.behind {os lv : List (List Int)} {L m b c : Nat} {nd : List (Nat × List Int)} {z : Nat → Rat} (R : Red os L m b nd lv) (h : SpZ nd c z) {j : Nat} (hj : c < j) : z j = 0 := by
  by_cases q : ∃ y ∈ nd, y.1 = j
  · obtain ⟨y, hy, rfl⟩ := q
    rw [h.at' y hy, R.low y hy c hj]
    simp [Rat.div_def]
  · exact h.no j (by omega) (fun y hy e => q ⟨y, hy, e⟩)
theorem free_of_sol {os lv : List (List Int)} {L m b c : Nat} {nd : List (Nat × List Int)} {z : Nat → Rat} (R : Red os L m b nd lv) (z1 : z c ≠ 0) (zb : ∀ j, c < j → z j = 0) (hz : ∀ o ∈ os, ev o z = 0) : ∀ y ∈ nd, y.1 ≠ c := by
  intro y hy e
  have e0 := ((R.sol z).mpr hz).1 y hy
  rw [ev_one y.2 z c (fun j hj => ?_)] at e0
  · have hh := ratne (R.here y hy)
    rw [e] at hh
    grind
  · by_cases q : j < c
    · rw [R.low y hy j (by rw [e]; exact q)]
      simp
    · rw [zb j (by omega)]
      grind
theorem asc_ext : ∀ {l1 l2 : List Nat}, l1.Pairwise (· < ·) → l2.Pairwise (· < ·) → (∀ c, c ∈ l1 ↔ c ∈ l2) → l1 = l2
  | [], [], _, _, _ => rfl
  | [], b :: l2, _, _, h => absurd ((h b).mpr List.mem_cons_self) (by simp)
  | a :: l1, [], _, _, h => absurd ((h a).mp List.mem_cons_self) (by simp)
  | a :: l1, b :: l2, p, q, h => by
    rw [List.pairwise_cons] at p q
    have e : a = b := by
      have h1 := (h a).mp List.mem_cons_self
      have h2 := (h b).mpr List.mem_cons_self
      rcases List.mem_cons.mp h1 with z | z
      · exact z
      · rcases List.mem_cons.mp h2 with y | y
        · exact y.symm
        · have := p.1 b y
          have := q.1 a z
          omega
    subst e
    rw [asc_ext p.2 q.2 (fun c => ⟨fun hc => ?_, fun hc => ?_⟩)]
    · have := p.1 c hc
      rcases List.mem_cons.mp ((h c).mp (List.mem_cons_of_mem _ hc)) with z | z
      · omega
      · exact z
    · have := q.1 c hc
      rcases List.mem_cons.mp ((h c).mpr (List.mem_cons_of_mem _ hc)) with z | z
      · omega
      · exact z
theorem same_cols {os1 lv1 os2 lv2 : List (List Int)} {L1 L2 m b1 b2 : Nat} {nd1 nd2 : List (Nat × List Int)} (R1 : Red os1 L1 m b1 nd1 lv1) (R2 : Red os2 L2 m b2 nd2 lv2) (h : ∀ z : Nat → Rat, (∀ j, m ≤ j → z j = 0) → ((∀ o ∈ os1, ev o z = 0) ↔ ∀ o ∈ os2, ev o z = 0)) : nd1.map (·.1) = nd2.map (·.1) := by
  have key : ∀ {os1 lv1 os2 lv2 : List (List Int)} {L1 L2 b1 b2 : Nat} {nd1 nd2 : List (Nat × List Int)}, Red os1 L1 m b1 nd1 lv1 → Red os2 L2 m b2 nd2 lv2 → (∀ z : Nat → Rat, (∀ j, m ≤ j → z j = 0) → (∀ o ∈ os1, ev o z = 0) → ∀ o ∈ os2, ev o z = 0) → ∀ c, c ∈ nd2.map (·.1) → c ∈ nd1.map (·.1) := by
    intro os1 lv1 os2 lv2 L1 L2 b1 b2 nd1 nd2 R1 R2 h c hc
    apply Classical.byContradiction
    intro nc
    obtain ⟨x, hx, rfl⟩ := List.mem_map.mp hc
    have fr : ∀ y ∈ nd1, y.1 ≠ x.1 := fun y hy e => nc (List.mem_map.mpr ⟨y, hy, e⟩)
    have xm := R2.cols x hx
    obtain ⟨z, hz⟩ := SpZ.ex x.1 R1.asc fr
    exact free_of_sol R2 (c := x.1) (z := z) (by rw [hz.one]; decide) (fun j hj => hz.behind R1 hj) (h z (fun j hj => hz.behind R1 (by omega)) (hz.sol R1 xm fr)) x hx rfl
  exact asc_ext R1.asc R2.asc fun c => ⟨key R2 R1 (fun z s => (h z s).mpr) c, key R1 R2 (fun z s => (h z s).mp) c⟩
theorem ev_app : ∀ (l r : List Int) (z : Nat → Rat), (∀ j, l.length ≤ j → z j = 0) → ev (l ++ r) z = ev l z
  | [], r, z, h => by
    rw [List.nil_append, ev_none r z (fun j => by rw [h j (Nat.zero_le _)]; grind)]
    rfl
  | a :: l, r, z, h => by
    rw [List.cons_append]
    simp only [ev]
    rw [ev_app l r (fun i => z (i + 1)) (fun j hj => h (j + 1) (by simp; omega))]
theorem ev_row {ts : List Int} {qs : List (Int × Int)} {b : Int} {m : Nat} (h : Whole ts qs b) (hm : qs.length = m) (z : Nat → Rat) : ev ts z = (b : Rat) * sumTo m (fun j => vl (qs.getD j (0, 1)) * z j) := by
  have hl := h.1
  rw [ev_sumTo m ts z (by omega), ← sumTo_mul]
  refine sumTo_eq m _ _ fun j hj => ?_
  have e1 : ts[j]? = some (ts[j]'(by omega)) := List.getElem?_eq_getElem (by omega)
  have e2 : qs[j]? = some (qs[j]'(by omega)) := List.getElem?_eq_getElem (by omega)
  have w := h.2 j _ _ e1 e2
  rw [getD_mem e1, w, List.getD_eq_getElem?_getD, e2]
  show _ = (b : Rat) * (vl (qs[j]'(by omega)) * z j)
  grind
theorem ev_row0 {ts : List Int} {qs : List (Int × Int)} {b : Int} {m : Nat} (h : Whole ts qs b) (hb : 0 < b) (hm : qs.length = m) (z : Nat → Rat) : ev ts z = 0 ↔ sumTo m (fun j => vl (qs.getD j (0, 1)) * z j) = 0 := by
  rw [ev_row h hm z]
  have hb' := ratne (show b ≠ 0 by omega)
  constructor <;> intro q <;> grind
theorem lines_sol {T B m : Nat} {qss : List (List (Int × Int))} {os : List (List Int)} (lin : Lines T B m qss os) (len : ∀ qs ∈ qss, qs.length = m) (z : Nat → Rat) : (∀ o ∈ os, ev o z = 0) ↔ ∀ qs ∈ qss, sumTo m (fun j => vl (qs.getD j (0, 1)) * z j) = 0 := by
  have hl := lin.1
  constructor
  · intro h qs hq
    obtain ⟨i, e⟩ := List.getElem?_of_mem hq
    have hi : i < qss.length := (List.getElem?_eq_some_iff.mp e).1
    have e1 : os[i]? = some (os[i]'(by omega)) := List.getElem?_eq_getElem (by omega)
    obtain ⟨b, hb, wh⟩ := lin.2 i _ qs e1 e
    exact (ev_row0 wh hb (len qs hq) z).mp (h _ (List.mem_of_getElem? e1))
  · intro h o ho
    obtain ⟨i, e⟩ := List.getElem?_of_mem ho
    have hi : i < os.length := (List.getElem?_eq_some_iff.mp e).1
    have e1 : qss[i]? = some (qss[i]'(by omega)) := List.getElem?_eq_getElem (by omega)
    obtain ⟨b, hb, wh⟩ := lin.2 i o _ e e1
    exact (ev_row0 wh hb (len _ (List.mem_of_getElem? e1)) z).mpr (h _ (List.mem_of_getElem? e1))
theorem linesE_sol {T B m : Nat} {qss : List (List (Int × Int))} {ws : List Wl} {es : List (List Int)} (lin : LinesE m qss.length ws es) (wl : ∀ (i : Nat) (w : Wl) (qs : List (Int × Int)), ws[i]? = some w → qss[i]? = some qs → WlQ T B m qs w) (len : ∀ qs ∈ qss, qs.length = m) (z : Nat → Rat) (hz : ∀ j, m ≤ j → z j = 0) : (∀ o ∈ es, ev o z = 0) ↔ ∀ qs ∈ qss, sumTo m (fun j => vl (qs.getD j (0, 1)) * z j) = 0 := by
  obtain ⟨l1, l2, l3⟩ := lin
  have row : ∀ i, i < qss.length → ∃ w qs, ws[i]? = some w ∧ qss[i]? = some qs ∧ es[i]? = some (w.1 ++ unit qss.length i) ∧ (ev (w.1 ++ unit qss.length i) z = 0 ↔ sumTo m (fun j => vl (qs.getD j (0, 1)) * z j) = 0) := fun i hi => by
    have e1 : ws[i]? = some (ws[i]'(by omega)) := List.getElem?_eq_getElem (by omega)
    have e2 : qss[i]? = some (qss[i]'(by omega)) := List.getElem?_eq_getElem (by omega)
    obtain ⟨wh, hb, _⟩ := wl i _ _ e1 e2
    have hq := len _ (List.mem_of_getElem? e2)
    refine ⟨_, _, e1, e2, l3 i _ e1, ?_⟩
    rw [ev_app _ _ z (fun j hj => hz j (by rw [wh.1] at hj; omega))]
    exact ev_row0 wh hb hq z
  constructor
  · intro h qs hq
    obtain ⟨i, e⟩ := List.getElem?_of_mem hq
    obtain ⟨w, qs', _, e2, e3, k⟩ := row i (List.getElem?_eq_some_iff.mp e).1
    rw [e] at e2
    cases e2
    exact k.mp (h _ (List.mem_of_getElem? e3))
  · intro h o ho
    obtain ⟨i, e⟩ := List.getElem?_of_mem ho
    obtain ⟨w, qs', _, e2, e3, k⟩ := row i (by have := (List.getElem?_eq_some_iff.mp e).1; omega)
    rw [e] at e3
    cases e3
    exact k.mpr (h _ (List.mem_of_getElem? e2))
theorem low_zero {b : Int} (h : b ≠ 0) : low 0 b = (0, 1) := by
  refine low_of (g := b) h ?_ ?_ (by decide) (by decide)
  · rw [Int.mul_zero]
  · rw [Int.mul_one]
theorem vl_01'' : vl (0, 1) = 0 := by
  unfold vl
  simp
  grind
theorem vl_11'' : vl (1, 1) = 1 := by
  unfold vl
  simp
  grind
theorem getD_some {qs : List (Int × Int)} {j : Nat} {q : Int × Int} (e : qs[j]? = some q) : qs.getD j (0, 1) = q := by
  rw [List.getD_eq_getElem?_getD, e]
  rfl
theorem FillS.z {os lv : List (List Int)} {L m b c : Nat} {nd : List (Nat × List Int)} {qs : List (Int × Int)} (R : Red os L m b nd lv) (F : FillS c m nd.length nd qs) : SpZ nd c (fun j => vl (qs.getD j (0, 1))) where
  one := by
    show vl (qs.getD c (0, 1)) = 1
    rw [getD_some F.2.1, vl_11'']
  at' := fun y hy => by
    obtain ⟨i, e⟩ := List.getElem?_of_mem hy
    have hi : i < nd.length := (List.getElem?_eq_some_iff.mp e).1
    show vl (qs.getD y.1 (0, 1)) = _
    rw [getD_some (F.2.2.1 i hi y e), vl_low (R.here y hy)]
  no := fun j hj h => by
    show vl (qs.getD j (0, 1)) = 0
    by_cases z : j < m
    · rw [getD_some (F.2.2.2 j z hj (fun i _ x e => h x (List.mem_of_getElem? e))), vl_01'']
    · rw [List.getD_eq_getElem?_getD, List.getElem?_eq_none (by rw [F.1]; omega)]
      exact vl_01''
structure Told24 (K : PySem.W.Frag) (H : Hp) (p : Addr) (m Z T2 : Nat) (qss : List (List (Int × Int))) (sd nd' : Addr) (skv nkv : List (Key × V)) (ss nn : List (Nat × List (Int × Int))) : Prop where
  top : H p = some (.tup [.ref sd, .ref nd'])
  dS : H sd = some (.dK skv)
  dN : H nd' = some (.dK nkv)
  rS : SpR K H skv ss
  rN : SpR K H nkv nn
  ne : sd ≠ nd'
  aS : (ss.map (·.1)).Pairwise (· < ·)
  aN : (nn.map (·.1)).Pairwise (· < ·)
  per : (ss.map (·.1) ++ nn.map (·.1)).Perm (List.range m)
  sp : ∀ x ∈ ss, x.2.length = m ∧ (∀ q ∈ x.2, Sm Z Z q) ∧ x.2[x.1]? = some (1, 1) ∧ (∀ j, j < m → j ≠ x.1 → (x.1 < j ∨ j ∈ ss.map (·.1)) → x.2[j]? = some (0, 1)) ∧ ∀ qs ∈ qss, dotQ qs x.2 = 0
  nd : ∀ x ∈ nn, x.2.length = qss.length ∧ (∀ q ∈ x.2, Sm T2 Z q) ∧ ∀ j ∈ nn.map (·.1), dotQ x.2 (colQ qss j) = if j = x.1 then 1 else 0
theorem csum_pick (j : Nat) : ∀ (y : List Rat) (os : List (List Int)) (i : Nat), y.length = os.length → i < os.length → (∀ (k : Nat) (o : List Int), os[k]? = some o → o.getD j 0 = if k = i then 1 else 0) → csum y os j = y.getD i 0
  | [], [], _, _, h, _ => by simp at h
  | a :: y, o :: os, 0, h, _, f => by
    have f0 := f 0 o rfl
    rw [if_pos rfl] at f0
    have hz : ∀ (y : List Rat) (os : List (List Int)), (∀ o ∈ os, o.getD j 0 = 0) → csum y os j = 0 := by
      intro y os
      induction os generalizing y with
      | nil => intro _; cases y <;> rfl
      | cons o os ih =>
        intro g
        cases y with
        | nil => rfl
        | cons a y =>
          simp only [csum]
          rw [g o List.mem_cons_self, ih y (fun o' ho' => g o' (List.mem_cons_of_mem _ ho'))]
          simp
          grind
    simp only [csum]
    rw [f0, hz y os (fun o' ho' => by
      obtain ⟨k, e⟩ := List.getElem?_of_mem ho'
      have := f (k + 1) o' (by simpa using e)
      rw [if_neg (by omega)] at this
      exact this)]
    simp
    grind
  | a :: y, o :: os, i + 1, h, hi, f => by
    have f0 := f 0 o rfl
    rw [if_neg (by omega)] at f0
    simp only [csum]
    rw [f0, csum_pick j y os i (by simpa using h) (by simpa using hi) (fun k o' e => by
      have := f (k + 1) o' (by simpa using e)
      rw [this]
      simp)]
    simp
    grind
  | [], _ :: _, _, h, _, _ => by simp at h
  | _ :: _, [], _, h, _, _ => by simp at h
theorem csum_congr (j : Nat) : ∀ (y : List Rat) (os os' : List (List Int)), os.length = os'.length → (∀ (k : Nat) (o o' : List Int), os[k]? = some o → os'[k]? = some o' → o.getD j 0 = o'.getD j 0) → csum y os j = csum y os' j
  | [], os, os', _, _ => by cases os <;> cases os' <;> rfl
  | _ :: _, [], [], _, _ => rfl
  | a :: y, o :: os, o' :: os', h, f => by
    simp only [csum]
    rw [f 0 o o' rfl rfl, csum_congr j y os os' (by simpa using h) (fun k p p' e1 e2 => f (k + 1) p p' (by simpa using e1) (by simpa using e2))]
  | _ :: _, [], _ :: _, h, _ => by simp at h
  | _ :: _, _ :: _, [], h, _ => by simp at h
theorem getD_app_left {l r : List Int} {j : Nat} (h : j < l.length) : (l ++ r).getD j 0 = l.getD j 0 := by
  rw [List.getD_eq_getElem?_getD, List.getD_eq_getElem?_getD, List.getElem?_append_left h]
theorem getD_app_right {l r : List Int} {j : Nat} : (l ++ r).getD (l.length + j) 0 = r.getD j 0 := by
  rw [List.getD_eq_getElem?_getD, List.getD_eq_getElem?_getD, List.getElem?_append_right (by omega)]
  congr 2
  omega
theorem unit_getD {n i j : Nat} (hj : j < n) : (unit n i).getD j 0 = if i = j then 1 else 0 := by
  unfold unit
  rw [List.getD_eq_getElem?_getD, List.getElem?_set]
  by_cases z : i = j
  · rw [if_pos z, if_pos z, if_pos (by rw [List.length_replicate]; omega)]
    rfl
  · rw [if_neg z, if_neg z, List.getElem?_replicate, if_pos hj]
    rfl
theorem share_dot {T B m : Nat} {qss : List (List (Int × Int))} {ws : List Wl} {es lv : List (List Int)} {nd : List (Nat × List Int)} {Z : Nat} (lin : LinesE m qss.length ws es) (wl : ∀ (i : Nat) (w : Wl) (qs : List (Int × Int)), ws[i]? = some w → qss[i]? = some qs → WlQ T B m qs w) (len : ∀ qs ∈ qss, qs.length = m) (R : Red es (m + qss.length) m Z nd lv) {x : Nat × List Int} (hx : x ∈ nd) {j : Nat} (hj : j < m) :
    dotQ (shareQ m ws x) (colQ qss j) = ((x.2.getD j 0 : Int) : Rat) / ((x.2.getD x.1 0 : Int) : Rat) := by
  obtain ⟨l1, l2, l3⟩ := lin
  have xl := R.lenN x hx
  have ld : (x.2.drop m).length = qss.length := by rw [List.length_drop]; omega
  have hp := ratne (R.here x hx)
  have row : ∀ i, i < qss.length → ∃ w qs, ws[i]? = some w ∧ qss[i]? = some qs ∧ es[i]? = some (w.1 ++ unit qss.length i) ∧ Whole w.1 qs w.2.1 ∧ w.1.length = m := fun i hi => by
    have e1 : ws[i]? = some (ws[i]'(by omega)) := List.getElem?_eq_getElem (by omega)
    have e2 : qss[i]? = some (qss[i]'(by omega)) := List.getElem?_eq_getElem (by omega)
    obtain ⟨wh, hb, _⟩ := wl i _ _ e1 e2
    exact ⟨_, _, e1, e2, l3 i _ e1, wh, by rw [wh.1]; exact len _ (List.mem_of_getElem? e2)⟩
  have esr : ∀ (k : Nat) (o : List Int), es[k]? = some o → ∃ w, ws[k]? = some w ∧ o = w.1 ++ unit qss.length k ∧ w.1.length = m := fun k o e => by
    obtain ⟨w, qs, e1, _, e3, _, e5⟩ := row k (by have := (List.getElem?_eq_some_iff.mp e).1; omega)
    rw [e] at e3
    cases e3
    exact ⟨w, e1, rfl, e5⟩
  obtain ⟨y, ly, hy⟩ := R.combN x hx
  have yi : ∀ i, i < qss.length → y.getD i 0 = ((x.2.getD (m + i) 0 : Int) : Rat) := fun i hi => by
    rw [hy (m + i), csum_pick (m + i) y es i ly (by omega) (fun k o e => ?_)]
    obtain ⟨w, _, rfl, e5⟩ := esr k o e
    rw [← e5, getD_app_right, unit_getD hi]
  rw [dot_csum j (ws := ws) (ss := (x.2.drop m).map fun s => (s, x.2.getD x.1 0)) (by rw [List.length_map]; omega) (by unfold shareQ; rw [List.length_zipWith]; omega) (by unfold colQ; rw [List.length_map]; omega) (fun i w s q e1 e2 e3 => ?_) (fun i w c e1 e2 => ?_)]
  · have e : (List.map vl ((x.2.drop m).map fun s => (s, x.2.getD x.1 0))) = y.map (fun a => a * (1 / ((x.2.getD x.1 0 : Int) : Rat))) := by
      rw [List.map_map]
      refine List.ext_getElem? fun i => ?_
      rw [List.getElem?_map, List.getElem?_map]
      by_cases hi : i < qss.length
      · have e1 : (x.2.drop m)[i]? = some (x.2.getD (m + i) 0) := by
          rw [List.getElem?_drop, List.getD_eq_getElem?_getD, List.getElem?_eq_getElem (show m + i < x.2.length by omega)]
          rfl
        have e2 : y[i]? = some (y.getD i 0) := by
          rw [List.getD_eq_getElem?_getD, List.getElem?_eq_getElem (show i < y.length by omega)]
          rfl
        rw [e1, e2, yi i hi]
        show some (vl (_, _)) = some _
        unfold vl
        congr 1
        grind
      · rw [List.getElem?_eq_none (by omega), List.getElem?_eq_none (by omega)]
        rfl
    rw [e, csum_scale, hy j, csum_congr j y es (ws.map (·.1)) (by rw [List.length_map]; omega) (fun k o o' e1 e2 => ?_)]
    · grind
    · obtain ⟨w, ew, rfl, e5⟩ := esr k o e1
      rw [List.getElem?_map, ew] at e2
      cases e2
      exact getD_app_left (by omega)
  · rw [List.getElem?_map] at e2
    obtain ⟨sv, es', rfl⟩ := Option.map_eq_some_iff.mp e2
    unfold shareQ at e3
    rw [List.getElem?_zipWith, es', e1] at e3
    cases e3
    rw [vl_low (R.here x hx)]
    unfold vl
    push_cast
    grind
  · have hi : i < ws.length := (List.getElem?_eq_some_iff.mp e1).1
    obtain ⟨w', qs, f1, f2, _, wh, wlen⟩ := row i (by omega)
    rw [e1] at f1
    cases f1
    unfold colQ at e2
    rw [List.getElem?_map, f2] at e2
    cases e2
    have lq := len qs (List.mem_of_getElem? f2)
    have g1 : w.1[j]? = some (w.1[j]'(by omega)) := List.getElem?_eq_getElem (by omega)
    have g2 : qs[j]? = some (qs[j]'(by omega)) := List.getElem?_eq_getElem (by omega)
    show _ = vl (qs.getD j (0, 1)) * _
    rw [getD_mem g1, getD_some g2, wh.2 j _ _ g1 g2]
theorem per_of {m : Nat} {nd : List (Nat × List Int)} (hc : ∀ y ∈ nd, y.1 < m) (asc : (nd.map (·.1)).Pairwise (· < ·)) : ((List.range m).filter (free nd) ++ nd.map (·.1)).Perm (List.range m) := by
  have e : nd.map (·.1) = (List.range m).filter (fun i => !free nd i) := by
    refine asc_ext asc (List.pairwise_lt_range.filter _) fun c => ⟨fun h => ?_, fun h => ?_⟩
    · obtain ⟨y, hy, rfl⟩ := List.mem_map.mp h
      refine List.mem_filter.mpr ⟨List.mem_range.mpr (hc y hy), ?_⟩
      cases q : free nd y.1
      · rfl
      · exact absurd rfl (free_iff.mp q y hy)
    · obtain ⟨_, h2⟩ := List.mem_filter.mp h
      apply Classical.byContradiction
      intro nc
      have : free nd c = true := free_iff.mpr fun y hy e => nc (List.mem_map.mpr ⟨y, hy, e⟩)
      rw [this] at h2
      cases h2
  rw [e]
  exact List.filter_append_perm _ _
theorem Split.told {K : PySem.W.Frag} {H : Hp} {p : Addr} {T B m Z : Nat} {qss : List (List (Int × Int))} {sd nd' : Addr} {skv nkv : List (Key × V)} {ss nn : List (Nat × List (Int × Int))} {os lv es lv2 : List (List Int)} {nd nd2 : List (Nat × List Int)} {ws : List Wl}
    (S : Split K H p T B m Z qss sd nd' skv nkv ss nn os lv es lv2 nd nd2 ws) (ne : sd ≠ nd') (len : ∀ qs ∈ qss, qs.length = m) : Told24 K H p m Z (Z + B * m) qss sd nd' skv nkv ss nn := by
  have cols : nd.map (·.1) = nd2.map (·.1) := same_cols S.red S.redE fun z hz => by rw [lines_sol S.lin len z, linesE_sol S.linE S.wl len z hz]
  have cN : nn.map (·.1) = nd2.map (·.1) := by
    rw [S.shares, List.map_map]
    rfl
  refine ⟨S.top, S.dS, S.dN, S.rS, S.rN, ne, ?_, ?_, ?_, fun x hx => ?_, fun x hx => ?_⟩
  · rw [S.cols]
    exact List.pairwise_lt_range.filter _
  · rw [cN]
    exact S.redE.asc
  · rw [S.cols, cN, ← cols]
    exact per_of S.red.cols S.red.asc
  · have F := S.fill x hx
    have hc : x.1 ∈ (List.range m).filter (free nd) := by rw [← S.cols]; exact List.mem_map.mpr ⟨x, hx, rfl⟩
    have hm := List.mem_range.mp (List.mem_filter.mp hc).1
    have fr := free_iff.mp (List.mem_filter.mp hc).2
    refine ⟨F.1, F.sm24 S.red, F.2.1, fun j hj jc h => ?_, fun qs hq => ?_⟩
    · by_cases cc : ∃ y ∈ nd, y.1 = j
      · obtain ⟨y, hy, rfl⟩ := cc
        rcases h with h | h
        · obtain ⟨i, e⟩ := List.getElem?_of_mem hy
          have hi : i < nd.length := (List.getElem?_eq_some_iff.mp e).1
          rw [F.2.2.1 i hi y e, S.red.low y hy x.1 h, Int.neg_zero, low_zero (S.red.here y hy)]
        · rw [S.cols] at h
          exact absurd rfl (free_iff.mp (List.mem_filter.mp h).2 y hy)
      · exact F.2.2.2 j hj jc (fun i _ y e z => cc ⟨y, List.mem_of_getElem? e, z⟩)
    · have k := (lines_sol S.lin len _).mp ((F.z S.red).sol S.red hm fr) qs hq
      rw [dot_sum qs x.2 (by rw [F.1, len qs hq]), len qs hq]
      exact k
  · have e0 := S.shares
    rw [e0] at hx
    obtain ⟨y, hy, rfl⟩ := List.mem_map.mp hx
    have l2 := S.linE.2.1
    have yl := S.redE.lenN y hy
    refine ⟨by show (shareQ m ws y).length = _; unfold shareQ; rw [List.length_zipWith, List.length_drop]; omega, fun q hq => ?_, fun j hj => ?_⟩
    · obtain ⟨i, e⟩ := List.getElem?_of_mem (show q ∈ shareQ m ws y from hq)
      unfold shareQ at e
      rw [List.getElem?_zipWith] at e
      cases e1 : (y.2.drop m)[i]? with
      | none => rw [e1] at e; cases e
      | some sv =>
        cases e2 : ws[i]? with
        | none => rw [e1, e2] at e; cases e
        | some w =>
          rw [e1, e2] at e
          cases e
          have hi : i < ws.length := (List.getElem?_eq_some_iff.mp e2).1
          have e3 : qss[i]? = some (qss[i]'(by omega)) := List.getElem?_eq_getElem (by omega)
          obtain ⟨_, _, wb, _⟩ := S.wl i w _ e2 e3
          refine sm_lowU (S.redE.here y hy) ?_ (S.redE.bdN y hy y.1)
          rw [Int.natAbs_mul, Nat.pow_add]
          exact Nat.mul_le_mul ((S.redE.bdN y hy).mem (List.mem_of_mem_drop (List.mem_of_getElem? e1))) wb
    · rw [cN] at hj
      obtain ⟨u, hu, rfl⟩ := List.mem_map.mp hj
      rw [share_dot S.linE S.wl len S.redE hy (S.redE.cols u hu)]
      have hh := ratne (S.redE.here y hy)
      by_cases z : u.1 = y.1
      · rw [if_pos z, z]
        grind
      · rw [if_neg z, S.redE.off y hy u hu (Ne.symm z)]
        simp [Rat.div_def]
theorem k_tt : PySem.W.kitOne K (.type "tuple") (.type "tuple") = some true := by unfold PySem.W.kitOne; rw [if_pos (by decide)]
theorem fmod_in {x m : Int} (h : 0 < m) : 0 ≤ x.fmod m ∧ x.fmod m < m := ⟨Int.fmod_nonneg_of_pos x h, Int.fmod_lt_of_pos x h⟩
def cell (ns : List Int) (k : Int) : Int := (ns[k.toNat]?).getD 0
def spCell (K : PySem.W.Frag) : Sp := fun vs H Q _ => ∃ (a : Addr) (ns : List Int) (k : Int), vs = [.ref a, .int k] ∧ SqL K H a (ns.map V.int) ∧ 0 ≤ k ∧ Q (.int (cell ns k)) H
theorem cell_in {ns : List Int} {k : Int} (h0 : 0 ≤ k) (h : k < (ns.length : Int)) : atI (ns.map V.int) k = some (.int (cell ns k)) := by
  have hk : k.toNat < ns.length := by omega
  have ek : k = ((k.toNat : Nat) : Int) := by omega
  have q : atI (ns.map V.int) ((k.toNat : Nat) : Int) = some (.int (cell ns k)) := atI_nat (by
    unfold cell
    rw [List.getElem?_map, List.getElem?_eq_getElem hk]
    rfl)
  rw [← ek] at q
  exact q
theorem cell_out {ns : List Int} {k : Int} (h : ¬ k < (ns.length : Int)) : cell ns k = 0 := by
  unfold cell
  rw [List.getElem?_eq_none (by omega)]
  rfl
theorem cell_bits {ns : List Int} (hb : ∀ i ∈ ns, intBits i ≤ 1048576) (k : Int) : intBits (cell ns k) ≤ 1048576 := by
  unfold cell
  cases e : ns[k.toNat]? with
  | none => exact intBits_le_iff.mpr (by show 0 < 2 ^ 1048576; exact Nat.two_pow_pos _)
  | some v => exact hb v (List.mem_of_getElem? e)
theorem sc_law_cell_at : FnScope ["_law_script", "_law_k"] ["_law_script", "_law_k"] (defScope s_law_cell_at) := ⟨rfl, rfl, rfl, by decide +kernel, rfl, by decide +kernel, by decide +kernel⟩
theorem ok_law_cell_at (D : Def K mg "_law_cell_at" s_law_cell_at ["_law_script", "_law_k"]) (m_len : mg "len" = none) : Fn P w K mg base CX 1 "_law_cell_at" ["_law_script", "_law_k"] (spCell K) := by
  refine D.ok sc_law_cell_at (fun vs H Q E h => ?_) (fun f cdv A outer s H vs Q E hr h => ?_)
  · obtain ⟨a, ns, k, rfl, _⟩ := h
    rfl
  obtain ⟨a, ns, k, rfl, hS, h0, q⟩ := h
  refine ⟨_, (pss_cons (ps_if (pt_cmpR op_lt (pv 1) (pe_callB call_len_seq rfl m_len b_len (pac (pv 0) pa_nil)) (nomark _)) (pss_one (ps_ret (pe_ix ix_list (pv 0) (pv 1) (fun _ _ => rfl)))) pss_nil)
    (pss_one (ps_ret pe_int))), ?_⟩
  have hl : (ns.map V.int).length = ns.length := List.length_map _
  refine ⟨_, rfl, _, rfl, a, _, rfl, .inl hS, _, _, rfl, rfl, _, rfl, ?_⟩
  refine ite2 (fun c => ?_) (fun c => ?_)
  · have c' : k < (((ns.map V.int).length : Nat) : Int) := of_decide_eq_true c
    rw [hl] at c'
    exact ⟨_, rfl, _, rfl, a, _, k, _, rfl, rfl, hS, cell_in h0 c', q⟩
  · have c' : ¬ k < (((ns.map V.int).length : Nat) : Int) := of_decide_eq_false (Bool.eq_false_iff.mpr c)
    rw [hl] at c'
    rw [cell_out c'] at q
    exact q
def spLaw_number : Sp := fun vs H Q _ => ∃ t b : Int, vs = [.int t, .int b] ∧ 0 < b ∧ gives H Q (low t b)
theorem sc_law_number : FnScope ["_law_top", "_law_bottom", "_law_one", "_law_other"] ["_law_top", "_law_bottom"] (defScope s_law_number) := ⟨rfl, rfl, rfl, by decide +kernel, rfl, by decide +kernel, by decide +kernel⟩
theorem ok_law_number (ht : P.given.tree = none) (D : Def K mg "_law_number" s_law_number ["_law_top", "_law_bottom"]) (m_abs : mg "abs" = none) : Fn P w K mg base (CXr P w) 33 "_law_number" ["_law_top", "_law_bottom"] spLaw_number := by
  refine D.ok sc_law_number (fun vs H Q E h => ?_) (fun f cdv A outer s H vs Q E hr h => ?_)
  · obtain ⟨t, b, rfl, _⟩ := h
    rfl
  obtain ⟨t, b, rfl, hb, q⟩ := h
  refine ⟨_, (pss_cons (ps_set (i := 2) sc_law_number.nd rfl (Or.inl rfl) (pe_callB call_abs rfl m_abs b_abs (pac (pv 0) pa_nil)))
    (pss_cons (ps_set (i := 3) sc_law_number.nd rfl (Or.inl rfl) (pv 1))
    (pss_cons (ps_while PassesOwn.never (pt_cmpR op_ne (pv 3) pe_int (nomark _)) (pss_one (ps_par (i := 2) (j := 3) rfl sc_law_number.nd rfl rfl (by decide) rfl rfl (pac (pv 3) (pac (pe_op op_modB (pv 2) (pv 3)) pa_nil)) rfl)))
    (pss_one (ps_ret (pe_tup (pac (pe_op (op_fdivU ht (Ty.Room.py hr (by decide)) rfl rfl rfl rfl rfl) (pv 0) (pv 2)) (pac (pe_op (op_fdivU ht (Ty.Room.py hr (by decide)) rfl rfl rfl rfl rfl) (pv 1) (pv 2)) pa_nil)))))))), ?_⟩
  refine ⟨_, rfl, t, rfl, ?_⟩
  refine ⟨_, rfl, ?_⟩
  refine while_by (fun σ H' => ∃ x y : Int, σ = [some (.int t), some (.int b), some (.int x), some (.int y)] ∧ H' = H ∧ 0 ≤ x ∧ 0 ≤ y ∧ Int.gcd x y = Int.gcd t b) (fun σ _ => match σ with | [_, _, _, some (.int y)] => y.natAbs | _ => 0) ⟨_, b, rfl, rfl, ?_, by omega, ?_⟩ ?_ ?_
  · split <;> omega
  · split
    · exact Int.neg_gcd
    · rfl
  · rintro σ H' ⟨x, y, rfl, rfl, hx, hy, g⟩
    refine ⟨_, rfl, rfl, _, rfl, ?_⟩
    refine ite2 (fun c => ?_) (fun c => ?_)
    · have hy0 : y ≠ 0 := by
        intro z
        subst z
        simp at c
      refine ⟨_, rfl, _, rfl, _, rfl, _, _, rfl, rfl, hy0, _, _, rfl, ?_⟩
      exact ⟨⟨_, _, rfl, rfl, hy, Int.fmod_nonneg_of_pos _ (by omega), by rw [gcd_step]; exact g⟩, fmod_less hy0⟩
    · have hy0 : y = 0 := by
        have := Bool.eq_false_iff.mpr c
        simp at this
        exact this
      subst hy0
      have e : x = sg t b := by
        rw [Int.gcd_zero_right] at g
        unfold sg
        rw [if_neg (by omega)]
        unfold gz
        rw [← g]
        omega
      subst e
      have hbn : b ≠ 0 := by omega
      have c := sg_ne (t := t) hbn
      refine ⟨_, rfl, _, rfl, _, _, rfl, rfl, c, _, rfl, _, rfl, _, _, rfl, rfl, c, (by show 2 ≤ sizeLine; decide), fun p hp => ?_⟩
      exact q p _ (same_new hp _) upd_same
  · rintro σ H' Q1 Q2 h ⟨v, e1, e2, k, ek, z⟩
    exact ⟨v, e1, e2, k, ek, h _ _ z⟩
def spMixedC (K : PySem.W.Frag) : Sp := fun vs H Q _ => ∃ (a : Addr) (ns : List Int) (k : Int), vs = [.ref a, .int k] ∧ SqL K H a (ns.map V.int) ∧ (∀ i ∈ ns, intBits i ≤ 1048576) ∧ 0 ≤ k ∧ k ≤ 100000 ∧ ∀ v, intBits v ≤ 1048576 → Q (.int v) H
theorem sc_law_mixed : FnScope ["_law_script", "_law_k", "_law_number_here"] ["_law_script", "_law_k"] (defScope s_law_mixed) := ⟨rfl, rfl, rfl, by decide +kernel, rfl, by decide +kernel, by decide +kernel⟩
theorem ok_law_mixed (D : Def K mg "_law_mixed" s_law_mixed ["_law_script", "_law_k"]) (m_len : mg "len" = none) (G_law_cell_at : Fn P w K mg base (CXr P w) 1 "_law_cell_at" ["_law_script", "_law_k"] (spCell K)) : Fn P w K mg base (CXr P w) 2 "_law_mixed" ["_law_script", "_law_k"] (spMixedC K) := by
  refine D.ok sc_law_mixed (fun vs H Q E h => ?_) (fun f cdv A outer s H vs Q E hr h => ?_)
  · obtain ⟨a, ns, k, rfl, _⟩ := h
    rfl
  obtain ⟨a, ns, k, rfl, hS, hb, h0, h1, q⟩ := h
  have px := passM (X := (cxOf (CXr P w) P w K mg base ["_law_script", "_law_k", "_law_number_here"] "_law_mixed" (defScope s_law_mixed) f cdv A outer s H E)) (CXr.mute (P := P) (w := w))
  refine ⟨_, (pss_cons (ps_if (pt_cmpR op_lt (pv 1) (pe_callB call_len_seq rfl m_len b_len (pac (pv 0) pa_nil)) (nomark _)) (pss_one (ps_ret (pe_ix ix_list (pv 0) (pv 1) (fun _ _ => rfl)))) pss_nil)
    (pss_cons (ps_set (i := 2) sc_law_mixed.nd rfl (Or.inl rfl) (pe_op op_add (pe_op op_add (pe_op op_modB (pe_fn G_law_cell_at (hr.mono (by decide)) px (pac (pv 0) (pac pe_int pa_nil))) pe_int) (pe_op op_mulB pe_int (pv 1))) pe_int))
    (pss_one (ps_ret (pe_op op_modB (pe_op op_mulB (pe_op op_mulB (pv 2) (pv 2)) (pe_op op_add (pv 1) pe_int)) pe_int))))), ?_⟩
  have hl : (ns.map V.int).length = ns.length := List.length_map _
  refine ⟨_, rfl, _, rfl, a, _, rfl, .inl hS, _, _, rfl, rfl, _, rfl, ?_⟩
  refine ite2 (fun c => ?_) (fun c => ?_)
  · have c' : k < (((ns.map V.int).length : Nat) : Int) := of_decide_eq_true c
    rw [hl] at c'
    exact ⟨_, rfl, _, rfl, a, _, k, _, rfl, rfl, hS, cell_in h0 c', q _ (cell_bits hb k)⟩
  · have m := fmod_in (x := cell ns 1) (m := 2147483647) (by decide)
    have b64 : ∀ {x : Int}, -(2 ^ 63) < x → x < 2 ^ 63 → intBits x ≤ 64 := fun h1 h2 => intBits_le_64 (by omega) (by omega)
    have cm : ∀ {x y : Int} {j k : Nat}, intBits x ≤ j → intBits y ≤ k → j ≤ 1000 → k ≤ 1000 → CMulB x y := fun h1 h2 h3 h4 => ⟨Nat.le_trans h1 (Nat.le_trans h3 (by decide)), Nat.le_trans h2 (Nat.le_trans h4 (by decide))⟩
    have bk : intBits k ≤ 64 := b64 (by omega) (by omega)
    have bn : intBits ((cell ns 1).fmod 2147483647 + 48271 * k + 7) ≤ 64 := b64 (by omega) (by omega)
    have bk3 : intBits (k + 3) ≤ 64 := b64 (by omega) (by omega)
    have bnn := intBits_mul_le bn bn
    refine ⟨_, rfl, a, ns, 1, rfl, hS, by decide, _, _, rfl, rfl, nz (by decide), ?_⟩
    refine ⟨_, rfl, _, _, rfl, rfl, cm (show intBits 48271 ≤ 64 by decide +kernel) bk (by decide) (by decide), _, _, rfl, rfl, _, _, rfl, rfl, ?_⟩
    refine ⟨_, rfl, _, rfl, _, _, rfl, rfl, cm bn bn (by decide) (by decide), ?_⟩
    have r := fmod_in (x := ((cell ns 1).fmod 2147483647 + 48271 * k + 7) * ((cell ns 1).fmod 2147483647 + 48271 * k + 7) * (k + 3)) (m := 2147483629) (by decide)
    exact ⟨_, rfl, _, _, rfl, rfl, _, _, rfl, rfl, cm bnn bk3 (by decide) (by decide), _, _, rfl, rfl, nz (by decide), q _ (Nat.le_trans (b64 (by omega) (by omega)) (by decide))⟩
theorem sm_low {t b : Int} {T B : Nat} (hb : 0 < b) (ht : t.natAbs ≤ 2 ^ T) (hbb : b.natAbs ≤ 2 ^ B) : Sm T B (low t b) :=
  have h : b ≠ 0 := by omega
  ⟨low_pos h, low_gcd h, Nat.le_trans (low_top_le h) ht, Nat.le_trans (low_bot_le h) hbb⟩
def spDraw : Sp := fun vs H Q _ => ∃ (c k : Int) (T B : Nat), vs = [.int c, .int k] ∧ intBits c ≤ 1048576 ∧ (k < 4 ∧ 1 ≤ T ∨ 200 ≤ T ∧ 10 ≤ B) ∧ ∀ q, Sm T B q → gives H Q q
theorem sc_law_draw : FnScope ["_law_cell", "_law_kind"] ["_law_cell", "_law_kind"] (defScope s_law_draw) := ⟨rfl, rfl, rfl, by decide +kernel, rfl, by decide +kernel, by decide +kernel⟩
theorem ok_law_draw (D : Def K mg "_law_draw" s_law_draw ["_law_cell", "_law_kind"]) (G_law_number : Fn P w K mg base (CXr P w) 33 "_law_number" ["_law_top", "_law_bottom"] spLaw_number) : Fn P w K mg base (CXr P w) 34 "_law_draw" ["_law_cell", "_law_kind"] spDraw := by
  refine D.ok sc_law_draw (fun vs H Q E h => ?_) (fun f cdv A outer s H vs Q E hr h => ?_)
  · obtain ⟨c, k, T, B, rfl, _⟩ := h
    rfl
  obtain ⟨c, k, T, B, rfl, bc, fit, q⟩ := h
  have px := passM (X := (cxOf (CXr P w) P w K mg base ["_law_cell", "_law_kind"] "_law_draw" (defScope s_law_draw) f cdv A outer s H E)) (CXr.mute (P := P) (w := w))
  refine ⟨_, (pss_cons (ps_if (pt_cmpR op_lt (pv 1) pe_int (nomark _)) (pss_one (ps_ret (pe_tup (pac (pe_op op_sub (pe_op op_modB (pv 0) pe_int) pe_int) (pac pe_int pa_nil))))) pss_nil)
    (pss_cons (ps_if (pt_cmpR op_lt (pv 1) pe_int (nomark _)) (pss_one (ps_ret (pe_fn G_law_number (hr.mono (by decide)) px (pac (pe_op op_sub (pe_op op_modB (pv 0) pe_int) pe_int) (pac (pe_op op_add pe_int (pe_op op_modB (pe_op op_fdivB (pv 0) pe_int) pe_int)) pa_nil))))) pss_nil)
    (pss_cons (ps_if (pt_cmpR op_eq (pv 1) pe_int (nomark _)) (pss_one (ps_ret (pe_fn G_law_number (hr.mono (by decide)) px (pac (pe_op op_sub (pe_op op_modB (pv 0) pe_int) pe_int) (pac (pe_op op_add pe_int (pe_op op_modB (pe_op op_mulB (pe_op op_modB (pv 0) pe_int) pe_int) pe_int)) pa_nil))))) pss_nil)
    (pss_one (ps_ret (pe_fn G_law_number (hr.mono (by decide)) px (pac (pe_op op_sub (pe_op op_modB (pe_op op_mulB (pe_op op_mulB (pv 0) (pv 0)) (pv 0)) (pe_op op_add (pe_op op_mulB pe_int (pe_op op_pow pe_int pe_int)) pe_int)) (pe_op op_pow pe_int pe_int)) (pac (pe_op op_add pe_int (pe_op op_modB (pe_op op_mulB (pe_op op_modB (pv 0) pe_int) pe_int) pe_int)) pa_nil)))))))), ?_⟩
  have cm : ∀ {i j : Int}, intBits i ≤ 2097152 → intBits j ≤ 1048576 → CMulB i j := fun a b => ⟨Nat.le_trans a (by decide), Nat.le_trans b (by decide)⟩
  have f200 : (2 : Nat) ^ 200 = 1606938044258990275541962092341162602522202993782792835301376 := by decide +kernel
  have f10 : (2 : Nat) ^ 10 = 1024 := by decide
  have fi : (10 : Int) ^ (30 : Int).toNat = 1000000000000000000000000000000 := by decide +kernel
  have num : ¬ k < 4 → ∀ t b : Int, 0 < b → b ≤ 1000 → t.natAbs ≤ 2 ^ 200 → spLaw_number [.int t, .int b] H Q E0 := fun nk t b h1 h2 h3 => by
    have ft : 200 ≤ T ∧ 10 ≤ B := by
      rcases fit with z | z
      · exact absurd z.1 nk
      · exact z
    have hb : b.natAbs ≤ 2 ^ 10 := by rw [f10]; omega
    exact ⟨t, b, rfl, h1, q _ ((sm_low h1 h3 hb).up ft.1 ft.2)⟩
  refine ⟨_, rfl, _, _, rfl, rfl, _, rfl, ?_⟩
  refine ite2 (fun _ => ?_) (fun nk0 => ?_)
  · have m := fmod_in (x := c) (m := 5) (by decide)
    refine ⟨_, rfl, _, _, rfl, rfl, nz (by decide), _, _, rfl, rfl, (by show 2 ≤ sizeLine; decide), fun p np => ?_⟩
    have hs : Sm 1 0 (c.fmod 5 - 2, 1) := ⟨(by show (0 : Int) < 1; decide), by simp, by show (c.fmod 5 - 2).natAbs ≤ 2 ^ 1; omega, (by show (1 : Int).natAbs ≤ 2 ^ 0; decide)⟩
    exact q (c.fmod 5 - 2, 1) (hs.up (by omega) (Nat.zero_le _)) p _ (same_new np _) upd_same
  have nk : ¬ k < 4 := fun z => nk0 (decide_eq_true z)
  refine ⟨_, rfl, _, _, rfl, rfl, _, rfl, ?_⟩
  refine ite2 (fun _ => ?_) (fun _ => ?_)
  · have m := fmod_in (x := c) (m := 13) (by decide)
    have m2 := fmod_in (x := c.fdiv 13) (m := 4) (by decide)
    refine ⟨_, rfl, _, _, rfl, rfl, nz (by decide), _, _, rfl, rfl, ?_⟩
    exact ⟨_, rfl, _, _, rfl, rfl, ⟨by decide, by decide +kernel⟩, _, _, rfl, rfl, nz (by decide), _, _, rfl, rfl, num nk _ _ (by omega) (by omega) (by rw [f200]; omega)⟩
  refine ⟨_, rfl, rfl, _, rfl, ?_⟩
  refine ite2 (fun _ => ?_) (fun _ => ?_)
  · have m := fmod_in (x := c) (m := 2000000001) (by decide)
    have m1 := fmod_in (x := c) (m := 1009) (by decide)
    have m2 := fmod_in (x := c.fmod 1009 * 48271) (m := 997) (by decide)
    refine ⟨_, rfl, _, _, rfl, rfl, nz (by decide), _, _, rfl, rfl, ?_⟩
    exact ⟨_, rfl, _, _, rfl, rfl, nz (by decide), _, _, rfl, rfl, cm (Nat.le_trans (intBits_le_64 (by omega) (by omega)) (by decide)) (by decide +kernel), _, _, rfl, rfl, nz (by decide), _, _, rfl, rfl, num nk _ _ (by omega) (by omega) (by rw [f200]; omega)⟩
  · have m := fmod_in (x := c * c * c) (m := 2 * 10 ^ (30 : Int).toNat + 1) (by decide +kernel)
    have m1 := fmod_in (x := c) (m := 1013) (by decide)
    have m2 := fmod_in (x := c.fmod 1013 * 69621) (m := 97) (by decide)
    have bcc : intBits (c * c) ≤ 2097152 := Nat.le_trans (intBits_mul_le bc bc) (by decide)
    refine ⟨_, rfl, _, rfl, _, _, rfl, rfl, cm (Nat.le_trans bc (by decide)) bc, _, rfl, _, _, rfl, rfl, cm bcc bc, ?_⟩
    refine ⟨_, _, rfl, rfl, ⟨by decide, by decide, by decide⟩, _, _, rfl, rfl, ⟨by decide +kernel, by decide +kernel⟩, _, _, rfl, rfl, _, _, rfl, rfl, nz (by decide +kernel), ?_⟩
    refine ⟨_, _, rfl, rfl, ⟨by decide, by decide, by decide⟩, _, _, rfl, rfl, ?_⟩
    refine ⟨_, rfl, _, _, rfl, rfl, nz (by decide), _, _, rfl, rfl, cm (Nat.le_trans (intBits_le_64 (by omega) (by omega)) (by decide)) (by decide +kernel), _, _, rfl, rfl, nz (by decide), _, _, rfl, rfl, num nk _ _ (by omega) (by omega) ?_⟩
    rw [f200]
    rw [fi] at m ⊢
    omega
def spAdd : Sp := fun vs H Q _ => ∃ (u v : V) (x y : Int × Int) (T B T' B' : Nat), vs = [u, v] ∧ Nm H u x ∧ Nm H v y ∧ Sm T B x ∧ Sm T' B' y ∧ T ≤ 10000000 ∧ B ≤ 10000000 ∧ T' ≤ 10000000 ∧ B' ≤ 10000000 ∧ ∀ q, Sm (max (T + B') (T' + B) + 1) (B + B') q → vl q = vl x + vl y → (x.2 = 1 → y.2 = 1 → q = (x.1 + y.1, 1)) → gives H Q q
theorem sc_law_add : FnScope ["_law_one", "_law_other"] ["_law_one", "_law_other"] (defScope s_law_add) := ⟨rfl, rfl, rfl, by decide +kernel, rfl, by decide +kernel, by decide +kernel⟩
theorem ok_law_add (D : Def K mg "_law_add" s_law_add ["_law_one", "_law_other"]) (G_law_number : Fn P w K mg base (CXr P w) 33 "_law_number" ["_law_top", "_law_bottom"] spLaw_number) : Fn P w K mg base (CXr P w) 34 "_law_add" ["_law_one", "_law_other"] spAdd := by
  refine D.ok sc_law_add (fun vs H Q E h => ?_) (fun f cdv A outer s H vs Q E hr h => ?_)
  · obtain ⟨u, v, x, y, T, B, T', B', rfl, _⟩ := h
    rfl
  obtain ⟨u, v, x, y, T, B, T', B', rfl, ⟨p1, rfl, h1⟩, ⟨p2, rfl, h2⟩, sx, sy, hT, hB, hT', hB', q⟩ := h
  have px := passM (X := (cxOf (CXr P w) P w K mg base ["_law_one", "_law_other"] "_law_add" (defScope s_law_add) f cdv A outer s H E)) (CXr.mute (P := P) (w := w))
  refine ⟨_, (pss_one (ps_ret (pe_fn G_law_number (hr.mono (by decide)) px (pac (pe_op op_add (pe_op op_mulB (pe_ix ix_tup (pv 0) pe_int (fun _ _ => rfl)) (pe_ix ix_tup (pv 1) pe_int (fun _ _ => rfl))) (pe_op op_mulB (pe_ix ix_tup (pv 1) pe_int (fun _ _ => rfl)) (pe_ix ix_tup (pv 0) pe_int (fun _ _ => rfl)))) (pac (pe_op op_mulB (pe_ix ix_tup (pv 0) pe_int (fun _ _ => rfl)) (pe_ix ix_tup (pv 1) pe_int (fun _ _ => rfl))) pa_nil))))), ?_⟩
  have pp := Int.mul_pos sx.pos sy.pos
  have bb := pw_mul sx.bot sy.bot
  have tt : (x.1 * y.2 + y.1 * x.2).natAbs ≤ 2 ^ (max (T + B') (T' + B) + 1) := pw_add (pw_up (pw_mul sx.top sy.bot) (Nat.le_max_left _ _)) (pw_up (pw_mul sy.top sx.bot) (Nat.le_max_right _ _))
  refine ⟨_, rfl, p1, _, _, _, rfl, rfl, SqT.of h1, at0, _, rfl, p2, _, _, _, rfl, rfl, SqT.of h2, at1, _, _, rfl, rfl, pw_cmul sx.top sy.bot (by omega) (by omega), ?_⟩
  refine ⟨_, rfl, p2, _, _, _, rfl, rfl, SqT.of h2, at0, _, rfl, p1, _, _, _, rfl, rfl, SqT.of h1, at1, _, _, rfl, rfl, pw_cmul sy.top sx.bot (by omega) (by omega), _, _, rfl, rfl, ?_⟩
  refine ⟨_, rfl, p1, _, _, _, rfl, rfl, SqT.of h1, at1, _, rfl, p2, _, _, _, rfl, rfl, SqT.of h2, at1, _, _, rfl, rfl, pw_cmul sx.bot sy.bot (by omega) (by omega), ?_⟩
  refine ⟨_, _, rfl, pp, q _ (sm_low pp tt bb) ?_ (fun e1 e2 => ?_)⟩
  case refine_2 =>
    rw [e1, e2]
    refine (low_self (by decide) (by simp)).trans ?_
    simp
  rw [vl_low (by omega)]
  have hx := ratne (b := x.2) (by have := sx.pos; omega)
  have hy := ratne (b := y.2) (by have := sy.pos; omega)
  unfold vl
  push_cast
  grind
theorem nums_of {H : Hp} {T B : Nat} : ∀ {ys : List V}, (∀ (i : Nat) (v : V), ys[i]? = some v → ∃ q, Sm T B q ∧ Nm H v q) → ∃ qs, Nms H ys qs ∧ ∀ q ∈ qs, Sm T B q
  | [], _ => ⟨[], ⟨rfl, fun i u q e => by simp at e⟩, (fun q h => nomatch h)⟩
  | y :: ys, h => by
    obtain ⟨q, s, n⟩ := h 0 y rfl
    obtain ⟨qs, ⟨l, ns⟩, ss⟩ := nums_of (ys := ys) (fun i v e => h (i + 1) v (by simpa using e))
    refine ⟨q :: qs, ⟨by simp [l], fun i u q' e1 e2 => ?_⟩, fun q' hq => ?_⟩
    · cases i with
      | zero =>
        cases e1
        cases e2
        exact n
      | succ i => exact ns i u q' (by simpa using e1) (by simpa using e2)
    · rcases List.mem_cons.mp hq with z | z
      · rw [z]; exact s
      · exact ss q' z
theorem Own.snoc {H0 H : Hp} {r D : Addr} {ls : List Addr} {vss : List (List V)} {qss : List (List (Int × Int))} {us : List V} {qs : List (Int × Int)} (h : Own H0 H r ls vss qss) (hD : H D = some (.lst us)) (nD : D ∉ ls) (nr : D ≠ r) (f : H0 D = none) (n : Nms H us qs) :
    Own H0 (upd H r (.lst (ls.map V.ref ++ [.ref D]))) r (ls ++ [D]) (vss ++ [us]) (qss ++ [qs]) := by
  obtain ⟨m1, m2, m3⟩ := h.mat
  have ts : TSame H (upd H r (.lst (ls.map V.ref ++ [.ref D]))) := TSame.lst m1
  have nel : ∀ l ∈ ls, l ≠ r := fun l hl z => h.nr (z ▸ hl)
  have l2 := h.num.1
  have two : ∀ {α : Type} {xs : List α} {x y : α} {j : Nat}, (xs ++ [x])[j]? = some y → (j < xs.length ∧ xs[j]? = some y) ∨ (j = xs.length ∧ x = y) := fun {α xs x y j} e => by
    by_cases c : j < xs.length
    · rw [List.getElem?_append_left c] at e
      exact .inl ⟨c, e⟩
    · rw [List.getElem?_append_right (by omega)] at e
      by_cases z : j - xs.length = 0
      · rw [z] at e
        exact .inr ⟨by omega, Option.some.inj e⟩
      · rw [List.getElem?_eq_none (by simp; omega)] at e
        cases e
  refine ⟨fun b o e => ?_, ⟨?_, by simp [m2], fun j l vs e1 e2 => ?_⟩, ⟨by simp [h.num.1], fun j vs qs' e1 e2 => ?_⟩, fun a b l e1 e2 => ?_, fun z => ?_, h.fr, fun l hl => ?_⟩
  · rw [upd_ne (fun z => by rw [z, h.fr] at e; cases e)]
    exact h.since _ _ e
  · rw [upd_same, List.map_append]
    rfl
  · rcases two e1 with ⟨c1, d1⟩ | ⟨c1, d1⟩ <;> rcases two e2 with ⟨c2, d2⟩ | ⟨c2, d2⟩
    · rw [upd_ne (nel l (List.mem_of_getElem? d1))]
      exact m3 j l vs d1 d2
    · omega
    · omega
    · subst d1 d2
      rw [upd_ne nr]
      exact hD
  · rcases two e1 with ⟨c1, d1⟩ | ⟨c1, d1⟩ <;> rcases two e2 with ⟨c2, d2⟩ | ⟨c2, d2⟩
    · exact (h.num.2 j vs qs' d1 d2).tsame ts
    · omega
    · omega
    · subst d1 d2
      exact n.tsame ts
  · rcases two e1 with ⟨c1, d1⟩ | ⟨c1, d1⟩ <;> rcases two e2 with ⟨c2, d2⟩ | ⟨c2, d2⟩
    · exact h.nd a b l d1 d2
    · exact absurd (List.mem_of_getElem? d1) (d2 ▸ nD)
    · exact absurd (List.mem_of_getElem? d2) (d1 ▸ nD)
    · omega
  · rcases List.mem_append.mp z with y | y
    · exact h.nr y
    · exact nr (List.mem_singleton.mp y).symm
  · rcases List.mem_append.mp hl with y | y
    · exact h.fl l y
    · rw [List.mem_singleton.mp y]; exact f
def spRows (K : PySem.W.Frag) : Sp := fun vs H Q _ => ∃ (a : Addr) (ns : List Int) (m n k : Int) (T B : Nat), vs = [.ref a, .int m, .int n, .int k] ∧ SqL K H a (ns.map V.int) ∧ (∀ i ∈ ns, intBits i ≤ 1048576) ∧ 0 ≤ m ∧ m ≤ 100 ∧ 0 ≤ n ∧ n ≤ 100 ∧ (k < 4 ∧ 1 ≤ T ∨ 200 ≤ T ∧ 10 ≤ B) ∧
  ∀ r ls vss qss H', Own H H' r ls vss qss → (qss.length : Int) = n → Shape T B m.toNat qss → Q (.ref r) H'
theorem sc_law_rows : FnScope ["_law_script", "_law_many", "_law_count", "_law_kind", "_law_rows_here", "_law_i"] ["_law_script", "_law_many", "_law_count", "_law_kind"] (defScope s_law_rows) := ⟨rfl, rfl, rfl, by decide +kernel, rfl, by decide +kernel, by decide +kernel⟩
theorem ok_law_rows (D : Def K mg "_law_rows" s_law_rows ["_law_script", "_law_many", "_law_count", "_law_kind"]) (m_range : mg "range" = none) (G_law_draw : Fn P w K mg base (CXr P w) 34 "_law_draw" ["_law_cell", "_law_kind"] spDraw) (G_law_mixed : Fn P w K mg base (CXr P w) 2 "_law_mixed" ["_law_script", "_law_k"] (spMixedC K)) :
    Fn P w K mg base (CXr P w) 35 "_law_rows" ["_law_script", "_law_many", "_law_count", "_law_kind"] (spRows K) := by
  refine D.ok sc_law_rows (fun vs H Q E h => ?_) (fun f cdv A outer s H vs Q E hr h => ?_)
  · obtain ⟨a, ns, m, n, k, T, B, rfl, _⟩ := h
    rfl
  obtain ⟨a, ns, m, n, k, T, B, rfl, hS, hb, m0, m1, n0, n1, fit, q⟩ := h
  have px := passM (X := (cxOf (CXr P w) P w K mg base ["_law_script", "_law_many", "_law_count", "_law_kind", "_law_rows_here", "_law_i"] "_law_rows" (defScope s_law_rows) f cdv A outer s H E)) (CXr.mute (P := P) (w := w))
  refine ⟨_, (pss_cons (ps_set (i := 4) sc_law_rows.nd rfl (Or.inl rfl) (pe_lst pa_nil))
    (pss_cons (ps_for PassesOwn.never rfl (pi_range1 rfl m_range (pac (pv 2) pa_nil)) (pg_name (i := 5) sc_law_rows.nd rfl (Or.inr rfl)) (pss_one (ps_expr (pe_bm PySem.F.plainAttrs_list PySem.F.slot_list_append PySem.F.type_list_append mt_append (pv 4) (pac (pe_comp (tn := ["_law_j"]) (fr := ["_law_script", "_law_many", "_law_kind", "_law_i"]) (caps := [0, 1, 3, 5]) rfl ⟨rfl, by decide +kernel, rfl, by decide +kernel, by decide +kernel, rfl, ⟨(by first | exact Or.inl rfl | exact Or.inr rfl), ⟨(by first | exact Or.inl rfl | exact Or.inr rfl), ⟨(by first | exact Or.inl rfl | exact Or.inr rfl), ⟨(by first | exact Or.inl rfl | exact Or.inr rfl), trivial⟩⟩⟩⟩, ⟨(by first | exact Or.inl rfl | exact Or.inr rfl), ⟨(by first | exact Or.inl rfl | exact Or.inr rfl), ⟨(by first | exact Or.inl rfl | exact Or.inr rfl), ⟨(by first | exact Or.inl rfl | exact Or.inr rfl), trivial⟩⟩⟩⟩⟩ (pi_range1 rfl m_range (pac (pv 1) pa_nil)) (fun _ _ _ _ => (pg_name (i := 0) (show (["_law_j", "_law_script", "_law_many", "_law_kind", "_law_i"] : List Str).Nodup from by decide +kernel) rfl (Or.inl rfl))) (fun _ _ _ _ => pf_nil) (fun _ _ _ _ => (pe_fn G_law_draw (hr.mono (by decide)) (passB (by first | assumption | exact CXr.mute) rfl) (pac (pe_fn G_law_mixed (hr.mono (by decide)) (passB (by first | assumption | exact CXr.mute) rfl) (pac (pv 1) (pac (pe_op op_add (pe_op op_add pe_int (pe_op op_mulB (pv 4) (pv 2))) (pv 0)) pa_nil))) (pac (pv 3) pa_nil))))) pa_nil)))))
    (pss_one (ps_ret (pv 4))))), ?_⟩
  refine ⟨(by show 0 ≤ sizeLine; decide), fun r nr => ?_⟩
  refine ⟨_, rfl, _, rfl, by omega, by omega, ?_⟩
  refine for_range (lo := 0) (n := n.toNat) (fun i σ H' => ∃ (o : Option V) (ls : List Addr) (vss : List (List V)) (qss : List (List (Int × Int))), σ = [some (.ref a), some (.int m), some (.int n), some (.int k), some (.ref r), o] ∧ Own H H' r ls vss qss ∧ qss.length = i ∧ Shape T B m.toNat qss) ⟨none, [], [], [], rfl, ⟨same_new nr _, ⟨upd_same, rfl, fun i l vs e => by simp at e⟩, ⟨rfl, fun i vs qs e => by simp at e⟩, fun i j l e => by simp at e, by simp, nr, fun l h => nomatch h⟩, rfl, fun qs h => nomatch h⟩ ?_ ?_
  · rintro i σ H' hi ⟨o, ls, vss, qss, rfl, ow, lq, sh⟩
    obtain ⟨w1, w2, w3⟩ := ow.mat
    have hS' := ow.since.seq hS
    have lv := ow.num.1
    refine ⟨_, rfl, .inl ⟨rfl, _, SqL.of w1⟩, ?_⟩
    refine ⟨_, rfl, _, rfl, by omega, by omega, fun D nD => ?_⟩
    refine comp_range (lo := 0) (n := m.toNat) (cap := [some (.ref a), some (.int m), some (.int k), some (.int ((0 : Int) + i))]) (fun _ v H2 => ∃ q, Sm T B q ∧ Nm H2 v q) nD (Nat.lt_of_le_of_lt (show m.toNat ≤ 100 by omega) (by decide)) (fun i v H2 H3 ys e ks ⟨q, s, n⟩ => ⟨q, s, n.kept e ks⟩) ?_ ?_
    · intro j H2 R hj s2 kk
      have bi : intBits ((0 : Int) + i) ≤ 64 := intBits_le_64 (by omega) (by omega)
      have bm : intBits m ≤ 64 := intBits_le_64 (by omega) (by omega)
      have cm : CMulB ((0 : Int) + i) m := ⟨Nat.le_trans bi (by decide), Nat.le_trans bm (by decide)⟩
      have p0 : (0 : Int) ≤ ((0 : Int) + i) * m := Int.mul_nonneg (by omega) m0
      have p1 : ((0 : Int) + i) * m ≤ 100 * 100 := Int.mul_le_mul (by omega) m1 m0 (by decide)
      refine ⟨_, rfl, _, rfl, _, rfl, _, _, rfl, rfl, cm, _, _, rfl, rfl, _, rfl, _, _, rfl, rfl, ?_⟩
      refine ⟨a, ns, _, rfl, s2.seq hS', hb, by omega, by omega, fun c bc => ?_⟩
      exact ⟨_, rfl, c, k, T, B, rfl, bc, fit, fun n' sn p H6 s6 e6 => kk _ _ s6 ⟨n', sn, p, rfl, e6⟩⟩
    · intro us H2 hl hrel s2 hD
      obtain ⟨qs, N1, S1⟩ := nums_of hrel
      have ow2 := ow.same s2
      have fD : H D = none := ow.since.free nD
      have nDl : D ∉ ls := fun z => by
        obtain ⟨j, hj⟩ := List.getElem?_of_mem z
        have hj' : j < ls.length := (List.getElem?_eq_some_iff.mp hj).1
        have := w3 j D (vss[j]'(by omega)) hj (List.getElem?_eq_getElem (by omega))
        rw [nD] at this
        cases this
      have nDr : D ≠ r := fun z => by rw [z, w1] at nD; cases nD
      refine ⟨r, _, _, rfl, rfl, s2 _ _ w1, by rw [List.length_map]; exact Nat.lt_of_le_of_lt (show ls.length ≤ 100 by omega) (by decide), ?_⟩
      refine ⟨_, ls ++ [D], vss ++ [us], qss ++ [qs], rfl, ow2.snoc hD nDl nDr fD N1, by simp [lq], fun qs' h' => ?_⟩
      rcases List.mem_append.mp h' with z | z
      · exact sh qs' z
      · rw [List.mem_singleton.mp z]
        exact ⟨by have := N1.1; omega, S1⟩
  · rintro σ H' ⟨o, ls, vss, qss, rfl, ow, lq, sh⟩
    exact ⟨_, rfl, q r ls vss qss H' ow (by omega) sh⟩
theorem fdiv_half {m : Int} (h : 2 ≤ m) : ∃ j : Nat, (m - 1).fdiv 2 = (j : Int) ∧ (j : Int) < m - 1 := by
  have e : (m - 1).fdiv 2 = (m - 1) / 2 := Int.fdiv_eq_ediv_of_nonneg _ (by decide)
  obtain ⟨j, ej⟩ := Int.eq_ofNat_of_zero_le (show 0 ≤ (m - 1) / 2 by omega)
  exact ⟨j, by rw [e]; exact ej, by omega⟩
theorem ixN_nat {n j : Nat} (h : j < n) : ixN n (j : Int) = some j := ixN_at h
theorem ixN_last {n : Nat} (h : 0 < n) : ixN n (-1) = some (n - 1) := by
  unfold ixN
  simp
  omega
theorem Own.fresh {H0 H : Hp} {r D : Addr} {ls : List Addr} {vss : List (List V)} {qss : List (List (Int × Int))} (h : Own H0 H r ls vss qss) (nD : H D = none) : D ∉ ls ∧ D ≠ r ∧ H0 D = none := by
  obtain ⟨w1, w2, w3⟩ := h.mat
  refine ⟨fun z => ?_, (fun z => by rw [z, w1] at nD; cases nD), h.since.free nD⟩
  obtain ⟨j, hj⟩ := List.getElem?_of_mem z
  have hj' : j < ls.length := (List.getElem?_eq_some_iff.mp hj).1
  have := w3 j D (vss[j]'(by omega)) hj (List.getElem?_eq_getElem (by omega))
  rw [nD] at this
  cases this
theorem Shape.set {T B m i : Nat} {qss : List (List (Int × Int))} {qs : List (Int × Int)} (h : Shape T B m qss) (hl : qs.length = m) (hq : ∀ q ∈ qs, Sm T B q) : Shape T B m (qss.set i qs) := fun qs' h' => by
  rcases List.mem_or_eq_of_mem_set h' with z | z
  · exact h qs' z
  · rw [z]; exact ⟨hl, hq⟩
def spLean : Sp := fun vs H Q _ => ∃ (H0 : Hp) (r : Addr) (ls : List Addr) (vss : List (List V)) (qss : List (List (Int × Int))) (m how : Int) (T B T' B' : Nat), vs = [.ref r, .int m, .int how] ∧ Own H0 H r ls vss qss ∧ Shape T B m.toNat qss ∧ 0 ≤ m ∧ m ≤ 100 ∧ qss.length ≤ 100 ∧ T + B + 7 ≤ T' ∧ B + B ≤ B' ∧ T' ≤ 1000 ∧ B' ≤ 1000 ∧
  ∀ ls' vss' qss' H', Own H0 H' r ls' vss' qss' → qss'.length = qss.length → Shape T' B' m.toNat qss' → Q (.ref r) H'
theorem sc_law_leaning : FnScope ["_law_rows_here", "_law_many", "_law_how", "_law_row", "_law_i"] ["_law_rows_here", "_law_many", "_law_how"] (defScope s_law_leaning) := ⟨rfl, rfl, rfl, by decide +kernel, rfl, by decide +kernel, by decide +kernel⟩
theorem ok_law_leaning (D : Def K mg "_law_leaning" s_law_leaning ["_law_rows_here", "_law_many", "_law_how"]) (m_len : mg "len" = none) (m_range : mg "range" = none) (G_law_add : Fn P w K mg base (CXr P w) 34 "_law_add" ["_law_one", "_law_other"] spAdd) (G_law_number : Fn P w K mg base (CXr P w) 33 "_law_number" ["_law_top", "_law_bottom"] spLaw_number) :
    Fn P w K mg base (CXr P w) 35 "_law_leaning" ["_law_rows_here", "_law_many", "_law_how"] spLean := by
  refine D.ok sc_law_leaning (fun vs H Q E h => ?_) (fun f cdv A outer s H vs Q E hr h => ?_)
  · obtain ⟨H0, r, ls, vss, qss, m, how, T, B, T', B', rfl, _⟩ := h
    rfl
  obtain ⟨H0, r, ls, vss, qss, m, how, T, B, T', B', rfl, ow, sh, m0, m1, nq, hT, hB, hT1, hB1, q⟩ := h
  have px := passM (X := (cxOf (CXr P w) P w K mg base ["_law_rows_here", "_law_many", "_law_how", "_law_row", "_law_i"] "_law_leaning" (defScope s_law_leaning) f cdv A outer s H E)) (CXr.mute (P := P) (w := w))
  -- behind the third way
  have tail3 : ∃ t, PSs (cxOf (CXr P w) P w K mg base ["_law_rows_here", "_law_many", "_law_how", "_law_row", "_law_i"] "_law_leaning" (defScope s_law_leaning) f cdv A outer s H E).nox ((defBody s_law_leaning).drop 3) t ∧ ∀ (o1 o2 : Option V) ls' vss' qss' H', Own H0 H' r ls' vss' qss' → qss'.length = qss.length → Shape T' B' m.toNat qss' → t { nx := fun _ H' => Q .non H', rt := Q } [some (.ref r), some (.int m), some (.int how), o1, o2] H' := by
    refine ⟨_, pss_one (ps_ret (pv 0)), ?_⟩
    intro o1 o2 ls' vss' qss' H' ow' l' sh'
    exact ⟨_, rfl, q ls' vss' qss' H' ow' l' sh'⟩
  obtain ⟨t3, p3, q3⟩ := tail3
  have tail2 : ∃ t, PSs (cxOf (CXr P w) P w K mg base ["_law_rows_here", "_law_many", "_law_how", "_law_row", "_law_i"] "_law_leaning" (defScope s_law_leaning) f cdv A outer s H E).nox ((defBody s_law_leaning).drop 2) t ∧ (∀ (o1 o2 : Option V) ls' vss' qss' H', how ≠ 3 → Own H0 H' r ls' vss' qss' → qss'.length = qss.length → Shape T' B' m.toNat qss' → t { nx := fun _ H' => Q .non H', rt := Q } [some (.ref r), some (.int m), some (.int how), o1, o2] H') ∧
      ∀ (o1 o2 : Option V), how = 3 → t { nx := fun _ H' => Q .non H', rt := Q } [some (.ref r), some (.int m), some (.int how), o1, o2] H := by
    refine ⟨_, (pss_cons (ps_if (pt_cmpR op_eq (pv 2) pe_int (nomark _)) (pss_one (ps_for PassesOwn.never rfl (pi_range2 rfl m_range (pac pe_int (pac (pe_callB call_len_seq rfl m_len b_len (pac (pv 0) pa_nil)) pa_nil))) (pg_name (i := 4) sc_law_leaning.nd rfl (Or.inr rfl)) (pss_one (ps_asg (pe_comp (tn := ["_law_one"]) (fr := ["_law_i"]) (caps := [4]) rfl ⟨rfl, by decide +kernel, rfl, by decide +kernel, by decide +kernel, rfl, ⟨(by first | exact Or.inl rfl | exact Or.inr rfl), trivial⟩, ⟨(by first | exact Or.inl rfl | exact Or.inr rfl), trivial⟩⟩ (pi_list (pe_ix ix_list (pv 0) pe_int (fun _ _ => rfl))) (fun _ _ _ _ => (pg_name (i := 0) (show (["_law_one", "_law_i"] : List Str).Nodup from by decide +kernel) rfl (Or.inl rfl))) (fun _ _ _ _ => pf_nil) (fun _ _ _ _ => (pe_fn G_law_number (hr.mono (by decide)) (passB (by first | assumption | exact CXr.mute) rfl) (pac (pe_op op_mulB (pv 1) (pe_ix (ix_tupK (K := K) rfl) (pv 0) pe_int (fun _ _ => rfl))) (pac (pe_ix (ix_tupK (K := K) rfl) (pv 0) pe_int (fun _ _ => rfl)) pa_nil))))) (pg_sub (pv 0) (pv 4) set_list))))) pss_nil) p3), ?_, ?_⟩
    · intro o1 o2 ls' vss' qss' H' ne ow' l' sh'
      refine ⟨_, rfl, rfl, _, rfl, ?_⟩
      refine ite2 (fun c => absurd (by simpa using of_decide_eq_true c) ne) (fun _ => ?_)
      exact q3 _ _ _ _ _ _ ow' l' sh'
    · intro o1 o2 e3
      refine ⟨_, rfl, rfl, _, rfl, ?_⟩
      refine ite2 (fun _ => ?_) (fun c => absurd (decide_eq_true (by rw [e3])) c)
      have lv := ow.num.1
      have lm := ow.mat.2.1
      refine ⟨_, rfl, r, _, rfl, .inl (SqL.of ow.mat.1), _, _, rfl, ⟨by decide, by decide, by rw [List.length_map]; omega, by rw [List.length_map]; omega⟩, ?_⟩
      refine for_range (lo := 1) (n := (((ls.map V.ref).length : Int) - 1).toNat) (fun i σ H' => ∃ (o : Option V) (ls' : List Addr) (vss' : List (List V)) (qss' : List (List (Int × Int))), σ = [some (.ref r), some (.int m), some (.int how), o1, o] ∧ Own H0 H' r ls' vss' qss' ∧ qss'.length = qss.length ∧ Shape T' B' m.toNat qss' ∧ ∀ qs, qss'[0]? = some qs → ∀ q ∈ qs, Sm T B q) ⟨o2, ls, vss, qss, rfl, ow, rfl, sh.up (by omega) (by omega), fun qs e q hq => (sh qs (List.mem_of_getElem? e)).2 q hq⟩ ?_ ?_
      · rintro i σ H' hi ⟨o, ls', vss', qss', rfl, ow', l', sh', f0⟩
        rw [List.length_map] at hi
        have lv' := ow'.num.1
        have lm' := ow'.mat.2.1
        have e0 : qss'[0]? = some (qss'[0]'(by omega)) := List.getElem?_eq_getElem (by omega)
        obtain ⟨l0, us0, el, eu, hl0, N0⟩ := ow'.row e0
        have S0 := f0 _ e0
        have z0 := (sh' _ (List.mem_of_getElem? e0)).1
        generalize qss'[0]'(by omega) = qs0 at *
        have a0 : atI (ls'.map V.ref) 0 = some (.ref l0) := by
          have : atI (ls'.map V.ref) ((0 : Nat) : Int) = some (.ref l0) := atI_nat (by rw [List.getElem?_map, el]; rfl)
          exact this
        refine ⟨_, rfl, r, _, _, _, rfl, rfl, SqL.of ow'.mat.1, a0, ?_⟩
        refine ⟨l0, rfl, ⟨_, SqL.of hl0⟩, fun D nD => ?_⟩
        have b1i : (1 + (i : Int)).natAbs ≤ 2 ^ 7 := by
          have : (2 : Nat) ^ 7 = 128 := by decide
          omega
        refine comp_list (cap := [some (.int (1 + (i : Int)))]) (K := K) (a := l0) (xs := us0) (fun _ v H2 => ∃ q, Sm T' B' q ∧ Nm H2 v q) nD (by rw [N0.1]; exact Nat.lt_of_le_of_lt (show qs0.length ≤ 100 by omega) (by decide)) (fun H2 s2 => SqL.of (s2 _ _ hl0)) (fun i v H2 H3 ys e ks ⟨q, s, n⟩ => ⟨q, s, n.kept e ks⟩) ?_ ?_
        · intro j u H2 R hu s2 kk
          obtain ⟨n', en, p, rfl, hp⟩ := N0.at hu
          have sn := S0 n' (List.mem_of_getElem? en)
          have hp2 := s2 _ _ hp
          refine ⟨_, rfl, _, rfl, p, _, _, _, rfl, rfl, SqT.of hp2, at0, _, _, rfl, rfl, pw_cmul b1i sn.top (by decide) (by omega), ?_⟩
          refine ⟨_, rfl, p, _, _, _, rfl, rfl, SqT.of hp2, at1, ?_⟩
          exact ⟨_, _, rfl, sn.pos, fun p2 H6 s6 e6 => kk _ _ s6 ⟨_, sm_low sn.pos (pw_up (pw_mul b1i sn.top) (by omega)) (pw_up sn.bot (by omega)), p2, rfl, e6⟩⟩
        · intro us H2 hy hrel s2 hD
          obtain ⟨qs, N1, S1⟩ := nums_of hrel
          have lN := N1.1
          have lN0 := N0.1
          obtain ⟨d1, d2, d3⟩ := ow'.fresh nD
          have ow2 := ow'.same s2
          have ei : (1 : Int) + (i : Int) = ((i + 1 : Nat) : Int) := by omega
          refine ⟨_, rfl, _, rfl, r, _, _, i + 1, rfl, rfl, ow2.mat.1, by rw [ei, List.length_map]; exact ixN_nat (by omega), ?_⟩
          refine ⟨_, _, _, _, rfl, ow2.set hD d1 d2 d3 N1, by simp [l'], sh'.set (by omega) S1, fun qs' e' => ?_⟩
          rw [List.getElem?_set, if_neg (by omega)] at e'
          rw [e0] at e'
          cases e'
          exact S0
      · rintro σ H' ⟨o, ls', vss', qss', rfl, ow', l', sh', _⟩
        exact q3 _ _ _ _ _ _ ow' l' sh'
  obtain ⟨t2, p2, q2, q2'⟩ := tail2
  have tail1 : ∃ t, PSs (cxOf (CXr P w) P w K mg base ["_law_rows_here", "_law_many", "_law_how", "_law_row", "_law_i"] "_law_leaning" (defScope s_law_leaning) f cdv A outer s H E).nox ((defBody s_law_leaning).drop 1) t ∧ (∀ (o1 o2 : Option V) ls' vss' qss' H', how = 1 → Own H0 H' r ls' vss' qss' → qss'.length = qss.length → Shape T' B' m.toNat qss' → t { nx := fun _ H' => Q .non H', rt := Q } [some (.ref r), some (.int m), some (.int how), o1, o2] H') ∧
      ∀ (o1 o2 : Option V), t { nx := fun _ H' => Q .non H', rt := Q } [some (.ref r), some (.int m), some (.int how), o1, o2] H := by
    refine ⟨_, (pss_cons (ps_if (PW.pt (pw_and (pt_cmpR op_eq (pv 2) pe_int (nomark _)) (pw_and1 (pt_cmpR op_gt (pv 1) pe_int (nomark _))))) (pss_one (ps_for PassesOwn.never rfl (pi_list (pv 0)) (pg_name (i := 3) sc_law_leaning.nd rfl (Or.inl rfl)) (pss_one (ps_asg (pe_fn G_law_add (hr.mono (by decide)) px (pac (pe_ix ix_list (pv 3) pe_int (fun _ _ => rfl)) (pac (pe_ix ix_list (pv 3) (pe_op op_fdivB (pe_op op_sub (pv 1) pe_int) pe_int) (fun _ _ => rfl)) pa_nil))) (pg_sub (pv 3) (pe_op op_sub (pv 1) pe_int) set_list))))) pss_nil) p2), ?_, ?_⟩
    · intro o1 o2 ls' vss' qss' H' e1 ow' l' sh'
      refine ⟨_, rfl, rfl, _, rfl, ?_⟩
      refine ite2 (fun c => absurd (of_decide_eq_true c) (by rw [e1]; intro z; cases z)) (fun _ => ?_)
      exact iteF (q2 _ _ _ _ _ _ (by omega) ow' l' sh')
    · intro o1 o2
      refine ⟨_, rfl, rfl, _, rfl, ?_⟩
      have leave : t2 { nx := fun _ H' => Q .non H', rt := Q } [some (.ref r), some (.int m), some (.int how), o1, o2] H := by
        by_cases e3 : how = 3
        · exact q2' _ _ e3
        · exact q2 _ _ _ _ _ _ e3 ow rfl (sh.up (by omega) (by omega))
      refine ite2 (fun c => ?_) (fun _ => iteF leave)
      have e2 : how = 2 := by simpa using of_decide_eq_true c
      refine ⟨_, rfl, _, _, rfl, rfl, _, rfl, ?_⟩
      refine ite2 (fun c => ?_) (fun _ => leave)
      have hm : 2 ≤ m := by
        have : (1 : Int) < m := of_decide_eq_true c
        omega
      obtain ⟨j2, ej2, hj2⟩ := fdiv_half hm
      refine ⟨_, rfl, r, rfl, ⟨_, SqL.of ow.mat.1⟩, for_list (K := K) (a := r) (xs := ls.map V.ref) (fun i σ H' => ∃ (o : Option V) (vss' : List (List V)) (qss' : List (List (Int × Int))), σ = [some (.ref r), some (.int m), some (.int how), o, o2] ∧ Own H0 H' r ls vss' qss' ∧ qss'.length = qss.length ∧ Shape T' B' m.toNat qss' ∧ ∀ k, i ≤ k → ∀ qs, qss'[k]? = some qs → ∀ q ∈ qs, Sm T B q) ⟨o1, vss, qss, rfl, ow, rfl, sh.up (by omega) (by omega), fun k _ qs e q hq => (sh qs (List.mem_of_getElem? e)).2 q hq⟩ (fun i σ H' _ ⟨o, vss', qss', _, ow', _⟩ => SqL.of ow'.mat.1) ?_ ?_⟩
      · rintro i u σ H' hu ⟨o, vss', qss', rfl, ow', l', sh', rest⟩
        rw [List.getElem?_map] at hu
        obtain ⟨l, el, rfl⟩ := Option.map_eq_some_iff.mp hu
        have hi : i < ls.length := (List.getElem?_eq_some_iff.mp el).1
        have lv' := ow'.num.1
        have lm' := ow'.mat.2.1
        have eq : qss'[i]? = some (qss'[i]'(by omega)) := List.getElem?_eq_getElem (by omega)
        obtain ⟨l2, us, el2, eu, hl, N⟩ := ow'.row eq
        have S := rest i (Nat.le_refl i) _ eq
        have zl := (sh' _ (List.mem_of_getElem? eq)).1
        have Sb := (sh' _ (List.mem_of_getElem? eq)).2
        generalize qss'[i]'(by omega) = qs at *
        rw [el] at el2
        cases el2
        have at_ : ∀ j : Nat, (j : Int) < m → ∃ n p, qs[j]? = some n ∧ Sm T B n ∧ atI us (j : Int) = some (.ref p) ∧ H' p = some (.tup [.int n.1, .int n.2]) := fun j hj => by
          have ej : qs[j]? = some (qs[j]'(by omega)) := List.getElem?_eq_getElem (by omega)
          obtain ⟨u, eu', p, rfl, hp⟩ := N.at' ej
          exact ⟨_, p, ej, S _ (List.mem_of_getElem? ej), atI_nat eu', hp⟩
        obtain ⟨n1, p1, en1, sn1, a1, h1⟩ := at_ 0 (by omega)
        obtain ⟨n2, p2', en2, sn2, a2, h2⟩ := at_ j2 (by omega)
        refine ⟨_, rfl, l, _, _, _, rfl, rfl, SqL.of hl, a1, ?_⟩
        refine ⟨_, rfl, _, rfl, _, _, rfl, rfl, _, _, rfl, rfl, ⟨by decide, by decide +kernel⟩, l, _, _, _, rfl, rfl, SqL.of hl, by rw [ej2]; exact a2, ?_⟩
        refine ⟨_, _, n1, n2, T, B, T, B, rfl, ⟨p1, rfl, h1⟩, ⟨p2', rfl, h2⟩, sn1, sn2, by omega, by omega, by omega, by omega, fun n3 sn3 _ _ p3' H3 s3 e3 => ?_⟩
        have ow3 := ow'.same s3
        have em : m - 1 = (((m - 1).toNat : Nat) : Int) := by omega
        refine ⟨_, rfl, _, rfl, _, _, rfl, rfl, l, _, _, (m - 1).toNat, rfl, rfl, s3 _ _ hl, by rw [em]; exact ixN_nat (by rw [N.1]; omega), ?_⟩
        refine ⟨_, _, _, rfl, ow3.put (j := (m - 1).toNat) (v := .ref p3') (q := n3) el eu eq ⟨p3', rfl, e3⟩, by simp [l'], sh'.set (by simp [zl]) (fun n hn => ?_), fun k hk qs' e' => ?_⟩
        · rcases List.mem_or_eq_of_mem_set hn with z | z
          · exact Sb n z
          · rw [z]; exact sn3.up (by omega) (by omega)
        · rw [List.getElem?_set, if_neg (by omega)] at e'
          exact rest k (by omega) qs' e'
      · rintro σ H' ⟨o, vss', qss', rfl, ow', l', sh', _⟩
        exact q2 _ _ _ _ _ _ (by omega) ow' l' sh'
  obtain ⟨t1, p1, q1, q1'⟩ := tail1
  refine ⟨_, (pss_cons (ps_if (PW.pt (pw_and (pt_cmpR op_eq (pv 2) pe_int (nomark _)) (pw_and1 (pt_cmpR op_gt (pe_callB call_len_seq rfl m_len b_len (pac (pv 0) pa_nil)) pe_int (nomark _))))) (pss_one (ps_asg (pe_comp (tn := ["_law_j"]) (fr := ["_law_rows_here"]) (caps := [0]) rfl ⟨rfl, by decide +kernel, rfl, by decide +kernel, by decide +kernel, rfl, ⟨(by first | exact Or.inl rfl | exact Or.inr rfl), trivial⟩, ⟨(by first | exact Or.inl rfl | exact Or.inr rfl), trivial⟩⟩ (pi_range1 rfl m_range (pac (pv 1) pa_nil)) (fun _ _ _ _ => (pg_name (i := 0) (show (["_law_j", "_law_rows_here"] : List Str).Nodup from by decide +kernel) rfl (Or.inl rfl))) (fun _ _ _ _ => pf_nil) (fun _ _ _ _ => (pe_fn G_law_add (hr.mono (by decide)) (passB (by first | assumption | exact CXr.mute) rfl) (pac (pe_ix (ix_listK (K := K) rfl) (pe_ix (ix_listK (K := K) rfl) (pv 1) pe_int (fun _ _ => rfl)) (pv 0) (fun _ _ => rfl)) (pac (pe_ix (ix_listK (K := K) rfl) (pe_ix (ix_listK (K := K) rfl) (pv 1) pe_int (fun _ _ => rfl)) (pv 0) (fun _ _ => rfl)) pa_nil))))) (pg_sub (pv 0) (pe_un un_neg pe_int) set_list))) pss_nil) p1), ?_⟩
  have leave := q1' none none
  refine ⟨_, rfl, rfl, _, rfl, ?_⟩
  refine ite2 (fun c => ?_) (fun _ => iteF leave)
  have e1 : how = 1 := by simpa using of_decide_eq_true c
  have lv := ow.num.1
  have lm := ow.mat.2.1
  refine ⟨_, rfl, r, _, rfl, .inl (SqL.of ow.mat.1), _, _, rfl, rfl, _, rfl, ?_⟩
  refine ite2 (fun c => ?_) (fun _ => leave)
  have hn : 2 < ls.length := by
    have c' : (2 : Int) < ((ls.map V.ref).length : Int) := of_decide_eq_true c
    rw [List.length_map] at c'
    omega
  have row : ∀ i : Nat, i < 2 → ∃ l us qs, atI (ls.map V.ref) (i : Int) = some (.ref l) ∧ H l = some (.lst us) ∧ Nms H us qs ∧ qs.length = m.toNat ∧ ∀ q ∈ qs, Sm T B q := fun i hi => by
    have e : qss[i]? = some (qss[i]'(by omega)) := List.getElem?_eq_getElem (by omega)
    obtain ⟨l, us, el, _, hl, N⟩ := ow.row e
    obtain ⟨z1, z2⟩ := sh _ (List.mem_of_getElem? e)
    exact ⟨l, us, _, atI_nat (by rw [List.getElem?_map, el]; rfl), hl, N, z1, z2⟩
  obtain ⟨l0, us0, qs0, a0, hl0, N0, z0, S0⟩ := row 0 (by decide)
  obtain ⟨l1, us1, qs1, a1, hl1, N1, z1, S1⟩ := row 1 (by decide)
  refine ⟨_, rfl, _, rfl, by omega, by omega, fun D nD => ?_⟩
  refine comp_range (lo := 0) (n := m.toNat) (cap := [some (.ref r)]) (fun _ v H2 => ∃ q, Sm T' B' q ∧ Nm H2 v q) nD (Nat.lt_of_le_of_lt (show m.toNat ≤ 100 by omega) (by decide)) (fun i v H2 H3 ys e ks ⟨q, s, n⟩ => ⟨q, s, n.kept e ks⟩) ?_ ?_
  · intro j H2 R hj s2 kk
    have at_ : ∀ (us : List V) (qs : List (Int × Int)), Nms H us qs → qs.length = m.toNat → (∀ q ∈ qs, Sm T B q) → ∃ n p, Sm T B n ∧ atI us ((0 : Int) + (j : Int)) = some (.ref p) ∧ H2 p = some (.tup [.int n.1, .int n.2]) := fun us qs N z S => by
      have ej : qs[j]? = some (qs[j]'(by omega)) := List.getElem?_eq_getElem (by omega)
      obtain ⟨u, eu', p, rfl, hp⟩ := N.at' ej
      exact ⟨_, p, S _ (List.mem_of_getElem? ej), by rw [Int.zero_add]; exact atI_nat eu', s2 _ _ hp⟩
    obtain ⟨n1, p1, sn1, b1, g1⟩ := at_ us0 qs0 N0 z0 S0
    obtain ⟨n2, p2, sn2, b2, g2⟩ := at_ us1 qs1 N1 z1 S1
    refine ⟨_, rfl, r, _, _, _, rfl, rfl, SqL.of (s2 _ _ ow.mat.1), a0, _, rfl, l0, _, _, _, rfl, rfl, SqL.of (s2 _ _ hl0), b1, ?_⟩
    refine ⟨_, rfl, r, _, _, _, rfl, rfl, SqL.of (s2 _ _ ow.mat.1), a1, _, rfl, l1, _, _, _, rfl, rfl, SqL.of (s2 _ _ hl1), b2, ?_⟩
    exact ⟨_, _, n1, n2, T, B, T, B, rfl, ⟨p1, rfl, g1⟩, ⟨p2, rfl, g2⟩, sn1, sn2, by omega, by omega, by omega, by omega, fun n3 sn3 _ _ p3' H3 s3 e3 => kk _ _ s3 ⟨n3, sn3.up (by omega) (by omega), p3', rfl, e3⟩⟩
  · intro us H2 hy hrel s2 hD
    obtain ⟨qs, N2, S2⟩ := nums_of hrel
    have lN := N2.1
    obtain ⟨d1, d2, d3⟩ := ow.fresh nD
    have ow2 := ow.same s2
    refine ⟨_, rfl, _, rfl, r, _, _, ls.length - 1, rfl, rfl, ow2.mat.1, by rw [List.length_map]; exact ixN_last (by omega), ?_⟩
    exact q1 _ _ _ _ _ _ e1 (ow2.set hD d1 d2 d3 N2) (by simp) ((sh.up (by omega) (by omega)).set (by omega) S2)
def spNought : Sp := fun vs H Q _ => ∃ (H0 : Hp) (r : Addr) (ls : List Addr) (vss : List (List V)) (qss : List (List (Int × Int))) (m c : Int) (T B : Nat), vs = [.ref r, .int m, .int c] ∧ Own H0 H r ls vss qss ∧ Shape T B m.toNat qss ∧ 0 ≤ m ∧ m ≤ 100 ∧ qss.length ≤ 100 ∧
  ∀ vss' qss' H', Own H0 H' r ls vss' qss' → qss'.length = qss.length → Shape T B m.toNat qss' → Q (.ref r) H'
theorem sc_law_nought_column : FnScope ["_law_rows_here", "_law_many", "_law_cell", "_law_row"] ["_law_rows_here", "_law_many", "_law_cell"] (defScope s_law_nought_column) := ⟨rfl, rfl, rfl, by decide +kernel, rfl, by decide +kernel, by decide +kernel⟩
theorem ok_law_nought_column (D : Def K mg "_law_nought_column" s_law_nought_column ["_law_rows_here", "_law_many", "_law_cell"]) : Fn P w K mg base (CXr P w) 1 "_law_nought_column" ["_law_rows_here", "_law_many", "_law_cell"] spNought := by
  refine D.ok sc_law_nought_column (fun vs H Q E h => ?_) (fun f cdv A outer s H vs Q E hr h => ?_)
  · obtain ⟨H0, r, ls, vss, qss, m, c, T, B, rfl, _⟩ := h
    rfl
  obtain ⟨H0, r, ls, vss, qss, m, c, T, B, rfl, ow, sh, m0, m1, nq, q⟩ := h
  have px := passM (X := (cxOf (CXr P w) P w K mg base ["_law_rows_here", "_law_many", "_law_cell", "_law_row"] "_law_nought_column" (defScope s_law_nought_column) f cdv A outer s H E)) (CXr.mute (P := P) (w := w))
  refine ⟨_, (pss_cons (ps_if (PW.pt (pw_and (pt_cmpR op_eq (pe_op op_modB (pv 2) pe_int) pe_int (nomark _)) (pw_and1 (pt_cmpR op_gt (pv 1) pe_int (nomark _))))) (pss_one (ps_for PassesOwn.never rfl (pi_list (pv 0)) (pg_name (i := 3) sc_law_nought_column.nd rfl (Or.inl rfl)) (pss_one (ps_asg (pe_tup (pac pe_int (pac pe_int pa_nil))) (pg_sub (pv 3) (pe_op op_modB (pe_op op_fdivB (pv 2) pe_int) (pv 1)) set_list))))) pss_nil)
    (pss_one (ps_ret (pv 0)))), ?_⟩
  have leave := q vss qss H ow rfl sh
  refine ⟨_, rfl, _, _, rfl, rfl, nz (by decide), rfl, _, rfl, ?_⟩
  refine ite2 (fun _ => ?_) (fun _ => iteF ⟨_, rfl, leave⟩)
  refine ⟨_, rfl, _, _, rfl, rfl, _, rfl, ?_⟩
  refine ite2 (fun cc => ?_) (fun _ => ⟨_, rfl, leave⟩)
  have hm : 0 < m := of_decide_eq_true cc
  have fm := fmod_in (x := c.fdiv 4) (m := m) hm
  obtain ⟨j, ej⟩ := Int.eq_ofNat_of_zero_le fm.1
  have bm : intBits m ≤ 64 := intBits_le_64 (by omega) (by omega)
  refine ⟨_, rfl, r, rfl, ⟨_, SqL.of ow.mat.1⟩, for_list (K := K) (a := r) (xs := ls.map V.ref) (fun i σ H' => ∃ (o : Option V) (vss' : List (List V)) (qss' : List (List (Int × Int))), σ = [some (.ref r), some (.int m), some (.int c), o] ∧ Own H0 H' r ls vss' qss' ∧ qss'.length = qss.length ∧ Shape T B m.toNat qss') ⟨none, vss, qss, rfl, ow, rfl, sh⟩ (fun i σ H' _ ⟨o, vss', qss', _, ow', _⟩ => SqL.of ow'.mat.1) ?_ ?_⟩
  · rintro i u σ H' hu ⟨o, vss', qss', rfl, ow', l', sh'⟩
    rw [List.getElem?_map] at hu
    obtain ⟨l, el, rfl⟩ := Option.map_eq_some_iff.mp hu
    have hi : i < ls.length := (List.getElem?_eq_some_iff.mp el).1
    have lv' := ow'.num.1
    have lm' := ow'.mat.2.1
    have eq : qss'[i]? = some (qss'[i]'(by omega)) := List.getElem?_eq_getElem (by omega)
    obtain ⟨l2, us, el2, eu, hl, N⟩ := ow'.row eq
    obtain ⟨zl, Sb⟩ := sh' _ (List.mem_of_getElem? eq)
    generalize qss'[i]'(by omega) = qs at *
    rw [el] at el2
    cases el2
    refine ⟨(by show 2 ≤ sizeLine; decide), fun p np => ?_⟩
    have s3 := same_new np (.tup [.int 0, .int 1])
    have ow3 := ow'.same s3
    refine ⟨_, rfl, _, rfl, _, _, rfl, rfl, ⟨by decide, by decide +kernel⟩, _, rfl, _, _, rfl, rfl, nz (by omega), l, _, _, j, rfl, rfl, s3 _ _ hl, by rw [ej]; exact ixN_nat (by rw [N.1]; omega), ?_⟩
    refine ⟨_, _, _, rfl, ow3.put (j := j) (v := .ref p) (q := (0, 1)) el eu eq ⟨p, rfl, upd_same⟩, by simp [l'], sh'.set (by simp [zl]) (fun n hn => ?_)⟩
    rcases List.mem_or_eq_of_mem_set hn with z | z
    · exact Sb n z
    · rw [z]
      exact ⟨by decide, by decide, Nat.zero_le _, Nat.one_le_two_pow⟩
  · rintro σ H' ⟨o, vss', qss', rfl, ow', l', sh'⟩
    exact ⟨_, rfl, q vss' qss' H' ow' l' sh'⟩
def Acc (sml : Bool) (j : Nat) (q : Int × Int) : Prop := if sml = true then q.2 = 1 ∧ q.1.natAbs ≤ 256 * j else Sm (220 + 21 * j) (20 * j) q
def rT (sml : Bool) : Nat := if sml = true then 8 else 220
def rB (sml : Bool) : Nat := if sml = true then 0 else 20
def dT (sml : Bool) : Nat := if sml = true then 13 else 400
def dB (sml : Bool) : Nat := if sml = true then 0 else 120
def rM (sml : Bool) : Nat := if sml = true then 20 else 6
theorem acc_zero (sml : Bool) : Acc sml 0 (0, 1) := by
  unfold Acc
  cases sml
  · rw [if_neg (by decide)]
    exact ⟨by decide, by decide, Nat.zero_le _, Nat.one_le_two_pow⟩
  · rw [if_pos rfl]
    exact ⟨rfl, by decide⟩
theorem sm_one {T : Nat} {t : Int} (h : t.natAbs ≤ 2 ^ T) : Sm T 0 (t, 1) := ⟨(by show (0 : Int) < 1; decide), by simp, h, (by show (1 : Int).natAbs ≤ 2 ^ 0; decide)⟩
theorem sm_bot {T : Nat} {q : Int × Int} (h : Sm T 0 q) : q.2 = 1 := by
  have := h.bot
  have := h.pos
  simp at *
  omega
theorem acc_sm {sml : Bool} {j : Nat} {q : Int × Int} (h : Acc sml j q) (hj : j ≤ rM sml) : Sm (dT sml) (dB sml) q := by
  unfold Acc at h
  cases sml
  · rw [if_neg (by decide)] at h
    have hj' : j ≤ 6 := hj
    exact h.up (show 220 + 21 * j ≤ 400 by omega) (show 20 * j ≤ 120 by omega)
  · rw [if_pos rfl] at h
    have hj' : j ≤ 20 := hj
    obtain ⟨t, b⟩ := q
    obtain ⟨h1, h2⟩ := h
    have h1' : b = 1 := h1
    subst h1'
    have h2' : t.natAbs ≤ 256 * j := h2
    exact sm_one (T := 13) (Nat.le_trans h2' (show 256 * j ≤ 8192 by omega))
theorem acc_mono {sml : Bool} {j k : Nat} {q : Int × Int} (h : Acc sml j q) (hk : j ≤ k) : Acc sml k q := by
  unfold Acc at *
  cases sml
  · rw [if_neg (by decide)] at *
    exact h.up (by omega) (by omega)
  · rw [if_pos rfl] at *
    exact ⟨h.1, by have := h.2; omega⟩
theorem acc_step {sml : Bool} {j : Nat} {q y q' : Int × Int} (h : Acc sml j q) (hj : j < rM sml) (hy : Sm (rT sml) (rB sml) y) : ∃ T1 B1, Sm T1 B1 q ∧ T1 ≤ 100000 ∧ B1 ≤ 4000 ∧ ∀ q', Sm (max (T1 + rB sml) (rT sml + B1) + 1) (B1 + rB sml) q' → (q.2 = 1 → y.2 = 1 → q' = (q.1 + y.1, 1)) → Acc sml (j + 1) q' := by
  have s0 := acc_sm h (by omega)
  unfold Acc at h
  cases sml
  · rw [if_neg (by decide)] at h
    have hj' : j < 6 := hj
    refine ⟨_, _, h, by omega, by omega, fun q' s _ => ?_⟩
    unfold Acc
    rw [if_neg (by decide)]
    have e1 : rB false = 20 := rfl
    have e2 : rT false = 220 := rfl
    rw [e1, e2] at s
    exact s.up (by omega) (by omega)
  · rw [if_pos rfl] at h
    have hj' : j < 20 := hj
    refine ⟨13, 0, s0, by decide, by decide, fun q' _ e => ?_⟩
    have hy' : Sm 8 0 y := hy
    rw [e h.1 (sm_bot hy')]
    unfold Acc
    rw [if_pos rfl]
    have ht := hy'.top
    have f8 : (2 : Nat) ^ 8 = 256 := by decide
    rw [f8] at ht
    have h2 := h.2
    refine ⟨rfl, ?_⟩
    show (q.1 + y.1).natAbs ≤ 256 * (j + 1)
    omega
def spDues (K : PySem.W.Frag) : Sp := fun vs H Q _ => ∃ (a : Addr) (ns : List Int) (r : Addr) (ls : List Addr) (vss : List (List V)) (qss : List (List (Int × Int))) (m : Nat) (k : Int) (sml : Bool), vs = [.ref a, .ref r, .int (m : Int), .int k] ∧ SqL K H a (ns.map V.int) ∧ (∀ i ∈ ns, intBits i ≤ 1048576) ∧ MatV H r ls vss ∧ Numss H vss qss ∧ Shape (rT sml) (rB sml) m qss ∧ m ≤ rM sml ∧ qss.length ≤ 20 ∧ (sml = true → k < 4) ∧
  ∀ (d : Addr) (us : List V) (qs : List (Int × Int)) (H' : Hp), Same H H' → H' d = some (.lst us) → Nms H' us qs → qs.length = qss.length → (∀ q ∈ qs, Sm (dT sml) (dB sml) q) → Q (.ref d) H'
theorem rM_le (sml : Bool) : rM sml ≤ 20 := by cases sml <;> decide
theorem rT_le (sml : Bool) : rT sml ≤ 100000 := by cases sml <;> decide
theorem rB_le (sml : Bool) : rB sml ≤ 4000 := by cases sml <;> decide
theorem sc_law_dues : FnScope ["_law_script", "_law_rows_here", "_law_many", "_law_kind", "_law_dues_here", "_law_row", "_law_due", "_law_one"] ["_law_script", "_law_rows_here", "_law_many", "_law_kind"] (defScope s_law_dues) := ⟨rfl, rfl, rfl, by decide +kernel, rfl, by decide +kernel, by decide +kernel⟩
theorem ok_law_dues (D : Def K mg "_law_dues" s_law_dues ["_law_script", "_law_rows_here", "_law_many", "_law_kind"]) (m_range : mg "range" = none) (m_len : mg "len" = none) (G_law_cell_at : Fn P w K mg base (CXr P w) 1 "_law_cell_at" ["_law_script", "_law_k"] (spCell K)) (G_law_draw : Fn P w K mg base (CXr P w) 34 "_law_draw" ["_law_cell", "_law_kind"] spDraw) (G_law_mixed : Fn P w K mg base (CXr P w) 2 "_law_mixed" ["_law_script", "_law_k"] (spMixedC K)) (G_law_add : Fn P w K mg base (CXr P w) 34 "_law_add" ["_law_one", "_law_other"] spAdd) :
    Fn P w K mg base (CXr P w) 35 "_law_dues" ["_law_script", "_law_rows_here", "_law_many", "_law_kind"] (spDues K) := by
  refine D.ok sc_law_dues (fun vs H Q E h => ?_) (fun f cdv A outer s H vs Q E hr h => ?_)
  · obtain ⟨a, ns, r, ls, vss, qss, m, k, sml, rfl, _⟩ := h
    rfl
  obtain ⟨a, ns, r, ls, vss, qss, m, k, sml, rfl, hS, hb, M, NN, sh, hm, hn, fit, q⟩ := h
  have px := passM (X := (cxOf (CXr P w) P w K mg base ["_law_script", "_law_rows_here", "_law_many", "_law_kind", "_law_dues_here", "_law_row", "_law_due", "_law_one"] "_law_dues" (defScope s_law_dues) f cdv A outer s H E)) (CXr.mute (P := P) (w := w))
  have l1 := M.2.1
  have l2 := NN.1
  have hm20 := rM_le sml
  refine ⟨_, (pss_cons (ps_if (pt_cmpR op_gt (pe_op op_modB (pe_fn G_law_cell_at (hr.mono (by decide)) px (pac (pv 0) (pac pe_int pa_nil))) pe_int) pe_int (nomark _)) (pss_one (ps_ret (pe_comp (tn := ["_law_i"]) (fr := ["_law_script", "_law_rows_here", "_law_many", "_law_kind"]) (caps := [0, 1, 2, 3]) rfl ⟨rfl, by decide +kernel, rfl, by decide +kernel, by decide +kernel, rfl, ⟨(by first | exact Or.inl rfl | exact Or.inr rfl), ⟨(by first | exact Or.inl rfl | exact Or.inr rfl), ⟨(by first | exact Or.inl rfl | exact Or.inr rfl), ⟨(by first | exact Or.inl rfl | exact Or.inr rfl), trivial⟩⟩⟩⟩, ⟨(by first | exact Or.inl rfl | exact Or.inr rfl), ⟨(by first | exact Or.inl rfl | exact Or.inr rfl), ⟨(by first | exact Or.inl rfl | exact Or.inr rfl), ⟨(by first | exact Or.inl rfl | exact Or.inr rfl), trivial⟩⟩⟩⟩⟩ (pi_range1 rfl m_range (pac (pe_callB call_len_seq rfl m_len b_len (pac (pv 1) pa_nil)) pa_nil)) (fun _ _ _ _ => (pg_name (i := 0) (show (["_law_i", "_law_script", "_law_rows_here", "_law_many", "_law_kind"] : List Str).Nodup from by decide +kernel) rfl (Or.inl rfl))) (fun _ _ _ _ => pf_nil) (fun _ _ _ _ => (pe_fn G_law_draw (hr.mono (by decide)) (passB (by first | assumption | exact CXr.mute) rfl) (pac (pe_fn G_law_mixed (hr.mono (by decide)) (passB (by first | assumption | exact CXr.mute) rfl) (pac (pv 1) (pac (pe_op op_add (pe_op op_add pe_int (pe_op op_mulB (pe_callB (call_len_seqK (K := K) rfl) rfl m_len b_len (pac (pv 2) pa_nil)) (pv 3))) (pv 0)) pa_nil))) (pac (pv 4) pa_nil))))))) pss_nil)
    (pss_cons (ps_set (i := 4) sc_law_dues.nd rfl (Or.inl rfl) (pe_lst pa_nil))
    (pss_cons (ps_for PassesOwn.never rfl (pi_list (pv 1)) (pg_name (i := 5) sc_law_dues.nd rfl (Or.inl rfl)) (pss_cons (ps_set (i := 6) sc_law_dues.nd rfl (Or.inl rfl) (pe_tup (pac pe_int (pac pe_int pa_nil))))
      (pss_cons (ps_for PassesOwn.never rfl (pi_list (pv 5)) (pg_name (i := 7) sc_law_dues.nd rfl (Or.inl rfl)) (pss_one (ps_set (i := 6) sc_law_dues.nd rfl (Or.inl rfl) (pe_fn G_law_add (hr.mono (by decide)) px (pac (pv 6) (pac (pv 7) pa_nil))))))
      (pss_one (ps_expr (pe_bm PySem.F.plainAttrs_list PySem.F.slot_list_append PySem.F.type_list_append mt_append (pv 4) (pac (pv 6) pa_nil)))))))
    (pss_one (ps_ret (pv 4)))))), ?_⟩
  refine ⟨_, rfl, a, ns, 1, rfl, hS, by decide, _, _, rfl, rfl, nz (by decide), _, _, rfl, rfl, _, rfl, ?_⟩
  refine ite2 (fun _ => ?_) (fun _ => ?_)
  · refine ⟨_, rfl, r, _, rfl, .inl (SqL.of M.1), _, rfl, by rw [List.length_map]; omega, by rw [List.length_map]; omega, fun D1 n1 => ?_⟩
    refine comp_range (lo := 0) (n := (((ls.map V.ref).length : Nat) : Int).toNat) (cap := [some (.ref a), some (.ref r), some (.int (m : Int)), some (.int k)]) (fun _ v H2 => ∃ q, Sm (dT sml) (dB sml) q ∧ Nm H2 v q) n1 (by rw [List.length_map]; exact Nat.lt_of_le_of_lt (show (ls.length : Int).toNat ≤ 100 by omega) (by decide)) (fun i v H2 H3 ys e ks ⟨q, s, n⟩ => ⟨q, s, n.kept e ks⟩) ?_ ?_
    · intro i H2 R hi s2 kk
      rw [List.length_map] at hi
      have cm : CMulB (((ls.map V.ref).length : Nat) : Int) (m : Int) := by
        rw [List.length_map]
        exact ⟨Nat.le_trans (intBits_le_64 (by omega) (by omega)) (by decide), Nat.le_trans (intBits_le_64 (by omega) (by omega)) (by decide)⟩
      have p0 : (0 : Int) ≤ (((ls.map V.ref).length : Nat) : Int) * (m : Int) := Int.mul_nonneg (by omega) (by omega)
      have p1 : (((ls.map V.ref).length : Nat) : Int) * (m : Int) ≤ 20 * 20 := Int.mul_le_mul (by rw [List.length_map]; omega) (by omega) (by omega) (by decide)
      refine ⟨_, rfl, _, rfl, r, _, rfl, .inl (SqL.of (s2 _ _ M.1)), _, rfl, _, _, rfl, rfl, cm, _, _, rfl, rfl, _, rfl, _, _, rfl, rfl, ?_⟩
      refine ⟨a, ns, _, rfl, s2.seq hS, hb, by omega, by omega, fun c bc => ?_⟩
      refine ⟨_, rfl, c, k, dT sml, dB sml, rfl, bc, ?_, fun n' sn p H6 s6 e6 => kk _ _ s6 ⟨n', sn, p, rfl, e6⟩⟩
      cases sml
      · exact .inr ⟨by decide, by decide⟩
      · exact .inl ⟨fit rfl, by decide⟩
    · intro us H2 hl hrel s2 hD
      rw [List.length_map] at hl
      obtain ⟨qs, N1, S1⟩ := nums_of hrel
      have lN := N1.1
      exact q D1 us qs H2 s2 hD N1 (by omega) S1
  · refine ⟨(by show 0 ≤ sizeLine; decide), fun d nd0 => ?_⟩
    have s0 := same_new nd0 (.lst [])
    have M0 := M.same s0
    refine ⟨_, rfl, r, rfl, ⟨_, SqL.of M0.1⟩, ?_⟩
    refine for_list (K := K) (a := r) (xs := ls.map V.ref) (fun i σ H' => ∃ (o6 o7 o8 : Option V) (us : List V) (qs : List (Int × Int)), σ = [some (.ref a), some (.ref r), some (.int (m : Int)), some (.int k), some (.ref d), o6, o7, o8] ∧ Same H H' ∧ H' d = some (.lst us) ∧ Nms H' us qs ∧ qs.length = i ∧ ∀ q ∈ qs, Acc sml (rM sml) q)
      ⟨none, none, none, [], [], rfl, s0, upd_same, ⟨rfl, fun i u q e => by simp at e⟩, rfl, fun q h => nomatch h⟩ (fun i σ H' _ h => by
        obtain ⟨_, _, _, _, _, _, h, _⟩ := h
        exact SqL.of (h _ _ M.1)) ?_ ?_
    · rintro i u σ H1 hu ⟨o6, o7, o8, us, qs, rfl, s1, hd, hN, lq, hA⟩
      rw [List.getElem?_map] at hu
      obtain ⟨l, el, rfl⟩ := Option.map_eq_some_iff.mp hu
      have hi : i < ls.length := (List.getElem?_eq_some_iff.mp el).1
      have ev : vss[i]? = some (vss[i]'(by omega)) := List.getElem?_eq_getElem (by omega)
      have eq : qss[i]? = some (qss[i]'(by omega)) := List.getElem?_eq_getElem (by omega)
      have hl := M.2.2 i l _ el ev
      have hR := NN.2 i _ _ ev eq
      obtain ⟨lr, sr⟩ := sh _ (List.mem_of_getElem? eq)
      generalize vss[i]'(by omega) = vs at *
      generalize qss[i]'(by omega) = rs at *
      have lvr := hR.1
      refine ⟨(by show 2 ≤ sizeLine; decide), fun p0 np0 => ?_⟩
      have t0 := same_new np0 (.tup [.int 0, .int 1])
      refine ⟨_, rfl, l, rfl, ⟨_, SqL.of (t0 _ _ (s1 _ _ hl))⟩, ?_⟩
      refine for_list (K := K) (a := l) (xs := vs) (fun t σ H' => ∃ (o8 : Option V) (pd : Addr) (q : Int × Int), σ = [some (.ref a), some (.ref r), some (.int (m : Int)), some (.int k), some (.ref d), some (.ref l), some (.ref pd), o8] ∧ Same H1 H' ∧ H' pd = some (.tup [.int q.1, .int q.2]) ∧ Acc sml t q)
        ⟨_, p0, (0, 1), rfl, t0, upd_same, acc_zero sml⟩ (fun t σ H' _ h => by
          obtain ⟨_, _, _, _, h, _⟩ := h
          exact SqL.of (h _ _ (s1 _ _ hl))) ?_ ?_
      · rintro t v σ H2 hv ⟨o8', pd, q0, rfl, s2, hpd, hacc⟩
        have ht : t < vs.length := (List.getElem?_eq_some_iff.mp hv).1
        obtain ⟨y, ey, ny⟩ := hR.at hv
        have sy := sr y (List.mem_of_getElem? ey)
        obtain ⟨T1, B1, sq, hT1, hB1, nxt⟩ := acc_step (q' := y) hacc (by omega) sy
        exact ⟨_, rfl, _, rfl, _, _, q0, y, T1, B1, rT sml, rB sml, rfl, ⟨pd, rfl, hpd⟩, (ny.same s1).same s2, sq, sy, (by omega), (by omega), Nat.le_trans (rT_le sml) (by decide), Nat.le_trans (rB_le sml) (by decide), fun q' sq' _ one p' H3 s3 e3 => ⟨_, p', q', rfl, s2.trans s3, e3, nxt q' sq' one⟩⟩
      · rintro σ H2 ⟨o8', pd, q0, rfl, s2, hpd, hacc⟩
        have hd2 := s2 _ _ hd
        have lu := hN.1
        refine ⟨_, rfl, .inl ⟨rfl, _, SqL.of hd2⟩, ?_⟩
        refine ⟨_, rfl, d, _, _, rfl, rfl, hd2, Nat.lt_of_le_of_lt (show us.length ≤ 100 by omega) (by decide), ?_⟩
        have ts : TSame H2 (upd H2 d (.lst (us ++ [.ref pd]))) := TSame.lst hd2
        refine ⟨_, _, _, us ++ [.ref pd], qs ++ [q0], rfl, same_put (s1.trans s2) nd0, upd_same, ((hN.same s2).snoc ⟨pd, rfl, hpd⟩).tsame ts, by simp [lq], fun q' hq' => ?_⟩
        rcases List.mem_append.mp hq' with z | z
        · exact hA q' z
        · rw [List.mem_singleton.mp z]
          exact acc_mono hacc (by omega)
    · rintro σ H1 ⟨o6, o7, o8, us, qs, rfl, s1, hd, hN, lq, hA⟩
      rw [List.length_map] at lq
      have lu := hN.1
      have fin := q d us qs H1 s1 hd hN (by omega) (fun q' hq' => acc_sm (hA q' hq') (Nat.le_refl _))
      exact ⟨_, rfl, fin⟩
theorem dotQ_snoc26 {xs ys : List (Int × Int)} {x y : Int × Int} (h : xs.length = ys.length) : dotQ (xs ++ [x]) (ys ++ [y]) = dotQ xs ys + vl x * vl y := by
  unfold dotQ
  rw [List.zipWith_append h, List.sum_append]
  simp [Rat.add_zero]
theorem fsum_perm {l1 l2 : List Nat} (h : l1.Perm l2) (f : Nat → Rat) : fsum l1 f = fsum l2 f := by
  induction h with
  | nil => rfl
  | cons a _ ih => rw [fsum_cons, fsum_cons, ih]
  | swap a b l =>
    rw [fsum_cons, fsum_cons, fsum_cons, fsum_cons]
    grind
  | trans _ _ ih1 ih2 => exact ih1.trans ih2
theorem fsum_add (f g : Nat → Rat) : ∀ l : List Nat, fsum l (fun i => f i + g i) = fsum l f + fsum l g
  | [] => by simp [fsum]; grind
  | a :: l => by
    rw [fsum_cons, fsum_cons, fsum_cons, fsum_add f g l]
    grind
theorem fsum_exch (F : Nat → Nat → Rat) (l2 : List Nat) : ∀ l1 : List Nat, fsum l1 (fun a => fsum l2 (fun b => F a b)) = fsum l2 (fun b => fsum l1 (fun a => F a b))
  | [] => by
    rw [fsum_nil, fsum_zero _ l2 (fun i _ => fsum_nil _)]
  | a :: l1 => by
    rw [fsum_cons, fsum_exch F l2 l1, ← fsum_add]
    refine fsum_congr _ fun b _ => ?_
    rw [fsum_cons]
theorem more_unknowns_n : ∀ (n : Nat) (es : List (Nat → Rat)) (ps : List Nat), es.length = n → ps.Nodup → es.length < ps.length → ∃ x : Nat → Rat, (∀ j, j ∉ ps → x j = 0) ∧ (∃ p ∈ ps, x p ≠ 0) ∧ ∀ e ∈ es, fsum ps (fun p => e p * x p) = 0
  | _, [], ps, _, _, h => by
    cases ps with
    | nil => simp at h
    | cons p0 ps =>
      refine ⟨fun j => if j = p0 then 1 else 0, fun j hj => if_neg (fun z => hj (by rw [z]; exact List.mem_cons_self)), ⟨p0, List.mem_cons_self, ?_⟩, (fun e he => nomatch he)⟩
      show (if p0 = p0 then (1 : Rat) else 0) ≠ 0
      rw [if_pos rfl]
      decide
  | 0, e :: es, ps, l, nd, h => by simp at l
  | n + 1, e :: es, ps, l, nd, h => by
    by_cases z : ∀ p ∈ ps, e p = 0
    · obtain ⟨x, h1, h2, h3⟩ := more_unknowns_n n es ps (by simpa using l) nd (by simp at h; omega)
      refine ⟨x, h1, h2, fun f hf => ?_⟩
      rcases List.mem_cons.mp hf with y | y
      · rw [y]
        refine fsum_zero _ _ fun p hp => ?_
        rw [z p hp]
        grind
      · exact h3 f y
    · obtain ⟨p0, hp0, ne⟩ : ∃ p0, p0 ∈ ps ∧ e p0 ≠ 0 := by
        apply Classical.byContradiction
        intro y
        exact z fun p hp => Classical.byContradiction fun q => y ⟨p, hp, q⟩
      have pe := List.perm_cons_erase hp0
      have nd' : (p0 :: ps.erase p0).Nodup := pe.nodup_iff.mp nd
      rw [List.nodup_cons] at nd'
      have le := pe.length_eq
      rw [List.length_cons] at le
      obtain ⟨x, h1, ⟨p1, hp1, nz⟩, h3⟩ := more_unknowns_n n (es.map fun f => fun p => f p - f p0 / e p0 * e p) (ps.erase p0) (by rw [List.length_map]; simpa using l) nd'.2 (by rw [List.length_map]; simp at h; omega)
      have off : ∀ p ∈ ps.erase p0, p ≠ p0 := fun p hp y => by
        subst y
        exact nd'.1 hp
      have sm : ∀ f : Nat → Rat, fsum ps (fun p => f p * (if p = p0 then -(fsum (ps.erase p0) fun p => e p * x p) / e p0 else x p)) = f p0 * (-(fsum (ps.erase p0) fun p => e p * x p) / e p0) + fsum (ps.erase p0) (fun p => f p * x p) := fun f => by
        rw [fsum_perm pe, fsum_cons, if_pos rfl]
        congr 1
        refine fsum_congr _ fun p hp => ?_
        rw [if_neg (off p hp)]
      refine ⟨fun p => if p = p0 then -(fsum (ps.erase p0) fun p => e p * x p) / e p0 else x p, fun j hj => ?_, ⟨p1, List.mem_of_mem_erase hp1, ?_⟩, fun f hf => ?_⟩
      · show (if j = p0 then _ else x j) = 0
        rw [if_neg (fun y => hj (by rw [y]; exact hp0))]
        exact h1 j (fun y => hj (List.mem_of_mem_erase y))
      · show (if p1 = p0 then _ else x p1) ≠ 0
        rw [if_neg (off p1 hp1)]
        exact nz
      · rw [sm f]
        rcases List.mem_cons.mp hf with y | y
        · rw [y]
          grind
        · have k := h3 _ (List.mem_map.mpr ⟨f, y, rfl⟩)
          have k2 : fsum (ps.erase p0) (fun p => (f p - f p0 / e p0 * e p) * x p) = fsum (ps.erase p0) (fun p => f p * x p) + (-(f p0 / e p0)) * fsum (ps.erase p0) (fun p => e p * x p) := by
            rw [← fsum_mul, ← fsum_add]
            refine fsum_congr _ fun p _ => ?_
            grind
          have k' : fsum (ps.erase p0) (fun p => (f p - f p0 / e p0 * e p) * x p) = 0 := k
          rw [k2] at k'
          grind
theorem more_unknowns (es : List (Nat → Rat)) (ps : List Nat) (nd : ps.Nodup) (h : es.length < ps.length) : ∃ x : Nat → Rat, (∀ j, j ∉ ps → x j = 0) ∧ (∃ p ∈ ps, x p ≠ 0) ∧ ∀ e ∈ es, fsum ps (fun p => e p * x p) = 0 := more_unknowns_n _ es ps rfl nd h
theorem last_of {x : Nat → Rat} : ∀ (m : Nat), (∀ j, m ≤ j → x j = 0) → (∃ p, x p ≠ 0) → ∃ c, c < m ∧ x c ≠ 0 ∧ ∀ j, c < j → x j = 0
  | 0, h, ⟨p, hp⟩ => absurd (h p (Nat.zero_le _)) hp
  | m + 1, h, hp => by
    by_cases z : x m = 0
    · obtain ⟨c, h1, h2, h3⟩ := last_of m (fun j hj => by
        by_cases y : j = m
        · rw [y]; exact z
        · exact h j (by omega)) hp
      exact ⟨c, by omega, h2, h3⟩
    · exact ⟨m, by omega, z, fun j hj => h j (by omega)⟩
def aQ (qss : List (List (Int × Int))) (i j : Nat) : Rat := vl ((qss.getD i []).getD j (0, 1))
def Rk (m : Nat) (qss : List (List (Int × Int))) (N : Nat) : Prop := ∃ (T B b : Nat) (os lv : List (List Int)) (nd : List (Nat × List Int)), Lines T B m qss os ∧ (∀ qs ∈ qss, qs.length = m) ∧ Red os m m b nd lv ∧ nd.length = N
def Fac (n m : Nat) (a : Nat → Nat → Rat) (k : Nat) : Prop := ∃ (cs : List Nat) (B C : Nat → Nat → Rat), cs.length = k ∧ ∀ i j, i < n → j < m → a i j = fsum cs (fun c => B i c * C c j)
theorem row_at {qss : List (List (Int × Int))} {i : Nat} {qs : List (Int × Int)} (e : qss[i]? = some qs) (j : Nat) : aQ qss i j = vl (qs.getD j (0, 1)) := by
  unfold aQ
  rw [List.getD_eq_getElem?_getD (l := qss), e]
  rfl
theorem null_rows {qss : List (List (Int × Int))} {m : Nat} {z : Nat → Rat} : (∀ qs ∈ qss, sumTo m (fun j => vl (qs.getD j (0, 1)) * z j) = 0) ↔ ∀ i, i < qss.length → sumTo m (fun j => aQ qss i j * z j) = 0 := by
  constructor
  · intro h i hi
    have e : qss[i]? = some qss[i] := List.getElem?_eq_getElem hi
    have k := h _ (List.mem_of_getElem? e)
    rw [← k]
    congr 1
    funext j
    rw [row_at e]
  · intro h qs hq
    obtain ⟨i, e⟩ := List.getElem?_of_mem hq
    have k := h i (List.getElem?_eq_some_iff.mp e).1
    rw [← k]
    congr 1
    funext j
    rw [row_at e]
theorem needed_cols {m : Nat} {nd : List (Nat × List Int)} (hc : ∀ y ∈ nd, y.1 < m) (asc : (nd.map (·.1)).Pairwise (· < ·)) : nd.map (·.1) = (List.range m).filter (fun i => !free nd i) := by
  refine asc_ext asc (List.pairwise_lt_range.filter _) fun c => ⟨fun h => ?_, fun h => ?_⟩
  · obtain ⟨y, hy, rfl⟩ := List.mem_map.mp h
    refine List.mem_filter.mpr ⟨List.mem_range.mpr (hc y hy), ?_⟩
    cases q : free nd y.1
    · rfl
    · exact absurd rfl (free_iff.mp q y hy)
  · obtain ⟨_, h2⟩ := List.mem_filter.mp h
    apply Classical.byContradiction
    intro nc
    have : free nd c = true := free_iff.mpr fun y hy e => nc (List.mem_map.mpr ⟨y, hy, e⟩)
    rw [this] at h2
    cases h2
theorem Rk.fac {m N : Nat} {qss : List (List (Int × Int))} (h : Rk m qss N) : Fac qss.length m (aQ qss) N := by
  obtain ⟨T, B, b, os, lv, nd, lin, len, R, rfl⟩ := h
  have nod : (nd.map (·.1)).Nodup := List.nodup_iff_pairwise_ne.mpr (R.asc.imp fun {a b} h => Nat.ne_of_lt h)
  have zz : ∀ j, ∃ z : Nat → Rat, (∀ y ∈ nd, y.1 ≠ j) → SpZ nd j z := fun j => by
    by_cases q : ∀ y ∈ nd, y.1 ≠ j
    · obtain ⟨z, hz⟩ := SpZ.ex j R.asc q
      exact ⟨z, fun _ => hz⟩
    · exact ⟨fun _ => 0, fun y => absurd y q⟩
  obtain ⟨z, hz⟩ := Classical.axiomOfChoice zz
  refine ⟨nd.map (·.1), aQ qss, fun c j => if free nd j = true then -(z j c) else if c = j then 1 else 0, List.length_map _, fun i j hi hj => ?_⟩
  by_cases fr : free nd j = true
  · have fr' := free_iff.mp fr
    have hzj := hz j fr'
    have k := null_rows.mp ((lines_sol lin len _).mp (hzj.sol R hj fr')) i hi
    rw [sumTo_fsum, fsum_filter (free nd), ← needed_cols R.cols R.asc] at k
    have e1 : fsum ((List.range m).filter (free nd)) (fun c => aQ qss i c * z j c) = aQ qss i j * z j j := by
      refine fsum_one _ j _ (List.nodup_range.filter _) (List.mem_filter.mpr ⟨List.mem_range.mpr hj, fr⟩) fun c hc ne => ?_
      rw [hzj.no c ne (free_iff.mp (List.mem_filter.mp hc).2)]
      grind
    rw [e1, hzj.one] at k
    have e2 : fsum (nd.map (·.1)) (fun c => aQ qss i c * (if free nd j = true then -(z j c) else if c = j then 1 else 0)) = (-1) * fsum (nd.map (·.1)) (fun c => aQ qss i c * z j c) := by
      rw [← fsum_mul]
      refine fsum_congr _ fun c _ => ?_
      rw [if_pos fr]
      grind
    rw [e2]
    grind
  · have nf : ∃ y ∈ nd, y.1 = j := by
      apply Classical.byContradiction
      intro z
      exact fr (free_iff.mpr fun y hy e => z ⟨y, hy, e⟩)
    obtain ⟨y, hy, ey⟩ := nf
    rw [fsum_one _ j _ nod (by rw [← ey]; exact List.mem_map.mpr ⟨y, hy, rfl⟩) (fun c _ ne => by
      show aQ qss i c * (if free nd j = true then -(z j c) else if c = j then 1 else 0) = 0
      rw [if_neg fr, if_neg ne]
      grind)]
    show aQ qss i j = aQ qss i j * (if free nd j = true then -(z j j) else if j = j then 1 else 0)
    rw [if_neg fr, if_pos rfl]
    grind
theorem Rk.le {m N k : Nat} {qss : List (List (Int × Int))} (h : Rk m qss N) (f : Fac qss.length m (aQ qss) k) : N ≤ k := by
  obtain ⟨T, B, b, os, lv, nd, lin, len, R, rfl⟩ := h
  obtain ⟨cs, BB, C, rfl, fac⟩ := f
  apply Classical.byContradiction
  intro lt
  have nod : (nd.map (·.1)).Nodup := List.nodup_iff_pairwise_ne.mpr (R.asc.imp fun {a b} h => Nat.ne_of_lt h)
  obtain ⟨x, h1, ⟨p, hp, hpz⟩, h3⟩ := more_unknowns (cs.map fun c => C c) (nd.map (·.1)) nod (by rw [List.length_map, List.length_map]; omega)
  have colm : ∀ c, c ∈ nd.map (·.1) → c < m := fun c hc => by
    obtain ⟨y, hy, rfl⟩ := List.mem_map.mp hc
    exact R.cols y hy
  obtain ⟨c, cm, cz, cb⟩ := last_of (x := x) m (fun j hj => h1 j (fun z => by have := colm j z; omega)) ⟨p, hpz⟩
  have cin : c ∈ nd.map (·.1) := Classical.byContradiction fun z => cz (h1 c z)
  obtain ⟨y, hy, rfl⟩ := List.mem_map.mp cin
  refine free_of_sol R cz cb ((lines_sol lin len x).mpr (null_rows.mpr fun i hi => ?_)) y hy rfl
  rw [sumTo_fsum, fsum_filter (free nd), ← needed_cols R.cols R.asc, fsum_zero _ ((List.range m).filter (free nd)) (fun j hj => by
    rw [h1 j (fun z => by
      obtain ⟨u, hu, e⟩ := List.mem_map.mp z
      exact free_iff.mp (List.mem_filter.mp hj).2 u hu e)]
    grind)]
  have e1 : fsum (nd.map (·.1)) (fun j => aQ qss i j * x j) = fsum (nd.map (·.1)) (fun j => fsum cs (fun c => BB i c * C c j * x j)) := by
    refine fsum_congr _ fun j hj => ?_
    rw [fac i j hi (colm j hj)]
    have := fsum_mul (x j) (fun c => BB i c * C c j) cs
    rw [show fsum cs (fun c => BB i c * C c j) * x j = x j * fsum cs (fun c => BB i c * C c j) by grind, ← this]
    refine fsum_congr _ fun c _ => ?_
    grind
  rw [e1, fsum_exch, fsum_zero _ cs (fun c hc => ?_)]
  · grind
  · have k := h3 (C c) (List.mem_map.mpr ⟨c, hc, rfl⟩)
    have : fsum (nd.map (·.1)) (fun a => BB i c * C c a * x a) = BB i c * fsum (nd.map (·.1)) (fun p => C c p * x p) := by
      rw [← fsum_mul]
      refine fsum_congr _ fun a _ => ?_
      grind
    rw [this, k]
    grind
theorem Rk.map {m m' N N' : Nat} {qss qss' : List (List (Int × Int))} (h : Rk m qss N) (h' : Rk m' qss' N') (f g : Nat → Nat) (e : ∀ i j, i < qss'.length → j < m' → f i < qss.length ∧ g j < m ∧ aQ qss' i j = aQ qss (f i) (g j)) : N' ≤ N := by
  obtain ⟨cs, B, C, l, k⟩ := h.fac
  refine h'.le ⟨cs, fun i c => B (f i) c, fun c j => C c (g j), l, fun i j hi hj => ?_⟩
  obtain ⟨e1, e2, e3⟩ := e i j hi hj
  rw [e3, k _ _ e1 e2]
theorem Rk.turn {m m' N N' : Nat} {qss qss' : List (List (Int × Int))} (h : Rk m qss N) (h' : Rk m' qss' N') (e : ∀ i j, i < qss'.length → j < m' → j < qss.length ∧ i < m ∧ aQ qss' i j = aQ qss j i) : N' ≤ N := by
  obtain ⟨cs, B, C, l, k⟩ := h.fac
  refine h'.le ⟨cs, fun i c => C c i, fun c j => B j c, l, fun i j hi hj => ?_⟩
  obtain ⟨e1, e2, e3⟩ := e i j hi hj
  rw [e3, k _ _ e1 e2]
  exact fsum_congr _ fun c _ => by grind
theorem Rk.rows_back {m N N' : Nat} {qss : List (List (Int × Int))} (h : Rk m qss N) (h' : Rk m qss.reverse N') : N' = N := by
  have at' : ∀ i j, i < qss.length → aQ qss.reverse i j = aQ qss (qss.length - 1 - i) j := fun i j hi => by
    unfold aQ
    rw [List.getD_eq_getElem?_getD (l := qss.reverse), List.getElem?_reverse hi, List.getD_eq_getElem?_getD (l := qss)]
  refine Nat.le_antisymm (h.map h' (fun i => qss.length - 1 - i) id fun i j hi hj => ?_) (h'.map h (fun i => qss.length - 1 - i) id fun i j hi hj => ?_)
  · rw [List.length_reverse] at hi
    exact ⟨by omega, hj, at' i j hi⟩
  · refine ⟨by rw [List.length_reverse]; omega, hj, ?_⟩
    rw [at' _ _ (by omega)]
    congr 1
    omega
theorem Rk.twice {m N N' : Nat} {qss : List (List (Int × Int))} (h : Rk m qss N) (h' : Rk m (qss ++ qss) N') : N' = N := by
  refine Nat.le_antisymm (h.map h' (fun i => if i < qss.length then i else i - qss.length) id fun i j hi hj => ?_) (h'.map h id id fun i j hi hj => ?_)
  · rw [List.length_append] at hi
    unfold aQ
    by_cases z : i < qss.length
    · rw [if_pos z, List.getD_eq_getElem?_getD (l := qss ++ qss), List.getElem?_append_left z, ← List.getD_eq_getElem?_getD (l := qss)]
      exact ⟨z, hj, rfl⟩
    · rw [if_neg z, List.getD_eq_getElem?_getD (l := qss ++ qss), List.getElem?_append_right (by omega), ← List.getD_eq_getElem?_getD (l := qss)]
      exact ⟨by omega, hj, rfl⟩
  · refine ⟨by rw [List.length_append]; show i < _; omega, hj, ?_⟩
    unfold aQ
    show _ = vl (((qss ++ qss).getD i []).getD j (0, 1))
    rw [List.getD_eq_getElem?_getD (l := qss ++ qss), List.getElem?_append_left hi, ← List.getD_eq_getElem?_getD (l := qss)]
theorem Rk.cols_back {m N N' : Nat} {qss : List (List (Int × Int))} (len : ∀ qs ∈ qss, qs.length = m) (h : Rk m qss N) (h' : Rk m (qss.map List.reverse) N') : N' = N := by
  have at' : ∀ i j, i < qss.length → j < m → aQ (qss.map List.reverse) i j = aQ qss i (m - 1 - j) := fun i j hi hj => by
    have e : qss[i]? = some qss[i] := List.getElem?_eq_getElem hi
    have lq := len _ (List.mem_of_getElem? e)
    rw [row_at (qs := qss[i].reverse) (by rw [List.getElem?_map, e]; rfl), row_at e, List.getD_eq_getElem?_getD, List.getElem?_reverse (by omega), lq, ← List.getD_eq_getElem?_getD]
  refine Nat.le_antisymm (h.map h' id (fun j => m - 1 - j) fun i j hi hj => ?_) (h'.map h id (fun j => m - 1 - j) fun i j hi hj => ?_)
  · rw [List.length_map] at hi
    exact ⟨hi, by omega, at' i j hi hj⟩
  · refine ⟨by rw [List.length_map]; exact hi, by omega, ?_⟩
    show _ = aQ (qss.map List.reverse) i _
    rw [at' _ _ hi (by omega)]
    congr 1
    omega
theorem Rk.turned {m N N' : Nat} {qss : List (List (Int × Int))} (h : Rk m qss N) (h' : Rk qss.length ((List.range m).map fun j => colQ qss j) N') : N' = N := by
  have at' : ∀ i j, i < m → j < qss.length → aQ ((List.range m).map fun j => colQ qss j) i j = aQ qss j i := fun i j hi hj => by
    have e : qss[j]? = some qss[j] := List.getElem?_eq_getElem hj
    rw [row_at (qs := colQ qss i) (by rw [List.getElem?_map, List.getElem?_range hi]; rfl), row_at e]
    unfold colQ
    rw [List.getD_eq_getElem?_getD, List.getElem?_map, e]
    rfl
  refine Nat.le_antisymm (h.turn h' fun i j hi hj => ?_) (h'.turn h fun i j hi hj => ?_)
  · rw [List.length_map, List.length_range] at hi
    exact ⟨hj, hi, at' i j hi hj⟩
  · exact ⟨by rw [List.length_map, List.length_range]; exact hj, hi, (at' j i hj hi).symm⟩
theorem Split.rank {K : PySem.W.Frag} {H : Hp} {p : Addr} {T B m Z : Nat} {qss : List (List (Int × Int))} {sd nd' : Addr} {skv nkv : List (Key × V)} {ss nn : List (Nat × List (Int × Int))} {os lv es lv2 : List (List Int)} {nd nd2 : List (Nat × List Int)} {ws : List Wl}
    (S : Split K H p T B m Z qss sd nd' skv nkv ss nn os lv es lv2 nd nd2 ws) (len : ∀ qs ∈ qss, qs.length = m) : Rk m qss nn.length := by
  have cols : nd.map (·.1) = nd2.map (·.1) := same_cols S.red S.redE fun z hz => by rw [lines_sol S.lin len z, linesE_sol S.linE S.wl len z hz]
  refine ⟨T, B, Z, os, lv, nd, S.lin, len, S.red, ?_⟩
  have e1 := congrArg List.length cols
  have e2 := congrArg List.length S.shares
  rw [List.length_map, List.length_map] at e1
  rw [List.length_map] at e2
  omega
theorem spare_last {K : PySem.W.Frag} {H : Hp} {p : Addr} {T B m Z : Nat} {qss : List (List (Int × Int))} {ds : List (Int × Int)} {sd nd' : Addr} {skv nkv : List (Key × V)} {ss nn : List (Nat × List (Int × Int))} {os lv es lv2 : List (List Int)} {nd nd2 : List (Nat × List Int)} {ws : List Wl}
    (S : Split K H p T B (m + 1) Z (List.zipWith (fun qs d => qs ++ [d]) qss ds) sd nd' skv nkv ss nn os lv es lv2 nd nd2 ws) (len : ∀ qs ∈ qss, qs.length = m) (ld : ds.length = qss.length) {xs : List (Int × Int)} (lx : xs.length = m) (hx : ∀ (i : Nat) (qs : List (Int × Int)) (d : Int × Int), qss[i]? = some qs → ds[i]? = some d → dotQ qs xs = vl d) : m ∈ ss.map (·.1) := by
  have lenL : ∀ qs ∈ List.zipWith (fun qs d => qs ++ [d]) qss ds, qs.length = m + 1 := fun q hq => by
    obtain ⟨i, e⟩ := List.getElem?_of_mem hq
    rw [List.getElem?_zipWith] at e
    cases e1 : qss[i]? with
    | none => rw [e1] at e; cases e
    | some qs =>
      cases e2 : ds[i]? with
      | none => rw [e1, e2] at e; cases e
      | some d =>
        rw [e1, e2] at e
        cases e
        rw [List.length_append, len qs (List.mem_of_getElem? e1)]
        rfl
  rw [S.cols]
  refine List.mem_filter.mpr ⟨List.mem_range.mpr (Nat.lt_succ_self _), free_iff.mpr (free_of_sol S.red (c := m) (z := fun j => if j < m then -(vl (xs.getD j (0, 1))) else if j = m then 1 else 0) ?_ (fun j hj => ?_) ((lines_sol S.lin lenL _).mpr fun q hq => ?_))⟩
  · show (if m < m then _ else if m = m then (1 : Rat) else 0) ≠ 0
    rw [if_neg (Nat.lt_irrefl _), if_pos rfl]
    decide
  · show (if j < m then _ else if j = m then (1 : Rat) else 0) = 0
    rw [if_neg (by omega), if_neg (by omega)]
  · obtain ⟨i, e⟩ := List.getElem?_of_mem hq
    rw [List.getElem?_zipWith] at e
    cases e1 : qss[i]? with
    | none => rw [e1] at e; cases e
    | some qs =>
      cases e2 : ds[i]? with
      | none => rw [e1, e2] at e; cases e
      | some d =>
        rw [e1, e2] at e
        cases e
        have lq := len qs (List.mem_of_getElem? e1)
        have k := hx i qs d e1 e2
        rw [dot_sum qs xs (by omega), lq] at k
        rw [sumTo_fsum, List.range_succ, fsum_perm (List.perm_append_comm), List.singleton_append, fsum_cons, if_neg (Nat.lt_irrefl _), if_pos rfl]
        have e3 : (qs ++ [d]).getD m (0, 1) = d := by
          rw [List.getD_eq_getElem?_getD, List.getElem?_append_right (by omega), lq, Nat.sub_self]
          rfl
        have e4 : fsum (List.range m) (fun j => vl ((qs ++ [d]).getD j (0, 1)) * (if j < m then -(vl (xs.getD j (0, 1))) else if j = m then 1 else 0)) = (-1) * fsum (List.range m) (fun j => vl (qs.getD j (0, 1)) * vl (xs.getD j (0, 1))) := by
          rw [← fsum_mul]
          refine fsum_congr _ fun j hj => ?_
          have hj' := List.mem_range.mp hj
          rw [if_pos hj', List.getD_eq_getElem?_getD (l := qs ++ [d]), List.getElem?_append_left (by omega), ← List.getD_eq_getElem?_getD]
          grind
        rw [e3, e4, ← sumTo_fsum, k]
        grind
theorem dotQ_neg : ∀ (qs xs : List (Int × Int)), dotQ qs (xs.map fun q => (-q.1, q.2)) = -(dotQ qs xs)
  | [], _ => by simp [dotQ]
  | _ :: _, [] => by simp [dotQ]
  | q :: qs, x :: xs => by
    have ih := dotQ_neg qs xs
    rw [List.map_cons, dotQ_cons, dotQ_cons, ih]
    have : vl (-x.1, x.2) = -(vl x) := by
      unfold vl
      push_cast
      grind
    rw [this]
    grind
theorem paper_last {K : PySem.W.Frag} {H : Hp} {p : Addr} {m Z T2 : Nat} {qss : List (List (Int × Int))} {ds ys : List (Int × Int)} {sd nd' : Addr} {skv nkv : List (Key × V)} {ss nn : List (Nat × List (Int × Int))}
    (S : Told24 K H p (m + 1) Z T2 (List.zipWith (fun qs d => qs ++ [d]) qss ds) sd nd' skv nkv ss nn) (len : ∀ qs ∈ qss, qs.length = m) (ld : ds.length = qss.length) (ly : ys.length = qss.length) (hy : ∀ j, j < m → dotQ ys (colQ qss j) = 0) (hd : dotQ ys ds = 1) : m ∉ ss.map (·.1) := by
  intro hm
  obtain ⟨x, hx, ex⟩ := List.mem_map.mp hm
  obtain ⟨lx, _, one, _, dot⟩ := S.sp x hx
  rw [ex] at one
  have e := dot_exch (m := m) (xs := (x.2.take m).map fun q => (-q.1, q.2)) (by rw [List.length_map, List.length_take]; omega) qss ys ds len ly ld (fun i qs d e1 e2 => ?_)
  · rw [hd, sumTo_eq m _ (fun _ => 0) (fun j hj => by rw [hy j hj]; grind), sumTo_zero m _ (fun _ => rfl)] at e
    exact absurd e (by decide)
  · have k := dot (qs ++ [d]) (by
      refine List.mem_of_getElem? (i := i) ?_
      rw [List.getElem?_zipWith, e1, e2])
    have lq := len qs (List.mem_of_getElem? e1)
    have sp : x.2 = x.2.take m ++ [(1, 1)] := by
      have := List.take_append_drop m x.2
      rw [List.drop_eq_getElem_cons (show m < x.2.length by omega), List.drop_eq_nil_of_le (by omega)] at this
      rw [List.getElem?_eq_getElem (show m < x.2.length by omega)] at one
      rw [Option.some.inj one] at this
      exact this.symm
    rw [sp, dotQ_snoc26 (by rw [List.length_take]; omega), vl_11''] at k
    rw [dotQ_neg]
    grind
theorem k_dd : PySem.W.kitOne K (.type "dict") (.type "dict") = some true := by unfold PySem.W.kitOne; rw [if_pos (by decide)]
theorem z26 {m n : Nat} (hm : m ≤ 6) : bb (220 + 20 * m) (min m n) ≤ 250000 := by
  have b2 := bb_eq (220 + 20 * m) (min m n)
  have p2 : 2 ^ (min m n) * (220 + 20 * m + 1) ≤ 2 ^ 6 * 341 := Nat.mul_le_mul (Nat.pow_le_pow_right (by decide) (by omega)) (by omega)
  have f6 : (2 : Nat) ^ 6 = 64 := by decide
  rw [f6] at p2
  omega
def spNeed26 (K : PySem.W.Frag) : Sp := fun vs H Q _ => ∃ (r : Addr) (m : Nat) (ls : List Addr) (vss : List (List V)) (qss : List (List (Int × Int))), vs = [.ref r, .int (m : Int)] ∧ MatV H r ls vss ∧ Numss H vss qss ∧ Shape 220 20 m qss ∧ m ≤ 6 ∧ qss.length ≤ 20 ∧ ∀ (H' : Hp) (N : Nat), Same H H' → Rk m qss N → Q (.int (N : Int)) H'
theorem sc_law_needed : FnScope ["_law_rows_here", "_law_many", "_law_found"] ["_law_rows_here", "_law_many"] (defScope s_law_needed) := ⟨rfl, rfl, rfl, by decide +kernel, rfl, by decide +kernel, by decide +kernel⟩
theorem ok_law_needed (D : Def K mg "_law_needed" s_law_needed ["_law_rows_here", "_law_many"]) (m_isinstance : mg "isinstance" = none) (m_tuple : mg "tuple" = none) (m_dict : mg "dict" = none) (m_len : mg "len" = none)
    (G_split_rows : Fn P w K mg base (CXr P w) 37 "split_rows" ["rows", "many"] (spSplit K)) : Fn P w K mg base (CXr P w) 38 "_law_needed" ["_law_rows_here", "_law_many"] (spNeed26 K) := by
  refine D.ok sc_law_needed (fun vs H Q E h => ?_) (fun f cdv A outer s H vs Q E hr h => ?_)
  · obtain ⟨r, m, ls, vss, qss, rfl, _⟩ := h
    rfl
  obtain ⟨r, m, ls, vss, qss, rfl, M, NN, sh, hm, hn, q⟩ := h
  have px := passM (X := (cxOf (CXr P w) P w K mg base ["_law_rows_here", "_law_many", "_law_found"] "_law_needed" (defScope s_law_needed) f cdv A outer s H E)) (CXr.mute (P := P) (w := w))
  refine ⟨_, (pss_cons (ps_set (i := 2) sc_law_needed.nd rfl (Or.inl rfl) (pe_fn G_split_rows (hr.mono (by decide)) px (pac (pv 0) (pac (pv 1) pa_nil))))
    (pss_cons (ps_if (PW.pt (pw_or (pt_not (pt_val (pe_callB call_isi rfl m_isinstance b_isinstance (pac (pv 2) (pac (pe_ty rfl m_tuple b_tuple) pa_nil))))) (pw_or1 (pt_cmpR op_ne (pe_callB call_len_seq rfl m_len b_len (pac (pv 2) pa_nil)) pe_int (nomark _))))) (pss_one (ps_ret (pe_un un_neg pe_int))) pss_nil)
    (pss_cons (ps_if (PW.pt (pw_or (pt_not (pt_val (pe_callB call_isi rfl m_isinstance b_isinstance (pac (pe_ix ix_tup (pv 2) pe_int (fun _ _ => rfl)) (pac (pe_ty rfl m_dict b_dict) pa_nil))))) (pw_or (pt_not (pt_val (pe_callB call_isi rfl m_isinstance b_isinstance (pac (pe_ix ix_tup (pv 2) pe_int (fun _ _ => rfl)) (pac (pe_ty rfl m_dict b_dict) pa_nil))))) (pw_or1 (pt_cmpR op_ne (pe_op op_add (pe_callB call_lenD rfl m_len b_len (pac (pe_ix ix_tup (pv 2) pe_int (fun _ _ => rfl)) pa_nil)) (pe_callB call_lenD rfl m_len b_len (pac (pe_ix ix_tup (pv 2) pe_int (fun _ _ => rfl)) pa_nil))) (pv 1) (nomark _)))))) (pss_one (ps_ret (pe_un un_neg pe_int))) pss_nil)
    (pss_one (ps_ret (pe_callB call_lenD rfl m_len b_len (pac (pe_ix ix_tup (pv 2) pe_int (fun _ _ => rfl)) pa_nil))))))), ?_⟩
  refine ⟨_, rfl, _, rfl, r, m, ls, vss, qss, 220, 20, 250000, rfl, M, NN, sh, by omega, by omega, by decide, by omega, by decide, z26 hm, by decide, fun p sd nd' skv nkv ss nn os lv es lv2 nd nd2 ws H1 s1 np nsd nnd ne wS wN SP => ?_⟩
  have len : ∀ qs ∈ qss, qs.length = m := fun qs hq => (sh qs hq).1
  have rk := SP.rank len
  have Tl := SP.told ne len
  have pl := Tl.per.length_eq
  rw [List.length_append, List.length_map, List.length_map, List.length_range] at pl
  have lS := SP.rS.1
  have lN := SP.rN.1
  have hp := SP.top
  refine ⟨_, rfl, _, _, _, true, rfl, rfl, .tup hp, k_tt, _, rfl, ?_⟩
  refine ite2 (fun c => nomatch c) (fun _ => ?_)
  refine ⟨_, rfl, p, _, rfl, .inr (SqT.of hp), rfl, _, rfl, ?_⟩
  refine iteNS rfl ?_
  refine ⟨_, rfl, p, _, _, _, rfl, rfl, SqT.of hp, at0, _, _, _, true, rfl, rfl, .dK SP.dS, k_dd, _, rfl, ?_⟩
  refine ite2 (fun c => nomatch c) (fun _ => ?_)
  refine ⟨_, rfl, p, _, _, _, rfl, rfl, SqT.of hp, at1, _, _, _, true, rfl, rfl, .dK SP.dN, k_dd, _, rfl, ?_⟩
  refine ite2 (fun c => nomatch c) (fun _ => ?_)
  refine ⟨_, rfl, p, _, _, _, rfl, rfl, SqT.of hp, at0, sd, skv, rfl, .inl SP.dS, _, rfl, p, _, _, _, rfl, rfl, SqT.of hp, at1, nd', nkv, rfl, .inl SP.dN, _, _, rfl, rfl, _, rfl, rfl, _, rfl, ?_⟩
  refine iteNS (show V.int ((skv.length : Int) + (nkv.length : Int)) = V.int (m : Int) by congr 1; omega) ?_
  refine ⟨_, rfl, p, _, _, _, rfl, rfl, SqT.of hp, at1, nd', nkv, rfl, .inl SP.dN, ?_⟩
  rw [lN]
  exact q H1 nn.length s1 rk
theorem spR_in {H : Hp} {kvs : List (Key × V)} {ss : List (Nat × List (Int × Int))} (h : SpR K H kvs ss) (nd : (ss.map (·.1)).Nodup) (j : Nat) : (valV kvs (.inl (j : Int))).isSome = decide (j ∈ ss.map (·.1)) := by
  by_cases z : j ∈ ss.map (·.1)
  · rw [decide_eq_true z]
    obtain ⟨y, hy, rfl⟩ := List.mem_map.mp z
    obtain ⟨i, e⟩ := List.getElem?_of_mem hy
    have hi : i < ss.length := (List.getElem?_eq_some_iff.mp e).1
    have hl := h.1
    have e2 : kvs[i]? = some (kvs[i]'(by omega)) := List.getElem?_eq_getElem (by omega)
    obtain ⟨k1, _⟩ := h.2 i _ y e2 e
    have e3 : kvs[i]? = some (.inl (y.1 : Int), (kvs[i]'(by omega)).2) := by rw [e2, ← k1]
    rw [valV_at (by rw [h.keys]; exact keys_nodupS nd) e3]
    rfl
  · rw [decide_eq_false z, valV_no (fun q => by
      rw [h.keys] at q
      obtain ⟨y, hy, e⟩ := List.mem_map.mp q
      have e' : (y.1 : Int) = j := Sum.inl.inj e
      exact z (List.mem_map.mpr ⟨y, hy, by omega⟩))]
    rfl
theorem nodup_asc26 {l : List Nat} (h : l.Pairwise (· < ·)) : l.Nodup := List.nodup_iff_pairwise_ne.mpr (h.imp fun {a b} h => Nat.ne_of_lt h)
theorem rows_copied26 {H' : Hp} {D : Addr} {zs : List V} {vss : List (List V)} (hz : zs.length = vss.length) (hD : H' D = some (.lst zs)) (h : ∀ (i : Nat) (v : V), zs[i]? = some v → ∃ l us, v = .ref l ∧ vss[i]? = some us ∧ H' l = some (.lst us)) : ∃ ls, MatV H' D ls vss := by
  have key : ∀ (zs : List V) (vss : List (List V)), zs.length = vss.length → (∀ (i : Nat) (v : V), zs[i]? = some v → ∃ l us, v = .ref l ∧ vss[i]? = some us ∧ H' l = some (.lst us)) → ∃ ls : List Addr, zs = ls.map V.ref ∧ ls.length = vss.length ∧ ∀ (i : Nat) (l : Addr) (vs : List V), ls[i]? = some l → vss[i]? = some vs → H' l = some (.lst vs) := by
    intro zs
    induction zs with
    | nil => intro vss h1 _; exact ⟨[], rfl, h1, fun i l vs e => by simp at e⟩
    | cons z zs ih =>
      intro vss h1 h2
      cases vss with
      | nil => simp at h1
      | cons vs0 vss =>
        obtain ⟨l, us, rfl, e1, e2⟩ := h2 0 z rfl
        cases e1
        obtain ⟨ls, a, b, c⟩ := ih vss (by simpa using h1) (fun i v e => by
          obtain ⟨l, us, x1, x2, x3⟩ := h2 (i + 1) v (by simpa using e)
          exact ⟨l, us, x1, by simpa using x2, x3⟩)
        refine ⟨l :: ls, by rw [a]; rfl, by simp [b], fun i l' vs e3 e4 => ?_⟩
        cases i with
        | zero =>
          cases e3
          cases e4
          exact e2
        | succ i => exact c i l' vs (by simpa using e3) (by simpa using e4)
  obtain ⟨ls, a, b, c⟩ := key zs vss hz h
  exact ⟨ls, by rw [hD, a], b, c⟩
theorem Nms.rev {H : Hp} {us : List V} {qs : List (Int × Int)} (h : Nms H us qs) : Nms H us.reverse qs.reverse := by
  have hl := h.1
  refine ⟨by simp [hl], fun i u q e1 e2 => ?_⟩
  have hi : i < us.length := by
    have := (List.getElem?_eq_some_iff.mp e1).1
    simpa using this
  rw [List.getElem?_reverse hi] at e1
  rw [List.getElem?_reverse (by omega), ← hl] at e2
  exact h.2 _ u q e1 e2
theorem Numss.rev {H : Hp} {vss : List (List V)} {qss : List (List (Int × Int))} (h : Numss H vss qss) : Numss H vss.reverse qss.reverse := by
  have hl := h.1
  refine ⟨by simp [hl], fun i u q e1 e2 => ?_⟩
  have hi : i < vss.length := by
    have := (List.getElem?_eq_some_iff.mp e1).1
    simpa using this
  rw [List.getElem?_reverse hi] at e1
  rw [List.getElem?_reverse (by omega), ← hl] at e2
  exact h.2 _ u q e1 e2
theorem MatV.rev {H : Hp} {r p : Addr} {ls : List Addr} {vss : List (List V)} (h : MatV H r ls vss) (e : H p = some (.lst (ls.map V.ref).reverse)) : MatV H p ls.reverse vss.reverse := by
  have hl := h.2.1
  refine ⟨by rw [e, List.map_reverse], by simp [hl], fun i l vs e1 e2 => ?_⟩
  have hi : i < ls.length := by
    have := (List.getElem?_eq_some_iff.mp e1).1
    simpa using this
  rw [List.getElem?_reverse hi] at e1
  rw [List.getElem?_reverse (by omega), ← hl] at e2
  exact h.2.2 _ l vs e1 e2
theorem MatV.dbl {H : Hp} {r p : Addr} {ls : List Addr} {vss : List (List V)} (h : MatV H r ls vss) (e : H p = some (.lst (ls.map V.ref ++ ls.map V.ref))) : MatV H p (ls ++ ls) (vss ++ vss) := by
  have hl := h.2.1
  refine ⟨by rw [e, List.map_append], by simp [hl], fun i l vs e1 e2 => ?_⟩
  by_cases z : i < ls.length
  · rw [List.getElem?_append_left z] at e1
    rw [List.getElem?_append_left (by omega)] at e2
    exact h.2.2 i l vs e1 e2
  · rw [List.getElem?_append_right (by omega)] at e1 e2
    rw [← hl] at e2
    exact h.2.2 _ l vs e1 e2
theorem Numss.dbl {H : Hp} {vss : List (List V)} {qss : List (List (Int × Int))} (h : Numss H vss qss) : Numss H (vss ++ vss) (qss ++ qss) := by
  have hl := h.1
  refine ⟨by simp [hl], fun i u q e1 e2 => ?_⟩
  by_cases z : i < vss.length
  · rw [List.getElem?_append_left z] at e1
    rw [List.getElem?_append_left (by omega)] at e2
    exact h.2 i u q e1 e2
  · rw [List.getElem?_append_right (by omega)] at e1 e2
    rw [← hl] at e2
    exact h.2 _ u q e1 e2
theorem Numss.mrev {H : Hp} {vss : List (List V)} {qss : List (List (Int × Int))} (h : Numss H vss qss) : Numss H (vss.map List.reverse) (qss.map List.reverse) := by
  have hl := h.1
  refine ⟨by simp [hl], fun i u q e1 e2 => ?_⟩
  rw [List.getElem?_map] at e1 e2
  obtain ⟨vs, ev, rfl⟩ := Option.map_eq_some_iff.mp e1
  obtain ⟨qs, eq, rfl⟩ := Option.map_eq_some_iff.mp e2
  exact (h.2 i vs qs ev eq).rev
theorem Shape.mem {T B m : Nat} {qss qss' : List (List (Int × Int))} (h : Shape T B m qss) (s : ∀ q ∈ qss', ∃ q' ∈ qss, q.length = q'.length ∧ ∀ x ∈ q, x ∈ q') : Shape T B m qss' := fun q hq => by
  obtain ⟨q', h1, h2, h3⟩ := s q hq
  obtain ⟨a, b⟩ := h q' h1
  exact ⟨by rw [h2, a], fun x hx => b x (h3 x hx)⟩
theorem col_shape {T B m : Nat} {qss : List (List (Int × Int))} (sh : Shape T B m qss) : Shape T B qss.length ((List.range m).map fun j => colQ qss j) := fun q hq => by
  obtain ⟨j, hj, rfl⟩ := List.mem_map.mp hq
  exact ⟨by unfold colQ; rw [List.length_map], col_sm sh (List.mem_range.mp hj)⟩
theorem col_numss {H : Hp} {vss : List (List V)} {qss : List (List (Int × Int))} {T B m : Nat} (h : Numss H vss qss) (sh : Shape T B m qss) : Numss H (colsV vss m) ((List.range m).map fun j => colQ qss j) := by
  refine ⟨by unfold colsV; simp, fun i u q e1 e2 => ?_⟩
  unfold colsV at e1
  have hi : i < m := by
    have := (List.getElem?_eq_some_iff.mp e1).1
    simpa using this
  rw [List.getElem?_map, List.getElem?_range hi] at e1 e2
  cases e1
  cases e2
  exact col_nums h sh hi
theorem zip_numss {H : Hp} {vss : List (List V)} {qss : List (List (Int × Int))} {us : List V} {ds : List (Int × Int)} (h : Numss H vss qss) (n : Nms H us ds) : Numss H (List.zipWith (fun vs u => vs ++ [u]) vss us) (List.zipWith (fun qs d => qs ++ [d]) qss ds) := by
  have h1 := h.1
  have h2 := n.1
  refine ⟨by simp [h1, h2], fun i v q e1 e2 => ?_⟩
  rw [List.getElem?_zipWith] at e1 e2
  cases a1 : vss[i]? with
  | none => rw [a1] at e1; cases e1
  | some vs =>
    cases a2 : us[i]? with
    | none => rw [a1, a2] at e1; cases e1
    | some u =>
      cases a3 : qss[i]? with
      | none => rw [a3] at e2; cases e2
      | some qs =>
        cases a4 : ds[i]? with
        | none => rw [a3, a4] at e2; cases e2
        | some d =>
          rw [a1, a2] at e1
          rw [a3, a4] at e2
          cases e1
          cases e2
          exact (h.2 i vs qs a1 a3).snoc (n.2 i u d a2 a4)
theorem zip_shape {T B m : Nat} {qss : List (List (Int × Int))} {ds : List (Int × Int)} (sh : Shape T B m qss) (sd : ∀ d ∈ ds, Sm T B d) : Shape T B (m + 1) (List.zipWith (fun qs d => qs ++ [d]) qss ds) := fun q hq => by
  obtain ⟨i, e⟩ := List.getElem?_of_mem hq
  rw [List.getElem?_zipWith] at e
  cases a3 : qss[i]? with
  | none => rw [a3] at e; cases e
  | some qs =>
    cases a4 : ds[i]? with
    | none => rw [a3, a4] at e; cases e
    | some d =>
      rw [a3, a4] at e
      cases e
      obtain ⟨l, s⟩ := sh qs (List.mem_of_getElem? a3)
      refine ⟨by simp [l], fun x hx => ?_⟩
      rcases List.mem_append.mp hx with z | z
      · exact s x z
      · rw [List.mem_singleton.mp z]
        exact sd d (List.mem_of_getElem? a4)
theorem z26b {m n : Nat} (hm : m ≤ 6) : bb (400 + 120 * (m + 1)) (min (m + 1) n) ≤ 250000 := by
  have b2 := bb_eq (400 + 120 * (m + 1)) (min (m + 1) n)
  have p2 : 2 ^ (min (m + 1) n) * (400 + 120 * (m + 1) + 1) ≤ 2 ^ 7 * 1241 := Nat.mul_le_mul (Nat.pow_le_pow_right (by decide) (by omega)) (by omega)
  have f6 : (2 : Nat) ^ 7 = 128 := by decide
  rw [f6] at p2
  omega
theorem sc_law : FnScope ["_law_script", "_law_many", "_law_count", "_law_kind", "_law_rows_here", "_law_needed_here", "_law_dues_here", "_law_longer", "_law_found"] ["_law_script"] (defScope s_law) := ⟨rfl, rfl, rfl, by decide +kernel, rfl, by decide +kernel, by decide +kernel⟩
theorem ok_law {f : Addr} {fd : FuncData} (F : Fun K "law" "law" s_law f fd) (m_range : mg "range" = none) (m_isinstance : mg "isinstance" = none) (m_tuple : mg "tuple" = none) (m_len : mg "len" = none) (m_int : mg "int" = none)
    (G_law_cell_at : Fn P w K mg base (CXr P w) 1 "_law_cell_at" ["_law_script", "_law_k"] (spCell K)) (G_law_rows : Fn P w K mg base (CXr P w) 35 "_law_rows" ["_law_script", "_law_many", "_law_count", "_law_kind"] (spRows K)) (G_law_leaning : Fn P w K mg base (CXr P w) 35 "_law_leaning" ["_law_rows_here", "_law_many", "_law_how"] spLean)
    (G_law_nought_column : Fn P w K mg base (CXr P w) 1 "_law_nought_column" ["_law_rows_here", "_law_many", "_law_cell"] spNought) (G_law_dues : Fn P w K mg base (CXr P w) 35 "_law_dues" ["_law_script", "_law_rows_here", "_law_many", "_law_kind"] (spDues K))
    (G_law_needed : Fn P w K mg base (CXr P w) 38 "_law_needed" ["_law_rows_here", "_law_many"] (spNeed26 K)) (G_split_rows : Fn P w K mg base (CXr P w) 37 "split_rows" ["rows", "many"] (spSplit K)) (G_solve_rows : Fn P w K mg base (CXr P w) 37 "solve_rows" ["rows", "due", "many"] (spSolve K)) :
    FnOk P w K mg base (CXr P w) 42 f fd ["_law_script"] (spLaw K) := by
  refine F.okG sc_law (fun vs H Q E h => ?_) (fun cdv A outer s H vs Q E hr h => ?_)
  · obtain ⟨a, ns, rfl, _⟩ := h
    rfl
  obtain ⟨a, ns, rfl, hS, h63, hb, q⟩ := h
  have px := passM (X := (cxOf (CXr P w) P w K mg base ["_law_script", "_law_many", "_law_count", "_law_kind", "_law_rows_here", "_law_needed_here", "_law_dues_here", "_law_longer", "_law_found"] "law" (defScope s_law) f cdv A outer s H E)) (CXr.mute (P := P) (w := w))
  have tail10 : ∃ t, PSs (cxOf (CXr P w) P w K mg base ["_law_script", "_law_many", "_law_count", "_law_kind", "_law_rows_here", "_law_needed_here", "_law_dues_here", "_law_longer", "_law_found"] "law" (defScope s_law) f cdv A outer s H E).nox ((defBody s_law).drop 10) t ∧ ∀ (m n : Nat) (k : Int) (N : Int) (H3 : Hp) (r : Addr) (ls : List Addr) (vss : List (List V)) (qss : List (List (Int × Int))), Own H H3 r ls vss qss → qss.length = n → Shape 220 20 m qss → m ≤ 5 → n ≤ 5 → t { nx := fun _ H' => Q .non H', rt := Q } [some (.ref a), some (.int (m : Int)), some (.int (n : Int)), some (.int k), some (.ref r), some (.int N), none, none, none] H3 := by
    refine ⟨_, (pss_cons (ps_set (i := 6) sc_law.nd rfl (Or.inr rfl) (pe_fn G_law_dues (hr.mono (by decide)) px (pac (pv 0) (pac (pv 4) (pac (pv 1) (pac (pv 3) pa_nil)))))) (pss_cons (ps_set (i := 7) sc_law.nd rfl (Or.inl rfl) (pe_fn G_split_rows (hr.mono (by decide)) px (pac (pe_comp (tn := ["_law_i"]) (fr := ["_law_rows_here", "_law_dues_here"]) (caps := [4, 6]) rfl ⟨rfl, by decide +kernel, rfl, by decide +kernel, by decide +kernel, rfl, ⟨(by first | exact Or.inl rfl | exact Or.inr rfl), ⟨(by first | exact Or.inl rfl | exact Or.inr rfl), trivial⟩⟩, ⟨(by first | exact Or.inl rfl | exact Or.inr rfl), ⟨(by first | exact Or.inl rfl | exact Or.inr rfl), trivial⟩⟩⟩ (pi_range1 rfl m_range (pac (pv 2) pa_nil)) (fun _ _ _ _ => (pg_name (i := 0) (show (["_law_i", "_law_rows_here", "_law_dues_here"] : List Str).Nodup from by decide +kernel) rfl (Or.inl rfl))) (fun _ _ _ _ => pf_nil) (fun _ _ _ _ => (pe_op op_cat (pe_ix (ix_listK (K := K) rfl) (pv 1) (pv 0) (fun _ _ => rfl)) (pe_lst (pac (pe_ix (ix_listK (K := K) rfl) (pv 2) (pv 0) (fun _ _ => rfl)) pa_nil))))) (pac (pe_op op_add (pv 1) pe_int) pa_nil)))) (pss_cons (ps_set (i := 8) sc_law.nd rfl (Or.inl rfl) (pe_fn G_solve_rows (hr.mono (by decide)) px (pac (pv 4) (pac (pv 6) (pac (pv 1) pa_nil))))) (pss_cons (ps_if (PW.pt (pw_or (pt_not (pt_val (pe_callB call_isi rfl m_isinstance b_isinstance (pac (pv 8) (pac (pe_ty rfl m_tuple b_tuple) pa_nil))))) (pw_or (pt_cmpR op_ne (pe_callB call_len_seq rfl m_len b_len (pac (pv 8) pa_nil)) pe_int (nomark _)) (pw_or (pt_not (pt_val (pe_callB call_isi rfl m_isinstance b_isinstance (pac (pv 7) (pac (pe_ty rfl m_tuple b_tuple) pa_nil))))) (pw_or1 (pt_cmpR op_ne (pe_callB call_len_seq rfl m_len b_len (pac (pv 7) pa_nil)) pe_int (nomark _))))))) (pss_one (ps_ret pe_bl)) pss_nil) (pss_one (ps_ret (pe_cmpR op_eq (pe_ix ix_tup (pv 8) pe_int (fun _ _ => rfl)) (pe_ix ix_list (pe_lst (pac pe_str (pac pe_str pa_nil))) (pe_callTy call_int1 rfl m_int b_int (pac (pe_cmp (pc_din (hu_of hr) (pv 1) (pe_ix ix_tup (pv 7) pe_int (fun _ _ => rfl)))) pa_nil)) (fun _ _ => rfl)) (nomark _)))))))), ?_⟩
    intro m n k N H3 r ls vss qss ow lq sh hm hn
    have hS3 := ow.since.seq hS
    have lm := ow.mat.2.1
    have lv := ow.num.1
    have len : ∀ qs ∈ qss, qs.length = m := fun qs hq => (sh qs hq).1
    refine ⟨_, rfl, _, rfl, _, rfl, _, rfl, a, ns, r, ls, vss, qss, m, k, false, rfl, hS3, hb, ow.mat, ow.num, sh, (show m ≤ 6 by omega), by omega, (fun z => nomatch z), fun d us ds H4 s4 e4 N4 lds S4 => ?_⟩
    have lu := N4.1
    have ow4 := ow.same s4
    have sd : ∀ d ∈ ds, Sm 400 120 d := S4
    have sh4 : Shape 400 120 m qss := sh.up (by decide) (by decide)
    -- what is due behind the rows
    refine ⟨_, rfl, _, rfl, by omega, by omega, fun D1 n1 => ?_⟩
    refine comp_rangeD (lo := 0) (n := (n : Int).toNat) (cap := [some (.ref r), some (.ref d)]) (fun i v H' => ∃ l vs u, v = .ref l ∧ vss[i]? = some vs ∧ us[i]? = some u ∧ H' l = some (.lst (vs ++ [u])) ∧ l ≠ D1) n1 (Nat.lt_of_le_of_lt (show (n : Int).toNat ≤ 100 by omega) (by decide)) (fun i v H2 H3 ys e ks ⟨l, vs, u, h1, h2, h3, h4, h5⟩ => ⟨l, vs, u, h1, h2, h3, ks _ _ h5 h4, h5⟩) ?_ ?_
    · rintro i H5 R hi s5 ⟨ys0, hD0⟩ kk
      obtain ⟨l, el⟩ : ∃ l, ls[i]? = some l := ⟨_, List.getElem?_eq_getElem (by omega)⟩
      obtain ⟨vs, ev⟩ : ∃ vs, vss[i]? = some vs := ⟨_, List.getElem?_eq_getElem (by omega)⟩
      obtain ⟨qs, eq⟩ : ∃ qs, qss[i]? = some qs := ⟨_, List.getElem?_eq_getElem (by omega)⟩
      obtain ⟨u, eu⟩ : ∃ u, us[i]? = some u := ⟨_, List.getElem?_eq_getElem (by omega)⟩
      have hl := ow4.mat.2.2 i l vs el ev
      have lvs := (ow4.num.2 i vs qs ev eq).1
      have lqs := len qs (List.mem_of_getElem? eq)
      have a1 : atI (ls.map V.ref) ((0 : Int) + (i : Int)) = some (.ref l) := by rw [Int.zero_add]; exact atI_nat (by rw [List.getElem?_map, el]; rfl)
      have a2 : atI us ((0 : Int) + (i : Int)) = some u := by rw [Int.zero_add]; exact atI_nat eu
      refine ⟨_, rfl, _, rfl, r, _, _, _, rfl, rfl, SqL.of (s5 _ _ ow4.mat.1), a1, _, rfl, _, rfl, d, _, _, _, rfl, rfl, SqL.of (s5 _ _ e4), a2, (by show 1 ≤ sizeLine; decide), fun p1 np1 => ?_⟩
      have t1 := same_new np1 (.lst [u])
      refine ⟨l, p1, _, _, rfl, rfl, t1 _ _ (s5 _ _ hl), upd_same, Nat.le_trans (show _ ≤ 1000 by simp; omega) (by decide), fun p2 np2 => ?_⟩
      exact kk _ _ (t1.trans (same_new np2 _)) ⟨p2, vs, u, rfl, ev, eu, upd_same, fun z => by
        have := t1 _ _ hD0
        rw [← z, np2] at this
        cases this⟩
    intro zs H5 hz r5 s5 e5
    obtain ⟨lsL, ML⟩ := rows_copied26 (vss := List.zipWith (fun vs u => vs ++ [u]) vss us) (by rw [List.length_zipWith]; omega) e5 (fun i v e => by
      obtain ⟨l, vs, u, h1, h2, h3, h4, _⟩ := r5 i v e
      exact ⟨l, vs ++ [u], h1, by rw [List.getElem?_zipWith, h2, h3], h4⟩)
    have ow5 := ow4.same s5
    have N5 := N4.same s5
    have e45 := s5 _ _ e4
    have NL := zip_numss ow5.num N5
    have shL := zip_shape sh4 sd
    refine ⟨_, rfl, _, _, rfl, rfl, D1, m + 1, lsL, _, _, 400, 120, 250000, rfl, ML, NL, shL, by omega, by rw [List.length_zipWith]; omega, by decide, by omega, by decide, z26b (by omega), by decide, fun p sd' nd' skv nkv ss nn os lv' es lv2 nd nd2 ws H6 s6 np nsd nnd ne wS wN SP => ?_⟩
    have ow6 := ow5.same s6
    have N6 := N5.same s6
    have e6 := s6 _ _ e45
    have lenL : ∀ qs ∈ List.zipWith (fun qs d => qs ++ [d]) qss ds, qs.length = m + 1 := fun qs hq => (shL qs hq).1
    have Tl := SP.told ne lenL
    have fin : ∀ (p2 x : Addr) (w : Str) (H7 : Hp), Same H6 H7 → H7 p2 = some (.tup [.str w, .ref x]) → (w = "solved" ∧ m ∈ ss.map (·.1) ∨ w = "paper" ∧ m ∉ ss.map (·.1)) → True := fun _ _ _ _ _ _ _ => trivial
    refine ⟨_, rfl, _, rfl, _, rfl, r, d, m, ls, vss, qss, us, ds, 400, 120, 250000, rfl, ow6.mat, ow6.num, e6, N6, by omega, sh4, sd, by omega, by omega, by decide, by omega, z26b (by omega), by decide, fun p2 x xu xs H7 s7 hp2 hx nx lx sx ex => ?_, fun p2 x xu ys H7 s7 hp2 hx nx ly sy ec ed => ?_⟩
    · have hin := spare_last SP len lds lx ex
      have hp7 := s7 _ _ SP.top
      refine ⟨_, rfl, _, _, _, true, rfl, rfl, .tup hp2, k_tt, _, rfl, ?_⟩
      refine ite2 (fun c => nomatch c) (fun _ => ?_)
      refine ⟨_, rfl, p2, _, rfl, .inr (SqT.of hp2), rfl, _, rfl, ?_⟩
      refine iteNS rfl ?_
      refine ⟨_, rfl, _, _, _, true, rfl, rfl, .tup hp7, k_tt, _, rfl, ?_⟩
      refine ite2 (fun c => nomatch c) (fun _ => ?_)
      refine ⟨_, rfl, p, _, rfl, .inr (SqT.of hp7), rfl, _, rfl, ?_⟩
      refine iteNS rfl ?_
      have isS : (valV skv (.inl (m : Int))).isSome = true := by rw [spR_in SP.rS (nodup_asc26 Tl.aS) m]; exact decide_eq_true hin
      refine ⟨_, rfl, p2, _, _, _, rfl, rfl, SqT.of hp2, at0, (by show 2 ≤ sizeLine; decide), fun pl npl => ?_⟩
      have tl := same_new npl (.lst [.str "paper", .str "solved"])
      refine ⟨_, rfl, _, rfl, p, _, _, _, rfl, rfl, SqT.of (tl _ _ hp7), at0, sd', _, rfl, .inl ⟨skv, .inl (m : Int), .inl (tl _ _ (s7 _ _ SP.dS)), rfl, rfl⟩, .inr ⟨_, rfl, ?_⟩⟩
      rw [isS]
      exact ⟨pl, _, _, _, rfl, rfl, SqL.of upd_same, rfl, rfl, q _⟩
    · have hin := paper_last Tl len lds ly ec ed
      have hp7 := s7 _ _ SP.top
      refine ⟨_, rfl, _, _, _, true, rfl, rfl, .tup hp2, k_tt, _, rfl, ?_⟩
      refine ite2 (fun c => nomatch c) (fun _ => ?_)
      refine ⟨_, rfl, p2, _, rfl, .inr (SqT.of hp2), rfl, _, rfl, ?_⟩
      refine iteNS rfl ?_
      refine ⟨_, rfl, _, _, _, true, rfl, rfl, .tup hp7, k_tt, _, rfl, ?_⟩
      refine ite2 (fun c => nomatch c) (fun _ => ?_)
      refine ⟨_, rfl, p, _, rfl, .inr (SqT.of hp7), rfl, _, rfl, ?_⟩
      refine iteNS rfl ?_
      have isS : (valV skv (.inl (m : Int))).isSome = false := by rw [spR_in SP.rS (nodup_asc26 Tl.aS) m]; exact decide_eq_false hin
      refine ⟨_, rfl, p2, _, _, _, rfl, rfl, SqT.of hp2, at0, (by show 2 ≤ sizeLine; decide), fun pl npl => ?_⟩
      have tl := same_new npl (.lst [.str "paper", .str "solved"])
      refine ⟨_, rfl, _, rfl, p, _, _, _, rfl, rfl, SqT.of (tl _ _ hp7), at0, sd', _, rfl, .inl ⟨skv, .inl (m : Int), .inl (tl _ _ (s7 _ _ SP.dS)), rfl, rfl⟩, .inr ⟨_, rfl, ?_⟩⟩
      rw [isS]
      exact ⟨pl, _, _, _, rfl, rfl, SqL.of upd_same, rfl, rfl, q _⟩
  obtain ⟨t10, p10, q10⟩ := tail10
  have tail6 : ∃ t, PSs (cxOf (CXr P w) P w K mg base ["_law_script", "_law_many", "_law_count", "_law_kind", "_law_rows_here", "_law_needed_here", "_law_dues_here", "_law_longer", "_law_found"] "law" (defScope s_law) f cdv A outer s H E).nox ((defBody s_law).drop 6) t ∧ ∀ (m n : Nat) (k : Int) (H3 : Hp) (r : Addr) (ls : List Addr) (vss : List (List V)) (qss : List (List (Int × Int))), Own H H3 r ls vss qss → qss.length = n → Shape 220 20 m qss → m ≤ 5 → n ≤ 5 → t { nx := fun _ H' => Q .non H', rt := Q } [some (.ref a), some (.int (m : Int)), some (.int (n : Int)), some (.int k), some (.ref r), none, none, none, none] H3 := by
    refine ⟨_, (pss_cons (ps_set (i := 5) sc_law.nd rfl (Or.inl rfl) (pe_fn G_law_needed (hr.mono (by decide)) px (pac (pv 4) (pac (pv 1) pa_nil)))) (pss_cons (ps_if (PW.pt (pw_or (pt_cmpR op_lt (pv 5) pe_int (nomark _)) (pw_or (pt_cmpR op_ne (pe_fn G_law_needed (hr.mono (by decide)) px (pac (pe_rev (K := K) rfl (pv 4) (pe_un un_neg pe_int)) (pac (pv 1) pa_nil))) (pv 5) (nomark _)) (pw_or1 (pt_cmpR op_ne (pe_fn G_law_needed (hr.mono (by decide)) px (pac (pe_op op_cat (pv 4) (pv 4)) (pac (pv 1) pa_nil))) (pv 5) (nomark _)))))) (pss_one (ps_ret pe_bl)) pss_nil) (pss_cons (ps_if (pt_cmpR op_ne (pe_fn G_law_needed (hr.mono (by decide)) px (pac (pe_comp (tn := ["_law_row"]) (fr := []) (caps := []) rfl ⟨rfl, by decide +kernel, rfl, by decide +kernel, by decide +kernel, rfl, trivial, trivial⟩ (pi_list (pv 4)) (fun _ _ _ _ => (pg_name (i := 0) (show (["_law_row"] : List Str).Nodup from by decide +kernel) rfl (Or.inl rfl))) (fun _ _ _ _ => pf_nil) (fun _ _ _ _ => (pe_rev (K := K) rfl (pv 0) (pe_un un_neg pe_int)))) (pac (pv 1) pa_nil))) (pv 5) (nomark _)) (pss_one (ps_ret pe_bl)) pss_nil) (pss_cons (ps_if (pt_cmpR op_ne (pe_fn G_law_needed (hr.mono (by decide)) px (pac (pe_comp1 (y := "_law_j") (tn := ["_law_j"]) (fr := ["_law_rows_here"]) (caps := [4]) rfl ⟨rfl, rfl, by decide +kernel, by decide +kernel, rfl, ⟨(by first | exact Or.inl rfl | exact Or.inr rfl), trivial⟩, ⟨(by first | exact Or.inl rfl | exact Or.inr rfl), trivial⟩, fun _ _ => rfl, fun _ => rfl, by decide +kernel, by decide +kernel⟩ (pi_range1 rfl m_range (pac (pv 1) pa_nil)) (fun _ _ _ _ => (pg_name (i := 0) (show (["_law_j", "_law_rows_here"] : List Str).Nodup from by decide +kernel) rfl (Or.inr rfl))) (fun _ _ _ _ => pf_nil) (fun _ _ _ _ => (pe_comp (tn := ["_law_row"]) (fr := ["_law_j"]) (caps := [0]) rfl ⟨rfl, by decide +kernel, rfl, by decide +kernel, by decide +kernel, rfl, ⟨(by first | exact Or.inl rfl | exact Or.inr rfl), trivial⟩, ⟨(by first | exact Or.inl rfl | exact Or.inr rfl), trivial⟩⟩ (pi_listK (K := K) rfl (pv 1)) (fun _ _ _ _ => (pg_name (i := 0) (show (["_law_row", "_law_j"] : List Str).Nodup from by decide +kernel) rfl (Or.inl rfl))) (fun _ _ _ _ => pf_nil) (fun _ _ _ _ => (pe_ix (ix_listK (K := K) rfl) (pv 0) (pv 1) (fun _ _ => rfl)))))) (pac (pv 2) pa_nil))) (pv 5) (nomark _)) (pss_one (ps_ret pe_bl)) pss_nil) p10)))), ?_⟩
    intro m n k H3 r ls vss qss ow lq sh hm hn
    have lm := ow.mat.2.1
    have lv := ow.num.1
    have len : ∀ qs ∈ qss, qs.length = m := fun qs hq => (sh qs hq).1
    refine ⟨_, rfl, _, rfl, r, m, ls, vss, qss, rfl, ow.mat, ow.num, sh, by omega, by omega, fun H4 N s4 rk => ?_⟩
    have ow4 := ow.same s4
    -- turned about, and twice
    refine ⟨_, rfl, _, _, rfl, rfl, _, rfl, ?_⟩
    refine ite2 (fun c => absurd (of_decide_eq_true c) (by omega)) (fun _ => ?_)
    refine ⟨_, rfl, _, rfl, rfl, r, _, rfl, SqL.of ow4.mat.1, fun p1 n1 => ?_⟩
    have t1 := same_new n1 (.lst (ls.map V.ref).reverse)
    have ow5 := ow4.same t1
    refine ⟨_, rfl, p1, m, _, _, _, rfl, ow5.mat.rev upd_same, ow5.num.rev, sh.mem (fun x hx => ⟨x, List.mem_reverse.mp hx, rfl, fun _ h => h⟩), by omega, by rw [List.length_reverse]; omega, fun H5 N5 s5 rk5 => ?_⟩
    refine ⟨_, rfl, rfl, _, rfl, ?_⟩
    refine iteNS (show V.int (N5 : Int) = V.int (N : Int) by rw [rk.rows_back rk5]) ?_
    have ow6 := ow5.same s5
    refine ⟨_, rfl, _, rfl, r, r, _, _, rfl, rfl, ow6.mat.1, ow6.mat.1, Nat.le_trans (show _ ≤ 1000 by simp; omega) (by decide), fun p2 n2 => ?_⟩
    have t2 := same_new n2 (.lst (ls.map V.ref ++ ls.map V.ref))
    have ow7 := ow6.same t2
    refine ⟨_, rfl, p2, m, _, _, _, rfl, ow7.mat.dbl upd_same, ow7.num.dbl, sh.mem (fun x hx => ⟨x, by simpa using hx, rfl, fun _ h => h⟩), by omega, by rw [List.length_append]; omega, fun H6 N6 s6 rk6 => ?_⟩
    refine ⟨_, rfl, rfl, _, rfl, ?_⟩
    refine iteNS (show V.int (N6 : Int) = V.int (N : Int) by rw [rk.twice rk6]) ?_
    have ow8 := ow7.same s6
    -- the columns turned about
    refine ⟨_, rfl, r, rfl, ⟨_, SqL.of ow8.mat.1⟩, fun D1 f1 => ?_⟩
    refine comp_listD (cap := []) (K := K) (a := r) (xs := ls.map V.ref) (fun i v H' => ∃ l us, v = .ref l ∧ vss[i]? = some us ∧ H' l = some (.lst us.reverse) ∧ l ≠ D1) f1 (by rw [List.length_map]; exact Nat.lt_of_le_of_lt (show ls.length ≤ 100 by omega) (by decide)) (fun H4 s4 => SqL.of (s4 _ _ ow8.mat.1)) (fun i v H4 H5 ys e ks ⟨l, us, h1, h2, h3, h4⟩ => ⟨l, us, h1, h2, ks l _ h4 h3, h4⟩) ?_ ?_
    · rintro i u H9 R hu s9 ⟨ys0, hD1⟩ kk
      rw [List.getElem?_map] at hu
      obtain ⟨l, el, rfl⟩ := Option.map_eq_some_iff.mp hu
      have hi : i < ls.length := (List.getElem?_eq_some_iff.mp el).1
      have ev : vss[i]? = some (vss[i]'(by omega)) := List.getElem?_eq_getElem (by omega)
      have hl := ow8.mat.2.2 i l _ el ev
      refine ⟨_, rfl, _, rfl, rfl, l, _, rfl, SqL.of (s9 _ _ hl), fun l' nl' => ?_⟩
      exact kk _ _ (same_new nl' _) ⟨l', _, rfl, ev, upd_same, fun z => by rw [z, hD1] at nl'; cases nl'⟩
    intro zs H9 hz r9 s9 e9
    rw [List.length_map] at hz
    obtain ⟨ls9, M9⟩ := rows_copied26 (vss := vss.map List.reverse) (by rw [List.length_map]; omega) e9 (fun i v e => by
      obtain ⟨l, us, h1, h2, h3, _⟩ := r9 i v e
      exact ⟨l, us.reverse, h1, by rw [List.getElem?_map, h2]; rfl, h3⟩)
    have ow9 := ow8.same s9
    refine ⟨_, rfl, D1, m, ls9, _, _, rfl, M9, ow9.num.mrev, sh.mem (fun x hx => ?_), by omega, by rw [List.length_map]; omega, fun H10 N10 s10 rk10 => ?_⟩
    · obtain ⟨y, hy, rfl⟩ := List.mem_map.mp hx
      exact ⟨y, hy, by simp, fun _ h => List.mem_reverse.mp h⟩
    refine ⟨_, rfl, rfl, _, rfl, ?_⟩
    refine iteNS (show V.int (N10 : Int) = V.int (N : Int) by rw [Rk.cols_back len rk rk10]) ?_
    have ow10 := ow9.same s10
    -- rows and columns exchanged
    refine ⟨_, rfl, _, rfl, by omega, by omega, fun D2 f2 => ?_⟩
    refine comp_rangeD (lo := 0) (n := (m : Int).toNat) (cap := [some (.ref r)]) (fun j v H' => ∃ l, v = .ref l ∧ H' l = some (.lst (colV vss j)) ∧ l ≠ D2) f2 (Nat.lt_of_le_of_lt (show (m : Int).toNat ≤ 100 by omega) (by decide)) (fun i v H4 H5 ys e ks ⟨l, h1, h3, h4⟩ => ⟨l, h1, ks l _ h4 h3, h4⟩) ?_ ?_
    · rintro j H11 R hj s11 ⟨ys0, hD2⟩ kk
      have M11 := ow10.mat.same s11
      refine ⟨_, rfl, r, rfl, ⟨_, SqL.of M11.1⟩, fun D3 n3 => ?_⟩
      refine comp_list (cap := [some (.int ((0 : Int) + j))]) (K := K) (a := r) (xs := ls.map V.ref) (fun k v _ => ∃ vs, vss[k]? = some vs ∧ v = vs.getD j .non) n3 (by rw [List.length_map]; exact Nat.lt_of_le_of_lt (show ls.length ≤ 100 by omega) (by decide)) (fun H3 s3 => SqL.of (s3 _ _ M11.1)) (fun _ _ _ _ _ _ _ h => h) ?_ ?_
      · intro k u H12 R' hu s12 k3
        rw [List.getElem?_map] at hu
        obtain ⟨l, el, rfl⟩ := Option.map_eq_some_iff.mp hu
        have hk : k < ls.length := (List.getElem?_eq_some_iff.mp el).1
        have ev : vss[k]? = some (vss[k]'(by omega)) := List.getElem?_eq_getElem (by omega)
        have eq : qss[k]? = some (qss[k]'(by omega)) := List.getElem?_eq_getElem (by omega)
        have hl := M11.2.2 k l _ el ev
        have lvs := (ow10.num.2 k _ _ ev eq).1
        have lqs := len _ (List.mem_of_getElem? eq)
        generalize vss[k]'(by omega) = vs at *
        have ea : atI vs ((0 : Int) + (j : Int)) = some (vs.getD j .non) := by
          rw [Int.zero_add]
          exact atI_nat (by rw [List.getElem?_eq_getElem (show j < vs.length by omega), List.getD_eq_getElem?_getD, List.getElem?_eq_getElem (show j < vs.length by omega)]; rfl)
        exact ⟨_, rfl, _, rfl, l, _, _, _, rfl, rfl, SqL.of (s12 _ _ hl), ea, k3 _ _ (Same.refl _) ⟨_, ev, rfl⟩⟩
      · intro ys H12 hy hrel s12 hD
        rw [List.length_map] at hy
        have ey : ys = colV vss j := by
          refine List.ext_getElem? fun k => ?_
          unfold colV
          by_cases hk : k < ys.length
          · have e1 : ys[k]? = some ys[k] := List.getElem?_eq_getElem hk
            obtain ⟨vs, ev, e2⟩ := hrel k _ e1
            rw [e1, e2, List.getElem?_map, ev]
            rfl
          · rw [List.getElem?_eq_none (by omega), List.getElem?_eq_none (by simp; omega)]
        subst ey
        exact kk _ _ s12 ⟨D3, rfl, hD, fun z => by rw [z, hD2] at n3; cases n3⟩
    intro ys H11 hy r11 s11 e11
    obtain ⟨ls11, M12⟩ := rows_copied26 (vss := colsV vss m) (by unfold colsV; simp; omega) e11 (fun i v e => by
      obtain ⟨l, h1, h3, _⟩ := r11 i v e
      have hi := (List.getElem?_eq_some_iff.mp e).1
      exact ⟨l, colV vss i, h1, by unfold colsV; rw [List.getElem?_map, List.getElem?_range (by omega)]; rfl, h3⟩)
    have ow11 := ow10.same s11
    have shC := col_shape sh
    rw [lq] at shC
    refine ⟨_, rfl, D2, n, ls11, _, _, rfl, M12, col_numss ow11.num sh, shC, by omega, by simp; omega, fun H12 N12 s12 rk12 => ?_⟩
    rw [← lq] at rk12
    refine ⟨_, rfl, rfl, _, rfl, ?_⟩
    refine iteNS (show V.int (N12 : Int) = V.int (N : Int) by rw [rk.turned rk12]) ?_
    exact q10 m n k N H12 r ls vss qss (ow11.same s12) lq sh hm hn
  obtain ⟨t6, p6, q6⟩ := tail6
  have tail4 : ∃ t, PSs (cxOf (CXr P w) P w K mg base ["_law_script", "_law_many", "_law_count", "_law_kind", "_law_rows_here", "_law_needed_here", "_law_dues_here", "_law_longer", "_law_found"] "law" (defScope s_law) f cdv A outer s H E).nox ((defBody s_law).drop 4) t ∧ ∀ (m n : Nat) (k : Int), m ≤ 5 → n ≤ 5 → t { nx := fun _ H' => Q .non H', rt := Q } [some (.ref a), some (.int (m : Int)), some (.int (n : Int)), some (.int k), none, none, none, none, none] H := by
    refine ⟨_, (pss_cons (ps_set (i := 4) sc_law.nd rfl (Or.inr rfl) (pe_fn G_law_leaning (hr.mono (by decide)) px (pac (pe_fn G_law_rows (hr.mono (by decide)) px (pac (pv 0) (pac (pv 1) (pac (pv 2) (pac (pv 3) pa_nil))))) (pac (pv 1) (pac (pe_op op_modB (pe_op op_fdivB (pe_fn G_law_cell_at (hr.mono (by decide)) px (pac (pv 0) (pac pe_int pa_nil))) pe_int) pe_int) pa_nil))))) (pss_cons (ps_set (i := 4) sc_law.nd rfl (Or.inr rfl) (pe_fn G_law_nought_column (hr.mono (by decide)) px (pac (pv 4) (pac (pv 1) (pac (pe_op op_fdivB (pe_fn G_law_cell_at (hr.mono (by decide)) px (pac (pv 0) (pac pe_int pa_nil))) pe_int) pa_nil))))) p6)), ?_⟩
    intro m n k hm hn
    refine ⟨_, rfl, _, rfl, _, rfl, _, rfl, a, ns, (m : Int), (n : Int), k, 200, 10, rfl, hS, hb, by omega, by omega, by omega, by omega, .inr ⟨by decide, by decide⟩, fun r ls0 vss0 qss0 H1 ow0 lq sh0 => ?_⟩
    have hS1 := ow0.since.seq hS
    refine ⟨_, rfl, _, rfl, a, ns, 2, rfl, hS1, by decide, _, _, rfl, rfl, ⟨by decide, by decide +kernel⟩, _, _, rfl, rfl, nz (by decide), ?_⟩
    refine ⟨H, r, ls0, vss0, qss0, (m : Int), _, 200, 10, 220, 20, rfl, ow0, sh0, by omega, by omega, by omega, by decide, by decide, by decide, by decide, fun ls vss qss H2 ow lq' sh => ?_⟩
    have hS2 := ow.since.seq hS
    refine ⟨_, rfl, _, rfl, _, rfl, a, ns, 2, rfl, hS2, by decide, _, _, rfl, rfl, ⟨by decide, by decide +kernel⟩, H, r, ls, vss, qss, (m : Int), _, 220, 20, rfl, ow, sh, by omega, by omega, by omega, fun vss3 qss3 H3 ow3 lq3 sh3 => ?_⟩
    rw [Int.toNat_natCast] at sh3
    exact q6 m n k H3 r ls vss3 qss3 ow3 (by omega) sh3 hm hn
  obtain ⟨t4, p4, q4⟩ := tail4
  have w1 := fmod_in (x := cell ns 0) (m := 6) (by decide)
  have w2 := fmod_in (x := (cell ns 0).fdiv 6) (m := 6) (by decide)
  have w4 := fmod_in (x := (cell ns 0).fmod 6) (m := 4) (by decide)
  have w5 := fmod_in (x := ((cell ns 0).fdiv 6).fmod 6) (m := 4) (by decide)
  have q4' : ∀ m n k : Int, 0 ≤ m → m ≤ 5 → 0 ≤ n → n ≤ 5 → t4 { nx := fun _ H' => Q .non H', rt := Q } [some (.ref a), some (.int m), some (.int n), some (.int k), none, none, none, none, none] H := fun m n k m0 m1 n0 n1 => by
    obtain ⟨m', rfl⟩ := Int.eq_ofNat_of_zero_le m0
    obtain ⟨n', rfl⟩ := Int.eq_ofNat_of_zero_le n0
    exact q4 m' n' k (by omega) (by omega)
  refine ⟨_, (pss_cons (ps_set (i := 1) sc_law.nd rfl (Or.inl rfl) (pe_op op_modB (pe_fn G_law_cell_at (hr.mono (by decide)) px (pac (pv 0) (pac pe_int pa_nil))) pe_int)) (pss_cons (ps_set (i := 2) sc_law.nd rfl (Or.inl rfl) (pe_op op_modB (pe_op op_fdivB (pe_fn G_law_cell_at (hr.mono (by decide)) px (pac (pv 0) (pac pe_int pa_nil))) pe_int) pe_int)) (pss_cons (ps_set (i := 3) sc_law.nd rfl (Or.inl rfl) (pe_op op_modB (pe_fn G_law_cell_at (hr.mono (by decide)) px (pac (pv 0) (pac pe_int pa_nil))) pe_int)) (pss_cons (ps_if (pt_cmpR op_eq (pv 3) pe_int (nomark _)) (pss_cons (ps_set (i := 1) sc_law.nd rfl (Or.inl rfl) (pe_op op_modB (pv 1) pe_int))
      (pss_one (ps_set (i := 2) sc_law.nd rfl (Or.inl rfl) (pe_op op_modB (pv 2) pe_int)))) pss_nil) p4)))), ?_⟩
  refine ⟨_, rfl, a, ns, 0, rfl, hS, by decide, _, _, rfl, rfl, nz (by decide), ?_⟩
  refine ⟨_, rfl, a, ns, 0, rfl, hS, by decide, _, _, rfl, rfl, ⟨by decide, by decide +kernel⟩, _, _, rfl, rfl, nz (by decide), ?_⟩
  refine ⟨_, rfl, a, ns, 2, rfl, hS, by decide, _, _, rfl, rfl, nz (by decide), ?_⟩
  refine ⟨_, rfl, rfl, _, rfl, ?_⟩
  refine ite2 (fun _ => ?_) (fun _ => ?_)
  · refine ⟨_, rfl, _, _, rfl, rfl, nz (by decide), ?_⟩
    refine ⟨_, rfl, _, _, rfl, rfl, nz (by decide), ?_⟩
    exact q4' _ _ _ (by omega) (by omega) (by omega) (by omega)
  · exact q4' _ _ _ (by omega) (by omega) (by omega) (by omega)
end
theorem all_mk {l : PySem.W.OpenLaw} {w : World} {K : PySem.W.Frag} {h : Heap} {mg : Str → Option Value} {fa : Addr} (X : K.In h) (G : h.Ns mainGlobals mg) (hfa : mg "law" = some (.ref fa))
    {f_lowest_terms : Addr} {od_lowest_terms an_lowest_terms : Option Addr} {sl_lowest_terms : Array (Option Value)} {oc_lowest_terms kV_lowest_terms dc_lowest_terms pm_lowest_terms cd_lowest_terms ct_lowest_terms : Value} {f_greatest_shared : Addr} {od_greatest_shared an_greatest_shared : Option Addr} {sl_greatest_shared : Array (Option Value)} {oc_greatest_shared kV_greatest_shared dc_greatest_shared pm_greatest_shared cd_greatest_shared ct_greatest_shared : Value} {f_solve_rows : Addr} {od_solve_rows an_solve_rows : Option Addr} {sl_solve_rows : Array (Option Value)} {oc_solve_rows kV_solve_rows dc_solve_rows pm_solve_rows cd_solve_rows ct_solve_rows : Value} {f_split_rows : Addr} {od_split_rows an_split_rows : Option Addr} {sl_split_rows : Array (Option Value)} {oc_split_rows kV_split_rows dc_split_rows pm_split_rows cd_split_rows ct_split_rows : Value} {f_spare_columns : Addr} {od_spare_columns an_spare_columns : Option Addr} {sl_spare_columns : Array (Option Value)} {oc_spare_columns kV_spare_columns dc_spare_columns pm_spare_columns cd_spare_columns ct_spare_columns : Value} {f_spare_list : Addr} {od_spare_list an_spare_list : Option Addr} {sl_spare_list : Array (Option Value)} {oc_spare_list kV_spare_list dc_spare_list pm_spare_list cd_spare_list ct_spare_list : Value} {f_needed_columns : Addr} {od_needed_columns an_needed_columns : Option Addr} {sl_needed_columns : Array (Option Value)} {oc_needed_columns kV_needed_columns dc_needed_columns pm_needed_columns cd_needed_columns ct_needed_columns : Value} {f_turned : Addr} {od_turned an_turned : Option Addr} {sl_turned : Array (Option Value)} {oc_turned kV_turned dc_turned pm_turned cd_turned ct_turned : Value} {f_whole_row : Addr} {od_whole_row an_whole_row : Option Addr} {sl_whole_row : Array (Option Value)} {oc_whole_row kV_whole_row dc_whole_row pm_whole_row cd_whole_row ct_whole_row : Value} {f_unit_line : Addr} {od_unit_line an_unit_line : Option Addr} {sl_unit_line : Array (Option Value)} {oc_unit_line kV_unit_line dc_unit_line pm_unit_line cd_unit_line ct_unit_line : Value} {f_solution_of : Addr} {od_solution_of an_solution_of : Option Addr} {sl_solution_of : Array (Option Value)} {oc_solution_of kV_solution_of dc_solution_of pm_solution_of cd_solution_of ct_solution_of : Value} {f_reduced : Addr} {od_reduced an_reduced : Option Addr} {sl_reduced : Array (Option Value)} {oc_reduced kV_reduced dc_reduced pm_reduced cd_reduced ct_reduced : Value} {f_first_not_nought : Addr} {od_first_not_nought an_first_not_nought : Option Addr} {sl_first_not_nought : Array (Option Value)} {oc_first_not_nought kV_first_not_nought dc_first_not_nought pm_first_not_nought cd_first_not_nought ct_first_not_nought : Value} {f_cleared : Addr} {od_cleared an_cleared : Option Addr} {sl_cleared : Array (Option Value)} {oc_cleared kV_cleared dc_cleared pm_cleared cd_cleared ct_cleared : Value} {f_divided : Addr} {od_divided an_divided : Option Addr} {sl_divided : Array (Option Value)} {oc_divided kV_divided dc_divided pm_divided cd_divided ct_divided : Value} {f_law_cell_at : Addr} {od_law_cell_at an_law_cell_at : Option Addr} {sl_law_cell_at : Array (Option Value)} {oc_law_cell_at kV_law_cell_at dc_law_cell_at pm_law_cell_at cd_law_cell_at ct_law_cell_at : Value} {f_law_number : Addr} {od_law_number an_law_number : Option Addr} {sl_law_number : Array (Option Value)} {oc_law_number kV_law_number dc_law_number pm_law_number cd_law_number ct_law_number : Value} {f_law_mixed : Addr} {od_law_mixed an_law_mixed : Option Addr} {sl_law_mixed : Array (Option Value)} {oc_law_mixed kV_law_mixed dc_law_mixed pm_law_mixed cd_law_mixed ct_law_mixed : Value} {f_law_draw : Addr} {od_law_draw an_law_draw : Option Addr} {sl_law_draw : Array (Option Value)} {oc_law_draw kV_law_draw dc_law_draw pm_law_draw cd_law_draw ct_law_draw : Value} {f_law_add : Addr} {od_law_add an_law_add : Option Addr} {sl_law_add : Array (Option Value)} {oc_law_add kV_law_add dc_law_add pm_law_add cd_law_add ct_law_add : Value} {f_law_rows : Addr} {od_law_rows an_law_rows : Option Addr} {sl_law_rows : Array (Option Value)} {oc_law_rows kV_law_rows dc_law_rows pm_law_rows cd_law_rows ct_law_rows : Value} {f_law_leaning : Addr} {od_law_leaning an_law_leaning : Option Addr} {sl_law_leaning : Array (Option Value)} {oc_law_leaning kV_law_leaning dc_law_leaning pm_law_leaning cd_law_leaning ct_law_leaning : Value} {f_law_nought_column : Addr} {od_law_nought_column an_law_nought_column : Option Addr} {sl_law_nought_column : Array (Option Value)} {oc_law_nought_column kV_law_nought_column dc_law_nought_column pm_law_nought_column cd_law_nought_column ct_law_nought_column : Value} {f_law_dues : Addr} {od_law_dues an_law_dues : Option Addr} {sl_law_dues : Array (Option Value)} {oc_law_dues kV_law_dues dc_law_dues pm_law_dues cd_law_dues ct_law_dues : Value} {f_law_needed : Addr} {od_law_needed an_law_needed : Option Addr} {sl_law_needed : Array (Option Value)} {oc_law_needed kV_law_needed dc_law_needed pm_law_needed cd_law_needed ct_law_needed : Value} {f_law : Addr} {od_law an_law : Option Addr} {sl_law : Array (Option Value)} {oc_law kV_law dc_law pm_law cd_law ct_law : Value} {c_NOUGHT : Addr} {cd_NOUGHT : Option Addr} {ck0_NOUGHT : Tok} {ck1_NOUGHT : Tok} {cn_NOUGHT : Nat} {cs_NOUGHT : Array (Option Value)} {c_ONE : Addr} {cd_ONE : Option Addr} {ck0_ONE : Tok} {ck1_ONE : Tok} {cn_ONE : Nat} {cs_ONE : Array (Option Value)}
    (a_lowest_terms : PySem.W.nsIn K mainGlobals "lowest_terms" = some (some (.ref f_lowest_terms))) (l_lowest_terms : K.lookup f_lowest_terms = some ⟨oc_lowest_terms, od_lowest_terms, .func (PySem.W.fnOf "lowest_terms" "lowest_terms" (defArgs s_lowest_terms) (defBody s_lowest_terms) (defScope s_lowest_terms) .none kV_lowest_terms dc_lowest_terms pm_lowest_terms an_lowest_terms cd_lowest_terms ct_lowest_terms), sl_lowest_terms⟩) (c_lowest_terms : PySem.W.codeIn K cd_lowest_terms "lowest_terms" = true) (k_lowest_terms : PySem.W.keepIn K (.ref f_lowest_terms) = true) (a_greatest_shared : PySem.W.nsIn K mainGlobals "greatest_shared" = some (some (.ref f_greatest_shared))) (l_greatest_shared : K.lookup f_greatest_shared = some ⟨oc_greatest_shared, od_greatest_shared, .func (PySem.W.fnOf "greatest_shared" "greatest_shared" (defArgs s_greatest_shared) (defBody s_greatest_shared) (defScope s_greatest_shared) .none kV_greatest_shared dc_greatest_shared pm_greatest_shared an_greatest_shared cd_greatest_shared ct_greatest_shared), sl_greatest_shared⟩) (c_greatest_shared : PySem.W.codeIn K cd_greatest_shared "greatest_shared" = true) (k_greatest_shared : PySem.W.keepIn K (.ref f_greatest_shared) = true) (a_solve_rows : PySem.W.nsIn K mainGlobals "solve_rows" = some (some (.ref f_solve_rows))) (l_solve_rows : K.lookup f_solve_rows = some ⟨oc_solve_rows, od_solve_rows, .func (PySem.W.fnOf "solve_rows" "solve_rows" (defArgs s_solve_rows) (defBody s_solve_rows) (defScope s_solve_rows) .none kV_solve_rows dc_solve_rows pm_solve_rows an_solve_rows cd_solve_rows ct_solve_rows), sl_solve_rows⟩) (c_solve_rows : PySem.W.codeIn K cd_solve_rows "solve_rows" = true) (k_solve_rows : PySem.W.keepIn K (.ref f_solve_rows) = true) (a_split_rows : PySem.W.nsIn K mainGlobals "split_rows" = some (some (.ref f_split_rows))) (l_split_rows : K.lookup f_split_rows = some ⟨oc_split_rows, od_split_rows, .func (PySem.W.fnOf "split_rows" "split_rows" (defArgs s_split_rows) (defBody s_split_rows) (defScope s_split_rows) .none kV_split_rows dc_split_rows pm_split_rows an_split_rows cd_split_rows ct_split_rows), sl_split_rows⟩) (c_split_rows : PySem.W.codeIn K cd_split_rows "split_rows" = true) (k_split_rows : PySem.W.keepIn K (.ref f_split_rows) = true) (a_spare_columns : PySem.W.nsIn K mainGlobals "spare_columns" = some (some (.ref f_spare_columns))) (l_spare_columns : K.lookup f_spare_columns = some ⟨oc_spare_columns, od_spare_columns, .func (PySem.W.fnOf "spare_columns" "spare_columns" (defArgs s_spare_columns) (defBody s_spare_columns) (defScope s_spare_columns) .none kV_spare_columns dc_spare_columns pm_spare_columns an_spare_columns cd_spare_columns ct_spare_columns), sl_spare_columns⟩) (c_spare_columns : PySem.W.codeIn K cd_spare_columns "spare_columns" = true) (k_spare_columns : PySem.W.keepIn K (.ref f_spare_columns) = true) (a_spare_list : PySem.W.nsIn K mainGlobals "spare_list" = some (some (.ref f_spare_list))) (l_spare_list : K.lookup f_spare_list = some ⟨oc_spare_list, od_spare_list, .func (PySem.W.fnOf "spare_list" "spare_list" (defArgs s_spare_list) (defBody s_spare_list) (defScope s_spare_list) .none kV_spare_list dc_spare_list pm_spare_list an_spare_list cd_spare_list ct_spare_list), sl_spare_list⟩) (c_spare_list : PySem.W.codeIn K cd_spare_list "spare_list" = true) (k_spare_list : PySem.W.keepIn K (.ref f_spare_list) = true) (a_needed_columns : PySem.W.nsIn K mainGlobals "needed_columns" = some (some (.ref f_needed_columns))) (l_needed_columns : K.lookup f_needed_columns = some ⟨oc_needed_columns, od_needed_columns, .func (PySem.W.fnOf "needed_columns" "needed_columns" (defArgs s_needed_columns) (defBody s_needed_columns) (defScope s_needed_columns) .none kV_needed_columns dc_needed_columns pm_needed_columns an_needed_columns cd_needed_columns ct_needed_columns), sl_needed_columns⟩) (c_needed_columns : PySem.W.codeIn K cd_needed_columns "needed_columns" = true) (k_needed_columns : PySem.W.keepIn K (.ref f_needed_columns) = true) (a_turned : PySem.W.nsIn K mainGlobals "turned" = some (some (.ref f_turned))) (l_turned : K.lookup f_turned = some ⟨oc_turned, od_turned, .func (PySem.W.fnOf "turned" "turned" (defArgs s_turned) (defBody s_turned) (defScope s_turned) .none kV_turned dc_turned pm_turned an_turned cd_turned ct_turned), sl_turned⟩) (c_turned : PySem.W.codeIn K cd_turned "turned" = true) (k_turned : PySem.W.keepIn K (.ref f_turned) = true) (a_whole_row : PySem.W.nsIn K mainGlobals "whole_row" = some (some (.ref f_whole_row))) (l_whole_row : K.lookup f_whole_row = some ⟨oc_whole_row, od_whole_row, .func (PySem.W.fnOf "whole_row" "whole_row" (defArgs s_whole_row) (defBody s_whole_row) (defScope s_whole_row) .none kV_whole_row dc_whole_row pm_whole_row an_whole_row cd_whole_row ct_whole_row), sl_whole_row⟩) (c_whole_row : PySem.W.codeIn K cd_whole_row "whole_row" = true) (k_whole_row : PySem.W.keepIn K (.ref f_whole_row) = true) (a_unit_line : PySem.W.nsIn K mainGlobals "unit_line" = some (some (.ref f_unit_line))) (l_unit_line : K.lookup f_unit_line = some ⟨oc_unit_line, od_unit_line, .func (PySem.W.fnOf "unit_line" "unit_line" (defArgs s_unit_line) (defBody s_unit_line) (defScope s_unit_line) .none kV_unit_line dc_unit_line pm_unit_line an_unit_line cd_unit_line ct_unit_line), sl_unit_line⟩) (c_unit_line : PySem.W.codeIn K cd_unit_line "unit_line" = true) (k_unit_line : PySem.W.keepIn K (.ref f_unit_line) = true) (a_solution_of : PySem.W.nsIn K mainGlobals "solution_of" = some (some (.ref f_solution_of))) (l_solution_of : K.lookup f_solution_of = some ⟨oc_solution_of, od_solution_of, .func (PySem.W.fnOf "solution_of" "solution_of" (defArgs s_solution_of) (defBody s_solution_of) (defScope s_solution_of) .none kV_solution_of dc_solution_of pm_solution_of an_solution_of cd_solution_of ct_solution_of), sl_solution_of⟩) (c_solution_of : PySem.W.codeIn K cd_solution_of "solution_of" = true) (k_solution_of : PySem.W.keepIn K (.ref f_solution_of) = true) (a_reduced : PySem.W.nsIn K mainGlobals "reduced" = some (some (.ref f_reduced))) (l_reduced : K.lookup f_reduced = some ⟨oc_reduced, od_reduced, .func (PySem.W.fnOf "reduced" "reduced" (defArgs s_reduced) (defBody s_reduced) (defScope s_reduced) .none kV_reduced dc_reduced pm_reduced an_reduced cd_reduced ct_reduced), sl_reduced⟩) (c_reduced : PySem.W.codeIn K cd_reduced "reduced" = true) (k_reduced : PySem.W.keepIn K (.ref f_reduced) = true) (a_first_not_nought : PySem.W.nsIn K mainGlobals "first_not_nought" = some (some (.ref f_first_not_nought))) (l_first_not_nought : K.lookup f_first_not_nought = some ⟨oc_first_not_nought, od_first_not_nought, .func (PySem.W.fnOf "first_not_nought" "first_not_nought" (defArgs s_first_not_nought) (defBody s_first_not_nought) (defScope s_first_not_nought) .none kV_first_not_nought dc_first_not_nought pm_first_not_nought an_first_not_nought cd_first_not_nought ct_first_not_nought), sl_first_not_nought⟩) (c_first_not_nought : PySem.W.codeIn K cd_first_not_nought "first_not_nought" = true) (k_first_not_nought : PySem.W.keepIn K (.ref f_first_not_nought) = true) (a_cleared : PySem.W.nsIn K mainGlobals "cleared" = some (some (.ref f_cleared))) (l_cleared : K.lookup f_cleared = some ⟨oc_cleared, od_cleared, .func (PySem.W.fnOf "cleared" "cleared" (defArgs s_cleared) (defBody s_cleared) (defScope s_cleared) .none kV_cleared dc_cleared pm_cleared an_cleared cd_cleared ct_cleared), sl_cleared⟩) (c_cleared : PySem.W.codeIn K cd_cleared "cleared" = true) (k_cleared : PySem.W.keepIn K (.ref f_cleared) = true) (a_divided : PySem.W.nsIn K mainGlobals "divided" = some (some (.ref f_divided))) (l_divided : K.lookup f_divided = some ⟨oc_divided, od_divided, .func (PySem.W.fnOf "divided" "divided" (defArgs s_divided) (defBody s_divided) (defScope s_divided) .none kV_divided dc_divided pm_divided an_divided cd_divided ct_divided), sl_divided⟩) (c_divided : PySem.W.codeIn K cd_divided "divided" = true) (k_divided : PySem.W.keepIn K (.ref f_divided) = true) (a_law_cell_at : PySem.W.nsIn K mainGlobals "_law_cell_at" = some (some (.ref f_law_cell_at))) (l_law_cell_at : K.lookup f_law_cell_at = some ⟨oc_law_cell_at, od_law_cell_at, .func (PySem.W.fnOf "_law_cell_at" "_law_cell_at" (defArgs s_law_cell_at) (defBody s_law_cell_at) (defScope s_law_cell_at) .none kV_law_cell_at dc_law_cell_at pm_law_cell_at an_law_cell_at cd_law_cell_at ct_law_cell_at), sl_law_cell_at⟩) (c_law_cell_at : PySem.W.codeIn K cd_law_cell_at "_law_cell_at" = true) (k_law_cell_at : PySem.W.keepIn K (.ref f_law_cell_at) = true) (a_law_number : PySem.W.nsIn K mainGlobals "_law_number" = some (some (.ref f_law_number))) (l_law_number : K.lookup f_law_number = some ⟨oc_law_number, od_law_number, .func (PySem.W.fnOf "_law_number" "_law_number" (defArgs s_law_number) (defBody s_law_number) (defScope s_law_number) .none kV_law_number dc_law_number pm_law_number an_law_number cd_law_number ct_law_number), sl_law_number⟩) (c_law_number : PySem.W.codeIn K cd_law_number "_law_number" = true) (k_law_number : PySem.W.keepIn K (.ref f_law_number) = true) (a_law_mixed : PySem.W.nsIn K mainGlobals "_law_mixed" = some (some (.ref f_law_mixed))) (l_law_mixed : K.lookup f_law_mixed = some ⟨oc_law_mixed, od_law_mixed, .func (PySem.W.fnOf "_law_mixed" "_law_mixed" (defArgs s_law_mixed) (defBody s_law_mixed) (defScope s_law_mixed) .none kV_law_mixed dc_law_mixed pm_law_mixed an_law_mixed cd_law_mixed ct_law_mixed), sl_law_mixed⟩) (c_law_mixed : PySem.W.codeIn K cd_law_mixed "_law_mixed" = true) (k_law_mixed : PySem.W.keepIn K (.ref f_law_mixed) = true) (a_law_draw : PySem.W.nsIn K mainGlobals "_law_draw" = some (some (.ref f_law_draw))) (l_law_draw : K.lookup f_law_draw = some ⟨oc_law_draw, od_law_draw, .func (PySem.W.fnOf "_law_draw" "_law_draw" (defArgs s_law_draw) (defBody s_law_draw) (defScope s_law_draw) .none kV_law_draw dc_law_draw pm_law_draw an_law_draw cd_law_draw ct_law_draw), sl_law_draw⟩) (c_law_draw : PySem.W.codeIn K cd_law_draw "_law_draw" = true) (k_law_draw : PySem.W.keepIn K (.ref f_law_draw) = true) (a_law_add : PySem.W.nsIn K mainGlobals "_law_add" = some (some (.ref f_law_add))) (l_law_add : K.lookup f_law_add = some ⟨oc_law_add, od_law_add, .func (PySem.W.fnOf "_law_add" "_law_add" (defArgs s_law_add) (defBody s_law_add) (defScope s_law_add) .none kV_law_add dc_law_add pm_law_add an_law_add cd_law_add ct_law_add), sl_law_add⟩) (c_law_add : PySem.W.codeIn K cd_law_add "_law_add" = true) (k_law_add : PySem.W.keepIn K (.ref f_law_add) = true) (a_law_rows : PySem.W.nsIn K mainGlobals "_law_rows" = some (some (.ref f_law_rows))) (l_law_rows : K.lookup f_law_rows = some ⟨oc_law_rows, od_law_rows, .func (PySem.W.fnOf "_law_rows" "_law_rows" (defArgs s_law_rows) (defBody s_law_rows) (defScope s_law_rows) .none kV_law_rows dc_law_rows pm_law_rows an_law_rows cd_law_rows ct_law_rows), sl_law_rows⟩) (c_law_rows : PySem.W.codeIn K cd_law_rows "_law_rows" = true) (k_law_rows : PySem.W.keepIn K (.ref f_law_rows) = true) (a_law_leaning : PySem.W.nsIn K mainGlobals "_law_leaning" = some (some (.ref f_law_leaning))) (l_law_leaning : K.lookup f_law_leaning = some ⟨oc_law_leaning, od_law_leaning, .func (PySem.W.fnOf "_law_leaning" "_law_leaning" (defArgs s_law_leaning) (defBody s_law_leaning) (defScope s_law_leaning) .none kV_law_leaning dc_law_leaning pm_law_leaning an_law_leaning cd_law_leaning ct_law_leaning), sl_law_leaning⟩) (c_law_leaning : PySem.W.codeIn K cd_law_leaning "_law_leaning" = true) (k_law_leaning : PySem.W.keepIn K (.ref f_law_leaning) = true) (a_law_nought_column : PySem.W.nsIn K mainGlobals "_law_nought_column" = some (some (.ref f_law_nought_column))) (l_law_nought_column : K.lookup f_law_nought_column = some ⟨oc_law_nought_column, od_law_nought_column, .func (PySem.W.fnOf "_law_nought_column" "_law_nought_column" (defArgs s_law_nought_column) (defBody s_law_nought_column) (defScope s_law_nought_column) .none kV_law_nought_column dc_law_nought_column pm_law_nought_column an_law_nought_column cd_law_nought_column ct_law_nought_column), sl_law_nought_column⟩) (c_law_nought_column : PySem.W.codeIn K cd_law_nought_column "_law_nought_column" = true) (k_law_nought_column : PySem.W.keepIn K (.ref f_law_nought_column) = true) (a_law_dues : PySem.W.nsIn K mainGlobals "_law_dues" = some (some (.ref f_law_dues))) (l_law_dues : K.lookup f_law_dues = some ⟨oc_law_dues, od_law_dues, .func (PySem.W.fnOf "_law_dues" "_law_dues" (defArgs s_law_dues) (defBody s_law_dues) (defScope s_law_dues) .none kV_law_dues dc_law_dues pm_law_dues an_law_dues cd_law_dues ct_law_dues), sl_law_dues⟩) (c_law_dues : PySem.W.codeIn K cd_law_dues "_law_dues" = true) (k_law_dues : PySem.W.keepIn K (.ref f_law_dues) = true) (a_law_needed : PySem.W.nsIn K mainGlobals "_law_needed" = some (some (.ref f_law_needed))) (l_law_needed : K.lookup f_law_needed = some ⟨oc_law_needed, od_law_needed, .func (PySem.W.fnOf "_law_needed" "_law_needed" (defArgs s_law_needed) (defBody s_law_needed) (defScope s_law_needed) .none kV_law_needed dc_law_needed pm_law_needed an_law_needed cd_law_needed ct_law_needed), sl_law_needed⟩) (c_law_needed : PySem.W.codeIn K cd_law_needed "_law_needed" = true) (k_law_needed : PySem.W.keepIn K (.ref f_law_needed) = true) (a_law : PySem.W.nsIn K mainGlobals "law" = some (some (.ref f_law))) (l_law : K.lookup f_law = some ⟨oc_law, od_law, .func (PySem.W.fnOf "law" "law" (defArgs s_law) (defBody s_law) (defScope s_law) .none kV_law dc_law pm_law an_law cd_law ct_law), sl_law⟩) (c_law : PySem.W.codeIn K cd_law "law" = true) (k_law : PySem.W.keepIn K (.ref f_law) = true) (a_NOUGHT : PySem.W.nsIn K mainGlobals "NOUGHT" = some (some (.ref c_NOUGHT))) (t_NOUGHT : K.lookup c_NOUGHT = some ⟨.type "tuple", cd_NOUGHT, .seq #[.int 0 ck0_NOUGHT, .int 1 ck1_NOUGHT] cn_NOUGHT, cs_NOUGHT⟩) (a_ONE : PySem.W.nsIn K mainGlobals "ONE" = some (some (.ref c_ONE))) (t_ONE : K.lookup c_ONE = some ⟨.type "tuple", cd_ONE, .seq #[.int 1 ck0_ONE, .int 1 ck1_ONE] cn_ONE, cs_ONE⟩) (z_abs : PySem.W.nsIn K mainGlobals "abs" = some none) (z_any : PySem.W.nsIn K mainGlobals "any" = some none) (z_dict : PySem.W.nsIn K mainGlobals "dict" = some none) (z_enumerate : PySem.W.nsIn K mainGlobals "enumerate" = some none) (z_int : PySem.W.nsIn K mainGlobals "int" = some none) (z_isinstance : PySem.W.nsIn K mainGlobals "isinstance" = some none) (z_len : PySem.W.nsIn K mainGlobals "len" = some none) (z_list : PySem.W.nsIn K mainGlobals "list" = some none) (z_range : PySem.W.nsIn K mainGlobals "range" = some none) (z_tuple : PySem.W.nsIn K mainGlobals "tuple" = some none) (z_zip : PySem.W.nsIn K mainGlobals "zip" = some none) (ht : l.prog.given.tree = none) :
    ∃ fd : FuncData, (∀ (s : Shared) (v : Value), BindsTo s fd ⟨[v], []⟩ [("_law_script", v)]) ∧ ∀ base : Heap, K.In base → base.Ns mainGlobals mg → FnOk l.prog w K mg base (CXr l.prog w) 42 fa fd ["_law_script"] (spLaw K) := by
  have e := hfa.symm.trans (PySem.W.mg_of X G a_law)
  cases e
  have D_lowest_terms : Def K mg "lowest_terms" s_lowest_terms ["top", "bottom"] := Def.of (fun_mk (st := s_lowest_terms) l_lowest_terms c_lowest_terms k_lowest_terms) ((fun_mk (st := s_lowest_terms) l_lowest_terms c_lowest_terms k_lowest_terms).binds (ps := ["top", "bottom"]) (fun _ _ _ _ _ _ us hl => match us, hl with | [_, _], _ => rfl)) (PySem.W.mg_of X G a_lowest_terms)
  have D_greatest_shared : Def K mg "greatest_shared" s_greatest_shared ["one", "other"] := Def.of (fun_mk (st := s_greatest_shared) l_greatest_shared c_greatest_shared k_greatest_shared) ((fun_mk (st := s_greatest_shared) l_greatest_shared c_greatest_shared k_greatest_shared).binds (ps := ["one", "other"]) (fun _ _ _ _ _ _ us hl => match us, hl with | [_, _], _ => rfl)) (PySem.W.mg_of X G a_greatest_shared)
  have D_solve_rows : Def K mg "solve_rows" s_solve_rows ["rows", "due", "many"] := Def.of (fun_mk (st := s_solve_rows) l_solve_rows c_solve_rows k_solve_rows) ((fun_mk (st := s_solve_rows) l_solve_rows c_solve_rows k_solve_rows).binds (ps := ["rows", "due", "many"]) (fun _ _ _ _ _ _ us hl => match us, hl with | [_, _, _], _ => rfl)) (PySem.W.mg_of X G a_solve_rows)
  have D_split_rows : Def K mg "split_rows" s_split_rows ["rows", "many"] := Def.of (fun_mk (st := s_split_rows) l_split_rows c_split_rows k_split_rows) ((fun_mk (st := s_split_rows) l_split_rows c_split_rows k_split_rows).binds (ps := ["rows", "many"]) (fun _ _ _ _ _ _ us hl => match us, hl with | [_, _], _ => rfl)) (PySem.W.mg_of X G a_split_rows)
  have D_spare_columns : Def K mg "spare_columns" s_spare_columns ["rows", "many"] := Def.of (fun_mk (st := s_spare_columns) l_spare_columns c_spare_columns k_spare_columns) ((fun_mk (st := s_spare_columns) l_spare_columns c_spare_columns k_spare_columns).binds (ps := ["rows", "many"]) (fun _ _ _ _ _ _ us hl => match us, hl with | [_, _], _ => rfl)) (PySem.W.mg_of X G a_spare_columns)
  have D_spare_list : Def K mg "spare_list" s_spare_list ["needed", "column", "many"] := Def.of (fun_mk (st := s_spare_list) l_spare_list c_spare_list k_spare_list) ((fun_mk (st := s_spare_list) l_spare_list c_spare_list k_spare_list).binds (ps := ["needed", "column", "many"]) (fun _ _ _ _ _ _ us hl => match us, hl with | [_, _, _], _ => rfl)) (PySem.W.mg_of X G a_spare_list)
  have D_needed_columns : Def K mg "needed_columns" s_needed_columns ["rows", "many"] := Def.of (fun_mk (st := s_needed_columns) l_needed_columns c_needed_columns k_needed_columns) ((fun_mk (st := s_needed_columns) l_needed_columns c_needed_columns k_needed_columns).binds (ps := ["rows", "many"]) (fun _ _ _ _ _ _ us hl => match us, hl with | [_, _], _ => rfl)) (PySem.W.mg_of X G a_needed_columns)
  have D_turned : Def K mg "turned" s_turned ["rows", "many"] := Def.of (fun_mk (st := s_turned) l_turned c_turned k_turned) ((fun_mk (st := s_turned) l_turned c_turned k_turned).binds (ps := ["rows", "many"]) (fun _ _ _ _ _ _ us hl => match us, hl with | [_, _], _ => rfl)) (PySem.W.mg_of X G a_turned)
  have D_whole_row : Def K mg "whole_row" s_whole_row ["row"] := Def.of (fun_mk (st := s_whole_row) l_whole_row c_whole_row k_whole_row) ((fun_mk (st := s_whole_row) l_whole_row c_whole_row k_whole_row).binds (ps := ["row"]) (fun _ _ _ _ _ _ us hl => match us, hl with | [_], _ => rfl)) (PySem.W.mg_of X G a_whole_row)
  have D_unit_line : Def K mg "unit_line" s_unit_line ["at", "many"] := Def.of (fun_mk (st := s_unit_line) l_unit_line c_unit_line k_unit_line) ((fun_mk (st := s_unit_line) l_unit_line c_unit_line k_unit_line).binds (ps := ["at", "many"]) (fun _ _ _ _ _ _ us hl => match us, hl with | [_, _], _ => rfl)) (PySem.W.mg_of X G a_unit_line)
  have D_solution_of : Def K mg "solution_of" s_solution_of ["lines", "many"] := Def.of (fun_mk (st := s_solution_of) l_solution_of c_solution_of k_solution_of) ((fun_mk (st := s_solution_of) l_solution_of c_solution_of k_solution_of).binds (ps := ["lines", "many"]) (fun _ _ _ _ _ _ us hl => match us, hl with | [_, _], _ => rfl)) (PySem.W.mg_of X G a_solution_of)
  have D_reduced : Def K mg "reduced" s_reduced ["lines", "many"] := Def.of (fun_mk (st := s_reduced) l_reduced c_reduced k_reduced) ((fun_mk (st := s_reduced) l_reduced c_reduced k_reduced).binds (ps := ["lines", "many"]) (fun _ _ _ _ _ _ us hl => match us, hl with | [_, _], _ => rfl)) (PySem.W.mg_of X G a_reduced)
  have D_first_not_nought : Def K mg "first_not_nought" s_first_not_nought ["lines", "column"] := Def.of (fun_mk (st := s_first_not_nought) l_first_not_nought c_first_not_nought k_first_not_nought) ((fun_mk (st := s_first_not_nought) l_first_not_nought c_first_not_nought k_first_not_nought).binds (ps := ["lines", "column"]) (fun _ _ _ _ _ _ us hl => match us, hl with | [_, _], _ => rfl)) (PySem.W.mg_of X G a_first_not_nought)
  have D_cleared : Def K mg "cleared" s_cleared ["line", "lead", "column"] := Def.of (fun_mk (st := s_cleared) l_cleared c_cleared k_cleared) ((fun_mk (st := s_cleared) l_cleared c_cleared k_cleared).binds (ps := ["line", "lead", "column"]) (fun _ _ _ _ _ _ us hl => match us, hl with | [_, _, _], _ => rfl)) (PySem.W.mg_of X G a_cleared)
  have D_divided : Def K mg "divided" s_divided ["line"] := Def.of (fun_mk (st := s_divided) l_divided c_divided k_divided) ((fun_mk (st := s_divided) l_divided c_divided k_divided).binds (ps := ["line"]) (fun _ _ _ _ _ _ us hl => match us, hl with | [_], _ => rfl)) (PySem.W.mg_of X G a_divided)
  have D_law_cell_at : Def K mg "_law_cell_at" s_law_cell_at ["_law_script", "_law_k"] := Def.of (fun_mk (st := s_law_cell_at) l_law_cell_at c_law_cell_at k_law_cell_at) ((fun_mk (st := s_law_cell_at) l_law_cell_at c_law_cell_at k_law_cell_at).binds (ps := ["_law_script", "_law_k"]) (fun _ _ _ _ _ _ us hl => match us, hl with | [_, _], _ => rfl)) (PySem.W.mg_of X G a_law_cell_at)
  have D_law_number : Def K mg "_law_number" s_law_number ["_law_top", "_law_bottom"] := Def.of (fun_mk (st := s_law_number) l_law_number c_law_number k_law_number) ((fun_mk (st := s_law_number) l_law_number c_law_number k_law_number).binds (ps := ["_law_top", "_law_bottom"]) (fun _ _ _ _ _ _ us hl => match us, hl with | [_, _], _ => rfl)) (PySem.W.mg_of X G a_law_number)
  have D_law_mixed : Def K mg "_law_mixed" s_law_mixed ["_law_script", "_law_k"] := Def.of (fun_mk (st := s_law_mixed) l_law_mixed c_law_mixed k_law_mixed) ((fun_mk (st := s_law_mixed) l_law_mixed c_law_mixed k_law_mixed).binds (ps := ["_law_script", "_law_k"]) (fun _ _ _ _ _ _ us hl => match us, hl with | [_, _], _ => rfl)) (PySem.W.mg_of X G a_law_mixed)
  have D_law_draw : Def K mg "_law_draw" s_law_draw ["_law_cell", "_law_kind"] := Def.of (fun_mk (st := s_law_draw) l_law_draw c_law_draw k_law_draw) ((fun_mk (st := s_law_draw) l_law_draw c_law_draw k_law_draw).binds (ps := ["_law_cell", "_law_kind"]) (fun _ _ _ _ _ _ us hl => match us, hl with | [_, _], _ => rfl)) (PySem.W.mg_of X G a_law_draw)
  have D_law_add : Def K mg "_law_add" s_law_add ["_law_one", "_law_other"] := Def.of (fun_mk (st := s_law_add) l_law_add c_law_add k_law_add) ((fun_mk (st := s_law_add) l_law_add c_law_add k_law_add).binds (ps := ["_law_one", "_law_other"]) (fun _ _ _ _ _ _ us hl => match us, hl with | [_, _], _ => rfl)) (PySem.W.mg_of X G a_law_add)
  have D_law_rows : Def K mg "_law_rows" s_law_rows ["_law_script", "_law_many", "_law_count", "_law_kind"] := Def.of (fun_mk (st := s_law_rows) l_law_rows c_law_rows k_law_rows) ((fun_mk (st := s_law_rows) l_law_rows c_law_rows k_law_rows).binds (ps := ["_law_script", "_law_many", "_law_count", "_law_kind"]) (fun _ _ _ _ _ _ us hl => match us, hl with | [_, _, _, _], _ => rfl)) (PySem.W.mg_of X G a_law_rows)
  have D_law_leaning : Def K mg "_law_leaning" s_law_leaning ["_law_rows_here", "_law_many", "_law_how"] := Def.of (fun_mk (st := s_law_leaning) l_law_leaning c_law_leaning k_law_leaning) ((fun_mk (st := s_law_leaning) l_law_leaning c_law_leaning k_law_leaning).binds (ps := ["_law_rows_here", "_law_many", "_law_how"]) (fun _ _ _ _ _ _ us hl => match us, hl with | [_, _, _], _ => rfl)) (PySem.W.mg_of X G a_law_leaning)
  have D_law_nought_column : Def K mg "_law_nought_column" s_law_nought_column ["_law_rows_here", "_law_many", "_law_cell"] := Def.of (fun_mk (st := s_law_nought_column) l_law_nought_column c_law_nought_column k_law_nought_column) ((fun_mk (st := s_law_nought_column) l_law_nought_column c_law_nought_column k_law_nought_column).binds (ps := ["_law_rows_here", "_law_many", "_law_cell"]) (fun _ _ _ _ _ _ us hl => match us, hl with | [_, _, _], _ => rfl)) (PySem.W.mg_of X G a_law_nought_column)
  have D_law_dues : Def K mg "_law_dues" s_law_dues ["_law_script", "_law_rows_here", "_law_many", "_law_kind"] := Def.of (fun_mk (st := s_law_dues) l_law_dues c_law_dues k_law_dues) ((fun_mk (st := s_law_dues) l_law_dues c_law_dues k_law_dues).binds (ps := ["_law_script", "_law_rows_here", "_law_many", "_law_kind"]) (fun _ _ _ _ _ _ us hl => match us, hl with | [_, _, _, _], _ => rfl)) (PySem.W.mg_of X G a_law_dues)
  have D_law_needed : Def K mg "_law_needed" s_law_needed ["_law_rows_here", "_law_many"] := Def.of (fun_mk (st := s_law_needed) l_law_needed c_law_needed k_law_needed) ((fun_mk (st := s_law_needed) l_law_needed c_law_needed k_law_needed).binds (ps := ["_law_rows_here", "_law_many"]) (fun _ _ _ _ _ _ us hl => match us, hl with | [_, _], _ => rfl)) (PySem.W.mg_of X G a_law_needed)
  have m_NOUGHT : mg "NOUGHT" = some (.ref c_NOUGHT) := PySem.W.mg_of X G a_NOUGHT
  have m_ONE : mg "ONE" = some (.ref c_ONE) := PySem.W.mg_of X G a_ONE
  have m_abs : mg "abs" = none := PySem.W.mg_none_of X G z_abs
  have m_any : mg "any" = none := PySem.W.mg_none_of X G z_any
  have m_dict : mg "dict" = none := PySem.W.mg_none_of X G z_dict
  have m_enumerate : mg "enumerate" = none := PySem.W.mg_none_of X G z_enumerate
  have m_int : mg "int" = none := PySem.W.mg_none_of X G z_int
  have m_isinstance : mg "isinstance" = none := PySem.W.mg_none_of X G z_isinstance
  have m_len : mg "len" = none := PySem.W.mg_none_of X G z_len
  have m_list : mg "list" = none := PySem.W.mg_none_of X G z_list
  have m_range : mg "range" = none := PySem.W.mg_none_of X G z_range
  have m_tuple : mg "tuple" = none := PySem.W.mg_none_of X G z_tuple
  have m_zip : mg "zip" = none := PySem.W.mg_none_of X G z_zip
  have F := fun_mk (st := s_law) l_law c_law k_law
  refine ⟨PySem.W.fnOf "law" "law" (defArgs s_law) (defBody s_law) (defScope s_law) .none kV_law dc_law pm_law an_law cd_law ct_law, fun s v => .of_eq rfl, fun base _ _ => ?_⟩
  have hM : Mute (CXr l.prog w) := CXr.mute
  have hN : ∀ H : Hp, SqT K H c_NOUGHT [.int 0, .int 1] := fun H => .inr ⟨_, _, _, t_NOUGHT, rfl, rfl, (by show 2 ≤ sizeLine; decide), .cons ⟨_, rfl⟩ (.cons ⟨_, rfl⟩ .nil)⟩
  have hO : ∀ H : Hp, SqT K H c_ONE [.int 1, .int 1] := fun H => .inr ⟨_, _, _, t_ONE, rfl, rfl, (by show 2 ≤ sizeLine; decide), .cons ⟨_, rfl⟩ (.cons ⟨_, rfl⟩ .nil)⟩
  have G1 := ok_greatest_shared (P := l.prog) (w := w) (base := base) (CX := CXr l.prog w) D_greatest_shared m_abs
  have G2 := ok_lowest_terms ht D_lowest_terms G1
  have G3 := ok_law_number (w := w) (base := base) ht D_law_number m_abs
  have GW := ok_whole_row D_whole_row G1
  have GDv := ok_divided ht D_divided G1
  have GCl := ok_cleared ht D_cleared m_zip G1 GDv
  have GF := ok_first_not_nought (P := l.prog) (w := w) (base := base) D_first_not_nought m_enumerate
  have GR := ok_reduced D_reduced m_range m_list GF GCl
  have GS := ok_solution_of hN m_NOUGHT D_solution_of m_any GR G2
  have GSol := ok_solve_rows D_solve_rows m_zip m_len GW GS (ok_turned D_turned m_range) G2
  have GSL := ok_spare_list hN m_NOUGHT hO m_ONE D_spare_list G2
  have GSC := ok_spare_columns D_spare_columns m_range GW GR GSL
  have GNC := ok_needed_columns D_needed_columns m_len m_zip m_enumerate GW (ok_unit_line D_unit_line) GR G2
  have GSp := ok_split_rows D_split_rows GSC GNC
  have GC := ok_law_cell_at (P := l.prog) (w := w) (base := base) (CX := CXr l.prog w) D_law_cell_at m_len
  have GM := ok_law_mixed D_law_mixed m_len GC
  have GD := ok_law_draw D_law_draw G3
  have GA := ok_law_add D_law_add G3
  exact ok_law F m_range m_isinstance m_tuple m_len m_int GC (ok_law_rows D_law_rows m_range GD GM) (ok_law_leaning D_law_leaning m_len m_range GA G3) (ok_law_nought_column D_law_nought_column) (ok_law_dues D_law_dues m_range m_len GC GD GM GA) (ok_law_needed D_law_needed m_isinstance m_tuple m_dict m_len GSp) GSp GSol
end T_k26
open PySem PySem.W PyProof.Rows
set_option maxRecDepth 100000 in
set_option maxHeartbeats 0 in
theorem PySem.Challenge.cw_trussyard_k26_whole_as_many_needed_holds : PySem.Challenge.rw_trussyard_k26_whole_as_many_needed.Holds := by
  w_on; o_law; k_head; (case hw => w_witness2)
  k_fill
  refine Ty.walk (l := PySem.Challenge.rw_trussyard_k26_whole_as_many_needed) (x := "_law_script") (k := 42) (CX := fun w => Ty.CXr (PySem.Challenge.rw_trussyard_k26_whole_as_many_needed).prog w) rfl rfl (by first | rfl | decide +kernel) ⟨rfl, by decide, by decide⟩ (fun w h Y => PySem.W.kIn_of Y) (fun w => Ty.CXr.mute) ?F
  case F =>
    intro w mg fa h KX G hmg
    refine' T_k26.all_mk KX G hmg ?a_lowest_terms ?l_lowest_terms ?c_lowest_terms ?k_lowest_terms ?a_greatest_shared ?l_greatest_shared ?c_greatest_shared ?k_greatest_shared ?a_solve_rows ?l_solve_rows ?c_solve_rows ?k_solve_rows ?a_split_rows ?l_split_rows ?c_split_rows ?k_split_rows ?a_spare_columns ?l_spare_columns ?c_spare_columns ?k_spare_columns ?a_spare_list ?l_spare_list ?c_spare_list ?k_spare_list ?a_needed_columns ?l_needed_columns ?c_needed_columns ?k_needed_columns ?a_turned ?l_turned ?c_turned ?k_turned ?a_whole_row ?l_whole_row ?c_whole_row ?k_whole_row ?a_unit_line ?l_unit_line ?c_unit_line ?k_unit_line ?a_solution_of ?l_solution_of ?c_solution_of ?k_solution_of ?a_reduced ?l_reduced ?c_reduced ?k_reduced ?a_first_not_nought ?l_first_not_nought ?c_first_not_nought ?k_first_not_nought ?a_cleared ?l_cleared ?c_cleared ?k_cleared ?a_divided ?l_divided ?c_divided ?k_divided ?a_law_cell_at ?l_law_cell_at ?c_law_cell_at ?k_law_cell_at ?a_law_number ?l_law_number ?c_law_number ?k_law_number ?a_law_mixed ?l_law_mixed ?c_law_mixed ?k_law_mixed ?a_law_draw ?l_law_draw ?c_law_draw ?k_law_draw ?a_law_add ?l_law_add ?c_law_add ?k_law_add ?a_law_rows ?l_law_rows ?c_law_rows ?k_law_rows ?a_law_leaning ?l_law_leaning ?c_law_leaning ?k_law_leaning ?a_law_nought_column ?l_law_nought_column ?c_law_nought_column ?k_law_nought_column ?a_law_dues ?l_law_dues ?c_law_dues ?k_law_dues ?a_law_needed ?l_law_needed ?c_law_needed ?k_law_needed ?a_law ?l_law ?c_law ?k_law ?a_NOUGHT ?t_NOUGHT ?a_ONE ?t_ONE ?z_abs ?z_any ?z_dict ?z_enumerate ?z_int ?z_isinstance ?z_len ?z_list ?z_range ?z_tuple ?z_zip ?ht
    (case a_lowest_terms => k_is); (case l_lowest_terms => k_is); (case c_lowest_terms => k_is); (case k_lowest_terms => k_is); (case a_greatest_shared => k_is); (case l_greatest_shared => k_is); (case c_greatest_shared => k_is); (case k_greatest_shared => k_is); (case a_solve_rows => k_is); (case l_solve_rows => k_is); (case c_solve_rows => k_is); (case k_solve_rows => k_is); (case a_split_rows => k_is); (case l_split_rows => k_is); (case c_split_rows => k_is); (case k_split_rows => k_is); (case a_spare_columns => k_is); (case l_spare_columns => k_is); (case c_spare_columns => k_is); (case k_spare_columns => k_is); (case a_spare_list => k_is); (case l_spare_list => k_is); (case c_spare_list => k_is); (case k_spare_list => k_is); (case a_needed_columns => k_is); (case l_needed_columns => k_is); (case c_needed_columns => k_is); (case k_needed_columns => k_is); (case a_turned => k_is); (case l_turned => k_is); (case c_turned => k_is); (case k_turned => k_is); (case a_whole_row => k_is); (case l_whole_row => k_is); (case c_whole_row => k_is); (case k_whole_row => k_is); (case a_unit_line => k_is); (case l_unit_line => k_is); (case c_unit_line => k_is); (case k_unit_line => k_is); (case a_solution_of => k_is); (case l_solution_of => k_is); (case c_solution_of => k_is); (case k_solution_of => k_is); (case a_reduced => k_is); (case l_reduced => k_is); (case c_reduced => k_is); (case k_reduced => k_is); (case a_first_not_nought => k_is); (case l_first_not_nought => k_is); (case c_first_not_nought => k_is); (case k_first_not_nought => k_is); (case a_cleared => k_is); (case l_cleared => k_is); (case c_cleared => k_is); (case k_cleared => k_is); (case a_divided => k_is); (case l_divided => k_is); (case c_divided => k_is); (case k_divided => k_is); (case a_law_cell_at => k_is); (case l_law_cell_at => k_is); (case c_law_cell_at => k_is); (case k_law_cell_at => k_is); (case a_law_number => k_is); (case l_law_number => k_is); (case c_law_number => k_is); (case k_law_number => k_is); (case a_law_mixed => k_is); (case l_law_mixed => k_is); (case c_law_mixed => k_is); (case k_law_mixed => k_is); (case a_law_draw => k_is); (case l_law_draw => k_is); (case c_law_draw => k_is); (case k_law_draw => k_is); (case a_law_add => k_is); (case l_law_add => k_is); (case c_law_add => k_is); (case k_law_add => k_is); (case a_law_rows => k_is); (case l_law_rows => k_is); (case c_law_rows => k_is); (case k_law_rows => k_is); (case a_law_leaning => k_is); (case l_law_leaning => k_is); (case c_law_leaning => k_is); (case k_law_leaning => k_is); (case a_law_nought_column => k_is); (case l_law_nought_column => k_is); (case c_law_nought_column => k_is); (case k_law_nought_column => k_is); (case a_law_dues => k_is); (case l_law_dues => k_is); (case c_law_dues => k_is); (case k_law_dues => k_is); (case a_law_needed => k_is); (case l_law_needed => k_is); (case c_law_needed => k_is); (case k_law_needed => k_is); (case a_law => k_is); (case l_law => k_is); (case c_law => k_is); (case k_law => k_is); (case a_NOUGHT => k_is); (case t_NOUGHT => k_is); (case a_ONE => k_is); (case t_ONE => k_is); (case z_abs => k_is); (case z_any => k_is); (case z_dict => k_is); (case z_enumerate => k_is); (case z_int => k_is); (case z_isinstance => k_is); (case z_len => k_is); (case z_list => k_is); (case z_range => k_is); (case z_tuple => k_is); (case z_zip => k_is); (case ht => rfl)
#print axioms PySem.Challenge.cw_trussyard_k26_whole_as_many_needed_holds


