import PyProof.Rows.All
import Wide.All
import OpenK.AllK
import Wide.FinOn
import Lean
import PyProof.EqAt
import PyProof.EqKinds
import PyProof.TupleCall
import PyProof.ZipIter
import PyProof.SumWalkG
import PyProof.ListCopy
import PyProof.ListStr
import PyProof.DictItems
import PyProof.DictWalks
import PyProof.DictTruth
import PyProof.EnumMake
import PySem.Challenge.RW_trussyard_k71_most_or_endless
set_option Elab.async false
set_option linter.all false
set_option maxRecDepth 100000
namespace L2
open PySem PySem.Spec PyProof.Rows

abbrev Key := Sum Int Str
def keyIs : Key → Value → Bool
  | .inl k, v => Value.isInt k v
  | .inr x, v => Value.isStrOf x v
def keyH (w : World) : Key → Int
  | .inl k => hashInt k
  | .inr x => hashStr w x
theorem keyIs_shape : ∀ {k : Key} {v : Value}, keyIs k v = true → (∃ i t, k = Sum.inl i ∧ v = Value.int i t) ∨ (∃ x t, k = Sum.inr x ∧ v = Value.str x t)
  | .inl i, v, h => by
    obtain ⟨t, e⟩ := Value.isInt_shape (k := i) (v := v) h
    exact .inl ⟨i, t, rfl, e⟩
  | .inr x, v, h => by
    obtain ⟨t, e⟩ := Value.isStrOf_shape (x := x) (v := v) h
    exact .inr ⟨x, t, rfl, e⟩
theorem key_ll (a b : Int) : decide ((Sum.inl a : Key) = Sum.inl b) = (a == b) := by
  by_cases e : a = b
  · subst e; simp
  · have h : ¬ (Sum.inl a : Key) = Sum.inl b := fun q => e (Sum.inl.inj q)
    rw [decide_eq_false h]
    exact (beq_eq_false_iff_ne.mpr e).symm
theorem key_rr (a b : Str) : decide ((Sum.inr a : Key) = Sum.inr b) = decide (a = b) := by
  by_cases e : a = b
  · subst e; simp
  · have h : ¬ (Sum.inr a : Key) = Sum.inr b := fun q => e (Sum.inr.inj q)
    rw [decide_eq_false h, decide_eq_false e]
theorem key_lr (a : Int) (b : Str) : decide ((Sum.inl a : Key) = Sum.inr b) = false := decide_eq_false (fun q => nomatch q)
theorem key_rl (a : Str) (b : Int) : decide ((Sum.inr a : Key) = Sum.inl b) = false := decide_eq_false (fun q => nomatch q)

def mixKind (prog : Program) (w : World) : PySem.KeyKind prog w Key where
  is := keyIs
  hash := keyH w
  inj := fun v a b ha hb => by
    rcases keyIs_shape ha with ⟨i, t, rfl, rfl⟩ | ⟨x, t, rfl, rfl⟩
    · rcases keyIs_shape hb with ⟨j, u, rfl, e⟩ | ⟨y, u, rfl, e⟩
      · injection e with e1 _; rw [e1]
      · exact nomatch e
    · rcases keyIs_shape hb with ⟨j, u, rfl, e⟩ | ⟨y, u, rfl, e⟩
      · exact nomatch e
      · injection e with e1 _; rw [e1]
  byValue := fun k v h => by
    rcases keyIs_shape h with ⟨i, t, rfl, rfl⟩ | ⟨x, t, rfl, rfl⟩ <;> rfl
  pyHash := fun hv h => by
    rcases keyIs_shape hv with ⟨i, t, rfl, rfl⟩ | ⟨x, t, rfl, rfl⟩
    · exact wpAny_pyHash_int h
    · exact wpAny_pyHash_str h
  eqBool := fun hu hv h => by
    rcases keyIs_shape hu with ⟨i, t, rfl, rfl⟩ | ⟨x, t, rfl, rfl⟩
    · rcases keyIs_shape hv with ⟨j, u, rfl, rfl⟩ | ⟨y, u, rfl, rfl⟩
      · rw [key_ll] at h; exact wpAny_eqBool_int h
      · rw [key_lr] at h; exact SeqAt.EqAt.int_str i t y u _ _ _ _ h
    · rcases keyIs_shape hv with ⟨j, u, rfl, rfl⟩ | ⟨y, u, rfl, rfl⟩
      · rw [key_rl] at h; exact SeqAt.EqAt.str_int x t j u _ _ _ _ h
      · rw [key_rr] at h; exact wpAny_eqBool_str h
  «strs» := fun k x t v h => by
    rcases keyIs_shape h with ⟨i, u, rfl, e⟩ | ⟨y, u, rfl, e⟩
    · exact nomatch e
    · injection e with e1 _
      subst e1
      cases v <;> rfl

end L2

namespace L2
open PySem PySem.Spec PyProof.Rows

inductive V where
  | non | bl (b : Bool) | int (i : Int) | str (x : Str) | byt (b : Array UInt8) | flt (b : UInt64) | ref (a : Addr) | ty (n : String)
  deriving DecidableEq

def RelV : V → Value → Prop
  | .non, u => u = Value.none
  | .bl b, u => u = Value.bool b
  | .int i, u => ∃ t, u = Value.int i t
  | .str x, u => ∃ t, u = Value.str x t
  | .byt b, u => ∃ t, u = Value.bytes b t
  | .flt b, u => ∃ t, u = Value.float b t
  | .ref a, u => u = Value.ref a
  | .ty n, u => u = Value.type n

abbrev Vals : List V → List Value → Prop := Paired RelV
theorem Vals.length {xs : List V} {us : List Value} (r : Vals xs us) : xs.length = us.length := Paired.length r
theorem Vals.get : ∀ {xs : List V} {us : List Value} {i : Nat} {x : V}, Vals xs us → xs[i]? = some x → ∃ u, us[i]? = some u ∧ RelV x u
  | _, _, _, _, .nil, e => by simp at e
  | _, _, 0, _, .cons r _, e => by simp at e; subst e; exact ⟨_, rfl, r⟩
  | _, _, i + 1, x, .cons _ t, e => by
    obtain ⟨u, h1, h2⟩ := Vals.get (i := i) (x := x) t (by simpa using e)
    exact ⟨u, by simpa using h1, h2⟩
theorem Vals.set {x : V} {u : Value} (r : RelV x u) : ∀ {xs : List V} {us : List Value} (i : Nat), Vals xs us → Vals (xs.set i x) (us.set i u)
  | _, _, _, .nil => .nil
  | _, _, 0, .cons _ t => .cons r t
  | _, _, i + 1, .cons q t => .cons q (Vals.set r i t)
theorem Vals.append : ∀ {xs ys : List V} {us ws : List Value}, Vals xs us → Vals ys ws → Vals (xs ++ ys) (us ++ ws)
  | _, _, _, _, .nil, s => s
  | _, _, _, _, .cons r t, s => .cons r (Vals.append t s)
theorem Vals.take : ∀ {xs : List V} {us : List Value} (n : Nat), Vals xs us → Vals (xs.take n) (us.take n)
  | _, _, 0, _ => .nil
  | _, _, _ + 1, .nil => .nil
  | _, _, n + 1, .cons r t => .cons r (Vals.take n t)
theorem Vals.drop : ∀ {xs : List V} {us : List Value} (n : Nat), Vals xs us → Vals (xs.drop n) (us.drop n)
  | _, _, 0, r => r
  | _, _, _ + 1, .nil => .nil
  | _, _, n + 1, .cons _ t => Vals.drop n t
def RelO : Option V → Option Value → Prop
  | some v, some u => RelV v u
  | none, none => True
  | _, _ => False
def KV {κ : Type} : List (κ × V) → List (κ × Value) → Prop := Paired fun (p : κ × V) (q : κ × Value) => p.1 = q.1 ∧ RelV p.2 q.2

def kV : Key → V
  | .inl i => .int i
  | .inr x => .str x

inductive HO where
  /-- a list -/
  | lst (xs : List V)
  /-- a tuple (never changes) -/
  | tup (xs : List V)
  /-- a dict whose keys are ints and texts; one whose keys are tuples of ints and texts (the empty one is both) -/
  | dK (kvs : List (Key × V)) | dT (kvs : List (List Key × V))
  /-- a set of ints: its members, its size -/
  | set (S : Int → Bool) (n : Nat)
  /-- an instance of the class at C, its dict at dx, its attributes -/
  | ins (C dx : Addr) (fs : List (Str × V))
  /-- the dict of the instance at x -/
  | own (x : Addr)
  /-- the dict of an exception -/
  | xd (fs : List (Str × V))
  /-- a bound method, f of x -/
  | met (f x : Addr)
  /-- a range object lo, lo + 1, .. below hi -/
  | rng (lo hi : Int)
  /-- a thing that is known to the object (the script; a dict while a loop walks it): read, never written while it is so -/
  | frz (o : Obj) (u : HO)
  /-- a code object's table -/
  | tbl (ps : Array Value)
  /-- any other thing, by what is true of its one object (a def of one's own: SetO a S n := HO.ext fun h => ..) -/
  | ext (φ : Heap → Prop)

abbrev Hp := Addr → Option HO
def upd (H : Hp) (a : Addr) (o : HO) : Hp := fun b => if b = a then some o else H b
theorem upd_same {H : Hp} {a : Addr} {o : HO} : upd H a o a = some o := by unfold upd; rw [if_pos rfl]
theorem upd_ne {H : Hp} {a b : Addr} {o : HO} (h : b ≠ a) : upd H a o b = H b := by unfold upd; rw [if_neg h]
theorem ne_of_none {H : Hp} {a b : Addr} {o : HO} (h : H a = some o) (h' : H b = none) : a ≠ b := by
  intro e; subst e; rw [h] at h'; cases h'

section
variable (P : Program) (w : World)
def ObjOk (H : Hp) (h : Heap) (a : Addr) : HO → Prop
  | .lst xs => xs.length ≤ sizeLine ∧ ∃ (its : List Value) (n : Nat), Vals xs its ∧ h.get? a = some { cls := .type "list", data := .seq its.toArray n }
  | .tup xs => xs.length ≤ sizeLine ∧ ∃ its : List Value, Vals xs its ∧ IsTup h a its.toArray
  | .dK kvs => kvs.length ≤ sizeLine ∧ (a == sysModules) = false ∧ ∃ vs, KV kvs vs ∧ h.DictOf (mixKind P w) a vs
  | .dT kvs => kvs.length ≤ sizeLine ∧ (a == sysModules) = false ∧ ∃ xs : List (List Key × Addr × Value),
      Paired (fun (p : List Key × V) (q : List Key × Addr × Value) => p.1 = q.1 ∧ H q.2.1 = some (.tup (p.1.map kV)) ∧ RelV p.2 q.2.2) kvs xs ∧
      ∃ o es ep, h.get? a = some o ∧ o.ExactDict ∧ o.data = .dict es ep ∧ es.toList = xs.map (entryOfKey (tupleKind (mixKind P w))) ∧ (xs.map (·.1)).Nodup
  | .set S n => h.SetOf (intKind P w) a S n
  | .ins C dx fs => H dx = some (.own a) ∧ fs.length ≤ 1000 ∧ dx ≠ a ∧ h.get? a = some (PySem.W.instObj C dx) ∧
      ∃ mA, h.Ns1 dx mA ∧ (∀ f, RelO (fs.lookup f) (mA f)) ∧ PySem.Within mA (fs.map (·.1))
  | .own _ => ∃ o, h.get? a = some o
  | .xd fs => ∃ mA, h.Ns1 a mA ∧ ∀ f, RelO (fs.lookup f) (mA f)
  | .rng lo hi => ∃ t u v, h.get? a = some { cls := .type "range", data := .fields #[.int lo t, .int hi u, .int 1 v] }
  | .frz o u => h.get? a = some o ∧ ObjOk H h a u
  | .tbl ps => h.get? a = some { cls := .none, data := .fields ps }
  | .met f x => h.get? a = some (PySem.W.methodObj (.ref f) (.ref x))
  | .ext φ => φ h ∧ (∃ o, h.get? a = some o) ∧ ∀ h1 h2 : Heap, φ h1 → (∀ o, h1.get? a = some o → h2.get? a = some o) → φ h2
def HOk (H : Hp) (h : Heap) : Prop := ∀ a o, H a = some o → ObjOk P w H h a o
end

section
variable {P : Program} {w : World} {H H' : Hp} {h h' : Heap} {a : Addr} {o : HO}
theorem ObjOk.lt (x : ObjOk P w H h a o) : a < h.objs.size := by
  cases o with
  | lst xs => obtain ⟨_, _, _, _, e⟩ := x; exact Heap.lt_size e
  | tup xs => obtain ⟨_, _, _, p⟩ := x; exact p.lt
  | dK kvs => obtain ⟨_, _, _, _, o, _, _, e, _⟩ := x; exact Heap.lt_size e
  | dT kvs => obtain ⟨_, _, _, _, o, _, _, e, _⟩ := x; exact Heap.lt_size e
  | set S n => obtain ⟨o, _, _, _, e, _⟩ := x; exact Heap.lt_size e
  | ins C dx fs => obtain ⟨_, _, _, e, _⟩ := x; exact Heap.lt_size e
  | own y => obtain ⟨_, e⟩ := x; exact Heap.lt_size e
  | xd fs => obtain ⟨_, ⟨_, _, _, e, _⟩, _⟩ := x; exact Heap.lt_size e
  | rng lo hi => obtain ⟨_, _, _, e⟩ := x; exact Heap.lt_size e
  | frz ob u => obtain ⟨e, _⟩ := x; exact Heap.lt_size e
  | tbl ps => exact Heap.lt_size (show h.get? a = some _ from x)
  | met f y => exact Heap.lt_size (show h.get? a = some _ from x)
  | ext φ => obtain ⟨_, ⟨_, e⟩, _⟩ := x; exact Heap.lt_size e
theorem Paired.mapP {α β : Type} {F G : α → β → Prop} : ∀ {l₁ : List α} {l₂ : List β}, Paired F l₁ l₂ → (∀ a b, F a b → G a b) → Paired G l₁ l₂
  | _, _, .nil, _ => .nil
  | _, _, .cons r t, f => .cons (f _ _ r) (Paired.mapP t f)
theorem ObjOk.stay (x : ObjOk P w H h a o) (k : ∀ b u, (b = a ∨ H b = some (.own a)) → h.get? b = some u → h'.get? b = some u)
    (ho : ∀ b, H b = some (.own a) → H' b = some (.own a)) (ht : ∀ b xs, H b = some (.tup xs) → H' b = some (.tup xs)) : ObjOk P w H' h' a o := by
  induction o with
  | lst xs => obtain ⟨z, its, n, r, e⟩ := x; exact ⟨z, its, n, r, k _ _ (.inl rfl) e⟩
  | tup xs => obtain ⟨z, its, r, ob, e, c⟩ := x; exact ⟨z, its, r, ob, k _ _ (.inl rfl) e, c⟩
  | dK kvs => obtain ⟨z, y, vs, r, ob, es, ep, e, c⟩ := x; exact ⟨z, y, vs, r, ob, es, ep, k _ _ (.inl rfl) e, c⟩
  | dT kvs =>
    obtain ⟨z, y, xs, r, ob, es, ep, e, c⟩ := x
    exact ⟨z, y, xs, Paired.mapP r fun p q z => ⟨z.1, ht _ _ z.2.1, z.2.2⟩, ob, es, ep, k _ _ (.inl rfl) e, c⟩
  | set S n => obtain ⟨ob, es, ep, t, e, c⟩ := x; exact ⟨ob, es, ep, t, k _ _ (.inl rfl) e, c⟩
  | ins C dx fs =>
    obtain ⟨d, z, ne, e, mA, ⟨od, es, ep, e2, c⟩, r⟩ := x
    exact ⟨ho _ d, z, ne, k _ _ (.inl rfl) e, mA, ⟨od, es, ep, k _ _ (.inr d) e2, c⟩, r⟩
  | own y => obtain ⟨ob, e⟩ := x; exact ⟨ob, k _ _ (.inl rfl) e⟩
  | xd fs => obtain ⟨mA, ⟨od, es, ep, e, c⟩, r⟩ := x; exact ⟨mA, ⟨od, es, ep, k _ _ (.inl rfl) e, c⟩, r⟩
  | rng lo hi => obtain ⟨t, u, v, e⟩ := x; exact ⟨t, u, v, k _ _ (.inl rfl) e⟩
  | frz ob u ih => obtain ⟨e, q⟩ := x; exact ⟨k _ _ (.inl rfl) e, ih q⟩
  | tbl ps =>
    have e : h.get? a = some { cls := .none, data := .fields ps } := x
    show h'.get? a = some { cls := .none, data := .fields ps }
    exact k a _ (.inl rfl) e
  | met f y =>
    have e : h.get? a = some (PySem.W.methodObj (.ref f) (.ref y)) := x
    show h'.get? a = some (PySem.W.methodObj (.ref f) (.ref y))
    exact k a _ (.inl rfl) e
  | ext φ => obtain ⟨p, ⟨o, e⟩, st⟩ := x; exact ⟨st _ _ p fun o q => k _ _ (.inl rfl) q, ⟨o, k _ _ (.inl rfl) e⟩, st⟩
theorem HOk.lt (x : HOk P w H h) (e : H a = some o) : a < h.objs.size := (x a o e).lt
theorem HOk.fresh (x : HOk P w H h) (e : h.objs.size ≤ a) : H a = none := by
  cases q : H a with
  | none => rfl
  | some u => exact absurd (Nat.lt_of_lt_of_le (x.lt q) e) (Nat.lt_irrefl _)
theorem HOk.kept (x : HOk P w H h) (k : ∀ b u, h.get? b = some u → h'.get? b = some u) : HOk P w H h' := fun a o e =>
  (x a o e).stay (fun b u _ q => k b u q) (fun _ q => q) fun _ _ q => q
theorem HOk.laid (x : HOk P w H h) (k : ∀ b u, h.get? b = some u → h'.get? b = some u) (hp : h.objs.size ≤ a) (new : ObjOk P w (upd H a o) h' a o) : HOk P w (upd H a o) h' := fun b u e => by
  have hn := x.fresh hp
  by_cases hb : b = a
  · subst hb; rw [upd_same] at e; cases e; exact new
  · rw [upd_ne hb] at e
    exact (x b u e).stay (fun c v _ q => k c v q) (fun c q => by rw [upd_ne (ne_of_none q hn)]; exact q) fun c xs q => by rw [upd_ne (ne_of_none q hn)]; exact q
end

def Rd (H : Hp) (a : Addr) (u : HO) : Prop := H a = some u ∨ ∃ o, H a = some (.frz o u)
theorem Rd.ok {P : Program} {w : World} {H : Hp} {h : Heap} {a : Addr} {u : HO} (r : Rd H a u) (x : HOk P w H h) : ObjOk P w H h a u := by
  rcases r with r | ⟨o, r⟩
  · exact x a u r
  · obtain ⟨_, q⟩ := x a _ r
    exact q
def Mut : Option HO → Prop
  | some (.lst _) => True
  | some (.dK _) => True
  | some (.dT _) => True
  | some (.set _ _) => True
  | some (.ins _ _ _) => True
  | some (.ext _) => True
  | _ => False
section
variable {P : Program} {w : World} {H : Hp} {h h' : Heap} {x e : Addr} {o' : HO}
theorem HOk.write (ok : HOk P w H h) (mu : Mut (H x)) (he : e = x ∨ H e = some (.own x)) (k : ∀ b u, b ≠ e → h.get? b = some u → h'.get? b = some u) (heo : ∃ u, h'.get? e = some u)
    (new : ObjOk P w (upd H x o') h' x o') : HOk P w (upd H x o') h' := fun b u q => by
  have nown : ∀ c y, H c = some (.own y) → c ≠ x := fun c y r z => by subst z; rw [r] at mu; exact mu
  have ntup : ∀ c xs, H c = some (.tup xs) → c ≠ x := fun c xs r z => by subst z; rw [r] at mu; exact mu
  by_cases hb : b = x
  · subst hb; rw [upd_same] at q; cases q; exact new
  · rw [upd_ne hb] at q
    by_cases hbe : b = e
    · have q' : H b = some (.own x) := by
        rcases he with z | z
        · exact absurd (hbe.trans z) hb
        · rw [hbe]; exact z
      rw [q] at q'; cases q'
      obtain ⟨v, hv⟩ := heo
      exact ⟨v, by rw [hbe]; exact hv⟩
    · refine (ok b u q).stay (fun c v hc r => k c v ?_ r) (fun c r => by rw [upd_ne (nown c b r)]; exact r) fun c xs r => by rw [upd_ne (ntup c xs r)]; exact r
      rcases hc with rfl | hc
      · exact hbe
      · rintro rfl
        rcases he with z | z
        · exact nown c b hc z
        · rw [hc] at z; cases z; exact hb rfl
end

structure Un (fs ex : List Addr) (H H' : Hp) (h h' : Heap) : Prop where
  keep : ∀ b o, h.get? b = some o → H b = none → b ∉ fs → b ∉ ex → h'.get? b = some o
  slot : ∀ b o, h.get? b = some o → H b = none → b ∈ fs → b ∉ ex → ∃ sl, h'.get? b = some { o with slots := sl }
  free : ∀ b o, h.get? b = some o → H b = none → b ∉ ex → H' b = none
  there : ∀ b o, h.get? b = some o → b ∉ ex → ∃ o', h'.get? b = some o'
  tups : ∀ b xs, H b = some (.tup xs) → H' b = some (.tup xs)
  frzs : ∀ b o u, H b = some (.frz o u) → H' b = some (.frz o u)
  tbls : ∀ b ps, H b = some (.tbl ps) → ∃ more, H' b = some (.tbl (ps ++ more))
section
variable {fs fs' ex ex' : List Addr} {H H1 H2 : Hp} {h h1 h2 h' : Heap} {a x e : Addr} {o : HO}
theorem Un.any (u : Un fs ex H H1 h h1) {b : Addr} {ob : Obj} (q : h.get? b = some ob) (n : H b = none) (hx : b ∉ ex) : ∃ sl, h1.get? b = some { ob with slots := sl } := by
  by_cases hb : b ∈ fs
  · exact u.slot b ob q n hb hx
  · exact ⟨ob.slots, u.keep b ob q n hb hx⟩
theorem Un.kept (k : ∀ b u, h.get? b = some u → h'.get? b = some u) : Un fs ex H H h h' :=
  ⟨fun b ob q _ _ _ => k b ob q, fun b ob q _ _ _ => ⟨ob.slots, k b ob q⟩, fun _ _ _ n _ => n, fun b ob q _ => ⟨ob, k b ob q⟩, fun _ _ q => q, fun _ _ _ q => q, fun _ ps q => ⟨#[], by rw [q]; simp⟩⟩
theorem Un.refl : Un fs ex H H h h := Un.kept fun _ _ q => q
theorem Un.laid (k : ∀ b u, h.get? b = some u → h'.get? b = some u) (hp : h.objs.size ≤ a) (hn : H a = none) : Un fs ex H (upd H a o) h h' where
  keep := fun b u q _ _ _ => k b u q
  slot := fun b u q _ _ _ => ⟨u.slots, k b u q⟩
  free := fun b u q n _ => by rw [upd_ne (Nat.ne_of_lt (Nat.lt_of_lt_of_le (Heap.lt_size q) hp))]; exact n
  there := fun b u q _ => ⟨u, k b u q⟩
  tups := fun b xs q => by rw [upd_ne (ne_of_none q hn)]; exact q
  frzs := fun b u xs q => by rw [upd_ne (ne_of_none q hn)]; exact q
  tbls := fun b ps q => ⟨#[], by rw [upd_ne (ne_of_none q hn), q]; simp⟩
theorem Un.write (mu : Mut (H x)) (he : e = x ∨ H e = some (.own x)) (k : ∀ b u, b ≠ e → h.get? b = some u → h'.get? b = some u) (heo : ∃ u, h'.get? e = some u) : Un fs ex H (upd H x o) h h' := by
  have hx : ∀ b, H b = none → b ≠ x := fun b n z => by subst z; rw [n] at mu; exact mu
  have hb : ∀ b, H b = none → b ≠ e := fun b n z => by
    subst z
    rcases he with r | r
    · exact hx b n r
    · rw [n] at r; cases r
  have hm : ∀ b u, H b = some u → ¬ Mut (some u) → b ≠ x := fun b u q nm z => by subst z; rw [q] at mu; exact nm mu
  refine ⟨fun b u q n _ _ => k b u (hb b n) q, fun b u q n _ _ => ⟨u.slots, k b u (hb b n) q⟩, fun b u q n _ => by rw [upd_ne (hx b n)]; exact n, fun b u q _ => ?_,
    fun b xs q => by rw [upd_ne (hm b _ q fun z => z)]; exact q, fun b u xs q => by rw [upd_ne (hm b _ q fun z => z)]; exact q, fun b ps q => ⟨#[], by rw [upd_ne (hm b _ q fun z => z), q]; simp⟩⟩
  by_cases hbe : b = e
  · subst hbe; exact heo
  · exact ⟨u, k b u hbe q⟩
end

def trk (h : Heap) (H : Hp) : List Addr := (List.range h.objs.size).filter fun a => (H a).isSome
def hidT (h : Heap) (H : Hp) : Heap := PySem.W.hideAll h (trk h H)
theorem hidT_size (h : Heap) (H : Hp) : (hidT h H).objs.size = h.objs.size := PySem.W.hideAll_size _ _
theorem hidT_get {h : Heap} {H : Hp} {b : Addr} {o : Obj} (e : h.get? b = some o) (n : H b = none) : (hidT h H).get? b = some o :=
  PySem.W.hideAll_get _ e fun hm => by
    have q : (H b).isSome = true := (List.mem_filter.mp hm).2
    rw [n] at q; simp at q
theorem of_hidT {h : Heap} {H : Hp} {b : Addr} {o : Obj} (e : (hidT h H).get? b = some o) : h.get? b = some o ∧ H b = none := by
  have e' : h.get? b = some o := PySem.W.of_hideAll (trk h H) e
  refine ⟨e', ?_⟩
  cases q : H b with
  | none => rfl
  | some x =>
    have hm : b ∈ trk h H := List.mem_filter.mpr ⟨List.mem_range.mpr (Heap.lt_size e'), by simp [q]⟩
    have z : (hidT h H).get? b = none := PySem.W.hideAll_none (trk h H) hm
    rw [z] at e; cases e

def allNews (g h : Heap) (L : Addr) : List (Addr × Obj) := (List.range h.objs.size).filterMap fun a => if a = L ∨ (g.get? a).isSome = true then none else (h.get? a).map fun o => (a, o)
def rest (g h : Heap) (L d : Addr) : List (Addr × Obj) := (allNews g h L).filter fun p => decide (p.1 ≠ d)
end L2

namespace L2
open PySem PySem.Spec PyProof.Rows

structure Mod (K : PySem.W.Frag) (mg : Str → Option Value) (base : Heap) : Prop where
  kin : K.In base
  glob : base.Ns mainGlobals mg
  blt : ∃ mb, base.Ns builtinsNs mb ∧ ∀ x : Str, x ≠ "__name__" → mb x = bootBuiltins x
  nolimit : base.NoLimit
  seer : base.NoSeer

structure Cx where
  prog : Program
  w : World
  K : PySem.W.Frag
  mg : Str → Option Value
  base : Heap
  A : Around
  N : List Str
  s₀ : Shared
  H₀ : Hp
  env : Env
  outer : List Env
  stack : List Env
  ex : List Addr
  fn : Str → Bool
  calm : Bool
  pn : List (Addr × Obj)
  xe : Value → Shared → Prop
def frs (l : List Env) : List Addr := l.filterMap (·.frame)
abbrev Cx.fs (X : Cx) : List Addr := frs X.outer

def Vis (sc : Scope) (x : Str) : Prop := sc.names.lookup x = some .local ∨ sc.names.lookup x = some .cell ∨ sc.names.lookup x = some .free
def Loc (sc : Scope) (x : Str) : Prop := sc.names.lookup x = some .local ∨ sc.names.lookup x = some .cell
def Look (env : Env) (h : Heap) (m : Str → Option Value) (x : Str) (u : Value) : Prop :=
  (env.kindOf x = some .local ∧ m x = some u) ∨ ((env.kindOf x = some .cell ∨ env.kindOf x = some .free) ∧ ∃ c, env.cells.lookup x = some c ∧ h.IsCell c (some u))

structure Cx.Ok (X : Cx) : Prop where
  mod : Mod X.K X.mg X.base
  kind : X.env.scope.kind = .function
  glob : X.env.globals = mainGlobals
  blt : X.env.builtins = builtinsNs
  above : X.s₀.heap.objs.size ≤ X.env.locals
  inj : ∀ x y c, X.env.cells.lookup x = some c → X.env.cells.lookup y = some c → x = y
  has : ∀ x, (X.env.kindOf x = some .cell ∨ X.env.kindOf x = some .free) → ∃ c, X.env.cells.lookup x = some c
  cab : ∀ x c, X.fn x = true → X.env.cells.lookup x = some c → X.s₀.heap.objs.size ≤ c
  hd : X.calm = true → X.A.handled = none
  frames : X.A.frames = some X.stack
  stk : X.stack = X.outer ∨ (X.stack = X.env :: X.outer ∧ X.env.frame = some X.env.locals)
  exf : ∀ b ∈ X.ex, b ≠ X.env.locals ∧ ∀ x c, X.env.cells.lookup x = some c → c ≠ b
  bs : ∀ b o, X.base.get? b = some o → X.s₀.heap.get? b = some o ∧ X.H₀ b = none
  bsz : X.base.objs.size ≤ X.s₀.heap.objs.size
  noex : ∀ b o, X.base.get? b = some o → b ∉ X.ex
  exfs : ∀ b ∈ X.ex, b ∉ X.fs
  funs : X.s₀.heap.FunFrames X.base X.outer
  frf : ∀ b ∈ X.fs, X.H₀ b = none

structure Inv (X : Cx) (pins : List (Addr × Obj)) (σ : List (Option V)) (H : Hp) (s : Shared) : Prop where
  ok : X.Ok
  os : s.os = X.s₀.os
  bare : AllBare s.gens
  base : Un X.fs X.ex X.H₀ H X.s₀.heap s.heap
  loc : ∃ m, s.heap.Ns X.env.locals m ∧ ∀ (i : Nat) (x : Str) (v : V), X.N[i]? = some x → σ[i]? = some (some v) → Vis X.env.scope x → ∃ u, RelV v u ∧ Look X.env s.heap m x u
  cell : ∀ x c, X.env.cells.lookup x = some c → ∃ v, s.heap.IsCell c v
  free : H X.env.locals = none
  freeC : ∀ x c, X.env.cells.lookup x = some c → H c = none
  pin : ∀ p ∈ X.pn ++ pins, s.heap.get? p.1 = some p.2 ∧ H p.1 = none ∧ p.1 ≠ X.env.locals ∧ p.1 ∉ X.fs ∧ ∀ v, p.2.data ≠ .cell v
  hok : HOk X.prog X.w H s.heap
  len : σ.length = X.N.length

section
variable {X : Cx} {pins : List (Addr × Obj)} {σ : List (Option V)} {H H' : Hp} {s : Shared} {h' : Heap}

theorem Cx.Ok.nofr (ok : X.Ok) {b : Addr} {o : Obj} (e : X.base.get? b = some o) : b ∉ X.fs := fun hb => by
  have := (ok.funs.mem hb).1
  rw [e] at this; cases this
theorem Inv.bs (I : Inv X pins σ H s) : ∀ b o, X.base.get? b = some o → s.heap.get? b = some o ∧ H b = none := fun b o e =>
  ⟨I.base.keep b o (I.ok.bs b o e).1 (I.ok.bs b o e).2 (I.ok.nofr e) (I.ok.noex b o e), I.base.free b o (I.ok.bs b o e).1 (I.ok.bs b o e).2 (I.ok.noex b o e)⟩
theorem Inv.bk (I : Inv X pins σ H s) : ∀ b o, X.base.get? b = some o → s.heap.get? b = some o := fun b o e => (I.bs b o e).1
theorem Inv.mod (I : Inv X pins σ H s) : Mod X.K X.mg X.base := I.ok.mod
theorem Inv.kIn (I : Inv X pins σ H s) : X.K.In s.heap := I.ok.mod.kin.keeps I.bk
theorem Inv.nolimit (I : Inv X pins σ H s) : s.heap.NoLimit := I.ok.mod.nolimit.keeps I.bk
theorem Inv.lt (I : Inv X pins σ H s) : X.env.locals < s.heap.objs.size := let ⟨_, hn, _⟩ := I.loc; hn.lt
theorem Inv.sz (I : Inv X pins σ H s) : X.s₀.heap.objs.size ≤ s.heap.objs.size := Nat.le_trans I.ok.above (Nat.le_of_lt I.lt)
theorem Inv.nofs (I : Inv X pins σ H s) {a : Addr} (h : s.heap.objs.size ≤ a) : a ∉ X.fs := fun hb => by
  obtain ⟨_, o, ho, _⟩ := I.ok.funs.mem hb
  exact absurd (Nat.lt_of_lt_of_le (Heap.lt_size ho) (Nat.le_trans I.sz h)) (Nat.lt_irrefl _)
theorem Inv.cne (I : Inv X pins σ H s) : ∀ x c, X.env.cells.lookup x = some c → c ≠ X.env.locals := fun x c e z => by
  obtain ⟨v, o, ho, hd⟩ := I.cell x c e
  obtain ⟨m, ⟨o', es, ep, ho', hd', _⟩, _⟩ := I.loc
  rw [z, ho'] at ho; cases ho; rw [hd'] at hd; cases hd
theorem Inv.funs (I : Inv X pins σ H s) : s.heap.FunFrames X.base X.outer := by
  have all : ∀ (l : List Env), (∀ b ∈ frs l, b ∈ X.fs) → X.s₀.heap.FunFrames X.base l → s.heap.FunFrames X.base l := by
    intro l
    induction l with
    | nil => intro _ _; trivial
    | cons env r ih =>
      intro hs hl
      obtain ⟨hk, ⟨L, o, hf, hn, ho, hd⟩, hr⟩ := hl
      have hL : L ∈ X.fs := hs L (by unfold frs; rw [List.filterMap_cons, hf]; exact List.mem_cons_self)
      obtain ⟨sl, e⟩ := I.base.slot L o ho (I.ok.frf L hL) hL fun z => I.ok.exfs L z hL
      exact ⟨hk, ⟨L, _, hf, hn, e, hd⟩, ih (fun b hb => hs b (by unfold frs; rw [List.filterMap_cons, hf]; exact List.mem_cons_of_mem _ hb)) hr⟩
  exact all X.outer (fun _ hb => hb) I.ok.funs

theorem Inv.stack (I : Inv X pins σ H s) : s.heap.FunFrames X.base X.stack := by
  rcases I.ok.stk with e | ⟨e, hf⟩
  · rw [e]; exact I.funs
  · rw [e]
    obtain ⟨m, hn, _⟩ := I.loc
    refine .cons (by rw [I.ok.kind]; decide) hf hn ?_ I.funs
    exact Heap.get?_none_of_le (Nat.le_trans I.ok.bsz I.ok.above)
theorem Inv.stkSub (I : Inv X pins σ H s) : ∀ b ∈ frs X.stack, b ∈ X.env.locals :: X.fs := fun b hb => by
  rcases I.ok.stk with e | ⟨e, hf⟩
  · rw [e] at hb; exact List.mem_cons_of_mem _ hb
  · rw [e] at hb
    unfold frs at hb
    rw [List.filterMap_cons, hf] at hb
    exact hb
theorem Inv.stkFree (I : Inv X pins σ H s) : ∀ b ∈ frs X.stack, H b = none := fun b hb => by
  rcases List.mem_cons.mp (I.stkSub b hb) with e | hb
  · rw [e]; exact I.free
  · obtain ⟨_, o, ho, _⟩ := I.ok.funs.mem hb
    exact I.base.free b o ho (I.ok.frf b hb) fun z => I.ok.exfs b z hb

theorem Inv.step {g' : Array GenState} {t' : Nat} {d' : Drawn} {ch : List Addr} (I : Inv X pins σ H s)
    (hch : ∀ b ∈ ch, (b ∈ X.ex ∨ X.s₀.heap.objs.size ≤ b) ∧ b ≠ X.env.locals ∧ (∀ x c, X.env.cells.lookup x = some c → c ≠ b) ∧ ∀ p ∈ X.pn ++ pins, p.1 ≠ b)
    (keep : ∀ b o, b ≠ X.env.locals → b ∉ X.fs → b ∉ ch → s.heap.get? b = some o → H b = none → h'.get? b = some o)
    (slot : ∀ b o, b ≠ X.env.locals → b ∈ X.fs → b ∉ ch → s.heap.get? b = some o → H b = none → ∃ sl, h'.get? b = some { o with slots := sl }) (free : ∀ b o, b ∉ ch → s.heap.get? b = some o → H b = none → H' b = none)
    (there : ∀ b o, b ∉ ch → s.heap.get? b = some o → ∃ o', h'.get? b = some o')
    (tups : ∀ b xs, H b = some (.tup xs) → H' b = some (.tup xs)) (frzs : ∀ b o u, H b = some (.frz o u) → H' b = some (.frz o u)) (tbls : ∀ b ps, H b = some (.tbl ps) → ∃ more, H' b = some (.tbl (ps ++ more)))
    (ns : ∀ m, s.heap.Ns X.env.locals m → h'.Ns X.env.locals m) (hok : HOk X.prog X.w H' h') (hg : AllBare g') :
    Inv X pins σ H' { s with heap := h', gens := g', drawn := d', toks := t' } := by
  have neL : ∀ b o, X.s₀.heap.get? b = some o → b ≠ X.env.locals := fun b o e => Nat.ne_of_lt (Nat.lt_of_lt_of_le (Heap.lt_size e) I.ok.above)
  have neC : ∀ b o, X.s₀.heap.get? b = some o → b ∉ X.ex → b ∉ ch := fun b o e hx hb => by
    rcases (hch b hb).1 with z | z
    · exact hx z
    · exact absurd (Nat.lt_of_lt_of_le (Heap.lt_size e) z) (Nat.lt_irrefl _)
  have cellK : ∀ x c, X.env.cells.lookup x = some c → ∀ v, s.heap.IsCell c v → h'.IsCell c v := fun x c e v ⟨o, ho, hd⟩ => by
    have nch : c ∉ ch := fun z => (hch c z).2.2.1 x c e rfl
    by_cases hc : c ∈ X.fs
    · obtain ⟨sl, q⟩ := slot c o (I.cne x c e) hc nch ho (I.freeC x c e)
      exact ⟨_, q, hd⟩
    · exact ⟨o, keep c o (I.cne x c e) hc nch ho (I.freeC x c e), hd⟩
  refine ⟨I.ok, I.os, hg, ⟨fun b o e n hb hx => ?_, fun b o e n hb hx => ?_, fun b o e n hx => ?_, fun b o e hx => ?_, fun b xs e => tups b xs (I.base.tups b xs e), fun b o xs e => frzs b o xs (I.base.frzs b o xs e), fun b ps e => ?_⟩, ?_, fun x c e => ?_, ?_, fun x c e => ?_, fun p hp => ?_, hok, I.len⟩
  · exact keep b o (neL b o e) hb (neC b o e hx) (I.base.keep b o e n hb hx) (I.base.free b o e n hx)
  · obtain ⟨sl, e1⟩ := I.base.slot b o e n hb hx
    obtain ⟨sl', e2⟩ := slot b _ (neL b o e) hb (neC b o e hx) e1 (I.base.free b o e n hx)
    exact ⟨sl', e2⟩
  · obtain ⟨o', e1⟩ := I.base.there b o e hx
    exact free b o' (neC b o e hx) e1 (I.base.free b o e n hx)
  · obtain ⟨o', e1⟩ := I.base.there b o e hx
    exact there b o' (neC b o e hx) e1
  · obtain ⟨m1, e1⟩ := I.base.tbls b ps e
    obtain ⟨m2, e2⟩ := tbls b _ e1
    exact ⟨m1 ++ m2, by rw [e2, Array.append_assoc]⟩
  · obtain ⟨m, hn, hl⟩ := I.loc
    refine ⟨m, ns m hn, fun i x v e1 e2 e3 => ?_⟩
    obtain ⟨u, r, l⟩ := hl i x v e1 e2 e3
    refine ⟨u, r, ?_⟩
    rcases l with l | ⟨k, c, e, z⟩
    · exact .inl l
    · exact .inr ⟨k, c, e, cellK x c e _ z⟩
  · obtain ⟨v, z⟩ := I.cell x c e
    exact ⟨v, cellK x c e v z⟩
  · obtain ⟨m, ⟨o, _, _, ho, _⟩, _⟩ := I.loc
    exact free _ o (fun z => (hch _ z).2.1 rfl) ho I.free
  · obtain ⟨v, o, ho, hd⟩ := I.cell x c e
    exact free c o (fun z => (hch c z).2.2.1 x c e rfl) ho (I.freeC x c e)
  · obtain ⟨e, n, ne, nf, d⟩ := I.pin p hp
    have nch : p.1 ∉ ch := fun z => (hch p.1 z).2.2.2 p hp rfl
    exact ⟨keep p.1 p.2 ne nf nch e n, free p.1 p.2 nch e n, ne, nf, d⟩
theorem Inv.un {t' : Nat} (I : Inv X pins σ H s) (u : Un X.fs [] H H' s.heap h') (hok : HOk X.prog X.w H' h') : Inv X pins σ H' { s with heap := h', toks := t' } := by
  obtain ⟨m, ⟨o, es, ep, ho, r⟩, _⟩ := id I.loc
  obtain ⟨sl, hL⟩ := u.any ho I.free (by simp)
  exact I.step (g' := s.gens) (d' := s.drawn) (ch := []) (fun _ z => nomatch z) (fun b o _ hb _ e n => u.keep b o e n hb (by simp)) (fun b o _ hb _ e n => u.slot b o e n hb (by simp)) (fun b o _ e n => u.free b o e n (by simp)) (fun b o _ e => u.there b o e (by simp)) u.tups u.frzs u.tbls (fun m' hm => by
    obtain ⟨o', es', ep', ho', r'⟩ := hm
    rw [ho] at ho'; cases ho'
    exact ⟨_, es', ep', hL, r'⟩) hok I.bare
theorem Inv.call {g' : Array GenState} {t' : Nat} {d' : Drawn} {ch : List Addr} (I : Inv X pins σ H s) (u : Un (frs X.stack) ch H H' s.heap h') (hok : HOk X.prog X.w H' h') (hg : AllBare g')
    (hch : ∀ b ∈ ch, (b ∈ X.ex ∨ X.s₀.heap.objs.size ≤ b) ∧ b ≠ X.env.locals ∧ (∀ x c, X.env.cells.lookup x = some c → c ≠ b) ∧ ∀ p ∈ X.pn ++ pins, p.1 ≠ b) :
    Inv X pins σ H' { s with heap := h', gens := g', drawn := d', toks := t' } := by
  obtain ⟨m, ⟨o, es, ep, ho, r⟩, _⟩ := id I.loc
  obtain ⟨sl, hL⟩ := u.any ho I.free fun z => (hch _ z).2.1 rfl
  exact I.step (ch := ch) hch (fun b o hL hb hc e n => u.keep b o e n (fun z => (List.mem_cons.mp (I.stkSub b z)).elim hL hb) hc) (fun b o _ _ hc e n => u.any e n hc) (fun b o hc e n => u.free b o e n hc) (fun b o hc e => u.there b o e hc) u.tups u.frzs u.tbls (fun m' hm => by
    obtain ⟨o', es', ep', ho', r'⟩ := hm
    rw [ho] at ho'; cases ho'
    exact ⟨_, es', ep', hL, r'⟩) hok hg
theorem Inv.turned {t' : Nat} {it : Addr} (I : Inv X pins σ H s) (k : ∀ b o, b ≠ it → s.heap.get? b = some o → h'.get? b = some o) (hn : H it = none) (hL : it ≠ X.env.locals)
    (h1 : it ∈ X.ex ∨ X.s₀.heap.objs.size ≤ it) (h2 : ∀ x c, X.env.cells.lookup x = some c → c ≠ it) (h3 : ∀ p ∈ X.pn ++ pins, p.1 ≠ it) : Inv X pins σ H { s with heap := h', toks := t' } := by
  have nit : ∀ b u, H b = some u → b ≠ it := fun b u e z => by rw [z, hn] at e; cases e
  refine I.step (g' := s.gens) (d' := s.drawn) (ch := [it]) (fun b hb => ?_) (fun b o _ _ hc e _ => k b o (fun z => hc (by simp [z])) e) (fun b o _ _ hc e _ => ⟨o.slots, k b o (fun z => hc (by simp [z])) e⟩) (fun _ _ _ _ n => n)
    (fun b o hc e => ⟨o, k b o (fun z => hc (by simp [z])) e⟩) (fun _ _ e => e) (fun _ _ _ e => e) (fun b ps e => ⟨#[], by rw [e]; simp⟩) (fun m hm => ?_) (fun b u e => ?_) I.bare
  · have e : b = it := by simpa using hb
    subst e
    exact ⟨h1, hL, h2, h3⟩
  · obtain ⟨o, es, ep, ho, r⟩ := hm
    exact ⟨o, es, ep, k _ o (Ne.symm hL) ho, r⟩
  · refine (I.hok b u e).stay (fun c v hc q => k c v ?_ q) (fun _ q => q) fun _ _ q => q
    rcases hc with z | z
    · rw [z]; exact nit b u e
    · exact nit c _ z
theorem Inv.tok (I : Inv X pins σ H s) (t : Nat) : Inv X pins σ H { s with toks := t } := I.un (h' := s.heap) (t' := t) Un.refl I.hok
theorem Inv.kept {t' : Nat} (I : Inv X pins σ H s) (k : ∀ b u, s.heap.get? b = some u → h'.get? b = some u) : Inv X pins σ H { s with heap := h', toks := t' } := I.un (Un.kept k) (I.hok.kept k)
theorem Inv.laid {a : Addr} {o : HO} {t' : Nat} (I : Inv X pins σ H s) (k : ∀ b u, s.heap.get? b = some u → h'.get? b = some u) (hp : s.heap.objs.size ≤ a) (new : ObjOk X.prog X.w (upd H a o) h' a o) :
    Inv X pins σ (upd H a o) { s with heap := h', toks := t' } := I.un (Un.laid k hp (I.hok.fresh hp)) (I.hok.laid k hp new)
theorem Inv.write {x e : Addr} {o : HO} {t' : Nat} (I : Inv X pins σ H s) (mu : Mut (H x)) (he : e = x ∨ H e = some (.own x)) (k : ∀ b u, b ≠ e → s.heap.get? b = some u → h'.get? b = some u) (heo : ∃ u, h'.get? e = some u)
    (new : ObjOk X.prog X.w (upd H x o) h' x o) : Inv X pins σ (upd H x o) { s with heap := h', toks := t' } := I.un (Un.write mu he k heo) (I.hok.write mu he k heo new)
theorem Inv.pins_of {pins' : List (Addr × Obj)} (I : Inv X pins σ H s) (h : ∀ p ∈ pins', s.heap.get? p.1 = some p.2 ∧ H p.1 = none ∧ p.1 ≠ X.env.locals ∧ p.1 ∉ X.fs ∧ ∀ v, p.2.data ≠ .cell v) : Inv X pins' σ H s :=
  ⟨I.ok, I.os, I.bare, I.base, I.loc, I.cell, I.free, I.freeC, fun p hp => (List.mem_append.mp hp).elim (fun z => I.pin p (List.mem_append_left _ z)) (h p), I.hok, I.len⟩

theorem nodup_ix {N : List Str} (hN : N.Nodup) {i j : Nat} {x : Str} (a : N[i]? = some x) (b : N[j]? = some x) : i = j := by
  obtain ⟨h1, e1⟩ := List.getElem?_eq_some_iff.mp a
  obtain ⟨h2, e2⟩ := List.getElem?_eq_some_iff.mp b
  exact (List.getElem_inj hN).mp (e1.trans e2.symm)

theorem store_ok2 {M : Model} {A : Around} {E : Value → Shared → Prop} {i : Nat} {x : Str} {v : V} {u : Value} {Q : Unit → Shared → Prop} (I : Inv X pins σ H s) (hN : X.N.Nodup) (hi : X.N[i]? = some x) (hx : Loc X.env.scope x) (r : RelV v u)
    (h : ∀ s', Inv X pins (σ.set i (some v)) H s' → (∃ a, Heap.SameBut a s.heap s'.heap ∧ (a = X.env.locals ∨ X.env.cells.lookup x = some a)) → Q () s') (hf : X.fn x = true ∨ X.env.scope.names.lookup x = some .local := by first | exact .inl rfl | exact .inr rfl | assumption) : wpAny M A (storeName X.env x u) Q E s := by
  obtain ⟨m, hn, hl⟩ := id I.loc
  have hcls : (X.env.scope.kind == .class || (X.env.scope.kind == .module && X.env.locals != X.env.globals)) = false := by rw [I.ok.kind]; rfl
  have hiσ : i < σ.length := by rw [I.len]; exact (List.getElem?_eq_some_iff.mp hi).1
  have cne := I.cne
  have tracked : ∀ {a : Addr} {h' : Heap}, (∃ o, s.heap.get? a = some o ∧ H a = none) → Heap.SameBut a s.heap h' → HOk X.prog X.w H h' := fun {a h'} ha hs b ob e => by
    obtain ⟨_, _, hfree⟩ := ha
    refine (I.hok b ob e).stay (fun c w' hc q => (hs.2 c ?_).trans q) (fun _ q => q) fun _ _ q => q
    rintro rfl
    rcases hc with rfl | hc
    · rw [hfree] at e; cases e
    · rw [hfree] at hc; cases hc
  rcases hx with hk | hk
  · refine wpAny_storeName_local hk hn (fun h' hn' hs => ?_) hcls
    obtain ⟨oL, _, _, hoL, _⟩ := id hn
    refine h _ ⟨I.ok, I.os, I.bare, ⟨fun b o e n hb hx => ?_, fun b o e n hb hx => ?_, I.base.free, fun b o e hx => ?_, I.base.tups, I.base.frzs, I.base.tbls⟩, ⟨_, hn', fun j y v' e1 e2 e3 => ?_⟩, fun y c e => ?_, I.free, I.freeC, fun p hp => ?_, tracked ⟨oL, hoL, I.free⟩ hs, by simpa using I.len⟩ ⟨_, hs, .inl rfl⟩
    · exact (hs.2 b (Nat.ne_of_lt (Nat.lt_of_lt_of_le (Heap.lt_size e) I.ok.above))).trans (I.base.keep b o e n hb hx)
    · obtain ⟨sl, e1⟩ := I.base.slot b o e n hb hx
      exact ⟨sl, (hs.2 b (Nat.ne_of_lt (Nat.lt_of_lt_of_le (Heap.lt_size e) I.ok.above))).trans e1⟩
    · obtain ⟨o', e1⟩ := I.base.there b o e hx
      exact ⟨o', (hs.2 b (Nat.ne_of_lt (Nat.lt_of_lt_of_le (Heap.lt_size e) I.ok.above))).trans e1⟩
    · by_cases hj : j = i
      · subst hj
        rw [hi] at e1; cases e1
        rw [List.getElem?_set_self hiσ] at e2
        cases e2
        exact ⟨u, r, .inl ⟨hk, by simp⟩⟩
      · rw [List.getElem?_set_ne (Ne.symm hj)] at e2
        obtain ⟨u', r', q⟩ := hl j y v' e1 e2 e3
        refine ⟨u', r', ?_⟩
        rcases q with ⟨k, e⟩ | ⟨k, c, e, z⟩
        · refine .inl ⟨k, ?_⟩
          have : y ≠ x := fun e => hj (nodup_ix hN e1 (e ▸ hi))
          simp [this, e]
        · exact .inr ⟨k, c, e, z.sameBut hs (cne y c e)⟩
    · obtain ⟨w', z⟩ := I.cell y c e
      exact ⟨w', z.sameBut hs (cne y c e)⟩
    · obtain ⟨e, n, ne, nf, d⟩ := I.pin p hp
      exact ⟨(hs.2 p.1 ne).trans e, n, ne, nf, d⟩
  · have hfn : X.fn x = true := by
      rcases hf with z | z
      · exact z
      · rw [z] at hk; cases hk
    obtain ⟨c, hc⟩ := I.ok.has x (.inl hk)
    obtain ⟨w', z⟩ := I.cell x c hc
    refine wpAny_storeName_cell I.ok.kind hk hc z (fun h' hc' hs => ?_)
    obtain ⟨oc, hoc, hocd⟩ := id z
    refine h { s with heap := h' } ⟨I.ok, I.os, I.bare, ⟨fun b o e n hb hx => ?_, fun b o e n hb hx => ?_, I.base.free, fun b o e hx => ?_, I.base.tups, I.base.frzs, I.base.tbls⟩, ⟨m, hn.sameBut hs (Ne.symm (cne x c hc)), fun j y v' e1 e2 e3 => ?_⟩, fun y c' e => ?_, I.free, I.freeC, fun p hp => ?_, tracked ⟨oc, hoc, I.freeC x c hc⟩ hs, by simpa using I.len⟩ ⟨c, hs, .inr hc⟩
    · exact (hs.2 b (Nat.ne_of_lt (Nat.lt_of_lt_of_le (Heap.lt_size e) (I.ok.cab x c hfn hc)))).trans (I.base.keep b o e n hb hx)
    · obtain ⟨sl, e1⟩ := I.base.slot b o e n hb hx
      exact ⟨sl, (hs.2 b (Nat.ne_of_lt (Nat.lt_of_lt_of_le (Heap.lt_size e) (I.ok.cab x c hfn hc)))).trans e1⟩
    · obtain ⟨o', e1⟩ := I.base.there b o e hx
      exact ⟨o', (hs.2 b (Nat.ne_of_lt (Nat.lt_of_lt_of_le (Heap.lt_size e) (I.ok.cab x c hfn hc)))).trans e1⟩
    · by_cases hj : j = i
      · subst hj
        rw [hi] at e1; cases e1
        rw [List.getElem?_set_self hiσ] at e2
        cases e2
        exact ⟨u, r, .inr ⟨.inl hk, c, hc, hc'⟩⟩
      · rw [List.getElem?_set_ne (Ne.symm hj)] at e2
        obtain ⟨u', r', q⟩ := hl j y v' e1 e2 e3
        refine ⟨u', r', ?_⟩
        rcases q with q | ⟨k, c', e, z'⟩
        · exact .inl q
        · refine .inr ⟨k, c', e, z'.sameBut hs ?_⟩
          rintro rfl
          exact hj (nodup_ix hN e1 (I.ok.inj _ _ _ e hc ▸ hi))
    · by_cases hcc : c' = c
      · subst hcc; exact ⟨_, hc'⟩
      · obtain ⟨w2, z2⟩ := I.cell y c' e
        exact ⟨w2, z2.sameBut hs hcc⟩
    · obtain ⟨e, n, ne, nf, d⟩ := I.pin p hp
      refine ⟨(hs.2 p.1 ?_).trans e, n, ne, nf, d⟩
      intro q
      rw [q, hoc] at e
      have q' : oc = p.2 := Option.some.inj e
      exact d w' (by rw [← q']; exact hocd)
theorem store_ok {M : Model} {A : Around} {E : Value → Shared → Prop} {i : Nat} {x : Str} {v : V} {u : Value} {Q : Unit → Shared → Prop} (I : Inv X pins σ H s) (hN : X.N.Nodup) (hi : X.N[i]? = some x) (hx : Loc X.env.scope x) (r : RelV v u)
    (h : ∀ s', Inv X pins (σ.set i (some v)) H s' → Q () s') (hf : X.fn x = true ∨ X.env.scope.names.lookup x = some .local := by first | exact .inl rfl | exact .inr rfl | assumption) : wpAny M A (storeName X.env x u) Q E s :=
  store_ok2 I hN hi hx r (fun s' I' _ => h s' I') hf
theorem Inv.call' {s' : Shared} {ch : List Addr} (I : Inv X pins σ H s) (ho : s'.os = s.os) (u : Un (frs X.stack) ch H H' s.heap s'.heap) (hok : HOk X.prog X.w H' s'.heap) (hg : AllBare s'.gens)
    (hch : ∀ b ∈ ch, (b ∈ X.ex ∨ X.s₀.heap.objs.size ≤ b) ∧ b ≠ X.env.locals ∧ (∀ x c, X.env.cells.lookup x = some c → c ≠ b) ∧ ∀ p ∈ X.pn ++ pins, p.1 ≠ b) : Inv X pins σ H' s' := by
  obtain ⟨h', g', d', t', o'⟩ := s'
  have e : o' = s.os := ho
  subst e
  exact I.call (g' := g') (t' := t') (d' := d') u hok hg hch
end

abbrev XK := Value → Option Addr → Hp → Prop
abbrev St := List (Option V)
abbrev VK := V → Hp → Prop
abbrev TE := St → Hp → VK → Prop
abbrev TT := St → Hp → (Bool → Hp → Prop) → Prop
abbrev TA := St → Hp → (List V → Hp → Prop) → Prop
structure Ends where
  nx : St → Hp → Prop
  rt : VK
  bk : St → Hp → Prop := fun _ _ => False
  ct : St → Hp → Prop := fun _ _ => False
abbrev TS := Ends → St → Hp → Prop

def EP (X : Cx) (pins : List (Addr × Obj)) (σ : St) (Q : VK) (u : Value) (s' : Shared) : Prop := ∃ v H', Inv X pins σ H' s' ∧ RelV v u ∧ Q v H'
def TP (X : Cx) (pins : List (Addr × Obj)) (σ : St) (Q : Bool → Hp → Prop) (b : Bool) (s' : Shared) : Prop := ∃ H', Inv X pins σ H' s' ∧ Q b H'
def AP (X : Cx) (pins : List (Addr × Obj)) (σ : St) (Q : List V → Hp → Prop) (us : List Value) (s' : Shared) : Prop := ∃ vs H', Inv X pins σ H' s' ∧ Vals vs us ∧ Q vs H'
def SP (X : Cx) (pins : List (Addr × Obj)) (D : Ends) (f : Flow) (s' : Shared) : Prop :=
  match f with
  | .next => ∃ σ' H', Inv X pins σ' H' s' ∧ D.nx σ' H'
  | .brk => ∃ σ' H', Inv X pins σ' H' s' ∧ D.bk σ' H'
  | .cont => ∃ σ' H', Inv X pins σ' H' s' ∧ D.ct σ' H'
  | .ret u => ∃ v σ' H', Inv X pins σ' H' s' ∧ RelV v u ∧ D.rt v H'

def PE (X : Cx) (e : Expr) (t : TE) : Prop :=
  ∀ (pins : List (Addr × Obj)) (s : Shared) (σ : St) (H : Hp) (Q : VK), Inv X pins σ H s → t σ H Q → wpAny (model X.prog X.w) X.A (eval e X.env) (EP X pins σ Q) X.xe s
def PT (X : Cx) (e : Expr) (t : TT) : Prop :=
  ∀ (pins : List (Addr × Obj)) (s : Shared) (σ : St) (H : Hp) (Q : Bool → Hp → Prop), Inv X pins σ H s → t σ H Q → wpAny (model X.prog X.w) X.A (isTrue e X.env (eval e X.env)) (TP X pins σ Q) X.xe s
def PW (X : Cx) (e : Expr) (t : TT) : Prop :=
  ∀ (whole : Sem Value) (pins : List (Addr × Obj)) (s : Shared) (σ : St) (H : Hp) (Q : Bool → Hp → Prop), Inv X pins σ H s → t σ H Q → wpAny (model X.prog X.w) X.A (isTrue e X.env whole) (TP X pins σ Q) X.xe s
theorem PW.pt {X : Cx} {e : Expr} {t : TT} (h : PW X e t) : PT X e t := h _
def PA (X : Cx) (es : List Expr) (t : TA) : Prop :=
  ∀ (pos : Pos) (pins : List (Addr × Obj)) (s : Shared) (σ : St) (H : Hp) (Q : List V → Hp → Prop), Inv X pins σ H s → t σ H Q → wpAny (model X.prog X.w) X.A (spliced (backTo pos (starEach es X.env))) (AP X pins σ Q) X.xe s
def PS (X : Cx) (st : Stmt) (t : TS) : Prop :=
  ∀ (pins : List (Addr × Obj)) (s : Shared) (σ : St) (H : Hp) (D : Ends), Inv X pins σ H s → t D σ H → wpAny (model X.prog X.w) X.A (exec st X.env) (SP X pins D) X.xe s
def PSs (X : Cx) (st : List Stmt) (t : TS) : Prop :=
  ∀ (pins : List (Addr × Obj)) (s : Shared) (σ : St) (H : Hp) (D : Ends), Inv X pins σ H s → t D σ H → wpAny (model X.prog X.w) X.A (execs st X.env) (SP X pins D) X.xe s
theorem thn {α : Type} {t : Sem α} {Q Q' : α → Shared → Prop} {M : Model} {A : Around} {E : Value → Shared → Prop} {s : Shared} (h : wpAny M A t Q E s) (hQ : ∀ a s, Q a s → Q' a s) : wpAny M A t Q' E s := wpAny_mono h hQ fun _ _ x => x
end L2

namespace L2
open PySem PySem.Spec PyProof.Rows
section
variable {X : Cx}

def tVar (i : Nat) : TE := fun σ H Q => ∃ v, σ[i]? = some (some v) ∧ Q v H
def tC (v : V) : TE := fun _ H Q => Q v H
theorem pe_var {i : Nat} {x : Str} {pos : Pos} (hN : X.N[i]? = some x) (hv : Vis X.env.scope x) (hd : (x == ("__debug__" : Str)) = false := by decide) (hcd : (x == ("__classdict__" : Str)) = false := by decide) : PE X (.Name x pos) (tVar i) := by
  intro pins s σ H Q I h
  obtain ⟨v, e, h⟩ := h
  obtain ⟨m, hn, hl⟩ := I.loc
  obtain ⟨u, r, l⟩ := hl i x v hN e hv
  have fin : EP X pins σ Q u s := ⟨v, H, I, r, h⟩
  rcases l with ⟨hk, hm⟩ | ⟨hk, c, hc, hcell⟩
  · exact wpAny_Name (wpAny_loadName_local I.ok.kind hk hn hm fin) hd
  · rcases hk with hk | hk
    · exact wpAny_Name (wpAny_loadName_cell I.ok.kind hk hc hcell fin) hd
    · exact wpAny_Name (wpAny_loadName_free I.ok.kind hk hc hcell fin hcd) hd
theorem pe_int {i j pos} : PE X (.Constant (.int i) j pos) (tC (.int i)) := fun _ _ _ H _ I h => wpAny_Constant_int ⟨.int i, H, I.tok _, ⟨_, rfl⟩, h⟩
theorem pe_bl {b j pos} : PE X (.Constant (.bool b) j pos) (tC (.bl b)) := fun _ _ _ H _ I h => Constant_bool ⟨.bl b, H, I, rfl, h⟩
theorem pe_non {j pos} : PE X (.Constant .none j pos) (tC .non) := fun _ _ _ H _ I h => Constant_none ⟨.non, H, I, rfl, h⟩
theorem pe_str {x j pos} : PE X (.Constant (.str x) j pos) (tC (.str x)) := fun _ _ _ H _ I h => Calls.Constant_str ⟨.str x, H, I.tok _, ⟨_, rfl⟩, h⟩

def Gl (X : Cx) (x : Str) : Prop := X.env.kindOf x = some .globalImplicit
theorem ld_glob {E : Value → Shared → Prop} {pins : List (Addr × Obj)} {s : Shared} {σ : St} {H : Hp} {x : Str} {u : Value} {pos : Pos} {Q : Value → Shared → Prop} (I : Inv X pins σ H s) (hg : Gl X x) (hm : X.mg x = some u) (h : Q u s)
    (hd : (x == ("__debug__" : Str)) = false := by decide) : wpAny (model X.prog X.w) X.A (eval (.Name x pos) X.env) Q E s :=
  Calls.Name_function_global I.ok.kind hg (Calls.loadGlobal_global (by rw [I.ok.glob]; exact I.mod.glob.keeps I.bk) hm h) hd
theorem ld_blt {E : Value → Shared → Prop} {pins : List (Addr × Obj)} {s : Shared} {σ : St} {H : Hp} {x : Str} {u : Value} {pos : Pos} {Q : Value → Shared → Prop} (I : Inv X pins σ H s) (hg : Gl X x) (hm : X.mg x = none) (hv : bootBuiltins x = some u) (h : Q u s)
    (hn : x ≠ "__name__" := by decide) (hd : (x == ("__debug__" : Str)) = false := by decide) : wpAny (model X.prog X.w) X.A (eval (.Name x pos) X.env) Q E s := by
  obtain ⟨mb, h1, h2⟩ := I.mod.blt
  exact Calls.Name_function_global I.ok.kind hg (Calls.loadGlobal_builtin (by rw [I.ok.glob]; exact I.mod.glob.keeps I.bk) hm (by rw [I.ok.blt]; exact h1.keeps I.bk) ((h2 x hn).trans hv) h) hd
theorem pe_glob {x : Str} {v : V} {u : Value} {pos : Pos} (hg : Gl X x) (hm : X.mg x = some u) (r : RelV v u) (hd : (x == ("__debug__" : Str)) = false := by decide) : PE X (.Name x pos) (tC v) :=
  fun _ _ _ H _ I h => ld_glob I hg hm ⟨v, H, I, r, h⟩ hd
theorem pe_bltn {x : Str} {v : V} {u : Value} {pos : Pos} (hg : Gl X x) (hm : X.mg x = none) (hv : bootBuiltins x = some u) (r : RelV v u) (hn : x ≠ "__name__" := by decide) (hd : (x == ("__debug__" : Str)) = false := by decide) : PE X (.Name x pos) (tC v) :=
  fun _ _ _ H _ I h => ld_blt I hg hm hv ⟨v, H, I, r, h⟩ hn hd

def t2I (ta tb : TE) (k : Int → Int → Hp → Prop) : St → Hp → Prop := fun σ H => ta σ H fun x H1 => tb σ H1 fun y H2 => ∃ i j, x = .int i ∧ y = .int j ∧ k i j H2
def tAdd (ta tb : TE) : TE := fun σ H Q => t2I ta tb (fun i j H2 => Q (.int (i + j)) H2) σ H
def tSub (ta tb : TE) : TE := fun σ H Q => t2I ta tb (fun i j H2 => Q (.int (i - j)) H2) σ H
def tMul (ta tb : TE) : TE := fun σ H Q => t2I ta tb (fun i j H2 => (-(2 ^ 64) < i ∧ i < 2 ^ 64) ∧ Q (.int (i * j)) H2) σ H
variable {a b : Expr} {ta tb : TE} {pos : Pos}
def PC (X : Cx) (op : CmpOp) (a b : Expr) (t : TE) : Prop :=
  ∀ (pins : List (Addr × Obj)) (s : Shared) (σ : St) (H : Hp) (Q : VK), Inv X pins σ H s → t σ H Q →
    wpAny (model X.prog X.w) X.A (eval a X.env) (fun v s₁ => wpAny (model X.prog X.w) X.A (eval b X.env) (fun u s₂ => wpAny (model X.prog X.w) X.A (compareOp op v u) (EP X pins σ Q) X.xe s₂) X.xe s₁) X.xe s
def tCmp (p : Int → Int → Bool) (ta tb : TE) : TE := fun σ H Q => t2I ta tb (fun i j H2 => Q (.bl (p i j)) H2) σ H
abbrev tLt : TE → TE → TE := tCmp fun i j => decide (i < j)
abbrev tLe : TE → TE → TE := tCmp fun i j => decide (i ≤ j)
abbrev tGt : TE → TE → TE := tCmp fun i j => decide (j < i)
abbrev tGe : TE → TE → TE := tCmp fun i j => decide (j ≤ i)
abbrev tEqI : TE → TE → TE := tCmp fun i j => decide (i = j)
abbrev tNeI : TE → TE → TE := tCmp fun i j => !decide (i = j)
def tIsN (ta : TE) : TE := fun σ H Q => ta σ H fun x H1 => Q (.bl (decide (x = .non))) H1
def tNotN (ta : TE) : TE := fun σ H Q => ta σ H fun x H1 => Q (.bl (!decide (x = .non))) H1
def tB (t : TE) : TT := fun σ H Q => t σ H fun x H1 => ∃ c, x = .bl c ∧ Q c H1
theorem pt_val {e : Expr} {t : TE} (h : PE X e t) (he : ∀ whole, isTrue e X.env whole = (do let v ← whole; standAt e.pos; holding [v] (truthy v)) := by intro _; rfl) : PT X e (tB t) := by
  intro pins s σ H Q I hw
  refine isTrue_plain (thn (h pins s σ H _ I hw) fun v s1 ⟨x, H1, I1, r1, q1⟩ => ?_) (he _)
  obtain ⟨d, rfl, q⟩ := q1
  cases r1
  exact wpAny_truthy_bool ⟨H1, I1, q⟩

variable {tA tB' : TT} {rest : List Expr}
def tAnd (t u : TT) : TT := fun σ H Q => t σ H fun c H1 => if c = true then u σ H1 Q else Q false H1
def tOr (t u : TT) : TT := fun σ H Q => t σ H fun c H1 => if c = true then Q true H1 else u σ H1 Q
def tNot (t : TT) : TT := fun σ H Q => t σ H fun c H1 => Q (!c) H1
theorem pw_and1 (ha : PT X a tA) : PW X (.BoolOp .And [a] pos) tA := by
  intro wh pins s σ H Q I h
  refine isTrue_and (thn (ha pins s σ H Q I h) fun c s1 e => ?_)
  cases c with
  | true => exact isTrue_and_nil e
  | false => exact e
theorem pw_or1 (ha : PT X a tA) : PW X (.BoolOp .Or [a] pos) tA := by
  intro wh pins s σ H Q I h
  refine isTrue_or (thn (ha pins s σ H Q I h) fun c s1 e => ?_)
  cases c with
  | false => exact isTrue_or_nil e
  | true => exact e
theorem pw_and (ha : PT X a tA) (hb : PW X (.BoolOp .And (b :: rest) pos) tB') : PW X (.BoolOp .And (a :: b :: rest) pos) (tAnd tA tB') := by
  intro wh pins s σ H Q I h
  refine isTrue_and (thn (ha pins s σ H _ I h) fun c s1 ⟨H1, I1, q1⟩ => ?_)
  cases c with
  | true => exact hb wh pins s1 σ H1 Q I1 q1
  | false => exact ⟨H1, I1, q1⟩
theorem pw_or (ha : PT X a tA) (hb : PW X (.BoolOp .Or (b :: rest) pos) tB') : PW X (.BoolOp .Or (a :: b :: rest) pos) (tOr tA tB') := by
  intro wh pins s σ H Q I h
  refine isTrue_or (thn (ha pins s σ H _ I h) fun c s1 ⟨H1, I1, q1⟩ => ?_)
  cases c with
  | true => exact ⟨H1, I1, q1⟩
  | false => exact hb wh pins s1 σ H1 Q I1 q1
theorem pt_not (ha : PT X a tA) : PT X (.UnaryOp .Not a pos) (tNot tA) := by
  intro pins s σ H Q I h
  exact isTrue_not (ha pins s σ H (fun c H1 => Q (!c) H1) I h)
def tAndV (ta tb : TE) : TE := fun σ H Q => ta σ H fun x H1 => ∃ c, x = .bl c ∧ if c = true then tb σ H1 Q else Q (.bl false) H1
def tOrV (ta tb : TE) : TE := fun σ H Q => ta σ H fun x H1 => ∃ c, x = .bl c ∧ if c = true then Q (.bl true) H1 else tb σ H1 Q
def tNotV (ta : TE) : TE := fun σ H Q => ta σ H fun x H1 => ∃ c, x = .bl c ∧ Q (.bl (!c)) H1
theorem pe_one {op} {t : TE} (h : PE X a t) : PE X (.BoolOp op [a] pos) t := fun pins s σ H Q I hw => BoolOp_one (h pins s σ H Q I hw)
theorem pe_and (ha : PE X a ta) (hb : PE X (.BoolOp .And (b :: rest) pos) tb) : PE X (.BoolOp .And (a :: b :: rest) pos) (tAndV ta tb) := by
  intro pins s σ H Q I h
  refine BoolOp_and (thn (ha pins s σ H _ I h) fun v s1 ⟨x, H1, I1, r1, q1⟩ => ?_)
  obtain ⟨c, rfl, q1⟩ := q1
  cases r1
  refine wpAny_truthy_bool ?_
  cases c with
  | true => exact hb pins s1 σ H1 Q I1 q1
  | false => exact ⟨.bl false, H1, I1, rfl, q1⟩
theorem pe_or (ha : PE X a ta) (hb : PE X (.BoolOp .Or (b :: rest) pos) tb) : PE X (.BoolOp .Or (a :: b :: rest) pos) (tOrV ta tb) := by
  intro pins s σ H Q I h
  refine BoolOp_or (thn (ha pins s σ H _ I h) fun v s1 ⟨x, H1, I1, r1, q1⟩ => ?_)
  obtain ⟨c, rfl, q1⟩ := q1
  cases r1
  refine wpAny_truthy_bool ?_
  cases c with
  | false => exact hb pins s1 σ H1 Q I1 q1
  | true => exact ⟨.bl true, H1, I1, rfl, q1⟩
theorem pe_not (ha : PE X a ta) : PE X (.UnaryOp .Not a pos) (tNotV ta) := by
  intro pins s σ H Q I h
  refine UnaryOp_ (thn (ha pins s σ H _ I h) fun v s1 ⟨x, H1, I1, r1, q1⟩ => ?_)
  obtain ⟨c, rfl, q1⟩ := q1
  cases r1
  exact not_of (wpAny_truthy_bool ⟨.bl (!c), H1, I1, rfl, q1⟩)
def tIf (t : TT) (ta tb : TE) : TE := fun σ H Q => t σ H fun c H1 => if c = true then ta σ H1 Q else tb σ H1 Q
end
end L2

namespace L2
open PySem PySem.Spec PyProof.Rows

def SqL (K : PySem.W.Frag) (H : Hp) (a : Addr) (xs : List V) : Prop :=
  Rd H a (.lst xs) ∨
    ∃ (o : Obj) (its : Array Value) (n : Nat), K.lookup a = some o ∧ o.cls = .type "list" ∧ o.dict = none ∧ o.data = .seq its n ∧ its.size ≤ sizeLine ∧ Vals xs its.toList
def SqT (K : PySem.W.Frag) (H : Hp) (a : Addr) (xs : List V) : Prop :=
  Rd H a (.tup xs) ∨
    ∃ (o : Obj) (its : Array Value) (n : Nat), K.lookup a = some o ∧ o.cls = .type "tuple" ∧ o.data = .seq its n ∧ its.size ≤ sizeLine ∧ Vals xs its.toList
def absV : Value → Option V
  | .none => some .non
  | .bool b => some (.bl b)
  | .int i _ => some (.int i)
  | .str x _ => some (.str x)
  | .bytes b _ => some (.byt b)
  | .float b _ => some (.flt b)
  | .ref a => some (.ref a)
  | .type n => some (.ty n)
  | _ => none
theorem RelV.abs {x : V} {u : Value} (r : RelV x u) : absV u = some x := by
  cases x with
  | non => cases r; rfl
  | bl _ => cases r; rfl
  | int _ => obtain ⟨t, rfl⟩ := r; rfl
  | str _ => obtain ⟨t, rfl⟩ := r; rfl
  | byt _ => obtain ⟨t, rfl⟩ := r; rfl
  | flt _ => obtain ⟨t, rfl⟩ := r; rfl
  | ref _ => cases r; rfl
  | ty _ => cases r; rfl
theorem RelV.inj {x y : V} {u : Value} (r : RelV x u) (q : RelV y u) : x = y := Option.some.inj (r.abs.symm.trans q.abs)
theorem Vals.inj : ∀ {xs ys : List V} {us : List Value}, Vals xs us → Vals ys us → xs = ys
  | _, _, _, .nil, .nil => rfl
  | _, _, _, .cons r t, .cons r' t' => by rw [r.inj r', Vals.inj t t']
section
variable {X : Cx} {pins : List (Addr × Obj)} {σ : St} {H : Hp} {s : Shared} {a : Addr} {xs ys : List V}
theorem SqL.of {K : PySem.W.Frag} (h : H a = some (.lst xs)) : SqL K H a xs := .inl (.inl h)
theorem SqT.of {K : PySem.W.Frag} (h : H a = some (.tup xs)) : SqT K H a xs := .inl (.inl h)
theorem Inv.list (I : Inv X pins σ H s) (h : SqL X.K H a xs) : ∃ its : List Value, Vals xs its ∧ PlainL s.heap a its.toArray ∧ xs.length ≤ sizeLine := by
  rcases h with h | ⟨o, its, n, hk, hc, hd, hs, hz, r⟩
  · obtain ⟨z, its, n, r, e⟩ := h.ok I.hok
    exact ⟨its, r, ⟨_, n, e, rfl, rfl, rfl⟩, z⟩
  · refine ⟨its.toList, r, ⟨o, n, I.kIn a o hk, hc, hd, by simpa using hs⟩, ?_⟩
    have e := r.length
    simp only [Array.length_toList] at e
    omega
theorem Inv.tuple (I : Inv X pins σ H s) (h : SqT X.K H a xs) : ∃ its : List Value, Vals xs its ∧ IsTup s.heap a its.toArray ∧ xs.length ≤ sizeLine := by
  rcases h with h | ⟨o, its, n, hk, hc, hs, hz, r⟩
  · obtain ⟨z, its, r, p⟩ := h.ok I.hok
    exact ⟨its, r, p, z⟩
  · refine ⟨its.toList, r, ⟨o, I.kIn a o hk, hc, n, by simpa using hs⟩, ?_⟩
    have e := r.length
    simp only [Array.length_toList] at e
    omega
theorem Inv.list_inj (I : Inv X pins σ H s) (h : SqL X.K H a xs) (h' : SqL X.K H a ys) : xs = ys := by
  obtain ⟨its, r, ⟨o, n, e, _, _, d⟩, _⟩ := I.list h
  obtain ⟨its', r', ⟨o', n', e', _, _, d'⟩, _⟩ := I.list h'
  rw [e] at e'; cases e'
  rw [d] at d'
  injection d' with d1 _
  have : its = its' := by simpa using congrArg Array.toList d1
  subst this
  exact r.inj r'
theorem Inv.tuple_inj (I : Inv X pins σ H s) (h : SqT X.K H a xs) (h' : SqT X.K H a ys) : xs = ys := by
  obtain ⟨its, r, ⟨o, e, _, n, d⟩, _⟩ := I.tuple h
  obtain ⟨its', r', ⟨o', e', _, n', d'⟩, _⟩ := I.tuple h'
  rw [e] at e'; cases e'
  rw [d] at d'
  injection d' with d1 _
  have : its = its' := by simpa using congrArg Array.toList d1
  subst this
  exact r.inj r'
end

abbrev Cx.wish (X : Cx) (E : Value → Shared → Prop) : Cx := { X with xe := E }
abbrev Cx.nox (X : Cx) : Cx := X.wish fun _ _ => False
theorem Cx.Ok.wish {X : Cx} (ok : X.Ok) (E : Value → Shared → Prop) : (X.wish E).Ok :=
  ⟨ok.mod, ok.kind, ok.glob, ok.blt, ok.above, ok.inj, ok.has, ok.cab, ok.hd, ok.frames, ok.stk, ok.exf, ok.bs, ok.bsz, ok.noex, ok.exfs, ok.funs, ok.frf⟩
theorem Cx.Ok.unwish {X : Cx} {E : Value → Shared → Prop} (ok : (X.wish E).Ok) : X.Ok :=
  ⟨ok.mod, ok.kind, ok.glob, ok.blt, ok.above, ok.inj, ok.has, ok.cab, ok.hd, ok.frames, ok.stk, ok.exf, ok.bs, ok.bsz, ok.noex, ok.exfs, ok.funs, ok.frf⟩
section
variable {X : Cx} {pins : List (Addr × Obj)} {σ : St} {H : Hp} {s : Shared} {E : Value → Shared → Prop}
theorem Inv.wish (I : Inv X pins σ H s) (E : Value → Shared → Prop) : Inv (X.wish E) pins σ H s := ⟨I.ok.wish E, I.os, I.bare, I.base, I.loc, I.cell, I.free, I.freeC, I.pin, I.hok, I.len⟩
theorem Inv.unwish (I : Inv (X.wish E) pins σ H s) : Inv X pins σ H s := ⟨I.ok.unwish, I.os, I.bare, I.base, I.loc, I.cell, I.free, I.freeC, I.pin, I.hok, I.len⟩
theorem SP.unwish {D : Ends} {f : Flow} {s' : Shared} (h : SP (X.wish E) pins D f s') : SP X pins D f s' := by
  cases f with
  | next => obtain ⟨σ', H', I, q⟩ := h; exact ⟨σ', H', I.unwish, q⟩
  | brk => obtain ⟨σ', H', I, q⟩ := h; exact ⟨σ', H', I.unwish, q⟩
  | cont => obtain ⟨σ', H', I, q⟩ := h; exact ⟨σ', H', I.unwish, q⟩
  | ret u => obtain ⟨v, σ', H', I, r, q⟩ := h; exact ⟨v, σ', H', I.unwish, r, q⟩
theorem PSs.nox {st : List Stmt} {t : TS} (h : PSs X.nox st t) : PSs X st t := fun pins s σ H D I hw =>
  wpAny_mono (h pins s σ H D (I.wish _) hw) (fun _ _ q => q.unwish) fun _ _ z => False.elim z
end

section
variable {X : Cx} {st : Stmt} {rest : List Stmt} {t u : TS} {e : Expr} {te : TE} {pos : Pos}
def tNext : TS := fun D σ H => D.nx σ H
def tSeq (t u : TS) : TS := fun D σ H => t { D with nx := u D } σ H
theorem pss_nil : PSs X [] tNext := fun _ _ σ H _ I h => wpAny_execs_nil ⟨σ, H, I, h⟩
theorem pss_cons (h1 : PS X st t) (h2 : PSs X rest u) : PSs X (st :: rest) (tSeq t u) := by
  intro pins s σ H D I h
  refine wpAny_execs_cons (thn (h1 pins s σ H { D with nx := u D } I h) fun f s1 q => ?_)
  cases f with
  | next =>
    obtain ⟨σ', H', I', q⟩ := q
    exact h2 pins s1 σ' H' D I' q
  | ret v => exact q
  | brk => exact q
  | cont => exact q
theorem pss_one (h1 : PS X st t) : PSs X [st] t := by
  intro pins s σ H D I h
  refine wpAny_execs_cons (thn (h1 pins s σ H D I h) fun f s1 q => ?_)
  cases f with
  | next => exact wpAny_execs_nil q
  | ret v => exact q
  | brk => exact q
  | cont => exact q
def tBreak : TS := fun D σ H => D.bk σ H
def tCont : TS := fun D σ H => D.ct σ H
theorem Inv.quiet {pins : List (Addr × Obj)} {σ : St} {H : Hp} {s : Shared} (I : Inv X pins σ H s) : interactive X.env = false := by simp [interactive, I.ok.kind]
def tDrop (te : TE) : TS := fun D σ H => te σ H fun _ H1 => D.nx σ H1
theorem ps_expr (he : PE X e te) (hs : swapsWith e none pos.line X.env = pure false := by rfl) : PS X (.Expr e pos) (tDrop te) := by
  intro pins s σ H D I h
  exact wpAny_Expr_any (thn (he pins s σ H _ I h) fun v s1 ⟨x, H1, I1, r1, q1⟩ => ⟨σ, H1, I1, q1⟩) I.quiet hs
def tRet (te : TE) : TS := fun D σ H => te σ H D.rt
theorem ps_ret (he : PE X e te) : PS X (.Return (some e) pos) (tRet te) := by
  intro pins s σ H D I h
  exact wpAny_Return_some (thn (he pins s σ H _ I h) fun v s1 ⟨x, H1, I1, r1, q1⟩ => ⟨x, σ, H1, I1, r1, q1⟩)
def tRetN : TS := fun D _ H => D.rt .non H
def tIfS (c : TT) (t u : TS) : TS := fun D σ H => c σ H fun b H1 => if b = true then t D σ H1 else u D σ H1
theorem ps_if {c : Expr} {a b : List Stmt} {tc : TT} (hc : PT X c tc) (ha : PSs X a t) (hb : PSs X b u) : PS X (.If c a b pos) (tIfS tc t u) := by
  intro pins s σ H D I h
  refine wpAny_If (thn (hc pins s σ H _ I h) fun d s1 ⟨H1, I1, q1⟩ => ?_)
  cases d with
  | true => exact ha pins s1 σ H1 D I1 q1
  | false => exact hb pins s1 σ H1 D I1 q1
def tNever : TS := fun _ _ _ => False
end

abbrev TG := V → St → Hp → (St → Hp → Prop) → Prop
abbrev TGs := List V → St → Hp → (St → Hp → Prop) → Prop
def PG (X : Cx) (target : Expr) (t : TG) : Prop :=
  ∀ (pins : List (Addr × Obj)) (s : Shared) (σ : St) (H : Hp) (v : V) (u : Value) (Q : St → Hp → Prop), Inv X pins σ H s → RelV v u → t v σ H Q →
    wpAny (model X.prog X.w) X.A (assign target X.env u) (fun _ s' => ∃ σ' H', Inv X pins σ' H' s' ∧ Q σ' H') X.xe s
def PGs (X : Cx) (ts : List Expr) (t : TGs) : Prop :=
  ∀ (pins : List (Addr × Obj)) (s : Shared) (σ : St) (H : Hp) (vs : List V) (us : List Value) (Q : St → Hp → Prop), Inv X pins σ H s → Vals vs us → t vs σ H Q →
    wpAny (model X.prog X.w) X.A (assignInOrder ((assignEach ts X.env).map (·.2)) us) (fun _ s' => ∃ σ' H', Inv X pins σ' H' s' ∧ Q σ' H') X.xe s
abbrev TSet := V → V → V → Hp → (Hp → Prop) → Prop
def PSet (X : Cx) (t : TSet) : Prop :=
  ∀ (pins : List (Addr × Obj)) (s : Shared) (σ : St) (H : Hp) (o i v : V) (ov iv u : Value) (Q : Hp → Prop), Inv X pins σ H s → RelV o ov → RelV i iv → RelV v u → t o i v H Q →
    wpAny (model X.prog X.w) X.A (setItem ov iv u) (fun _ s' => ∃ H', Inv X pins σ H' s' ∧ Q H') X.xe s
abbrev TIp := V → V → Hp → VK → Prop
def PIp (X : Cx) (op : Operator) (t : TIp) : Prop :=
  ∀ (pins : List (Addr × Obj)) (s : Shared) (σ : St) (H : Hp) (x y : V) (v u : Value) (Q : VK), Inv X pins σ H s → RelV x v → RelV y u → t x y H Q →
    wpAny (model X.prog X.w) X.A (inplaceOp op v u) (EP X pins σ Q) X.xe s
section
variable {X : Cx} {pos : Pos}
def gName (i : Nat) : TG := fun v σ H Q => Q (σ.set i (some v)) H
theorem pg_name {i : Nat} {x : Str} (hN : X.N.Nodup) (hi : X.N[i]? = some x) (hx : Loc X.env.scope x) (hf : X.fn x = true ∨ X.env.scope.names.lookup x = some .local := by first | exact .inl rfl | exact .inr rfl | assumption) : PG X (.Name x pos) (gName i) := by
  intro pins s σ H v u Q I r h
  exact wpAny_assign_Name (store_ok I hN hi hx r (fun s' I' => ⟨_, H, I', h⟩) hf)
def gNil : TGs := fun vs σ H Q => vs = [] ∧ Q σ H
def gCons (t : TG) (u : TGs) : TGs := fun vs σ H Q => ∃ v r, vs = v :: r ∧ t v σ H fun σ' H' => u r σ' H' Q
theorem pgs_nil : PGs X [] gNil := by
  intro pins s σ H vs us Q I r h
  obtain ⟨e, h⟩ := h
  subst e
  cases r
  exact assignInOrder_nil ⟨σ, H, I, h⟩
theorem pgs_cons {e : Expr} {es : List Expr} {t : TG} {u : TGs} (h1 : PG X e t) (h2 : PGs X es u)
    (hs : (assignEach (e :: es) X.env).map (·.2) = assign e X.env :: (assignEach es X.env).map (·.2) := by rfl) : PGs X (e :: es) (gCons t u) := by
  intro pins s σ H vs us Q I r h
  obtain ⟨v, vr, e1, h⟩ := h
  subst e1
  cases r with
  | cons r rr =>
    rw [hs]
    refine assignInOrder_cons (thn (h1 pins s σ H _ _ _ I r h) fun _ s1 ⟨σ1, H1, I1, q1⟩ => ?_)
    exact h2 pins s1 σ1 H1 _ _ Q I1 rr q1
def gTup (K : PySem.W.Frag) (n : Nat) (t : TGs) : TG := fun v σ H Q => ∃ a xs, v = .ref a ∧ SqT K H a xs ∧ xs.length = n ∧ t xs σ H Q
theorem pg_tup {es : List Expr} {k : Nat} {t : TGs} {n : Nat} (hc : X.calm = true) (h : PGs X es t)
    (hn : (assignEach es X.env).length = n := by rfl) (hst : (assignEach es X.env).findIdx? (·.1) = none := by rfl) : PG X (.Tuple es k pos) (gTup X.K n t) := by
  intro pins s σ H v u Q I r hw
  obtain ⟨a, xs, e1, hq, hl, hw⟩ := hw
  subst e1
  cases r
  obtain ⟨its, rv, ht, hz⟩ := I.tuple hq
  refine assign_Tuple_tuple (I.ok.hd hc) ht (by simp [hn, ← hl, rv.length]) hst fun h' hx => ?_
  have I1 : Inv X pins σ H { s with heap := h' } := I.kept (t' := s.toks) fun b o e => hx b o (Nat.ne_of_lt (Heap.lt_size e)) e
  exact h pins _ σ H xs _ Q I1 (by simpa using rv) hw
def gSub (to ti : TE) (t : TSet) : TG := fun v σ H Q => to σ H fun o H1 => ti σ H1 fun i H2 => t o i v H2 fun H3 => Q σ H3
theorem pg_sub {o i : Expr} {to ti : TE} {t : TSet} (ho : PE X o to) (hi : PE X i ti) (hs : PSet X t)
    (ha : ∀ v, assign (.Subscript o i pos) X.env v = (do
      let ov ← holding [v] (eval o X.env)
      let iv ← holding [v, ov] (eval i X.env)
      standAt pos
      holding [v, ov, iv] (setItem ov iv v)
      release [v, ov, iv] []) := by intro _; rfl) : PG X (.Subscript o i pos) (gSub to ti t) := by
  intro pins s σ H v u Q I r h
  rw [ha]
  refine wpAny_bind (wpAny_holding (thn (ho pins s σ H _ I h) fun ov s1 ⟨x, H1, I1, r1, q1⟩ => ?_))
  refine wpAny_bind (wpAny_holding (thn (hi pins s1 σ H1 _ I1 q1) fun iv s2 ⟨y, H2, I2, r2, q2⟩ => ?_))
  refine wpAny_bind (wpAny_standAt (wpAny_bind (wpAny_holding (thn (hs pins s2 σ H2 x y v ov iv u _ I2 r1 r2 r q2) fun _ s3 ⟨H3, I3, q3⟩ => ?_))))
  exact wpAny_release ⟨σ, H3, I3, q3⟩
def tAsg (te : TE) (g : TG) : TS := fun D σ H => te σ H fun x H1 => g x σ H1 D.nx
theorem ps_asg {tg e : Expr} {te : TE} {g : TG} (he : PE X e te) (hg : PG X tg g) (hs : swapsWithSole [tg] e pos.line X.env = pure false := by rfl) (hw : swappedStores [tg] e X.env = pure none := by rfl)
    (h1 : (assignEach [tg] X.env).map (·.2) = [assign tg X.env] := by rfl) : PS X (.Assign [tg] e pos) (tAsg te g) := by
  intro pins s σ H D I h
  refine wpAny_Assign_stores (thn (he pins s σ H _ I h) fun v s1 ⟨x, H1, I1, r1, q1⟩ => ?_) hs hw
  rw [h1]
  exact thn (hg pins s1 σ H1 x v _ I1 r1 q1) fun _ s2 q => q
theorem ps_set {i : Nat} {x : Str} {e : Expr} {te : TE} {pos' : Pos} (hN : X.N.Nodup) (hi : X.N[i]? = some x) (hx : Loc X.env.scope x) (he : PE X e te) (hs : swapsWith e (some (.Name x pos')) pos.line X.env = pure false := by rfl) (hf : X.fn x = true ∨ X.env.scope.names.lookup x = some .local := by first | exact .inl rfl | exact .inr rfl | assumption) :
    PS X (.Assign [.Name x pos'] e pos) (tAsg te (gName i)) := by
  intro pins s σ H D I h
  refine wpAny_Assign_Name (thn (he pins s σ H _ I h) fun v s1 ⟨y, H1, I1, r1, q1⟩ => ?_) hs
  exact store_ok I1 hN hi hx r1 (fun s2 I2 => ⟨_, H1, I2, q1⟩) hf
def tPar (i j : Nat) (ta : TA) : TS := fun D σ H => ta σ H fun vs H1 => ∃ v w, vs = [v, w] ∧ D.nx ((σ.set i (some v)).set j (some w)) H1
theorem ps_par {i j : Nat} {x y : Str} {a b : Expr} {ta : TA} {px py pt : Pos} {kt k2 pt2} (hc : X.calm = true) (hN : X.N.Nodup) (hi : X.N[i]? = some x) (hj : X.N[j]? = some y) (hij : i ≠ j)
    (hx : X.env.scope.names.lookup x = some .local) (hy : X.env.scope.names.lookup y = some .local) (ha : PA X [a, b] ta)
    (hw : swappedStores [.Tuple [.Name x px, .Name y py] kt pt] (.Tuple [a, b] k2 pt2) X.env = pure (some [x, y]))
    (hs : swapsWithSole [.Tuple [.Name x px, .Name y py] kt pt] (.Tuple [a, b] k2 pt2) pos.line X.env = pure false := by rfl) :
    PS X (.Assign [.Tuple [.Name x px, .Name y py] kt pt] (.Tuple [a, b] k2 pt2) pos) (tPar i j ta) := by
  intro pins s σ H D I h
  rw [exec_Assign_arm]
  refine wpAny_bind (wpAny_standAt ?_)
  rw [hs]
  refine wpAny_bind (wpAny_pure ?_)
  rw [if_neg (by decide)]
  refine wpAny_bind (Tuple_ (thn (ha _ pins s σ H _ I h) fun us s1 ⟨vs, H1, I1, r1, q1⟩ => ?_))
  obtain ⟨v, w, e1, q1⟩ := q1
  subst e1
  obtain ⟨u1, u2, rfl, rv, rw'⟩ : ∃ u1 u2, us = [u1, u2] ∧ RelV v u1 ∧ RelV w u2 := by
    cases r1 with
    | cons p q =>
      cases q with
      | cons p' q' =>
        cases q'
        exact ⟨_, _, rfl, p, p'⟩
  refine wpAny_newObj_type ?_ (by show 2 ≤ sizeLine; decide)
  have I2 : Inv X pins σ H1 { s1 with heap := s1.heap.push { cls := .type "tuple", data := .seq [u1, u2].toArray } } := I1.kept (t' := s1.toks) fun b o e => Heap.get?_push_of_some _ e
  rw [hw]
  refine wpAny_bind (wpAny_pure ?_)
  show wpAny (model X.prog X.w) X.A (do rule "assign.swapped-stores"; let items ← unpackItems (.ref s1.heap.objs.size) 2 none; assignInOrder [fun v => bindName X.env y v, fun v => bindName X.env x v] items.reverse; pure Flow.next) _ _ _
  refine wpAny_bind (wpAny_rule (wpAny_bind (unpackItems_tuple (items := #[u1, u2]) (I.ok.hd hc) (IsTup.new s1.heap _) fun h' hx' => ?_)))
  have I3 := I2.kept (h' := h') (t' := s1.toks) fun b o e => hx' b o (Nat.ne_of_lt (Heap.lt_size e)) e
  show wpAny _ _ (assignInOrder [fun v => bindName X.env y v, fun v => bindName X.env x v] [u2, u1] >>= fun _ => pure Flow.next) _ _ _
  refine wpAny_bind (assignInOrder_cons (wpAny_bindName (store_ok I3 hN hj (.inl hy) rw' (fun s2 I4 => ?_) (.inr hy))))
  refine assignInOrder_cons (wpAny_bindName (store_ok I4 hN hi (.inl hx) rv (fun s3 I5 => assignInOrder_nil (wpAny_pure ?_)) (.inr hx)))
  rw [List.set_comm _ _ (Ne.symm hij)] at I5
  exact ⟨_, H1, I5, q1⟩
def tAug (i : Nat) (te : TE) (ti : TIp) : TS := fun D σ H => ∃ x, σ[i]? = some (some x) ∧ te σ H fun y H1 => ti x y H1 fun z H2 => D.nx (σ.set i (some z)) H2
def tAugS (to ti te : TE) (tget : V → V → Hp → VK → Prop) (tip : TIp) (tset : TSet) : TS := fun D σ H => to σ H fun o H1 => ti σ H1 fun i H2 => tget o i H2 fun x H3 => te σ H3 fun y H4 => tip x y H4 fun z H5 => tset o i z H5 fun H6 => D.nx σ H6
def PGet (X : Cx) (t : V → V → Hp → VK → Prop) : Prop :=
  ∀ (pins : List (Addr × Obj)) (s : Shared) (σ : St) (H : Hp) (o i : V) (ov iv : Value) (Q : VK), Inv X pins σ H s → RelV o ov → RelV i iv → t o i H Q →
    wpAny (model X.prog X.w) X.A (getItem ov iv) (EP X pins σ Q) X.xe s
def ipI (f : Int → Int → Int) : TIp := fun x y H Q => ∃ i j, x = .int i ∧ y = .int j ∧ Q (.int (f i j)) H
end

section
variable {X : Cx} {pos : Pos}
def tWhile (c : TT) (tb : TS) : TS := fun D σ H => ∃ W : Nat → St → Hp → Prop, (∃ m, W m σ H) ∧ ∀ m σ H, W m σ H →
  c σ H fun b H1 => if b = true then ∃ N : St → Hp → Prop, (∀ σ' H', N σ' H' → ∃ m', m' < m ∧ W m' σ' H') ∧ tb { D with nx := N, ct := N, bk := D.nx } σ H1 else D.nx σ H1
theorem ps_while {c : Expr} {body : List Stmt} {tc : TT} {tb : TS} (hp : PassesOwn (model X.prog X.w) X.A X.env X.xe) (hc : PT X c tc) (hb : PSs X body tb) : PS X (.While c body [] pos) (tWhile tc tb) := by
  intro pins s σ H D I h
  obtain ⟨W, ⟨m0, w0⟩, turn⟩ := h
  refine wpAny_While (codeAny_whileLoop (fun n s' => ∃ σ' H', Inv X pins σ' H' s' ∧ W n σ' H') ?_ m0 ⟨σ, H, I, w0⟩)
  rintro n s1 ⟨σ1, H1, I1, w1⟩
  refine wpAny_passesOwn hp (thn (hc pins s1 σ1 H1 _ I1 (turn n σ1 H1 w1)) fun b s2 ⟨H2, I2, q2⟩ => ?_)
  cases b with
  | true =>
    obtain ⟨N, hN, q2⟩ := q2
    rw [if_pos rfl]
    refine wpAny_passesOwn hp (thn (hb pins s2 σ1 H2 _ I2 q2) fun f s3 q3 => ?_)
    cases f with
    | next =>
      obtain ⟨σ3, H3, I3, n3⟩ := q3
      obtain ⟨m', hm, w3⟩ := hN σ3 H3 n3
      exact ⟨m', hm, σ3, H3, I3, w3⟩
    | cont =>
      obtain ⟨σ3, H3, I3, n3⟩ := q3
      obtain ⟨m', hm, w3⟩ := hN σ3 H3 n3
      exact ⟨m', hm, σ3, H3, I3, w3⟩
    | brk => exact q3
    | ret v => exact q3
  | false =>
    rw [if_neg Bool.false_ne_true]
    exact wpAny_execs_nil ⟨σ1, H2, I2, q2⟩
end

structure It where
  go : Nat → Hp → Prop
  yld : Nat → Hp → V → Hp → Prop
  stop : Nat → Hp → Prop
def FpOk (X : Cx) (pins : List (Addr × Obj)) (H : Hp) (b : Addr) : Prop :=
  H b = none ∧ b ≠ X.env.locals ∧ b ∉ X.fs ∧ (b ∈ X.ex ∨ X.s₀.heap.objs.size ≤ b) ∧ (∀ x c, X.env.cells.lookup x = some c → c ≠ b) ∧ ∀ p ∈ X.pn ++ pins, p.1 ≠ b
theorem Inv.fpOk {X : Cx} {pins : List (Addr × Obj)} {σ : St} {H H' : Hp} {s : Shared} {b : Addr} (I : Inv X pins σ H s) (hb : s.heap.objs.size ≤ b) (hn : H' b = none) : FpOk X pins H' b := by
  refine ⟨hn, Nat.ne_of_gt (Nat.lt_of_lt_of_le I.lt hb), I.nofs hb, .inr (Nat.le_trans I.sz hb), fun x c e z => ?_, fun p hp z => ?_⟩
  · obtain ⟨v, q⟩ := I.cell x c e
    exact absurd (Nat.lt_of_lt_of_le q.lt (by rw [z]; exact hb)) (Nat.lt_irrefl _)
  · exact absurd (Nat.lt_of_lt_of_le (Heap.lt_size (I.pin p hp).1) (by rw [z]; exact hb)) (Nat.lt_irrefl _)
structure Turn (P : Program) (w : World) (K : PySem.W.Frag) (tg : Expr) (J : It) (fp : List Addr) (it : Addr) (tn : Nat → Heap → Prop) : Prop where
  mem : it ∈ fp
  obj : ∀ i h, tn i h → ∀ b ∈ fp, ∃ o, h.get? b = some o ∧ ∀ v, o.data ≠ .cell v
  keep : ∀ i h h', tn i h → (∀ b ∈ fp, ∀ o, h.get? b = some o → h'.get? b = some o) → tn i h'
  item : ∀ (X : Cx), X.prog = P → X.w = w → X.K = K → X.calm = true → ∀ (i : Nat) (pins : List (Addr × Obj)) (s : Shared) (σ : St) (H : Hp) (E : Value → Shared → Prop), Inv X pins σ H s → (∀ b ∈ fp, FpOk X pins H b) → tn i s.heap → J.go i H →
    wpAny (model P w) X.A (pyNext (.ref it)) (fun r s1 => ∃ u, r = some u ∧
      wpAny (model P w) X.A (letOwnedTupleGo tg (.ref it) u) (fun _ s2 => ∃ x H', Inv X pins σ H' s2 ∧ RelV x u ∧ J.yld i H x H' ∧ tn (i + 1) s2.heap ∧ ∀ b ∈ fp, H' b = none) E s1) E s
  done : ∀ (X : Cx), X.prog = P → X.w = w → X.K = K → X.calm = true → ∀ (i : Nat) (pins : List (Addr × Obj)) (s : Shared) (σ : St) (H : Hp) (E : Value → Shared → Prop), Inv X pins σ H s → (∀ b ∈ fp, FpOk X pins H b) → tn i s.heap → J.stop i H →
    wpAny (model P w) X.A (pyNext (.ref it)) (fun r s1 => r = none ∧ Inv X pins σ H s1) E s
  self : ∀ (A : Around) (i : Nat) (s : Shared) (Q : Value → Shared → Prop) (E : Value → Shared → Prop), tn i s.heap → Q (.ref it) s → wpAny (model P w) A (pyIter (.ref it)) Q E s
abbrev TI := St → Hp → (It → Hp → Prop) → Prop
def PIE (X : Cx) (pins : List (Addr × Obj)) (σ : St) (tg : Expr) (R : It → Hp → Prop) (itv : Value) (s2 : Shared) : Prop :=
  ∃ (it : Addr) (fp : List Addr) (tn : Nat → Heap → Prop) (J : It) (H' : Hp), itv = .ref it ∧ Inv X pins σ H' s2 ∧ Turn X.prog X.w X.K tg J fp it tn ∧ tn 0 s2.heap ∧ (∀ b ∈ fp, FpOk X pins H' b) ∧ R J H'
def PI (X : Cx) (tg iter : Expr) (wi : TI) : Prop :=
  ∀ (pins : List (Addr × Obj)) (s : Shared) (σ : St) (H : Hp) (R : It → Hp → Prop), Inv X pins σ H s → wi σ H R →
    wpAny (model X.prog X.w) X.A (eval iter X.env) (fun v s1 => wpAny (model X.prog X.w) X.A (pyIter v) (PIE X pins σ tg R) X.xe s1) X.xe s

theorem go_of {M : Model} {A : Around} {E : Value → Shared → Prop} {s : Shared} {tg : Expr} {it : Addr} {u : Value} {o : Obj} {n : String} {vs : Array Value} {Q : Unit → Shared → Prop} (ho : s.heap.get? it = some o) (hc : o.cls = .type n) (hd : o.data = .fields vs)
    (hn : ["enumerate", "zip", "dict_itemiterator", "dict_reverseitemiterator", "odict_iterator", "itertools.zip_longest", "itertools.pairwise"].contains n = false) (hQ : Q () s) : wpAny M A (letOwnedTupleGo tg (.ref it) u) Q E s := by
  unfold letOwnedTupleGo
  cases tg <;> first
    | exact wpAny_pure hQ
    | (cases u <;> first
        | exact wpAny_pure hQ
        | (refine wpAny_bind (wpAny_load ho ?_)
           rw [hc, hd]
           show wpAny M A (if (["enumerate", "zip", "dict_itemiterator", "dict_reverseitemiterator", "odict_iterator", "itertools.zip_longest", "itertools.pairwise"].contains n && vs[0]? == some (rawInt _)) = true then _ else _) Q E s
           rw [if_neg (by intro h; rw [hn, Bool.false_and] at h; cases h)]
           exact wpAny_pure hQ))

def Itl (K : PySem.W.Frag) (a : Addr) : It :=
  ⟨fun i H => ∃ xs x, SqL K H a xs ∧ xs[i]? = some x, fun i H x H' => H' = H ∧ ∀ xs, SqL K H a xs → xs[i]? = some x, fun i H => ∃ xs, SqL K H a xs ∧ xs.length ≤ i⟩
def Itt (K : PySem.W.Frag) (a : Addr) : It :=
  ⟨fun i H => ∃ xs x, SqT K H a xs ∧ xs[i]? = some x, fun i H x H' => H' = H ∧ ∀ xs, SqT K H a xs → xs[i]? = some x, fun i H => ∃ xs, SqT K H a xs ∧ xs.length ≤ i⟩
def Itr (lo : Int) (n : Nat) : It := ⟨fun i _ => i < n, fun i H x H' => H' = H ∧ x = .int (lo + i), fun i _ => n ≤ i⟩
theorem turn_list {P : Program} {w : World} {K : PySem.W.Frag} {tg : Expr} (a it : Addr) : Turn P w K tg (Itl K a) [it] it (fun i h => h.IsListIter it a i) where
  mem := by simp
  obj := fun i h st b hb => by
    have e : b = it := by simpa using hb
    subst e
    obtain ⟨o, e, c, d⟩ := st
    exact ⟨o, e, fun v z => by rw [d] at z; cases z⟩
  keep := fun i h h' st k => st.at fun o e => k it (by simp) o e
  item := by
    intro X hP hw hK hc i pins s σ H E I hf st hg
    subst hP hw hK
    obtain ⟨xs, x, hq, hx⟩ := hg
    obtain ⟨its, rv, p, hz⟩ := I.list hq
    obtain ⟨u, hu, ru⟩ := rv.get hx
    obtain ⟨f0, f1, f2, f3, f4, f5⟩ := hf it (by simp)
    refine wpAny_pyNext_list_item st p.isList (x := u) (by simpa using hu) fun h' st' sb => ?_
    have I1 : Inv X pins σ H { s with heap := h' } := I.turned (t' := s.toks) (fun b o hb e => (sb.2 b hb).trans e) f0 f1 f3 f4 f5
    obtain ⟨o, e, c, d⟩ := id st'
    exact ⟨u, rfl, go_of (s := { s with heap := h' }) e c d (by decide) ⟨x, H, I1, ru, ⟨rfl, fun ys hy => by rw [I.list_inj hy hq]; exact hx⟩, st', fun b hb => (hf b hb).1⟩⟩
  done := by
    intro X hP hw hK hc i pins s σ H E I hf st hg
    subst hP hw hK
    obtain ⟨xs, hq, hx⟩ := hg
    obtain ⟨its, rv, p, hz⟩ := I.list hq
    obtain ⟨f0, f1, f2, f3, f4, f5⟩ := hf it (by simp)
    have hl := rv.length
    exact wpAny_pyNext_list_end (I.ok.hd hc) st p.isList (by simp; omega) fun h' eb => ⟨rfl, I.turned (t' := s.toks) (fun b o hb e => eb b o hb e) f0 f1 f3 f4 f5⟩
  self := fun _ _ _ _ _ st h => wpAny_pyIter_listiter st h
theorem turn_tuple {P : Program} {w : World} {K : PySem.W.Frag} {tg : Expr} (a it : Addr) : Turn P w K tg (Itt K a) [it] it (fun i h => h.IsTupleIter it a i) where
  mem := by simp
  obj := fun i h st b hb => by
    have e : b = it := by simpa using hb
    subst e
    obtain ⟨o, e, c, d⟩ := st
    exact ⟨o, e, fun v z => by rw [d] at z; cases z⟩
  keep := fun i h h' st k => st.at fun o e => k it (by simp) o e
  item := by
    intro X hP hw hK hc i pins s σ H E I hf st hg
    subst hP hw hK
    obtain ⟨xs, x, hq, hx⟩ := hg
    obtain ⟨its, rv, p, hz⟩ := I.tuple hq
    obtain ⟨u, hu, ru⟩ := rv.get hx
    obtain ⟨f0, f1, f2, f3, f4, f5⟩ := hf it (by simp)
    refine wpAny_pyNext_tuple_item st (show s.heap.IsTuple a its.toArray from p) (x := u) (by simpa using hu) fun h' st' sb => ?_
    have I1 : Inv X pins σ H { s with heap := h' } := I.turned (t' := s.toks) (fun b o hb e => (sb.2 b hb).trans e) f0 f1 f3 f4 f5
    obtain ⟨o, e, c, d⟩ := id st'
    exact ⟨u, rfl, go_of (s := { s with heap := h' }) e c d (by decide) ⟨x, H, I1, ru, ⟨rfl, fun ys hy => by rw [I.tuple_inj hy hq]; exact hx⟩, st', fun b hb => (hf b hb).1⟩⟩
  done := by
    intro X hP hw hK hc i pins s σ H E I hf st hg
    subst hP hw hK
    obtain ⟨xs, hq, hx⟩ := hg
    obtain ⟨its, rv, p, hz⟩ := I.tuple hq
    obtain ⟨f0, f1, f2, f3, f4, f5⟩ := hf it (by simp)
    have hl := rv.length
    exact wpAny_pyNext_tuple_end (I.ok.hd hc) st (show s.heap.IsTuple a its.toArray from p) (by simp; omega) fun h' eb => ⟨rfl, I.turned (t' := s.toks) (fun b o hb e => eb b o hb e) f0 f1 f3 f4 f5⟩
  self := fun _ _ _ _ _ st h => wpAny_pyIter_tupleiter st h
theorem turn_range {P : Program} {w : World} {K : PySem.W.Frag} {tg : Expr} (it : Addr) (lo : Int) (n : Nat) : Turn P w K tg (Itr lo n) [it] it (fun i h => IsRangeIter h it (lo + (i : Nat) * 1) ((n : Int) - (i : Nat)) 1) where
  mem := by simp
  obj := fun i h st b hb => by
    have e : b = it := by simpa using hb
    subst e
    exact ⟨_, st, fun v z => by
      have z' : Data.fields _ = Data.cell v := z
      cases z'⟩
  keep := fun i h h' st k => k it (by simp) _ st
  item := by
    intro X hP hw hK hc i pins s σ H E I hf st hg
    subst hP hw hK
    obtain ⟨f0, f1, f2, f3, f4, f5⟩ := hf it (by simp)
    have W := Walks.range (prog := X.prog) (w := X.w) (I.ok.hd hc) it lo 1 n
    refine W.item i s _ _ hg st fun v h' tk hv st' kk => ?_
    obtain ⟨t, rfl⟩ := hv
    have I1 : Inv X pins σ H { s with heap := h', toks := tk } := I.turned (fun b o hb e => kk b o (by simpa using hb) e) f0 f1 f3 f4 f5
    refine ⟨_, rfl, go_of (s := { s with heap := h', toks := tk }) (n := "range_iterator") st' rfl rfl (by decide) ⟨.int (lo + i), H, I1, ⟨t, ?_⟩, ⟨rfl, rfl⟩, st', fun b hb => (hf b hb).1⟩⟩
    rw [Int.mul_one]
  done := by
    intro X hP hw hK hc i pins s σ H E I hf st hg
    subst hP hw hK
    obtain ⟨f0, f1, f2, f3, f4, f5⟩ := hf it (by simp)
    exact wpAny_pyNext_range_end (I.ok.hd hc) st (by have : n ≤ i := hg; omega) fun h' eb => ⟨rfl, I.turned (t' := s.toks) (fun b o hb e => eb b o hb e) f0 f1 f3 f4 f5⟩
  self := fun _ _ _ _ _ st h => wpAny_pyIter_rangeiter st h
end L2

namespace L2
open PySem PySem.Spec PyProof.Rows
section
variable {X : Cx} {tg : Expr}
def iList (K : PySem.W.Frag) (tl : TE) : TI := fun σ H R => tl σ H fun x H1 => ∃ a, x = .ref a ∧ (∃ xs, SqL K H1 a xs) ∧ R (Itl K a) H1
def iTup (K : PySem.W.Frag) (tl : TE) : TI := fun σ H R => tl σ H fun x H1 => ∃ a, x = .ref a ∧ (∃ xs, SqT K H1 a xs) ∧ R (Itt K a) H1
theorem pi_list {l : Expr} {tl : TE} (hl : PE X l tl) : PI X tg l (iList X.K tl) := by
  intro pins s σ H R I h
  refine thn (hl pins s σ H _ I h) fun v s1 ⟨x, H1, I1, r1, q1⟩ => ?_
  obtain ⟨a, e, ⟨xs, hq⟩, q⟩ := q1
  subst e
  cases r1
  obtain ⟨its, rv, p, hz⟩ := I1.list hq
  refine wpAny_pyIter_list p.isList ?_
  refine ⟨s1.heap.objs.size, [s1.heap.objs.size], _, _, H1, rfl, I1.kept (t' := s1.toks) fun b o e => Heap.get?_push_of_some _ e, turn_list a _, ⟨_, Heap.get?_push_size _ rfl, rfl, rfl⟩, fun b hb => ?_, q⟩
  have e : b = s1.heap.objs.size := by simpa using hb
  subst e
  exact I1.fpOk (Nat.le_refl _) (I1.hok.fresh (Nat.le_refl _))
theorem pi_tup {l : Expr} {tl : TE} (hl : PE X l tl) : PI X tg l (iTup X.K tl) := by
  intro pins s σ H R I h
  refine thn (hl pins s σ H _ I h) fun v s1 ⟨x, H1, I1, r1, q1⟩ => ?_
  obtain ⟨a, e, ⟨xs, hq⟩, q⟩ := q1
  subst e
  cases r1
  obtain ⟨its, rv, p, hz⟩ := I1.tuple hq
  refine wpAny_pyIter_tuple (show s1.heap.IsTuple a its.toArray from p) ?_
  refine ⟨s1.heap.objs.size, [s1.heap.objs.size], _, _, H1, rfl, I1.kept (t' := s1.toks) fun b o e => Heap.get?_push_of_some _ e, turn_tuple a _, ⟨_, Heap.get?_push_size _ rfl, rfl, rfl⟩, fun b hb => ?_, q⟩
  have e : b = s1.heap.objs.size := by simpa using hb
  subst e
  exact I1.fpOk (Nat.le_refl _) (I1.hok.fresh (Nat.le_refl _))
theorem range_it {pins : List (Addr × Obj)} {σ : St} {H : Hp} {s : Shared} {R : It → Hp → Prop} {E : Value → Shared → Prop} {lo hi : Int} {t u v : Tok} {tk : Nat} (I : Inv X pins σ H s) (h1 : -(2 ^ 62) ≤ lo) (h2 : lo < 2 ^ 62) (h3 : -(2 ^ 62) ≤ hi) (h4 : hi < 2 ^ 62)
    (q : R (Itr lo (hi - lo).toNat) H) : wpAny (model X.prog X.w) X.A (pyIter (.ref s.heap.objs.size)) (PIE X pins σ tg R) E { s with heap := s.heap.push { cls := .type "range", data := .fields #[.int lo t, .int hi u, .int 1 v] }, toks := tk } := by
  refine wpAny_pyIter_range (IsRange.new ..) (small_one h1 h2 h3 h4) ?_
  have I1 : Inv X pins σ H { s with heap := s.heap.push { cls := .type "range", data := .fields #[.int lo t, .int hi u, .int 1 v] }, toks := tk } := I.kept fun b o e => Heap.get?_push_of_some _ e
  refine ⟨(s.heap.push { cls := .type "range", data := .fields #[.int lo t, .int hi u, .int 1 v] }).objs.size, [(s.heap.push { cls := .type "range", data := .fields #[.int lo t, .int hi u, .int 1 v] }).objs.size], _, _, H, rfl,
    I1.kept (t' := tk) fun b o e => Heap.get?_push_of_some _ e, turn_range _ lo (hi - lo).toNat, ?_, fun b hb => ?_, q⟩
  · have e1 : lo + ((0 : Nat) : Int) * 1 = lo := by simp
    have e2 : (((hi - lo).toNat : Nat) : Int) - ((0 : Nat) : Int) = Builtin.Range.rangeSize lo hi 1 := by rw [rangeSize_one]; split <;> omega
    show IsRangeIter _ _ (lo + ((0 : Nat) : Int) * 1) ((((hi - lo).toNat : Nat) : Int) - ((0 : Nat) : Int)) 1
    rw [e1, e2]
    exact Heap.get?_push_size _ rfl
  · have e : b = (s.heap.push { cls := .type "range", data := .fields #[.int lo t, .int hi u, .int 1 v] }).objs.size := by simpa using hb
    subst e
    exact I1.fpOk (Nat.le_refl _) (I1.hok.fresh (Nat.le_refl _))
def iRng1 (ta : TA) : TI := fun σ H R => ta σ H fun vs H1 => ∃ j : Int, vs = [.int j] ∧ -(2 ^ 62) ≤ j ∧ j < 2 ^ 62 ∧ R (Itr 0 j.toNat) H1
def iRng2 (ta : TA) : TI := fun σ H R => ta σ H fun vs H1 => ∃ i j : Int, vs = [.int i, .int j] ∧ (-(2 ^ 62) ≤ i ∧ i < 2 ^ 62 ∧ -(2 ^ 62) ≤ j ∧ j < 2 ^ 62) ∧ R (Itr i (j - i).toNat) H1
theorem pi_range1 {a : Expr} {ta : TA} {p pos : Pos} (hg : Gl X "range") (hm : X.mg "range" = none) (ha : PA X [a] ta) (hs : starEach [a] X.env = [(false, eval a X.env)] := by rfl) : PI X tg (.Call (.Name "range" p) [a] [] pos) (iRng1 ta) := by
  intro pins s σ H R I h
  refine Call_ (ld_blt I hg hm boot_range (PyProof.Rows.callWith_type1 (thn (ha pos pins s σ H _ I h) fun us s1 ⟨vs, H1, I1, r1, q1⟩ => ?_) hs rfl))
  obtain ⟨j, e, q1, q2, q⟩ := q1
  subst e
  cases r1 with
  | cons r rr =>
    cases rr
    obtain ⟨t, rfl⟩ := r
    exact call_range_1 (range_it I1 (by omega) (by omega) q1 q2 (by simpa using q))
def tFor (wi : TI) (g : TG) (tb : TS) : TS := fun D σ H => wi σ H fun J H1 => ∃ W : Nat → Nat → St → Hp → Prop, (∃ m, W 0 m σ H1) ∧ ∀ i m σ H, W i m σ H →
  (J.stop i H ∧ D.nx σ H) ∨ (J.go i H ∧ ∃ N : St → Hp → Prop, (∀ σ' H', N σ' H' → ∃ m', m' < m ∧ W (i + 1) m' σ' H') ∧ ∀ x H', J.yld i H x H' → g x σ H' fun σ2 H2 => tb { D with nx := N, ct := N, bk := D.nx } σ2 H2)
def pinsAt (fp : List Addr) (h : Heap) : List (Addr × Obj) := fp.filterMap fun b => (h.get? b).map fun o => (b, o)
theorem mem_pinsAt {fp : List Addr} {h : Heap} {b : Addr} {o : Obj} (hb : b ∈ fp) (e : h.get? b = some o) : (b, o) ∈ pinsAt fp h := List.mem_filterMap.mpr ⟨b, hb, by rw [e]; rfl⟩
theorem of_pinsAt {fp : List Addr} {h : Heap} {p : Addr × Obj} (hp : p ∈ pinsAt fp h) : p.1 ∈ fp ∧ h.get? p.1 = some p.2 := by
  obtain ⟨b, hb, e⟩ := List.mem_filterMap.mp hp
  cases q : h.get? b with
  | none => rw [q] at e; cases e
  | some o =>
    rw [q] at e
    have e' : (b, o) = p := Option.some.inj e
    subst e'
    exact ⟨hb, q⟩
theorem Inv.pinned {pins : List (Addr × Obj)} {σ : St} {H : Hp} {s : Shared} {fp : List Addr} (I : Inv X pins σ H s) (hf : ∀ b ∈ fp, FpOk X pins H b) (ho : ∀ b ∈ fp, ∃ o, s.heap.get? b = some o ∧ ∀ v, o.data ≠ .cell v) : Inv X (pins ++ pinsAt fp s.heap) σ H s :=
  I.pins_of fun p hp => (List.mem_append.mp hp).elim (fun z => I.pin p (List.mem_append_right _ z)) fun z => by
    obtain ⟨hb, e⟩ := of_pinsAt z
    obtain ⟨f0, f1, f2, _⟩ := hf p.1 hb
    obtain ⟨o, e', d⟩ := ho p.1 hb
    rw [e] at e'; cases e'
    exact ⟨e, f0, f1, f2, d⟩
theorem Inv.unpinned {pins pl : List (Addr × Obj)} {σ : St} {H : Hp} {s : Shared} (I : Inv X (pins ++ pl) σ H s) : Inv X pins σ H s := I.pins_of fun p hp => I.pin p (List.mem_append_right _ (List.mem_append_left _ hp))
theorem ps_for {iter : Expr} {body : List Stmt} {wi : TI} {g : TG} {tb : TS} {pos : Pos} (hp : PassesOwn (model X.prog X.w) X.A X.env X.xe) (hc : X.calm = true) (hi : PI X tg iter wi) (hg : PG X tg g) (hb : PSs X body tb)
    (hs : ∀ x, foldedSetIterable iter X.env x = pure x := by intro _; rfl) : PS X (.For tg iter body [] pos) (tFor wi g tb) := by
  intro pins s σ H D I h
  refine wpAny_For (thn (hi pins s σ H _ I h) fun v s1 h1 => thn h1 fun itv s2 h2 => ?_) hs
  obtain ⟨it, fp, tn, J, H2, e, I2, T, st2, f2, W, ⟨m0, w0⟩, turn⟩ := h2
  subst e
  -- what stays true of the iterator's objects through the loop
  have stat : ∀ {H' : Hp}, (∀ b ∈ fp, H' b = none) → ∀ b ∈ fp, FpOk X pins H' b := fun hn b hb => ⟨hn b hb, (f2 b hb).2⟩
  refine codeAny_forLoop_any (fun n s' => ∃ i σ' H', Inv X pins σ' H' s' ∧ tn i s'.heap ∧ (∀ b ∈ fp, H' b = none) ∧ W i n σ' H') ?_ m0 ⟨0, σ, H2, I2, st2, fun b hb => (f2 b hb).1, w0⟩
  rintro n s3 ⟨i, σ3, H3, I3, st3, fr3, w3⟩
  rcases turn i n σ3 H3 w3 with ⟨stop, qn⟩ | ⟨go, N, hN, step⟩
  · refine wpAny_passesOwn hp (thn (T.done X rfl rfl rfl hc i pins s3 σ3 H3 X.xe I3 (stat fr3) st3 stop) fun r s4 ⟨hr, I4⟩ => ?_)
    subst hr
    exact wpAny_execs_nil ⟨σ3, H3, I4, qn⟩
  · refine wpAny_passesOwn hp (thn (T.item X rfl rfl rfl hc i pins s3 σ3 H3 X.xe I3 (stat fr3) st3 go) fun r s4 ⟨u, hr, h4⟩ => ?_)
    subst hr
    refine wpAny_passesOwn hp (thn h4 fun _ s5 ⟨x, H5, I5, r5, y5, st5, fr5⟩ => ?_)
    have I5' := I5.pinned (stat fr5) (T.obj _ _ st5)
    refine wpAny_passesOwn hp (thn (hg _ s5 σ3 H5 x u _ I5' r5 (step x H5 y5)) fun _ s6 ⟨σ6, H6, I6, q6⟩ => ?_)
    refine wpAny_passesOwn hp (thn (hb _ s6 σ6 H6 _ I6 q6) fun f s7 q7 => ?_)
    have again : ∀ {σ7 : St} {H7 : Hp}, Inv X (pins ++ pinsAt fp s5.heap) σ7 H7 s7 → N σ7 H7 → ∃ m, m < n ∧ ∃ i σ' H', Inv X pins σ' H' s7 ∧ tn i s7.heap ∧ (∀ b ∈ fp, H' b = none) ∧ W i m σ' H' := fun {σ7 H7} I7 n7 => by
      obtain ⟨m', hm, w7⟩ := hN σ7 H7 n7
      refine ⟨m', hm, i + 1, σ7, H7, I7.unpinned, T.keep _ _ _ st5 fun b hb o e => (I7.pin (b, o) (List.mem_append_right _ (List.mem_append_right _ (mem_pinsAt hb e)))).1, fun b hb => ?_, w7⟩
      obtain ⟨o, e, d⟩ := T.obj _ _ st5 b hb
      exact (I7.pin (b, o) (List.mem_append_right _ (List.mem_append_right _ (mem_pinsAt hb e)))).2.1
    cases f with
    | next => obtain ⟨σ7, H7, I7, n7⟩ := q7; exact again I7 n7
    | cont => obtain ⟨σ7, H7, I7, n7⟩ := q7; exact again I7 n7
    | brk => obtain ⟨σ7, H7, I7, q7⟩ := q7; exact ⟨σ7, H7, I7.unpinned, q7⟩
    | ret v => obtain ⟨x7, σ7, H7, I7, r7, q7⟩ := q7; exact ⟨x7, σ7, H7, I7.unpinned, r7, q7⟩
end

theorem for_list {K : PySem.W.Frag} {a : Addr} {xs : List V} {g : TG} {tb : TS} {D : Ends} {σ : St} {H : Hp} (Pv : Nat → St → Hp → Prop) (h0 : Pv 0 σ H) (hl : ∀ i σ H, i ≤ xs.length → Pv i σ H → SqL K H a xs)
    (hs : ∀ i x σ H, xs[i]? = some x → Pv i σ H → g x σ H fun σ2 H2 => tb { D with nx := Pv (i + 1), ct := Pv (i + 1), bk := D.nx } σ2 H2) (hd : ∀ σ H, Pv xs.length σ H → D.nx σ H) :
    ∃ W : Nat → Nat → St → Hp → Prop, (∃ m, W 0 m σ H) ∧ ∀ i m σ H, W i m σ H →
      ((Itl K a).stop i H ∧ D.nx σ H) ∨ ((Itl K a).go i H ∧ ∃ N : St → Hp → Prop, (∀ σ' H', N σ' H' → ∃ m', m' < m ∧ W (i + 1) m' σ' H') ∧ ∀ x H', (Itl K a).yld i H x H' → g x σ H' fun σ2 H2 => tb { D with nx := N, ct := N, bk := D.nx } σ2 H2) := by
  refine ⟨fun i m σ H => m = xs.length - i ∧ i ≤ xs.length ∧ Pv i σ H, ⟨xs.length, by simp, Nat.zero_le _, h0⟩, ?_⟩
  rintro i m σ H ⟨rfl, hi, p⟩
  have q := hl i σ H hi p
  by_cases hlt : i < xs.length
  · refine .inr ⟨⟨xs, xs[i], q, by simp [hlt]⟩, Pv (i + 1), fun σ' H' p' => ⟨xs.length - (i + 1), by omega, rfl, hlt, p'⟩, fun x H' y => ?_⟩
    obtain ⟨e, y⟩ := y
    subst e
    exact hs i x σ _ (y xs q) p
  · have e : i = xs.length := by omega
    subst e
    exact .inl ⟨⟨xs, q, Nat.le_refl _⟩, hd σ H p⟩
theorem for_tup {K : PySem.W.Frag} {a : Addr} {xs : List V} {g : TG} {tb : TS} {D : Ends} {σ : St} {H : Hp} (Pv : Nat → St → Hp → Prop) (h0 : Pv 0 σ H) (hl : ∀ i σ H, i ≤ xs.length → Pv i σ H → SqT K H a xs)
    (hs : ∀ i x σ H, xs[i]? = some x → Pv i σ H → g x σ H fun σ2 H2 => tb { D with nx := Pv (i + 1), ct := Pv (i + 1), bk := D.nx } σ2 H2) (hd : ∀ σ H, Pv xs.length σ H → D.nx σ H) :
    ∃ W : Nat → Nat → St → Hp → Prop, (∃ m, W 0 m σ H) ∧ ∀ i m σ H, W i m σ H →
      ((Itt K a).stop i H ∧ D.nx σ H) ∨ ((Itt K a).go i H ∧ ∃ N : St → Hp → Prop, (∀ σ' H', N σ' H' → ∃ m', m' < m ∧ W (i + 1) m' σ' H') ∧ ∀ x H', (Itt K a).yld i H x H' → g x σ H' fun σ2 H2 => tb { D with nx := N, ct := N, bk := D.nx } σ2 H2) := by
  refine ⟨fun i m σ H => m = xs.length - i ∧ i ≤ xs.length ∧ Pv i σ H, ⟨xs.length, by simp, Nat.zero_le _, h0⟩, ?_⟩
  rintro i m σ H ⟨rfl, hi, p⟩
  have q := hl i σ H hi p
  by_cases hlt : i < xs.length
  · refine .inr ⟨⟨xs, xs[i], q, by simp [hlt]⟩, Pv (i + 1), fun σ' H' p' => ⟨xs.length - (i + 1), by omega, rfl, hlt, p'⟩, fun x H' y => ?_⟩
    obtain ⟨e, y⟩ := y
    subst e
    exact hs i x σ _ (y xs q) p
  · have e : i = xs.length := by omega
    subst e
    exact .inl ⟨⟨xs, q, Nat.le_refl _⟩, hd σ H p⟩
theorem for_range {lo : Int} {n : Nat} {g : TG} {tb : TS} {D : Ends} {σ : St} {H : Hp} (Pv : Nat → St → Hp → Prop) (h0 : Pv 0 σ H)
    (hs : ∀ i σ H, i < n → Pv i σ H → g (.int (lo + i)) σ H fun σ2 H2 => tb { D with nx := Pv (i + 1), ct := Pv (i + 1), bk := D.nx } σ2 H2) (hd : ∀ σ H, Pv n σ H → D.nx σ H) :
    ∃ W : Nat → Nat → St → Hp → Prop, (∃ m, W 0 m σ H) ∧ ∀ i m σ H, W i m σ H →
      ((Itr lo n).stop i H ∧ D.nx σ H) ∨ ((Itr lo n).go i H ∧ ∃ N : St → Hp → Prop, (∀ σ' H', N σ' H' → ∃ m', m' < m ∧ W (i + 1) m' σ' H') ∧ ∀ x H', (Itr lo n).yld i H x H' → g x σ H' fun σ2 H2 => tb { D with nx := N, ct := N, bk := D.nx } σ2 H2) := by
  refine ⟨fun i m σ H => m = n - i ∧ i ≤ n ∧ Pv i σ H, ⟨n, by simp, Nat.zero_le _, h0⟩, ?_⟩
  rintro i m σ H ⟨rfl, hi, p⟩
  by_cases hlt : i < n
  · refine .inr ⟨hlt, Pv (i + 1), fun σ' H' p' => ⟨n - (i + 1), by omega, rfl, hlt, p'⟩, fun x H' y => ?_⟩
    obtain ⟨e, y⟩ := y
    subst e y
    exact hs i σ _ hlt p
  · have e : i = n := by omega
    subst e
    exact .inl ⟨Nat.le_refl _, hd σ H p⟩
theorem while_by {c : TT} {tb : TS} {D : Ends} {σ : St} {H : Hp} (Pv : St → Hp → Prop) (μ : St → Hp → Nat) (h0 : Pv σ H)
    (hs : ∀ σ H, Pv σ H → c σ H fun b H1 => if b = true then tb { D with nx := fun σ' H' => Pv σ' H' ∧ μ σ' H' < μ σ H, ct := fun σ' H' => Pv σ' H' ∧ μ σ' H' < μ σ H, bk := D.nx } σ H1 else D.nx σ H1)
    (mono : ∀ σ H Q Q', (∀ b H1, Q b H1 → Q' b H1) → c σ H Q → c σ H Q') : tWhile c tb D σ H := by
  refine ⟨fun m σ H => m = μ σ H ∧ Pv σ H, ⟨_, rfl, h0⟩, ?_⟩
  rintro m σ H ⟨rfl, p⟩
  refine mono σ H _ _ (fun b H1 q => ?_) (hs σ H p)
  cases b with
  | true => exact ⟨_, fun σ' H' ⟨p', l⟩ => ⟨_, l, rfl, p'⟩, q⟩
  | false => exact q
end L2

namespace L2
open PySem PySem.Spec PyProof.Rows

abbrev R2 := V → V → Hp → VK → Prop
def OpR (X : Cx) (f : Value → Value → Sem Value) (r : R2) : Prop :=
  ∀ (pins : List (Addr × Obj)) (s : Shared) (σ : St) (H : Hp) (x y : V) (v u : Value) (Q : VK), Inv X pins σ H s → RelV x v → RelV y u → r x y H Q →
    wpAny (model X.prog X.w) X.A (f v u) (EP X pins σ Q) X.xe s
def UnR (X : Cx) (f : Value → Sem Value) (r : V → Hp → VK → Prop) : Prop :=
  ∀ (pins : List (Addr × Obj)) (s : Shared) (σ : St) (H : Hp) (x : V) (v : Value) (Q : VK), Inv X pins σ H s → RelV x v → r x H Q →
    wpAny (model X.prog X.w) X.A (f v) (EP X pins σ Q) X.xe s
def CallR (X : Cx) (f : Value) (r : List V → Hp → VK → Prop) : Prop :=
  ∀ (pins : List (Addr × Obj)) (s : Shared) (σ : St) (H : Hp) (xs : List V) (us : List Value) (Q : VK), Inv X pins σ H s → Vals xs us → r xs H Q →
    wpAny (model X.prog X.w) X.A (call f us) (EP X pins σ Q) X.xe s
def TruR (X : Cx) (r : V → Hp → (Bool → Hp → Prop) → Prop) : Prop :=
  ∀ (pins : List (Addr × Obj)) (s : Shared) (σ : St) (H : Hp) (x : V) (v : Value) (Q : Bool → Hp → Prop), Inv X pins σ H s → RelV x v → r x H Q →
    wpAny (model X.prog X.w) X.A (truthy v) (TP X pins σ Q) X.xe s

def tOp (r : R2) (ta tb : TE) : TE := fun σ H Q => ta σ H fun x H1 => tb σ H1 fun y H2 => r x y H2 Q
def tUn (r : V → Hp → VK → Prop) (ta : TE) : TE := fun σ H Q => ta σ H fun x H1 => r x H1 Q
def rI (C : Int → Int → Prop) (g : Int → Int → V) : R2 := fun x y H Q => ∃ i j, x = .int i ∧ y = .int j ∧ C i j ∧ Q (g i j) H
def rI0 (g : Int → Int → V) : R2 := fun x y H Q => ∃ i j, x = .int i ∧ y = .int j ∧ Q (g i j) H
def rU (g : Int → V) : V → Hp → VK → Prop := fun x H Q => ∃ i, x = .int i ∧ Q (g i) H

section
variable {X : Cx} {a b c : Expr} {ta tb tc : TE} {pos : Pos}

theorem binT (ha : PE X a ta) (hb : PE X b tb) {pins : List (Addr × Obj)} {s : Shared} {σ : St} {H : Hp} {R : V → V → Hp → Prop} (I : Inv X pins σ H s)
    (h : ta σ H fun x H1 => tb σ H1 fun y H2 => R x y H2) {Q : Value → Shared → Prop} {f : Value → Value → Sem Value}
    (hf : ∀ v u s2 x y H2, Inv X pins σ H2 s2 → RelV x v → RelV y u → R x y H2 → wpAny (model X.prog X.w) X.A (f v u) Q X.xe s2) :
    wpAny (model X.prog X.w) X.A (eval a X.env) (fun v s₁ => wpAny (model X.prog X.w) X.A (eval b X.env) (fun u s₂ => wpAny (model X.prog X.w) X.A (f v u) Q X.xe s₂) X.xe s₁) X.xe s := by
  refine thn (ha pins s σ H _ I h) fun v s1 ⟨x, H1, I1, r1, q1⟩ => ?_
  refine thn (hb pins s1 σ H1 _ I1 q1) fun u s2 ⟨y, H2, I2, r2, q2⟩ => ?_
  exact hf v u s2 x y H2 I2 r1 r2 q2

theorem pe_op {op : Operator} {r : R2} (ho : OpR X (binaryOp op) r) (ha : PE X a ta) (hb : PE X b tb) : PE X (.BinOp a op b pos) (tOp r ta tb) := by
  intro pins s σ H Q I h
  exact wpAny_BinOp (binT ha hb I h fun v u s2 x y H2 I2 rx ry q => ho pins s2 σ H2 x y v u Q I2 rx ry q)
theorem pe_un {op : UnaryOp} {r : V → Hp → VK → Prop} (ho : UnR X (unaryOp op) r) (ha : PE X a ta) : PE X (.UnaryOp op a pos) (tUn r ta) := by
  intro pins s σ H Q I h
  exact UnaryOp_ (thn (ha pins s σ H _ I h) fun v s1 ⟨x, H1, I1, r1, q1⟩ => ho pins s1 σ H1 x v Q I1 r1 q1)
theorem opI {f : Value → Value → Sem Value} {C : Int → Int → Prop} {g : Int → Int → Int}
    (rule : ∀ (i j : Int) (t u : Tok) (s : Shared) (Q : Value → Shared → Prop) (E : Value → Shared → Prop), C i j → Q (.int (g i j) s.toks) { s with toks := s.toks + 1 } → wpAny (model X.prog X.w) X.A (f (.int i t) (.int j u)) Q E s) :
    OpR X f (rI C fun i j => .int (g i j)) := by
  intro pins s σ H x y v u Q I rx ry h
  obtain ⟨i, j, rfl, rfl, hc, q⟩ := h
  obtain ⟨t, rfl⟩ := rx
  obtain ⟨t', rfl⟩ := ry
  exact rule i j t t' s _ _ hc ⟨.int (g i j), H, I.tok _, ⟨_, rfl⟩, q⟩
theorem opI0 {f : Value → Value → Sem Value} {g : Int → Int → Int}
    (rule : ∀ (i j : Int) (t u : Tok) (s : Shared) (Q : Value → Shared → Prop) (E : Value → Shared → Prop), Q (.int (g i j) s.toks) { s with toks := s.toks + 1 } → wpAny (model X.prog X.w) X.A (f (.int i t) (.int j u)) Q E s) :
    OpR X f (rI0 fun i j => .int (g i j)) := by
  intro pins s σ H x y v u Q I rx ry h
  obtain ⟨i, j, rfl, rfl, q⟩ := h
  obtain ⟨t, rfl⟩ := rx
  obtain ⟨t', rfl⟩ := ry
  exact rule i j t t' s _ _ ⟨.int (g i j), H, I.tok _, ⟨_, rfl⟩, q⟩
theorem opB0 {f : Value → Value → Sem Value} {g : Int → Int → Bool}
    (rule : ∀ (i j : Int) (t u : Tok) (s : Shared) (Q : Value → Shared → Prop) (E : Value → Shared → Prop), Q (.bool (g i j)) s → wpAny (model X.prog X.w) X.A (f (.int i t) (.int j u)) Q E s) :
    OpR X f (rI0 fun i j => .bl (g i j)) := by
  intro pins s σ H x y v u Q I rx ry h
  obtain ⟨i, j, rfl, rfl, q⟩ := h
  obtain ⟨t, rfl⟩ := rx
  obtain ⟨t', rfl⟩ := ry
  exact rule i j t t' s _ _ ⟨.bl (g i j), H, I, rfl, q⟩

def CDiv (i j : Int) : Prop := 0 < j ∧ j < 1073741824
def CDivN (i j : Int) : Prop := j ≠ 0 ∧ j.natAbs < 1073741824
def CPow (i j : Int) : Prop := 0 ≤ j ∧ j ≤ 1000000 ∧ i.natAbs < 2 ^ 64
def CMul (i j : Int) : Prop := (-(2 ^ 64) < i ∧ i < 2 ^ 64) ∨ (-(2 ^ 64) < j ∧ j < 2 ^ 64)
theorem op_add : OpR X (binaryOp .Add) (rI0 fun i j => .int (i + j)) := opI0 fun _ _ _ _ _ _ _ q => add_int q
theorem op_sub : OpR X (binaryOp .Sub) (rI0 fun i j => .int (i - j)) := opI0 fun _ _ _ _ _ _ _ q => sub_int q
theorem op_modN : OpR X (binaryOp .Mod) (rI (fun _ j => j ≠ 0) fun i j => .int (i.fmod j)) := opI fun _ _ _ _ _ _ _ hc q => mod_int' hc q
theorem unI {f : Value → Sem Value} {g : Int → Int}
    (rule : ∀ (i : Int) (t : Tok) (s : Shared) (Q : Value → Shared → Prop) (E : Value → Shared → Prop), Q (.int (g i) s.toks) { s with toks := s.toks + 1 } → wpAny (model X.prog X.w) X.A (f (.int i t)) Q E s) :
    UnR X f (rU fun i => .int (g i)) := by
  intro pins s σ H x v Q I rx h
  obtain ⟨i, rfl, q⟩ := h
  obtain ⟨t, rfl⟩ := rx
  exact rule i t s _ _ ⟨.int (g i), H, I.tok _, ⟨_, rfl⟩, q⟩
theorem un_neg : UnR X (unaryOp .USub) (rU fun i => .int (-i)) := unI fun _ _ _ _ _ q => neg_int q
end

def scal : V → V → Bool
  | .non, .non => true | .non, .int _ => true | .int _, .non => true | .non, .bl _ => true | .bl _, .non => true | .non, .str _ => true | .str _, .non => true
  | .int _, .int _ => true | .bl _, .bl _ => true | .str _, .str _ => true | .byt _, .byt _ => true
  | .int _, .str _ => true | .str _, .int _ => true | .bl _, .str _ => true | .str _, .bl _ => true
  | _, _ => false
def rEq : R2 := fun x y H Q => scal x y = true ∧ Q (.bl (decide (x = y))) H
def rNe : R2 := fun x y H Q => scal x y = true ∧ Q (.bl (!decide (x = y))) H

theorem dec_int {i j : Int} : decide (V.int i = V.int j) = (i == j) := by
  rw [Bool.eq_iff_iff]
  simp
theorem dec_bl {i j : Bool} : decide (V.bl i = V.bl j) = (i == j) := by
  rw [Bool.eq_iff_iff]
  simp
theorem dec_str {i j : Str} : decide (V.str i = V.str j) = (i == j) := by
  rw [Bool.eq_iff_iff]
  simp
theorem dec_byt {i j : Array UInt8} : decide (V.byt i = V.byt j) = (i.toList == j.toList) := by
  rw [Bool.eq_iff_iff]
  cases i
  cases j
  simp

section
variable {X : Cx} {a b c : Expr} {ta tb tc : TE} {pos : Pos}
theorem fin_bl {pins : List (Addr × Obj)} {σ : St} {H : Hp} {s : Shared} {Q : VK} {k k' : Bool} (I : Inv X pins σ H s) (q : Q (.bl k) H) (e : k = k') : EP X pins σ Q (.bool k') s := by
  subst e
  exact ⟨.bl k, H, I, rfl, q⟩
theorem op_eq : OpR X (compareOp .Eq) rEq := by
  intro pins s σ H x y v u Q I rx ry h
  obtain ⟨hs, q⟩ := h
  cases x with
  | non =>
    cases rx
    cases y with
    | non => cases ry; exact PySem.EqNone.eq_none_none (fin_bl I q (by simp))
    | bl j => cases ry; exact PySem.EqNone.eq_none_bool (fin_bl I q (by simp))
    | int j => obtain ⟨t', rfl⟩ := ry; exact PySem.EqNone.eq_none_int (fin_bl I q (by simp))
    | str j => obtain ⟨t', rfl⟩ := ry; exact PySem.EqNone.eq_none_str (fin_bl I q (by simp))
    | _ => exact absurd (show false = true from hs) Bool.false_ne_true
  | bl i =>
    cases rx
    cases y with
    | non => cases ry; exact PySem.EqNone.eq_bool_none (fin_bl I q (by simp))
    | bl j => cases ry; exact eq_bool (fin_bl I q dec_bl)
    | str j => obtain ⟨t', rfl⟩ := ry; exact PySem.EqMixed.eq_bool_str (fin_bl I q (by simp))
    | _ => exact absurd (show false = true from hs) Bool.false_ne_true
  | int i =>
    obtain ⟨t, rfl⟩ := rx
    cases y with
    | non => cases ry; exact PySem.EqNone.eq_int_none (fin_bl I q (by simp))
    | int j => obtain ⟨t', rfl⟩ := ry; exact eq_int (fin_bl I q dec_int)
    | str j => obtain ⟨t', rfl⟩ := ry; exact PySem.EqMixed.eq_int_str (fin_bl I q (by simp))
    | _ => exact absurd (show false = true from hs) Bool.false_ne_true
  | str i =>
    obtain ⟨t, rfl⟩ := rx
    cases y with
    | non => cases ry; exact PySem.EqNone.eq_str_none (fin_bl I q (by simp))
    | bl j => cases ry; exact PySem.EqMixed.eq_str_bool (fin_bl I q (by simp))
    | int j => obtain ⟨t', rfl⟩ := ry; exact PySem.EqMixed.eq_str_int (fin_bl I q (by simp))
    | str j => obtain ⟨t', rfl⟩ := ry; exact eq_str (fin_bl I q dec_str)
    | _ => exact absurd (show false = true from hs) Bool.false_ne_true
  | byt i =>
    obtain ⟨t, rfl⟩ := rx
    cases y with
    | byt j => obtain ⟨t', rfl⟩ := ry; exact PySem.W.eq_bytes (fin_bl I q dec_byt)
    | _ => exact absurd (show false = true from hs) Bool.false_ne_true
  | _ => cases y <;> exact absurd (show false = true from hs) Bool.false_ne_true
theorem op_ne : OpR X (compareOp .NotEq) rNe := by
  intro pins s σ H x y v u Q I rx ry h
  obtain ⟨hs, q⟩ := h
  cases x with
  | non =>
    cases rx
    cases y with
    | non => cases ry; exact PySem.EqNone.ne_none_none (fin_bl I q (by simp))
    | bl j => cases ry; exact PySem.EqNone.ne_none_bool (fin_bl I q (by simp))
    | int j => obtain ⟨t', rfl⟩ := ry; exact PySem.EqNone.ne_none_int (fin_bl I q (by simp))
    | str j => obtain ⟨t', rfl⟩ := ry; exact PySem.EqNone.ne_none_str (fin_bl I q (by simp))
    | _ => exact absurd (show false = true from hs) Bool.false_ne_true
  | bl i =>
    cases rx
    cases y with
    | non => cases ry; exact PySem.EqNone.ne_bool_none (fin_bl I q (by simp))
    | bl j => cases ry; exact ne_bool (fin_bl I q (congrArg not dec_bl))
    | str j => obtain ⟨t', rfl⟩ := ry; exact PySem.EqMixed.ne_bool_str (fin_bl I q (by simp))
    | _ => exact absurd (show false = true from hs) Bool.false_ne_true
  | int i =>
    obtain ⟨t, rfl⟩ := rx
    cases y with
    | non => cases ry; exact PySem.EqNone.ne_int_none (fin_bl I q (by simp))
    | int j => obtain ⟨t', rfl⟩ := ry; exact ne_int (fin_bl I q (congrArg not dec_int))
    | str j => obtain ⟨t', rfl⟩ := ry; exact PySem.EqMixed.ne_int_str (fin_bl I q (by simp))
    | _ => exact absurd (show false = true from hs) Bool.false_ne_true
  | str i =>
    obtain ⟨t, rfl⟩ := rx
    cases y with
    | non => cases ry; exact PySem.EqNone.ne_str_none (fin_bl I q (by simp))
    | bl j => cases ry; exact PySem.EqMixed.ne_str_bool (fin_bl I q (by simp))
    | int j => obtain ⟨t', rfl⟩ := ry; exact PySem.EqMixed.ne_str_int (fin_bl I q (by simp))
    | str j => obtain ⟨t', rfl⟩ := ry; exact ne_str (fin_bl I q (congrArg not dec_str))
    | _ => exact absurd (show false = true from hs) Bool.false_ne_true
  | byt i =>
    obtain ⟨t, rfl⟩ := rx
    cases y with
    | byt j => obtain ⟨t', rfl⟩ := ry; exact PySem.W.ne_bytes (fin_bl I q (congrArg not dec_byt))
    | _ => exact absurd (show false = true from hs) Bool.false_ne_true
  | _ => cases y <;> exact absurd (show false = true from hs) Bool.false_ne_true

theorem op_lt : OpR X (compareOp .Lt) (rI0 fun i j => .bl (decide (i < j))) := opB0 fun _ _ _ _ _ _ _ q => lt_int q
theorem op_le : OpR X (compareOp .LtE) (rI0 fun i j => .bl (decide (i ≤ j))) := opB0 fun _ _ _ _ _ _ _ q => le_int q
theorem op_gt : OpR X (compareOp .Gt) (rI0 fun i j => .bl (decide (j < i))) := opB0 fun _ _ _ _ _ _ _ q => gt_int q
theorem op_ge : OpR X (compareOp .GtE) (rI0 fun i j => .bl (decide (j ≤ i))) := opB0 fun _ _ _ _ _ _ _ q => ge_int q
theorem op_isN : OpR X (compareOp .Is) (fun x y H Q => y = .non ∧ Q (.bl (decide (x = .non))) H) := by
  intro pins s σ H x y v u Q I rx ry h
  obtain ⟨rfl, q⟩ := h
  cases ry
  refine is_none_gen (fin_bl I q ?_)
  cases x <;> first
    | (cases rx; rfl)
    | (obtain ⟨t, rfl⟩ := rx; rfl)
theorem op_notN : OpR X (compareOp .IsNot) (fun x y H Q => y = .non ∧ Q (.bl (!decide (x = .non))) H) := by
  intro pins s σ H x y v u Q I rx ry h
  obtain ⟨rfl, q⟩ := h
  cases ry
  refine isnot_none_gen (fin_bl I q ?_)
  cases x <;> first
    | (cases rx; rfl)
    | (obtain ⟨t, rfl⟩ := rx; rfl)

def isObj : HO → Bool
  | .lst _ => true
  | .ins _ _ _ => true
  | _ => false
theorem nomark (b : Expr) {op : CmpOp} (h : op ≠ .In := by decide) (h2 : op ≠ .NotIn := by decide) : behindInMarks op b = false := by
  have e1 : (op == CmpOp.In) = false := by cases op <;> first | rfl | exact absurd rfl h
  have e2 : (op == CmpOp.NotIn) = false := by cases op <;> first | rfl | exact absurd rfl h2
  cases b <;> simp [behindInMarks, e1, e2]
theorem pe_cmpR {op : CmpOp} {r : R2} (ho : OpR X (compareOp op) r) (ha : PE X a ta) (hb : PE X b tb) (hm : behindInMarks op b = false) : PE X (.Compare a [op] [b] pos) (tOp r ta tb) := by
  intro pins s σ H Q I h
  exact wpAny_Compare1 (binT ha hb I h fun v u s2 x y H2 I2 rx ry q => ho pins s2 σ H2 x y v u Q I2 rx ry q) hm
def tTest (t : TE) : TT := fun σ H Q => t σ H fun x H' => ∃ k, x = .bl k ∧ Q k H'
theorem pt_cmpR {op : CmpOp} {r : R2} (ho : OpR X (compareOp op) r) (ha : PE X a ta) (hb : PE X b tb) (hm : behindInMarks op b = false) : PT X (.Compare a [op] [b] pos) (tTest (tOp r ta tb)) := by
  intro pins s σ H Q I h
  refine wpAny_isTrue_Compare1 (thn (ha pins s σ H _ I h) fun v s1 ⟨x, H1, I1, r1, q1⟩ => thn (hb pins s1 σ H1 _ I1 q1) fun u s2 ⟨y, H2, I2, r2, q2⟩ =>
    thn (ho pins s2 σ H2 x y v u _ I2 r1 r2 q2) fun c s3 ⟨z, H3, I3, r3, k, e, q3⟩ => ?_) hm
  subst e
  cases r3
  exact wpAny_truthy_bool ⟨H3, I3, q3⟩
def tChain (r r' : R2) (ta tb tc : TE) : TE := fun σ H Q => ta σ H fun x H1 => tb σ H1 fun y H2 => r x y H2 fun z H3 => ∃ k, z = .bl k ∧
  (if k = true then tc σ H3 fun w' H4 => r' y w' H4 Q else Q (.bl false) H3)
def TruV (K : PySem.W.Frag) (x : V) (H : Hp) (k : Bool) : Prop :=
  match x with
  | .non => k = false
  | .bl b => k = b
  | .int i => k = (i != 0)
  | .str y => y.length ≤ sizeLine ∧ k = ((y.length : Int) != 0)
  | .byt y => y.size ≤ sizeLine ∧ k = ((y.size : Int) != 0)
  | .ref p => (∃ xs, SqL K H p xs ∧ k = !xs.isEmpty) ∨ (∃ xs, SqT K H p xs ∧ k = !xs.isEmpty) ∨ ∃ kvs, H p = some (.dK kvs) ∧ k = !kvs.isEmpty
  | _ => False
theorem line63 : (sizeLine : Nat) < 2 ^ 63 := by rw [sizeLine_eq]; decide
def PlainIxT (b : Expr) : Prop := ∀ o i, subscripted b false o i = operate [o, i] (getItem o i)
theorem vals1 {x : V} {us : List Value} (r : Vals [x] us) : ∃ u, us = [u] ∧ RelV x u := by
  cases r with
  | cons r1 r2 => cases r2; exact ⟨_, rfl, r1⟩
theorem vals2 {x y : V} {us : List Value} (r : Vals [x, y] us) : ∃ u w', us = [u, w'] ∧ RelV x u ∧ RelV y w' := by
  cases r with
  | cons r1 r2 =>
    cases r2 with
    | cons r3 r4 => cases r4; exact ⟨_, _, rfl, r1, r3⟩
theorem call_abs : CallR X (.builtin "abs") (fun xs H Q => ∃ i, xs = [.int i] ∧ Q (.int (if i < 0 then -i else i)) H) := by
  intro pins s σ H xs us Q I r h
  obtain ⟨i, rfl, q⟩ := h
  obtain ⟨u, rfl, t, rfl⟩ := vals1 r
  exact call_abs_int fun u tk => ⟨.int (if i < 0 then -i else i), H, I.tok _, ⟨_, rfl⟩, q⟩
def LenV (K : PySem.W.Frag) (x : V) (H : Hp) (n : Nat) : Prop :=
  match x with
  | .str y => y.length ≤ sizeLine ∧ n = y.length
  | .byt y => y.size ≤ sizeLine ∧ n = y.size
  | .ref p => (∃ xs, SqL K H p xs ∧ n = xs.length) ∨ ∃ xs, SqT K H p xs ∧ n = xs.length
  | _ => False
end
end L2

namespace L2
open PySem PySem.Spec PyProof.Rows

structure ObjM (h : Heap) (x dx C : Addr) (mA : Str → Option Value) : Prop where
  obj : h.get? x = some (PySem.W.instObj C dx)
  ns : h.Ns1 dx mA
  ne : dx ≠ x

theorem lookIn_ns {h : Heap} {dx : Addr} {mA : Str → Option Value} (n : h.Ns1 dx mA) : ∃ od, h.get? dx = some od ∧ ∀ name, PySem.W.lookIn name od = some (mA name) := by
  obtain ⟨o, es, ep, ho, hd, hk, _, hm⟩ := n
  refine ⟨o, ho, fun name => ?_⟩
  have e := hm name
  unfold nsFind findBy at e
  rw [← Array.find?_toList] at e
  unfold PySem.W.lookIn
  rw [hd]
  dsimp only
  split
  · rename_i y q
    rw [q] at e
    exact congrArg some e
  · rename_i q
    rw [q] at e
    have a : es.toList.any (·.refKey) = false := by
      rw [List.any_eq_false]
      intro y hy
      obtain ⟨z, t, hkey⟩ := hk y (Array.mem_toList_iff.mp hy)
      simp [DictEntry.refKey, hkey]
    have a' : ¬ es.toList.any (·.refKey) = true := by rw [a]; exact Bool.false_ne_true
    rw [if_neg a']
    exact congrArg some e

theorem ObjM.look {h : Heap} {x dx C : Addr} {mA : Str → Option Value} (I : ObjM h x dx C mA) : ∃ od, PySem.W.InstAt h x (PySem.W.instObj C dx) C (some od) ∧ ∀ name, PySem.W.lookIn name od = some (mA name) :=
  let ⟨od, ho, hl⟩ := lookIn_ns I.ns
  ⟨od, ⟨I.obj, rfl, rfl, ho⟩, hl⟩

section
variable {prog : Program} {w : World} {A : Around} {E : Value → Shared → Prop} {s : Shared} {K : PySem.W.Frag} {x dx C f : Addr} {mA : Str → Option Value} {name : Str} {v : Value}

theorem get_map {expr : Bool} {Q : Value → Shared → Prop} (X : K.In s.heap) (I : ObjM s.heap x dx C mA) (hg : PySem.W.plainGet K C name = true) (hh : PySem.W.hasDictIn K C = true)
    (ha : PySem.W.findIn K (.ref C) name = some none) (hv : mA name = some v) (hv' : PySem.W.handedIn v = true) (h : Q v { s with toks := s.toks + 1 }) :
    wpAny (model prog w) A (getAttr (.ref x) name expr) Q E s := by
  obtain ⟨od, J, hl⟩ := I.look
  exact PySem.W.get_value X J (PySem.W.plainGet_of hg).1 (PySem.W.findObj_own hh ha rfl (by rw [hl, hv])) hv' h

theorem get_meth {pl : Sem Bool} {Q : Value × List Value → Shared → Prop} (X : K.In s.heap) (I : ObjM s.heap x dx C mA) (hg : PySem.W.plainGet K C name = true)
    (hf : PySem.W.findIn K (.ref C) name = some (some (.ref f))) (ht : PySem.W.isFn K (.ref f) = true) (hv : mA name = none) (h : Q (.ref f, [.ref x]) s) :
    wpAny (model prog w) A (getMethod (.ref x) name pl) Q E s := by
  obtain ⟨od, J, hl⟩ := I.look
  exact PySem.W.method_fn X J (PySem.W.plainGet_of hg).1 (PySem.W.plainGet_of hg).2 hf (beq_iff_eq.mp ht) (by show (PySem.W.lookIn name od).map (·.isSome) = some false; rw [hl, hv]; rfl) h

theorem set_map {ns : List Str} {Q : Unit → Shared → Prop} (X : K.In s.heap) (I : ObjM s.heap x dx C mA)
    (hs : PySem.W.findIn K (.ref C) "__setattr__" = some (some (.builtin "object.__setattr__"))) (hp : PySem.W.plainOver K C = true) (ht : PySem.W.takerIn K C name = some none) (hh : PySem.W.hasDictIn K C = true)
    (hw : PySem.Within mA ns) (hsz : ns.length ≤ sizeLine)
    (h : ∀ h', ObjM h' x dx C (fun y => if y = name then some v else mA y) → Heap.SameBut dx s.heap h' → Q () { s with heap := h', toks := s.toks + 2 }) :
    wpAny (model prog w) A (setAttr (.ref x) name v) Q E s := by
  obtain ⟨od, J, hl⟩ := I.look
  refine PySem.W.set_plain X J hs (PySem.W.osa_open (s := { s with toks := s.toks + 1 }) (r := none) X J hp ht fun b => ?_)
  obtain ⟨cd, hc, hd'⟩ := PySem.W.any_some hh
  have hx : s.heap.get? x = some ⟨.ref C, some dx, .plain, #[]⟩ := I.obj
  refine wpAny_bind (wpAny_pure (wpAny_bind (wpAny_bind (wpAny_loadPart hx (wpAny_bind (PySem.W.Looks.here (s := { s with toks := s.toks + 1 }) (PySem.W.looks_clsIn X hc) ?_))))))
  rw [hd']
  refine wpAny_pure (a := some dx) (wpAny_bind (wpAny_pure (wpAny_bind ?_)))
  refine wpAny_nsSet1 (s := { s with toks := s.toks + 1 }) I.ns fun h' hn2 hs2 => ?_
  obtain ⟨oD, esD, epD, hoD, hdD, hcD⟩ := hn2.count (PySem.Within.cons name v hw)
  refine wpAny_bind (wpAny_lookBehind hoD (by rw [hdD]; exact pastItsLine_dict (Nat.le_trans hcD (by rw [List.length_cons]; omega))) ?_)
  exact wpAny_pure (h _ ⟨(hs2.2 _ (Ne.symm I.ne)).trans I.obj, hn2, I.ne⟩ hs2)

theorem make_map {R : Result → Shared → Prop} {vs : List Value} {kw : List (Str × Value)} (X : K.In s.heap) (hm : PySem.W.makesIn K C = true)
    (hi : PySem.W.findIn K (.ref C) "__init__" = some (some (.ref f))) (hf : PySem.W.typeIn K (.ref f) = some (.type "function"))
    (h : codeAny (model prog w) (A.under (.builtin "type.__call__" ⟨.ref C :: vs, kw⟩)) (.call (.ref f) ⟨.ref (s.heap.objs.size + 1) :: vs, kw⟩) (PySem.W.InitBack (s.heap.objs.size + 1) R)
      { s with heap := (s.heap.push PySem.W.emptyDict).push (PySem.W.instObj C s.heap.objs.size) }) :
    codeAny (model prog w) A (.call (.ref C) ⟨vs, kw⟩) R s := by
  obtain ⟨hh, g, d, t, os⟩ := s
  exact PySem.W.make_core (PySem.W.makes_of X hm) (PySem.W.looks_findIn X hi) (fun self => PySem.W.bind_fn X self hf) (.inl rfl) h
end

def putF (f : Str) (v : V) : List (Str × V) → List (Str × V)
  | [] => [(f, v)]
  | (g, x) :: r => if g = f then (g, v) :: r else (g, x) :: putF f v r
theorem lookup_putF (f g : Str) (v : V) : ∀ fs : List (Str × V), (putF f v fs).lookup g = if g = f then some v else fs.lookup g
  | [] => by
    show List.lookup g [(f, v)] = _
    by_cases h : g = f
    · have hb : (g == f) = true := beq_iff_eq.mpr h
      simp only [List.lookup, hb, if_pos h]
    · have hb : (g == f) = false := beq_eq_false_iff_ne.mpr h
      simp only [List.lookup, hb, if_neg h]
  | (k, x) :: r => by
    have ih := lookup_putF f g v r
    rw [show putF f v ((k, x) :: r) = (if k = f then (k, v) :: r else (k, x) :: putF f v r) from rfl]
    by_cases hk : k = f
    · rw [if_pos hk]
      by_cases h : g = k
      · have hb : (g == k) = true := beq_iff_eq.mpr h
        simp only [List.lookup, hb, if_pos (h.trans hk)]
      · have hb : (g == k) = false := beq_eq_false_iff_ne.mpr h
        simp only [List.lookup, hb, if_neg (fun e : g = f => h (e.trans hk.symm))]
    · rw [if_neg hk]
      by_cases h : g = k
      · have hb : (g == k) = true := beq_iff_eq.mpr h
        simp only [List.lookup, hb, if_neg (fun e : g = f => hk (h.symm.trans e))]
      · have hb : (g == k) = false := beq_eq_false_iff_ne.mpr h
        simp only [List.lookup, hb]
        exact ih
theorem keys_putF (f : Str) (v : V) : ∀ fs : List (Str × V), f ∈ (putF f v fs).map (·.1) ∧ ∀ g, g ∈ fs.map (·.1) → g ∈ (putF f v fs).map (·.1)
  | [] => ⟨by simp [putF], fun g h => by simp at h⟩
  | (k, x) :: r => by
    obtain ⟨i1, i2⟩ := keys_putF f v r
    rw [show putF f v ((k, x) :: r) = (if k = f then (k, v) :: r else (k, x) :: putF f v r) from rfl]
    by_cases hk : k = f
    · rw [if_pos hk]
      subst hk
      exact ⟨by simp, fun g h => by simpa using h⟩
    · rw [if_neg hk]
      refine ⟨?_, fun g h => ?_⟩
      · rw [List.map_cons]
        exact List.mem_cons_of_mem _ i1
      · rw [List.map_cons] at h ⊢
        rcases List.mem_cons.mp h with e | e
        · exact List.mem_cons.mpr (.inl e)
        · exact List.mem_cons_of_mem _ (i2 g e)
theorem length_putF (f : Str) (v : V) : ∀ fs : List (Str × V), (putF f v fs).length ≤ fs.length + 1
  | [] => by simp [putF]
  | (k, x) :: r => by
    have ih := length_putF f v r
    rw [show putF f v ((k, x) :: r) = (if k = f then (k, v) :: r else (k, x) :: putF f v r) from rfl]
    by_cases hk : k = f
    · rw [if_pos hk, List.length_cons, List.length_cons]; omega
    · rw [if_neg hk, List.length_cons, List.length_cons]; omega

theorem RelO.some_of {v : V} {o : Option Value} (r : RelO (some v) o) : ∃ u, o = some u ∧ RelV v u := by
  cases o with
  | none => exact (show False from r).elim
  | some u => exact ⟨u, rfl, r⟩
theorem RelO.none_of {o : Option Value} (r : RelO none o) : o = none := by
  cases o with
  | none => rfl
  | some u => exact (show False from r).elim
theorem handed_of {v : V} {u : Value} (r : RelV v u) : PySem.W.handedIn u = true := by
  cases v with
  | non => cases (show u = Value.none from r); rfl
  | bl b => cases (show u = Value.bool b from r); rfl
  | int i => obtain ⟨t, e⟩ := (show ∃ t, u = Value.int i t from r); cases e; rfl
  | str x => obtain ⟨t, e⟩ := (show ∃ t, u = Value.str x t from r); cases e; rfl
  | byt b => obtain ⟨t, e⟩ := (show ∃ t, u = Value.bytes b t from r); cases e; rfl
  | flt b => obtain ⟨t, e⟩ := (show ∃ t, u = Value.float b t from r); cases e; rfl
  | ref a => cases (show u = Value.ref a from r); rfl
  | ty n => cases (show u = Value.type n from r); rfl

section
variable {P : Program} {w : World} {H H' : Hp} {h h' : Heap} {a C dx : Addr} {fs fs' : List (Str × V)}
theorem ins_get (hok : HOk P w H h) (e : H a = some (.ins C dx fs)) : ∃ mA, ObjM h a dx C mA ∧ (∀ f, RelO (fs.lookup f) (mA f)) ∧ PySem.Within mA (fs.map (·.1)) ∧ fs.length ≤ 1000 ∧ H dx = some (.own a) := by
  obtain ⟨d, z, ne, ob, mA, n, r, q⟩ := (show ObjOk P w H h a (.ins C dx fs) from hok a _ e)
  exact ⟨mA, ⟨ob, n, ne⟩, r, q, z, d⟩
end

structure Cls (K : PySem.W.Frag) (C : Addr) : Prop where
  pg : PySem.W.plainGet K C Str.empty = true
  hd : PySem.W.hasDictIn K C = true
  po : PySem.W.plainOver K C = true
  sa : PySem.W.findIn K (.ref C) "__setattr__" = some (some (.builtin "object.__setattr__"))
theorem Cls.get {K : PySem.W.Frag} {C : Addr} (c : Cls K C) (f : Str) : PySem.W.plainGet K C f = true := c.pg
def NoAttr (K : PySem.W.Frag) (C : Addr) (f : Str) : Prop := PySem.W.findIn K (.ref C) f = some none
theorem NoAttr.taker {K : PySem.W.Frag} {C : Addr} {f : Str} (n : NoAttr K C f) : PySem.W.takerIn K C f = some none := by
  unfold PySem.W.takerIn
  rw [show PySem.W.findIn K (.ref C) f = some none from n]
  rfl
structure Con (K : PySem.W.Frag) (C : Addr) (f : Str) (v : V) (u : Value) : Prop where
  at_ : PySem.W.findIn K (.ref C) f = some (some u)
  rel : RelV v u
  get : PySem.W.specialIn K u "__get__" = some none
  cp : PySem.W.copiedNames.contains f = false
structure Meth (K : PySem.W.Frag) (C : Addr) (m : Str) (f : Addr) : Prop where
  at_ : PySem.W.findIn K (.ref C) m = some (some (.ref f))
  fn : PySem.W.isFn K (.ref f) = true
  kp : PySem.W.keepIn K (.ref f) = true

section
variable {X : Cx} {pins : List (Addr × Obj)} {σ : St} {H : Hp} {s : Shared} {a C dx : Addr} {fs : List (Str × V)} {f : Str} {v : V} {A : Around} {E : Value → Shared → Prop}

theorem getattr_ok {b : Bool} {Q : Value → Shared → Prop} (I : Inv X pins σ H s) (e : H a = some (.ins C dx fs)) (c : Cls X.K C) (n : NoAttr X.K C f) (l : fs.lookup f = some v)
    (h : ∀ u s', Inv X pins σ H s' → RelV v u → Q u s') : wpAny (model X.prog X.w) A (getAttr (.ref a) f b) Q E s := by
  obtain ⟨mA, O, r, _, _, _⟩ := ins_get I.hok e
  obtain ⟨u, hu, ru⟩ := RelO.some_of (v := v) (o := mA f) (by rw [← l]; exact r f)
  exact get_map I.kIn O (c.get f) c.hd n hu (handed_of ru) (h u _ (I.tok _) ru)

theorem getmeth_ok {m : Str} {g : Addr} {pl : Sem Bool} {Q : Value × List Value → Shared → Prop} (I : Inv X pins σ H s) (e : H a = some (.ins C dx fs)) (c : Cls X.K C) (k : Meth X.K C m g) (l : fs.lookup m = none)
    (h : Q (.ref g, [.ref a]) s) : wpAny (model X.prog X.w) A (getMethod (.ref a) m pl) Q E s := by
  obtain ⟨mA, O, r, _, _, _⟩ := ins_get I.hok e
  have hn : mA m = none := RelO.none_of (by rw [← l]; exact r m)
  exact get_meth I.kIn O (c.get m) k.at_ k.fn hn h

theorem setattr_ok {y : V} {u : Value} {Q : Unit → Shared → Prop} (I : Inv X pins σ H s) (e : H a = some (.ins C dx fs)) (c : Cls X.K C) (n : NoAttr X.K C f) (hl : fs.length < 1000) (ry : RelV y u)
    (h : ∀ s', Inv X pins σ (upd H a (.ins C dx (putF f y fs))) s' → Q () s') : wpAny (model X.prog X.w) A (setAttr (.ref a) f u) Q E s := by
  obtain ⟨mA, O, r, wi, _, ho⟩ := ins_get I.hok e
  have hz : (fs.map (·.1)).length ≤ sizeLine := by rw [List.length_map, sizeLine_eq]; omega
  refine set_map I.kIn O c.sa c.po n.taker c.hd wi hz fun h' O' sb => h _ ?_
  have hd : ∃ o, h'.get? dx = some o := let ⟨o, _, _, e', _⟩ := O'.ns; ⟨o, e'⟩
  refine I.write (x := a) (e := dx) (by rw [e]; exact True.intro) (.inr ho) (fun b q hb z => (sb.2 b hb).trans z) hd ?_
  refine ⟨by rw [upd_ne O.ne]; exact ho, ?_, O.ne, O'.obj, _, O'.ns, fun g => ?_, fun g hg => ?_⟩
  · have := length_putF f y fs; omega
  · show RelO ((putF f y fs).lookup g) (if g = f then some u else mA g)
    rw [lookup_putF]
    by_cases q : g = f
    · rw [if_pos q, if_pos q]; exact ry
    · rw [if_neg q, if_neg q]; exact r g
  · by_cases q : g = f
    · rw [q]; exact (keys_putF f y fs).1
    · refine (keys_putF f y fs).2 g (wi g fun z => hg ?_)
      show (if g = f then some u else mA g) = none
      rw [if_neg q]; exact z

theorem Inv.made (I : Inv X pins σ H s) : Inv X pins σ (upd (upd H s.heap.objs.size (.own (s.heap.objs.size + 1))) (s.heap.objs.size + 1) (.ins C s.heap.objs.size []))
    { s with heap := (s.heap.push PySem.W.emptyDict).push (PySem.W.instObj C s.heap.objs.size) } := by
  have e1 : (s.heap.push PySem.W.emptyDict).get? s.heap.objs.size = some PySem.W.emptyDict := Heap.get?_push_size s.heap rfl
  have e2 : ((s.heap.push PySem.W.emptyDict).push (PySem.W.instObj C s.heap.objs.size)).get? (s.heap.objs.size + 1) = some (PySem.W.instObj C s.heap.objs.size) := by
    have := Heap.get?_push_size (s.heap.push PySem.W.emptyDict) (o := PySem.W.instObj C s.heap.objs.size) rfl
    rwa [Heap.size_push] at this
  have e3 : (s.heap.push PySem.W.emptyDict).Ns s.heap.objs.size (fun _ => none) := ⟨PySem.W.emptyDict, #[], _, e1, rfl, (fun e he => absurd he (by simp)), fun _ => rfl⟩
  have I1 := I.laid (a := s.heap.objs.size) (o := .own (s.heap.objs.size + 1)) (h' := s.heap.push PySem.W.emptyDict) (t' := s.toks) (fun b u q => Heap.get?_push_of_some _ q) (Nat.le_refl _) ⟨_, e1⟩
  refine I1.laid (a := s.heap.objs.size + 1) (o := .ins C s.heap.objs.size []) (t' := s.toks) (fun b u q => Heap.get?_push_of_some _ q) (Nat.le_of_eq (Heap.size_push _ _)) ?_
  have ne : s.heap.objs.size ≠ s.heap.objs.size + 1 := Nat.ne_of_lt (Nat.lt_succ_self _)
  refine ⟨by rw [upd_ne ne, upd_same], Nat.zero_le _, ne, e2, fun _ => none, (Heap.Ns1.of_empty e3).at fun o q => Heap.get?_push_of_some _ q, fun _ => True.intro, fun y hy => absurd rfl hy⟩

theorem attr_of {prog : Program} {w : World} {env : Env} {e : Expr} {f : Str} {pos : Pos} {s : Shared} {Q : Value → Shared → Prop} (hb : attributeBase e f env (eval e env) = eval e env)
    (h : wpAny (model prog w) A (eval e env) (fun o s₁ => wpAny (model prog w) A (getAttr o f true) Q E s₁) E s) : wpAny (model prog w) A (eval (.Attribute e f pos) env) Q E s :=
  Attribute_any_ h (by rw [arm_eval_Attribute, hb])
end

def tFld (K : PySem.W.Frag) (ta : TE) (f : Str) : TE := fun σ H Q => ta σ H fun x H1 => ∃ a C dx fs v, x = .ref a ∧ H1 a = some (.ins C dx fs) ∧ Cls K C ∧ NoAttr K C f ∧ fs.lookup f = some v ∧ Q v H1
def tCon (K : PySem.W.Frag) (ta : TE) (f : Str) : TE := fun σ H Q => ta σ H fun x H1 => ∃ a C dx fs v u, x = .ref a ∧ H1 a = some (.ins C dx fs) ∧ Cls K C ∧ Con K C f v u ∧ fs.lookup f = none ∧ Q v H1
def sFld (K : PySem.W.Frag) (ta tv : TE) (f : Str) : TS := fun D σ H => tv σ H fun y H1 => ta σ H1 fun x H2 => ∃ a C dx fs, x = .ref a ∧ H2 a = some (.ins C dx fs) ∧ Cls K C ∧ NoAttr K C f ∧ fs.length < 1000 ∧
  D.nx σ (upd H2 a (.ins C dx (putF f y fs)))
def InOp (X : Cx) (op : Operator) (rd : V → V → Hp → VK → Prop) : Prop :=
  ∀ (pins : List (Addr × Obj)) (s : Shared) (σ : St) (H : Hp) (x y : V) (u v : Value) (Q : VK), Inv X pins σ H s → RelV x u → RelV y v → rd x y H Q → wpAny (model X.prog X.w) X.A (inplaceOp op u v) (EP X pins σ Q) X.xe s
def sFldAug (K : PySem.W.Frag) (ta tv : TE) (rd : V → V → Hp → VK → Prop) (f : Str) : TS := fun D σ H => ta σ H fun x H1 => ∃ a C dx fs v, x = .ref a ∧ H1 a = some (.ins C dx fs) ∧ Cls K C ∧ NoAttr K C f ∧ fs.lookup f = some v ∧
  tv σ H1 fun y H2 => rd v y H2 fun z H3 => ∃ dx' fs', H3 a = some (.ins C dx' fs') ∧ fs'.length < 1000 ∧ D.nx σ (upd H3 a (.ins C dx' (putF f z fs')))

section
variable {X : Cx} {o e value : Expr} {f : Str} {pos pos' tpos : Pos} {ta tv : TE}
theorem pe_fld (he : PE X e ta) (hb : attributeBase e f X.env (eval e X.env) = eval e X.env) : PE X (.Attribute e f pos) (tFld X.K ta f) := by
  intro pins s σ H Q I h
  refine attr_of hb (thn (he pins s σ H _ I h) fun u s1 ⟨x, H1, I1, rx, a, C, dx, fs, v, ex, ea, c, n, l, q⟩ => ?_)
  subst ex
  obtain rfl : u = Value.ref a := rx
  exact getattr_ok I1 ea c n l fun u' s2 I2 ru => ⟨v, H1, I2, ru, q⟩
theorem ps_fld (ha : PE X o ta) (hv : PE X value tv) (hs : swapsWith value (some (.Attribute o f pos')) pos.line X.env = pure false) : PS X (.Assign [.Attribute o f pos'] value pos) (sFld X.K ta tv f) := by
  intro pins s σ H D I h
  refine plainObj_wpAny_Assign_Attribute (thn (hv pins s σ H _ I h) fun u s1 ⟨y, H1, I1, ry, q⟩ => thn (ha pins s1 σ H1 _ I1 q) fun ov s2 ⟨x, H2, I2, rx, a, C, dx, fs, ex, ea, c, n, l, q2⟩ => ?_) hs
  subst ex
  obtain rfl : ov = Value.ref a := rx
  exact setattr_ok I2 ea c n l ry fun s3 I3 => ⟨σ, _, I3, q2⟩
def rAdd : V → V → Hp → VK → Prop := fun x y H Q => ∃ i j, x = .int i ∧ y = .int j ∧ Q (.int (i + j)) H
def rSub : V → V → Hp → VK → Prop := fun x y H Q => ∃ i j, x = .int i ∧ y = .int j ∧ Q (.int (i - j)) H
end

section
variable {X : Cx} {pins : List (Addr × Obj)} {σ : St} {H : Hp} {s : Shared} {A : Around} {E : Value → Shared → Prop} {Q : Value → Shared → Prop} {c : Value} {b : Bool}
inductive TyOf (K : PySem.W.Frag) (H : Hp) : V → Value → Prop where
  | non : TyOf K H .non (.type "NoneType")
  | bl (x : Bool) : TyOf K H (.bl x) (.type "bool")
  | int (i : Int) : TyOf K H (.int i) (.type "int")
  | str (x : Str) : TyOf K H (.str x) (.type "str")
  | flt (x : UInt64) : TyOf K H (.flt x) (.type "float")
  | lst {a : Addr} {xs : List V} (e : H a = some (.lst xs)) : TyOf K H (.ref a) (.type "list")
  | frz {a : Addr} {o : Obj} {xs : List V} (e : H a = some (.frz o (.lst xs))) : TyOf K H (.ref a) (.type "list")
  | tup {a : Addr} {xs : List V} (e : H a = some (.tup xs)) : TyOf K H (.ref a) (.type "tuple")
  | dK {a : Addr} {kvs : List (Key × V)} (e : H a = some (.dK kvs)) : TyOf K H (.ref a) (.type "dict")
  | dT {a : Addr} {kvs : List (List Key × V)} (e : H a = some (.dT kvs)) : TyOf K H (.ref a) (.type "dict")
  | ins {a C dx : Addr} {fs : List (Str × V)} (e : H a = some (.ins C dx fs)) (cl : Cls K C) (ha : PySem.W.findIn K (.ref C) "__class__" = some (some (.builtin "object.__class__")))
      (hn : PySem.W.specialIn K (.builtin "object.__class__") "__get__" = some (some (.builtin "getset_descriptor.__get__"))) (htk : PySem.W.takesIn K (.builtin "object.__class__") = some true)
      (hm : PySem.W.mroIn K C (.type "object") = some true) : TyOf K H (.ref a) (.ref C)
theorem isinst_ok {x : V} {u t : Value} (I : Inv X pins σ H s) (rx : RelV x u) (ty : TyOf X.K H x t) (e : PySem.W.kitOne X.K t c = some b) (h : ∀ tk, Q (.bool b) { s with toks := tk }) :
    wpAny (model X.prog X.w) A (call (.builtin "isinstance") [u, c]) Q E s := by
  cases ty with
  | non => cases (show u = Value.none from rx); exact PySem.W.kia_one PySem.W.kitx_none I.kIn True.intro e (fun z => nomatch z) h
  | bl y => cases (show u = Value.bool y from rx); exact PySem.W.kia_one PySem.W.kitx_bool I.kIn True.intro e (fun z => nomatch z) h
  | int i => obtain ⟨t, q⟩ := (show ∃ t, u = Value.int i t from rx); cases q; exact PySem.W.kia_one PySem.W.kitx_int I.kIn True.intro e (fun z => nomatch z) h
  | str y => obtain ⟨t, q⟩ := (show ∃ t, u = Value.str y t from rx); cases q; exact PySem.W.kia_one PySem.W.kitx_str I.kIn True.intro e (fun z => nomatch z) h
  | flt y => obtain ⟨t, q⟩ := (show ∃ t, u = Value.float y t from rx); cases q; exact PySem.W.kia_one PySem.W.kitx_float I.kIn True.intro e (fun z => nomatch z) h
  | @lst a xs ea =>
    cases (show u = Value.ref a from rx)
    obtain ⟨_, _, n, _, h1⟩ := (show ObjOk X.prog X.w H s.heap a (.lst xs) from I.hok a _ ea)
    exact PySem.W.kia_one PySem.W.kitx_list I.kIn ⟨_, h1, rfl⟩ e (fun z => nomatch z) h
  | @frz a ob xs ea =>
    cases (show u = Value.ref a from rx)
    obtain ⟨_, _, _, n, _, h1⟩ := (show ObjOk X.prog X.w H s.heap a (.frz ob (.lst xs)) from I.hok a _ ea)
    exact PySem.W.kia_one PySem.W.kitx_list I.kIn ⟨_, h1, rfl⟩ e (fun z => nomatch z) h
  | @tup a xs ea =>
    cases (show u = Value.ref a from rx)
    obtain ⟨_, _, _, p⟩ := (show ObjOk X.prog X.w H s.heap a (.tup xs) from I.hok a _ ea)
    obtain ⟨o, h1, h2, _⟩ := p
    exact PySem.W.kia_one PySem.W.kitx_tuple I.kIn ⟨o, h1, h2⟩ e (fun z => nomatch z) h
  | @dK a kvs ea =>
    cases (show u = Value.ref a from rx)
    obtain ⟨_, _, vs, _, p⟩ := (show ObjOk X.prog X.w H s.heap a (.dK kvs) from I.hok a _ ea)
    obtain ⟨o, es, ep, h1, h2, _⟩ := p
    exact PySem.W.kia_one PySem.W.kitx_dict I.kIn ⟨o, h1, h2.1⟩ e (fun z => nomatch z) h
  | @dT a kvs ea =>
    cases (show u = Value.ref a from rx)
    obtain ⟨_, _, xs, _, o, es, ep, h1, h2, _⟩ := (show ObjOk X.prog X.w H s.heap a (.dT kvs) from I.hok a _ ea)
    exact PySem.W.kia_one PySem.W.kitx_dict I.kIn ⟨o, h1, h2.1⟩ e (fun z => nomatch z) h
  | @ins a C dx fs ea cl ha hn htk hm =>
    cases (show u = Value.ref a from rx)
    obtain ⟨mA, O, _⟩ := ins_get I.hok ea
    obtain ⟨od, J, _⟩ := O.look
    exact PySem.W.kia_one (PySem.W.kitx_own (cl.get _) cl.hd ha hn htk hm) I.kIn J e (fun z => nomatch z) h
end
end L2

namespace L2
open PySem PySem.Spec PyProof.Rows

structure Room (k : Nat) (A : Around) : Prop where
  hd : A.handled = none
  dp : A.depth + 3 * k + 5 < recursionLimit
  un : A.units + 16 * k + 200 < cLine
theorem Room.mono {j k : Nat} {A : Around} (r : Room k A) (h : j ≤ k) : Room j A := ⟨r.hd, by have := r.dp; omega, by have := r.un; omega⟩
theorem Room.deeper {k : Nat} {A : Around} (r : Room (k + 1) A) (env : Env) : Room k (A.deeper env) :=
  ⟨r.hd, by have := r.dp; show A.depth + 1 + 3 * k + 5 < _; omega, by have := r.un; show A.units + 3 + 16 * k + 200 < _; omega⟩
theorem make_depth {A : Around} {C : Addr} {us : List Value} {kw : List (Str × Value)} : (A.under (.builtin "type.__call__" ⟨.ref C :: us, kw⟩)).depth = A.depth + 1 := by
  first | rfl | simp [Around.under, Code.weight, Code.isCreation, Code.isGuard, Code.isCaller, Code.frames, Code.isFrame, guardIds]
theorem make_units {A : Around} {C : Addr} {us : List Value} {kw : List (Str × Value)} : (A.under (.builtin "type.__call__" ⟨.ref C :: us, kw⟩)).units = A.units + 1 := by
  first | rfl | simp [Around.under, Code.cUnits, Code.frames, Code.isFrame]
theorem Room.make {k : Nat} {A : Around} (r : Room (k + 1) A) (C : Addr) (us : List Value) (kw : List (Str × Value)) : Room k (A.under (.builtin "type.__call__" ⟨.ref C :: us, kw⟩)) :=
  ⟨r.hd, by have := r.dp; rw [make_depth]; omega, by have := r.un; rw [make_units]; omega⟩
theorem Room.depth {k : Nat} {A : Around} (r : Room k A) : A.depth < recursionLimit := by have := r.dp; omega
theorem Room.units {k : Nat} {A : Around} (r : Room k A) : A.units + 64 < cLine := by have := r.un; omega
def tNil : TA := fun _ H Q => Q [] H
def tCons (ta : TE) (tr : TA) : TA := fun σ H Q => ta σ H fun x H1 => tr σ H1 fun xs H2 => Q (x :: xs) H2
section
variable {X : Cx} {e : Expr} {es : List Expr} {te : TE} {t : TA} {pos : Pos}
theorem pa_nil : PA X [] tNil := fun _ _ _ _ H Q I h => Calls.spliced_nil ⟨[], H, I, .nil, h⟩
theorem pa_cons (ha : PE X e te) (hr : PA X es t) (hs : starEach (e :: es) X.env = (false, eval e X.env) :: starEach es X.env := by rfl) : PA X (e :: es) (tCons te t) := by
  intro pos pins s σ H Q I h
  rw [hs]
  show wpAny _ _ (spliced ((false, eval e X.env) :: backTo pos (starEach es X.env))) _ _ s
  refine Calls.spliced_cons (thn (ha pins s σ H _ I h) fun u s1 ⟨x, H1, I1, r1, q1⟩ => ?_)
  exact thn (hr pos pins s1 σ H1 _ I1 q1) fun us s2 ⟨xs, H2, I2, r2, q2⟩ => ⟨x :: xs, H2, I2, .cons r1 r2, q2⟩

def tTup (t : TA) : TE := fun σ H Q => t σ H fun xs H1 => xs.length ≤ sizeLine ∧ ∀ p, H1 p = none → Q (.ref p) (upd H1 p (.tup xs))
def tLst (t : TA) : TE := fun σ H Q => t σ H fun xs H1 => xs.length ≤ sizeLine ∧ ∀ p, H1 p = none → Q (.ref p) (upd H1 p (.lst xs))
theorem pe_tup {x1} (h : PA X es t) : PE X (.Tuple es x1 pos) (tTup t) := by
  intro pins s σ H Q I hq
  refine wpAny_Tuple_spliced (thn (h pos pins s σ H _ I hq) fun us s1 ⟨xs, H1, I1, r, z, q⟩ => ⟨by rw [← r.length]; exact z, ?_⟩)
  have hf : H1 s1.heap.objs.size = none := I1.hok.fresh (Nat.le_refl _)
  refine ⟨.ref s1.heap.objs.size, upd H1 s1.heap.objs.size (.tup xs), I1.laid (t' := s1.toks) (fun b u e => Heap.get?_push_of_some _ e) (Nat.le_refl _) ?_, rfl, q _ hf⟩
  exact ⟨z, us, r, ⟨_, Heap.get?_push_size _ rfl, rfl, _, rfl⟩⟩
theorem pe_lst (h : PA X es t) : PE X (.List es pos) (tLst t) := by
  intro pins s σ H Q I hq
  refine wpAny_List_spliced (thn (h pos pins s σ H _ I hq) fun us s1 ⟨xs, H1, I1, r, z, q⟩ => ⟨by rw [← r.length]; exact z, ?_⟩)
  have hf : H1 s1.heap.objs.size = none := I1.hok.fresh (Nat.le_refl _)
  refine ⟨.ref s1.heap.objs.size, upd H1 s1.heap.objs.size (.lst xs), I1.laid (t' := s1.toks) (fun b u e => Heap.get?_push_of_some _ e) (Nat.le_refl _) ?_, rfl, q _ hf⟩
  exact ⟨z, us, 0, r, Heap.get?_push_size _ rfl⟩
end

abbrev Sp := List V → Hp → VK → XK → Prop
abbrev CXT := List Env → Hp → Shared → XK → Value → Shared → Prop

structure Env0 (P : Program) (w : World) (K : PySem.W.Frag) (mg : Str → Option Value) (base : Heap) (A : Around) (outer : List Env) (s : Shared) (H : Hp) : Prop where
  frames : A.frames = some outer
  mod : Mod K mg base
  bs : ∀ b o, base.get? b = some o → s.heap.get? b = some o ∧ H b = none
  bsz : base.objs.size ≤ s.heap.objs.size
  funs : s.heap.FunFrames base outer
  frf : ∀ b ∈ frs outer, H b = none
  hok : HOk P w H s.heap
  bare : AllBare s.gens
def CE (outer : List Env) (P : Program) (w : World) (H : Hp) (s : Shared) (Q : VK) (u : Value) (s' : Shared) : Prop :=
  ∃ v H', s'.os = s.os ∧ AllBare s'.gens ∧ Un (frs outer) [] H H' s.heap s'.heap ∧ HOk P w H' s'.heap ∧ RelV v u ∧ Q v H'
def CR (CX : CXT) (outer : List Env) (P : Program) (w : World) (H : Hp) (s : Shared) (Q : VK) (E : XK) (r : Result) (s' : Shared) : Prop :=
  match r with
  | .ok (.ret u) => CE outer P w H s Q u s'
  | .ok _ => False
  | .error e => CX outer H s E e s'
structure FnOk (P : Program) (w : World) (K : PySem.W.Frag) (mg : Str → Option Value) (base : Heap) (CX : CXT) (k : Nat) (f : Addr) (fd : FuncData) (ps : List Str) (sp : Sp) : Prop where
  len : ∀ vs H Q E, sp vs H Q E → vs.length = ps.length
  run : ∀ (A : Around) (outer : List Env) (s : Shared) (H : Hp) (args : Args) (us : List Value) (vs : List V) (Q : VK) (E : XK), Room k A → Env0 P w K mg base A outer s H → BindsTo s fd args (ps.zip us) → Vals vs us → sp vs H Q E →
    codeAny (model P w) A (.call (.ref f) args) (CR CX outer P w H s Q E) s
theorem Env0.make {P : Program} {w : World} {K : PySem.W.Frag} {mg : Str → Option Value} {base : Heap} {A : Around} {outer : List Env} {s : Shared} {H : Hp} (e : Env0 P w K mg base A outer s H) (C : Addr) (us : List Value) (kw : List (Str × Value)) :
    Env0 P w K mg base (A.under (.builtin "type.__call__" ⟨.ref C :: us, kw⟩)) outer s H := ⟨by first | exact e.frames | (simpa [Around.under, Code.envs, Code.isFrame, pushEnvs] using e.frames), e.mod, e.bs, e.bsz, e.funs, e.frf, e.hok, e.bare⟩
section
variable {X : Cx} {pins : List (Addr × Obj)} {σ : St} {H : Hp} {s s' : Shared}
theorem Inv.env0 (I : Inv X pins σ H s) : Env0 X.prog X.w X.K X.mg X.base X.A X.stack s H :=
  ⟨I.ok.frames, I.ok.mod, I.bs, Nat.le_trans I.ok.bsz I.sz, I.stack, I.stkFree, I.hok, I.bare⟩
theorem Inv.after {Q : VK} {u : Value} (I : Inv X pins σ H s) (h : CE X.stack X.prog X.w H s Q u s') : EP X pins σ Q u s' := by
  obtain ⟨v, H', os, bare, un, hok, r, q⟩ := h
  obtain ⟨hh, g, d, t, os'⟩ := s'
  obtain rfl : os' = s.os := os
  exact ⟨v, H', I.call (h' := hh) (g' := g) (d' := d) (t' := t) (ch := []) un hok bare (fun b z => absurd z (by simp)), r, q⟩
end

def tCall (sp : Sp) (dvs : List V) (E : XK) (t : TA) : TE := fun σ H Q => t σ H fun vs H1 => sp (vs ++ dvs) H1 Q E
def tMeth (C : Addr) (m : Str) (sp : Sp) (dvs : List V) (E : XK) (ta : TE) (t : TA) : TE := fun σ H Q => ta σ H fun x H1 => ∃ a dx fs, x = .ref a ∧ H1 a = some (.ins C dx fs) ∧ fs.lookup m = none ∧
  t σ H1 fun vs H2 => sp (x :: (vs ++ dvs)) H2 Q E
def tMake (C : Addr) (sp : Sp) (dvs : List V) (E : XK) (t : TA) : TE := fun σ H Q => t σ H fun vs H1 => ∀ x dx, H1 x = none → H1 dx = none → dx ≠ x →
  sp (.ref x :: (vs ++ dvs)) (upd (upd H1 dx (.own x)) x (.ins C dx [])) (fun v H2 => v = .non ∧ Q (.ref x) H2) E

def Binds (K : PySem.W.Frag) (fd : FuncData) (ps : List Str) (ds : List Value) : Prop :=
  ∀ (s : Shared) (us : List Value), K.In s.heap → (us ++ ds).length = ps.length → BindsTo s fd ⟨us, []⟩ (ps.zip (us ++ ds))
theorem Binds.all {K : PySem.W.Frag} {fd : FuncData} {ps : List Str} (h : ∀ us : List Value, us.length = ps.length → bindArgs fd ⟨us, []⟩ = pure (ps.zip us)) : Binds K fd ps [] := fun s us _ hl => by
  rw [List.append_nil] at hl ⊢
  exact .of_eq (h us hl)

def Passes (CX : CXT) (X : Cx) (E : XK) : Prop := ∀ (pins : List (Addr × Obj)) (σ : St) (H : Hp) (s : Shared) (e : Value) (s' : Shared), Inv X pins σ H s → CX X.stack H s E e s' → X.xe e s'

section
variable {X : Cx} {CX : CXT} {k : Nat} {f C : Addr} {fd : FuncData} {ps : List Str} {sp : Sp} {dvs : List V} {ds : List Value} {E : XK} {x m : Str} {p pos apos : Pos} {e o : Expr} {es : List Expr} {ta : TE} {t : TA}

theorem run_fn {pins : List (Addr × Obj)} {σ : St} {H : Hp} {s : Shared} {Q : VK} {us : List Value} {vs : List V} (F : FnOk X.prog X.w X.K X.mg X.base CX k f fd ps sp) (hr : Room k X.A) (hb : Binds X.K fd ps ds) (hd : Vals dvs ds) (hx : Passes CX X E)
    (I : Inv X pins σ H s) (r : Vals vs us) (h : sp (vs ++ dvs) H Q E) : wpAny (model X.prog X.w) X.A (call (.ref f) us) (EP X pins σ Q) X.xe s := by
  have r2 : Vals (vs ++ dvs) (us ++ ds) := r.append hd
  have hl : (us ++ ds).length = ps.length := by rw [← r2.length]; exact F.len _ _ _ _ h
  refine wpAny_call (codeAny_mono (F.run X.A X.stack s H ⟨us, []⟩ (us ++ ds) (vs ++ dvs) Q E hr I.env0 (hb s us I.kIn hl) r2 h) fun r s' hq => ?_)
  cases r with
  | error e => exact hx pins σ H s e s' I hq
  | ok fl =>
    cases fl with
    | ret u => exact I.after hq
    | next => exact False.elim hq
    | brk => exact False.elim hq
    | cont => exact False.elim hq

theorem pe_call (F : FnOk X.prog X.w X.K X.mg X.base CX k f fd ps sp) (hr : Room k X.A) (hg : Gl X x) (hm : X.mg x = some (.ref f)) (hk : PySem.W.keepIn X.K (.ref f) = true) (hb : Binds X.K fd ps ds) (hd : Vals dvs ds) (hx : Passes CX X E)
    (ha : PA X (e :: es) t) (hdb : (x == ("__debug__" : Str)) = false := by decide) (he : starEach (e :: es) X.env = (false, eval e X.env) :: starEach es X.env := by rfl) (hpl : (backTo pos (starEach es X.env)).any (·.1) = false := by rfl) :
    PE X (.Call (.Name x p) (e :: es) [] pos) (tCall sp dvs E t) := by
  intro pins s σ H Q I h
  refine wpAny_Call_Name_kw (ld_glob I hg hm ?_ hdb)
  refine PySem.W.callWith_K (h₀ := X.base) I.ok.mod.kin hk (thn (ha pos pins s σ H _ I h) fun us s1 ⟨vs, H1, I1, r, q⟩ => ⟨I1.kIn, ?_⟩) he hpl
  exact run_fn F hr hb hd hx I1 r q
structure Mk (K : PySem.W.Frag) (C f : Addr) : Prop where
  makes : PySem.W.makesIn K C = true
  init : PySem.W.findIn K (.ref C) "__init__" = some (some (.ref f))
  fn : PySem.W.isFn K (.ref f) = true
  kp : PySem.W.keepIn K (.ref C) = true

theorem run_make {pins : List (Addr × Obj)} {σ : St} {H : Hp} {s : Shared} {Q : VK} {us : List Value} {vs : List V} (M : Mk X.K C f) (F : FnOk X.prog X.w X.K X.mg X.base CX k f fd ps sp) (hr : Room (k + 1) X.A) (hb : Binds X.K fd ps ds) (hd : Vals dvs ds)
    (hx : Passes CX X E) (I : Inv X pins σ H s) (r : Vals vs us)
    (h : ∀ x dx, H x = none → H dx = none → dx ≠ x → sp (.ref x :: (vs ++ dvs)) (upd (upd H dx (.own x)) x (.ins C dx [])) (fun v H2 => v = .non ∧ Q (.ref x) H2) E) :
    wpAny (model X.prog X.w) X.A (call (.ref C) us) (EP X pins σ Q) X.xe s := by
  have hq := h (s.heap.objs.size + 1) s.heap.objs.size (I.hok.fresh (Nat.le_succ _)) (I.hok.fresh (Nat.le_refl _)) (Nat.ne_of_lt (Nat.lt_succ_self _))
  have I2 := Inv.made (C := C) I
  have r2 : Vals (V.ref (s.heap.objs.size + 1) :: (vs ++ dvs)) (Value.ref (s.heap.objs.size + 1) :: (us ++ ds)) := .cons rfl (r.append hd)
  have hl : (Value.ref (s.heap.objs.size + 1) :: us ++ ds).length = ps.length := by
    have e := r2.length
    rw [F.len _ _ _ _ hq] at e
    exact e.symm
  refine wpAny_call (make_map (f := f) I.kIn M.makes M.init (beq_iff_eq.mp M.fn) (codeAny_mono (F.run _ X.stack _ _ ⟨Value.ref (s.heap.objs.size + 1) :: us, []⟩ (Value.ref (s.heap.objs.size + 1) :: (us ++ ds)) _ _ E (hr.make C us [])
    (I2.env0.make C us []) (hb _ (Value.ref (s.heap.objs.size + 1) :: us) I2.kIn hl) r2 hq) fun r s' hq' => ?_))
  cases r with
  | error e => exact hx pins σ _ _ e s' I2 hq'
  | ok fl =>
    cases fl with
    | ret u =>
      obtain ⟨v, H', I3, rv, ev, q3⟩ := I2.after hq'
      subst ev
      exact ⟨rv, ⟨V.ref (s.heap.objs.size + 1), H', I3, rfl, q3⟩⟩
    | next => exact False.elim hq'
    | brk => exact False.elim hq'
    | cont => exact False.elim hq'
theorem pe_make (M : Mk X.K C f) (F : FnOk X.prog X.w X.K X.mg X.base CX k f fd ps sp) (hr : Room (k + 1) X.A) (hg : Gl X x) (hm : X.mg x = some (.ref C)) (hb : Binds X.K fd ps ds) (hd : Vals dvs ds) (hx : Passes CX X E)
    (ha : PA X (e :: es) t) (hdb : (x == ("__debug__" : Str)) = false := by decide) (he : starEach (e :: es) X.env = (false, eval e X.env) :: starEach es X.env := by rfl) (hpl : (backTo pos (starEach es X.env)).any (·.1) = false := by rfl) :
    PE X (.Call (.Name x p) (e :: es) [] pos) (tMake C sp dvs E t) := by
  intro pins s σ H Q I h
  refine wpAny_Call_Name_kw (ld_glob I hg hm ?_ hdb)
  refine PySem.W.callWith_K (h₀ := X.base) I.ok.mod.kin M.kp (thn (ha pos pins s σ H _ I h) fun us s1 ⟨vs, H1, I1, r, q⟩ => ⟨I1.kIn, ?_⟩) he hpl
  exact run_make M F hr hb hd hx I1 r q
end

def PK (X : Cx) (kws : List Keyword) (t : TA) : Prop :=
  ∀ (pos : Pos) (pins : List (Addr × Obj)) (s : Shared) (σ : St) (H : Hp) (Q : List V → Hp → Prop), Inv X pins σ H s → t σ H Q → wpAny (model X.prog X.w) X.A (evalAll ((backToKw pos (keywordEach kws X.env)).map (·.2))) (AP X pins σ Q) X.xe s
section
variable {X : Cx} {CX : CXT} {k : Nat} {f C : Addr} {fd : FuncData} {ps ks : List Str} {sp : Sp} {E : XK} {x m : Str} {p pos apos kpos : Pos} {e o : Expr} {es : List Expr} {kws : List Keyword} {te ta : TE} {t tk : TA} {nm : Option Str}
structure KBinds (K : PySem.W.Frag) (fd : FuncData) (ps ks : List Str) (g : List Value → List Value → List Value) (gV : List V → List V → List V) : Prop where
  to : ∀ (s : Shared) (us ws : List Value), K.In s.heap → (g us ws).length = ps.length → BindsTo s fd ⟨us, ks.zip ws⟩ (ps.zip (g us ws))
  rel : ∀ {vs : List V} {us : List Value} {zs : List V} {ws : List Value}, Vals vs us → Vals zs ws → Vals (gV vs zs) (g us ws)
def tCallK (sp : Sp) (gV : List V → List V → List V) (E : XK) (t tk : TA) : TE := fun σ H Q => t σ H fun vs H1 => tk σ H1 fun zs H2 => sp (gV vs zs) H2 Q E
variable {g : List Value → List Value → List Value} {gV : List V → List V → List V}
end

structure FnScope (N P : List Str) (sc : Scope) : Prop where
  kind : sc.kind = .function
  co : sc.isCoroutine = false
  gen : sc.isGenerator = false
  nd : N.Nodup
  pre : N.take P.length = P
  par : ∀ x ∈ P, sc.names.lookup x = some .local ∨ sc.names.lookup x = some .cell
  nofree : ∀ y ∈ sc.names, y.2 ≠ .free

theorem bindL_out {kindOf : Str → Option NameKind} {x : Str} : ∀ {binds : List (Str × Value)} {m : Str → Option Value}, (∀ v, (x, v) ∉ binds) → bindL kindOf binds m x = m x
  | [], _, _ => rfl
  | (n, v) :: r, m, h => by
    unfold bindL
    rw [bindL_out fun w hw => h w (List.mem_cons_of_mem _ hw)]
    split
    · have : x ≠ n := by rintro rfl; exact h v List.mem_cons_self
      simp [this]
    · rfl
theorem bindC_out {kindOf : Str → Option NameKind} {x : Str} : ∀ {binds : List (Str × Value)} {m : Str → Option Value}, (∀ v, (x, v) ∉ binds) → bindC kindOf binds m x = m x
  | [], _, _ => rfl
  | (n, v) :: r, m, h => by
    unfold bindC
    rw [bindC_out fun w hw => h w (List.mem_cons_of_mem _ hw)]
    split
    · rfl
    · have : x ≠ n := by rintro rfl; exact h v List.mem_cons_self
      simp [this]
theorem bindL_get {kindOf : Str → Option NameKind} {x : Str} {v : Value} : ∀ {P : List Str} {vs : List Value} {i : Nat} {m : Str → Option Value}, P.Nodup → P[i]? = some x → vs[i]? = some v → kindOf x = some .local →
    bindL kindOf (P.zip vs) m x = some v
  | [], _, _, _, _, h, _, _ => by simp at h
  | _ :: _, [], _, _, _, _, h, _ => by simp at h
  | p :: P, w :: vs, 0, m, nd, h1, h2, hk => by
    simp at h1 h2; subst h1; subst h2
    show bindL kindOf ((p, w) :: P.zip vs) m p = _
    unfold bindL
    rw [bindL_out fun v hv => (List.nodup_cons.mp nd).1 (List.of_mem_zip hv).1, if_pos hk]
    simp
  | p :: P, w :: vs, i + 1, m, nd, h1, h2, hk => by
    show bindL kindOf ((p, w) :: P.zip vs) m x = _
    unfold bindL
    exact bindL_get (i := i) (List.nodup_cons.mp nd).2 (by simpa using h1) (by simpa using h2) hk
theorem bindC_get {kindOf : Str → Option NameKind} {x : Str} {v : Value} : ∀ {P : List Str} {vs : List Value} {i : Nat} {m : Str → Option Value}, P.Nodup → P[i]? = some x → vs[i]? = some v → kindOf x ≠ some .local →
    bindC kindOf (P.zip vs) m x = some v
  | [], _, _, _, _, h, _, _ => by simp at h
  | _ :: _, [], _, _, _, _, h, _ => by simp at h
  | p :: P, w :: vs, 0, m, nd, h1, h2, hk => by
    simp at h1 h2; subst h1; subst h2
    show bindC kindOf ((p, w) :: P.zip vs) m p = _
    unfold bindC
    rw [bindC_out fun v hv => (List.nodup_cons.mp nd).1 (List.of_mem_zip hv).1, if_neg hk]
    simp
  | p :: P, w :: vs, i + 1, m, nd, h1, h2, hk => by
    show bindC kindOf ((p, w) :: P.zip vs) m x = _
    unfold bindC
    exact bindC_get (i := i) (List.nodup_cons.mp nd).2 (by simpa using h1) (by simpa using h2) hk

def start (N : List Str) (vs : List V) : St := vs.map some ++ List.replicate (N.length - vs.length) none

def cxOf (CX : CXT) (P : Program) (w : World) (K : PySem.W.Frag) (mg : Str → Option Value) (base : Heap) (N : List Str) (qual : Str) (scope : Scope) (f : Addr) (cd : Value) (A : Around) (outer : List Env) (s : Shared) (H : Hp) (E : XK) : Cx where
  prog := P
  w := w
  K := K
  mg := mg
  base := base
  A := A.deeper (envOfC qual scope s.heap.objs.size f cd)
  N := N
  s₀ := s
  H₀ := H
  env := envOfC qual scope s.heap.objs.size f cd
  outer := outer
  stack := envOfC qual scope s.heap.objs.size f cd :: outer
  ex := []
  calm := true
  fn := fun _ => true
  pn := []
  xe := fun e s' => wpAny (model P w) (A.deeper (envOfC qual scope s.heap.objs.size f cd)) (leaving (envOfC qual scope s.heap.objs.size f cd) e) (fun _ s'' => CX outer H s E e s'') (fun e' s'' => CX outer H s E e' s'') s'

theorem cell_has {sc : Scope} {n : Nat} {x : Str} (h : sc.names.lookup x = some .cell) : ∃ c, (cellsFrom n sc.names []).lookup x = some c := by
  have q := PySem.W.cellsFrom_some sc.names n [] (.inl h)
  exact Option.isSome_iff_exists.mp q

theorem inv_start {CX : CXT} {P : Program} {w : World} {K : PySem.W.Frag} {mg : Str → Option Value} {base : Heap} {N ps : List Str} {qual : Str} {scope : Scope} {f : Addr} {cd : Value} {A : Around} {outer : List Env} {s s1 : Shared} {H : Hp} {E : XK} {us : List Value} {vs : List V}
    (S : FnScope N ps scope) (hd : A.handled = none) (e0 : Env0 P w K mg base A outer s H) (hl : vs.length = ps.length) (r : Vals vs us)
    (x : InCallC s s.heap.objs.size (bindL (envOfC qual scope s.heap.objs.size f cd).kindOf (ps.zip us) fun _ => none) (cellsFrom (s.heap.objs.size + 1) scope.names []) (bindC (envOfC qual scope s.heap.objs.size f cd).kindOf (ps.zip us) fun _ => none) s1) :
    Inv (cxOf CX P w K mg base N qual scope f cd A outer s H E) [] (start N vs) H s1 := by
  have hpl : ps.length ≤ N.length := by have := congrArg List.length S.pre; rw [List.length_take] at this; omega
  obtain ⟨h1, tk, rfl, hk⟩ := x.done
  have noA : ∀ b : Addr, b ∉ (cxOf CX P w K mg base N qual scope f cd A outer s H E).ex := fun b z => absurd (show b ∈ ([] : List Addr) from z) (by simp)
  refine ⟨⟨e0.mod, S.kind, rfl, rfl, Nat.le_refl _, fun y z c h1 h2 => ?_, fun y hy => ?_, fun y c _ h => ?_, fun _ => hd, Around.frames_deeper e0.frames, .inr ⟨rfl, rfl⟩, fun b z => absurd z (noA b), e0.bs, e0.bsz, fun b _ _ => noA b, fun b z => absurd z (noA b), e0.funs, e0.frf⟩,
    rfl, e0.bare, Un.kept hk, ⟨_, x.toInCall.ns, fun i y v h1 h2 h3 => ?_⟩, fun y c h => ⟨_, x.cell y c h⟩, e0.hok.fresh (Nat.le_refl _), fun y c h => ?_, fun p hp => absurd (show p ∈ ([] : List (Addr × Obj)) from hp) (by simp), e0.hok.kept hk, ?_⟩
  · exact name_of_addr x.apart (PySem.mem_of_lookup h1) (PySem.mem_of_lookup h2)
  · have hy : scope.names.lookup y = some .cell ∨ scope.names.lookup y = some .free := hy
    rcases hy with hy | hy
    · exact cell_has hy
    · exact absurd rfl (S.nofree _ (PySem.mem_of_lookup hy))
  · exact Nat.le_of_lt (x.above y c (PySem.mem_of_lookup h))
  · have hi : i < vs.length := by
      unfold start at h2
      by_cases hi : i < vs.length
      · exact hi
      · rw [List.getElem?_append_right (by simpa using hi)] at h2
        rw [List.getElem?_replicate] at h2
        split at h2 <;> cases h2
    have ha : vs[i]? = some v := by
      unfold start at h2
      rw [List.getElem?_append_left (by simpa using hi), List.getElem?_map] at h2
      cases e : vs[i]? with
      | none => rw [e] at h2; cases h2
      | some a => rw [e] at h2; cases h2; rfl
    obtain ⟨u, hu, rv⟩ := r.get ha
    have hp : ps[i]? = some y := by
      rw [← S.pre, List.getElem?_take_of_lt (by omega)]; exact h1
    have ndP : ps.Nodup := by rw [← S.pre]; exact S.nd.sublist (List.take_sublist _ _)
    refine ⟨u, rv, ?_⟩
    rcases S.par y (List.mem_of_getElem? hp) with k | k
    · exact .inl ⟨k, bindL_get ndP hp hu k⟩
    · obtain ⟨c, e⟩ := cell_has (n := s.heap.objs.size + 1) k
      refine .inr ⟨.inl k, c, e, ?_⟩
      have q := x.cell y c e
      rw [bindC_get ndP hp hu (by show scope.names.lookup y ≠ _; rw [k]; decide)] at q
      exact q
  · exact e0.hok.fresh (Nat.le_of_lt (x.above y c (PySem.mem_of_lookup h)))
  · unfold start
    show _ = N.length
    rw [List.length_append, List.length_map, List.length_replicate]
    omega

theorem fn_of {CX : CXT} {P : Program} {w : World} {K : PySem.W.Frag} {mg : Str → Option Value} {base : Heap} {k : Nat} {f : Addr} {name qual : Str} {params : Arguments} {body : List Stmt} {scope : Scope} {dV kV doc pm cdv ct oc : Value} {an od : Option Addr}
    {osl : Array (Option Value)} {N ps : List Str} {sp : Sp} (lk : K.lookup f = some ⟨oc, od, .func (PySem.W.fnOf name qual params body scope dV kV doc pm an cdv ct), osl⟩) (hcd : PySem.W.codeIn K cdv qual = true) (S : FnScope N ps scope)
    (len : ∀ vs H Q E, sp vs H Q E → vs.length = ps.length)
    (hbody : ∀ (A : Around) (outer : List Env) (s : Shared) (H : Hp) (vs : List V) (Q : VK) (E : XK), Room k (A.deeper (envOfC qual scope s.heap.objs.size f cdv)) → sp vs H Q E →
      ∃ t, PSs (cxOf CX P w K mg base N qual scope f cdv A outer s H E) body t ∧ t { nx := fun _ H' => Q .non H', rt := Q } (start N vs) H) :
    FnOk P w K mg base CX (k + 1) f (PySem.W.fnOf name qual params body scope dV kV doc pm an cdv ct) ps sp := by
  refine ⟨len, fun A outer s H args us vs Q E hr e0 hb r hsp => ?_⟩
  have hl := len _ _ _ _ hsp
  have KX : K.In s.heap := e0.mod.kin.keeps fun b o e => (e0.bs b o e).1
  have lim : s.heap.NoLimit := e0.mod.nolimit.keeps fun b o e => (e0.bs b o e).1
  have hkind : ∀ y ∈ ps.zip us, scope.names.lookup y.1 = some .local ∨ (scope.names.lookup y.1 = some .cell ∧ ((cellsFrom (s.heap.objs.size + 1) scope.names []).lookup y.1).isSome = true) := fun ⟨n, v⟩ hy => by
    rcases S.par n (List.of_mem_zip hy).1 with q | q
    · exact .inl q
    · exact .inr ⟨q, PySem.W.cellsFrom_some _ _ _ (.inl q)⟩
  refine codeAny_call_function hr.depth (KX _ _ lk) rfl S.co S.gen rfl (PySem.W.codeRec_of KX hcd) (hb _ _ _ _ ?_)
  refine wpAny_newFunctionEnv_cells S.kind hkind fun env he s1 x => ?_
  subst he
  refine ⟨lim.keeps x.toInCall.keep, codeAny_func ?_⟩
  obtain ⟨t, ht, hq⟩ := hbody A outer s H vs Q E (hr.deeper _) hsp
  have I : Inv (cxOf CX P w K mg base N qual scope f cdv A outer s H E) [] (start N vs) H s1 := inv_start S hr.hd e0 hl r x
  refine wpAny_mono (ht [] s1 (start N vs) H _ I hq) (fun fl s' hs => ?_) fun e s' hs => hs
  have fin : ∀ {σ' : St} {H' : Hp} {v : V} {u : Value}, Inv (cxOf CX P w K mg base N qual scope f cdv A outer s H E) [] σ' H' s' → RelV v u → Q v H' → CE outer P w H s Q u s' :=
    fun {σ' H' v u} J rv q => ⟨v, H', J.os, J.bare, J.base, J.hok, rv, q⟩
  cases fl with
  | ret u =>
    obtain ⟨v, σ', H', J, rv, q⟩ := hs
    exact fin J rv q
  | next =>
    obtain ⟨σ', H', J, q⟩ := hs
    exact fin (v := V.non) (u := Value.none) J rfl q
  | brk =>
    obtain ⟨_, _, _, q⟩ := hs
    exact False.elim q
  | cont =>
    obtain ⟨_, _, _, q⟩ := hs
    exact False.elim q
end L2

namespace L2
open PySem PySem.Spec PyProof.Rows
section
variable {X : Cx} {x : Str} {p pos : Pos} {e : Expr} {es : List Expr} {t : TA} {id T : String} {r : List V → Hp → VK → Prop}

def tCB (r : List V → Hp → VK → Prop) (t : TA) : TE := fun σ H Q => t σ H fun vs H1 => r vs H1 Q
theorem pe_callB (hc : CallR X (.builtin id) r) (hg : Gl X x) (hm : X.mg x = none) (hv : bootBuiltins x = some (.builtin id)) (ha : PA X (e :: es) t) (hn : x ≠ "__name__" := by decide) (hdb : (x == ("__debug__" : Str)) = false := by decide)
    (he : starEach (e :: es) X.env = (false, eval e X.env) :: starEach es X.env := by rfl) (hpl : (backTo pos (starEach es X.env)).any (·.1) = false := by rfl) : PE X (.Call (.Name x p) (e :: es) [] pos) (tCB r t) := by
  intro pins s σ H Q I h
  refine wpAny_Call_Name_kw (ld_blt I hg hm hv ?_ hn hdb)
  exact PyProof.Rows.callWith_builtin1 (thn (ha pos pins s σ H _ I h) fun us s1 ⟨vs, H1, I1, r1, q1⟩ => hc pins s1 σ H1 vs us Q I1 r1 q1) he hpl
theorem pe_callTy (hc : CallR X (.type T) r) (hg : Gl X x) (hm : X.mg x = none) (hv : bootBuiltins x = some (.type T)) (ha : PA X (e :: es) t) (hn : x ≠ "__name__" := by decide) (hdb : (x == ("__debug__" : Str)) = false := by decide)
    (he : starEach (e :: es) X.env = (false, eval e X.env) :: starEach es X.env := by rfl) (hpl : (backTo pos (starEach es X.env)).any (·.1) = false := by rfl) : PE X (.Call (.Name x p) (e :: es) [] pos) (tCB r t) := by
  intro pins s σ H Q I h
  refine wpAny_Call_Name_kw (ld_blt I hg hm hv ?_ hn hdb)
  exact PyProof.Rows.callWith_type1 (thn (ha pos pins s σ H _ I h) fun us s1 ⟨vs, H1, I1, r1, q1⟩ => hc pins s1 σ H1 vs us Q I1 r1 q1) he hpl
end
end L2

namespace HT
open PySem PyProof.Rows

def lexLt : List Int → List Int → Bool
  | [], [] => false
  | [], _ :: _ => true
  | _ :: _, [] => false
  | x :: xs, y :: ys => if x = y then lexLt xs ys else decide (x < y)
section
open PySem.SeqAt
open PySem.AutoSeq1 (wpAny_loadPart')
open PySem.MeetsSeq PySem.MeetsSeq2 PySem.MeetsSeq3

end

section
variable {prog : Program} {w : World} {A : Around} {E : Value → Shared → Prop} {s : Shared}

def sIx (n d : Nat) : Option Int → Nat
  | none => d
  | some v => if v < 0 then (v + (n : Int)).toNat else min v.toNat n
theorem sIx_le (n d : Nat) (hd : d ≤ n) (o : Option Int) : sIx n d o ≤ n := by
  cases o with
  | none => exact hd
  | some v =>
    show (if v < 0 then (v + (n : Int)).toNat else min v.toNat n) ≤ n
    by_cases hv : v < 0
    · rw [if_pos hv]; omega
    · rw [if_neg hv]; exact Nat.min_le_right _ _
theorem clip_eq (v : Int) (n d : Nat) : (if v < 0 then max (v + (n : Int)) 0 else min v (n : Int)) = ((sIx n d (some v) : Nat) : Int) := by
  show (if v < 0 then max (v + (n : Int)) 0 else min v (n : Int)) = (((if v < 0 then (v + (n : Int)).toNat else min v.toNat n) : Nat) : Int)
  by_cases hv : v < 0
  · simp only [if_pos hv]; omega
  · simp only [if_neg hv]; omega
theorem adjust_gen (lo hi : Option Int) (n : Nat) : Builtin.Slice.sliceAdjust lo hi 1 (n : Int) = (((sIx n 0 lo : Nat) : Int), ((sIx n n hi : Nat) : Int)) := by
  have h1 : ¬ ((1 : Int) < 0) := by omega
  unfold Builtin.Slice.sliceAdjust
  simp only [h1, if_false]
  refine Prod.ext ?_ ?_
  · cases lo with
    | none => rfl
    | some v => exact clip_eq v n 0
  · cases hi with
    | none => rfl
    | some v => exact clip_eq v n n
theorem places_gen (i j : Nat) : Builtin.Slice.slicePlaces (i : Int) (j : Int) 1 = j - i := by
  unfold Builtin.Slice.slicePlaces
  have h1 : (1 : Int) > 0 := by omega
  simp only [h1, if_true, Int.ediv_one]
  split <;> omega
theorem slicePart_ {v : Value} {o : Option Int} {Q : Option Int → Shared → Prop} (p : IsPart v o) (h : Q o s) : wpAny (model prog w) A (Builtin.Slice.slicePartIndex v) Q E s := by
  cases p with
  | none => exact slicePart_none h
  | int i t => exact slicePart_int h
theorem sliceApplied_gen {sl : Addr} {vl vu : Value} {lo hi : Option Int} {n : Nat} {Q : Int × Int × Nat → Shared → Prop} (hs : s.heap.IsSliceOf sl vl vu .none) (pl : IsPart vl lo) (pu : IsPart vu hi)
    (h : Q (((sIx n 0 lo : Nat) : Int), 1, sIx n n hi - sIx n 0 lo) s) : wpAny (model prog w) A (Builtin.Slice.sliceApplied (.ref sl) (pure (n : Int))) Q E s := by
  obtain ⟨os, hos, hcs, hds⟩ := id hs
  unfold Builtin.Slice.sliceApplied Builtin.Slice.sliceFields
  refine wpAny_bind (wpAny_bind (wpAny_field hos hds (x := vl) rfl (wpAny_bind (wpAny_field hos hds (x := vu) rfl (wpAny_bind (wpAny_field hos hds (x := .none) rfl (wpAny_pure ?_)))))))
  refine wpAny_bind (slicePart_none ?_)
  show wpAny _ _ (if ((1 : Int) == 0) = true then _ else _) _ _ s
  rw [if_neg (by decide)]
  refine wpAny_bind (slicePart_ pl (wpAny_bind (slicePart_ pu (wpAny_bind (wpAny_pure ?_)))))
  show wpAny _ _ (match Builtin.Slice.sliceAdjust lo hi 1 (n : Int) with | (lo, hi) => pure (lo, (1 : Int), Builtin.Slice.slicePlaces lo hi 1)) _ _ s
  rw [adjust_gen lo hi n]
  show wpAny _ _ (pure (((sIx n 0 lo : Nat) : Int), (1 : Int), Builtin.Slice.slicePlaces ((sIx n 0 lo : Nat) : Int) ((sIx n n hi : Nat) : Int) 1)) _ _ s
  rw [places_gen]
  exact wpAny_pure h
theorem pick_gen (xs : Array Value) (i k : Nat) : ((List.range k).filterMap fun (m : Nat) => xs[((i : Int) + (m : Int) * 1).toNat]?).toArray = ((xs.toList.drop i).take k).toArray := by
  have e : (fun (m : Nat) => xs[((i : Int) + (m : Int) * 1).toNat]?) = fun m => xs[i + m]? := by
    funext m
    have : ((i : Int) + (m : Int) * 1).toNat = i + m := by omega
    rw [this]
  rw [e]
  have := pick_run xs i k
  rw [List.filterMap_map] at this
  have e2 : ((fun x => xs[x]?) ∘ fun x => i + x) = fun m => xs[i + m]? := rfl
  rw [e2] at this
  rw [this]

theorem getItem_tuple_cut {t sl : Addr} {items : Array Value} {vl vu : Value} {lo hi : Option Int} {Q : Value → Shared → Prop} (ht : IsTup s.heap t items) (hs : s.heap.IsSliceOf sl vl vu .none) (pl : IsPart vl lo) (pu : IsPart vu hi)
    (hw : ¬ (sIx items.size 0 lo = 0 ∧ sIx items.size items.size hi = items.size))
    (h : Q (.ref s.heap.objs.size) { s with heap := s.heap.push { cls := .type "tuple", data := .seq ((items.toList.drop (sIx items.size 0 lo)).take (sIx items.size items.size hi - sIx items.size 0 lo)).toArray } })
    (hsz : items.size ≤ sizeLine) : wpAny (model prog w) A (getItem (.ref t) (.ref sl)) Q E s := by
  have htake : sizeOk (.seq ((items.toList.drop (sIx items.size 0 lo)).take (sIx items.size items.size hi - sIx items.size 0 lo)).toArray) := by
    show ((items.toList.drop (sIx items.size 0 lo)).take (sIx items.size items.size hi - sIx items.size 0 lo)).toArray.size ≤ sizeLine
    rw [List.size_toArray, List.length_take, List.length_drop, Array.length_toList]
    omega
  have hj : sIx items.size items.size hi ≤ items.size := sIx_le _ _ (Nat.le_refl _) hi
  obtain ⟨os, hos, hcs, hds⟩ := id hs
  have hTs : s.TypeIs (.ref sl) "slice" := ⟨os, hos, hcs⟩
  unfold getItem
  try with_reducible refine wpAny_holding ?_
  first | refine wpAny_bind (wpAny_pure ?_) | skip
  refine wpAny_bind (wpAny_sequenceKey ht.typeIs (by decide) ?_)
  refine wpAny_bind (wpAny_callSpecial?_slot (name := Str.ofString "__getitem__") ht.typeIs PyProof.Rows.slot_tuple_getitem
    (wpAny_call_entry PyProof.Rows.slot_tuple_getitem ht.typeIs entry_tuple_getitem ?_ (args_tuple_getitem _ _)))
  show wpAny _ _ (Builtin.Tuple.tupleItemsOf (.ref t) >>= _) _ _ s
  refine wpAny_bind (tupleItemsOf_ ht ?_)
  refine wpAny_bind (wpAny_typeOf hTs ?_)
  rw [if_pos (by decide)]
  refine wpAny_bind (sliceApplied_gen hs pl pu ?_)
  have hno : ¬ ((((sIx items.size 0 lo : Nat) : Int) == 0 && (1 : Int) == 1 && (sIx items.size items.size hi - sIx items.size 0 lo) == items.size) = true) := by
    intro q
    rw [Bool.and_eq_true, Bool.and_eq_true] at q
    have q1 : ((sIx items.size 0 lo : Nat) : Int) = 0 := eq_of_beq q.1.1
    have q2 : sIx items.size items.size hi - sIx items.size 0 lo = items.size := eq_of_beq q.2
    exact hw ⟨by omega, by omega⟩
  show wpAny _ _ (if (((sIx items.size 0 lo : Nat) : Int) == 0 && (1 : Int) == 1 && (sIx items.size items.size hi - sIx items.size 0 lo) == items.size) = true then _ else _) _ _ s
  rw [if_neg hno, pick_gen]
  first
    | exact wpAny_bind (m := Builtin.Tuple.tupleExact _) (wpAny_newObj_type (wpAny_pure ⟨_, rfl, wpAny_pure h⟩) htake)
    | exact wpAny_bind (m := Builtin.Tuple.tupleExact _) (wpAny_newObj_type (wpAny_bind (wpAny_pure (wpAny_pure ⟨_, rfl, wpAny_pure h⟩))) htake)
    | exact wpAny_bind (wpAny_bind (m := Builtin.Tuple.tupleExact _) (wpAny_newObj_type (wpAny_pure (wpAny_pure ⟨_, rfl, wpAny_pure h⟩)) htake))
    | exact wpAny_bind (wpAny_bind (m := Builtin.Tuple.tupleExact _) (wpAny_newObj_type (wpAny_pure ⟨_, rfl, wpAny_pure h⟩) htake))
end
end HT

namespace L2
open PySem PySem.Spec PyProof.Rows

abbrev TO := St → Hp → (Option Int → Hp → Prop) → Prop
def PO (X : Cx) (e : Option Expr) (t : TO) : Prop :=
  ∀ (pins : List (Addr × Obj)) (s : Shared) (σ : St) (H : Hp) (Q : Option Int → Hp → Prop), Inv X pins σ H s → t σ H Q →
    wpAny (model X.prog X.w) X.A (evalPart e X.env) (fun u s' => ∃ o H', Inv X pins σ H' s' ∧ IsPart u o ∧ Q o H') X.xe s
def tNoPart : TO := fun _ H Q => Q none H
def tPart (t : TE) : TO := fun σ H Q => t σ H fun x H1 => ∃ i, x = .int i ∧ Q (some i) H1

section
variable {X : Cx} {e : Expr} {te : TE} {lo hi : Option Expr} {tl th : TO} {pos p2 : Pos}

theorem po_none : PO X none tNoPart := by
  intro pins s σ H Q I h
  rw [evalPart_none]
  exact wpAny_pure ⟨none, H, I, .none, h⟩
theorem po_some (h : PE X e te) : PO X (some e) (tPart te) := by
  intro pins s σ H Q I hw
  rw [evalPart_some]
  refine thn (h pins s σ H _ I hw) fun u s1 ⟨x, H1, I1, r1, q1⟩ => ?_
  obtain ⟨i, rfl, q⟩ := q1
  obtain ⟨t, rfl⟩ := r1
  exact ⟨some i, H1, I1, .int i t, q⟩

def SlR (X : Cx) (r : V → Option Int → Option Int → Hp → VK → Prop) : Prop :=
  ∀ (pins : List (Addr × Obj)) (s : Shared) (σ : St) (H : Hp) (x : V) (v vl vu : Value) (lo hi : Option Int) (sl : Addr) (Q : VK), Inv X pins σ H s → RelV x v → s.heap.IsSliceOf sl vl vu .none → IsPart vl lo → IsPart vu hi → r x lo hi H Q →
    ∃ T id, typeLookup (.type T) "__getitem__" = pure (some (.builtin id)) ∧ s.TypeIs v T ∧ wpAny (model X.prog X.w) X.A (getItem v (.ref sl)) (EP X pins σ Q) X.xe s
def tSl (r : V → Option Int → Option Int → Hp → VK → Prop) (te : TE) (tl th : TO) : TE := fun σ H Q => te σ H fun x H1 => tl σ H1 fun l H2 => th σ H2 fun u H3 => r x l u H3 Q
theorem pe_slice {r : V → Option Int → Option Int → Hp → VK → Prop} (hr : SlR X r) (he : PE X e te) (hl : PO X lo tl) (hu : PO X hi th) : PE X (.Subscript e (.Slice lo hi none p2) pos) (tSl r te tl th) := by
  intro pins s σ H Q I h
  refine Subscript_ (thn (he pins s σ H _ I h) fun v s1 ⟨x, H1, I1, r1, q1⟩ => ?_)
  refine wpAny_Slice (thn (hl pins s1 σ H1 _ I1 q1) fun vl s2 ⟨l, H2, I2, pl, q2⟩ => thn (hu pins s2 σ H2 _ I2 q2) fun vu s3 ⟨u, H3, I3, pu, q3⟩ => ?_)
  rw [evalPart_none]
  refine wpAny_pure ?_
  have I4 : Inv X pins σ H3 { s3 with heap := s3.heap.push { cls := .type "slice", data := .fields #[vl, vu, .none] } } := I3.kept (t' := s3.toks) fun b ob q => Heap.get?_push_of_some _ q
  obtain ⟨T, id, hT, ht, hg⟩ := hr pins { s3 with heap := s3.heap.push { cls := .type "slice", data := .fields #[vl, vu, .none] } } σ H3 x v vl vu l u s3.heap.objs.size Q I4 r1 (Heap.IsSliceOf.new ..) pl pu q3
  show wpAny (model X.prog X.w) X.A (subscriptTail e (.Slice lo hi none p2) v (.ref s3.heap.objs.size)) (EP X pins σ Q) X.xe { s3 with heap := s3.heap.push { cls := .type "slice", data := .fields #[vl, vu, .none] } }
  exact tail_any (ops := [.ref s3.heap.objs.size, v]) ht hT hg (by with_unfolding_all rfl)

def cutV (xs : List V) (lo hi : Option Int) : List V := (xs.drop (HT.sIx xs.length 0 lo)).take (HT.sIx xs.length xs.length hi - HT.sIx xs.length 0 lo)
theorem cutV_length (xs : List V) (lo hi : Option Int) : (cutV xs lo hi).length ≤ xs.length := by
  unfold cutV
  rw [List.length_take, List.length_drop]
  omega
def rSlT (K : PySem.W.Frag) : V → Option Int → Option Int → Hp → VK → Prop := fun x lo hi H Q => ∃ a xs, x = .ref a ∧ SqT K H a xs ∧
  ¬ (HT.sIx xs.length 0 lo = 0 ∧ HT.sIx xs.length xs.length hi = xs.length) ∧ ∀ p, H p = none → Q (.ref p) (upd H p (.tup (cutV xs lo hi)))
theorem sl_tup : SlR X (rSlT X.K) := by
  intro pins s σ H x v vl vu lo hi sl Q I rx hs pl pu h
  obtain ⟨a, xs, rfl, hx, hw, q⟩ := h
  cases rx
  obtain ⟨its, r, ht, hz⟩ := I.tuple hx
  have hlen : its.toArray.size = xs.length := by rw [List.size_toArray]; exact r.length.symm
  refine ⟨"tuple", _, PyProof.Rows.slot_tuple_getitem.lookup, ht.typeIs, ?_⟩
  refine HT.getItem_tuple_cut ht hs pl pu (by rw [hlen]; exact hw) ?_ (by rw [hlen]; exact hz)
  rw [hlen]
  refine ⟨.ref s.heap.objs.size, _, I.laid (t' := s.toks) (o := .tup (cutV xs lo hi)) (fun b ob q => Heap.get?_push_of_some _ q) (Nat.le_refl _) ?_, rfl, q _ (I.hok.fresh (Nat.le_refl _))⟩
  exact ⟨Nat.le_trans (cutV_length xs lo hi) hz, _, (r.drop (HT.sIx xs.length 0 lo)).take (HT.sIx xs.length xs.length hi - HT.sIx xs.length 0 lo), IsTup.new _ _⟩

def rLtT (K : PySem.W.Frag) : R2 := fun x y H Q => ∃ a b ns ms, x = .ref a ∧ y = .ref b ∧ SqT K H a (ns.map V.int) ∧ SqT K H b (ms.map V.int) ∧ Q (.bl (HT.lexLt ns ms)) H
def rCatT (K : PySem.W.Frag) : R2 := fun x y H Q => ∃ a b xs ys, x = .ref a ∧ y = .ref b ∧ SqT K H a xs ∧ SqT K H b ys ∧ xs ≠ [] ∧ xs.length + ys.length ≤ sizeLine ∧
  (ys = [] → Q (.ref a) H) ∧ (ys ≠ [] → ∀ p, H p = none → Q (.ref p) (upd H p (.tup (xs ++ ys))))
end
end L2

namespace L2
open PySem PySem.Spec PyProof.Rows

def ixN (n : Nat) (i : Int) : Option Nat := if 0 ≤ i then (if i < n then some i.toNat else none) else if -(n : Int) ≤ i then some (i + n).toNat else none
def atI {α : Type} (xs : List α) (i : Int) : Option α := (ixN xs.length i).bind fun j => xs[j]?
theorem ixN_seq {n : Nat} {i : Int} {j : Nat} (h : ixN n i = some j) : seqIndex? i n = some j ∧ j < n ∧ -(n : Int) ≤ i ∧ i < n := by
  unfold ixN at h
  by_cases h0 : 0 ≤ i
  · rw [if_pos h0] at h
    by_cases h1 : i < n
    · rw [if_pos h1] at h
      have e : i.toNat = j := Option.some.inj h
      exact ⟨by rw [seqIndex_of h0 h1, e], by omega, by omega, h1⟩
    · rw [if_neg h1] at h; cases h
  · rw [if_neg h0] at h
    by_cases h1 : -(n : Int) ≤ i
    · rw [if_pos h1] at h
      have e : (i + n).toNat = j := Option.some.inj h
      exact ⟨by rw [seqIndex_neg (by omega) h1, e], by omega, h1, by omega⟩
    · rw [if_neg h1] at h; cases h
theorem atI_get {α : Type} {xs : List α} {i : Int} {v : α} (h : atI xs i = some v) : ∃ j, seqIndex? i xs.length = some j ∧ xs[j]? = some v ∧ j < xs.length ∧ -(xs.length : Int) ≤ i ∧ i < xs.length := by
  unfold atI at h
  cases e : ixN xs.length i with
  | none => rw [e] at h; cases h
  | some j =>
    rw [e] at h
    obtain ⟨h1, h2, h3, h4⟩ := ixN_seq e
    exact ⟨j, h1, h, h2, h3, h4⟩
theorem atI_nat {α : Type} {xs : List α} {j : Nat} {v : α} (h : xs[j]? = some v) : atI xs (j : Int) = some v := by
  have hj : j < xs.length := (List.getElem?_eq_some_iff.mp h).1
  have e : ixN xs.length (j : Int) = some j := by
    unfold ixN
    rw [if_pos (by omega), if_pos (by omega)]; simp
  unfold atI; rw [e]; exact h
theorem atI_last {α : Type} (xs : List α) (v : α) : atI (xs ++ [v]) (-1) = some v := by
  have hl : (xs ++ [v]).length = xs.length + 1 := by simp
  have e : ixN (xs ++ [v]).length (-1) = some xs.length := by
    unfold ixN
    rw [hl, if_neg (by decide), if_pos (by omega)]
    congr 1
    omega
  unfold atI
  rw [e]
  show (xs ++ [v])[xs.length]? = some v
  simp

def PlainIx (b : Expr) : Prop := ∀ o i, subscripted b false o i = operate [o, i] (getItem o i)
def IxR (X : Cx) (r : R2) : Prop :=
  ∀ (value slice : Expr) (pins : List (Addr × Obj)) (s : Shared) (σ : St) (H : Hp) (x y : V) (v u : Value) (Q : VK), Inv X pins σ H s → RelV x v → RelV y u → r x y H Q →
    subscripted slice false v u = operate [v, u] (getItem v u) → wpAny (model X.prog X.w) X.A (subscriptTail value slice v u) (EP X pins σ Q) X.xe s
def MtR (X : Cx) (id : String) (r : V → List V → Hp → VK → Prop) : Prop :=
  ∀ (pins : List (Addr × Obj)) (s : Shared) (σ : St) (H : Hp) (x : V) (xs : List V) (v : Value) (us : List Value) (Q : VK), Inv X pins σ H s → RelV x v → Vals xs us → r x xs H Q →
    wpAny (model X.prog X.w) X.A (call (.builtin id) (v :: us)) (EP X pins σ Q) X.xe s
section
variable {X : Cx} {a b : Expr} {ta tb : TE} {pos : Pos}
theorem pe_ix {r : R2} (hr : IxR X r) (ha : PE X a ta) (hb : PE X b tb) (hs : PlainIx b) : PE X (.Subscript a b pos) (tOp r ta tb) := by
  intro pins s σ H Q I h
  exact Subscript_ (binT ha hb I h fun v u s2 x y H2 I2 rx ry q => hr a b pins s2 σ H2 x y v u Q I2 rx ry q (hs _ _))

def rIxL (K : PySem.W.Frag) : R2 := fun x y H Q => ∃ p xs i v, x = .ref p ∧ y = .int i ∧ SqL K H p xs ∧ atI xs i = some v ∧ Q v H
def rIxT (K : PySem.W.Frag) : R2 := fun x y H Q => ∃ p xs i v, x = .ref p ∧ y = .int i ∧ SqT K H p xs ∧ atI xs i = some v ∧ Q v H
def rIxS : R2 := fun x y H Q => ∃ z i c, x = .str z ∧ y = .int i ∧ z.length ≤ sizeLine ∧ atI z.cps.toList i = some c ∧ Q (.str ⟨#[c]⟩) H
theorem ix_list : IxR X (rIxL X.K) := by
  intro value slice pins s σ H x y v u Q I rx ry h hs
  obtain ⟨p, xs, i, z, rfl, rfl, hq, he, q⟩ := h
  cases rx
  obtain ⟨t, rfl⟩ := ry
  obtain ⟨its, r, pl, hz⟩ := I.list hq
  obtain ⟨j, h1, h2, h3, h4, h5⟩ := atI_get he
  obtain ⟨w, ew, rw'⟩ := r.get h2
  have hl := r.length
  have hn := line63
  have fin : EP X pins σ Q w s := ⟨z, H, I, rw', q⟩
  by_cases h0 : 0 ≤ i
  · have hj : i.toNat = j := by
      rw [seqIndex_of h0 h5] at h1
      exact Option.some.inj h1
    exact item_listR pl.isList h0 (by omega) (by rw [hj]; simpa using ew) fin hs
  · have hj : (i + (its.toArray.size : Int)).toNat = j := by
      rw [seqIndex_neg (by omega) h4] at h1
      rw [List.size_toArray, ← hl]
      exact Option.some.inj h1
    exact subscriptTail_builtinR (x := w) pl.isList.typeIs slot_list_getitem.lookup
      (wpAny_getItem_list_neg (Q := fun r s' => r = w ∧ EP X pins σ Q r s') pl.isList (by omega) (by rw [List.size_toArray] <;> omega) (by omega) (by rw [hj]; simpa using ew) ⟨rfl, fin⟩) hs
theorem ix_tup : IxR X (rIxT X.K) := by
  intro value slice pins s σ H x y v u Q I rx ry h hs
  obtain ⟨p, xs, i, z, rfl, rfl, hq, he, q⟩ := h
  cases rx
  obtain ⟨t, rfl⟩ := ry
  obtain ⟨its, r, pl, hz⟩ := I.tuple hq
  obtain ⟨j, h1, h2, h3, h4, h5⟩ := atI_get he
  obtain ⟨w, ew, rw'⟩ := r.get h2
  have hl := r.length
  have hn := line63
  have fin : EP X pins σ Q w s := ⟨z, H, I, rw', q⟩
  exact subscriptTail_builtinR (x := w) pl.typeIs slot_tuple_getitem.lookup
    (getItem_tuple (j := j) (Q := fun r s' => r = w ∧ EP X pins σ Q r s') pl (by omega) (by omega) (by rw [List.size_toArray, ← hl]; exact h1) (by simpa using ew) ⟨rfl, fin⟩) hs
def rIx (K : PySem.W.Frag) : R2 := fun x y H Q => rIxL K x y H Q ∨ rIxT K x y H Q ∨ rIxS x y H Q
theorem mapSeq_set (its : List Value) (n j : Nat) (u : Value) : Obj.mapSeq (·.setIfInBounds j u) { cls := .type "list", data := .seq its.toArray n } = { cls := .type "list", data := .seq (its.set j u).toArray n } := by
  simp [Obj.mapSeq]
theorem Inv.lst {pins : List (Addr × Obj)} {σ : St} {H : Hp} {s : Shared} {p : Addr} {xs : List V} (I : Inv X pins σ H s) (h : H p = some (.lst xs)) :
    ∃ (its : List Value) (n : Nat), Vals xs its ∧ s.heap.get? p = some { cls := .type "list", data := .seq its.toArray n } ∧ xs.length ≤ sizeLine := by
  obtain ⟨z, its, n, r, e⟩ := I.hok p _ h
  exact ⟨its, n, r, e, z⟩
theorem Inv.lstUpd {pins : List (Addr × Obj)} {σ : St} {H : Hp} {s : Shared} {p : Addr} {xs ys : List V} {its its' : List Value} {n n' : Nat} {f : Obj → Obj} (I : Inv X pins σ H s) (h : H p = some (.lst xs))
    (ho : s.heap.get? p = some { cls := .type "list", data := .seq its.toArray n }) (hf : f { cls := .type "list", data := .seq its.toArray n } = { cls := .type "list", data := .seq its'.toArray n' }) (r : Vals ys its') (hz : ys.length ≤ sizeLine) (t : Nat) :
    Inv X pins σ (upd H p (.lst ys)) { s with heap := s.heap.update p f, toks := t } := by
  have e : (s.heap.update p f).get? p = some { cls := .type "list", data := .seq its'.toArray n' } := by
    rw [Heap.get?_update_self f ho (by rw [hf] <;> rfl), hf]
  refine I.write (x := p) (e := p) (by rw [h]; trivial) (.inl rfl) (fun b u hb q => (Heap.get?_update_other _ _ (Ne.symm hb)).trans q) ⟨_, e⟩ ?_
  exact ⟨hz, its', n', r, e⟩
def rSetL : V → V → V → Hp → (Hp → Prop) → Prop := fun o i v H Q => ∃ p xs k j, o = .ref p ∧ i = .int k ∧ H p = some (.lst xs) ∧ ixN xs.length k = some j ∧ Q (upd H p (.lst (xs.set j v)))
theorem set_list : PSet X rSetL := by
  intro pins s σ H o i v ov iv u Q I ro ri rv h
  obtain ⟨p, xs, k, j, rfl, rfl, hp, hj, q⟩ := h
  cases ro
  obtain ⟨t, rfl⟩ := ri
  obtain ⟨its, n, r, ho, hz⟩ := I.lst hp
  obtain ⟨h1, h2, h3, h4⟩ := ixN_seq hj
  have hl := r.length
  have hn := line63
  have I' : Inv X pins σ (upd H p (.lst (xs.set j v))) { s with heap := s.heap.update p (Obj.mapSeq (·.setIfInBounds j u)) } :=
    I.lstUpd hp ho (mapSeq_set its n j u) (r.set rv j) (by rw [List.length_set]; exact hz) s.toks
  by_cases h0 : 0 ≤ k
  · have hk : k.toNat = j := by
      rw [seqIndex_of h0 h4] at h1
      exact Option.some.inj h1
    exact PySem.W.ki_setAt ho h0 (by omega) (by rw [List.size_toArray, ← hl]; exact h4) (by rw [hk]; exact ⟨_, I', q⟩)
  · have hk : (k + (its.toArray.size : Int)).toNat = j := by
      rw [seqIndex_neg (by omega) h3] at h1
      rw [List.size_toArray, ← hl]
      exact Option.some.inj h1
    exact PySem.W.ki_setBack ho (by omega) (by rw [List.size_toArray, ← hl]; exact h3) (by omega) (by rw [hk]; exact ⟨_, I', q⟩)

def rSlL (K : PySem.W.Frag) : V → Option Int → Option Int → Hp → VK → Prop := fun x lo hi H Q => ∃ a xs, x = .ref a ∧ SqL K H a xs ∧ ∀ p, H p = none → Q (.ref p) (upd H p (.lst (cutV xs lo hi)))
def flatV : V → Bool
  | .non => true
  | .bl _ => true
  | .int _ => true
  | .str _ => true
  | _ => false
def eqV : V → V → Bool
  | .non, .non => true
  | .bl a, .bl b => a == b
  | .bl a, .int b => (if a then 1 else 0) == b
  | .int a, .bl b => a == (if b then 1 else 0)
  | .int a, .int b => a == b
  | .str a, .str b => a == b
  | _, _ => false
theorem eqAt_V {A : Around} {s : Shared} {y x : V} {u v : Value} (ry : RelV y u) (rx : RelV x v) (fy : flatV y = true) (fx : flatV x = true) : SeqAt.EqAt A s u v (eqV y x) := by
  cases y with
  | non =>
    cases ry
    cases x with
    | non => cases rx; exact SeqAt.EqAt.same _
    | bl b => cases rx; exact SeqAt.EqAt.none_bool b
    | int b => obtain ⟨t, rfl⟩ := rx; exact SeqAt.EqAt.none_int b t
    | str b => obtain ⟨t, rfl⟩ := rx; exact SeqAt.EqAt.none_str b t
    | _ => exact absurd (show false = true from fx) Bool.false_ne_true
  | bl a =>
    cases ry
    cases x with
    | non => cases rx; exact SeqAt.EqAt.bool_none a
    | bl b => cases rx; exact SeqAt.EqAt.bool_bool a b
    | int b => obtain ⟨t, rfl⟩ := rx; exact SeqAt.EqAt.bool_int a b t
    | str b => obtain ⟨t, rfl⟩ := rx; exact SeqAt.EqAt.bool_str a b t
    | _ => exact absurd (show false = true from fx) Bool.false_ne_true
  | int a =>
    obtain ⟨t', rfl⟩ := ry
    cases x with
    | non => cases rx; exact SeqAt.EqAt.int_none a t'
    | bl b => cases rx; exact SeqAt.EqAt.int_bool a t' b
    | int b => obtain ⟨t, rfl⟩ := rx; exact SeqAt.EqAt.int_int a t' b t
    | str b => obtain ⟨t, rfl⟩ := rx; exact SeqAt.EqAt.int_str a t' b t
    | _ => exact absurd (show false = true from fx) Bool.false_ne_true
  | str a =>
    obtain ⟨t', rfl⟩ := ry
    cases x with
    | non => cases rx; exact SeqAt.EqAt.str_none a t'
    | bl b => cases rx; exact SeqAt.EqAt.str_bool a t' b
    | int b => obtain ⟨t, rfl⟩ := rx; exact SeqAt.EqAt.str_int a t' b t
    | str b => obtain ⟨t, rfl⟩ := rx; exact SeqAt.EqAt.str_str a t' b t
    | _ => exact absurd (show false = true from fx) Bool.false_ne_true
  | _ => exact absurd (show false = true from fy) Bool.false_ne_true
def eqU (x : V) (u : Value) : Bool := match u with
  | .none => eqV .non x
  | .bool b => eqV (.bl b) x
  | .int i _ => eqV (.int i) x
  | .str z _ => eqV (.str z) x
  | _ => false
theorem eqU_of {x y : V} {u : Value} (r : RelV y u) (f : flatV y = true) : eqU x u = eqV y x := by
  cases y with
  | non => cases r; rfl
  | bl b => cases r; rfl
  | int i => obtain ⟨t, rfl⟩ := r; rfl
  | str z => obtain ⟨t, rfl⟩ := r; rfl
  | _ => exact absurd (show false = true from f) Bool.false_ne_true
theorem any_eqU {x : V} : ∀ {xs : List V} {us : List Value}, Vals xs us → xs.all flatV = true → us.any (eqU x) = xs.any fun y => eqV y x
  | _, _, .nil, _ => rfl
  | y :: xs, u :: us, .cons r t, f => by
    rw [List.all_cons, Bool.and_eq_true] at f
    rw [List.any_cons, List.any_cons, eqU_of r f.1, any_eqU t f.2]
theorem mem_eqAt {A : Around} {s : Shared} {x : V} {v : Value} (rx : RelV x v) (fx : flatV x = true) : ∀ {xs : List V} {us : List Value}, Vals xs us → xs.all flatV = true → ∀ u ∈ us, SeqAt.EqAt A s u v (eqU x u)
  | _, _, .nil, _ => fun u hu => by cases hu
  | y :: xs, u :: us, .cons r t, f => fun u' hu => by
    rw [List.all_cons, Bool.and_eq_true] at f
    rcases List.mem_cons.mp hu with rfl | hu
    · rw [eqU_of r f.1]; exact eqAt_V r rx f.1 fx
    · exact mem_eqAt rx fx t f.2 u' hu
def inV (x : V) (xs : List V) : Bool := xs.any fun y => eqV y x
def rIn (K : PySem.W.Frag) (neg : Bool) : R2 := fun x y H Q => ∃ p xs, y = .ref p ∧ (SqL K H p xs ∨ SqT K H p xs) ∧ flatV x = true ∧ xs.all flatV = true ∧ Q (.bl (if neg then !inV x xs else inV x xs)) H
theorem op_notIn_seq : OpR X (compareOp .NotIn) (rIn X.K true) := by
  intro pins s σ H x y v u Q I rx ry h
  obtain ⟨p, xs, rfl, hq, fx, fs, q⟩ := h
  cases ry
  rcases hq with hq | hq
  · obtain ⟨its, r, pl, hz⟩ := I.list hq
    refine SeqAt.notIn_listAt (eqU x) pl.isList (fun w hw => mem_eqAt rx fx r fs w (by simpa using hw)) ⟨.bl _, H, I, rfl, ?_⟩
    rw [show its.toArray.any (eqU x) = its.any (eqU x) by simp, any_eqU r fs]
    exact q
  · obtain ⟨its, r, pl, hz⟩ := I.tuple hq
    refine SeqAt.notIn_tupleAt (eqU x) pl (fun w hw => mem_eqAt rx fx r fs w (by simpa using hw)) ⟨.bl _, H, I, rfl, ?_⟩
    rw [show its.toArray.any (eqU x) = its.any (eqU x) by simp, any_eqU r fs]
    exact q
theorem call_len_seq : CallR X (.builtin "len") (fun xs H Q => ∃ p ys, xs = [.ref p] ∧ (SqL X.K H p ys ∨ SqT X.K H p ys) ∧ Q (.int ys.length) H) := by
  intro pins s σ H xs us Q I r h
  obtain ⟨p, ys, rfl, hq, q⟩ := h
  obtain ⟨u, rfl, rx⟩ := vals1 r
  cases rx
  have hn := line63
  rcases hq with hq | hq
  · obtain ⟨its, r', pl, hz⟩ := I.list hq
    have hlen := r'.length
    exact Calls.call_len_list pl.isList (by simp only [List.size_toArray] <;> omega) ⟨.int ys.length, H, I.tok _, ⟨s.toks + 1, by rw [List.size_toArray, hlen]⟩, q⟩
  · obtain ⟨its, r', pl, hz⟩ := I.tuple hq
    have hlen := r'.length
    exact len_tuple pl (by simp only [List.size_toArray] <;> omega) ⟨.int ys.length, H, I.tok _, ⟨s.toks + 1, by rw [List.size_toArray, hlen]⟩, q⟩
def tyV (K : PySem.W.Frag) (T : String) (x : V) (H : Hp) : Prop := match x with
  | .str _ => T = "str"
  | .int _ => T = "int"
  | .ref p => (T = "list" ∧ ∃ xs, SqL K H p xs) ∨ (T = "tuple" ∧ ∃ o, K.lookup p = some o ∧ o.cls = .type "tuple" ∧ o.dict = none) ∨
      (T = "dict" ∧ ((∃ kvs, H p = some (.dK kvs)) ∨ ∃ kvs, H p = some (.dT kvs))) ∨ (T = "set" ∧ ∃ S n, H p = some (.set S n))
  | _ => False
theorem tyV_is {pins : List (Addr × Obj)} {σ : St} {H : Hp} {s : Shared} {T : String} {x : V} {v : Value} (I : Inv X pins σ H s) (r : RelV x v) (ty : tyV X.K T x H) :
    s.TypeIs v T ∧ ∀ a, v = .ref a → ∃ ob, s.heap.get? a = some ob ∧ ob.dict = none := by
  cases x with
  | str z =>
    obtain ⟨t, rfl⟩ := r
    cases (show T = "str" from ty)
    exact ⟨typeIs_str s z t, fun _ e => nomatch e⟩
  | int i =>
    obtain ⟨t, rfl⟩ := r
    cases (show T = "int" from ty)
    exact ⟨typeIs_int s i t, fun _ e => nomatch e⟩
  | ref p =>
    cases r
    rcases ty with ⟨rfl, xs, hq⟩ | ⟨rfl, o, hk, hc, hd⟩ | ⟨rfl, hk⟩ | ⟨rfl, S, n, hk⟩
    · obtain ⟨its, _, pl, _⟩ := I.list hq
      refine ⟨pl.isList.typeIs, fun a e => ?_⟩
      cases e
      obtain ⟨o, n, e, c, hd, _⟩ := pl
      exact ⟨o, e, hd⟩
    · refine ⟨⟨o, I.kIn p o hk, hc⟩, fun a e => ?_⟩
      cases e
      exact ⟨o, I.kIn _ o hk, hd⟩
    · have z : ∃ o, s.heap.get? p = some o ∧ o.ExactDict := by
        rcases hk with ⟨kvs, hk⟩ | ⟨kvs, hk⟩
        · obtain ⟨_, _, _, _, o, _, _, e, ex, _⟩ := I.hok p _ hk
          exact ⟨o, e, ex⟩
        · obtain ⟨_, _, _, _, o, _, _, e, ex, _⟩ := I.hok p _ hk
          exact ⟨o, e, ex⟩
      obtain ⟨o, e, ex⟩ := z
      refine ⟨⟨o, e, ex.1⟩, fun a e2 => ?_⟩
      cases e2
      exact ⟨o, e, ex.2.1⟩
    · obtain ⟨o, _, _, _, e, ex, _⟩ := I.hok p _ hk
      refine ⟨⟨o, e, ex.1⟩, fun a e2 => ?_⟩
      cases e2
      exact ⟨o, e, ex.2.1⟩
  | _ => exact False.elim ty
def tBM0 (K : PySem.W.Frag) (T : String) (r : V → List V → Hp → VK → Prop) (to : TE) : TE := fun σ H Q => to σ H fun x H1 => tyV K T x H1 ∧ r x [] H1 Q
def tBM (K : PySem.W.Frag) (T : String) (r : V → List V → Hp → VK → Prop) (to : TE) (t : TA) : TE := fun σ H Q => to σ H fun x H1 => tyV K T x H1 ∧ t σ H1 fun xs H2 => r x xs H2 Q
variable {o e : Expr} {es : List Expr} {to : TE} {t : TA} {name : Str} {apos cpos : Pos} {T id : String} {r : V → List V → Hp → VK → Prop}
theorem pe_bm (pa : PlainAttrs T) (slot : Slot T name id) (hty : typeOf (.builtin id) = pure (.type "method_descriptor")) (hm : MtR X id r) (ho : PE X o to) (ha : PA X (e :: es) t)
    (hbase : attributeBase o name X.env (eval o X.env) = eval o X.env := by rfl)
    (hfew : ((backTo cpos (starEach (e :: es) X.env)).all (fun x => !x.1) && (backToKw cpos (keywordEach [] X.env)).all (fun x => x.1.isSome)
      && decide ((e :: es).length + ([] : List Keyword).length + (if ([] : List Keyword).isEmpty then 0 else 1) < 30)) = true := by rfl)
    (hline : (apos.endLine == cpos.line) = true := by rfl) (hs : starEach (e :: es) X.env = (false, eval e X.env) :: starEach es X.env := by rfl) (hplain : (backTo cpos (starEach es X.env)).any (·.1) = false := by rfl) :
    PE X (.Call (.Attribute o name apos) (e :: es) [] cpos) (tBM X.K T r to t) := by
  intro pins s σ H Q I h
  refine wpAny_Call_method_late hbase hfew hline rfl (thn (ho pins s σ H _ I h) fun v s1 ⟨x, H1, I1, r1, ty, q1⟩ => ?_)
  obtain ⟨h1, h2⟩ := tyV_is I1 r1 ty
  refine ⟨T, id, pa, slot, hty, h1, h2, ?_⟩
  have hA := ha cpos pins s1 σ H1 _ I1 q1
  rw [hs] at hA ⊢
  refine Calls.callWith_builtin (by show (false || (backTo cpos (starEach es X.env)).any (·.1)) = false; rw [hplain] <;> rfl) (Calls.evalArgs_plain ?_)
  exact thn hA fun us s2 ⟨vs, H2, I2, r2, q2⟩ => hm pins s2 σ H2 x vs v us Q I2 r1 r2 q2
end
end L2

namespace L2
open PySem PySem.Spec PyProof.Rows

def MtM (X : Cx) (id : String) (r : V → List V → Hp → VK → Prop) : Prop :=
  ∀ (pins : List (Addr × Obj)) (s : Shared) (σ : St) (H : Hp) (x : V) (xs : List V) (v : Value) (us : List Value) (Q : VK), Inv X pins σ H s → RelV x v → Vals xs us → r x xs H Q →
    wpAny (model X.prog X.w) X.A (call (.builtin id) (v :: us)) (EP X pins σ Q) X.xe s

theorem Vals.one : ∀ {x : V} {us : List Value}, Vals [x] us → ∃ u, us = [u] ∧ RelV x u
  | _, _, .cons r .nil => ⟨_, rfl, r⟩
theorem Vals.rep {xs : List V} {us : List Value} (h : Vals xs us) : ∀ k : Nat, Vals (List.replicate k xs).flatten (List.replicate k us).flatten
  | 0 => .nil
  | k + 1 => by
    rw [List.replicate_succ, List.replicate_succ, List.flatten_cons, List.flatten_cons]
    exact Vals.append h (Vals.rep h k)
theorem foldl_rep (its : List Value) : ∀ (k : Nat) (acc : List Value),
    List.foldl (fun x1 x2 => x1 ++ x2) acc.toArray (List.replicate k its.toArray) = (acc ++ (List.replicate k its).flatten).toArray
  | 0, acc => by simp
  | k + 1, acc => by
    have e : acc.toArray ++ its.toArray = (acc ++ its).toArray := by simp
    have e2 : (acc ++ its) ++ (List.replicate k its).flatten = acc ++ (List.replicate (k + 1) its).flatten := by
      rw [List.replicate_succ, List.flatten_cons, List.append_assoc]
    rw [← e2, ← foldl_rep its k (acc ++ its), ← e, List.replicate_succ, List.foldl_cons]

section
variable {X : Cx} {pins : List (Addr × Obj)} {σ : St} {H : Hp} {s : Shared} {l b : Addr} {xs ys zs : List V}

theorem Inv.lset {its its' : List Value} {n : Nat} {f : Array Value → Array Value} {t' : Nat} (I : Inv X pins σ H s) (hH : H l = some (.lst xs))
    (e : s.heap.get? l = some { cls := .type "list", data := .seq its.toArray n }) (hf : f its.toArray = its'.toArray) (hv : Vals ys its') (hz : ys.length ≤ sizeLine) :
    Inv X pins σ (upd H l (.lst ys)) { s with heap := s.heap.update l (Obj.mapSeq f), toks := t' } := by
  have q := PySem.IsL.update e f
  rw [hf] at q
  refine I.write (x := l) (e := l) (by rw [hH]; exact trivial) (.inl rfl) (fun b' u hb hu => (Heap.get?_update_other s.heap (Obj.mapSeq f) (Ne.symm hb)).trans hu) ⟨_, q⟩ ?_
  exact ⟨hz, its', _, hv, q⟩
theorem Inv.lnew {its : List Value} {t' : Nat} (I : Inv X pins σ H s) (hv : Vals ys its) (hz : ys.length ≤ sizeLine) :
    Inv X pins σ (upd H s.heap.objs.size (.lst ys)) { s with heap := s.heap.push { cls := .type "list", data := .seq its.toArray }, toks := t' } :=
  I.laid (fun _ _ q => Heap.get?_push_of_some _ q) (Nat.le_refl _) ⟨hz, its, 0, hv, Heap.get?_push_size _ rfl⟩
theorem Inv.fresh (I : Inv X pins σ H s) : H s.heap.objs.size = none := I.hok.fresh (Nat.le_refl _)
theorem Inv.lstM (I : Inv X pins σ H s) (hH : H l = some (.lst xs)) : xs.length ≤ sizeLine ∧ ∃ (its : List Value) (n : Nat), Vals xs its ∧ xs.length = its.length ∧ s.heap.get? l = some { cls := .type "list", data := .seq its.toArray n } := by
  obtain ⟨z, its, n, r, e⟩ := I.hok l _ hH
  exact ⟨z, its, n, r, r.length, e⟩

theorem notLongL {n : Nat} (h : n ≤ sizeLine) : Builtin.List.listTooLong n = false := by
  unfold Builtin.List.listTooLong
  exact decide_eq_false (by omega)
end

section
variable {X : Cx}

def rAppend : V → List V → Hp → VK → Prop := fun x vs H Q => ∃ l xs y, x = .ref l ∧ vs = [y] ∧ H l = some (.lst xs) ∧ xs.length < sizeLine ∧ Q .non (upd H l (.lst (xs ++ [y])))
theorem mt_append : MtM X "list.append" rAppend := by
  intro pins s σ H x vs v us Q I rx rv h
  obtain ⟨l, xs, y, rfl, rfl, hH, hz, q⟩ := h
  cases rx
  obtain ⟨u, rfl, ru⟩ := rv.one
  obtain ⟨z, its, n, r, hl, e⟩ := I.lstM hH
  refine call_meets F.slot_list_append ⟨_, e, rfl⟩ F.entry_list_append (F.args_list_append_2 _ _) (PySem.list_append l its.toArray n u (by rw [List.size_toArray]; omega)) ⟨e, ?_⟩
  refine ⟨.non, _, I.lset (its' := its ++ [u]) hH e (by simp) (r.append (.cons ru .nil)) ?_, rfl, q⟩
  rw [List.length_append, List.length_singleton]
  omega

def rExtend : V → List V → Hp → VK → Prop := fun x vs H Q => ∃ l b xs zs, x = .ref l ∧ vs = [.ref b] ∧ H l = some (.lst xs) ∧ H b = some (.lst zs) ∧ xs.length + zs.length ≤ sizeLine ∧ Q .non (upd H l (.lst (xs ++ zs)))
def rPop : V → List V → Hp → VK → Prop := fun x vs H Q => ∃ l xs y, x = .ref l ∧ vs = [] ∧ H l = some (.lst xs) ∧ xs[xs.length - 1]? = some y ∧ Q y (upd H l (.lst xs.dropLast))
def rPopAt : V → List V → Hp → VK → Prop := fun x vs H Q => ∃ l xs i k y, x = .ref l ∧ vs = [.int i] ∧ H l = some (.lst xs) ∧ -(2 ^ 63) ≤ i ∧ i < 2 ^ 63 ∧ seqIndex? i xs.length = some k ∧ xs[k]? = some y ∧ Q y (upd H l (.lst (xs.eraseIdx k)))
def rReverse : V → List V → Hp → VK → Prop := fun x vs H Q => ∃ l xs, x = .ref l ∧ vs = [] ∧ H l = some (.lst xs) ∧ Q .non (upd H l (.lst xs.reverse))
def rClear : V → List V → Hp → VK → Prop := fun x vs H Q => ∃ l xs, x = .ref l ∧ vs = [] ∧ H l = some (.lst xs) ∧ Q .non (upd H l (.lst []))
def rCat : R2 := fun x y H Q => ∃ l b xs zs, x = .ref l ∧ y = .ref b ∧ H l = some (.lst xs) ∧ H b = some (.lst zs) ∧ xs.length + zs.length ≤ sizeLine ∧ ∀ p, H p = none → Q (.ref p) (upd H p (.lst (xs ++ zs)))
theorem op_cat : OpR X (binaryOp .Add) rCat := by
  intro pins s σ H x y v u Q I rx ry h
  obtain ⟨l, b, xs, zs, rfl, rfl, hH, hB, hz, q⟩ := h
  cases rx
  cases ry
  obtain ⟨z, its, n, r, hl, e⟩ := I.lstM hH
  obtain ⟨z2, its2, n2, r2, hl2, e2⟩ := I.lstM hB
  refine PySem.P.add_list e e2 ?_ (by rw [List.size_toArray, List.size_toArray]; omega)
  have ea : its.toArray ++ its2.toArray = (its ++ its2).toArray := by simp
  rw [ea]
  exact ⟨.ref _, _, I.lnew (t' := s.toks) (r.append r2) (by rw [List.length_append]; omega), rfl, q _ I.fresh⟩
def rRep : R2 := fun x y H Q => ∃ l k xs, x = .ref l ∧ y = .int k ∧ H l = some (.lst xs) ∧ -(2 ^ 63) ≤ k ∧ k < 2 ^ 63 ∧ xs.length * k.toNat ≤ sizeLine ∧
  ∀ p, H p = none → Q (.ref p) (upd H p (.lst (List.replicate k.toNat xs).flatten))
theorem len_rep {α : Type} (xs : List α) (k : Nat) : (List.replicate k xs).flatten.length = k * xs.length := by
  induction k with
  | zero => simp
  | succ k ih => rw [List.replicate_succ, List.flatten_cons, List.length_append, ih, Nat.succ_mul, Nat.add_comm]
theorem op_rep : OpR X (binaryOp .Mult) rRep := by
  intro pins s σ H x y v u Q I rx ry h
  obtain ⟨l, k, xs, rfl, rfl, hH, h1, h2, hz, q⟩ := h
  cases rx
  obtain ⟨t, rfl⟩ := ry
  obtain ⟨z, its, n, r, hl, e⟩ := I.lstM hH
  have hlen : its.toArray.size * k.toNat ≤ sizeLine := by rw [List.size_toArray, ← hl]; exact hz
  have hcap : ¬ its.toArray.size * k.toNat > (2 ^ 63 - 1) / 8 := by
    have : (sizeLine : Nat) ≤ (2 ^ 63 - 1) / 8 := by decide
    omega
  have hfit : ¬ (!Builtin.List.listFitsIndex k) = true := by
    rw [fitsIndex_both h1 h2]
    exact Bool.false_ne_true
  have hlong : ¬ Builtin.List.listTooLong (its.toArray.size * k.toNat) = true := by
    rw [notLongL hlen]
    exact Bool.false_ne_true
  have hnew : List.foldl (fun x1 x2 => x1 ++ x2) #[] (List.replicate (if its.toArray.isEmpty = true then 0 else k.toNat) its.toArray) = (List.replicate k.toNat its).flatten.toArray := by
    have f0 : ∀ m : Nat, List.foldl (fun x1 x2 => x1 ++ x2) #[] (List.replicate m its.toArray) = (List.replicate m its).flatten.toArray := fun m => by
      have := foldl_rep its m []
      rw [List.nil_append] at this
      exact this
    rw [f0]
    cases its with
    | nil => simp
    | cons a r' => rw [if_neg (by simp)]
  refine wpAny_binaryOp_repeat_ref (T := "list") (U := "int") (by decide) ⟨_, e, rfl⟩ (fun s' => typeIs_int s' k t) noFill_list_mul F.fills_int_mul F.slot_int_rmul repeat_list F.slot_int_index.lookup
    (call_meets F.slot_int_rmul (typeIs_int s k t) F.entry_int_rmul (F.args_int_rmul_2 _ _) (int___rmul___int_list k t l its.toArray n)
      ⟨e, rfl, ⟨_, e, rfl⟩, call_meets F.slot_list_mul ⟨_, e, rfl⟩ F.entry_list_mul (F.args_list_mul_2 _ _) (AutoListH.list___mul___list_int_3 l its.toArray n k t hfit hcap hlong) ⟨e, ?_⟩⟩)
  rw [hnew]
  exact ⟨.ref _, _, I.lnew (t' := s.toks) (r.rep k.toNat) (by rw [len_rep, Nat.mul_comm]; exact hz), rfl, q _ I.fresh⟩

end

section
variable {prog : Program} {w : World} {A : Around} {E : Value → Shared → Prop} {s : Shared}
set_option maxRecDepth 100000 in
end

section
variable {X : Cx}
end
end L2

namespace Att
open PySem PySem.W PySem.Calls PyProof.Rows

theorem ints_of_wellAll {P : Params} {h : Heap} : ∀ (ns : List Int) (vs : List Value), WellAll P h vs (ns.map WData.int) → IntsAre vs ns := by
  intro ns
  induction ns with
  | nil =>
    intro vs w
    rw [List.map_nil] at w
    cases w
    exact .nil
  | cons n ns ih =>
    intro vs w
    rw [List.map_cons] at w
    cases w with
    | cons a b =>
      cases a
      exact .cons _ _ (ih _ b)

theorem script_of {l : OpenLaw} {n : Nat} (hn : l.most = some n) {P : Params} {h : Heap} {args : List WData} {vals : List Value}
    (hpre : l.row.toRowW.claim.pre args = true) (hwl : WellAll P h vals args) :
    ∃ a vs ns, vals = [Value.ref a] ∧ args = [WData.list (ns.map WData.int)] ∧ h.get? a = some { cls := .type "list", data := .seq vs.toArray } ∧ IntsAre vs ns ∧ ns.length ≤ n := by
  have hsh : WShape.hasAll [] args [.list .int] = true := (pre_splitW hpre).1
  have hc : l.pre.holds [] { args := args } = true := (pre_splitW hpre).2
  obtain ⟨d, r, rfl, h1, h2⟩ := hasAllW_cons hsh
  obtain rfl := hasAllW_nil h2
  obtain ⟨xs, rfl, h3⟩ := hasW_list h1
  obtain ⟨ns, rfl⟩ := items_int h3
  have hlen : ns.length ≤ n := by
    unfold OpenLaw.pre at hc
    have h4 : (WTm.not (.lt (.lit (.int (n : Int))) (.len (.arg 0)))).holds [] { args := [.list (ns.map .int)] } = true := by
      have h4 := (holds_andW hc).1
      rw [hn] at h4
      exact h4
    have h5 := condW_of h4 (w_not (w_lt w_lit (w_len_list (w_arg rfl))))
    rw [List.length_map] at h5
    refine Nat.le_of_not_lt fun q => ?_
    have q' : (n : Int) < ((ns.length : Nat) : Int) := by omega
    first
      | (rw [decide_eq_true q'] at h5; exact absurd h5 (by decide))
      | (simp at h5; omega)
  cases hwl with
  | cons w1 w2 =>
    cases w2
    cases w1 with
    | list ho hall => exact ⟨_, _, ns, rfl, rfl, ho, ints_of_wellAll ns _ hall, hlen⟩

theorem post_true (l : OpenLaw) (args : List WData) : l.row.toRowW.claim.post args (.bool true) args = true :=
  postW_of (r := l.row.toRowW) (X := (true == true))
    (show WShape.has [] (.bool true) .bool = true by first | rfl | decide | simp [WShape.has, WShape.arms, WShape.armsAll])
    (show (WTm.eq .res (.lit (.bool true))).value [] { args := args, res := some (.bool true), after := args } = some (.bool (true == true)) from w_eq_bool (w_res rfl) w_lit) rfl

section
variable {prog : Program} {w : World} {A : Around} {E : Value → Shared → Prop} {s : Shared} {K : Frag}

def noObjs (h : Heap) : Heap := { h with objs := #[] }
def ledger (h : Heap) (L d : Addr) : List (Addr × Obj) := (List.range h.objs.size).filterMap fun a => if a = L ∨ a = d then none else (h.get? a).map fun o => (a, o)
end
end Att

namespace L2
open PySem PySem.Spec PyProof.Rows

theorem vals_ints : ∀ {vs : List Value} {ns : List Int}, IntsAre vs ns → Vals (ns.map V.int) vs
  | _, _, .nil => .nil
  | _, _, .cons n t h => .cons ⟨t, rfl⟩ (vals_ints h)

def Only (H : Hp) : Prop := ∀ b, H b = none ∨ ∃ o xs, H b = some (.frz o (.lst xs))

end L2

namespace L2
open PySem PySem.Spec PyProof.Rows

abbrev KOf {K : PySem.W.Frag} {h : Heap} (_ : K.In h) : PySem.W.Frag := K


end L2

/- THE LAST THEOREM (shape; LID, My.* are yours):
   My.Adr: a structure of the addresses that your layer names (classes, functions); My.Txt K t: a structure (Prop) of the equations over K;
   My.txt_mk : {K} {implicit addresses ..} (e1 : nsIn K mainGlobals "law" = some (some (.ref f))) (e2 : K.lookup f = some ⟨oc, od, .func (fnOf "law" "law" params body scope dV kV doc pm an cdv ct), sl⟩) (e3 : codeIn K cdv "law" = true) .. : ∃ t, My.Txt K t

set_option maxRecDepth 100000 in
set_option maxHeartbeats 0 in
theorem PySem.Challenge.cw_LID_holds : PySem.Challenge.rw_LID.Holds := by
  w_on; o_law; k_head; (case hw => w_witness2)
  k_fill
  refine L2.walk_of (l := PySem.Challenge.rw_LID) (n := 63) (k := 40) (x := "script") (CX := fun w => ..) (sp := fun _ => My.sp_law) rfl (by decide) rfl ⟨rfl, by decide, by decide⟩ (fun w h Y => PySem.W.kIn_of Y) ?F ?S ?C
  case F =>
    intro w mg fa h KX G hmg
    have T : ∃ t, My.Txt (L2.KOf KX) t := by
      dsimp only [L2.KOf]                          -- K must stand as «<heap const> w.params» for k_is
      refine' My.txt_mk ?e1 ?e2 ?e3 ..
      (case e1 => PySem.W.k_is)                    -- in the order: a name -> its address -> its object -> its parts
      (case e2 => PySem.W.k_is)
      ..
    obtain ⟨t, T⟩ := T
    have e0 := hmg.symm.trans (PySem.W.mg_of KX G T.law)
    cases e0                                       -- fa is the law's own address
    exact ⟨_, fun s u => .of_eq rfl, fun base kb nb => My.law_fn T kb nb⟩     -- if «.of_eq rfl» comes too early: refine' ⟨_, ?b, fun base kb nb => My.law_fn T kb nb⟩; exact fun s u => .of_eq rfl
  case S => exact fun w H a ns hl hO hS => ..
  case C => exact ..
(the tactic k_is has no namespace: write k_is) -/

namespace L2
open PySem PySem.Spec PyProof.Rows

def inClass (s : Stmt) (j : Nat) : Stmt := match s with
  | .ClassDef _ _ _ body _ _ _ _ _ _ _ => body.getD j (.Pass ⟨0, 0, 0, 0⟩)
  | _ => .Pass ⟨0, 0, 0, 0⟩
def defArgs (s : Stmt) : Arguments := match s with
  | .FunctionDef _ a _ _ _ _ _ _ _ _ => a
  | _ => { posonlyargs := [], args := [], vararg := none, kwonlyargs := [], kw_defaults := [], kwarg := none, defaults := [] }
def defBody (s : Stmt) : List Stmt := match s with
  | .FunctionDef _ _ b _ _ _ _ _ _ _ => b
  | _ => []
def defScope (s : Stmt) : Scope := match s with
  | .FunctionDef _ _ _ _ _ _ sc _ _ _ => sc
  | _ => { kind := .function, names := [], isGenerator := false, isCoroutine := false }

abbrev CX0 : CXT := fun _ _ _ _ _ _ => False
abbrev E0 : XK := fun _ _ _ => False
structure Fun (K : PySem.W.Frag) (x qual : Str) (st : Stmt) (f : Addr) (fd : FuncData) : Prop where
  ex : ∃ (oc : Value) (od : Option Addr) (kV doc pm : Value) (an : Option Addr) (cdv ct : Value) (osl : Array (Option Value)),
    fd = PySem.W.fnOf x qual (defArgs st) (defBody st) (defScope st) .none kV doc pm an cdv ct ∧ K.lookup f = some ⟨oc, od, .func fd, osl⟩ ∧ PySem.W.codeIn K cdv qual = true
  kp : PySem.W.keepIn K (.ref f) = true
section
variable {P : Program} {w : World} {K : PySem.W.Frag} {mg : Str → Option Value} {base : Heap}
theorem Fun.binds {x qual : Str} {st : Stmt} {f : Addr} {fd : FuncData} {ps : List Str} (F : Fun K x qual st f fd)
    (h : ∀ (kV doc pm : Value) (an : Option Addr) (cdv ct : Value) (us : List Value), us.length = ps.length → bindArgs (PySem.W.fnOf x qual (defArgs st) (defBody st) (defScope st) .none kV doc pm an cdv ct) ⟨us, []⟩ = pure (ps.zip us)) : Binds K fd ps [] := by
  obtain ⟨oc, od, kV, doc, pm, an, cdv, ct, osl, rfl, lk, hcd⟩ := F.ex
  exact .all (h kV doc pm an cdv ct)
theorem fun_mk {x qual : Str} {st : Stmt} {f : Addr} {oc : Value} {od an : Option Addr} {osl : Array (Option Value)} {kV doc pm cdv ct : Value} (l : K.lookup f = some ⟨oc, od, .func (PySem.W.fnOf x qual (defArgs st) (defBody st) (defScope st) .none kV doc pm an cdv ct), osl⟩)
    (c : PySem.W.codeIn K cdv qual = true) (k : PySem.W.keepIn K (.ref f) = true) : Fun K x qual st f (PySem.W.fnOf x qual (defArgs st) (defBody st) (defScope st) .none kV doc pm an cdv ct) := ⟨⟨oc, od, kV, doc, pm, an, cdv, ct, osl, rfl, l, c⟩, k⟩
end
section
variable {X : Cx}
theorem pv (i : Nat) {x : Str} {pos : Pos} (hN : X.N[i]? = some x := by rfl) (hv : Vis X.env.scope x := by first | exact Or.inl rfl | exact Or.inr (Or.inl rfl) | exact Or.inr (Or.inr rfl)) (hd : (x == ("__debug__" : Str)) = false := by decide)
    (hcd : (x == ("__classdict__" : Str)) = false := by decide) : PE X (.Name x pos) (tVar i) := pe_var hN hv hd hcd
end

theorem iteF {A B : Prop} (h : B) : if false = true then A else B := by
  rw [if_neg Bool.false_ne_true]
  exact h
theorem iteT {A B : Prop} (h : A) : if true = true then A else B := by
  rw [if_pos rfl]
  exact h
theorem ite2 {c A B : Prop} [Decidable c] (h1 : c → A) (h2 : ¬ c → B) : if c then A else B := by
  by_cases h : c
  · rw [if_pos h]
    exact h1 h
  · rw [if_neg h]
    exact h2 h
theorem iteNS {c A B : Prop} [Decidable c] (hc : c) (h : B) : if (!decide c) = true then A else B := by
  rw [decide_eq_true hc]
  exact iteF h

def Same (H H' : Hp) : Prop := ∀ b o, H b = some o → H' b = some o
theorem Same.refl (H : Hp) : Same H H := fun _ _ h => h
theorem Same.trans {H H1 H2 : Hp} (a : Same H H1) (b : Same H1 H2) : Same H H2 := fun c o h => b c o (a c o h)
theorem Same.free {H H' : Hp} (e : Same H H') {l : Addr} (h : H' l = Option.none) : H l = Option.none := by
  cases q : H l with
  | none => rfl
  | some o =>
    rw [e l o q] at h
    cases h
theorem Same.seq {K : PySem.W.Frag} {H H' : Hp} {a : Addr} {xs : List V} (e : Same H H') (h : SqL K H a xs) : SqL K H' a xs := by
  rcases h with (h | ⟨o, h⟩) | h
  · exact .inl (.inl (e _ _ h))
  · exact .inl (.inr ⟨o, e _ _ h⟩)
  · exact .inr h

end L2

namespace Ty
def gz (t b : Int) : Int := (Int.gcd t b : Nat)
def sg (t b : Int) : Int := if b < 0 then -gz t b else gz t b
def low (t b : Int) : Int × Int := (t.fdiv (sg t b), b.fdiv (sg t b))

theorem gcd_step (a b : Int) : Int.gcd b (a.fmod b) = Int.gcd a b := by
  rw [Int.fmod_def, Int.gcd_sub_mul_left_right, Int.gcd_comm]
theorem fmod_less {a b : Int} (h : b ≠ 0) : (a.fmod b).natAbs < b.natAbs := by
  rcases Int.lt_trichotomy b 0 with q | q | q
  · have h1 : (-a).fmod (-b) = -(a.fmod b) := by
      rw [Int.fmod_def, Int.fmod_def, Int.neg_fdiv_neg, Int.neg_mul]
      omega
    have h2 := Int.fmod_nonneg_of_pos (-a) (show 0 < -b by omega)
    have h3 := Int.fmod_lt_of_pos (-a) (show 0 < -b by omega)
    omega
  · exact absurd q h
  · have h2 := Int.fmod_nonneg_of_pos a q
    have h3 := Int.fmod_lt_of_pos a q
    omega
theorem gz_pos {t b : Int} (h : b ≠ 0) : 0 < gz t b := by
  have := Int.gcd_pos_iff.mpr (Or.inr h : t ≠ 0 ∨ b ≠ 0)
  show (0 : Int) < ((Int.gcd t b : Nat) : Int)
  omega
theorem gz_le {t b : Int} (h : b ≠ 0) : (gz t b).natAbs ≤ b.natAbs := by
  have h1 : Int.gcd t b ∣ b.natAbs := Int.natAbs_dvd_natAbs.mpr (Int.gcd_dvd_right t b)
  have h2 := Nat.le_of_dvd (by omega) h1
  show ((Int.gcd t b : Nat) : Int).natAbs ≤ _
  omega
theorem sg_ne {t b : Int} (h : b ≠ 0) : sg t b ≠ 0 := by
  have := gz_pos (t := t) h
  unfold sg
  split <;> omega
theorem sg_abs {t b : Int} : (sg t b).natAbs = (gz t b).natAbs := by
  unfold sg
  split
  · exact Int.natAbs_neg _
  · rfl
theorem sg_dvd_left (t b : Int) : sg t b ∣ t := by
  unfold sg gz
  split
  · exact Int.neg_dvd.mpr (Int.gcd_dvd_left t b)
  · exact Int.gcd_dvd_left t b
theorem sg_dvd_right (t b : Int) : sg t b ∣ b := by
  unfold sg gz
  split
  · exact Int.neg_dvd.mpr (Int.gcd_dvd_right t b)
  · exact Int.gcd_dvd_right t b
theorem fdiv_of_dvd {a g : Int} (h : g ≠ 0) (d : g ∣ a) : a = g * a.fdiv g := by
  obtain ⟨c, hc⟩ := d
  have := Int.fdiv_eq_of_eq_mul_right h hc
  rw [this]
  exact hc
theorem low_top {t b : Int} (h : b ≠ 0) : t = sg t b * (low t b).1 := fdiv_of_dvd (sg_ne h) (sg_dvd_left t b)
theorem low_bot {t b : Int} (h : b ≠ 0) : b = sg t b * (low t b).2 := fdiv_of_dvd (sg_ne h) (sg_dvd_right t b)
theorem low_pos {t b : Int} (h : b ≠ 0) : 0 < (low t b).2 := by
  have e := low_bot (t := t) h
  have g := gz_pos (t := t) h
  rcases Int.lt_trichotomy (low t b).2 0 with q | q | q
  · exfalso
    by_cases c : b < 0
    · have s : sg t b = -gz t b := by unfold sg; rw [if_pos c]
      rw [s] at e
      have := Int.mul_pos_of_neg_of_neg (show -gz t b < 0 by omega) q
      omega
    · have s : sg t b = gz t b := by unfold sg; rw [if_neg c]
      rw [s] at e
      have := Int.mul_neg_of_pos_of_neg g q
      omega
  · exfalso
    rw [q, Int.mul_zero] at e
    exact h e
  · exact q
theorem low_cross {t b : Int} (h : b ≠ 0) : (low t b).1 * b = t * (low t b).2 := by
  have e1 := low_top (t := t) h
  have e2 := low_bot (t := t) h
  calc (low t b).1 * b = (low t b).1 * (sg t b * (low t b).2) := by rw [← e2]
    _ = sg t b * (low t b).1 * (low t b).2 := by rw [← Int.mul_assoc, Int.mul_comm (low t b).1]
    _ = t * (low t b).2 := by rw [← e1]
theorem low_gcd {t b : Int} (h : b ≠ 0) : Int.gcd (low t b).1 (low t b).2 = 1 := by
  have e1 := low_top (t := t) h
  have e2 := low_bot (t := t) h
  have k : Int.gcd t b = (sg t b).natAbs * Int.gcd (low t b).1 (low t b).2 := by
    have q := Int.gcd_mul_left (sg t b) (low t b).1 (low t b).2
    rw [← e1, ← e2] at q
    exact q
  have g : (sg t b).natAbs = Int.gcd t b := by
    rw [sg_abs]
    rfl
  have p := Int.gcd_pos_iff.mpr (Or.inr h : t ≠ 0 ∨ b ≠ 0)
  rw [g] at k
  have k' : Int.gcd t b * 1 = Int.gcd t b * Int.gcd (low t b).1 (low t b).2 := by rw [Nat.mul_one]; exact k
  exact (Nat.eq_of_mul_eq_mul_left p k').symm
theorem natAbs_factor {g a : Int} (h : g ≠ 0) : a.natAbs ≤ (g * a).natAbs := by
  rw [Int.natAbs_mul]
  have : 1 ≤ g.natAbs := by omega
  have := Nat.mul_le_mul_right a.natAbs this
  omega
theorem low_top_le {t b : Int} (h : b ≠ 0) : (low t b).1.natAbs ≤ t.natAbs := by
  have e := low_top (t := t) h
  have := natAbs_factor (g := sg t b) (a := (low t b).1) (sg_ne h)
  rw [← e] at this
  exact this
theorem low_bot_le {t b : Int} (h : b ≠ 0) : (low t b).2.natAbs ≤ b.natAbs := by
  have e := low_bot (t := t) h
  have := natAbs_factor (g := sg t b) (a := (low t b).2) (sg_ne h)
  rw [← e] at this
  exact this
theorem low_of {t b g x y : Int} (hg : g ≠ 0) (ht : t = g * x) (hb : b = g * y) (hy : 0 < y) (h1 : Int.gcd x y = 1) : low t b = (x, y) := by
  have hbn : b ≠ 0 := by
    rw [hb]
    exact Int.mul_ne_zero hg (by omega)
  have gg : Int.gcd t b = g.natAbs := by
    rw [ht, hb, Int.gcd_mul_left, h1, Nat.mul_one]
  have s : sg t b = g := by
    unfold sg gz
    rw [gg]
    by_cases c : g < 0
    · have : b < 0 := by rw [hb]; exact Int.mul_neg_of_neg_of_pos c hy
      rw [if_pos this]
      omega
    · have : ¬ b < 0 := by
        have := Int.mul_nonneg (show 0 ≤ g by omega) (show 0 ≤ y by omega)
        omega
      rw [if_neg this]
      omega
  unfold low
  rw [s]
  rw [Int.fdiv_eq_of_eq_mul_right hg ht, Int.fdiv_eq_of_eq_mul_right hg hb]
theorem low_self {x y : Int} (hy : 0 < y) (h : Int.gcd x y = 1) : low x y = (x, y) := low_of (g := 1) (by decide) (by omega) (by omega) hy h
end Ty

set_option maxHeartbeats 4000000
namespace Ty
open PySem PySem.Spec PyProof.Rows L2
open Builtin.Int (intBits)
section
variable {X : Cx}
def CMulB (i j : Int) : Prop := intBits i ≤ 33554432 ∧ intBits j ≤ 33554432
theorem op_mulB : OpR X (binaryOp .Mult) (rI CMulB fun i j => .int (i * j)) :=
  opI fun _ _ _ _ _ _ _ hc q => mul_int q (IntMulOk.of_le hc.1 hc.2 (by decide))
def CDivB (i j : Int) : Prop := j ≠ 0 ∧ intBits j ≤ 9000
theorem noPy {i j : Int} (h : intBits j ≤ 9000) : Builtin.divisionGoesByPylong i j = false := by
  refine PyProof.noPylong_of_log2 ?_
  have h1 := intBits_le_iff.mp h
  by_cases h0 : j.natAbs = 0
  · rw [h0]
    decide +kernel
  · exact (Nat.log2_lt h0).mpr h1
theorem op_fdivB : OpR X (binaryOp .FloorDiv) (rI CDivB fun i j => .int (i.fdiv j)) :=
  opI fun _ _ _ _ _ _ _ hc q => floordiv_int hc.1 q (.inl (noPy hc.2))
end
inductive Da where
  | v (x : V)
  | t (ds : List Da)
  | l (ds : List Da)
mutual
def Is (K : PySem.W.Frag) (H : Hp) : Da → V → Prop
  | .v x, u => u = x ∧ flatV x = true
  | .t ds, u => ∃ p xs, u = .ref p ∧ SqT K H p xs ∧ Iss K H ds xs
  | .l ds, u => ∃ p xs, u = .ref p ∧ SqL K H p xs ∧ Iss K H ds xs
def Iss (K : PySem.W.Frag) (H : Hp) : List Da → List V → Prop
  | [], [] => True
  | d :: ds, x :: xs => Is K H d x ∧ Iss K H ds xs
  | _, _ => False
end
mutual
def eqDa : Da → Da → Bool
  | .v x, .v y => eqV x y
  | .t ds, .t es => eqDas ds es
  | .l ds, .l es => eqDas ds es
  | _, _ => false
def eqDas : List Da → List Da → Bool
  | [], [] => true
  | d :: ds, e :: es => eqDa d e && eqDas ds es
  | _, _ => false
end
mutual
def alike : Da → Da → Bool
  | .v _, .v _ => true
  | .t ds, .t es => alikes ds es
  | .l ds, .l es => alikes ds es
  | _, _ => false
def alikes : List Da → List Da → Bool
  | d :: ds, e :: es => alike d e && alikes ds es
  | _, _ => true
end
mutual
def dep : Da → Nat
  | .v _ => 0
  | .t ds => deps ds + 1
  | .l ds => deps ds + 1
def deps : List Da → Nat
  | [] => 0
  | d :: ds => max (dep d) (deps ds)
end
theorem Iss.length {K : PySem.W.Frag} {H : Hp} : ∀ {ds : List Da} {xs : List V}, Iss K H ds xs → ds.length = xs.length
  | [], [], _ => rfl
  | _ :: _, _ :: _, h => congrArg (· + 1) (Iss.length (by unfold Iss at h; exact h.2))
  | [], _ :: _, h => by unfold Iss at h; exact h.elim
  | _ :: _, [], h => by unfold Iss at h; exact h.elim
def bitDa (ds es : List Da) (j : Nat) : Bool := match ds[j]?, es[j]? with
  | some d, some e => eqDa d e
  | _, _ => true
theorem eqDas_bits : ∀ ds es : List Da, eqDas ds es = ((List.range (min ds.length es.length)).all (bitDa ds es) && ds.length == es.length)
  | [], [] => rfl
  | [], _ :: _ => by simp [eqDas]
  | _ :: _, [] => by simp [eqDas]
  | d :: ds, e :: es => by
    have ih := eqDas_bits ds es
    have r : min (d :: ds).length (e :: es).length = min ds.length es.length + 1 := by simp [Nat.succ_min_succ]
    rw [r, List.range_succ_eq_map, List.all_cons, List.all_map]
    have b0 : bitDa (d :: ds) (e :: es) 0 = eqDa d e := rfl
    have b1 : (bitDa (d :: ds) (e :: es) ∘ Nat.succ) = bitDa ds es := by
      funext j
      rfl
    have l1 : ((d :: ds).length == (e :: es).length) = (ds.length == es.length) := by simp
    rw [b0, b1, l1, Bool.and_assoc, ← ih]
    rfl
section
variable {X : Cx} {pins : List (Addr × Obj)} {σ : L2.St} {H : Hp} {s : Shared}
theorem eqV_refl {x : V} (h : flatV x = true) : eqV x x = true := by
  cases x <;> first | rfl | (simp [eqV]; done) | (cases h; done)
mutual
theorem is_same (I : Inv X pins σ H s) : ∀ (d e : Da) (x : V), Is X.K H d x → Is X.K H e x → alike d e = true → eqDa d e = true
  | .v a, .v b, x, h1, h2, _ => by
    unfold Is at h1 h2
    obtain ⟨rfl, f⟩ := h1
    obtain ⟨rfl, _⟩ := h2
    unfold eqDa
    exact eqV_refl f
  | .t ds, .t es, x, h1, h2, a => by
    unfold Is at h1 h2
    obtain ⟨p, xs, rfl, q1, k1⟩ := h1
    obtain ⟨p', ys, e', q2, k2⟩ := h2
    cases e'
    cases I.tuple_inj q1 q2
    unfold eqDa
    unfold alike at a
    exact iss_same I ds es xs k1 k2 a
  | .l ds, .l es, x, h1, h2, a => by
    unfold Is at h1 h2
    obtain ⟨p, xs, rfl, q1, k1⟩ := h1
    obtain ⟨p', ys, e', q2, k2⟩ := h2
    cases e'
    cases I.list_inj q1 q2
    unfold eqDa
    unfold alike at a
    exact iss_same I ds es xs k1 k2 a
  | .v _, .t _, _, _, _, a => by unfold alike at a; cases a
  | .v _, .l _, _, _, _, a => by unfold alike at a; cases a
  | .t _, .v _, _, _, _, a => by unfold alike at a; cases a
  | .t _, .l _, _, _, _, a => by unfold alike at a; cases a
  | .l _, .v _, _, _, _, a => by unfold alike at a; cases a
  | .l _, .t _, _, _, _, a => by unfold alike at a; cases a
theorem iss_same (I : Inv X pins σ H s) : ∀ (ds es : List Da) (xs : List V), Iss X.K H ds xs → Iss X.K H es xs → alikes ds es = true → eqDas ds es = true
  | [], [], _, _, _, _ => by unfold eqDas; rfl
  | d :: ds, e :: es, x :: xs, h1, h2, a => by
    unfold Iss at h1 h2
    unfold alikes at a
    rw [Bool.and_eq_true] at a
    unfold eqDas
    rw [is_same I d e x h1.1 h2.1 a.1, iss_same I ds es xs h1.2 h2.2 a.2]
    rfl
  | [], _ :: _, [], _, h2, _ => by unfold Iss at h2; exact h2.elim
  | [], _ :: _, _ :: _, h1, _, _ => by unfold Iss at h1; exact h1.elim
  | _ :: _, [], [], h1, _, _ => by unfold Iss at h1; exact h1.elim
  | _ :: _, [], _ :: _, _, h2, _ => by unfold Iss at h2; exact h2.elim
  | _ :: _, _ :: _, [], h1, _, _ => by unfold Iss at h1; exact h1.elim
end
theorem in1_units (A : Around) : A.in1.units = A.units + 1 := rfl
mutual
theorem eqAt_da (I : Inv X pins σ H s) : ∀ (d e : Da) (x y : V) (u w : Value) (A : Around), Is X.K H d x → Is X.K H e y → alike d e = true → RelV x u → RelV y w → A.units + dep d < cLine → SeqAt.EqAt A s u w (eqDa d e)
  | .v a, .v b, x, y, u, w, A, h1, h2, _, r1, r2, _ => by
    unfold Is at h1 h2
    obtain ⟨rfl, f1⟩ := h1
    obtain ⟨rfl, f2⟩ := h2
    unfold eqDa
    exact eqAt_V r1 r2 f1 f2
  | .t ds, .t es, x, y, u, w, A, h1, h2, a, r1, r2, hu => by
    have h1' := h1
    have h2' := h2
    unfold Is at h1 h2
    obtain ⟨p, xs, rfl, q1, k1⟩ := h1
    obtain ⟨p', ys, rfl, q2, k2⟩ := h2
    cases r1
    cases r2
    by_cases e : p = p'
    · subst e
      rw [is_same I _ _ _ h1' h2' a]
      exact .same _
    · refine .of_refs e ?_
      obtain ⟨its, v1, t1, _⟩ := I.tuple q1
      obtain ⟨its2, v2, t2, _⟩ := I.tuple q2
      unfold eqDa
      rw [eqDas_bits, k1.length, k2.length, v1.length, v2.length]
      have z := SeqAt.RcAt.tuples (A := A) (e := bitDa ds es) t1 t2 (by unfold dep at hu; omega) fun j g1 g2 => by
        unfold dep at hu
        unfold alike at a
        exact eqAt_das I ds es xs ys its its2 A.in1 k1 k2 a v1 v2 (by rw [in1_units]; omega) j (by simpa using g1) (by simpa using g2)
      simpa using z
  | .l ds, .l es, x, y, u, w, A, h1, h2, a, r1, r2, hu => by
    have h1' := h1
    have h2' := h2
    unfold Is at h1 h2
    obtain ⟨p, xs, rfl, q1, k1⟩ := h1
    obtain ⟨p', ys, rfl, q2, k2⟩ := h2
    cases r1
    cases r2
    by_cases e : p = p'
    · subst e
      rw [is_same I _ _ _ h1' h2' a]
      exact .same _
    · refine .of_refs e ?_
      obtain ⟨its, v1, t1, _⟩ := I.list q1
      obtain ⟨its2, v2, t2, _⟩ := I.list q2
      unfold eqDa
      unfold dep at hu
      unfold alike at a
      by_cases el : its.length = its2.length
      · rw [eqDas_bits, k1.length, k2.length, v1.length, v2.length]
        have z := SeqAt.RcAt.lists (A := A) (e := bitDa ds es) t1.isList t2.isList (by simpa using el) (by omega) fun j g1 g2 =>
          eqAt_das I ds es xs ys its its2 A.in1 k1 k2 a v1 v2 (by rw [in1_units]; omega) j (by simpa using g1) (by simpa using g2)
        rw [el, Nat.min_self, beq_self_eq_true, Bool.and_true]
        rw [List.size_toArray, el] at z
        exact z
      · have ne : eqDas ds es = false := by
          rw [eqDas_bits, k1.length, k2.length, v1.length, v2.length, beq_eq_false_iff_ne.mpr el, Bool.and_false]
        rw [ne]
        exact SeqAt.RcAt.lists_lengths t1.isList t2.isList (by simpa using el) (by omega)
  | .v _, .t _, _, _, _, _, _, _, _, a, _, _, _ => by unfold alike at a; cases a
  | .v _, .l _, _, _, _, _, _, _, _, a, _, _, _ => by unfold alike at a; cases a
  | .t _, .v _, _, _, _, _, _, _, _, a, _, _, _ => by unfold alike at a; cases a
  | .t _, .l _, _, _, _, _, _, _, _, a, _, _, _ => by unfold alike at a; cases a
  | .l _, .v _, _, _, _, _, _, _, _, a, _, _, _ => by unfold alike at a; cases a
  | .l _, .t _, _, _, _, _, _, _, _, a, _, _, _ => by unfold alike at a; cases a
theorem eqAt_das (I : Inv X pins σ H s) : ∀ (ds es : List Da) (xs ys : List V) (us ws : List Value) (A : Around), Iss X.K H ds xs → Iss X.K H es ys → alikes ds es = true → Vals xs us → Vals ys ws → A.units + deps ds < cLine →
    ∀ (j : Nat) (h1 : j < us.length) (h2 : j < ws.length), SeqAt.EqAt A s us[j] ws[j] (bitDa ds es j)
  | d :: ds, e :: es, x :: xs, y :: ys, u :: us, w :: ws, A, k1, k2, a, .cons r1 v1, .cons r2 v2, hu, 0, _, _ => by
    unfold Iss at k1 k2
    unfold alikes at a
    rw [Bool.and_eq_true] at a
    unfold deps at hu
    exact eqAt_da I d e x y u w A k1.1 k2.1 a.1 r1 r2 (by omega)
  | d :: ds, e :: es, x :: xs, y :: ys, u :: us, w :: ws, A, k1, k2, a, .cons r1 v1, .cons r2 v2, hu, j + 1, h1, h2 => by
    unfold Iss at k1 k2
    unfold alikes at a
    rw [Bool.and_eq_true] at a
    unfold deps at hu
    exact eqAt_das I ds es xs ys us ws A k1.2 k2.2 a.2 v1 v2 (by omega) j (by simpa using h1) (by simpa using h2)
  | [], _, [], _, _, _, _, _, _, _, .nil, _, _, _, h1, _ => absurd h1 (Nat.not_lt_zero _)
  | _, [], _, [], _, _, _, _, _, _, _, .nil, _, _, _, h2 => absurd h2 (Nat.not_lt_zero _)
  | [], _, _ :: _, _, _, _, _, k1, _, _, _, _, _, _, _, _ => by unfold Iss at k1; exact k1.elim
  | _ :: _, _, [], _, _, _, _, k1, _, _, _, _, _, _, _, _ => by unfold Iss at k1; exact k1.elim
  | _, [], _, _ :: _, _, _, _, _, k2, _, _, _, _, _, _, _ => by unfold Iss at k2; exact k2.elim
  | _, _ :: _, _, [], _, _, _, _, k2, _, _, _, _, _, _, _ => by unfold Iss at k2; exact k2.elim
end
end

section
variable {X : Cx}
def rEqDa (K : PySem.W.Frag) : R2 := fun x y H Q => ∃ ds es, ((Is K H (.t ds) x ∧ Is K H (.t es) y) ∨ (Is K H (.l ds) x ∧ Is K H (.l es) y)) ∧ alikes ds es = true ∧ deps ds ≤ 60 ∧ Q (.bl (eqDas ds es)) H
def rNeDa (K : PySem.W.Frag) : R2 := fun x y H Q => ∃ ds es, ((Is K H (.t ds) x ∧ Is K H (.t es) y) ∨ (Is K H (.l ds) x ∧ Is K H (.l es) y)) ∧ alikes ds es = true ∧ deps ds ≤ 60 ∧ Q (.bl (!eqDas ds es)) H
theorem op_eqDa (hu : X.A.units + 64 < cLine) : OpR X (compareOp .Eq) (rEqDa X.K) := by
  intro pins s σ H x y v u Q I rx ry h
  obtain ⟨ds, es, h, a, hd, q⟩ := h
  rcases h with ⟨h1, h2⟩ | ⟨h1, h2⟩
  · unfold Is at h1 h2
    obtain ⟨p, xs, rfl, q1, k1⟩ := h1
    obtain ⟨p', ys, rfl, q2, k2⟩ := h2
    cases rx
    cases ry
    obtain ⟨its, v1, t1, _⟩ := I.tuple q1
    obtain ⟨its2, v2, t2, _⟩ := I.tuple q2
    have z := SeqAt.RcAt.tuples (A := X.A) (e := bitDa ds es) t1 t2 (by omega) fun j g1 g2 =>
      eqAt_das I ds es xs ys its its2 X.A.in1 k1 k2 a v1 v2 (by rw [in1_units]; omega) j (by simpa using g1) (by simpa using g2)
    refine z X.prog X.w X.xe _ ⟨.bl _, H, I, rfl, ?_⟩
    have e := eqDas_bits ds es
    rw [k1.length, k2.length, v1.length, v2.length] at e
    simpa [e] using q
  · unfold Is at h1 h2
    obtain ⟨p, xs, rfl, q1, k1⟩ := h1
    obtain ⟨p', ys, rfl, q2, k2⟩ := h2
    cases rx
    cases ry
    obtain ⟨its, v1, t1, _⟩ := I.list q1
    obtain ⟨its2, v2, t2, _⟩ := I.list q2
    have e := eqDas_bits ds es
    rw [k1.length, k2.length, v1.length, v2.length] at e
    by_cases el : its.length = its2.length
    · have z := SeqAt.RcAt.lists (A := X.A) (e := bitDa ds es) t1.isList t2.isList (by simpa using el) (by omega) fun j g1 g2 =>
        eqAt_das I ds es xs ys its its2 X.A.in1 k1 k2 a v1 v2 (by rw [in1_units]; omega) j (by simpa using g1) (by simpa using g2)
      refine z X.prog X.w X.xe _ ⟨.bl _, H, I, rfl, ?_⟩
      rw [el, Nat.min_self, beq_self_eq_true, Bool.and_true] at e
      simpa [e, el] using q
    · have ne : eqDas ds es = false := by rw [e, beq_eq_false_iff_ne.mpr el, Bool.and_false]
      rw [ne] at q
      exact SeqAt.RcAt.lists_lengths t1.isList t2.isList (by simpa using el) (by omega) X.prog X.w X.xe _ ⟨.bl _, H, I, rfl, q⟩
theorem op_neDa (hu : X.A.units + 64 < cLine) : OpR X (compareOp .NotEq) (rNeDa X.K) := by
  intro pins s σ H x y v u Q I rx ry h
  obtain ⟨ds, es, h, a, hd, q⟩ := h
  rcases h with ⟨h1, h2⟩ | ⟨h1, h2⟩
  · unfold Is at h1 h2
    obtain ⟨p, xs, rfl, q1, k1⟩ := h1
    obtain ⟨p', ys, rfl, q2, k2⟩ := h2
    cases rx
    cases ry
    obtain ⟨its, v1, t1, _⟩ := I.tuple q1
    obtain ⟨its2, v2, t2, _⟩ := I.tuple q2
    have z := SeqAt.RcNeAt.tuples (A := X.A) (e := bitDa ds es) t1 t2 (by omega) fun j g1 g2 =>
      eqAt_das I ds es xs ys its its2 X.A.in1 k1 k2 a v1 v2 (by rw [in1_units]; omega) j (by simpa using g1) (by simpa using g2)
    refine z X.prog X.w X.xe _ ⟨.bl _, H, I, rfl, ?_⟩
    have e := eqDas_bits ds es
    rw [k1.length, k2.length, v1.length, v2.length] at e
    simpa [e] using q
  · unfold Is at h1 h2
    obtain ⟨p, xs, rfl, q1, k1⟩ := h1
    obtain ⟨p', ys, rfl, q2, k2⟩ := h2
    cases rx
    cases ry
    obtain ⟨its, v1, t1, _⟩ := I.list q1
    obtain ⟨its2, v2, t2, _⟩ := I.list q2
    have e := eqDas_bits ds es
    rw [k1.length, k2.length, v1.length, v2.length] at e
    by_cases el : its.length = its2.length
    · have z := SeqAt.RcNeAt.lists (A := X.A) (e := bitDa ds es) t1.isList t2.isList (by simpa using el) (by omega) fun j g1 g2 =>
        eqAt_das I ds es xs ys its its2 X.A.in1 k1 k2 a v1 v2 (by rw [in1_units]; omega) j (by simpa using g1) (by simpa using g2)
      refine z X.prog X.w X.xe _ ⟨.bl _, H, I, rfl, ?_⟩
      rw [el, Nat.min_self, beq_self_eq_true, Bool.and_true] at e
      simpa [e, el] using q
    · have ne : eqDas ds es = false := by rw [e, beq_eq_false_iff_ne.mpr el, Bool.and_false]
      rw [ne] at q
      exact SeqAt.RcNeAt.lists_lengths t1.isList t2.isList (by simpa using el) (by omega) X.prog X.w X.xe _ ⟨.bl _, H, I, rfl, q⟩
def clsV : V → Value
  | .ty n => .type n
  | .ref a => .ref a
  | _ => .none
def isCls : V → Bool
  | .ty _ => true
  | .ref _ => true
  | _ => false
theorem cls_rel {c : V} {u : Value} (h : isCls c = true) (r : RelV c u) : u = clsV c := by
  cases c <;> first | exact r | (cases h; done)
def rIsi (K : PySem.W.Frag) : List V → Hp → VK → Prop := fun xs H Q => ∃ x c t b, xs = [x, c] ∧ isCls c = true ∧ TyOf K H x t ∧ PySem.W.kitOne K t (clsV c) = some b ∧ Q (.bl b) H
theorem call_isi : CallR X (.builtin "isinstance") (rIsi X.K) := by
  intro pins s σ H xs us Q I r h
  obtain ⟨x, c, t, b, rfl, hc, ty, e, q⟩ := h
  obtain ⟨u, w, rfl, r1, r2⟩ := vals2 r
  obtain rfl := cls_rel hc r2
  exact isinst_ok I r1 ty e fun tk => ⟨.bl b, H, I.tok tk, rfl, q⟩
end
section
variable {K : PySem.W.Frag}
theorem kind_sub {a b : String} {v : Bool} (h : ((Value.type a == Value.type b) = true → v = true) ∧ ((Value.type a == Value.type b) = false → PySem.W.kitMeta b = true ∧ (fastBuiltinMro a).map (·.contains (Value.type b)) = some v)) : PySem.W.kitOne K (.type a) (.type b) = some v := by
  unfold PySem.W.kitOne
  by_cases e : (Value.type a == Value.type b) = true
  · rw [if_pos e, h.1 e]
  · rw [if_neg e]
    obtain ⟨h1, h2⟩ := h.2 (by simpa using e)
    unfold PySem.W.kitCls
    dsimp only
    rw [if_pos h1]
    exact h2
end
theorem b_len : bootBuiltins "len" = some (.builtin "len") := by decide +kernel
theorem b_abs : bootBuiltins "abs" = some (.builtin "abs") := by decide +kernel
theorem b_isinstance : bootBuiltins "isinstance" = some (.builtin "isinstance") := by decide +kernel
theorem b_all : bootBuiltins "all" = some (.builtin "all") := by decide +kernel
theorem b_int : bootBuiltins "int" = some (.type "int") := by decide +kernel
theorem b_bool : bootBuiltins "bool" = some (.type "bool") := by decide +kernel
theorem b_list : bootBuiltins "list" = some (.type "list") := by decide +kernel
theorem b_tuple : bootBuiltins "tuple" = some (.type "tuple") := by decide +kernel
theorem pe_ty {X : Cx} {x : Str} {n : String} {pos : Pos} (hg : Gl X x) (hm : X.mg x = none) (hv : bootBuiltins x = some (.type n)) (hn : x ≠ "__name__" := by decide) (hd : (x == ("__debug__" : Str)) = false := by decide) : PE X (.Name x pos) (tC (.ty n)) := pe_bltn (v := .ty n) hg hm hv rfl hn hd
def CMod (_ j : Int) : Prop := j ≠ 0
theorem nz {i j : Int} (h : j ≠ 0) : CMod i j := h
theorem op_modB {X : Cx} : OpR X (binaryOp .Mod) (rI CMod fun i j => .int (i.fmod j)) := op_modN
theorem dep_num {a b : V} : deps [.v a, .v b] ≤ 60 := by simp [deps, dep]
end Ty

set_option maxHeartbeats 4000000
namespace TyAtt
open PySem PySem.W PySem.Calls PyProof.Rows
open Builtin.Int (intBits)
theorem bits_item {ns : List Int} {n : Int} (h : (WData.list (ns.map WData.int)).layable = true) (hn : n ∈ ns) : intBits n ≤ 1048576 := by
  obtain ⟨_, _, hw⟩ := layableW_iff.mp h
  have a : ∀ (l : List Int), n ∈ l → intBits n ≤ WData.weightAll (l.map WData.int) := by
    intro l
    induction l with
    | nil => intro q; cases q
    | cons y r ih =>
      intro q
      rw [List.map_cons]
      unfold WData.weightAll
      rcases List.mem_cons.mp q with z | z
      · subst z
        have : intBits n ≤ WData.weight (.int n) := by
          unfold WData.weight
          exact Nat.le_refl _
        omega
      · have := ih z
        omega
  have b := a ns hn
  unfold WData.weight at hw
  omega
theorem attach_bits {l : OpenLaw} {n : Nat} {q : Program} {loose : List Str} {XP : (Str → Option Value) → Heap → Prop} {YP : World → Heap → Prop} {d : DefRec}
    (hn : l.most = some n) (hdf : d.params.defaults = [])
    (call : ∀ (w : World) (s₀ s₁ : Shared) (mg mb : Str → Option Value) (fa : Addr) (o : Obj) (pm cd doc : Value) (a : Addr) (vs : List Value) (ns : List Int),
      Ground q loose [] XP w s₀ mg mb s₁.heap → YP w s₁.heap →
      s₁.heap.get? fa = some o → o.data = .func (docDef d.name d.params d.body d.scope pm cd doc) → s₁.heap.CodeRec cd d.name → mg d.name = some (.ref fa) →
      s₁.heap.get? a = some { cls := .type "list", data := .seq vs.toArray } → IntsAre vs ns → ns.length ≤ n → (∀ i ∈ ns, intBits i ≤ 1048576) → s₁.gens = #[] →
      codeAny (model l.prog w) callerA (.call (.ref fa) ⟨[.ref a], []⟩) (fun r s' => r = .ok (.ret (.bool true)) ∧ OldK s₁.heap s'.heap ∧ s'.os = s₁.os ∧ AllBare s'.gens) s₁) :
    WalkO q loose XP YP l.row.toRowW d [] (fun f vs => PySem.call f vs) := by
  intro w s₀ s₁ mg mb G Y fa o pm cd doc dV kV ho hd hcd hD hmg hg args vals as hpre hlay hrd hwl hlo
  obtain rfl : dV = .none := Dflts.none hD hdf
  obtain rfl : kV = .none := Dflts.noKw hD
  obtain ⟨a, vs, ns, rfl, rfl, hobj, hints, hlen⟩ := Att.script_of hn hpre hwl
  have hb : ∀ i ∈ ns, intBits i ≤ 1048576 := fun i hi => bits_item (layW_cons hlay).1 hi
  refine enter_call (codeAny_mono (call w s₀ s₁ mg mb fa o pm cd doc a vs ns G Y ho (fd_plain hd) hcd hmg hobj hints hlen hb hg) fun r s' hq => ?_)
  obtain ⟨rfl, h2, h3, h4⟩ := hq
  exact ⟨.inl ⟨.bool true, .bool true, [], rfl, fun _ => rfl, .bool true, Att.post_true l _, fun _ => ⟨List.Pairwise.nil, fun _ hm => (nomatch hm)⟩⟩, h2, h3, h4⟩
end TyAtt
namespace Ty
open PySem PySem.Spec PyProof.Rows L2
open Builtin.Int (intBits)
structure Fn (P : Program) (w : World) (K : PySem.W.Frag) (mg : Str → Option Value) (base : Heap) (CX : CXT) (k : Nat) (x : Str) (ps : List Str) (sp : Sp) : Prop where
  ex : ∃ (f : Addr) (fd : FuncData), FnOk P w K mg base CX k f fd ps sp ∧ Binds K fd ps [] ∧ mg x = some (.ref f) ∧ PySem.W.keepIn K (.ref f) = true
structure Def (K : PySem.W.Frag) (mg : Str → Option Value) (x : Str) (st : Stmt) (ps : List Str) : Prop where
  ex : ∃ (f : Addr) (dV oc : Value) (od : Option Addr) (kV doc pm : Value) (an : Option Addr) (cdv ct : Value) (osl : Array (Option Value)),
    K.lookup f = some ⟨oc, od, .func (PySem.W.fnOf x x (defArgs st) (defBody st) (defScope st) dV kV doc pm an cdv ct), osl⟩ ∧ PySem.W.codeIn K cdv x = true ∧ PySem.W.keepIn K (.ref f) = true ∧
    Binds K (PySem.W.fnOf x x (defArgs st) (defBody st) (defScope st) dV kV doc pm an cdv ct) ps [] ∧ mg x = some (.ref f)
theorem Def.of {K : PySem.W.Frag} {mg : Str → Option Value} {x : Str} {st : Stmt} {ps : List Str} {f : Addr} {fd : FuncData} (F : Fun K x x st f fd) (b : Binds K fd ps []) (m : mg x = some (.ref f)) : Def K mg x st ps := by
  obtain ⟨oc, od, kV, doc, pm, an, cdv, ct, osl, rfl, lk, hcd⟩ := F.ex
  exact ⟨f, .none, oc, od, kV, doc, pm, an, cdv, ct, osl, lk, hcd, F.kp, b, m⟩
structure DefD (K : PySem.W.Frag) (mg : Str → Option Value) (x : Str) (st : Stmt) (ps : List Str) (ds : List Value) : Prop where
  ex : ∃ (f : Addr) (dV oc : Value) (od : Option Addr) (kV doc pm : Value) (an : Option Addr) (cdv ct : Value) (osl : Array (Option Value)),
    K.lookup f = some ⟨oc, od, .func (PySem.W.fnOf x x (defArgs st) (defBody st) (defScope st) dV kV doc pm an cdv ct), osl⟩ ∧ PySem.W.codeIn K cdv x = true ∧ PySem.W.keepIn K (.ref f) = true ∧
    Binds K (PySem.W.fnOf x x (defArgs st) (defBody st) (defScope st) dV kV doc pm an cdv ct) ps [] ∧ Binds K (PySem.W.fnOf x x (defArgs st) (defBody st) (defScope st) dV kV doc pm an cdv ct) ps ds ∧ mg x = some (.ref f)
section
variable {P : Program} {w : World} {K : PySem.W.Frag} {mg : Str → Option Value} {base : Heap} {CX : CXT}
theorem Def.ok {x : Str} {st : Stmt} {N ps : List Str} {k : Nat} {sp : Sp} (D : Def K mg x st ps) (S : FnScope N ps (defScope st)) (len : ∀ vs H Q E, sp vs H Q E → vs.length = ps.length)
    (hbody : ∀ (f : Addr) (cdv : Value) (A : Around) (outer : List Env) (s : Shared) (H : Hp) (vs : List V) (Q : VK) (E : XK), Room k (A.deeper (envOfC x (defScope st) s.heap.objs.size f cdv)) → sp vs H Q E →
      ∃ t, PSs (cxOf CX P w K mg base N x (defScope st) f cdv A outer s H E).nox (defBody st) t ∧ t { nx := fun _ H' => Q .non H', rt := Q } (start N vs) H) : Fn P w K mg base CX (k + 1) x ps sp := by
  obtain ⟨f, dV, oc, od, kV, doc, pm, an, cdv, ct, osl, lk, hcd, kp, b, m⟩ := D.ex
  refine ⟨f, _, fn_of lk hcd S len fun A outer s H vs Q E hr hsp => ?_, b, m, kp⟩
  obtain ⟨t, h, q⟩ := hbody f cdv A outer s H vs Q E hr hsp
  exact ⟨t, h.nox, q⟩
theorem _root_.L2.Fun.okG {x : Str} {st : Stmt} {f : Addr} {fd : FuncData} {N ps : List Str} {k : Nat} {sp : Sp} (F : Fun K x x st f fd) (S : FnScope N ps (defScope st)) (len : ∀ vs H Q E, sp vs H Q E → vs.length = ps.length)
    (hbody : ∀ (cdv : Value) (A : Around) (outer : List Env) (s : Shared) (H : Hp) (vs : List V) (Q : VK) (E : XK), Room k (A.deeper (envOfC x (defScope st) s.heap.objs.size f cdv)) → sp vs H Q E →
      ∃ t, PSs (cxOf CX P w K mg base N x (defScope st) f cdv A outer s H E).nox (defBody st) t ∧ t { nx := fun _ H' => Q .non H', rt := Q } (start N vs) H) : FnOk P w K mg base CX (k + 1) f fd ps sp := by
  obtain ⟨oc, od, kV, doc, pm, an, cdv, ct, osl, rfl, lk, hcd⟩ := F.ex
  refine fn_of lk hcd S len fun A outer s H vs Q E hr hsp => ?_
  obtain ⟨t, h, q⟩ := hbody cdv A outer s H vs Q E hr hsp
  exact ⟨t, h.nox, q⟩
def Mute (CX : CXT) : Prop := ∀ outer H s e s', CX outer H s E0 e s' → False
theorem passM {X : Cx} (h : Mute CX) : Passes CX X.nox E0 := fun _ _ _ _ _ _ _ q => (h _ _ _ _ _ q).elim
section
variable {X : Cx} {k : Nat} {ps : List Str} {sp : Sp} {E : XK} {x : Str} {p pos : Pos} {e : Expr} {es : List Expr} {t : TA}
theorem pe_fn (F : Fn X.prog X.w X.K X.mg X.base CX k x ps sp) (hr : Room k X.A) (hx : Passes CX X E) (ha : PA X (e :: es) t) (hg : Gl X x := by rfl) (hdb : (x == ("__debug__" : Str)) = false := by decide)
    (he : starEach (e :: es) X.env = (false, eval e X.env) :: starEach es X.env := by rfl) (hpl : (backTo pos (starEach es X.env)).any (·.1) = false := by rfl) : PE X (.Call (.Name x p) (e :: es) [] pos) (tCall sp [] E t) := by
  obtain ⟨f, fd, G, b, m, kp⟩ := F.ex
  exact pe_call G hr hg m kp b .nil hx ha hdb he hpl
structure FnD (P : Program) (w : World) (K : PySem.W.Frag) (mg : Str → Option Value) (base : Heap) (CX : CXT) (k : Nat) (x : Str) (ps : List Str) (ds : List Value) (sp : Sp) : Prop where
  ex : ∃ (f : Addr) (fd : FuncData), FnOk P w K mg base CX k f fd ps sp ∧ Binds K fd ps ds ∧ mg x = some (.ref f) ∧ PySem.W.keepIn K (.ref f) = true
end
end
def spLaw (K : PySem.W.Frag) : Sp := fun vs H Q _ => ∃ (a : Addr) (ns : List Int), vs = [.ref a] ∧ SqL K H a (ns.map V.int) ∧ ns.length ≤ 63 ∧ (∀ i ∈ ns, intBits i ≤ 1048576) ∧ ∀ H', Q (.bl true) H'
end Ty

set_option maxHeartbeats 4000000
namespace Ty
open PySem PySem.Spec PyProof.Rows L2
theorem obj_some {P : Program} {w : World} {H : Hp} {h : Heap} {a : Addr} {o : HO} (x : ObjOk P w H h a o) : ∃ ob, h.get? a = some ob := by
  cases o with
  | lst xs => obtain ⟨_, _, _, _, e⟩ := x; exact ⟨_, e⟩
  | tup xs => obtain ⟨_, _, _, ob, e, _⟩ := x; exact ⟨ob, e⟩
  | dK kvs => obtain ⟨_, _, _, _, ob, _, _, e, _⟩ := x; exact ⟨ob, e⟩
  | dT kvs => obtain ⟨_, _, _, _, ob, _, _, e, _⟩ := x; exact ⟨ob, e⟩
  | set S n => obtain ⟨ob, _, _, _, e, _⟩ := x; exact ⟨ob, e⟩
  | ins C dx fs => obtain ⟨_, _, _, e, _⟩ := x; exact ⟨_, e⟩
  | own y => exact (show ∃ o, h.get? a = some o from x)
  | xd fs => obtain ⟨_, ⟨od, _, _, e, _⟩, _⟩ := x; exact ⟨od, e⟩
  | rng lo hi => obtain ⟨_, _, _, e⟩ := x; exact ⟨_, e⟩
  | frz ob u => exact ⟨ob, x.1⟩
  | tbl ps => exact ⟨_, x⟩
  | met f y => exact ⟨_, x⟩
  | ext φ => exact x.2.1
def CXr (P : Program) (w : World) : CXT := fun outer H s E e s' => ∃ (a : Addr) (cls a0 : Value) (H' : Hp) (B : Heap),
  e = .ref a ∧ Heap.FlyingW B outer a cls a0 s'.heap ∧ Un (frs outer) [] H H' s.heap s'.heap ∧ HOk P w H' s'.heap ∧ s'.os = s.os ∧ AllBare s'.gens ∧
  (∀ b o, s.heap.get? b = some o → b ∉ frs outer → ∃ o', B.get? b = some o') ∧ (∀ b u, H' b = some u → ∃ o, B.get? b = some o) ∧ E cls none H'
theorem CXr.mute {P : Program} {w : World} : Mute (CXr P w) := fun _ _ _ _ _ ⟨_, _, _, _, _, _, _, _, _, _, _, _, _, z⟩ => z
section
variable {P : Program} {w : World} {K : PySem.W.Frag} {mg : Str → Option Value} {base : Heap} {N : List Str} {qual : Str} {scope : Scope} {f : Addr} {cdv : Value} {A : Around} {outer : List Env} {s0 : Shared} {H0 : Hp} {E : XK}
abbrev cxr (P : Program) (w : World) (K : PySem.W.Frag) (mg : Str → Option Value) (base : Heap) (N : List Str) (qual : Str) (scope : Scope) (f : Addr) (cdv : Value) (A : Around) (outer : List Env) (s0 : Shared) (H0 : Hp) (E : XK) : Cx := cxOf (CXr P w) P w K mg base N qual scope f cdv A outer s0 H0 E
def tRaise (C : Addr) (E : XK) (ta : TA) : TS := fun _ σ H => ta σ H fun vs H1 => vs.length ≤ sizeLine ∧ E (.ref C) none H1
end
end Ty

set_option maxHeartbeats 4000000
namespace Ty
open PySem PySem.Spec PyProof.Rows L2
section
variable {X : Cx} {pins : List (Addr × Obj)} {σ : L2.St} {H H' : Hp} {s : Shared}
abbrev hnd (X : Cx) (a : Addr) : Cx := { X with A := X.A.mark (some (.ref a)), calm := false, xe := fun _ _ => False }
def excO (cls : Value) (a : Addr) : HO := .ext fun h => ∃ o vs, h.get? a = some o ∧ o.cls = cls ∧ o.data = .fields vs
structure Ld (X : Cx) (pins : List (Addr × Obj)) (σ : L2.St) (H : Hp) (a : Addr) (cls : Value) (s : Shared) : Prop where
  ex : ∃ (H0 : Hp) (s0 : Shared) (a0 : Value) (B : Heap), Inv X pins σ H0 s0 ∧ Heap.FlyingW B X.stack a cls a0 s.heap ∧ Un (frs X.stack) [] H0 H s0.heap s.heap ∧ HOk X.prog X.w H s.heap ∧ s.os = s0.os ∧ AllBare s.gens ∧
    (∀ b o, s0.heap.get? b = some o → b ∉ frs X.stack → ∃ o', B.get? b = some o') ∧ (∀ b u, H b = some u → ∃ o, B.get? b = some o)
abbrev TH := Value → Ends → L2.St → Hp → Prop
def PH (X : Cx) (hs : List ExceptHandler) (t : TH) : Prop :=
  ∀ (pins : List (Addr × Obj)) (s : Shared) (σ : L2.St) (H : Hp) (a : Addr) (cls : Value) (D : Ends), Ld X pins σ H a cls s → t cls D σ H → wpAny (model X.prog X.w) X.A (handleBy (.ref a) X.env hs) (SP X pins D) X.xe s
structure ClsN (X : Cx) (c : Str) (cv : Value) : Prop where
  ld : ∀ (a : Addr) (pins : List (Addr × Obj)) (s : Shared) (σ : L2.St) (H : Hp) (np : Pos) (Q : Value → Shared → Prop) (E : Value → Shared → Prop), Inv (hnd X a) pins σ H s → Q cv s → wpAny (model X.prog X.w) (X.A.mark (some (.ref a))) (eval (.Name c np) X.env) Q E s
def tAs (i : Nat) (cv : Value) (K : PySem.W.Frag) (ts : TS) (tr : TH) : TH := fun cls D σ H => ∃ b, PySem.W.exmOne K cls cv = some b ∧
  if b = true then ∀ a, H a = none → ts { nx := fun σ2 H2 => D.nx (σ2.set i none) H2, rt := D.rt, bk := fun σ2 H2 => D.bk (σ2.set i none) H2, ct := fun σ2 H2 => D.ct (σ2.set i none) H2 } (σ.set i (some (.ref a))) (upd H a (excO cls a)) else tr cls D σ H
def XP (X : Cx) (pins : List (Addr × Obj)) (σ : L2.St) (E : XK) (e : Value) (s' : Shared) : Prop := ∃ H s, Inv X pins σ H s ∧ CXr X.prog X.w X.stack H s E e s'
abbrev TEx := L2.St → Hp → VK → XK → Prop
abbrev TSx := Ends → (L2.St → XK) → L2.St → Hp → Prop
def PEx (X : Cx) (e : Expr) (t : TEx) : Prop :=
  ∀ (pins : List (Addr × Obj)) (s : Shared) (σ : L2.St) (H : Hp) (Q : VK) (E : XK), Inv X pins σ H s → t σ H Q E → wpAny (model X.prog X.w) X.A (eval e X.env) (EP X pins σ Q) (XP X pins σ E) s
def PSx (X : Cx) (st : Stmt) (t : TSx) : Prop :=
  ∀ (pins : List (Addr × Obj)) (s : Shared) (σ : L2.St) (H : Hp) (D : Ends) (E : L2.St → XK), Inv X pins σ H s → t D E σ H → wpAny (model X.prog X.w) X.A (exec st X.env) (SP X pins D) (fun e s' => ∃ σ', XP X pins σ' (E σ') e s') s
end
end Ty

set_option maxHeartbeats 4000000
namespace TyExc
open PySem PySem.W PySem.Calls PyProof.Rows Builtin Builtin.ObjectAttr Builtin.Getset_descriptor
structure ExcK (K : Frag) (C : Addr) : Prop where
  ga : findIn K (.ref C) "__getattribute__" = some (some (.builtin "BaseException.__getattribute__"))
  gt : findIn K (.ref C) "__getattr__" = some none
  cl : findIn K (.ref C) "__class__" = some (some (.builtin "object.__class__"))
  mo : mroIn K C (.type "object") = some true
  mb : mroIn K C (.type "BaseException") = some true
  is : (clsIn K C).isSome = true
section
variable {prog : Program} {w : World} {A : Around} {E : Value → Shared → Prop} {K : Frag} {h : Heap} {g : Array GenState} {d : Drawn} {t : Nat} {os : OsState} {a C : Addr} {o : Obj}
end
def ExcAt (a C : Addr) (h : Heap) : Prop := ∃ o vs, h.get? a = some o ∧ o.cls = .ref C ∧ o.data = .fields vs
end TyExc

set_option maxHeartbeats 4000000
namespace Ty
open PySem PySem.Spec PyProof.Rows L2
section
variable {X : Cx}
def rIsiX (K : PySem.W.Frag) : List V → Hp → VK → Prop := fun xs H Q => ∃ a C c b, xs = [.ref a, c] ∧ isCls c = true ∧ H a = some (excO (.ref C) a) ∧ TyExc.ExcK K C ∧ PySem.W.kitOne K (.ref C) (clsV c) = some b ∧ Q (.bl b) H
def rCount (K : PySem.W.Frag) : V → List V → Hp → VK → Prop := fun x vs H Q => ∃ l xs y, x = .ref l ∧ vs = [y] ∧ SqL K H l xs ∧ flatV y = true ∧ xs.all flatV = true ∧ Q (.int (xs.countP (fun z => eqV z y) : Nat)) H
end
structure RoomH (k : Nat) (A : Around) : Prop where
  dp : A.depth + 3 * k + 5 < recursionLimit
  un : A.units + 16 * k + 200 < cLine
structure FnOkH (P : Program) (w : World) (K : PySem.W.Frag) (mg : Str → Option Value) (base : Heap) (k : Nat) (f : Addr) (fd : FuncData) (ps : List Str) (sp : Sp) : Prop where
  len : ∀ vs H Q E, sp vs H Q E → vs.length = ps.length
  run : ∀ (A : Around) (outer : List Env) (s : Shared) (H : Hp) (args : Args) (us : List Value) (vs : List V) (Q : VK), RoomH k A → Env0 P w K mg base A outer s H → BindsTo s fd args (ps.zip us) → Vals vs us → sp vs H Q E0 →
    codeAny (model P w) A (.call (.ref f) args) (CR CX0 outer P w H s Q E0) s
def cxh (P : Program) (w : World) (K : PySem.W.Frag) (mg : Str → Option Value) (base : Heap) (N : List Str) (qual : Str) (scope : Scope) (f : Addr) (cdv : Value) (A : Around) (outer : List Env) (s : Shared) (H : Hp) : Cx :=
  { cxOf CX0 P w K mg base N qual scope f cdv A outer s H E0 with calm := false, xe := fun _ _ => False }
structure FnH (P : Program) (w : World) (K : PySem.W.Frag) (mg : Str → Option Value) (base : Heap) (k : Nat) (x : Str) (ps : List Str) (sp : Sp) : Prop where
  ex : ∃ (f : Addr) (fd : FuncData), FnOkH P w K mg base k f fd ps sp ∧ Binds K fd ps [] ∧ mg x = some (.ref f) ∧ PySem.W.keepIn K (.ref f) = true
abbrev bmVE : List Value := [.type "ValueError", .type "Exception", .type "BaseException", .type "object"]
end Ty

set_option maxHeartbeats 4000000
namespace Ty
open PySem PySem.Spec PyProof.Rows L2
section
variable {prog : Program} {w : World} {A : Around} {R : Result → Shared → Prop} {s : Shared}
theorem compLoop_any {elt target iter : Expr} {ifs : List Expr} {scope : Scope} {pos : Pos} {it acc : Value} {env : Env} (I : Nat → Shared → Prop)
    (turn : ∀ n s, I n s → wpAny (model prog w) A (pyNext it) (fun r s₁ => match r with
      | none => R (.ok .next) s₁
      | some v => wpAny (model prog w) A (letOwnedTupleGo target it v) (fun _ s₁' => wpAny (model prog w) A (assign target env v) (fun _ s₂ =>
          wpAny (model prog w) A (forIn ifs true fun c r => if r = true then do let ok ← isTrue c env (eval c env); pure (ForInStep.yield ok) else pure (ForInStep.yield r)) (fun ok s₃ =>
            if ok = true then wpAny (model prog w) A (eval elt env) (fun x s₄ =>
              wpAny (model prog w) A (call (.builtin "list.append") [acc, x]) (fun _ s₅ => ∃ m, m < n ∧ I m s₅) (fun _ _ => False) s₄) (fun _ _ => False) s₃
            else ∃ m, m < n ∧ I m s₃) (fun _ _ => False) s₂) (fun _ _ => False) s₁') (fun _ _ => False) s₁) (fun _ _ => False) s)
    (n : Nat) (h : I n s) :
    codeAny (model prog w) A (.compLoop (.ListComp elt [⟨target, iter, ifs, 0⟩] scope pos) 0 it acc env) R s := by
  refine codeAny_loop rfl I (fun n s hI => ?_) n h
  show wpAny _ A ((compTurn (.ListComp elt [⟨target, iter, ifs, 0⟩] scope pos) 0 it acc env).onRaise (fun x => do noteFrame x env; theTreesLotGoes x)) _ _ s
  refine wpAny_noted ?_
  rw [compTurn_list]
  refine wpAny_bind (wpAny_standAt (wpAny_bind (wpAny_mono (turn n s hI) (fun r s₁ h₁ => ?_) fun _ _ h' => h'.elim)))
  cases r with
  | none => exact wpAny_pure h₁
  | some v =>
    refine wpAny_bind (wpAny_mono h₁ (fun _ s₁' h₁' => ?_) fun _ _ h' => h'.elim)
    refine wpAny_bind (wpAny_mono h₁' (fun _ s₂ h₂ => wpAny_bind (wpAny_mono h₂ (fun ok s₃ h₃ => ?_) fun _ _ h' => h'.elim)) fun _ _ h' => h'.elim)
    cases ok with
    | false => exact wpAny_pure ⟨rfl, h₃⟩
    | true =>
      exact wpAny_bind (wpAny_bind (wpAny_mono h₃ (fun x s₄ h₄ => wpAny_bind (wpAny_mono h₄ (fun _ s₅ h₅ => wpAny_pure (wpAny_pure ⟨rfl, h₅⟩)) fun _ _ h' => h'.elim)) fun _ _ h' => h'.elim))
end
def capCl (env : Env) (fr : List Str) : List (Str × Addr) := fr.filterMap fun n => (env.cells.lookup n).map fun c => (n, c)
theorem lookup_mem {α : Type} {x : Str} {c : α} : ∀ {l : List (Str × α)}, l.lookup x = some c → (x, c) ∈ l
  | [], h => by simp at h
  | (y, d) :: r, h => by
    rw [List.lookup_cons] at h
    cases e : x == y with
    | true =>
      rw [e] at h
      have e1 : x = y := by simpa using e
      cases h
      rw [e1]
      exact List.mem_cons_self
    | false =>
      rw [e] at h
      exact List.mem_cons_of_mem _ (lookup_mem h)
theorem capCl_mem {env : Env} {fr : List Str} {x : Str} {c : Addr} (h : (x, c) ∈ capCl env fr) : env.cells.lookup x = some c := by
  obtain ⟨n, _, e⟩ := List.mem_filterMap.mp h
  cases q : env.cells.lookup n with
  | none => rw [q] at e; cases e
  | some d =>
    rw [q] at e
    have e' : (n, d) = (x, c) := Option.some.inj e
    cases e'
    exact q
theorem capCl_get {env : Env} {fr : List Str} {x : Str} {c : Addr} (h : (capCl env fr).lookup x = some c) : env.cells.lookup x = some c := capCl_mem (lookup_mem h)
theorem capCl_has {env : Env} {x : Str} {c : Addr} (q : env.cells.lookup x = some c) : ∀ {fr : List Str}, x ∈ fr → (capCl env fr).lookup x = some c
  | [], h => nomatch h
  | y :: r, h => by
    unfold capCl
    rw [List.filterMap_cons]
    by_cases e : x = y
    · subst e
      rw [q]
      simp
    · have hr : x ∈ r := by
        rcases List.mem_cons.mp h with z | z
        · exact absurd z e
        · exact z
      have ih := capCl_has q hr
      cases z : env.cells.lookup y with
      | none => exact ih
      | some d =>
        show List.lookup x ((y, d) :: _) = _
        rw [List.lookup_cons]
        have ne : (x == y) = false := by simpa using e
        rw [ne]
        exact ih
def AllCap (env : Env) : List Str → Prop
  | [] => True
  | y :: r => (env.kindOf y = some .cell ∨ env.kindOf y = some .free) ∧ AllCap env r
theorem AllCap.at {env : Env} {x : Str} : ∀ {fr : List Str}, AllCap env fr → x ∈ fr → env.kindOf x = some .cell ∨ env.kindOf x = some .free
  | [], _, h => nomatch h
  | y :: r, a, h => by
    rcases List.mem_cons.mp h with z | z
    · rw [z]
      exact a.1
    · exact AllCap.at a.2 z
section
variable {X : Cx}
def cxB (X : Cx) (NB : List Str) (scope : Scope) (cl : List (Str × Addr)) (C : Addr) (s : Shared) (H : Hp) (fp : List Addr) : Cx :=
  { prog := X.prog, w := X.w, K := X.K, mg := X.mg, base := X.base, A := X.A, N := NB, s₀ := s, H₀ := H, env := compEnvC scope cl C X.env, outer := X.stack, stack := X.stack, ex := fp, fn := fun _ => false, calm := X.calm, pn := [], xe := fun _ _ => False }
structure BlkS (X : Cx) (scope : Scope) (fr : List Str) (caps : List Nat) : Prop where
  clos : closureFor scope X.env = pure (capCl X.env fr)
  cell : ∀ y ∈ scope.names, y.2 ≠ .cell
  kind : scope.kind = .function
  names : ∀ y ∈ scope.names, y.2 = .local → scope.names.lookup y.1 = some .local
  free : ∀ y ∈ scope.names, y.2 = .free → y.1 ∈ fr
  caps : caps.map (fun i => X.N[i]?) = fr.map some
  out : AllCap X.env fr
  inn : AllCap (compEnvC scope [] 0 X.env) fr
def PF (X : Cx) (ifs : List Expr) (t : TT) : Prop :=
  ∀ (pins : List (Addr × Obj)) (s : Shared) (σ : L2.St) (H : Hp) (Q : Bool → Hp → Prop), Inv X pins σ H s → t σ H Q →
    wpAny (model X.prog X.w) X.A (forIn ifs true fun c r => if r = true then do let ok ← isTrue c X.env (eval c X.env); pure (ForInStep.yield ok) else pure (ForInStep.yield r)) (TP X pins σ Q) X.xe s
def tYes : TT := fun _ H Q => Q true H
theorem pf_nil : PF X [] tYes := fun _ _ _ H _ I h => wpAny_tests_nil ⟨H, I, h⟩
theorem pf_one {c : Expr} {t : TT} (h : PT X c t) : PF X [c] t := fun pins s σ H Q I q => wpAny_tests_one (h pins s σ H Q I q)
def sB (k : Nat) (caps : List Nat) (σ : L2.St) : L2.St := List.replicate k none ++ caps.map fun i => (σ[i]?).getD none
def tBlk (D : Addr) (g : TG) (tt : TT) (te : TE) (J : It) (σ0 : L2.St) (H1 : Hp) (Q : VK) : Prop := ∃ W : Nat → Nat → L2.St → List V → Hp → Prop,
  (∃ m, W 0 m σ0 [] (upd H1 D (.lst []))) ∧ ∀ i m σ2 ys H2, W i m σ2 ys H2 → (J.stop i H2 ∧ Q (.ref D) H2) ∨ (J.go i H2 ∧ ∀ x H3, J.yld i H2 x H3 → g x σ2 H3 fun σ4 H4 => tt σ4 H4 fun b H5 =>
    if b = true then te σ4 H5 fun v H6 => H6 D = some (.lst ys) ∧ ys.length < sizeLine ∧ ∃ m', m' < m ∧ W (i + 1) m' σ4 (ys ++ [v]) (upd H6 D (.lst (ys ++ [v]))) else ∃ m', m' < m ∧ W (i + 1) m' σ4 ys H5)
def tComp (k : Nat) (caps : List Nat) (wi : TI) (g : TG) (tt : TT) (te : TE) : TE := fun σ H Q => wi σ H fun J H1 => ∀ D, H1 D = none → tBlk D g tt te J (sB k caps σ) H1 Q
theorem sB_get {k : Nat} {caps : List Nat} {σ : L2.St} {i : Nat} {v : V} (h : (sB k caps σ)[i]? = some (some v)) : k ≤ i ∧ ∃ j, caps[i - k]? = some j ∧ σ[j]? = some (some v) := by
  unfold sB at h
  by_cases c : i < k
  · rw [List.getElem?_append_left (by simpa using c), List.getElem?_replicate, if_pos c] at h
    cases h
  · rw [List.getElem?_append_right (by simpa using Nat.le_of_not_lt c), List.length_replicate, List.getElem?_map] at h
    refine ⟨Nat.le_of_not_lt c, ?_⟩
    cases e : caps[i - k]? with
    | none => rw [e] at h; cases h
    | some j =>
      rw [e] at h
      refine ⟨j, rfl, ?_⟩
      have h' : (σ[j]?).getD none = some v := Option.some.inj h
      cases z : σ[j]? with
      | none => rw [z] at h'; cases h'
      | some o =>
        rw [z] at h'
        exact congrArg some h'
theorem comp_block {elt target iter : Expr} {ifs : List Expr} {scope : Scope} {pos : Pos} {tn fr : List Str} {caps : List Nat} {g : TG} {tt : TT} {te : TE} {pins : List (Addr × Obj)} {σ : L2.St} {H2 : Hp} {s2 : Shared} {J : It} {fp : List Addr} {it : Addr}
    {tnn : Nat → Heap → Prop} {Q : VK} {RR : Value → Addr → Result → Shared → Prop} {E : Value → Shared → Prop} (hc : X.calm = true) (B : BlkS X scope fr caps)
    (hg : ∀ C s H fp, PG (cxB X (tn ++ fr) scope (capCl X.env fr) C s H fp) target g) (ht : ∀ C s H fp, PF (cxB X (tn ++ fr) scope (capCl X.env fr) C s H fp) ifs tt) (he : ∀ C s H fp, PE (cxB X (tn ++ fr) scope (capCl X.env fr) C s H fp) elt te)
    (I2 : Inv X pins σ H2 s2) (T : Turn X.prog X.w X.K target J fp it tnn) (st2 : tnn 0 s2.heap) (f2 : ∀ b ∈ fp, FpOk X pins H2 b) (q : ∀ D, H2 D = none → tBlk D g tt te J (sB tn.length caps σ) H2 Q)
    (fin : ∀ D C H' s' m, Inv X pins σ H' s' → s'.heap.Ns C m → FpOk X pins H' C → Q (.ref D) H' → RR (.ref D) C (.ok .next) s') :
    wpAny (model X.prog X.w) X.A (newList []) (fun acc s₃ => wpAny (model X.prog X.w) X.A (newFunctionEnv scope X.env.globals (capCl X.env fr) [] X.env.qual none .none (some X.env)) (fun cenv s₄ =>
      codeAny (model X.prog X.w) X.A (.compStart (.ListComp elt [⟨target, iter, ifs, 0⟩] scope pos) 0 (.ref it) acc { cenv with scope := relabel scope X.env }) (RR acc cenv.locals) s₄) E s₃) E s2 := by
  refine wpAny_newObj_type (wpAny_newFunctionEnv B.cell (by intro y hy; simp at hy) (fun h₁ hns₁ hsb₁ => ?_) B.kind)
  have I3 : Inv X pins σ (upd H2 s2.heap.objs.size (.lst [])) { s2 with heap := s2.heap.push { cls := .type "list", data := .seq ([] : List Value).toArray } } := I2.lnew (t' := s2.toks) (its := []) .nil (Nat.zero_le _)
  obtain ⟨W, ⟨m0, w0⟩, turn⟩ := q s2.heap.objs.size (I2.hok.fresh (Nat.le_refl _))
  generalize hH3 : upd H2 s2.heap.objs.size (.lst []) = H3 at I3 w0
  have f3 : ∀ b ∈ fp, FpOk X pins H3 b := fun b hb => by
    obtain ⟨a0, a1⟩ := f2 b hb
    refine ⟨?_, a1⟩
    obtain ⟨o, e, _⟩ := T.obj _ _ st2 b hb
    rw [← hH3, upd_ne (Nat.ne_of_lt (Heap.lt_size e))]
    exact a0
  generalize hD : s2.heap.objs.size = D at *
  generalize hs3 : ({ s2 with heap := s2.heap.push { cls := .type "list", data := .seq ([] : List Value).toArray } } : Shared) = s3 at *
  have e3 : s3.heap = s2.heap.push { cls := .type "list", data := .seq ([] : List Value).toArray } := by rw [← hs3]
  have st3 : tnn 0 s3.heap := T.keep _ _ _ st2 fun b _ o e => by rw [e3]; exact Heap.get?_push_of_some _ e
  have kept : ∀ b o, s3.heap.get? b = some o → h₁.get? b = some o := fun b o e => (hsb₁.2 b (Nat.ne_of_lt (Heap.lt_size e))).trans (Heap.get?_push_of_some _ e)
  generalize hC : s3.heap.objs.size = C at *
  have hCs : s3.heap.objs.size ≤ C := Nat.le_of_eq hC
  have I4 : Inv X pins σ H3 { s3 with heap := h₁, toks := s3.toks + ([] : List (Str × Value)).length } := I3.kept kept
  have fpC : ∀ b ∈ fp, b ≠ C := fun b hb z => by
    obtain ⟨o, e, _⟩ := T.obj _ _ st3 b hb
    exact absurd z (Nat.ne_of_lt (Nat.lt_of_lt_of_le (Heap.lt_size e) hCs))
  have nst : ∀ b ∈ fp, b ∉ frs X.stack := fun b hb z => (List.mem_cons.mp (I3.stkSub b z)).elim (f3 b hb).2.1 (f3 b hb).2.2.1
  have okB : (cxB X (tn ++ fr) scope (capCl X.env fr) C s3 H3 fp).Ok := by
    refine ⟨I3.ok.mod, B.kind, I3.ok.glob, I3.ok.blt, hCs, fun x y c e1 e2 => I3.ok.inj x y c (capCl_get e1) (capCl_get e2), fun x hx => ?_, fun x c z => (nomatch z), I3.ok.hd, I3.ok.frames, .inl rfl,
      fun b hb => ⟨fpC b hb, fun x c e => (f3 b hb).2.2.2.2.1 x c (capCl_get e)⟩, I3.bs, Nat.le_trans I3.ok.bsz I3.sz, fun b o e hb => ?_, nst, I3.stack, I3.stkFree⟩
    · have hm : ∃ k, (x, k) ∈ scope.names ∧ k ≠ .local ∧ (k = .cell ∨ k = .free) := by
        have : ∃ k', (relabel scope X.env).names.lookup x = some k' ∧ (k' = .cell ∨ k' = .free) := by
          rcases hx with z | z
          · exact ⟨_, z, .inl rfl⟩
          · exact ⟨_, z, .inr rfl⟩
        obtain ⟨k', e', h'⟩ := this
        obtain ⟨⟨n, k⟩, hn, en⟩ := List.mem_map.mp (lookup_mem e')
        dsimp only at en
        by_cases cc : (k == NameKind.free && X.env.scope.kind == .function && X.env.kindOf n == some .cell) = true
        · rw [if_pos cc] at en
          cases en
          have kf : k = .free := by
            rw [Bool.and_eq_true, Bool.and_eq_true] at cc
            simpa using cc.1.1
          exact ⟨k, hn, (by intro z; rw [kf] at z; cases z), .inr kf⟩
        · rw [if_neg cc] at en
          cases en
          exact ⟨k', hn, fun z' => by rcases h' with y | y <;> (rw [y] at z'; cases z'), h'⟩
      obtain ⟨k, hk, _, h2⟩ := hm
      rcases h2 with z | z
      · exact absurd z (B.cell _ hk)
      · have hf := B.free _ hk z
        obtain ⟨c, ec⟩ := I3.ok.has x (B.out.at hf)
        exact ⟨c, capCl_has ec hf⟩
    · obtain ⟨_, _, _, h1, _⟩ := f3 b hb
      rcases h1 with z | z
      · exact I3.ok.noex b o e z
      · exact Nat.lt_irrefl _ (Nat.lt_of_lt_of_le (Nat.lt_of_lt_of_le (Heap.lt_size e) I3.ok.bsz) z)
  have IB : Inv (cxB X (tn ++ fr) scope (capCl X.env fr) C s3 H3 fp) [] (sB tn.length caps σ) H3 { s3 with heap := h₁, toks := s3.toks + ([] : List (Str × Value)).length } := by
    refine ⟨okB, rfl, I3.bare, Un.kept kept, ⟨_, hns₁, fun i x v e1 e2 _ => ?_⟩, fun x c e => I4.cell x c (capCl_get e), ?_, fun x c e => I3.freeC x c (capCl_get e), fun p hp => (nomatch hp), I3.hok.kept kept, ?_⟩
    · obtain ⟨hk, j, ej, es⟩ := sB_get e2
      have e1' : fr[i - tn.length]? = some x := by
        have z : (tn ++ fr)[i]? = some x := e1
        rw [List.getElem?_append_right hk] at z
        exact z
      have hx : x ∈ fr := List.mem_of_getElem? e1'
      have eN : X.N[j]? = some x := by
        have z := congrArg (fun l : List (Option Str) => l[i - tn.length]?) B.caps
        simp only [List.getElem?_map, ej, e1', Option.map_some] at z
        exact Option.some.inj z
      have ko := B.out.at hx
      obtain ⟨m, hn, hl⟩ := I4.loc
      obtain ⟨u, r, lk⟩ := hl j x v eN es (by rcases ko with z | z; exact .inr (.inl z); exact .inr (.inr z))
      refine ⟨u, r, ?_⟩
      rcases lk with ⟨k1, _⟩ | ⟨_, c, ec, ic⟩
      · rcases ko with z | z <;> (rw [z] at k1; cases k1)
      · exact .inr ⟨B.inn.at hx, c, capCl_has ec hx, ic⟩
    · exact I3.hok.fresh hCs
    · have := congrArg List.length B.caps
      simp only [List.length_map] at this
      show (sB tn.length caps σ).length = (tn ++ fr).length
      unfold sB
      simp [this]
  have statB : ∀ {H' : Hp}, (∀ b ∈ fp, H' b = none) → ∀ b ∈ fp, FpOk (cxB X (tn ++ fr) scope (capCl X.env fr) C s3 H3 fp) [] H' b := fun hn b hb =>
    ⟨hn b hb, fpC b hb, nst b hb, .inl hb, fun x c e => (f3 b hb).2.2.2.2.1 x c (capCl_get e), fun p hp => (nomatch hp)⟩
  have st4 : tnn 0 h₁ := T.keep _ _ _ st3 fun b _ o e => kept b o e
  have loop : codeAny (model X.prog X.w) X.A (.compLoop (.ListComp elt [⟨target, iter, ifs, 0⟩] scope pos) 0 (.ref it) (.ref D) (compEnvC scope (capCl X.env fr) C X.env)) (RR (.ref D) C) { s3 with heap := h₁, toks := s3.toks + ([] : List (Str × Value)).length } := by
    refine compLoop_any (fun n s' => ∃ i σ' ys H', Inv (cxB X (tn ++ fr) scope (capCl X.env fr) C s3 H3 fp) [] σ' H' s' ∧ tnn i s'.heap ∧ (∀ b ∈ fp, H' b = none) ∧ W i n σ' ys H') ?_ m0 ⟨0, _, [], H3, IB, st4, fun b hb => (f3 b hb).1, w0⟩
    rintro n s5 ⟨i, σ5, ys, H5, I5, st5, fr5, w5⟩
    rcases turn i n σ5 ys H5 w5 with ⟨stop, qn⟩ | ⟨go, step⟩
    · refine wpAny_mono (T.done (cxB X (tn ++ fr) scope (capCl X.env fr) C s3 H3 fp) rfl rfl rfl hc i [] s5 σ5 H5 (fun _ _ => False) I5 (statB fr5) st5 stop) (fun r s6 ⟨hr, I6⟩ => ?_) fun _ _ z => z
      subst hr
      obtain ⟨m, hn, _⟩ := I6.loc
      have J6 : Inv X pins σ H5 s6 := I3.call' (ch := fp) I6.os I6.base I6.hok I6.bare fun b hb => ⟨(f3 b hb).2.2.2.1, (f3 b hb).2.1, (f3 b hb).2.2.2.2.1, (f3 b hb).2.2.2.2.2⟩
      exact fin D C H5 s6 m J6 hn (I3.fpOk hCs I6.free) qn
    · refine wpAny_mono (T.item (cxB X (tn ++ fr) scope (capCl X.env fr) C s3 H3 fp) rfl rfl rfl hc i [] s5 σ5 H5 (fun _ _ => False) I5 (statB fr5) st5 go) (fun r s6 ⟨u, hr, h6⟩ => ?_) fun _ _ z => z
      subst hr
      refine wpAny_mono h6 (fun _ s7 ⟨x, H7, I7, r7, y7, st7, fr7⟩ => ?_) fun _ _ z => z
      have I7' := I7.pinned (statB fr7) (T.obj _ _ st7)
      have held : ∀ {σ' : L2.St} {H' : Hp} {s' : Shared}, Inv (cxB X (tn ++ fr) scope (capCl X.env fr) C s3 H3 fp) ([] ++ pinsAt fp s7.heap) σ' H' s' → tnn (i + 1) s'.heap ∧ ∀ b ∈ fp, H' b = none := fun {σ' H' s'} I' => by
        refine ⟨T.keep _ _ _ st7 fun b hb o e => (I'.pin (b, o) (List.mem_append_right _ (List.mem_append_right _ (mem_pinsAt hb e)))).1, fun b hb => ?_⟩
        obtain ⟨o, e, d⟩ := T.obj _ _ st7 b hb
        exact (I'.pin (b, o) (List.mem_append_right _ (List.mem_append_right _ (mem_pinsAt hb e)))).2.1
      refine wpAny_mono (hg C s3 H3 fp _ s7 σ5 H7 x u _ I7' r7 (step x H7 y7)) (fun _ s8 ⟨σ8, H8, I8, q8⟩ => ?_) fun _ _ z => z
      refine wpAny_mono (ht C s3 H3 fp _ s8 σ8 H8 _ I8 q8) (fun ok s9 ⟨H9, I9, q9⟩ => ?_) fun _ _ z => z
      cases ok with
      | false =>
        rw [if_neg Bool.false_ne_true] at q9
        obtain ⟨m', hm, w9⟩ := q9
        rw [if_neg Bool.false_ne_true]
        obtain ⟨a, b⟩ := held I9
        exact ⟨m', hm, i + 1, σ8, ys, H9, I9.unpinned, a, b, w9⟩
      | true =>
        rw [if_pos rfl] at q9
        rw [if_pos rfl]
        refine wpAny_mono (he C s3 H3 fp _ s9 σ8 H9 _ I9 q9) (fun v s10 ⟨y, H10, I10, r10, hDD, hl, m', hm, w10⟩ => ?_) fun _ _ z => z
        refine wpAny_mono (mt_append (X := cxB X (tn ++ fr) scope (capCl X.env fr) C s3 H3 fp) _ s10 σ8 H10 (.ref D) [y] (.ref D) [v] (fun _ H' => W (i + 1) m' σ8 (ys ++ [y]) H') I10 rfl (.cons r10 .nil) ⟨D, ys, y, rfl, rfl, hDD, hl, w10⟩) (fun _ s11 ⟨z, H11, I11, _, q11⟩ => ?_) fun _ _ z => z
        obtain ⟨a, b⟩ := held I11
        exact ⟨m', hm, i + 1, σ8, ys ++ [y], H11, I11.unpinned, a, b, q11⟩
  exact codeAny_compStart_list loop (T.self X.A 0 _ _ _ st4 loop)
theorem pe_comp {elt target iter : Expr} {ifs : List Expr} {scope : Scope} {pos : Pos} {tn fr : List Str} {caps : List Nat} {wi : TI} {g : TG} {tt : TT} {te : TE} (hc : X.calm = true) (B : BlkS X scope fr caps) (hi : PI X target iter wi)
    (hg : ∀ C s H fp, PG (cxB X (tn ++ fr) scope (capCl X.env fr) C s H fp) target g) (ht : ∀ C s H fp, PF (cxB X (tn ++ fr) scope (capCl X.env fr) C s H fp) ifs tt) (he : ∀ C s H fp, PE (cxB X (tn ++ fr) scope (capCl X.env fr) C s H fp) elt te)
    (hs : ∀ x, foldedSetIterable iter X.env x = pure x := by intro _; rfl) : PE X (.ListComp elt [⟨target, iter, ifs, 0⟩] scope pos) (tComp tn.length caps wi g tt te) := by
  intro pins s σ H Q I h
  rw [eval_ListComp]
  refine wpAny_comprehension_free (use := none) rfl hs B.clos B.kind B.names (thn (hi pins s σ H _ I h) fun v s1 h1 => thn h1 fun itv s2 h2 => ?_)
  obtain ⟨it, fp, tnn, J, H2, rfl, I2, T, st2, f2, q⟩ := h2
  refine comp_block (Q := Q) (RR := fun acc C => compPost (model X.prog X.w) X.A X.xe none (EP X pins σ Q) acc C) hc B hg ht he I2 T st2 f2 q ?_
  intro D C H' s' m I' hn fc qq
  obtain ⟨g0, g1, g2, g3, g4, g5⟩ := fc
  exact ⟨m, hn, fun h' hs' => ⟨.ref D, H', I'.turned (t' := s'.toks) (fun b o hb e => (hs'.2 b hb).trans e) g0 g1 g3 g4 g5, rfl, qq⟩⟩
theorem ps_setC {i : Nat} {y : Str} {py : Pos} {spos : Pos} {elt target iter : Expr} {ifs : List Expr} {scope : Scope} {pos : Pos} {tn fr : List Str} {caps : List Nat} {wi : TI} {g : TG} {tt : TT} {te : TE} (hN : X.N.Nodup) (hiN : X.N[i]? = some y) (hx : Loc X.env.scope y)
    (hc : X.calm = true) (B : BlkS X scope fr caps) (hi : PI X target iter wi)
    (hg : ∀ C s H fp, PG (cxB X (tn ++ fr) scope (capCl X.env fr) C s H fp) target g) (ht : ∀ C s H fp, PF (cxB X (tn ++ fr) scope (capCl X.env fr) C s H fp) ifs tt) (he : ∀ C s H fp, PE (cxB X (tn ++ fr) scope (capCl X.env fr) C s H fp) elt te)
    (hsw : swapsWith (.ListComp elt [⟨target, iter, ifs, 0⟩] scope pos) (some (.Name y py)) spos.line X.env = pure true := by rfl)
    (hs : ∀ x, foldedSetIterable iter X.env x = pure x := by intro _; rfl) (hf : X.fn y = true ∨ X.env.scope.names.lookup y = some .local := by first | exact .inl rfl | exact .inr rfl | assumption) :
    PS X (.Assign [.Name y py] (.ListComp elt [⟨target, iter, ifs, 0⟩] scope pos) spos) (tAsg (tComp tn.length caps wi g tt te) (gName i)) := by
  intro pins s σ H D I h
  rw [exec_Assign_Name_used _ _ _ _ hsw]
  refine wpAny_bind (wpAny_standAt (wpAny_bind ?_))
  show wpAny _ X.A (do let _ ← comprehension (.ListComp elt [⟨target, iter, ifs, 0⟩] scope pos) scope X.env _ (newList []) false (eval iter X.env) (some (assign (.Name y py) X.env))) _ _ s
  refine wpAny_bind (wpAny_mono (wpAny_comprehension_free (use := some (assign (.Name y py) X.env)) (Q := fun _ s' => SP X pins D .next s') rfl hs B.clos B.kind B.names
    (thn (hi pins s σ H _ I h) fun v s1 h1 => thn h1 fun itv s2 h2 => ?_)) (fun _ s' hq => wpAny_pure (wpAny_pure hq)) fun _ _ e => e)
  obtain ⟨it, fp, tnn, J, H2, rfl, I2, T, st2, f2, q⟩ := h2
  refine comp_block (Q := fun v H1 => gName i v σ H1 D.nx) (RR := fun acc C => compPost (model X.prog X.w) X.A X.xe (some (assign (.Name y py) X.env)) (fun _ s' => SP X pins D .next s') acc C) hc B hg ht he I2 T st2 f2 q ?_
  intro DD C H' s' m I' hn fc qq
  obtain ⟨g0, g1, g2, g3, g4, g5⟩ := fc
  show wpAny _ X.A (assign (.Name y py) X.env (.ref DD)) _ _ _
  refine wpAny_assign_Name (store_ok2 I' hN hiN hx (v := .ref DD) (u := .ref DD) rfl (fun s'' I'' ⟨a, sb, ha⟩ => ?_) hf)
  have hCa : C ≠ a := by
    rcases ha with z | z
    · rw [z]
      exact g1
    · exact fun e => g4 y a z e.symm
  exact ⟨m, hn.sameBut sb hCa, fun h' hs' => ⟨_, H', I''.turned (t' := s''.toks) (fun b o hb e => (hs'.2 b hb).trans e) g0 g1 g3 g4 g5, qq⟩⟩
end
section
variable {D : Addr} {te : TE} {cap : L2.St} {H1 : Hp} {Q : VK}
theorem blk_of {J : It} (n : Nat) (xs : Nat → V) (Pv : Nat → List V → Hp → Prop) (h0 : Pv 0 [] (upd H1 D (.lst [])))
    (go : ∀ i ys H, i < n → Pv i ys H → J.go i H ∧ ∀ x H', J.yld i H x H' → H' = H ∧ x = xs i) (stop : ∀ ys H, Pv n ys H → J.stop n H)
    (hs : ∀ i ys H (R : VK), i < n → Pv i ys H → H D = some (.lst ys) → (∀ v H6, H6 D = some (.lst ys) → ys.length < sizeLine → Pv (i + 1) (ys ++ [v]) (upd H6 D (.lst (ys ++ [v]))) → R v H6) → te (some (xs i) :: cap) H R)
    (hd : ∀ ys H, Pv n ys H → H D = some (.lst ys) → Q (.ref D) H) : tBlk D (gName 0) tYes te J (none :: cap) H1 Q := by
  refine ⟨fun i m σ ys H => m = n - i ∧ i ≤ n ∧ (∃ o, σ = o :: cap) ∧ Pv i ys H ∧ H D = some (.lst ys), ⟨n, by simp, Nat.zero_le _, ⟨none, rfl⟩, h0, upd_same⟩, ?_⟩
  rintro i m σ ys H ⟨rfl, hi, ⟨o, rfl⟩, p, hD⟩
  by_cases hlt : i < n
  · obtain ⟨g1, g2⟩ := go i ys H hlt p
    refine .inr ⟨g1, fun x H' y => ?_⟩
    obtain ⟨e1, e2⟩ := g2 x H' y
    subst e1 e2
    unfold gName tYes
    dsimp only
    rw [if_pos rfl]
    exact hs i ys _ _ hlt p hD fun v H6 a b c => ⟨a, b, n - (i + 1), by omega, rfl, by omega, ⟨_, rfl⟩, c, upd_same⟩
  · have e : i = n := by omega
    subst e
    exact .inl ⟨stop ys H p, hd ys H p hD⟩
end
def Its (x : Str) : It := ⟨fun i _ => i < x.cps.size, fun i H v H' => H' = H ∧ ∃ c, x.cps[i]? = some c ∧ v = .str ⟨#[c]⟩, fun i _ => i = x.cps.size⟩
section
variable {X : Cx} {tg : Expr}
def iStr (tl : TE) : TI := fun σ H R => tl σ H fun x H1 => ∃ z, x = .str z ∧ R (Its z) H1
end
end Ty

set_option maxHeartbeats 4000000
namespace Ty
open PySem PySem.Spec PyProof.Rows L2
section
variable {prog : Program} {w : World} {A : Around} {E : Value → Shared → Prop}
end
def gLst (K : PySem.W.Frag) (n : Nat) (t : TGs) : TG := fun v σ H Q => ∃ a xs, v = .ref a ∧ SqL K H a xs ∧ xs.length = n ∧ t xs σ H Q
structure Mk0 (K : PySem.W.Frag) (C : Addr) : Prop where
  makes : PySem.W.makesIn K C = true
  init : PySem.W.findIn K (.ref C) "__init__" = some (some (.builtin "object.__init__"))
  kp : PySem.W.keepIn K (.ref C) = true
def tMk0 (C : Addr) : TE := fun _ H Q => ∀ x dx, H x = none → H dx = none → dx ≠ x → Q (.ref x) (upd (upd H dx (.own x)) x (.ins C dx []))
section
variable {X : Cx}
end
structure MtdOk (P : Program) (w : World) (K : PySem.W.Frag) (mg : Str → Option Value) (base : Heap) (CX : CXT) (k : Nat) (C : Addr) (m : Str) (ps : List Str) (sp : Sp) : Prop where
  ex : ∃ (f : Addr) (fd : FuncData), Cls K C ∧ Meth K C m f ∧ FnOk P w K mg base CX k f fd ps sp ∧ Binds K fd ps []
section
variable {X : Cx} {CX : CXT} {k : Nat} {E : XK} {m : Str} {pos apos : Pos} {e o : Expr} {es : List Expr} {ta : TE} {t : TA}
def tMtd (P : Program) (w : World) (K : PySem.W.Frag) (mg : Str → Option Value) (base : Heap) (CX : CXT) (k : Nat) (m : Str) (E : XK) (ta : TE) (t : TA) : TE := fun σ H Q => ta σ H fun x H1 => ∃ a C dx fs ps sp, x = .ref a ∧ H1 a = some (.ins C dx fs) ∧ fs.lookup m = none ∧
  MtdOk P w K mg base CX k C m ps sp ∧ t σ H1 fun vs H2 => sp (x :: vs) H2 Q E
theorem pe_mtd0 {pl : Sem Bool} (he : PE X o ta) (hr : Room k X.A) (hx : Passes CX X E)
    (ht : eval (.Call (.Attribute o m apos) [] [] pos) X.env = (do
      let ov ← eval o X.env
      standAt apos.atName
      let (f, first) ← holding [ov] (getMethod ov m pl)
      callWith pos f first (backTo pos (starEach [] X.env)) (backToKw pos (keywordEach [] X.env))) := by rfl) :
    PE X (.Call (.Attribute o m apos) [] [] pos) (tMtd X.prog X.w X.K X.mg X.base CX k m E ta tNil) := by
  intro pins s σ H Q I h
  refine PySem.W.methodCall_KW (pl := pl) (thn (he pins s σ H _ I h) fun u s1 ⟨x, H1, I1, rx, a, C, dx, fs, ps, sp, ex, ea, l, M, q⟩ => ?_) ht
  subst ex
  obtain rfl : u = Value.ref a := rx
  obtain ⟨f, fd, c, hm, F, hb⟩ := M.ex
  refine getmeth_ok I1 ea c hm l ?_
  exact PySem.W.callWith_K0 (first := [.ref a]) I1.kIn hm.kp (run_fn (us := [.ref a]) (vs := [.ref a]) (dvs := []) F hr hb .nil hx I1 (.cons rfl .nil) q)
theorem pe_mtd {pl : Sem Bool} (he : PE X o ta) (hr : Room k X.A) (hx : Passes CX X E) (ha : PA X (e :: es) t)
    (hst : starEach (e :: es) X.env = (false, eval e X.env) :: starEach es X.env := by rfl) (hpl : (backTo pos (starEach es X.env)).any (·.1) = false := by rfl)
    (ht : eval (.Call (.Attribute o m apos) (e :: es) [] pos) X.env = (do
      let ov ← eval o X.env
      standAt apos.atName
      let (f, first) ← holding [ov] (getMethod ov m pl)
      callWith pos f first (backTo pos (starEach (e :: es) X.env)) (backToKw pos (keywordEach [] X.env))) := by rfl) :
    PE X (.Call (.Attribute o m apos) (e :: es) [] pos) (tMtd X.prog X.w X.K X.mg X.base CX k m E ta t) := by
  intro pins s σ H Q I h
  refine PySem.W.methodCall_KW (pl := pl) (thn (he pins s σ H _ I h) fun u s1 ⟨x, H1, I1, rx, a, C, dx, fs, ps, sp, ex, ea, l, M, q⟩ => ?_) ht
  subst ex
  obtain rfl : u = Value.ref a := rx
  obtain ⟨f, fd, c, hm, F, hb⟩ := M.ex
  refine getmeth_ok I1 ea c hm l ?_
  refine PySem.W.callWith_K (first := [.ref a]) (h₀ := X.base) I.ok.mod.kin hm.kp (thn (ha pos pins s1 σ H1 _ I1 q) fun us s2 ⟨vs, H2, I2, r, q2⟩ => ⟨I2.kIn, ?_⟩) hst hpl
  refine run_fn (us := .ref a :: us) (vs := .ref a :: vs) (dvs := []) F hr hb .nil hx I2 (.cons rfl r) ?_
  rw [List.append_nil]
  exact q2
end
theorem passB {X : Cx} {CX : CXT} (h : Mute CX) (e : X.xe = fun _ _ => False) : Passes CX X E0 := fun _ _ _ _ _ _ _ q => (h _ _ _ _ _ q).elim
end Ty

set_option maxHeartbeats 4000000
namespace Ty
open PySem PySem.Spec PyProof.Rows L2
section
variable {σ : L2.St} {H : Hp} {Q : VK} {QB : Bool → Hp → Prop} {QA : List V → Hp → Prop} {D : Ends} {t u : TS} {ta tb te : TE} {tc td : TT} {t1 : TA}
end
end Ty

set_option maxHeartbeats 4000000
namespace Ty
open PySem PySem.Spec PyProof.Rows L2
section
variable {X : Cx}
def tFmt (te : TE) : TE := fun σ H Q => te σ H fun x H1 => ∃ z, x = .str z ∧ z.length ≤ sizeLine ∧ Q (.str z) H1
abbrev TJ := L2.St → Hp → (List Str → Hp → Prop) → Prop
def PJ (X : Cx) (es : List Expr) (t : TJ) : Prop :=
  ∀ (pins : List (Addr × Obj)) (s : Shared) (σ : L2.St) (H : Hp) (acc : Str) (Q : List Str → Hp → Prop), Inv X pins σ H s → acc.length + 5000 * es.length ≤ sizeLine → t σ H Q →
    Joins (model X.prog X.w) X.A X.xe (evalEach es X.env) acc (fun out s1 => ∃ ys H1, Inv X pins σ H1 s1 ∧ out = ys.foldl (· ++ ·) acc ∧ out.length ≤ sizeLine ∧ Q ys H1) s
def jNil : TJ := fun _ H Q => Q [] H
def jCons (te : TE) (t : TJ) : TJ := fun σ H Q => te σ H fun x H1 => ∃ z, x = .str z ∧ z.length ≤ 5000 ∧ t σ H1 fun ys H2 => Q (z :: ys) H2
def tJoin (t : TJ) : TE := fun σ H Q => t σ H fun ys H1 => Q (.str (ys.foldl (· ++ ·) Str.empty)) H1
def rStarts : V → List V → Hp → VK → Prop := fun x vs H Q => ∃ z y, x = .str z ∧ vs = [.str y] ∧ Q (.bl (Txt.startswith z y)) H
def rFind : V → List V → Hp → VK → Prop := fun x vs H Q => ∃ z y, x = .str z ∧ vs = [.str y] ∧ Q (.int (Txt.find z y)) H
def rPartition : V → List V → Hp → VK → Prop := fun x vs H Q => ∃ z y, x = .str z ∧ vs = [.str y] ∧ (y.length == 0) = false ∧ z.length ≤ sizeLine ∧
  ∀ p, H p = none → Q (.ref p) (upd H p (.tup [.str (Txt.partition z y).1, .str (Txt.partition z y).2.1, .str (Txt.partition z y).2.2]))
def rSlS : V → Option Int → Option Int → Hp → VK → Prop := fun x lo hi H Q => ∃ z, x = .str z ∧ z.length ≤ sizeLine ∧ Q (.str (Txt.slice z lo hi)) H
def rIntText : List V → Hp → VK → Prop := fun xs H Q => ∃ z n, xs = [.str z] ∧ PySem.intText? z = some n ∧ z.length ≤ 640 ∧ Q (.int n) H
def rMulS : R2 := fun x y H Q => ∃ z n, x = .str z ∧ y = .int n ∧ MulOk z n ∧ Q (.str (Txt.mul z n)) H
theorem all_range (bs : List Bool) : (List.range bs.length).all (fun i => (bs[i]?).getD true) = bs.all id := by
  induction bs with
  | nil => rfl
  | cons b r ih =>
    rw [List.length_cons, List.range_succ_eq_map, List.all_cons, List.all_map, List.all_cons, ← ih]
    rfl
def rAll (K : PySem.W.Frag) : List V → Hp → VK → Prop := fun xs H Q => ∃ (p : Addr) (bs : List Bool), xs = [.ref p] ∧ SqL K H p (bs.map V.bl) ∧ Q (.bl (bs.all id)) H
theorem call_allB (hc : X.calm = true) : CallR X (.builtin "all") (rAll X.K) := by
  intro pins s σ H xs us Q I r h
  obtain ⟨p, bs, rfl, hq, q⟩ := h
  obtain ⟨u, rfl, r1⟩ := vals1 r
  cases r1
  obtain ⟨its, rv, pl, hz⟩ := I.list hq
  refine call_all_walk (wpAny_pyIter_list pl.isList ?_)
  have hne : p ≠ s.heap.objs.size := by obtain ⟨o, ho, _⟩ := pl.isList; exact Nat.ne_of_lt (Heap.lt_size ho)
  have I1 : Inv X pins σ H { s with heap := s.heap.push { cls := .type "list_iterator", data := .fields #[.ref p, .int 0 0] } } := I.kept (t' := s.toks) fun b o e => Heap.get?_push_of_some _ e
  obtain ⟨f0, f1, f2, f3, f4, f5⟩ := I.fpOk (H' := H) (Nat.le_refl s.heap.objs.size) (I.hok.fresh (Nat.le_refl _))
  have hl : its.length = bs.length := by rw [← rv.length, List.length_map]
  refine ⟨s.heap.objs.size, _, _, _, _, _, fun i => (bs[i]?).getD true, rfl, Walks.list (A := X.A.in1) (I.ok.hd hc) s.heap.objs.size p hne its.toArray, ⟨⟨_, Heap.get?_push_size _ rfl, rfl, rfl⟩, pl.isList.at fun o e => Heap.get?_push_of_some _ e⟩, ?_, fun h' tk kk => ?_⟩
  · intro i v s' Q' E' hv hq'
    have hv' : its[i]? = some v := by simpa using hv
    have hi : i < bs.length := by rw [← hl]; exact (List.getElem?_eq_some_iff.mp hv').1
    have eb : (bs.map V.bl)[i]? = some (.bl bs[i]) := by rw [List.getElem?_map, List.getElem?_eq_getElem hi]; rfl
    obtain ⟨u, eu, ru⟩ := rv.get eb
    rw [hv'] at eu
    cases eu
    cases ru
    dsimp only at hq'
    rw [List.getElem?_eq_getElem hi] at hq'
    exact wpAny_truthy_bool hq'
  · refine ⟨.bl (bs.all id), H, I1.turned (t' := tk) (it := s.heap.objs.size) (fun b o hb e => kk b o (by simpa using hb) e) f0 f1 f3 f4 f5, ?_, q⟩
    show _ = _
    rw [← all_range bs, List.size_toArray, hl]
end
end Ty

set_option maxHeartbeats 4000000
namespace Ty
open PySem PySem.Spec PyProof.Rows L2 PySem.NumText
def dg (m : Nat) : List Nat := (Nat.toDigits 10 m).map Char.toNat
def tx (n : Int) : Str := Str.ofString (toString n)
def slash : Str := Str.ofString "/"
def nt (q : Int × Int) : Str := if q.2 = 1 then tx q.1 else tx q.1 ++ slash ++ tx q.2
end Ty

set_option maxHeartbeats 4000000
namespace Ty
open PySem PySem.Spec PyProof.Rows L2 PySem.NumText
structure Txk (x : Str) : Prop where
  len : x.length ≤ 400
  cod : ∀ c ∈ x.cps.toList, c < 1000
section
variable {X : Cx}
def tRep (te : TE) : TE := fun σ H Q => te σ H fun x H1 => ∃ z, x = .str z ∧ Txk z ∧ ∀ y : Str, y.length ≤ 5000 → Q (.str y) H1
def rJoinL (K : PySem.W.Frag) : V → List V → Hp → VK → Prop := fun x vs H Q => ∃ (z : Str) (p : Addr) (ys : List Str), x = .str z ∧ vs = [.ref p] ∧ SqL K H p (ys.map V.str) ∧ (ys.map (·.length)).sum + ys.length * z.length ≤ 16777216 ∧ Q (.str (Txt.join z ys)) H
end
def isStar : Expr → Bool
  | .Starred .. => true
  | _ => false
theorem star_cons {e : Expr} {es : List Expr} {env : Env} (h : isStar e = false) : starEach (e :: es) env = (false, eval e env) :: starEach es env := by
  cases e <;> first | rfl | (cases h; done)
theorem pac {X : Cx} {e : Expr} {es : List Expr} {te : TE} {t : TA} (ha : PE X e te) (hr : PA X es t) (h : isStar e = false := by rfl) : PA X (e :: es) (tCons te t) := pa_cons ha hr (star_cons h)
def writs : List Expr → Option (List Str)
  | [] => some []
  | .Constant (.str x) _ _ :: r => (writs r).map (x :: ·)
  | _ => none
def tStrs (xs : List Str) : TA := fun _ H Q => Q (xs.map V.str) H
end Ty

set_option maxHeartbeats 4000000
namespace Ty
open PySem PySem.Spec PyProof.Rows L2
section
variable {D : Addr} {te : TE} {cap : L2.St} {H1 : Hp} {Q : VK}
def KSame (D : Addr) (H H' : Hp) : Prop := ∀ b o, b ≠ D → H b = some o → H' b = some o
theorem KSame.of {H H' : Hp} (s : Same H H') : KSame D H H' := fun b o _ e => s b o e
theorem KSame.upd {H : Hp} {o : HO} : KSame D H (upd H D o) := fun b o' n e => by rw [upd_ne n]; exact e
theorem comp_gen {J : It} (n : Nat) (xs : Nat → V) (Rel : Nat → V → Hp → Prop) (nD : H1 D = none) (hn : n < sizeLine)
    (go : ∀ i H, i < n → Same H1 H → J.go i H ∧ ∀ x H', J.yld i H x H' → H' = H ∧ x = xs i) (stop : ∀ H, Same H1 H → J.stop n H)
    (hR : ∀ i v H H' ys, H D = some (.lst ys) → KSame D H H' → Rel i v H → Rel i v H')
    (he : ∀ i H (R : VK), i < n → Same H1 H → (∀ v H6, Same H H6 → Rel i v H6 → R v H6) → te (some (xs i) :: cap) H R)
    (hd : ∀ ys H, ys.length = n → (∀ i v, ys[i]? = some v → Rel i v H) → Same H1 H → H D = some (.lst ys) → Q (.ref D) H) :
    tBlk D (gName 0) tYes te J (none :: cap) H1 Q := by
  refine blk_of n xs (fun i ys H => ys.length = i ∧ (∀ i v, ys[i]? = some v → Rel i v H) ∧ Same H1 H) ⟨rfl, fun i v e => by simp at e, fun b o e => by rw [upd_ne (ne_of_none e nD)]; exact e⟩ ?_ ?_ ?_ ?_
  · rintro i ys H hi ⟨_, _, s⟩
    exact go i H hi s
  · rintro ys H ⟨_, _, s⟩
    exact stop H s
  · rintro i ys H R hi ⟨l, r, s⟩ hD k
    refine he i H R hi s fun v H6 s6 rv => k v H6 (s6 _ _ hD) (by omega) ⟨by simp [l], fun j u e => ?_, fun b o e => ?_⟩
    · by_cases c : j < ys.length
      · rw [List.getElem?_append_left c] at e
        have ru := hR j u H H6 ys hD (KSame.of s6) (r j u e)
        exact hR j u H6 _ ys (s6 _ _ hD) KSame.upd ru
      · rw [List.getElem?_append_right (by omega)] at e
        have ej : j = i := by
          by_cases z : j - ys.length = 0
          · omega
          · rw [List.getElem?_eq_none (by simp; omega)] at e
            cases e
        subst ej
        have : v = u := by
          rw [show j - ys.length = 0 by omega] at e
          exact Option.some.inj e
        subst this
        exact hR j v H6 _ ys (s6 _ _ hD) KSame.upd rv
    · rw [upd_ne (ne_of_none e nD)]
      exact s6 _ _ (s _ _ e)
  · rintro ys H ⟨l, r, s⟩ hD
    exact hd ys H l r s hD
theorem comp_list {K : PySem.W.Frag} {a : Addr} {xs : List V} (Rel : Nat → V → Hp → Prop) (nD : H1 D = none) (hn : xs.length < sizeLine) (hS : ∀ H, Same H1 H → SqL K H a xs)
    (hR : ∀ i v H H' ys, H D = some (.lst ys) → KSame D H H' → Rel i v H → Rel i v H')
    (he : ∀ i x H (R : VK), xs[i]? = some x → Same H1 H → (∀ v H6, Same H H6 → Rel i v H6 → R v H6) → te (some x :: cap) H R)
    (hd : ∀ ys H, ys.length = xs.length → (∀ i v, ys[i]? = some v → Rel i v H) → Same H1 H → H D = some (.lst ys) → Q (.ref D) H) :
    tBlk D (gName 0) tYes te (Itl K a) (none :: cap) H1 Q := by
  refine comp_gen xs.length (fun i => (xs[i]?).getD .non) Rel nD hn (fun i H hi s => ⟨⟨xs, xs[i], hS H s, List.getElem?_eq_getElem hi⟩, fun x H' y => ⟨y.1, ?_⟩⟩) (fun H s => ⟨xs, hS H s, Nat.le_refl _⟩) hR (fun i H R hi s k => ?_) hd
  · rw [y.2 xs (hS H s)]; rfl
  · have e : xs[i]? = some xs[i] := List.getElem?_eq_getElem hi
    have k' := he i _ H R e s k
    rw [← (show (xs[i]?).getD .non = xs[i] by rw [e]; rfl)] at k'
    exact k'
theorem comp_range {lo : Int} {n : Nat} (Rel : Nat → V → Hp → Prop) (nD : H1 D = none) (hn : n < sizeLine)
    (hR : ∀ i v H H' ys, H D = some (.lst ys) → KSame D H H' → Rel i v H → Rel i v H')
    (he : ∀ (i : Nat) H (R : VK), i < n → Same H1 H → (∀ v H6, Same H H6 → Rel i v H6 → R v H6) → te (some (.int (lo + i)) :: cap) H R)
    (hd : ∀ ys H, ys.length = n → (∀ i v, ys[i]? = some v → Rel i v H) → Same H1 H → H D = some (.lst ys) → Q (.ref D) H) :
    tBlk D (gName 0) tYes te (Itr lo n) (none :: cap) H1 Q :=
  comp_gen n (fun i => .int (lo + i)) Rel nD hn (fun i H hi s => ⟨hi, fun x H' y => y⟩) (fun H s => Nat.le_refl n) hR he hd
end
end Ty

set_option maxHeartbeats 4000000
namespace Ty
open PySem PySem.Spec PyProof.Rows L2
section
variable {X : Cx} {pins : List (Addr × Obj)} {σ : L2.St} {H : Hp} {s : Shared} {h' : Heap}
theorem Inv.turnedL {t' : Nat} {fp : List Addr} (I : Inv X pins σ H s) (k : ∀ b o, b ∉ fp → s.heap.get? b = some o → h'.get? b = some o) (hf : ∀ b ∈ fp, FpOk X pins H b) : Inv X pins σ H { s with heap := h', toks := t' } := by
  have nit : ∀ b u, H b = some u → b ∉ fp := fun b u e z => by rw [(hf b z).1] at e; cases e
  refine I.step (g' := s.gens) (d' := s.drawn) (ch := fp) (fun b hb => ?_) (fun b o _ _ hc e _ => k b o hc e) (fun b o _ _ hc e _ => ⟨o.slots, k b o hc e⟩) (fun _ _ _ _ n => n)
    (fun b o hc e => ⟨o, k b o hc e⟩) (fun _ _ e => e) (fun _ _ _ e => e) (fun b ps e => ⟨#[], by rw [e]; simp⟩) (fun m hm => ?_) (fun b u e => ?_) I.bare
  · obtain ⟨f0, f1, f2, f3, f4, f5⟩ := hf b hb
    exact ⟨f3, f1, f4, f5⟩
  · obtain ⟨o, es, ep, ho, r⟩ := hm
    exact ⟨o, es, ep, k _ o (fun z => (hf _ z).2.1 rfl) ho, r⟩
  · refine (I.hok b u e).stay (fun c v hc q => k c v ?_ q) (fun _ q => q) fun _ _ q => q
    rcases hc with z | z
    · rw [z]; exact nit b u e
    · exact nit c _ z
theorem Inv.turnedT {t' : Nat} {fp : List Addr} {T : Addr} {xs : List V} {its : List Value} (I : Inv X pins σ H s) (k : ∀ b o, b ∉ fp → s.heap.get? b = some o → h'.get? b = some o) (hf : ∀ b ∈ fp, FpOk X pins H b) (hT : s.heap.objs.size ≤ T)
    (hz : xs.length ≤ sizeLine) (rv : Vals xs its) (ht : IsTup h' T its.toArray) : Inv X pins σ (upd H T (.tup xs)) { s with heap := h', toks := t' } := by
  have hn := I.hok.fresh hT
  have nit : ∀ b u, H b = some u → b ∉ fp := fun b u e z => by rw [(hf b z).1] at e; cases e
  have ne : ∀ b o, s.heap.get? b = some o → b ≠ T := fun b o e => Nat.ne_of_lt (Nat.lt_of_lt_of_le (Heap.lt_size e) hT)
  refine I.step (g' := s.gens) (d' := s.drawn) (ch := fp) (fun b hb => ?_) (fun b o _ _ hc e _ => k b o hc e) (fun b o _ _ hc e _ => ⟨o.slots, k b o hc e⟩) (fun b o _ e n => by rw [upd_ne (ne b o e)]; exact n)
    (fun b o hc e => ⟨o, k b o hc e⟩) (fun b ys e => by rw [upd_ne (ne_of_none e hn)]; exact e) (fun b o u e => by rw [upd_ne (ne_of_none e hn)]; exact e) (fun b ps e => ⟨#[], by rw [upd_ne (ne_of_none e hn), e]; simp⟩) (fun m hm => ?_) (fun b u e => ?_) I.bare
  · obtain ⟨f0, f1, f2, f3, f4, f5⟩ := hf b hb
    exact ⟨f3, f1, f4, f5⟩
  · obtain ⟨o, es, ep, ho, r⟩ := hm
    exact ⟨o, es, ep, k _ o (fun z => (hf _ z).2.1 rfl) ho, r⟩
  · by_cases hb : b = T
    · subst hb
      rw [upd_same] at e
      cases e
      exact ⟨hz, its, rv, ht⟩
    · rw [upd_ne hb] at e
      refine (I.hok b u e).stay (fun c v hc q => k c v ?_ q) (fun c q => by rw [upd_ne (ne_of_none q hn)]; exact q) fun c ys q => by rw [upd_ne (ne_of_none q hn)]; exact q
      rcases hc with z | z
      · rw [z]; exact nit b u e
      · exact nit c _ z
end
def Itz (K : PySem.W.Frag) (a b : Addr) : It :=
  ⟨fun i H => ∃ xs ys x y, SqL K H a xs ∧ SqL K H b ys ∧ xs[i]? = some x ∧ ys[i]? = some y,
   fun i H v H' => ∃ p x y, (∀ xs, SqL K H a xs → xs[i]? = some x) ∧ (∀ ys, SqL K H b ys → ys[i]? = some y) ∧ v = .ref p ∧ H p = none ∧ H' = upd H p (.tup [x, y]),
   fun i H => ∃ xs ys, SqL K H a xs ∧ SqL K H b ys ∧ (xs.length ≤ i ∨ ys.length ≤ i)⟩
theorem turn_zip {P : Program} {w : World} {K : PySem.W.Frag} {es : List Expr} {k : Nat} {pos : Pos} (a b z TI TO i1 i2 : Addr) (D : ZipApart z TI TO i1 i2 a b) :
    Turn P w K (.Tuple es k pos) (Itz K a b) [z, TI, TO, i1, i2] z (fun i h => IsZip h z TI TO .none ∧ IsPair h TI (.ref i1) (.ref i2) ∧ (∃ x y, IsPair h TO x y) ∧ h.IsListIter i1 a i ∧ h.IsListIter i2 b i) where
  mem := by simp
  obj := fun i h st c hc => by
    obtain ⟨hz, hTI, ⟨x, y, hTO⟩, ⟨o1, e1, c1, d1⟩, ⟨o2, e2, c2, d2⟩⟩ := st
    have hc' : c = z ∨ c = TI ∨ c = TO ∨ c = i1 ∨ c = i2 := by simpa using hc
    rcases hc' with e | e | e | e | e <;> subst e
    · exact ⟨_, hz, fun v z => by cases z⟩
    · exact ⟨_, hTI, fun v z => by cases z⟩
    · exact ⟨_, hTO, fun v z => by cases z⟩
    · exact ⟨_, e1, fun v z => by rw [d1] at z; cases z⟩
    · exact ⟨_, e2, fun v z => by rw [d2] at z; cases z⟩
  keep := fun i h h' st k => by
    obtain ⟨hz, hTI, ⟨x, y, hTO⟩, h1, h2⟩ := st
    exact ⟨k z (by simp) _ hz, k TI (by simp) _ hTI, ⟨x, y, k TO (by simp) _ hTO⟩, h1.at fun o e => k i1 (by simp) o e, h2.at fun o e => k i2 (by simp) o e⟩
  item := by
    intro X hP hw hK hc i pins s σ H E I hf st hg
    subst hP hw hK
    obtain ⟨hz, hTI, ⟨x0, y0, hTO⟩, h1, h2⟩ := st
    obtain ⟨xs, ys, x, y, qx, qy, ex, ey⟩ := hg
    obtain ⟨its, rv, p, _⟩ := I.list qx
    obtain ⟨jts, rw', p', _⟩ := I.list qy
    obtain ⟨u, hu, ru⟩ := rv.get ex
    obtain ⟨v, hv, rv'⟩ := rw'.get ey
    refine wpAny_pyNext_zip_item D hz hTI hTO h1 h2 p.isList p'.isList (x := u) (y := v) (by simpa using hu) (by simpa using hv) fun h' a1 a2 a3 a4 a5 a6 a7 => ?_
    refine ⟨_, rfl, wpAny_letOwnedTupleGo_zip (s := { s with heap := h' }) a1 fun h'' b1 sb => ?_⟩
    have nz : ∀ c, c ≠ z → ∀ o, h'.get? c = some o → h''.get? c = some o := fun c hc o e => (sb.2 c hc).trans e
    have kk : ∀ b o, b ∉ [z, TI, TO, i1, i2] → s.heap.get? b = some o → h''.get? b = some o := fun b o hb e => by
      have hb' : b ≠ z ∧ b ≠ TI ∧ b ≠ TO ∧ b ≠ i1 ∧ b ≠ i2 := by simpa using hb
      exact nz b hb'.1 o (a7 b o hb'.1 hb'.2.2.1 hb'.2.2.2.1 hb'.2.2.2.2 e)
    have sz : ∀ c o, s.heap.get? c = some o → s.heap.objs.size ≠ c := fun c o e => Nat.ne_of_gt (Heap.lt_size e)
    have tz : s.heap.objs.size ≠ z := sz _ _ hz
    have hn := I.hok.fresh (Nat.le_refl s.heap.objs.size)
    have I2 : Inv X pins σ (upd H s.heap.objs.size (.tup [x, y])) { s with heap := h'', toks := s.toks } :=
      Inv.turnedT I kk hf (Nat.le_refl _) (by show 2 ≤ sizeLine; decide) (its := [u, v]) (.cons ru (.cons rv' .nil)) ⟨_, nz _ tz _ a5, rfl, _, rfl⟩
    refine ⟨.ref s.heap.objs.size, _, I2, rfl, ⟨s.heap.objs.size, x, y, fun xs' q => by rw [I.list_inj q qx]; exact ex, fun ys' q => by rw [I.list_inj q qy]; exact ey, rfl, hn, rfl⟩, ⟨b1, nz _ D.TIz _ (a7 _ _ D.TIz D.TITO D.TIi1 D.TIi2 hTI), ⟨_, _, nz _ D.TOz _ a2⟩, a3.at fun o e => nz _ D.i1z o e, a4.at fun o e => nz _ D.i2z o e⟩, fun b hb => ?_⟩
    have ob : ∃ o, s.heap.get? b = some o := by
      obtain ⟨o1, e1, _⟩ := h1
      obtain ⟨o2, e2, _⟩ := h2
      have hc' : b = z ∨ b = TI ∨ b = TO ∨ b = i1 ∨ b = i2 := by simpa using hb
      rcases hc' with e | e | e | e | e <;> subst e
      · exact ⟨_, hz⟩
      · exact ⟨_, hTI⟩
      · exact ⟨_, hTO⟩
      · exact ⟨_, e1⟩
      · exact ⟨_, e2⟩
    obtain ⟨o, e⟩ := ob
    rw [upd_ne (Ne.symm (sz _ _ e))]
    exact (hf b hb).1
  done := by
    intro X hP hw hK hc i pins s σ H E I hf st hg
    subst hP hw hK
    obtain ⟨hz, hTI, ⟨x0, y0, hTO⟩, h1, h2⟩ := st
    obtain ⟨xs, ys, qx, qy, ee⟩ := hg
    obtain ⟨its, rv, p, _⟩ := I.list qx
    obtain ⟨jts, rw', p', _⟩ := I.list qy
    have l1 := rv.length
    have l2 := rw'.length
    refine wpAny_pyNext_zip_end (I.ok.hd hc) D hz hTI hTO h1 h2 p.isList p'.isList ?_ fun h' kk => ⟨rfl, Inv.turnedL I (fun b o hb e => ?_) hf⟩
    · rcases ee with e | e
      · exact .inl (by simp; omega)
      · exact .inr (by simp; omega)
    · have hb' : b ≠ z ∧ b ≠ TI ∧ b ≠ TO ∧ b ≠ i1 ∧ b ≠ i2 := by simpa using hb
      exact kk b o hb'.1 hb'.2.2.1 hb'.2.2.2.1 hb'.2.2.2.2 e
  self := fun _ _ _ _ _ st h => wpAny_pyIter_zip st.1 h
theorem boot_zip : bootBuiltins "zip" = some (.type "zip") := by decide +kernel
section
variable {X : Cx}
def iZip (K : PySem.W.Frag) (ta : TA) : TI := fun σ H R => ta σ H fun vs H1 => ∃ a b, vs = [.ref a, .ref b] ∧ (∃ xs, SqL K H1 a xs) ∧ (∃ ys, SqL K H1 b ys) ∧ R (Itz K a b) H1
theorem pi_zip {e1 e2 : Expr} {ta : TA} {p pos : Pos} {es : List Expr} {k : Nat} {tpos : Pos} (hg : Gl X "zip") (hm : X.mg "zip" = none) (ha : PA X [e1, e2] ta) (hs : starEach [e1, e2] X.env = [(false, eval e1 X.env), (false, eval e2 X.env)] := by rfl) (hs2 : starEach [e2] X.env = [(false, eval e2 X.env)] := by rfl) :
    PI X (.Tuple es k tpos) (.Call (.Name "zip" p) [e1, e2] [] pos) (iZip X.K ta) := by
  intro pins s σ H R I h
  refine Call_ (ld_blt I hg hm boot_zip (PyProof.Rows.callWith_type1 (thn (ha pos pins s σ H _ I h) fun us s1 ⟨vs, H1, I1, r1, q1⟩ => ?_) (by rw [hs, hs2]) (by rw [hs2]; rfl)))
  obtain ⟨a, b, e, ⟨xs, hx⟩, ⟨ys, hy⟩, q⟩ := q1
  subst e
  cases r1 with
  | cons r rr =>
    cases rr with
    | cons r' rr =>
      cases rr
      cases r
      cases r'
      obtain ⟨its, rv, pl, _⟩ := I1.list hx
      obtain ⟨jts, rw', pl', _⟩ := I1.list hy
      have lt1 : a < s1.heap.objs.size := by obtain ⟨o, ho, _⟩ := pl.isList; exact Heap.lt_size ho
      have lt2 : b < s1.heap.objs.size := by obtain ⟨o, ho, _⟩ := pl'.isList; exact Heap.lt_size ho
      refine call_zip_2 pl.isList pl'.isList fun h' hz hTI hTO hi1 hi2 hsz hk => wpAny_pyIter_zip (s := { s1 with heap := h' }) hz ?_
      refine ⟨s1.heap.objs.size + 4, [s1.heap.objs.size + 4, s1.heap.objs.size + 2, s1.heap.objs.size + 3, s1.heap.objs.size, s1.heap.objs.size + 1], _, _, H1, rfl, I1.kept (t' := s1.toks) hk, turn_zip a b _ _ _ _ _ ?_, ⟨hz, hTI, ⟨_, _, hTO⟩, hi1, hi2⟩, fun c hc => ?_, q⟩
      · constructor <;> (intro z; simp only [Addr] at *; omega)
      · have hc' : s1.heap.objs.size ≤ c := by
          have : c = s1.heap.objs.size + 4 ∨ c = s1.heap.objs.size + 2 ∨ c = s1.heap.objs.size + 3 ∨ c = s1.heap.objs.size ∨ c = s1.heap.objs.size + 1 := by simpa using hc
          simp only [Addr] at *
          omega
        exact I1.fpOk hc' (I1.hok.fresh hc')
def rSum (K : PySem.W.Frag) : List V → Hp → VK → Prop := fun xs H Q => ∃ (p : Addr) (ns : List Int), xs = [.ref p] ∧ SqL K H p (ns.map V.int) ∧ Q (.int ns.sum) H
def rListL (K : PySem.W.Frag) : List V → Hp → VK → Prop := fun xs H Q => ∃ (p : Addr) (ys : List V), xs = [.ref p] ∧ SqL K H p ys ∧ ∀ l, H l = none → Q (.ref l) (upd H l (.lst ys))
theorem call_listL : CallR X (.type "list") (rListL X.K) := by
  intro pins s σ H xs us Q I r h
  obtain ⟨p, ys, rfl, hq, q⟩ := h
  obtain ⟨u, rfl, r1⟩ := vals1 r
  cases r1
  obtain ⟨its, rv, ⟨o, n, e, c, d1, d⟩, hz⟩ := I.list hq
  have hlen := rv.length
  refine call_list_seq p (.inl rfl) e c d (fun h' c' hk hl => ?_) (by simp; omega)
  have hn := I.hok.fresh (Nat.le_refl s.heap.objs.size)
  have I2 : Inv X pins σ (upd H s.heap.objs.size (.lst ys)) { s with heap := h', toks := s.toks } := I.laid (t' := s.toks) hk (Nat.le_refl _) ⟨hz, its, c', rv, hl⟩
  exact ⟨.ref _, _, I2, rfl, q _ hn⟩
end
section
variable {X : Cx} {K : PySem.W.Frag}
theorem ix_tupK (h : X.K = K) : IxR X (rIxT K) := by subst h; exact ix_tup
theorem ix_listK (h : X.K = K) : IxR X (rIxL K) := by subst h; exact ix_list
theorem pg_tupK {es : List Expr} {k : Nat} {t : TGs} {n : Nat} {pos : Pos} (hK : X.K = K) (hc : X.calm = true) (h : PGs X es t)
    (hn : (assignEach es X.env).length = n := by rfl) (hst : (assignEach es X.env).findIdx? (·.1) = none := by rfl) : PG X (.Tuple es k pos) (gTup K n t) := by subst hK; exact pg_tup hc h hn hst
end
section
variable {D : Addr} {te : TE} {cap : L2.St} {H1 : Hp} {Q : VK}
theorem comp_zip {K : PySem.W.Frag} {a b : Addr} {xs ys : List V} (Rel : Nat → V → Hp → Prop) (nD : H1 D = none) (hn : xs.length < sizeLine) (hl : ys.length = xs.length) (hX : ∀ H, Same H1 H → SqL K H a xs) (hY : ∀ H, Same H1 H → SqL K H b ys)
    (hR : ∀ i v H H' ys, H D = some (.lst ys) → KSame D H H' → Rel i v H → Rel i v H')
    (he : ∀ i x y H (R : VK), xs[i]? = some x → ys[i]? = some y → Same H1 H → (∀ v H6, Same H H6 → Rel i v H6 → R v H6) → te (some x :: some y :: cap) H R)
    (hd : ∀ zs H, zs.length = xs.length → (∀ i v, zs[i]? = some v → Rel i v H) → Same H1 H → H D = some (.lst zs) → Q (.ref D) H) :
    tBlk D (gTup K 2 (gCons (gName 0) (gCons (gName 1) gNil))) tYes te (Itz K a b) (none :: none :: cap) H1 Q := by
  refine ⟨fun i m σ zs H => m = xs.length - i ∧ i ≤ xs.length ∧ (∃ o o', σ = o :: o' :: cap) ∧ (zs.length = i ∧ (∀ i v, zs[i]? = some v → Rel i v H) ∧ Same H1 H) ∧ H D = some (.lst zs), ⟨xs.length, by simp, Nat.zero_le _, ⟨none, none, rfl⟩, ⟨rfl, fun i v e => by simp at e, fun b o e => by rw [upd_ne (ne_of_none e nD)]; exact e⟩, upd_same⟩, ?_⟩
  rintro i m σ zs H ⟨rfl, hi, ⟨o, o', rfl⟩, ⟨l, r, s⟩, hD⟩
  by_cases hlt : i < xs.length
  · have e1 : xs[i]? = some xs[i] := List.getElem?_eq_getElem hlt
    have e2 : ys[i]? = some (ys[i]'(by omega)) := List.getElem?_eq_getElem (by omega)
    refine .inr ⟨⟨xs, ys, _, _, hX H s, hY H s, e1, e2⟩, fun v H' y => ?_⟩
    obtain ⟨p, x, y, q1, q2, rfl, np, rfl⟩ := y
    have e1 := q1 xs (hX H s)
    have e2 := q2 ys (hY H s)
    have sp : Same H (upd H p (.tup [x, y])) := fun b o e => by rw [upd_ne (ne_of_none e np)]; exact e
    refine ⟨p, _, rfl, SqT.of upd_same, rfl, _, _, rfl, _, _, rfl, rfl, ?_⟩
    unfold tYes
    dsimp only
    rw [if_pos rfl]
    refine he i x y _ _ e1 e2 (fun b o e => sp _ _ (s _ _ e)) fun v H6 s6 rv => ⟨s6 _ _ (sp _ _ hD), by omega, xs.length - (i + 1), by omega, rfl, by omega, ⟨_, _, rfl⟩, ⟨by simp [l], fun j u e => ?_, fun b o e => ?_⟩, upd_same⟩
    · by_cases c : j < zs.length
      · rw [List.getElem?_append_left c] at e
        have ru := hR j u H H6 zs hD (KSame.of fun b o q => s6 _ _ (sp _ _ q)) (r j u e)
        exact hR j u H6 _ zs (s6 _ _ (sp _ _ hD)) KSame.upd ru
      · rw [List.getElem?_append_right (by omega)] at e
        have ej : j = i := by
          by_cases z : j - zs.length = 0
          · omega
          · rw [List.getElem?_eq_none (by simp; omega)] at e
            cases e
        subst ej
        have : v = u := by
          rw [show j - zs.length = 0 by omega] at e
          exact Option.some.inj e
        subst this
        exact hR j v H6 _ zs (s6 _ _ (sp _ _ hD)) KSame.upd rv
    · rw [upd_ne (ne_of_none e nD)]
      exact s6 _ _ (sp _ _ (s _ _ e))
  · have e : i = xs.length := by omega
    subst e
    exact .inl ⟨⟨xs, ys, hX H s, hY H s, .inl (Nat.le_refl _)⟩, hd zs H l r s hD⟩
end
end Ty

set_option maxHeartbeats 4000000
namespace Ty
open PySem PySem.Spec PyProof.Rows L2
open Builtin.Int (intBits)
def vl (q : Int × Int) : Rat := (q.1 : Rat) / (q.2 : Rat)
structure Sm (T B : Nat) (q : Int × Int) : Prop where
  pos : 0 < q.2
  low : Int.gcd q.1 q.2 = 1
  top : q.1.natAbs ≤ 2 ^ T
  bot : q.2.natAbs ≤ 2 ^ B
theorem ratne {b : Int} (h : b ≠ 0) : (b : Rat) ≠ 0 := by simpa using h
theorem vl_low {t b : Int} (h : b ≠ 0) : vl (low t b) = (t : Rat) / (b : Rat) := by
  have c := low_cross (t := t) h
  have p := low_pos (t := t) h
  have h1 := ratne h
  have h2 := ratne (b := (low t b).2) (by omega)
  have c' : ((low t b).1 : Rat) * b = t * (low t b).2 := by exact_mod_cast c
  unfold vl
  grind
theorem cross_of_vl {t b u c : Int} (hb : b ≠ 0) (hc : c ≠ 0) (h : (t : Rat) / b = (u : Rat) / c) : t * c = u * b := by
  have h1 := ratne hb
  have h2 := ratne hc
  have : (t : Rat) * c = u * b := by grind
  exact_mod_cast this
theorem cast_fdiv {b d : Int} (hd : d ≠ 0) (h : d ∣ b) : ((b.fdiv d : Int) : Rat) = (b : Rat) / d := by
  have e := fdiv_of_dvd hd h
  have h1 := ratne hd
  have : (b : Rat) = d * (b.fdiv d : Int) := by exact_mod_cast e
  grind
def dotZ (xs ys : List Int) : Int := (List.zipWith (fun a b => a * b) xs ys).sum
def dotQ (xs ys : List (Int × Int)) : Rat := (List.zipWith (fun a b => vl a * vl b) xs ys).sum
theorem dotQ_nil {ys : List (Int × Int)} : dotQ [] ys = 0 := by simp [dotQ]
theorem dotQ_cons {x y : Int × Int} {xs ys : List (Int × Int)} : dotQ (x :: xs) (y :: ys) = vl x * vl y + dotQ xs ys := by simp [dotQ]
def Whole (ts : List Int) (qs : List (Int × Int)) (b : Int) : Prop := ts.length = qs.length ∧ ∀ (i : Nat) (t : Int) (q : Int × Int), ts[i]? = some t → qs[i]? = some q → (t : Rat) = vl q * b
theorem pw_mul {a b : Int} {m n : Nat} (h1 : a.natAbs ≤ 2 ^ m) (h2 : b.natAbs ≤ 2 ^ n) : (a * b).natAbs ≤ 2 ^ (m + n) := by
  rw [Int.natAbs_mul, Nat.pow_add]
  exact Nat.mul_le_mul h1 h2
theorem pw_add {a b : Int} {m : Nat} (h1 : a.natAbs ≤ 2 ^ m) (h2 : b.natAbs ≤ 2 ^ m) : (a + b).natAbs ≤ 2 ^ (m + 1) := by
  have := Int.natAbs_add_le a b
  rw [Nat.pow_succ]
  omega
theorem pw_up {a : Int} {m n : Nat} (h : a.natAbs ≤ 2 ^ m) (hm : m ≤ n) : a.natAbs ≤ 2 ^ n := Nat.le_trans h (Nat.pow_le_pow_right (by decide) hm)
theorem pw_bits {a : Int} {m n : Nat} (h : a.natAbs ≤ 2 ^ m) (hm : m < n) : intBits a ≤ n := intBits_le_iff.mpr (Nat.lt_of_le_of_lt h (Nat.pow_lt_pow_right (by decide) hm))
theorem pw_cmul {a b : Int} {m n : Nat} (h1 : a.natAbs ≤ 2 ^ m) (h2 : b.natAbs ≤ 2 ^ n) (hm : m < 30000000) (hn : n < 30000000) : CMulB a b := ⟨Nat.le_trans (pw_bits h1 hm) (by decide), Nat.le_trans (pw_bits h2 hn) (by decide)⟩
theorem Sm.up {T B T' B' : Nat} {q : Int × Int} (h : Sm T B q) (hT : T ≤ T') (hB : B ≤ B') : Sm T' B' q := ⟨h.pos, h.low, pw_up h.top hT, pw_up h.bot hB⟩
theorem lcm_step {b d : Int} (hb : 0 < b) (hd : 0 < d) : 0 < b.fdiv (gz b d) * d ∧ b ∣ b.fdiv (gz b d) * d ∧ d ∣ b.fdiv (gz b d) * d ∧ (b.fdiv (gz b d) * d).natAbs ≤ b.natAbs * d.natAbs := by
  have gp := gz_pos (t := b) (b := d) (by omega)
  have g1 : gz b d ∣ b := Int.gcd_dvd_left ..
  have g2 : gz b d ∣ d := Int.gcd_dvd_right ..
  have e1 := fdiv_of_dvd (g := gz b d) (by omega) g1
  have e2 := fdiv_of_dvd (g := gz b d) (by omega) g2
  generalize gz b d = g at *
  have p1 : 0 < b.fdiv g := by
    rcases Int.lt_trichotomy (b.fdiv g) 0 with z | z | z
    · exfalso
      have := Int.mul_neg_of_pos_of_neg gp z
      omega
    · rw [z] at e1; omega
    · exact z
  refine ⟨Int.mul_pos p1 hd, ⟨d.fdiv g, ?_⟩, ⟨b.fdiv g, Int.mul_comm ..⟩, ?_⟩
  · have : b.fdiv g * d = b.fdiv g * (g * d.fdiv g) := by rw [← e2]
    rw [this]
    have h3 : b * d.fdiv g = g * b.fdiv g * d.fdiv g := by rw [← e1]
    rw [h3]
    rw [← Int.mul_assoc, Int.mul_comm (b.fdiv g) g]
  · rw [Int.natAbs_mul]
    exact Nat.mul_le_mul_right _ (by
      have := natAbs_factor (g := g) (a := b.fdiv g) (by omega)
      rw [← e1] at this
      exact this)
theorem whole_one {q : Int × Int} {b : Int} (hq : 0 < q.2) (h : q.2 ∣ b) : ((q.1 * b.fdiv q.2 : Int) : Rat) = vl q * b := by
  have e := cast_fdiv (b := b) (d := q.2) (by omega) h
  have : ((q.1 * b.fdiv q.2 : Int) : Rat) = q.1 * ((b.fdiv q.2 : Int) : Rat) := by push_cast; rfl
  rw [this, e]
  unfold vl
  grind
theorem fdiv_size {b d : Int} (hd : d ≠ 0) (h : d ∣ b) : (b.fdiv d).natAbs ≤ b.natAbs := by
  have := natAbs_factor (g := d) (a := b.fdiv d) hd
  rw [← fdiv_of_dvd hd h] at this
  exact this
end Ty

set_option maxHeartbeats 4000000
namespace Ty
open PySem PySem.Spec PyProof.Rows L2
section
variable {D : Addr} {te : TE} {cap : L2.St} {H1 : Hp} {Q : VK}
theorem comp_genD {J : It} (n : Nat) (xs : Nat → V) (Rel : Nat → V → Hp → Prop) (nD : H1 D = none) (hn : n < sizeLine)
    (go : ∀ i H, i < n → Same H1 H → J.go i H ∧ ∀ x H', J.yld i H x H' → H' = H ∧ x = xs i) (stop : ∀ H, Same H1 H → J.stop n H)
    (hR : ∀ i v H H' ys, H D = some (.lst ys) → KSame D H H' → Rel i v H → Rel i v H')
    (he : ∀ i H (R : VK), i < n → Same H1 H → (∃ ys, H D = some (.lst ys)) → (∀ v H6, Same H H6 → Rel i v H6 → R v H6) → te (some (xs i) :: cap) H R)
    (hd : ∀ ys H, ys.length = n → (∀ i v, ys[i]? = some v → Rel i v H) → Same H1 H → H D = some (.lst ys) → Q (.ref D) H) :
    tBlk D (gName 0) tYes te J (none :: cap) H1 Q := by
  refine blk_of n xs (fun i ys H => ys.length = i ∧ (∀ i v, ys[i]? = some v → Rel i v H) ∧ Same H1 H) ⟨rfl, fun i v e => by simp at e, fun b o e => by rw [upd_ne (ne_of_none e nD)]; exact e⟩ ?_ ?_ ?_ ?_
  · rintro i ys H hi ⟨_, _, s⟩
    exact go i H hi s
  · rintro ys H ⟨_, _, s⟩
    exact stop H s
  · rintro i ys H R hi ⟨l, r, s⟩ hD k
    refine he i H R hi s ⟨_, hD⟩ fun v H6 s6 rv => k v H6 (s6 _ _ hD) (by omega) ⟨by simp [l], fun j u e => ?_, fun b o e => ?_⟩
    · by_cases c : j < ys.length
      · rw [List.getElem?_append_left c] at e
        have ru := hR j u H H6 ys hD (KSame.of s6) (r j u e)
        exact hR j u H6 _ ys (s6 _ _ hD) KSame.upd ru
      · rw [List.getElem?_append_right (by omega)] at e
        have ej : j = i := by
          by_cases z : j - ys.length = 0
          · omega
          · rw [List.getElem?_eq_none (by simp; omega)] at e
            cases e
        subst ej
        have : v = u := by
          rw [show j - ys.length = 0 by omega] at e
          exact Option.some.inj e
        subst this
        exact hR j v H6 _ ys (s6 _ _ hD) KSame.upd rv
    · rw [upd_ne (ne_of_none e nD)]
      exact s6 _ _ (s _ _ e)
  · rintro ys H ⟨l, r, s⟩ hD
    exact hd ys H l r s hD
theorem comp_listD {K : PySem.W.Frag} {a : Addr} {xs : List V} (Rel : Nat → V → Hp → Prop) (nD : H1 D = none) (hn : xs.length < sizeLine) (hS : ∀ H, Same H1 H → SqL K H a xs)
    (hR : ∀ i v H H' ys, H D = some (.lst ys) → KSame D H H' → Rel i v H → Rel i v H')
    (he : ∀ i x H (R : VK), xs[i]? = some x → Same H1 H → (∃ ys, H D = some (.lst ys)) → (∀ v H6, Same H H6 → Rel i v H6 → R v H6) → te (some x :: cap) H R)
    (hd : ∀ ys H, ys.length = xs.length → (∀ i v, ys[i]? = some v → Rel i v H) → Same H1 H → H D = some (.lst ys) → Q (.ref D) H) :
    tBlk D (gName 0) tYes te (Itl K a) (none :: cap) H1 Q := by
  refine comp_genD xs.length (fun i => (xs[i]?).getD .non) Rel nD hn (fun i H hi s => ⟨⟨xs, xs[i], hS H s, List.getElem?_eq_getElem hi⟩, fun x H' y => ⟨y.1, ?_⟩⟩) (fun H s => ⟨xs, hS H s, Nat.le_refl _⟩) hR (fun i H R hi s dd k => ?_) hd
  · rw [y.2 xs (hS H s)]; rfl
  · have e : xs[i]? = some xs[i] := List.getElem?_eq_getElem hi
    have k' := he i _ H R e s dd k
    rw [← (show (xs[i]?).getD .non = xs[i] by rw [e]; rfl)] at k'
    exact k'
end
section
variable {X : Cx}
theorem call_listLK {K : PySem.W.Frag} (h : X.K = K) : CallR X (.type "list") (rListL K) := by subst h; exact call_listL
def cxB1 (X : Cx) (NB : List Str) (scope : Scope) (y : Str) (cl : List (Str × Addr)) (C : Addr) (s : Shared) (H : Hp) (fp : List Addr) : Cx :=
  { prog := X.prog, w := X.w, K := X.K, mg := X.mg, base := X.base, A := X.A, N := NB, s₀ := s, H₀ := H, env := compEnvC scope ((y, C + 1) :: cl) C X.env, outer := X.stack, stack := X.stack, ex := fp, fn := fun x => x == y, calm := X.calm, pn := [], xe := fun _ _ => False }
structure Blk1 (X : Cx) (scope : Scope) (y : Str) (fr : List Str) (caps : List Nat) : Prop where
  clos : closureFor scope X.env = pure (capCl X.env fr)
  kind : scope.kind = .function
  names : ∀ y ∈ scope.names, y.2 = .local → scope.names.lookup y.1 = some .local
  free : ∀ y ∈ scope.names, y.2 = .free → y.1 ∈ fr
  caps : caps.map (fun i => X.N[i]?) = fr.map some
  out : AllCap X.env fr
  inn : AllCap (compEnvC scope [] 0 X.env) fr
  cells1 : ∀ n acc, cellsFrom n scope.names acc = (y, n) :: acc
  push1 : ∀ h, pushCells h scope.names = h.push { cls := .type "cell", data := .cell none }
  only : ∀ z ∈ scope.names, z.2 = .cell → z.1 = y
  ny : y ∉ fr
end
end Ty

namespace L2
open PySem PySem.Spec PyProof.Rows

section
variable {κ : Type} [DecidableEq κ]
def valV (kvs : List (κ × V)) (k : κ) : Option V := (kvs.find? fun kv => decide (kv.1 = k)).map (·.2)
def putK (kvs : List (κ × V)) (k : κ) (v : V) : List (κ × V) :=
  if (kvs.any fun kv => decide (kv.1 = k)) = true then kvs.map (fun kv => if kv.1 = k then (kv.1, v) else kv) else kvs ++ [(k, v)]
def dropK (kvs : List (κ × V)) (k : κ) : List (κ × V) := kvs.filter fun kv => decide (kv.1 ≠ k)

end


abbrev KT (H : Hp) : List (List Key × V) → List (List Key × Addr × Value) → Prop := Paired fun p q => p.1 = q.1 ∧ H q.2.1 = some (.tup (p.1.map kV)) ∧ RelV p.2 q.2.2
section
variable {P : Program} {w : World} {H : Hp} {h : Heap} {a : Addr}
end

def DGet (H : Hp) (a : Addr) (y : V) (r : Option V) : Prop :=
  (∃ kvs k, Rd H a (.dK kvs) ∧ y = kV k ∧ r = valV kvs k) ∨ ∃ kvs k b, Rd H a (.dT kvs) ∧ y = .ref b ∧ H b = some (.tup (k.map kV)) ∧ r = valV kvs k
def DPut (H : Hp) (a : Addr) (y v : V) (H' : Hp) : Prop :=
  (∃ kvs k, H a = some (.dK kvs) ∧ y = kV k ∧ kvs.length < sizeLine ∧ H' = upd H a (.dK (putK kvs k v))) ∨
  ∃ kvs k b, H a = some (.dT kvs) ∧ y = .ref b ∧ H b = some (.tup (k.map kV)) ∧ kvs.length < sizeLine ∧ H' = upd H a (.dT (putK kvs k v))
section
variable {X : Cx} {pins : List (Addr × Obj)} {σ : St} {H : Hp} {s : Shared} {a : Addr} {y v : V} {u r : Value} {o : Option V} {A : Around} {E : Value → Shared → Prop}

end

section
variable {X : Cx} {pins : List (Addr × Obj)} {σ : St} {H : Hp} {s : Shared} {a : Addr} {kvs : List (Key × V)} {k : Key} {u : Value} {A : Around} {E : Value → Shared → Prop}
end


def NoSl (i : Expr) : Prop := ∀ ov iv, subscripted i false ov iv = operate [ov, iv] (getItem ov iv)
def tDGet (td ty : TE) : TE := fun σ H Q => td σ H fun x H1 => ty σ H1 fun y H2 => ∃ a v, x = .ref a ∧ DGet H2 a y (some v) ∧ Q v H2
def tDIn (ty td : TE) : TE := fun σ H Q => ty σ H fun y H1 => td σ H1 fun x H2 => ∃ a o, x = .ref a ∧ DGet H2 a y o ∧ Q (.bl o.isSome) H2
def tDNotIn (ty td : TE) : TE := fun σ H Q => ty σ H fun y H1 => td σ H1 fun x H2 => ∃ a o, x = .ref a ∧ DGet H2 a y o ∧ Q (.bl (!o.isSome)) H2
def sDPut (td ty tv : TE) : TS := fun D σ H => tv σ H fun v H1 => td σ H1 fun x H2 => ty σ H2 fun y H3 => ∃ a H4, x = .ref a ∧ DPut H3 a y v H4 ∧ D.nx σ H4
def sDAug (td ty tv : TE) (rd : V → V → Hp → VK → Prop) : TS := fun D σ H => td σ H fun x H1 => ty σ H1 fun y H2 => ∃ a v, x = .ref a ∧ DGet H2 a y (some v) ∧
  tv σ H2 fun y2 H3 => rd v y2 H3 fun z H4 => ∃ H5, DPut H4 a y z H5 ∧ D.nx σ H5
def sDDel (td ty : TE) : TS := fun D σ H => td σ H fun x H1 => ty σ H1 fun y H2 => ∃ a kvs k, x = .ref a ∧ H2 a = some (.dK kvs) ∧ y = kV k ∧ (valV kvs k).isSome = true ∧ D.nx σ (upd H2 a (.dK (dropK kvs k)))

section
variable {X : Cx} {o i e value : Expr} {pos pos' tpos : Pos} {td ty tv : TE}
end


def tDNewK : TE := fun _ H Q => ∀ p, H p = none → Q (.ref p) (upd H p (.dK []))
def tDNewT : TE := fun _ H Q => ∀ p, H p = none → Q (.ref p) (upd H p (.dT []))
section
variable {X : Cx} {pos : Pos}
end

def tPairs : List (TE × TE) → St → Hp → (List (V × V) → Hp → Prop) → Prop
  | [], _, H, Q => Q [] H
  | (tk, tv) :: r, σ, H, Q => tk σ H fun x H1 => tv σ H1 fun y H2 => tPairs r σ H2 fun ps H3 => Q ((x, y) :: ps) H3
abbrev VV : List (V × V) → List (Value × Value) → Prop := Paired fun p q => RelV p.1 q.1 ∧ RelV p.2 q.2
def PPs (X : Cx) (pos : Pos) (keys : List (Option Expr)) (values : List Expr) (trs : List (TE × TE)) : Prop :=
  ∀ (pins : List (Addr × Obj)) (s : Shared) (σ : St) (H : Hp) (Q : List (V × V) → Hp → Prop), Inv X pins σ H s → tPairs trs σ H Q →
    wpAny (model X.prog X.w) X.A (evalPairs (pairTrees keys values X.env pos)) (fun vs s' => ∃ ps H', Inv X pins σ H' s' ∧ VV ps vs ∧ Q ps H') X.xe s
def mergeK (kvs more : List (Key × V)) : List (Key × V) := more.foldl (fun acc kv => putK acc kv.1 kv.2) kvs
def tDisp (trs : List (TE × TE)) : TE := fun σ H Q => ∀ p, H p = none → tPairs trs σ (upd H p (.dK [])) fun ps H2 => H2 p = some (.dK []) ∧ ∃ kvs : List (Key × V), ps = kvs.map (fun kv => (kV kv.1, kv.2)) ∧ kvs.length ≤ 15 ∧ Q (.ref p) (upd H2 p (.dK (mergeK [] kvs)))
structure M1 (X : Cx) (o : Expr) (m : Str) (apos : Pos) (e : Expr) (cpos : Pos) : Prop where
  base : attributeBase o m X.env (eval o X.env) = eval o X.env
  few : ((backTo cpos (starEach [e] X.env)).all (fun x => !x.1) && (backToKw cpos (keywordEach [] X.env)).all (fun x => x.1.isSome)
    && decide (([e] : List Expr).length + ([] : List Keyword).length + (if ([] : List Keyword).isEmpty then 0 else 1) < 30)) = true
  line : (apos.endLine == cpos.line) = true
  trees : backTo cpos (starEach [e] X.env) = [(false, eval e X.env)]
structure M2 (X : Cx) (o : Expr) (m : Str) (apos : Pos) (e f : Expr) (cpos : Pos) : Prop where
  base : attributeBase o m X.env (eval o X.env) = eval o X.env
  few : ((backTo cpos (starEach [e, f] X.env)).all (fun x => !x.1) && (backToKw cpos (keywordEach [] X.env)).all (fun x => x.1.isSome)
    && decide (([e, f] : List Expr).length + ([] : List Keyword).length + (if ([] : List Keyword).isEmpty then 0 else 1) < 30)) = true
  line : (apos.endLine == cpos.line) = true
  trees : backTo cpos (starEach [e, f] X.env) = [(false, eval e X.env), (false, eval f X.env)]

def IsD (H : Hp) (a : Addr) : Prop := (∃ kvs, Rd H a (.dK kvs)) ∨ ∃ kvs, Rd H a (.dT kvs)
section
variable {X : Cx} {pins : List (Addr × Obj)} {σ : St} {H : Hp} {s : Shared} {a : Addr} {y d : V} {u r : Value} {o : Option V} {A : Around} {E : Value → Shared → Prop}
end

def tDGet1 (td ty : TE) : TE := fun σ H Q => td σ H fun x H1 => ∃ a, x = .ref a ∧ IsD H1 a ∧ ty σ H1 fun y H2 => ∃ o, DGet H2 a y o ∧ Q (o.getD .non) H2
def tDGet2 (td ty tx : TE) : TE := fun σ H Q => td σ H fun x H1 => ∃ a, x = .ref a ∧ IsD H1 a ∧ ty σ H1 fun y H2 => tx σ H2 fun z H3 => ∃ o, DGet H3 a y o ∧ Q (o.getD z) H3
def tDPop1 (td ty : TE) : TE := fun σ H Q => td σ H fun x H1 => ∃ a, x = .ref a ∧ IsD H1 a ∧ ty σ H1 fun y H2 => ∃ kvs k v, H2 a = some (.dK kvs) ∧ y = kV k ∧ valV kvs k = some v ∧ Q v (upd H2 a (.dK (dropK kvs k)))
def tDPop2 (td ty tx : TE) : TE := fun σ H Q => td σ H fun x H1 => ∃ a, x = .ref a ∧ IsD H1 a ∧ ty σ H1 fun y H2 => tx σ H2 fun z H3 => ∃ kvs k, H3 a = some (.dK kvs) ∧ y = kV k ∧
  (∀ v, valV kvs k = some v → Q v (upd H3 a (.dK (dropK kvs k)))) ∧ (valV kvs k = none → Q z H3)
section
variable {X : Cx} {o e f : Expr} {apos cpos : Pos} {td ty tx : TE}
end

section
variable {X : Cx} {pins : List (Addr × Obj)} {σ : St} {H : Hp} {s : Shared} {a : Addr} {kvs : List (Key × V)} {A : Around} {E : Value → Shared → Prop}
end


section
variable {X : Cx} {pins : List (Addr × Obj)} {σ : St} {H : Hp} {s : Shared} {a : Addr} {y : V} {u : Value} {A : Around} {E : Value → Shared → Prop}
end
end L2

set_option maxHeartbeats 4000000
namespace Ty
open PySem PySem.Spec PyProof.Rows L2
section
variable {X : Cx}
theorem seer_of {pins : List (Addr × Obj)} {σ : L2.St} {H : Hp} {s : Shared} (I : Inv X pins σ H s) : s.heap.NoSeer := I.ok.mod.seer.keeps I.bk
theorem Room.py {k : Nat} {A : Around} (r : Room k A) (h : 32 ≤ k) : A.depth + Builtin.pylongFrames < recursionLimit := by
  have := r.dp
  have : Builtin.pylongFrames = 100 := rfl
  omega
theorem op_fdivU {env : Env} {l : List Env} (ht : X.prog.given.tree = none) (hd : X.A.depth + Builtin.pylongFrames < recursionLimit) (hst : X.stack = env :: l) (h1 : env.scope.isGenerator = false) (h2 : env.scope.isCoroutine = false) (h3 : env.builtins = builtinsNs) (h4 : env.globals = mainGlobals) :
    OpR X (binaryOp .FloorDiv) (rI CMod fun i j => .int (i.fdiv j)) := by
  intro pins s σ H x y v u Q I rx ry h
  obtain ⟨i, j, rfl, rfl, hc, q⟩ := h
  obtain ⟨t, rfl⟩ := rx
  obtain ⟨t', rfl⟩ := ry
  exact floordiv_int hc ⟨.int _, H, I.tok _, ⟨_, rfl⟩, q⟩ (.inr (PylongRoom.of I.nolimit hd (SeerAt.of (seer_of I) ht (by rw [I.ok.frames, hst]) h1 h2 h3 h4)))
end
end Ty

set_option maxHeartbeats 4000000
namespace Ty
open PySem PySem.Spec PyProof.Rows L2
section
variable {prog : Program} {w : World} {A : Around} {E : Value → Shared → Prop} {s : Shared} {KK : Type} [DecidableEq KK] {knd : KeyKind prog w KK}
end
theorem paired_of {α β : Type} {F : α → β → Prop} : ∀ {l₁ : List α} {l₂ : List β}, l₁.length = l₂.length → (∀ (i : Nat) (a : α) (b : β), l₁[i]? = some a → l₂[i]? = some b → F a b) → Paired F l₁ l₂
  | [], [], _, _ => .nil
  | a :: l₁, b :: l₂, h, f => .cons (f 0 a b rfl rfl) (paired_of (by simpa using h) fun i a b e1 e2 => f (i + 1) a b (by simpa using e1) (by simpa using e2))
  | [], _ :: _, h, _ => by simp at h
  | _ :: _, [], h, _ => by simp at h
section
variable {X : Cx}
def rListD : List V → Hp → VK → Prop := fun xs H Q => ∃ (p : Addr) (kvs : List (Key × V)), xs = [.ref p] ∧ Rd H p (.dK kvs) ∧ ∀ l, H l = none → Q (.ref l) (upd H l (.lst (kvs.map fun kv => kV kv.1)))
def Itd (d : Addr) (o : Obj) (kvs : List (Key × V)) : It :=
  ⟨fun i H => H d = some (.frz o (.dK kvs)) ∧ i < kvs.length,
   fun i H v H' => ∃ p k x, kvs[i]? = some (k, x) ∧ v = .ref p ∧ H p = none ∧ H' = upd H p (.tup [kV k, x]),
   fun i H => H d = some (.frz o (.dK kvs)) ∧ kvs.length ≤ i⟩
def iItems (te : TE) : TI := fun σ H R => te σ H fun x H1 => ∃ d kvs, x = .ref d ∧ H1 d = some (.dK kvs) ∧ ∀ o, R (Itd d o kvs) (upd H1 d (.frz o (.dK kvs)))
end
end Ty

set_option maxHeartbeats 4000000
namespace Ty
def ev : List Int → (Nat → Rat) → Rat
  | [], _ => 0
  | a :: r, z => (a : Rat) * z 0 + ev r (fun i => z (i + 1))
def csum : List Rat → List (List Int) → Nat → Rat
  | c :: y, o :: os, j => c * ((o.getD j 0 : Int) : Rat) + csum y os j
  | _, _, _ => 0
def Comb (os : List (List Int)) (l : List Int) : Prop := ∃ y : List Rat, y.length = os.length ∧ ∀ j, ((l.getD j 0 : Int) : Rat) = csum y os j
def zOf (y : List Rat) : Nat → Rat := fun i => if i < y.length then y.getD i 0 else -1
structure Clr (line lead new : List Int) (c : Nat) : Prop where
  len : new.length = line.length
  nought : new.getD c 0 = 0
  lin : ∃ s t u : Int, s ≠ 0 ∧ t ≠ 0 ∧ ∀ j, s * new.getD j 0 = t * line.getD j 0 - u * lead.getD j 0
end Ty

set_option maxHeartbeats 4000000
namespace Ty
open PySem PySem.Spec PyProof.Rows L2
def Itn (K : PySem.W.Frag) (a : Addr) : It :=
  ⟨fun i H => ∃ xs x, SqL K H a xs ∧ xs[i]? = some x,
   fun i H v H' => ∃ p x, (∀ xs, SqL K H a xs → xs[i]? = some x) ∧ v = .ref p ∧ H p = none ∧ H' = upd H p (.tup [.int (i : Int), x]),
   fun i H => ∃ xs, SqL K H a xs ∧ xs.length ≤ i⟩
theorem turn_enum {P : Program} {w : World} {K : PySem.W.Frag} {es : List Expr} {k : Nat} {pos : Pos} (a e it : Addr) (hne : e ≠ it) :
    Turn P w K (.Tuple es k pos) (Itn K a) [e, it] e (fun i h => (∃ old, IsEnum h e it ((i : Nat) : Int) old) ∧ h.IsListIter it a i) where
  mem := by simp
  obj := fun i h st c hc => by
    obtain ⟨⟨old, he⟩, ⟨o1, e1, c1, d1⟩⟩ := st
    have hc' : c = e ∨ c = it := by simpa using hc
    rcases hc' with z | z <;> subst z
    · exact ⟨_, he, fun v z => by cases z⟩
    · exact ⟨_, e1, fun v z => by rw [d1] at z; cases z⟩
  keep := fun i h h' st k => by
    obtain ⟨⟨old, he⟩, h1⟩ := st
    exact ⟨⟨old, k e (by simp) _ he⟩, h1.at fun o e => k it (by simp) o e⟩
  item := by
    intro X hP hw hK hc i pins s σ H E I hf st hg
    subst hP hw hK
    obtain ⟨⟨old, he⟩, h1⟩ := st
    obtain ⟨xs, x, qx, ex⟩ := hg
    obtain ⟨its, rv, p, _⟩ := I.list qx
    obtain ⟨u, hu, ru⟩ := rv.get ex
    refine wpAny_pyNext_enum_item he h1 p.isList (x := u) (by simpa using hu) hne fun h' a1 a2 a3 a4 a5 => ?_
    refine ⟨_, rfl, wpAny_letOwnedTupleGo_enum (s := { s with heap := h', toks := s.toks + 1 }) a1 fun h'' b1 sb => ?_⟩
    have nz : ∀ c, c ≠ e → ∀ o, h'.get? c = some o → h''.get? c = some o := fun c hc o q => (sb.2 c hc).trans q
    have kk : ∀ b o, b ∉ [e, it] → s.heap.get? b = some o → h''.get? b = some o := fun b o hb q => by
      have hb' : b ≠ e ∧ b ≠ it := by simpa using hb
      exact nz b hb'.1 o (a5 b o hb'.1 hb'.2 q)
    have sz : ∀ c o, s.heap.get? c = some o → s.heap.objs.size ≠ c := fun c o q => Nat.ne_of_gt (Heap.lt_size q)
    have tz : s.heap.objs.size ≠ e := sz _ _ he
    have hn := I.hok.fresh (Nat.le_refl s.heap.objs.size)
    have I2 : Inv X pins σ (upd H s.heap.objs.size (.tup [.int (i : Int), x])) { s with heap := h'', toks := s.toks + 1 } :=
      Inv.turnedT I kk hf (Nat.le_refl _) (by show 2 ≤ sizeLine; decide) (its := [.int i s.toks, u]) (.cons ⟨_, rfl⟩ (.cons ru .nil)) ⟨_, nz _ tz _ a3, rfl, _, rfl⟩
    refine ⟨.ref s.heap.objs.size, _, I2, rfl, ⟨s.heap.objs.size, x, fun xs' q => by rw [I.list_inj q qx]; exact ex, rfl, hn, rfl⟩, ⟨⟨_, by exact b1⟩, a2.at fun o q => nz _ (Ne.symm hne) o q⟩, fun b hb => ?_⟩
    have ob : ∃ o, s.heap.get? b = some o := by
      obtain ⟨o1, e1, _⟩ := h1
      have hc' : b = e ∨ b = it := by simpa using hb
      rcases hc' with z | z <;> subst z
      · exact ⟨_, he⟩
      · exact ⟨_, e1⟩
    obtain ⟨o, q⟩ := ob
    rw [upd_ne (Ne.symm (sz _ _ q))]
    exact (hf b hb).1
  done := by
    intro X hP hw hK hc i pins s σ H E I hf st hg
    subst hP hw hK
    obtain ⟨⟨old, he⟩, h1⟩ := st
    obtain ⟨xs, qx, ee⟩ := hg
    obtain ⟨its, rv, p, _⟩ := I.list qx
    have l1 := rv.length
    refine wpAny_pyNext_enum_end (I.ok.hd hc) he h1 p.isList (by simp; omega) fun h' kk => ⟨rfl, Inv.turnedL I (fun b o hb q => ?_) hf⟩
    have hb' : b ≠ e ∧ b ≠ it := by simpa using hb
    exact kk b o hb'.2 q
  self := fun _ _ _ _ _ st h => by
    obtain ⟨⟨old, he⟩, _⟩ := st
    exact wpAny_pyIter_enum he h
theorem boot_enumerate : bootBuiltins "enumerate" = some (.type "enumerate") := by decide +kernel
section
variable {X : Cx}
def iEnum (K : PySem.W.Frag) (ta : TA) : TI := fun σ H R => ta σ H fun vs H1 => ∃ a, vs = [.ref a] ∧ (∃ xs, SqL K H1 a xs) ∧ R (Itn K a) H1
theorem pi_enum {e1 : Expr} {ta : TA} {p pos : Pos} {es : List Expr} {k : Nat} {tpos : Pos} (hg : Gl X "enumerate") (hm : X.mg "enumerate" = none) (ha : PA X [e1] ta) (hs : starEach [e1] X.env = [(false, eval e1 X.env)] := by rfl) :
    PI X (.Tuple es k tpos) (.Call (.Name "enumerate" p) [e1] [] pos) (iEnum X.K ta) := by
  intro pins s σ H R I h
  refine Call_ (ld_blt I hg hm boot_enumerate (PyProof.Rows.callWith_type1 (thn (ha pos pins s σ H _ I h) fun us s1 ⟨vs, H1, I1, r1, q1⟩ => ?_) hs rfl))
  obtain ⟨a, e, ⟨xs, hx⟩, q⟩ := q1
  subst e
  cases r1 with
  | cons r rr =>
    cases rr
    cases r
    obtain ⟨its, rv, pl, _⟩ := I1.list hx
    refine call_enumerate_list pl.isList fun h' hE hI hsz hk => wpAny_pyIter_enum (s := { s1 with heap := h' }) hE ?_
    refine ⟨s1.heap.objs.size + 1, [s1.heap.objs.size + 1, s1.heap.objs.size], _, _, H1, rfl, I1.kept (t' := s1.toks) hk, turn_enum a _ _ (Nat.succ_ne_self _), ⟨⟨_, hE⟩, hI⟩, fun c hc => ?_, q⟩
    have hc' : s1.heap.objs.size ≤ c := by
      have : c = s1.heap.objs.size + 1 ∨ c = s1.heap.objs.size := by simpa using hc
      simp only [Addr] at *
      omega
    exact I1.fpOk hc' (I1.hok.fresh hc')
def rAny (K : PySem.W.Frag) : List V → Hp → VK → Prop := fun xs H Q => ∃ (p : Addr) (bs : List Bool), xs = [.ref p] ∧ SqL K H p (bs.map V.bl) ∧ Q (.bl (bs.any id)) H
end
theorem for_enum {K : PySem.W.Frag} {a : Addr} {xs : List V} {g : TG} {tb : TS} {D : Ends} {σ : L2.St} {H : Hp} (Pv : Nat → L2.St → Hp → Prop) (h0 : Pv 0 σ H) (hl : ∀ i σ H, i ≤ xs.length → Pv i σ H → SqL K H a xs)
    (hs : ∀ i x σ H p, xs[i]? = some x → Pv i σ H → H p = none → g (.ref p) σ (upd H p (.tup [.int (i : Int), x])) fun σ2 H2 => tb { D with nx := Pv (i + 1), ct := Pv (i + 1), bk := D.nx } σ2 H2) (hd : ∀ σ H, Pv xs.length σ H → D.nx σ H) :
    ∃ W : Nat → Nat → L2.St → Hp → Prop, (∃ m, W 0 m σ H) ∧ ∀ i m σ H, W i m σ H →
      ((Itn K a).stop i H ∧ D.nx σ H) ∨ ((Itn K a).go i H ∧ ∃ N : L2.St → Hp → Prop, (∀ σ' H', N σ' H' → ∃ m', m' < m ∧ W (i + 1) m' σ' H') ∧ ∀ x H', (Itn K a).yld i H x H' → g x σ H' fun σ2 H2 => tb { D with nx := N, ct := N, bk := D.nx } σ2 H2) := by
  refine ⟨fun i m σ H => m = xs.length - i ∧ i ≤ xs.length ∧ Pv i σ H, ⟨xs.length, by simp, Nat.zero_le _, h0⟩, ?_⟩
  rintro i m σ H ⟨rfl, hi, p⟩
  have q := hl i σ H hi p
  by_cases hlt : i < xs.length
  · have e : xs[i]? = some xs[i] := List.getElem?_eq_getElem hlt
    refine .inr ⟨⟨xs, _, q, e⟩, Pv (i + 1), fun σ' H' z => ⟨xs.length - (i + 1), by omega, rfl, by omega, z⟩, fun x H' y => ?_⟩
    obtain ⟨pp, x', y1, rfl, np, rfl⟩ := y
    exact hs i x' σ H pp (y1 xs q) p np
  · have e : i = xs.length := by omega
    subst e
    exact .inl ⟨⟨xs, q, Nat.le_refl _⟩, hd σ H p⟩
end Ty

set_option maxHeartbeats 4000000
namespace Ty
open PySem PySem.Spec PyProof.Rows L2
open Builtin.Int (intBits)
section
variable {X : Cx}
def CMulS (i j : Int) : Prop := intBits i + intBits j ≤ 134217728
theorem op_mulZ : OpR X (binaryOp .Mult) (rI CMulS fun i j => .int (i * j)) :=
  opI fun _ _ _ _ _ _ _ hc q => mul_int q (IntMulOk.of_le (Nat.le_refl _) (Nat.le_refl _) hc)
theorem pw_cmulS {a b : Int} {m n : Nat} (h1 : a.natAbs ≤ 2 ^ m) (h2 : b.natAbs ≤ 2 ^ n) (h : m + n ≤ 134000000) : CMulS a b := by
  have x1 := pw_bits h1 (Nat.lt_succ_self m)
  have x2 := pw_bits h2 (Nat.lt_succ_self n)
  unfold CMulS
  omega
def rIsiT (K : PySem.W.Frag) : List V → Hp → VK → Prop := fun xs H Q => ∃ p ys, xs = [.ref p, .ty "tuple"] ∧ SqT K H p ys ∧ Q (.bl true) H
theorem call_isiT : CallR X (.builtin "isinstance") (rIsiT X.K) := by
  intro pins s σ H xs us Q I r h
  obtain ⟨p, ys, rfl, hq, q⟩ := h
  obtain ⟨u, w, rfl, r1, r2⟩ := vals2 r
  obtain rfl := cls_rel (c := .ty "tuple") rfl r2
  cases r1
  obtain ⟨its, rv, ⟨o, h1, h2, _⟩, _⟩ := I.tuple hq
  have e : PySem.W.kitOne X.K (.type "tuple") (clsV (.ty "tuple")) = some true := by unfold PySem.W.kitOne; rw [if_pos (by decide)]
  exact PySem.W.kia_one PySem.W.kitx_tuple I.kIn ⟨o, h1, h2⟩ e (fun z => nomatch z) fun tk => ⟨.bl true, H, I.tok tk, rfl, q⟩
end
theorem Same.seqT {K : PySem.W.Frag} {H H' : Hp} {a : Addr} {xs : List V} (e : Same H H') (h : SqT K H a xs) : SqT K H' a xs := by
  rcases h with (h | ⟨o, h⟩) | h
  · exact .inl (.inl (e _ _ h))
  · exact .inl (.inr ⟨o, e _ _ h⟩)
  · exact .inr h
section
variable {D : Addr} {te : TE} {cap : L2.St} {H1 : Hp} {Q : VK}
theorem comp_zipD {K : PySem.W.Frag} {a b : Addr} {xs ys : List V} (Rel : Nat → V → Hp → Prop) (nD : H1 D = none) (hn : xs.length < sizeLine) (hl : ys.length = xs.length) (hX : ∀ H, Same H1 H → SqL K H a xs) (hY : ∀ H, Same H1 H → SqL K H b ys)
    (hR : ∀ i v H H' ys, H D = some (.lst ys) → KSame D H H' → Rel i v H → Rel i v H')
    (he : ∀ i x y H (R : VK), xs[i]? = some x → ys[i]? = some y → Same H1 H → (∃ ys, H D = some (.lst ys)) → (∀ v H6, Same H H6 → Rel i v H6 → R v H6) → te (some x :: some y :: cap) H R)
    (hd : ∀ zs H, zs.length = xs.length → (∀ i v, zs[i]? = some v → Rel i v H) → Same H1 H → H D = some (.lst zs) → Q (.ref D) H) :
    tBlk D (gTup K 2 (gCons (gName 0) (gCons (gName 1) gNil))) tYes te (Itz K a b) (none :: none :: cap) H1 Q := by
  refine ⟨fun i m σ zs H => m = xs.length - i ∧ i ≤ xs.length ∧ (∃ o o', σ = o :: o' :: cap) ∧ (zs.length = i ∧ (∀ i v, zs[i]? = some v → Rel i v H) ∧ Same H1 H) ∧ H D = some (.lst zs), ⟨xs.length, by simp, Nat.zero_le _, ⟨none, none, rfl⟩, ⟨rfl, fun i v e => by simp at e, fun b o e => by rw [upd_ne (ne_of_none e nD)]; exact e⟩, upd_same⟩, ?_⟩
  rintro i m σ zs H ⟨rfl, hi, ⟨o, o', rfl⟩, ⟨l, r, s⟩, hD⟩
  by_cases hlt : i < xs.length
  · have e1 : xs[i]? = some xs[i] := List.getElem?_eq_getElem hlt
    have e2 : ys[i]? = some (ys[i]'(by omega)) := List.getElem?_eq_getElem (by omega)
    refine .inr ⟨⟨xs, ys, _, _, hX H s, hY H s, e1, e2⟩, fun v H' y => ?_⟩
    obtain ⟨p, x, y, q1, q2, rfl, np, rfl⟩ := y
    have e1 := q1 xs (hX H s)
    have e2 := q2 ys (hY H s)
    have sp : Same H (upd H p (.tup [x, y])) := fun b o e => by rw [upd_ne (ne_of_none e np)]; exact e
    refine ⟨p, _, rfl, SqT.of upd_same, rfl, _, _, rfl, _, _, rfl, rfl, ?_⟩
    unfold tYes
    dsimp only
    rw [if_pos rfl]
    refine he i x y _ _ e1 e2 (fun b o e => sp _ _ (s _ _ e)) ⟨zs, sp _ _ hD⟩ fun v H6 s6 rv => ⟨s6 _ _ (sp _ _ hD), by omega, xs.length - (i + 1), by omega, rfl, by omega, ⟨_, _, rfl⟩, ⟨by simp [l], fun j u e => ?_, fun b o e => ?_⟩, upd_same⟩
    · by_cases c : j < zs.length
      · rw [List.getElem?_append_left c] at e
        have ru := hR j u H H6 zs hD (KSame.of fun b o q => s6 _ _ (sp _ _ q)) (r j u e)
        exact hR j u H6 _ zs (s6 _ _ (sp _ _ hD)) KSame.upd ru
      · rw [List.getElem?_append_right (by omega)] at e
        have ej : j = i := by
          by_cases z : j - zs.length = 0
          · omega
          · rw [List.getElem?_eq_none (by simp; omega)] at e
            cases e
        subst ej
        have : v = u := by
          rw [show j - zs.length = 0 by omega] at e
          exact Option.some.inj e
        subst this
        exact hR j v H6 _ zs (s6 _ _ (sp _ _ hD)) KSame.upd rv
    · rw [upd_ne (ne_of_none e nD)]
      exact s6 _ _ (sp _ _ (s _ _ e))
  · have e : i = xs.length := by omega
    subst e
    exact .inl ⟨⟨xs, ys, hX H s, hY H s, .inl (Nat.le_refl _)⟩, hd zs H l r s hD⟩
end
def NmK (K : PySem.W.Frag) (H : Hp) (v : V) (q : Int × Int) : Prop := ∃ p, v = .ref p ∧ SqT K H p [.int q.1, .int q.2]
theorem NmK.same {K : PySem.W.Frag} {H H' : Hp} {v : V} {q : Int × Int} (h : NmK K H v q) (s : Same H H') : NmK K H' v q := by
  obtain ⟨p, e, k⟩ := h
  exact ⟨p, e, Ty.Same.seqT s k⟩
def NmsK (K : PySem.W.Frag) (H : Hp) (us : List V) (qs : List (Int × Int)) : Prop := us.length = qs.length ∧ ∀ (i : Nat) (u : V) (q : Int × Int), us[i]? = some u → qs[i]? = some q → NmK K H u q
theorem NmsK.same {K : PySem.W.Frag} {H H' : Hp} {us : List V} {qs : List (Int × Int)} (h : NmsK K H us qs) (s : Same H H') : NmsK K H' us qs := ⟨h.1, fun i u q e1 e2 => (h.2 i u q e1 e2).same s⟩
theorem NmsK.at {K : PySem.W.Frag} {H : Hp} {us : List V} {qs : List (Int × Int)} (h : NmsK K H us qs) {i : Nat} {u : V} (e : us[i]? = some u) : ∃ q, qs[i]? = some q ∧ NmK K H u q := by
  have hi : i < us.length := (List.getElem?_eq_some_iff.mp e).1
  have hl := h.1
  have e2 : qs[i]? = some (qs[i]'(by omega)) := List.getElem?_eq_getElem (by omega)
  exact ⟨_, e2, h.2 i u _ e e2⟩
theorem NmsK.at' {K : PySem.W.Frag} {H : Hp} {us : List V} {qs : List (Int × Int)} (h : NmsK K H us qs) {i : Nat} {q : Int × Int} (e : qs[i]? = some q) : ∃ u, us[i]? = some u ∧ NmK K H u q := by
  have hi : i < qs.length := (List.getElem?_eq_some_iff.mp e).1
  have hl := h.1
  have e2 : us[i]? = some (us[i]'(by omega)) := List.getElem?_eq_getElem (by omega)
  exact ⟨_, e2, h.2 i _ q e2 e⟩
theorem NmsK.set {K : PySem.W.Frag} {H : Hp} {us : List V} {qs : List (Int × Int)} {j : Nat} {v : V} {q : Int × Int} (h : NmsK K H us qs) (n : NmK K H v q) : NmsK K H (us.set j v) (qs.set j q) := by
  refine ⟨by simp [h.1], fun i u q' e1 e2 => ?_⟩
  rw [List.getElem?_set] at e1 e2
  by_cases c : j = i
  · subst c
    rw [if_pos rfl] at e1 e2
    have l := h.1
    by_cases hj : j < us.length
    · rw [if_pos hj] at e1
      rw [if_pos (by omega)] at e2
      cases e1
      cases e2
      exact n
    · rw [if_neg hj] at e1
      cases e1
  · rw [if_neg c] at e1 e2
    exact h.2 i u q' e1 e2
def RowK (K : PySem.W.Frag) (H : Hp) (a : Addr) (qs : List (Int × Int)) : Prop := ∃ us, SqL K H a us ∧ NmsK K H us qs
theorem RowK.same {K : PySem.W.Frag} {H H' : Hp} {a : Addr} {qs : List (Int × Int)} (h : RowK K H a qs) (s : Same H H') : RowK K H' a qs := by
  obtain ⟨us, h1, h2⟩ := h
  exact ⟨us, s.seq h1, h2.same s⟩
def sumTo : Nat → (Nat → Rat) → Rat
  | 0, _ => 0
  | n + 1, f => f 0 + sumTo n (fun i => f (i + 1))
theorem sumTo_add : ∀ (n : Nat) (f g : Nat → Rat), sumTo n (fun i => f i + g i) = sumTo n f + sumTo n g
  | 0, _, _ => by simp [sumTo]; grind
  | n + 1, f, g => by
    simp only [sumTo]
    rw [sumTo_add n (fun i => f (i + 1)) (fun i => g (i + 1))]
    grind
theorem sumTo_mul (c : Rat) : ∀ (n : Nat) (f : Nat → Rat), sumTo n (fun i => c * f i) = c * sumTo n f
  | 0, _ => by simp [sumTo]
  | n + 1, f => by
    simp only [sumTo]
    rw [sumTo_mul c n (fun i => f (i + 1))]
    grind
theorem sumTo_zero : ∀ (n : Nat) (f : Nat → Rat), (∀ i, f i = 0) → sumTo n f = 0
  | 0, _, _ => rfl
  | n + 1, f, h => by
    simp only [sumTo]
    rw [h 0, sumTo_zero n (fun i => f (i + 1)) (fun i => h (i + 1))]
    grind
end Ty

set_option maxHeartbeats 4000000
namespace Ty
open PySem PySem.Spec PyProof.Rows L2
section
variable {X : Cx}
def iItemsR (te : TE) : TI := fun σ H R => te σ H fun x H1 => ∃ d kvs, x = .ref d ∧ Rd H1 d (.dK kvs) ∧ ∀ o, R (Itd d o kvs) (upd H1 d (.frz o (.dK kvs)))
end
section
variable {D : Addr} {te : TE} {cap : L2.St} {H1 : Hp} {Q : VK}
end
end Ty

set_option maxHeartbeats 4000000
namespace Ty
open PySem PySem.Spec PyProof.Rows L2
section
variable {X : Cx}
def rSorted (K : PySem.W.Frag) : List V → Hp → VK → Prop := fun xs H Q => ∃ (p : Addr) (ns : List Int), xs = [.ref p] ∧ SqL K H p (ns.map V.int) ∧ ns.length < 64 ∧ ∀ (l : Addr) (ms : List Int), H l = none → ms.Perm ns → ms.Pairwise (· ≤ ·) → Q (.ref l) (upd H l (.lst (ms.map V.int)))
theorem b_sorted : bootBuiltins "sorted" = some (.builtin "sorted") := by decide +kernel
def tListR (ta : TA) : TE := fun σ H Q => ta σ H fun vs H1 => ∃ n : Nat, vs = [.int (n : Int)] ∧ n ≤ 1000 ∧ ∀ l, H1 l = none → Q (.ref l) (upd H1 l (.lst ((List.range n).map fun (i : Nat) => V.int (i : Int))))
theorem pe_listR {a : Expr} {ta : TA} {p p2 pos pos2 : Pos} (hc : X.calm = true) (hg : Gl X "list") (hm : X.mg "list" = none) (hg2 : Gl X "range") (hm2 : X.mg "range" = none) (ha : PA X [a] ta) (hs : starEach [a] X.env = [(false, eval a X.env)] := by rfl)
    (he : starEach [.Call (.Name "range" p2) [a] [] pos2] X.env = [(false, eval (.Call (.Name "range" p2) [a] [] pos2) X.env)] := by rfl) : PE X (.Call (.Name "list" p) [.Call (.Name "range" p2) [a] [] pos2] [] pos) (tListR ta) := by
  intro pins s σ H Q I h
  refine Call_ (ld_blt I hg hm b_list (PyProof.Rows.callWith_type1 ?_ he rfl))
  rw [he]
  show wpAny _ _ (spliced ((false, eval (.Call (.Name "range" p2) [a] [] pos2) X.env) :: [])) _ _ s
  refine Calls.spliced_cons ?_
  refine Call_ (ld_blt I hg2 hm2 boot_range (PyProof.Rows.callWith_type1 (thn (ha pos2 pins s σ H _ I h) fun us s1 ⟨vs, H1, I1, r1, q1⟩ => ?_) hs rfl))
  obtain ⟨n, e, hn, q⟩ := q1
  subst e
  cases r1 with
  | cons r rr =>
    cases rr
    obtain ⟨t, rfl⟩ := r
    refine call_range_1 (Calls.spliced_nil ?_)
    have I2 : Inv X pins σ H1 { s1 with heap := s1.heap.push { cls := .type "range", data := .fields #[.int 0 s1.toks, .int (n : Int) t, .int 1 (s1.toks + 1)] }, toks := s1.toks + 1 + 1 } := I1.kept fun b o e => Heap.get?_push_of_some _ e
    refine call_list_range (n := n) (I1.ok.hd hc) (IsRange.new ..) (small_one (by decide) (by decide) (by omega) (by omega)) (by rw [rangeSize_one]; split <;> omega) (Nat.le_trans hn (by decide)) fun h' tk acc' c' kk hS hacc => ?_
    have hn' := I2.hok.fresh (Nat.le_refl (s1.heap.push { cls := .type "range", data := .fields #[.int 0 s1.toks, .int (n : Int) t, .int 1 (s1.toks + 1)] }).objs.size)
    have rv : Vals ((List.range n).map fun (i : Nat) => V.int (i : Int)) acc'.toList := paired_of (by have := hacc.1; simp; omega) fun i a b e1 e2 => by
      rw [List.getElem?_map] at e1
      obtain ⟨j, ej, rfl⟩ := Option.map_eq_some_iff.mp e1
      obtain ⟨hj, rfl⟩ := List.getElem?_eq_some_iff.mp ej
      obtain ⟨t', e4⟩ := hacc.2 i b (by simpa using e2)
      rw [List.getElem_range]
      exact ⟨t', by rw [e4]; simp⟩
    have I3 := I2.laid (t' := tk) (o := .lst ((List.range n).map fun (i : Nat) => V.int (i : Int))) kk (Nat.le_refl _) ⟨by simp; exact Nat.le_trans hn (by decide), acc'.toList, c', rv, by simpa using hS⟩
    exact ⟨.ref _, _, I3, rfl, q _ hn'⟩
def Itv (d : Addr) (o : Obj) (kvs : List (Key × V)) : It :=
  ⟨fun i H => H d = some (.frz o (.dK kvs)) ∧ i < kvs.length,
   fun i H v H' => H' = H ∧ ∃ k, kvs[i]? = some (k, v),
   fun i H => H d = some (.frz o (.dK kvs)) ∧ kvs.length ≤ i⟩
def iVals (te : TE) : TI := fun σ H R => te σ H fun x H1 => ∃ d o kvs, x = .ref d ∧ H1 d = some (.frz o (.dK kvs)) ∧ R (Itv d o kvs) H1
def tClear (H0 : Hp) (te : TE) : TE := fun σ H Q => te σ H fun x H1 => ∃ d o kvs, x = .ref d ∧ H1 d = some (.frz o (.dK kvs)) ∧ H0 d = none ∧ Q .non (upd H1 d (.dK []))
end
end Ty

set_option maxHeartbeats 4000000
namespace Ty
open PySem PySem.Spec PyProof.Rows L2
section
variable {X : Cx}
def tRev (K : PySem.W.Frag) (te ts : TE) : TE := fun σ H Q => te σ H fun x H1 => ts σ H1 fun y H2 => y = .int (-1) ∧ ∃ l xs, x = .ref l ∧ SqL K H2 l xs ∧ ∀ p, H2 p = none → Q (.ref p) (upd H2 p (.lst xs.reverse))
def rLenD : List V → Hp → VK → Prop := fun xs H Q => ∃ (p : Addr) (kvs : List (Key × V)), xs = [.ref p] ∧ Rd H p (.dK kvs) ∧ Q (.int (kvs.length : Int)) H
end
section
variable {D : Addr} {te : TE} {cap : L2.St} {H1 : Hp} {Q : VK}
end
end Ty

set_option maxHeartbeats 4000000
namespace Ty
open PySem PySem.Spec PyProof.Rows L2

def BMain (mg : Str → Option Value) (h : Heap) : Prop := ∃ bm ob, mg "__builtins__" = some (.ref bm) ∧ bm ≠ builtinsNs ∧ h.get? bm = some ob ∧ ob.cls = .type "module" ∧ ob.dict = some builtinsNs ∧ ob.data = .plain
def restOf (h : Heap) (L : Addr) : List (Addr × Obj) := (List.range h.objs.size).filterMap fun a => if a = L then none else (h.get? a).map fun o => (a, o)
theorem mem_restOf {h : Heap} {L b : Addr} {o : Obj} (e : h.get? b = some o) (n : b ≠ L) : (b, o) ∈ restOf h L := List.mem_filterMap.mpr ⟨b, List.mem_range.mpr (Heap.lt_size e), by rw [if_neg n, e]; rfl⟩
def noHeap : Heap := { objs := #[] }
theorem noHeap_get (b : Addr) : noHeap.get? b = none := by
  cases h : noHeap.get? b with
  | none => rfl
  | some o => exact absurd (Heap.lt_size h) (Nat.not_lt_zero _)
theorem restOf_news {h : Heap} {L : Addr} : News noHeap L h (restOf h L) := fun p hp => by
  obtain ⟨a, _, e⟩ := List.mem_filterMap.mp hp
  by_cases z : a = L
  · rw [if_pos z] at e
    cases e
  · rw [if_neg z] at e
    obtain ⟨o, eo, rfl⟩ := Option.map_eq_some_iff.mp e
    exact ⟨eo, z, noHeap_get _⟩
theorem fr_none {h : Heap} {L : Addr} {m : Str → Option Value} (hn : h.Ns L m) : Fr noHeap L h m := ⟨hn, (fun b o e => by rw [noHeap_get] at e; cases e), Nat.zero_le _⟩
def codeO (q : Str) (c : Addr) : HO := .ext fun h => h.CodeRec (.ref c) q
theorem codeO_ok {P : Program} {w : World} {H : Hp} {h : Heap} {q : Str} {c : Addr} (x : h.CodeRec (.ref c) q) : ObjOk P w H h c (codeO q c) := by
  obtain ⟨c', o, vs, t, e, g, r⟩ := id x
  cases e
  refine ⟨x, ⟨o, g⟩, fun h1 h2 k s => ?_⟩
  obtain ⟨c', o, vs, t, e, g, r⟩ := k
  cases e
  exact ⟨_, o, vs, t, rfl, s o g, r⟩
def TblOk (H : Hp) (P : Addr) (pos : Pos) (q : Str) : Prop := H P = some (.tbl #[]) ∨ ∃ c, H P = some (.tbl #[rawInt pos.line, rawInt pos.col, .ref c]) ∧ H c = some (codeO q c)
section
variable {X : Cx}
theorem Inv.globs {pins : List (Addr × Obj)} {σ : L2.St} {H : Hp} {s : Shared} (I : Inv X pins σ H s) : s.heap.Ns mainGlobals X.mg := I.mod.glob.keeps I.bk
theorem make_lam {pins : List (Addr × Obj)} {σ : L2.St} {H : Hp} {s : Shared} {Q : Value → Shared → Prop} {E : Value → Shared → Prop} {params : Arguments} {body : Expr} {scope : Scope} {pos : Pos} {cA P : Addr} {clos : List (Str × Addr)}
    (I : Inv X pins σ H s) (hdef : defaultsOf params X.env = ([], [])) (hcl : closureFor scope X.env = pure clos) (hcode : X.env.code = .ref cA) (hC : PySem.W.codeHdIn X.K cA P = true) (hB : BMain X.mg X.base) (hT : TblOk H P pos (X.env.qual ++ "<lambda>"))
    (h : ∀ (f c : Addr) (pm ctv : Value) (H' : Hp) (s' : Shared), Inv X pins σ H' s' → (∀ b o, b ≠ P → H b = some o → H' b = some o) → (∀ b, H b = none → s.heap.objs.size ≤ b ∨ H' b = none) → TblOk H' P pos (X.env.qual ++ "<lambda>") →
      (∀ b o, b ≠ P → s.heap.get? b = some o → s'.heap.get? b = some o) → s'.heap.get? f = some (PySem.W.kla_obj "<lambda>" (X.env.qual ++ "<lambda>") params body scope clos pm c ctv) → H' f = none → s'.heap.CodeRec (.ref c) (X.env.qual ++ "<lambda>") → Q (.ref f) s') :
    wpAny (model X.prog X.w) X.A (eval (.Lambda params body scope pos) X.env) Q E s := by
  have hC' : PySem.W.CodeHd s.heap cA P := PySem.W.codeHd_of_K I.kIn hC
  obtain ⟨bm, ob, b1, b2, b3, b4, b5, b6⟩ := hB
  have b3' := I.bk _ _ b3
  have hns := Inv.globs I
  have gd : ∀ {b : Addr} {m : Str → Option Value} {ps : Array Value}, s.heap.Ns b m → s.heap.get? b ≠ some (PySem.W.tabObj ps) := fun {b m ps} ⟨o, es, ep, e, d, _⟩ z => by
    rw [e] at z
    cases z
    cases d
  have n1 : bm ≠ mainGlobals := fun z => by
    obtain ⟨o, es, ep, e, d, _⟩ := hns
    rw [z, e] at b3'
    cases b3'
    rw [d] at b6
    cases b6
  have build : ∀ ps : Array Value, s.heap.get? P = some (PySem.W.tabObj ps) → s.heap.BuiltinsAt X.mg P := fun ps hP => by
    have n2 : bm ≠ P := fun z => by
      rw [z, hP] at b3'
      cases b3'
      cases b4
    exact ⟨bm, ob, b1, b2, n1, n2, b3', b4, b5, b6⟩
  have hPok : ∀ ps, H P = some (.tbl ps) → s.heap.get? P = some (PySem.W.tabObj ps) := fun ps e => I.hok P _ e
  refine PySem.W.kla_eval hdef ?_
  rcases hT with hT | ⟨c, hT, hc⟩
  · have hP := hPok _ hT
    refine PySem.W.kla_makeFunction (mg := X.mg) hcl I.ok.glob hns hcode hC' hP (by trivial) rfl (fun z => gd (z ▸ hns) hP) (build _ hP) fun c' ctv h' tk hx hge hlt hrec htb => ?_
    have htb' : h'.get? P = some (PySem.W.tabObj #[rawInt pos.line, rawInt pos.col, .ref c']) := by simpa using htb
    have nP : ∀ b, H b = none → b ≠ P := fun b n z => by rw [z, hT] at n; cases n
    have lP : P < s.heap.objs.size := Heap.lt_size hP
    have cP : c' ≠ P := Nat.ne_of_gt (Nat.lt_of_lt_of_le lP hge)
    have Hc : H c' = none := I.hok.fresh hge
    have sz : s.heap.objs.size ≤ h'.objs.size := Nat.le_trans hge (Nat.le_of_lt hlt)
    have kk : ∀ b o, b ≠ P → s.heap.get? b = some o → (h'.push (PySem.W.kla_obj "<lambda>" (X.env.qual ++ "<lambda>") params body scope clos ((X.mg "__name__").getD .none) c' ctv)).get? b = some o := fun b o n e => Heap.get?_push_of_some _ (hx b o n e)
    have up : ∀ b o, b ≠ P → H b = some o → upd (upd H P (.tbl #[rawInt pos.line, rawInt pos.col, .ref c'])) c' (codeO (X.env.qual ++ "<lambda>") c') b = some o := fun b o n e => by
      rw [upd_ne (fun z => by rw [z, Hc] at e; cases e), upd_ne n]
      exact e
    have st : ∀ {b u}, b ≠ P → ObjOk X.prog X.w H s.heap b u → ObjOk X.prog X.w (upd (upd H P (.tbl #[rawInt pos.line, rawInt pos.col, .ref c'])) c' (codeO (X.env.qual ++ "<lambda>") c')) (h'.push (PySem.W.kla_obj "<lambda>" (X.env.qual ++ "<lambda>") params body scope clos ((X.mg "__name__").getD .none) c' ctv)) b u := fun {b u} nb k => k.stay (fun d v hd e => kk d v (fun z => by
        rcases hd with y | y
        · exact nb (y ▸ z)
        · rw [z, hT] at y; cases y) e) (fun d e => up d _ (fun z => by rw [z, hT] at e; cases e) e) fun d xs e => up d _ (fun z => by rw [z, hT] at e; cases e) e
    have I2 : Inv X pins σ (upd (upd H P (.tbl #[rawInt pos.line, rawInt pos.col, .ref c'])) c' (codeO (X.env.qual ++ "<lambda>") c')) { s with heap := h'.push (PySem.W.kla_obj "<lambda>" (X.env.qual ++ "<lambda>") params body scope clos ((X.mg "__name__").getD .none) c' ctv), gens := s.gens, drawn := s.drawn, toks := tk } := by
      refine I.step (ch := []) (fun _ z => nomatch z) (fun b o _ _ _ e n => kk b o (nP b n) e) (fun b o _ _ _ e n => ⟨o.slots, kk b o (nP b n) e⟩) (fun b o _ e n => ?_) (fun b o _ e => ?_) (fun b xs e => up b _ (fun z => by rw [z, hT] at e; cases e) e) (fun b o u e => up b _ (fun z => by rw [z, hT] at e; cases e) e) (fun b ps e => ?_) (fun m hm => ?_) (fun b u e => ?_) I.bare
      · rw [upd_ne (fun z => by rw [z] at e; exact absurd (Heap.lt_size e) (Nat.not_lt.mpr hge)), upd_ne (nP b n)]
        exact n
      · by_cases z : b = P
        · rw [z]
          exact ⟨_, Heap.get?_push_of_some _ htb'⟩
        · exact ⟨o, kk b o z e⟩
      · by_cases z : b = P
        · subst z
          rw [hT] at e
          cases e
          exact ⟨#[rawInt pos.line, rawInt pos.col, .ref c'], by rw [upd_ne (Ne.symm cP), upd_same]; rfl⟩
        · exact ⟨#[], by rw [up b _ z e]; simp⟩
      · obtain ⟨o, es, ep, e, r⟩ := hm
        exact ⟨o, es, ep, kk _ _ (nP _ I.free) e, r⟩
      · by_cases z : b = c'
        · subst z
          rw [upd_same] at e
          cases e
          exact codeO_ok (hrec.push _)
        · rw [upd_ne z] at e
          by_cases y : b = P
          · subst y
            rw [upd_same] at e
            cases e
            exact (show _ = _ from Heap.get?_push_of_some _ htb')
          · rw [upd_ne y] at e
            exact st y (I.hok b u e)
    refine h h'.objs.size c' _ ctv _ _ I2 up (fun b n => ?_) (.inr ⟨c', by rw [upd_ne (Ne.symm cP), upd_same], upd_same⟩) kk (Heap.get?_push_size _ rfl) ?_ (hrec.push _)
    · by_cases z : b = c'
      · exact .inl (by rw [z]; exact hge)
      · exact .inr (by rw [upd_ne z, upd_ne (nP b n)]; exact n)
    · rw [upd_ne (Nat.ne_of_gt hlt), upd_ne (Nat.ne_of_gt (Nat.lt_of_lt_of_le lP sz))]
      exact I.hok.fresh sz
  · have hP := hPok _ hT
    have hrec : s.heap.CodeRec (.ref c) (X.env.qual ++ "<lambda>") := (I.hok c _ hc).1
    refine PySem.W.kla_makeFunctionHit (mg := X.mg) (cv := .ref c) hcl I.ok.glob hns hcode hC' hP (by trivial) (by simp [codeAmong, rawInt]) (build _ hP) fun ctv h' tk hk hsz => ?_
    have kk : ∀ b o, s.heap.get? b = some o → (h'.push { cls := .type "function", data := .func (PySem.W.kla_fn "<lambda>" (X.env.qual ++ "<lambda>") params body scope clos ((X.mg "__name__").getD .none) (.ref c) ctv) }).get? b = some o := fun b o e => Heap.get?_push_of_some _ (hk b o e)
    exact h h'.objs.size c _ ctv H _ (I.kept (t' := tk) kk) (fun b o _ e => e) (fun b n => .inr n) (.inr ⟨c, hT, hc⟩) (fun b o _ e => kk b o e) (Heap.get?_push_size _ rfl) (I.hok.fresh hsz) (hrec.keeps kk)
end
abbrev lamParams (ap : Pos) : Arguments := { posonlyargs := [], args := [{ arg := "place", annotation := none, pos := ap }], vararg := none, kwonlyargs := [], kw_defaults := [], kwarg := none, defaults := [] }
abbrev lamScope : Scope := { kind := .function, names := [(Str.ofString "place", .local), (Str.ofString "self", .free)], isGenerator := false, isCoroutine := false, more := [] }
abbrev lamBody (fld : Str) (p1 p2 p3 p4 : Pos) : Expr := .Subscript (.Attribute (.Name "self" p1) fld p2) (.Name "place" p3) p4
section
variable {prog : Program} {w : World} {A : Around} {s : Shared} {K : PySem.W.Frag} {f c cs a dx C ac : Addr} {q fld : Str} {ap p1 p2 p3 p4 : Pos} {pm ctv : Value} {mA : Str → Option Value} {items : List Value} {i k : Nat} {tv t : Tok} {key : Int}
theorem ns_keep {h h' : Heap} {b : Addr} {m : Str → Option Value} (x : h.Ns b m) (k : ∀ o, h.get? b = some o → h'.get? b = some o) : h'.Ns b m := by
  obtain ⟨o, es, ep, e, r⟩ := x
  exact ⟨o, es, ep, k _ e, r⟩
theorem lam_call (ho : s.heap.get? f = some (PySem.W.kla_obj "<lambda>" q (lamParams ap) (lamBody fld p1 p2 p3 p4) lamScope [(Str.ofString "self", cs)] pm c ctv)) (hrec : s.heap.CodeRec (.ref c) q) (hroom : A.depth < recursionLimit) (hlim : s.heap.NoLimit)
    (hcell : s.heap.IsCell cs (some (.ref a))) (KX : K.In s.heap) (O : ObjM s.heap a dx C mA) (cl : Cls K C) (na : NoAttr K C fld) (hm : mA fld = some (.ref ac)) (hl : s.heap.IsList ac items.toArray) (hz : items.length ≤ sizeLine) (hi : items[i]? = some (.int key t)) :
    wpAny (model prog w) A (call (.ref f) [.int (i : Int) tv]) (fun r s' => ∃ h' tk, s' = { s with heap := h', toks := tk } ∧ r = .int key t ∧ ∀ b o, s.heap.get? b = some o → h'.get? b = some o) (fun _ _ => False) s := by
  refine wpAny_call (PySem.W.kla_callFunE hroom ho rfl rfl rfl rfl hrec ?_)
  refine wpAny_pure ?_
  refine wpAny_newFunctionEnv (binds := [(Str.ofString "place", .int (i : Int) tv)]) (show ∀ x ∈ lamScope.names, x.2 ≠ .cell by decide) (fun x hx => by
    rw [List.mem_singleton.mp hx]
    rfl) (fun h₁ hns hsb => ?_) rfl
  have kk : ∀ b o, s.heap.get? b = some o → h₁.get? b = some o := fun b o e => hsb.extBut b o (Nat.ne_of_lt (Heap.lt_size e)) (Heap.get?_push_of_some _ e)
  refine ⟨hlim.fresh _ hsb, ?_⟩
  refine PySem.W.kla_codeExpr ?_
  have hcell' : h₁.IsCell cs (some (.ref a)) := let ⟨o, e, d⟩ := hcell; ⟨o, kk _ _ e, d⟩
  have KX' : K.In h₁ := fun b o e => kk _ _ (KX b o e)
  have O' : ObjM h₁ a dx C mA := ⟨kk _ _ O.obj, (let ⟨o, es, ep, e, r⟩ := O.ns; ⟨o, es, ep, kk _ _ e, r⟩), O.ne⟩
  have hl' : h₁.IsList ac items.toArray := hl.at fun o e => kk _ _ e
  refine Subscript_ ?_
  refine attr_of (by rfl) ?_
  refine wpAny_Name (wpAny_loadName_free rfl rfl rfl hcell' ?_) (by decide)
  refine get_map KX' O' (cl.get fld) cl.hd na hm (by rfl) ?_
  refine wpAny_Name (wpAny_loadName_local rfl rfl hns rfl ?_) (by decide)
  have hil : i < items.length := (List.getElem?_eq_some_iff.mp hi).1
  have l63 := line63
  refine item_listR (x := .int key t) hl' (by omega) (by omega) (by rw [Int.toNat_natCast]; simpa using hi) ?_ (by with_unfolding_all rfl)
  exact ⟨_, _, rfl, rfl, kk⟩
end
theorem ns_one {h : Heap} {b : Addr} {m m' : Str → Option Value} (x : h.Ns b m) (y : h.Ns b m') : m = m' := by
  obtain ⟨o, es, ep, e, d, r⟩ := x
  obtain ⟨o', es', ep', e', d', r'⟩ := y
  rw [e] at e'
  cases e'
  rw [d] at d'
  cases d'
  funext z
  have a := r.2
  have b := r'.2
  first
  | exact (a z).symm.trans (b z)
  | exact (a.2 z).symm.trans (b.2 z)
theorem clos_self {env : Env} {c : Addr} (h : env.cells.lookup (Str.ofString "self") = some c) : closureFor lamScope env = pure [(Str.ofString "self", c)] := by
  unfold closureFor
  simp [cellOf, h]
def intOf : Value → Int
  | .int c _ => c
  | _ => 0
section
variable {X : Cx}
def tSortB (K : PySem.W.Frag) (P : Addr) (si : Nat) (fld : Str) (lp : Pos) (qual : Str) (σ : L2.St) (Q : VK) (x : V) (H1 : Hp) : Prop := ∃ (l a C dx ac : Addr) (cs : List Nat) (ks : List Int) (fs : List (Str × V)) (xs : List V),
  x = .ref l ∧ SqL K H1 l (cs.map fun (c : Nat) => V.int (c : Int)) ∧ cs.length < 64 ∧ σ[si]? = some (some (.ref a)) ∧ H1 a = some (.ins C dx fs) ∧ Cls K C ∧ NoAttr K C fld ∧ fs.lookup fld = some (.ref ac) ∧ SqL K H1 ac xs ∧ ks.length = cs.length ∧
  (∀ (i c : Nat) (k : Int), cs[i]? = some c → ks[i]? = some k → xs[c]? = some (.int k)) ∧ TblOk H1 P lp (qual ++ "<lambda>") ∧
  ∀ (l' : Addr) (ms : List (Int × Int)) (H2 : Hp), (∀ b o, b ≠ P → H1 b = some o → H2 b = some o) → TblOk H2 P lp (qual ++ "<lambda>") → H1 l' = none → ms.Perm (ks.zip (cs.map fun (c : Nat) => (c : Int))) → ms.Pairwise (fun p q => p.1 ≤ q.1) → H2 l' = some (.lst (ms.map fun p => V.int p.2)) → Q (.ref l') H2
def tSortL (K : PySem.W.Frag) (P : Addr) (si : Nat) (fld : Str) (lp : Pos) (qual : Str) (te : TE) : TE := fun σ H Q => te σ H fun x H1 => tSortB K P si fld lp qual σ Q x H1
theorem pe_sortL {e : Expr} {te : TE} {cA P : Addr} {si : Nat} {fld : Str} {p pos kp lp ap p1 p2 p3 p4 : Pos} (hg : Gl X "sorted") (hm : X.mg "sorted" = none) (he : PE X e te) (hN : X.N[si]? = some "self") (hk : X.env.kindOf "self" = some .cell) (hv : Vis X.env.scope "self") (hcode : X.env.code = .ref cA) (hC : PySem.W.codeHdIn X.K cA P = true) (hB : BMain X.mg X.base) (hroom : X.A.in1.in1.depth < recursionLimit)
    (hs : starEach [e] X.env = [(false, eval e X.env)] := by rfl) (hbk : ∀ x : Sem Value, backTo pos [(false, x)] = [(false, x)] := by intro _; rfl) :
    PE X (.Call (.Name "sorted" p) [e] [⟨some "key", .Lambda (lamParams ap) (lamBody fld p1 p2 p3 p4) lamScope lp, kp⟩] pos) (tSortL X.K P si fld lp X.env.qual te) := by
  intro pins s σ H Q I h
  refine wpAny_Call_Name_kw (ld_blt I hg hm b_sorted ?_)
  refine callWith_kw ?_ (by rw [hs]; exact hbk _) (by rw [hs, hbk]; rfl) rfl rfl
  refine thn (pa_cons he pa_nil (by rw [hs]; rfl) pos pins s σ H (fun vs H1 => match vs with | [x] => tSortB X.K P si fld lp X.env.qual σ Q x H1 | _ => False) I h) fun us s1 ⟨vs, H1, I1, r1, q1⟩ => ?_
  cases r1 with
  | nil => exact q1.elim
  | cons rx rr =>
    cases rr with
    | cons _ _ => exact q1.elim
    | nil =>
    obtain ⟨l, a, C, dx, ac, cs, ks, fs, xs, rfl, hl, h64, hself, ha, cl, na, hf, hac, hlen, hkey, hT, q⟩ := q1
    cases rx
    obtain ⟨m, hn, hloc⟩ := I1.loc
    obtain ⟨u, ru, lk⟩ := hloc si _ _ hN hself hv
    cases ru
    obtain ⟨cc, hcc, hcell⟩ : ∃ c, X.env.cells.lookup (Str.ofString "self") = some c ∧ s1.heap.IsCell c (some (.ref a)) := by
      rcases lk with ⟨k1, _⟩ | ⟨_, z⟩
      · rw [hk] at k1
        cases k1
      · exact z
    refine kws_cons (make_lam (P := P) (cA := cA) I1 rfl (clos_self hcc) hcode hC hB hT fun f c pm ctv H2 s2 I2 kH fH hT2 kk hfo hf2 hrec => ?_)
    refine kws_nil ?_
    show wpAny _ _ (call (.builtin "sorted") [.ref l] [(Str.ofString "key", .ref f)]) _ _ s2
    have nL : ∀ {b : Addr} {u : HO}, H2 b = some u → b ≠ X.env.locals := fun {b u} e z => by
      rw [z, I2.free] at e
      cases e
    have nP : ∀ {b : Addr} {u : HO}, H1 b = some u → (∀ ps, u ≠ .tbl ps) → b ≠ P := fun {b u} e n z => by
      rw [z] at e
      rcases hT with y | ⟨c', y, _⟩ <;> (rw [y] at e; cases e; exact n _ rfl)
    have hlP : ∀ {b : Addr} {ys : List V}, SqL X.K H1 b ys → SqL X.K H2 b ys := fun {b ys} y => by
      rcases y with (y | ⟨o, y⟩) | y
      · exact .inl (.inl (kH _ _ (nP y fun _ z => nomatch z) y))
      · exact .inl (.inr ⟨o, kH _ _ (nP y fun _ z => nomatch z) y⟩)
      · exact .inr y
    have ha2 := kH _ _ (nP ha fun _ z => nomatch z) ha
    obtain ⟨its, rv, pl, hz⟩ := I2.list (hlP hl)
    obtain ⟨its2, rv2, pl2, hz2⟩ := I2.list (hlP hac)
    have lv := rv.length
    rw [List.length_map] at lv
    have lv2 := rv2.length
    obtain ⟨mA, O, rO, _⟩ := ins_get I2.hok ha2
    have hmA : mA fld = some (.ref ac) := by
      obtain ⟨u, hu, ru⟩ := RelO.some_of (v := .ref ac) (o := mA fld) (by rw [← hf]; exact rO fld)
      cases ru
      exact hu
    obtain ⟨m2, hn2, _⟩ := I2.loc
    have tP : ∃ ps, s1.heap.get? P = some (PySem.W.tabObj ps) := by
      rcases hT with y | ⟨c', y, _⟩
      · exact ⟨_, I1.hok P _ y⟩
      · exact ⟨_, I1.hok P _ y⟩
    have hcell2 : s2.heap.IsCell cc (some (.ref a)) := by
      obtain ⟨o, e, d⟩ := hcell
      refine ⟨o, kk _ _ (fun z => ?_) e, d⟩
      obtain ⟨ps, e2⟩ := tP
      rw [z, e2] at e
      cases e
      cases d
    have cL : cc ≠ X.env.locals := I2.cne _ _ hcc
    have bL : ∀ {b : Addr} {o : Obj}, X.base.get? b = some o → b ≠ X.env.locals := fun {b o} e z => by
      have e1 := (I2.ok.bs b o e).1
      have := Heap.lt_size e1
      have := I2.ok.above
      rw [z] at *
      exact absurd (Nat.lt_of_lt_of_le ‹_› ‹_›) (Nat.lt_irrefl _)
    have fL : f ≠ X.env.locals := fun z => by
      obtain ⟨o, es, ep, e, d, _⟩ := hn2
      rw [← z, hfo] at e
      cases e
      cases d
    have crL : c ≠ X.env.locals := fun z => by
      obtain ⟨o, es, ep, e, d, _⟩ := hn2
      obtain ⟨c', o', vs', t', e1, e2, e3, _⟩ := hrec
      cases e1
      rw [z, e] at e2
      cases e2
      rw [d] at e3
      cases e3
    have stL : cStatics ≠ X.env.locals := by
      obtain ⟨mc, ⟨o, es, ep, e, _⟩, _⟩ := I2.mod.nolimit
      exact bL e
    refine ksk_sorted (b := false) (kz := ks) (f := .ref f) (fr_none hn2) (restOf_news (h := s2.heap)) pl.isList (by omega) (by omega) (ksk_s1 _ _) (fun x => ksk_l1 _ _) (fun x => ksk_t1 _ _) (fun i v k ei ek h tk own F N => ?_) fun D h' tk out c0 F' N' lt ko => ?_
    · have get : ∀ {b : Addr} {o : Obj}, s2.heap.get? b = some o → b ≠ X.env.locals → h.get? b = some o := fun {b o} e n => (N _ (List.mem_append_left _ (mem_restOf e n))).1
      have hi : i < its.length := (List.getElem?_eq_some_iff.mp ei).1
      obtain ⟨cN, ec⟩ : ∃ cN, cs[i]? = some cN := ⟨_, List.getElem?_eq_getElem (by omega)⟩
      obtain ⟨v', ev', rv'⟩ := rv.get (show (cs.map fun (c : Nat) => V.int (c : Int))[i]? = some (.int (cN : Int)) by rw [List.getElem?_map, ec]; rfl)
      rw [ei] at ev'
      cases ev'
      obtain ⟨tv, rfl⟩ := rv'
      obtain ⟨w2, ew2, rw2⟩ := rv2.get (hkey i cN k ec ek)
      obtain ⟨t2, rfl⟩ := rw2
      have aL := nL ha2
      have dL : dx ≠ X.env.locals := fun z => by
        have := (I2.hok a _ ha2).1
        rw [z, I2.free] at this
        cases this
      have hpl2 : h.IsList ac its2.toArray := pl2.isList.at fun o e => get e (fun z => by
        obtain ⟨o', es, ep, e', d, _⟩ := hn2
        obtain ⟨o2, e2, _, n2, d2⟩ := pl2.isList
        rw [z, e'] at e2
        cases e2
        rw [d] at d2
        cases d2)
      refine thn (E := fun _ _ => False) (lam_call (s := { s2 with heap := h, toks := tk }) (K := X.K) (mA := mA) (get hfo fL) (by
        obtain ⟨c', o', vs', t', e1, e2, e3⟩ := hrec
        cases e1
        exact ⟨_, o', vs', t', rfl, get e2 crL, e3⟩) hroom (by
        obtain ⟨mc, n1, n2⟩ := I2.nolimit
        exact ⟨mc, ns_keep n1 fun o e => get e stL, n2⟩) (by
        obtain ⟨o, e, d⟩ := hcell2
        exact ⟨o, get e cL, d⟩) (fun b o e => get (I2.kIn b o e) (bL (I2.mod.kin b o e))) ⟨get O.obj aL, (let ⟨o, es, ep, e, r⟩ := O.ns; ⟨o, es, ep, get e dL, r⟩), O.ne⟩ cl na hmA hpl2 (by omega) ew2) fun r s' ⟨h2, tk2, e1, e2, k2⟩ => ?_
      subst e1 e2
      exact ⟨h2, tk2, t2, rfl, rfl, fr_none (ns_keep F.ns fun o e => k2 _ _ e), fun p hp => ⟨k2 _ _ (N p hp).1, (N p hp).2⟩⟩
    · have get : ∀ {b : Addr} {o : Obj}, s2.heap.get? b = some o → b ≠ X.env.locals → h'.get? b = some o := fun {b o} e n => (N' _ (.tail _ (mem_restOf e n))).1
      obtain ⟨gD, DL, _⟩ := N' _ (.head _)
      have nD : ∀ {b : Addr} {o : Obj}, s2.heap.get? b = some o → b ≠ D := fun {b o} e z => by
        by_cases y : b = X.env.locals
        · exact DL (z ▸ y)
        · exact absurd (lt _ (mem_restOf e y)) (by rw [z]; exact Nat.lt_irrefl _)
      have HD : H2 D = none := by
        cases y : H2 D with
        | none => rfl
        | some u =>
          obtain ⟨o, e⟩ := obj_some (I2.hok D _ y)
          exact absurd rfl (nD e)
      have upD : ∀ b o, H2 b = some o → upd H2 D (.lst (out.toList.map fun u => V.int (intOf u))) b = some o := fun b o e => by
        rw [upd_ne (fun z => by rw [z, HD] at e; cases e)]
        exact e
      obtain ⟨ps, pp, po, pw⟩ := ko
      have isI : ∀ u ∈ its, ∃ t, u = .int (intOf u) t := fun u hu => by
        obtain ⟨i, ei⟩ := List.getElem?_of_mem hu
        have hi : i < its.length := (List.getElem?_eq_some_iff.mp ei).1
        obtain ⟨cN, ec⟩ : ∃ cN, cs[i]? = some cN := ⟨_, List.getElem?_eq_getElem (by omega)⟩
        obtain ⟨v', ev', rv'⟩ := rv.get (show (cs.map fun (c : Nat) => V.int (c : Int))[i]? = some (.int (cN : Int)) by rw [List.getElem?_map, ec]; rfl)
        rw [ei] at ev'
        cases ev'
        obtain ⟨tv, rfl⟩ := rv'
        exact ⟨tv, rfl⟩
      have itsC : its.map intOf = cs.map fun (c : Nat) => (c : Int) := by
        refine List.ext_getElem? fun i => ?_
        rw [List.getElem?_map, List.getElem?_map]
        by_cases hi : i < its.length
        · obtain ⟨cN, ec⟩ : ∃ cN, cs[i]? = some cN := ⟨_, List.getElem?_eq_getElem (by omega)⟩
          obtain ⟨v', ev', rv'⟩ := rv.get (show (cs.map fun (c : Nat) => V.int (c : Int))[i]? = some (.int (cN : Int)) by rw [List.getElem?_map, ec]; rfl)
          obtain ⟨tv, rfl⟩ := rv'
          rw [ev', ec]
          rfl
        · rw [List.getElem?_eq_none (by omega), List.getElem?_eq_none (by omega)]
          rfl
      have pm2 : (ps.map fun p => (p.1, intOf p.2)).Perm (ks.zip (cs.map fun (c : Nat) => (c : Int))) := by
        have := pp.map (fun p : Int × Value => (p.1, intOf p.2))
        rw [← itsC, List.zip_map_right]
        exact this
      have memI : ∀ p ∈ ps, p.2 ∈ its := fun p hp => (List.of_mem_zip (pp.mem_iff.mp hp)).2
      have outE : out.toList.map (fun u => V.int (intOf u)) = (ps.map fun p => (p.1, intOf p.2)).map fun p => V.int p.2 := by
        rw [po, List.map_map, List.map_map]
        rfl
      have rvO : Vals (out.toList.map fun u => V.int (intOf u)) out.toList := paired_of (by simp) fun i x u e1 e2 => by
        rw [List.getElem?_map, e2] at e1
        cases e1
        have hu : u ∈ out.toList := List.mem_of_getElem? e2
        rw [po] at hu
        obtain ⟨p, hp, rfl⟩ := List.mem_map.mp hu
        obtain ⟨t, e⟩ := isI _ (memI p hp)
        exact ⟨t, e⟩
      have lo : out.toList.length < 64 := by
        have h1 := pp.length_eq
        rw [po, List.length_map, h1, List.length_zip]
        omega
      have I3 : Inv X pins σ (upd H2 D (.lst (out.toList.map fun u => V.int (intOf u)))) { s2 with heap := h', gens := s2.gens, drawn := s2.drawn, toks := tk } := by
        refine I2.step (ch := []) (fun _ z => nomatch z) (fun b o n _ _ e _ => get e n) (fun b o n _ _ e _ => ⟨o.slots, get e n⟩) (fun b o _ e n => by rw [upd_ne (nD e)]; exact n) (fun b o _ e => ?_) (fun b xs e => upD b _ e) (fun b o u e => upD b _ e) (fun b ps e => ⟨#[], by rw [upD b _ e]; simp⟩) (fun m' hm' => by rw [ns_one hm' hn2]; exact F'.ns) (fun b u e => ?_) I2.bare
        · by_cases z : b = X.env.locals
          · obtain ⟨o', _, _, e', _⟩ := F'.ns
            exact ⟨o', by rw [z]; exact e'⟩
          · exact ⟨o, get e z⟩
        · by_cases z : b = D
          · subst z
            rw [upd_same] at e
            cases e
            exact ⟨by rw [List.length_map]; exact Nat.le_trans (Nat.le_of_lt lo) (by decide), out.toList, c0, rvO, by simpa [seqObj] using gD⟩
          · rw [upd_ne z] at e
            refine (I2.hok b u e).stay (fun d v hd y => get y (fun x => ?_)) (fun d y => upD d _ y) fun d xs y => upD d _ y
            rcases hd with w | w
            · exact nL e (w ▸ x)
            · rw [x, I2.free] at w
              cases w
      refine ⟨.ref D, _, I3, rfl, q D (ps.map fun p => (p.1, intOf p.2)) _ (fun b o n e => upD b _ (kH b o n e)) ?_ ?_ pm2 ?_ (by rw [upd_same, outE])⟩
      · rcases hT2 with y | ⟨c', y, z⟩
        · exact .inl (upD _ _ y)
        · exact .inr ⟨c', upD _ _ y, upD _ _ z⟩
      · cases y : H1 D with
        | none => rfl
        | some u =>
          obtain ⟨o, e⟩ := obj_some (I1.hok D _ y)
          by_cases z : D = P
          · rcases hT2 with x | ⟨c', x, _⟩ <;> (rw [z, x] at HD; cases HD)
          · exact absurd rfl (nD (kk _ _ z e))
      · rw [List.pairwise_map]
        exact pw.imp fun h => by simpa using h
end
theorem law_callT {P : Program} {w : World} {K : PySem.W.Frag} {mg mb : Str → Option Value} {CX : CXT} {k : Nat} {fa a cA T : Addr} {fd : FuncData} {x : Str} {sp : Sp} {s₁ : Shared} {vs : List Value} {ns : List Int}
    (KX : K.In s₁.heap) (hns : s₁.heap.Ns mainGlobals mg) (hb : s₁.heap.Ns builtinsNs mb) (hbb : ∀ x : Str, x ≠ "__name__" → mb x = bootBuiltins x) (hlim : s₁.heap.NoLimit) (hsee : s₁.heap.NoSeer) (hbm : BMain mg s₁.heap) (hg : s₁.gens = #[])
    (hT : s₁.heap.get? T = some (PySem.W.tabObj #[])) (hcd : PySem.W.CodeHd s₁.heap cA T) (hKT : K.lookup T = none)
    (ha : s₁.heap.get? a = some { cls := .type "list", data := .seq vs.toArray }) (hi : IntsAre vs ns) (hl : ns.length ≤ sizeLine) (hr : Room k callerA)
    (F : ∀ base : Heap, K.In base → base.Ns mainGlobals mg → BMain mg base → FnOk P w K mg base CX k fa fd [x] sp) (hbind : ∀ (s : Shared) (u : Value), BindsTo s fd ⟨[u], []⟩ [(x, u)])
    (hsp : ∀ H : Hp, H T = some (.tbl #[]) → SqL K H a (ns.map V.int) → sp [.ref a] H (fun v _ => v = .bl true) fun _ _ _ => False)
    (hCX : ∀ H e s', CX [] H s₁ (fun _ _ _ => False) e s' → False) :
    codeAny (model P w) callerA (.call (.ref fa) ⟨[.ref a], []⟩) (fun r s' => r = .ok (.ret (.bool true)) ∧ OldK s₁.heap s'.heap ∧ s'.os = s₁.os ∧ AllBare s'.gens) s₁ := by
  have rv := L2.vals_ints hi
  have lenV := hi.length
  have aT : a ≠ T := fun z => by
    rw [z, hT] at ha
    cases ha
  have core : ∀ H : Hp, H T = some (.tbl #[]) → (∀ b, b ≠ T → H b = none ∨ ∃ o xs, H b = some (.frz o (.lst xs))) → SqL K H a (ns.map V.int) → HOk P w H s₁.heap → (∀ b, H b ≠ none → b = a ∨ b = T) → (H a ≠ none → K.lookup a = none) →
      codeAny (model P w) callerA (.call (.ref fa) ⟨[.ref a], []⟩) (fun r s' => r = .ok (.ret (.bool true)) ∧ OldK s₁.heap s'.heap ∧ s'.os = s₁.os ∧ AllBare s'.gens) s₁ := by
    intro H HT hO hS hok hA hK
    have base_of : ∀ {b : Addr} {o : Obj}, s₁.heap.get? b = some o → H b = none → (hidT s₁.heap H).get? b = some o := fun e n => hidT_get e n
    have noC : ∀ {b : Addr} {o : Obj}, s₁.heap.get? b = some o → (∀ xs n, o.data ≠ .seq xs n) → (∀ ps, o.data ≠ .fields ps) → H b = none := fun {b o} e d1 d2 => by
      cases q : H b with
      | none => rfl
      | some u =>
        rcases hA b (by rw [q]; simp) with e' | e'
        · subst e'
          rw [ha] at e
          cases e
          exact absurd rfl (d1 _ _)
        · subst e'
          rw [hT] at e
          cases e
          exact absurd rfl (d2 _)
    have nsK : ∀ {b : Addr} {m : Str → Option Value}, s₁.heap.Ns b m → (hidT s₁.heap H).Ns b m := fun {b m} ⟨o, es, ep, e, d, r⟩ => ⟨o, es, ep, base_of e (noC e (fun _ _ z => by rw [d] at z; cases z) (fun _ z => by rw [d] at z; cases z)), d, r⟩
    have hKb : K.In (hidT s₁.heap H) := fun b o e => base_of (KX b o e) (by
      cases q : H b with
      | none => rfl
      | some u =>
        rcases hA b (by rw [q]; simp) with e' | e'
        · subst e'
          rw [hK (by rw [q]; simp)] at e
          cases e
        · subst e'
          rw [hKT] at e
          cases e)
    have bmK : BMain mg (hidT s₁.heap H) := by
      obtain ⟨bm, ob, b1, b2, b3, b4, b5, b6⟩ := hbm
      exact ⟨bm, ob, b1, b2, base_of b3 (noC b3 (fun _ _ z => by rw [b6] at z; cases z) (fun _ z => by rw [b6] at z; cases z)), b4, b5, b6⟩
    have hM : Mod K mg (hidT s₁.heap H) := ⟨hKb, nsK hns, ⟨mb, nsK hb, hbb⟩, let ⟨mc, h1, h2⟩ := hlim; ⟨mc, nsK h1, h2⟩,
      ⟨let ⟨mc, h1, h2⟩ := hsee.statics; ⟨mc, nsK h1, h2⟩, let ⟨mc, h1, h2⟩ := hsee.mods; ⟨mc, nsK h1, h2⟩, let ⟨mc, h1, h2⟩ := hsee.imp; ⟨mc, nsK h1, h2⟩,
        (by
          obtain ⟨bm, ob, b1, b2, b3, b4, b5, b6⟩ := bmK
          exact ⟨mg, bm, ob, nsK hns, b1, b3, b4, b5⟩)⟩⟩
    have e0 : Env0 P w K mg (hidT s₁.heap H) callerA [] s₁ H := ⟨rfl, hM, fun b o e => of_hidT e, Nat.le_of_eq (hidT_size _ _), trivial, fun b hb => absurd (show b ∈ ([] : List Addr) from hb) (by simp), hok, .of_eq hg⟩
    refine codeAny_mono ((F _ hKb (nsK hns) bmK).run callerA [] s₁ H ⟨[.ref a], []⟩ [.ref a] [.ref a] _ _ hr e0 (hbind s₁ (.ref a)) (.cons rfl .nil) (hsp H HT hS)) fun r s' h => ?_
    cases r with
    | error e => exact (hCX H e s' h).elim
    | ok fl =>
      cases fl with
      | next => exact False.elim h
      | brk => exact False.elim h
      | cont => exact False.elim h
      | ret u =>
        obtain ⟨v, H', os, bare, un, hok', r', q⟩ := h
        have q' : v = .bl true := q
        subst q'
        obtain rfl : u = Value.bool true := r'
        have key : ∀ b o, s₁.heap.get? b = some o → b ≠ T → s'.heap.get? b = some o := fun b o e nT => by
          cases q : H b with
          | none => exact un.keep b o e q (by intro z; exact absurd (show b ∈ ([] : List Addr) from z) (by simp)) (by simp)
          | some u =>
            rcases hO b nT with z | ⟨ob, xs, z⟩
            · rw [q] at z; cases z
            · have z2 := un.frzs b ob _ z
              obtain ⟨e1, _⟩ := hok b _ z
              obtain ⟨e2, _⟩ := hok' b _ z2
              rw [e] at e1; cases e1
              exact e2
        obtain ⟨more, eT⟩ := un.tbls T #[] HT
        have gT : s'.heap.get? T = some { cls := .none, data := .fields (#[] ++ more) } := hok' T _ eT
        refine ⟨rfl, ⟨fun b o e => ?_, fun b o e => ?_⟩, os, bare⟩
        · by_cases z : b = T
          · subst z
            rw [hT] at e
            cases e
            exact .inr (.inl ⟨(hcd.tab hT).isCodeTable, rfl, #[], more, rfl, gT⟩)
          · exact .inl (key b o e z)
        · by_cases z : b = T
          · subst z
            exact ⟨_, gT⟩
          · exact ⟨o, key b o e z⟩
  have tOk : ∀ (H : Hp), ObjOk P w H s₁.heap T (.tbl #[]) := fun H => hT
  cases hk : K.lookup a with
  | some o =>
    have e := KX a o hk
    rw [ha] at e
    cases e
    refine core (fun b => if b = T then some (.tbl #[]) else none) (if_pos rfl) (fun b n => .inl (if_neg n)) (.inr ⟨_, vs.toArray, _, hk, rfl, rfl, rfl, by rw [List.size_toArray, lenV]; exact hl, by simpa using rv⟩) (fun b u z => ?_) (fun b z => ?_) fun z => absurd (if_neg aT) z
    · by_cases hb : b = T
      · have z' := (if_pos hb).symm.trans z
        cases z'
        subst hb
        exact tOk _
      · have z' := (if_neg hb).symm.trans z
        cases z'
    · by_cases hb : b = T
      · exact .inr hb
      · exact absurd (if_neg hb) z
  | none =>
    refine core (fun b => if b = T then some (.tbl #[]) else if b = a then some (.frz { cls := .type "list", data := .seq vs.toArray } (.lst (ns.map V.int))) else none) (if_pos rfl) (fun b n => ?_) (.inl (.inr ⟨{ cls := .type "list", data := .seq vs.toArray }, (if_neg aT).trans (if_pos rfl)⟩)) (fun b u z => ?_) (fun b z => ?_) fun _ => hk
    · by_cases hb : b = a
      · exact .inr ⟨_, _, (if_neg n).trans (if_pos hb)⟩
      · exact .inl ((if_neg n).trans (if_neg hb))
    · by_cases hb : b = T
      · have z' := (if_pos hb).symm.trans z
        cases z'
        subst hb
        exact tOk _
      · by_cases hb2 : b = a
        · have z' := ((if_neg hb).trans (if_pos hb2)).symm.trans z
          cases z'
          subst hb2
          exact ⟨ha, by rw [List.length_map]; exact hl, vs, _, rv, ha⟩
        · have z' := ((if_neg hb).trans (if_neg hb2)).symm.trans z
          cases z'
    · by_cases hb : b = T
      · exact .inr hb
      · by_cases hb2 : b = a
        · exact .inl hb2
        · exact absurd ((if_neg hb).trans (if_neg hb2)) z
def spLawT (K : PySem.W.Frag) (T : Addr) : Sp := fun vs H Q _ => ∃ (a : Addr) (ns : List Int), vs = [.ref a] ∧ SqL K H a (ns.map V.int) ∧ ns.length ≤ 63 ∧ (∀ i ∈ ns, Builtin.Int.intBits i ≤ 1048576) ∧ H T = some (.tbl #[]) ∧ ∀ H', Q (.bl true) H'
theorem walkT {l : PySem.W.OpenLaw} {q : Program} {loose : List Str} {XP : (Str → Option Value) → Heap → Prop} {YP : World → Heap → Prop} {d : DefRec} {K : Params → PySem.W.Frag} {CX : World → CXT} {x : Str} {k : Nat} {T : Addr}
    (hn : l.most = some 63) (hdf : d.params.defaults = []) (hi : importsNone q = true) (hr : Room k callerA)
    (hY : ∀ (w : World) (h : Heap), YP w h → (K w.params).In h ∧ h.get? T = some (PySem.W.tabObj #[])) (hm : ∀ w, Mute (CX w))
    (F : ∀ (w : World) (mg : Str → Option Value) (fa : Addr) (h : Heap), (K w.params).In h → h.Ns mainGlobals mg → mg d.name = some (.ref fa) →
      ∃ (cA : Addr) (fd : FuncData), PySem.W.codeHdIn (K w.params) cA T = true ∧ (K w.params).lookup T = none ∧ (∀ (s : Shared) (u : Value), BindsTo s fd ⟨[u], []⟩ [(x, u)]) ∧
        ∀ base : Heap, (K w.params).In base → base.Ns mainGlobals mg → BMain mg base → FnOk l.prog w (K w.params) mg base (CX w) k fa fd [x] (spLawT (K w.params) T)) :
    PySem.W.WalkO q loose XP YP l.row.toRowW d [] (fun f vs => PySem.call f vs) := by
  refine TyAtt.attach_bits hn hdf fun w s₀ s₁ mg mb fa o pm cd doc a vs ns G Y ho hd hcd hmg hobj hints hlen hb hg => ?_
  obtain ⟨KX, hT⟩ := hY w _ Y
  obtain ⟨cA, fd, hC, hKT, hbd, hF⟩ := F w mg fa _ KX G.T.g hmg
  exact law_callT KX G.T.g G.T.b G.T.builtins G.T.nolimit (G.T.seer hi) G.T.bmain hg hT (PySem.W.codeHd_of_K KX hC) hKT hobj hints (Nat.le_trans hlen (by decide)) hr hF hbd (fun H hHT hS => ⟨a, ns, rfl, hS, hlen, hb, hHT, fun _ => rfl⟩) fun H e s' => hm w [] H s₁ e s'
end Ty

set_option maxHeartbeats 4000000
namespace Px
open Ty (sumTo sumTo_add sumTo_mul sumTo_zero)
theorem sumC : ∀ (m : Nat) (f g : Nat → Rat), (∀ j, j < m → f j = g j) → sumTo m f = sumTo m g
  | 0, _, _, _ => rfl
  | m + 1, f, g, h => by
    simp only [Ty.sumTo]
    rw [h 0 (by omega), sumC m (fun i => f (i + 1)) (fun i => g (i + 1)) (fun j hj => h (j + 1) (by omega))]
theorem sumZ (m : Nat) (f : Nat → Rat) (h : ∀ j, j < m → f j = 0) : sumTo m f = 0 := by
  rw [sumC m f (fun _ => 0) h]
  exact sumTo_zero m _ fun _ => rfl
theorem sumS : ∀ (m : Nat) (f : Nat → Rat) (a : Nat), a < m → sumTo m f = f a + sumTo m (fun j => if j = a then 0 else f j)
  | 0, _, _, h => absurd h (Nat.not_lt_zero _)
  | m + 1, f, 0, _ => by
    show f 0 + sumTo m (fun i => f (i + 1)) = f 0 + ((if 0 = 0 then 0 else f 0) + sumTo m (fun i => if i + 1 = 0 then 0 else f (i + 1)))
    rw [if_pos rfl, sumC m (fun i => if i + 1 = 0 then 0 else f (i + 1)) (fun i => f (i + 1)) (fun j _ => if_neg (by omega))]
    grind
  | m + 1, f, a + 1, h => by
    show f 0 + sumTo m (fun i => f (i + 1)) = f (a + 1) + ((if 0 = a + 1 then 0 else f 0) + sumTo m (fun i => if i + 1 = a + 1 then 0 else f (i + 1)))
    rw [if_neg (by omega), sumS m (fun i => f (i + 1)) a (by omega), sumC m (fun i => if i + 1 = a + 1 then 0 else f (i + 1)) (fun i => if i = a then 0 else f (i + 1)) (fun j _ => by
      by_cases z : j = a
      · rw [if_pos z, if_pos (by omega)]
      · rw [if_neg z, if_neg (by omega)])]
    grind
theorem sum1 (m : Nat) (f : Nat → Rat) (a : Nat) (h : a < m) (z : ∀ j, j < m → j ≠ a → f j = 0) : sumTo m f = f a := by
  rw [sumS m f a h, sumZ m _ (fun j hj => by
    by_cases y : j = a
    · rw [if_pos y]
    · rw [if_neg y]; exact z j hj y)]
  grind
theorem sumX : ∀ (m n : Nat) (F : Nat → Nat → Rat), sumTo m (fun i => sumTo n (fun j => F i j)) = sumTo n (fun j => sumTo m (fun i => F i j))
  | 0, n, F => by
    simp only [Ty.sumTo]
    exact (sumTo_zero n _ fun _ => rfl).symm
  | m + 1, n, F => by
    simp only [Ty.sumTo]
    rw [sumX m n (fun i j => F (i + 1) j), ← sumTo_add]
theorem sumP : ∀ (m : Nat) (f : Nat → Rat), (∀ j, j < m → 0 ≤ f j) → 0 ≤ sumTo m f
  | 0, _, _ => by simp [Ty.sumTo]
  | m + 1, f, h => by
    simp only [Ty.sumTo]
    have a := h 0 (by omega)
    have b := sumP m (fun i => f (i + 1)) (fun j hj => h (j + 1) (by omega))
    grind
theorem sumN (m : Nat) (f : Nat → Rat) : sumTo m (fun j => -(f j)) = -(sumTo m f) := by
  have := sumTo_mul (-1) m f
  rw [sumC m (fun j => -(f j)) (fun j => (-1) * f j) (fun j _ => by grind), this]
  grind
theorem sum_pos (m : Nat) (f : Nat → Rat) (h : 0 < sumTo m f) : ∃ j, j < m ∧ 0 < f j := by
  apply Classical.byContradiction
  intro z
  have : 0 ≤ sumTo m (fun j => -(f j)) := sumP m _ fun j hj => by
    have : ¬ 0 < f j := fun y => z ⟨j, hj, y⟩
    grind
  rw [sumN] at this
  grind
def skip (j k : Nat) : Nat := if k < j then k else k + 1
def sgn (j : Nat) : Rat := if j % 2 = 0 then 1 else -1
theorem sgn_succ (j : Nat) : sgn (j + 1) = -(sgn j) := by
  unfold sgn
  by_cases h : j % 2 = 0
  · rw [if_pos h, if_neg (by omega)]
  · rw [if_neg h, if_pos (by omega)]
    grind
def det : Nat → (Nat → Nat → Rat) → Rat
  | 0, _ => 1
  | n + 1, M => sumTo (n + 1) (fun j => sgn j * M j 0 * det n (fun k i => M (skip j k) (i + 1)))
def put (M : Nat → Nat → Rat) (c : Nat) (v : Nat → Rat) : Nat → Nat → Rat := fun k i => if k = c then v i else M k i
theorem det_congr : ∀ (n : Nat) (M M' : Nat → Nat → Rat), (∀ k i, k < n → i < n → M k i = M' k i) → det n M = det n M'
  | 0, _, _, _ => rfl
  | n + 1, M, M', h => by
    unfold det
    refine sumC _ _ _ fun j hj => ?_
    rw [h j 0 hj (by omega), det_congr n (fun k i => M (skip j k) (i + 1)) (fun k i => M' (skip j k) (i + 1)) (fun k i hk hi => h _ _ (by unfold skip; split <;> omega) (by omega))]
def back (j c : Nat) : Nat := if c < j then c else c - 1
theorem skip_back {j c : Nat} (h : c ≠ j) : skip j (back j c) = c := by
  unfold skip back
  split <;> (try split) <;> omega
theorem skip_eq {j c k : Nat} (h : c ≠ j) : skip j k = c ↔ k = back j c := by
  unfold skip back
  split <;> (try split) <;> omega
theorem skip_ne (j k : Nat) : skip j k ≠ j := by
  unfold skip
  split <;> omega
theorem det_lin : ∀ (n : Nat) (M : Nat → Nat → Rat) (c : Nat) (u v : Nat → Rat) (t : Rat), c < n → det n (put M c (fun i => u i + t * v i)) = det n (put M c u) + t * det n (put M c v)
  | 0, _, _, _, _, _, h => absurd h (Nat.not_lt_zero _)
  | n + 1, M, c, u, v, t, h => by
    unfold det
    rw [← sumTo_mul, ← sumTo_add]
    refine sumC _ _ _ fun j hj => ?_
    by_cases z : j = c
    · subst z
      have e : ∀ w : Nat → Rat, det n (fun k i => put M j w (skip j k) (i + 1)) = det n (fun k i => M (skip j k) (i + 1)) := fun w => det_congr n _ _ fun k i _ _ => by
        unfold put
        rw [if_neg (skip_ne j k)]
      rw [e, e, e]
      unfold put
      rw [if_pos rfl, if_pos rfl, if_pos rfl]
      grind
    · have zc : c ≠ j := Ne.symm z
      have e : ∀ w : Nat → Rat, det n (fun k i => put M c w (skip j k) (i + 1)) = det n (put (fun k i => M (skip j k) (i + 1)) (back j c) (fun i => w (i + 1))) := fun w => det_congr n _ _ fun k i _ _ => by
        unfold put
        by_cases y : skip j k = c
        · rw [if_pos y, if_pos ((skip_eq zc).mp y)]
        · rw [if_neg y, if_neg (fun x => y ((skip_eq zc).mpr x))]
      have e0 : ∀ w : Nat → Rat, put M c w j 0 = M j 0 := fun w => if_neg z
      rw [e, e, e, e0, e0, e0, det_lin n (fun k i => M (skip j k) (i + 1)) (back j c) (fun i => u (i + 1)) (fun i => v (i + 1)) t (by unfold back; split <;> omega)]
      grind
theorem det_adj : ∀ (n : Nat) (M : Nat → Nat → Rat) (c : Nat), c + 1 < n → (∀ i, M c i = M (c + 1) i) → det n M = 0
  | 0, _, _, h, _ => absurd h (Nat.not_lt_zero _)
  | n + 1, M, c, h, e => by
    unfold det
    rw [sumS (n + 1) _ c (by omega), sumS (n + 1) _ (c + 1) (by omega), sumZ (n + 1) _ (fun j hj => ?_)]
    · rw [if_neg (by omega), sgn_succ, ← e 0]
      have : det n (fun k i => M (skip (c + 1) k) (i + 1)) = det n (fun k i => M (skip c k) (i + 1)) := det_congr n _ _ fun k i _ _ => by
        unfold skip
        by_cases z : k = c
        · subst z
          rw [if_pos (by omega), if_neg (by omega), e]
        · by_cases y : k < c
          · rw [if_pos (by omega), if_pos y]
          · rw [if_neg (by omega), if_neg y]
      rw [this]
      grind
    · by_cases y : j = c + 1
      · rw [if_pos y]
      · rw [if_neg y]
        by_cases z : j = c
        · rw [if_pos z]
        · rw [if_neg z]
          have : det n (fun k i => M (skip j k) (i + 1)) = 0 := by
            refine det_adj n _ (back j c) (by unfold back; split <;> omega) fun i => ?_
            rw [skip_back (fun x => z x.symm), show back j c + 1 = back j (c + 1) by unfold back; split <;> split <;> omega, skip_back (fun x => y x.symm)]
            exact e _
          rw [this]
          grind
theorem put_self (M : Nat → Nat → Rat) (c : Nat) : put M c (M c) = M := by
  funext k i
  unfold put
  by_cases z : k = c
  · rw [if_pos z, z]
  · rw [if_neg z]
theorem put_comm (M : Nat → Nat → Rat) {c d : Nat} (u v : Nat → Rat) (h : c ≠ d) : put (put M c u) d v = put (put M d v) c u := by
  funext k i
  unfold put
  by_cases z : k = d
  · rw [if_pos z, if_neg (fun y => h (y.symm.trans z)), if_pos z]
  · rw [if_neg z]
    by_cases y : k = c
    · rw [if_pos y, if_pos y]
    · rw [if_neg y, if_neg y, if_neg z]
theorem det_swap (n : Nat) (M : Nat → Nat → Rat) (c : Nat) (h : c + 1 < n) (u v : Nat → Rat) : det n (put (put M c u) (c + 1) v) = -(det n (put (put M c v) (c + 1) u)) := by
  have ne : c ≠ c + 1 := by omega
  have z : ∀ w : Nat → Rat, det n (put (put M c w) (c + 1) w) = 0 := fun w => det_adj n _ c h fun i => by
    unfold put
    rw [if_neg ne, if_pos rfl, if_pos rfl]
  have a := z (fun i => u i + 1 * v i)
  rw [det_lin n (put M c (fun i => u i + 1 * v i)) (c + 1) u v 1 h, put_comm M _ u ne, put_comm M _ v ne, det_lin n (put M (c + 1) u) c u v 1 (by omega), det_lin n (put M (c + 1) v) c u v 1 (by omega)] at a
  have b := z u
  have d := z v
  rw [put_comm M u u ne] at b
  rw [put_comm M v v ne] at d
  rw [put_comm M u v ne, put_comm M v u ne]
  grind
theorem det_same : ∀ (g n : Nat) (M : Nat → Nat → Rat) (c : Nat), c + g + 1 < n → (∀ i, M c i = M (c + g + 1) i) → det n M = 0
  | 0, n, M, c, h, e => det_adj n M c h e
  | g + 1, n, M, c, h, e => by
    have h1 := det_swap n M (c + g + 1) (by omega) (M (c + g + 1)) (M (c + g + 1 + 1))
    rw [put_self, put_self] at h1
    rw [h1, det_same g n _ c (by omega) (fun i => ?_)]
    · grind
    · unfold put
      rw [if_neg (by omega), if_neg (by omega), if_neg (by omega), if_pos rfl]
      exact e i
theorem det_two (n : Nat) (M : Nat → Nat → Rat) (c d : Nat) (hc : c < n) (hd : d < n) (ne : c ≠ d) (e : ∀ i, M c i = M d i) : det n M = 0 := by
  rcases Nat.lt_or_gt_of_ne ne with z | z
  · exact det_same (d - c - 1) n M c (by omega) (fun i => by rw [e i, show c + (d - c - 1) + 1 = d by omega])
  · exact det_same (c - d - 1) n M d (by omega) (fun i => by rw [← e i, show d + (c - d - 1) + 1 = c by omega])
theorem det_sum (n : Nat) (M : Nat → Nat → Rat) (c : Nat) (hc : c < n) (V : Nat → Nat → Rat) (α : Nat → Rat) : ∀ m, det n (put M c (fun i => sumTo m (fun s => α s * V s i))) = sumTo m (fun s => α s * det n (put M c (V s))) := by
  have zero : det n (put M c (fun _ => 0)) = 0 := by
    have := det_lin n M c (fun _ => 0) (fun _ => 0) 1 hc
    have e : (fun i : Nat => (0 : Rat) + 1 * (fun _ : Nat => (0 : Rat)) i) = fun _ => 0 := by funext i; grind
    rw [e] at this
    grind
  intro m
  induction m generalizing V α with
  | zero =>
    simp only [Ty.sumTo]
    exact zero
  | succ m ih =>
    simp only [Ty.sumTo]
    have e : (fun i => α 0 * V 0 i + sumTo m (fun s => α (s + 1) * V (s + 1) i)) = fun i => (fun i => sumTo m (fun s => α (s + 1) * V (s + 1) i)) i + α 0 * V 0 i := by
      funext i
      grind
    rw [e, det_lin n M c _ _ _ hc, ih (fun s => V (s + 1)) (fun s => α (s + 1))]
    grind
theorem cramer (n : Nat) (M : Nat → Nat → Rat) (c : Nat) (hc : c < n) (v : Nat → Rat) (α : Nat → Rat) (h : ∀ i, i < n → v i = sumTo n (fun s => α s * M s i)) : det n (put M c v) = α c * det n M := by
  rw [det_congr n (put M c v) (put M c (fun i => sumTo n (fun s => α s * M s i))) (fun k i _ hi => by
    unfold put
    by_cases z : k = c
    · rw [if_pos z, if_pos z, h i hi]
    · rw [if_neg z, if_neg z]), det_sum n M c hc M α n, sum1 n _ c hc (fun s hs ns => ?_), put_self]
  rw [det_two n (put M c (M s)) c s hc hs (Ne.symm ns) (fun i => by
    unfold put
    rw [if_pos rfl, if_neg ns])]
  grind
theorem det_int : ∀ (n : Nat) (M : Nat → Nat → Int), ∃ z : Int, det n (fun k i => (M k i : Rat)) = (z : Rat)
  | 0, _ => ⟨1, by simp [det]⟩
  | n + 1, M => by
    have key : ∀ (m : Nat) (f : Nat → Rat), (∀ j, j < m → ∃ z : Int, f j = (z : Rat)) → ∃ z : Int, sumTo m f = (z : Rat) := by
      intro m
      induction m with
      | zero => exact fun f _ => ⟨0, by simp [Ty.sumTo]⟩
      | succ m ih =>
        intro f h
        obtain ⟨a, ea⟩ := h 0 (by omega)
        obtain ⟨b, eb⟩ := ih (fun i => f (i + 1)) (fun j hj => h (j + 1) (by omega))
        exact ⟨a + b, by simp only [Ty.sumTo]; rw [ea, eb]; push_cast; rfl⟩
    unfold det
    refine key _ _ fun j hj => ?_
    obtain ⟨z, ez⟩ := det_int n (fun k i => M (skip j k) (i + 1))
    have es : sgn j = ((if j % 2 = 0 then 1 else -1 : Int) : Rat) := by
      unfold sgn
      split <;> simp
    exact ⟨(if j % 2 = 0 then 1 else -1) * M j 0 * z, by rw [ez, es]; push_cast; rfl⟩
def fact : Nat → Nat
  | 0 => 1
  | n + 1 => (n + 1) * fact n
theorem det_bound (X : Nat) : ∀ (n : Nat) (M : Nat → Nat → Rat), (∀ k i, k < n → i < n → M k i ≤ (X : Rat) ∧ -(X : Rat) ≤ M k i) → det n M ≤ ((fact n * X ^ n : Nat) : Rat) ∧ -((fact n * X ^ n : Nat) : Rat) ≤ det n M
  | 0, _, _ => by simp [det, fact]; decide
  | n + 1, M, h => by
    have key : ∀ (m : Nat) (f : Nat → Rat) (B : Rat), (∀ j, j < m → f j ≤ B ∧ -B ≤ f j) → sumTo m f ≤ (m : Rat) * B ∧ -((m : Rat) * B) ≤ sumTo m f := by
      intro m
      induction m with
      | zero => intro f B _; simp [Ty.sumTo]
      | succ m ih =>
        intro f B h
        have a := h 0 (by omega)
        have b := ih (fun i => f (i + 1)) B (fun j hj => h (j + 1) (by omega))
        simp only [Ty.sumTo]
        push_cast
        grind
    have mulb : ∀ (x y B C : Rat), x ≤ B → -B ≤ x → y ≤ C → -C ≤ y → 0 ≤ B → 0 ≤ C → x * y ≤ B * C ∧ -(B * C) ≤ x * y := by
      intro x y B C h1 h2 h3 h4 hB hC
      have p1 : 0 ≤ (B - x) * (C + y) := Rat.mul_nonneg (by grind) (by grind)
      have p2 : 0 ≤ (B + x) * (C - y) := Rat.mul_nonneg (by grind) (by grind)
      have p3 : 0 ≤ (B - x) * (C - y) := Rat.mul_nonneg (by grind) (by grind)
      have p4 : 0 ≤ (B + x) * (C + y) := Rat.mul_nonneg (by grind) (by grind)
      constructor <;> grind
    have hb := key (n + 1) (fun j => sgn j * M j 0 * det n (fun k i => M (skip j k) (i + 1))) ((X : Rat) * ((fact n * X ^ n : Nat) : Rat)) (fun j hj => by
      have d := det_bound X n (fun k i => M (skip j k) (i + 1)) (fun k i hk hi => h _ _ (by unfold skip; split <;> omega) (by omega))
      have m := h j 0 hj (by omega)
      have nX : (0 : Rat) ≤ (X : Rat) := by exact_mod_cast Nat.zero_le X
      have nC : (0 : Rat) ≤ ((fact n * X ^ n : Nat) : Rat) := by exact_mod_cast Nat.zero_le _
      have e := mulb _ _ _ _ m.1 m.2 d.1 d.2 nX nC
      unfold sgn
      split <;> constructor <;> grind)
    unfold det
    have e : ((n + 1 : Nat) : Rat) * ((X : Rat) * ((fact n * X ^ n : Nat) : Rat)) = ((fact (n + 1) * X ^ (n + 1) : Nat) : Rat) := by
      have : fact (n + 1) * X ^ (n + 1) = (n + 1) * (X * (fact n * X ^ n)) := by
        rw [show fact (n + 1) = (n + 1) * fact n from rfl, Nat.pow_succ]
        simp only [Nat.mul_assoc, Nat.mul_comm, Nat.mul_left_comm]
      rw [this]
      push_cast
      rfl
    rw [e] at hb
    exact hb
end Px

set_option maxHeartbeats 4000000
namespace Px
open Ty (sumTo sumTo_add sumTo_mul sumTo_zero)
theorem left (n : Nat) (M : Nat → Nat → Rat) (h : det n M ≠ 0) : ∃ R : Nat → Nat → Rat, ∀ (v α : Nat → Rat), (∀ i, i < n → v i = sumTo n (fun s => α s * M s i)) → ∀ s, s < n → sumTo n (fun i => R s i * v i) = α s := by
  refine ⟨fun s i => (det n M)⁻¹ * det n (put M s (fun k => if k = i then 1 else 0)), fun v α hv s hs => ?_⟩
  have h1 := cramer n M s hs v α hv
  have h2 : det n (put M s v) = sumTo n (fun i => v i * det n (put M s (fun k => if k = i then 1 else 0))) := by
    rw [← det_sum n M s hs (fun i k => if k = i then 1 else 0) v n]
    refine det_congr n _ _ fun k i _ hi => ?_
    unfold put
    by_cases z : k = s
    · rw [if_pos z, if_pos z]
      show v i = sumTo n (fun s => v s * (if i = s then 1 else 0))
      rw [sum1 n _ i hi (fun j _ nj => by
        show v j * (if i = j then 1 else 0) = 0
        rw [if_neg (Ne.symm nj)]
        grind)]
      rw [if_pos rfl]
      grind
    · rw [if_neg z, if_neg z]
  rw [sumC n (fun i => (det n M)⁻¹ * det n (put M s (fun k => if k = i then 1 else 0)) * v i) (fun i => (det n M)⁻¹ * (v i * det n (put M s (fun k => if k = i then 1 else 0)))) (fun j _ => by grind), sumTo_mul, ← h2, h1]
  have := Rat.inv_mul_cancel _ h
  grind
structure Tb where
  L : Nat → Nat → Int
  d : Int
  ac : Nat → Nat
  dn : Nat → Nat
def thing (c : Nat) (A : Nat → Nat → Int) (t i : Nat) : Int := if t < c then A i t else if i + c = t then 1 else 0
def vec (c : Nat) (A : Nat → Nat → Int) (T : Tb) (j i : Nat) : Int := if j < c then thing c A (T.ac j) i else A i c
def bas (c : Nat) (A : Nat → Nat → Int) (T : Tb) : Nat → Nat → Rat := fun s i => (thing c A (T.dn s) i : Rat)
structure Good (r c : Nat) (A : Nat → Nat → Int) (T : Tb) : Prop where
  pos : 0 < T.d
  dt : det (r + 1) (bas c A T) = (T.d : Rat)
  rel : ∀ j, j ≤ c → ∀ i, i < r + 1 → (T.d : Rat) * (vec c A T j i : Rat) = sumTo (r + 1) (fun s => (T.L s j : Rat) * bas c A T s i)
  fea : ∀ s, s < r → 0 ≤ T.L s c
  last : T.dn r = c + r
  dnlt : ∀ s, s < r → T.dn s < c + r
  aclt : ∀ j, j < c → T.ac j < c + r
  dnI : ∀ s s', s < r + 1 → s' < r + 1 → T.dn s = T.dn s' → s = s'
  acI : ∀ j j', j < c → j' < c → T.ac j = T.ac j' → j = j'
  dis : ∀ j s, j < c → s < r + 1 → T.ac j ≠ T.dn s
  cov : ∀ t, t < c + r → (∃ j, j < c ∧ T.ac j = t) ∨ (∃ s, s < r ∧ T.dn s = t)
theorem posR {d : Int} (h : 0 < d) : (0 : Rat) < (d : Rat) := by exact_mod_cast h
theorem Good.dR {r c : Nat} {A : Nat → Nat → Int} {T : Tb} (G : Good r c A T) : (0 : Rat) < (T.d : Rat) := posR G.pos
theorem Good.relD {r c : Nat} {A : Nat → Nat → Int} {T : Tb} (G : Good r c A T) {j : Nat} (hj : j ≤ c) {i : Nat} (hi : i < r + 1) : (vec c A T j i : Rat) = sumTo (r + 1) (fun s => ((T.d : Rat)⁻¹ * (T.L s j : Rat)) * bas c A T s i) := by
  have h := G.rel j hj i hi
  rw [sumC (r + 1) (fun s => ((T.d : Rat)⁻¹ * (T.L s j : Rat)) * bas c A T s i) (fun s => (T.d : Rat)⁻¹ * ((T.L s j : Rat) * bas c A T s i)) (fun _ _ => by grind), sumTo_mul, ← h]
  have := Rat.inv_mul_cancel _ (show (T.d : Rat) ≠ 0 by have := G.dR; grind)
  grind
theorem Good.cof {r c : Nat} {A : Nat → Nat → Int} {T : Tb} (G : Good r c A T) {j s : Nat} (hj : j ≤ c) (hs : s < r + 1) : det (r + 1) (put (bas c A T) s (fun i => (vec c A T j i : Rat))) = (T.L s j : Rat) := by
  rw [cramer (r + 1) (bas c A T) s hs _ (fun s => (T.d : Rat)⁻¹ * (T.L s j : Rat)) (fun i hi => G.relD hj hi), G.dt]
  have := Rat.inv_mul_cancel _ (show (T.d : Rat) ≠ 0 by have := G.dR; grind)
  grind
theorem thing_bd {c : Nat} {A : Nat → Nat → Int} {r X : Nat} (hX : 1 ≤ X) (hA : ∀ i j, i < r + 1 → j ≤ c → -(X : Int) ≤ A i j ∧ A i j ≤ (X : Int)) (t : Nat) {i : Nat} (hi : i < r + 1) : -(X : Int) ≤ thing c A t i ∧ thing c A t i ≤ (X : Int) := by
  unfold thing
  split
  · exact hA i t hi (by omega)
  · split <;> omega
theorem ratI {X : Nat} {z : Int} (h : -(X : Int) ≤ z ∧ z ≤ (X : Int)) : (z : Rat) ≤ (X : Rat) ∧ -(X : Rat) ≤ (z : Rat) := by
  constructor
  · exact_mod_cast h.2
  · have : ((-(X : Int) : Int) : Rat) ≤ (z : Rat) := by exact_mod_cast h.1
    have e : ((-(X : Int) : Int) : Rat) = -(X : Rat) := by push_cast; rfl
    rw [e] at this
    exact this
theorem Irat {X : Nat} {z : Int} (h : (z : Rat) ≤ ((X : Nat) : Rat) ∧ -((X : Nat) : Rat) ≤ (z : Rat)) : z.natAbs ≤ X := by
  have a : z ≤ (X : Int) := by exact_mod_cast h.1
  have b : -(X : Int) ≤ z := by
    have e : ((-(X : Int) : Int) : Rat) = -(X : Rat) := by push_cast; rfl
    have := h.2
    rw [← e] at this
    exact_mod_cast this
  omega
theorem Good.bound {r c : Nat} {A : Nat → Nat → Int} {T : Tb} (G : Good r c A T) {X : Nat} (hX : 1 ≤ X) (hA : ∀ i j, i < r + 1 → j ≤ c → -(X : Int) ≤ A i j ∧ A i j ≤ (X : Int)) : T.d.natAbs ≤ fact (r + 1) * X ^ (r + 1) ∧ ∀ s j, s < r + 1 → j ≤ c → (T.L s j).natAbs ≤ fact (r + 1) * X ^ (r + 1) := by
  constructor
  · have := det_bound X (r + 1) (bas c A T) (fun k i _ hi => ratI (thing_bd hX hA _ hi))
    rw [G.dt] at this
    exact Irat this
  · intro s j hs hj
    have := det_bound X (r + 1) (put (bas c A T) s (fun i => (vec c A T j i : Rat))) (fun k i _ hi => by
      unfold put
      by_cases z : k = s
      · rw [if_pos z]
        refine ratI ?_
        unfold vec
        split
        · exact thing_bd hX hA _ hi
        · exact hA i c hi (Nat.le_refl _)
      · rw [if_neg z]
        exact ratI (thing_bd hX hA _ hi))
    rw [G.cof hj hs] at this
    exact Irat this
def piv (T : Tb) (a k : Nat) : Tb where
  L := fun s j => if s = a then (if j = k then T.d else T.L a j) else if j = k then -(T.L s k) else (T.L a k * T.L s j - T.L s k * T.L a j).fdiv T.d
  d := T.L a k
  ac := fun j => if j = k then T.dn a else T.ac j
  dn := fun s => if s = a then T.ac k else T.dn s
theorem bas_piv (c : Nat) (A : Nat → Nat → Int) (T : Tb) (a k : Nat) : bas c A (piv T a k) = put (bas c A T) a (fun i => (thing c A (T.ac k) i : Rat)) := by
  funext s i
  show ((thing c A (if s = a then T.ac k else T.dn s) i : Int) : Rat) = if s = a then (thing c A (T.ac k) i : Rat) else (thing c A (T.dn s) i : Rat)
  by_cases z : s = a
  · rw [if_pos z, if_pos z]
  · rw [if_neg z, if_neg z]
section
variable {r c : Nat} {A : Nat → Nat → Int} {T : Tb} {a k : Nat}
theorem Good.dtP (G : Good r c A T) (ha : a < r) (hk : k < c) : det (r + 1) (bas c A (piv T a k)) = (T.L a k : Rat) := by
  have h := G.cof (s := a) (Nat.le_of_lt hk) (by omega)
  rw [bas_piv, ← h]
  refine det_congr _ _ _ fun s i _ _ => ?_
  unfold put vec
  simp only [if_pos hk]
theorem Good.newR (G : Good r c A T) (ha : a < r) (hk : k < c) {j : Nat} (hj : j ≤ c) {i : Nat} (hi : i < r + 1) : (T.L a k : Rat) * (vec c A T j i : Rat) = sumTo (r + 1) (fun s => (if s = a then (T.L a j : Rat) else (T.d : Rat)⁻¹ * ((T.L a k : Rat) * (T.L s j : Rat) - (T.L s k : Rat) * (T.L a j : Rat))) * bas c A (piv T a k) s i) := by
  have h1 := G.rel j hj i hi
  have h2 := G.rel k (Nat.le_of_lt hk) i hi
  rw [sumS (r + 1) _ a (by omega)] at h1 h2 ⊢
  have e : vec c A T k i = thing c A (T.ac k) i := if_pos hk
  rw [e] at h2
  rw [if_pos rfl, bas_piv]
  have e1 : put (bas c A T) a (fun i => (thing c A (T.ac k) i : Rat)) a i = (thing c A (T.ac k) i : Rat) := if_pos rfl
  rw [e1, sumC (r + 1) (fun s => if s = a then 0 else (if s = a then (T.L a j : Rat) else (T.d : Rat)⁻¹ * ((T.L a k : Rat) * (T.L s j : Rat) - (T.L s k : Rat) * (T.L a j : Rat))) * put (bas c A T) a (fun i => (thing c A (T.ac k) i : Rat)) s i)
    (fun s => ((T.d : Rat)⁻¹ * (T.L a k : Rat)) * (if s = a then 0 else (T.L s j : Rat) * bas c A T s i) + (-((T.d : Rat)⁻¹ * (T.L a j : Rat))) * (if s = a then 0 else (T.L s k : Rat) * bas c A T s i)) (fun s _ => by
      by_cases z : s = a
      · rw [if_pos z, if_pos z, if_pos z]
        grind
      · rw [if_neg z, if_neg z, if_neg z, if_neg z, show put (bas c A T) a (fun i => (thing c A (T.ac k) i : Rat)) s i = bas c A T s i from if_neg z]
        grind), sumTo_add, sumTo_mul, sumTo_mul]
  have v := Rat.inv_mul_cancel _ (show (T.d : Rat) ≠ 0 by have := G.dR; grind)
  generalize sumTo (r + 1) (fun s => if s = a then 0 else (T.L s j : Rat) * bas c A T s i) = S1 at *
  generalize sumTo (r + 1) (fun s => if s = a then 0 else (T.L s k : Rat) * bas c A T s i) = S2 at *
  have i1 : S1 = (T.d : Rat) * (vec c A T j i : Rat) - (T.L a j : Rat) * bas c A T a i := by grind
  have i2 : S2 = (T.d : Rat) * (thing c A (T.ac k) i : Rat) - (T.L a k : Rat) * bas c A T a i := by grind
  rw [i1, i2]
  generalize (T.d : Rat) = d at *
  generalize d⁻¹ = e at *
  generalize (vec c A T j i : Rat) = x at *
  generalize (thing c A (T.ac k) i : Rat) = y at *
  generalize bas c A T a i = b at *
  generalize (T.L a j : Rat) = l at *
  generalize (T.L a k : Rat) = p at *
  have : l * y + (e * p * (d * x - l * b) + -(e * l) * (d * y - p * b)) = (e * d) * (p * x) + (1 - e * d) * (l * y) := by grind
  rw [this, v]
  grind
theorem Good.exact (G : Good r c A T) (ha : a < r) (hk : k < c) (hp : 0 < T.L a k) {j : Nat} (hj : j ≤ c) {s : Nat} (hs : s < r + 1) (hsa : s ≠ a) : T.d * ((T.L a k * T.L s j - T.L s k * T.L a j).fdiv T.d) = T.L a k * T.L s j - T.L s k * T.L a j := by
  have pR : (0 : Rat) < (T.L a k : Rat) := posR hp
  have pv := Rat.inv_mul_cancel _ (show (T.L a k : Rat) ≠ 0 by grind)
  have dv := Rat.inv_mul_cancel _ (show (T.d : Rat) ≠ 0 by have := G.dR; grind)
  have h := cramer (r + 1) (bas c A (piv T a k)) s hs (fun i => (vec c A T j i : Rat)) (fun s => (T.L a k : Rat)⁻¹ * (if s = a then (T.L a j : Rat) else (T.d : Rat)⁻¹ * ((T.L a k : Rat) * (T.L s j : Rat) - (T.L s k : Rat) * (T.L a j : Rat)))) (fun i hi => by
    have h := G.newR ha hk hj hi
    rw [sumC (r + 1) _ (fun s => (T.L a k : Rat)⁻¹ * ((if s = a then (T.L a j : Rat) else (T.d : Rat)⁻¹ * ((T.L a k : Rat) * (T.L s j : Rat) - (T.L s k : Rat) * (T.L a j : Rat))) * bas c A (piv T a k) s i)) (fun s _ => by grind), sumTo_mul, ← h]
    grind)
  rw [G.dtP ha hk, if_neg hsa] at h
  obtain ⟨z, ez⟩ := det_int (r + 1) (fun q i => if q = s then vec c A T j i else thing c A ((piv T a k).dn q) i)
  have e : det (r + 1) (put (bas c A (piv T a k)) s (fun i => (vec c A T j i : Rat))) = (z : Rat) := by
    rw [← ez]
    refine det_congr _ _ _ fun q i _ _ => ?_
    unfold put
    by_cases y : q = s
    · rw [if_pos y, if_pos y]
    · rw [if_neg y, if_neg y]
      rfl
  rw [e] at h
  have h2 : (T.d : Rat) * (z : Rat) = (T.L a k : Rat) * (T.L s j : Rat) - (T.L s k : Rat) * (T.L a j : Rat) := by
    rw [h]
    generalize (T.L a k : Rat) * (T.L s j : Rat) - (T.L s k : Rat) * (T.L a j : Rat) = w at *
    generalize (T.L a k : Rat) = p at *
    generalize (T.d : Rat) = d at *
    have : d * (p⁻¹ * (d⁻¹ * w) * p) = (p⁻¹ * p) * ((d⁻¹ * d) * w) := by grind
    rw [this, pv, dv]
    grind
  have h3 : T.d * z = T.L a k * T.L s j - T.L s k * T.L a j := by exact_mod_cast h2
  rw [← h3, Int.mul_fdiv_cancel_left _ (show T.d ≠ 0 by have := G.pos; omega)]
theorem piv_a (j : Nat) (h : j ≠ k) : (piv T a k).L a j = T.L a j := by
  show (if a = a then (if j = k then T.d else T.L a j) else _) = _
  rw [if_pos rfl, if_neg h]
theorem piv_ak : (piv T a k).L a k = T.d := by
  show (if a = a then (if k = k then T.d else T.L a k) else _) = _
  rw [if_pos rfl, if_pos rfl]
theorem piv_k {s : Nat} (h : s ≠ a) : (piv T a k).L s k = -(T.L s k) := by
  show (if s = a then _ else if k = k then -(T.L s k) else _) = _
  rw [if_neg h, if_pos rfl]
theorem piv_o {s j : Nat} (h : s ≠ a) (hj : j ≠ k) : (piv T a k).L s j = (T.L a k * T.L s j - T.L s k * T.L a j).fdiv T.d := by
  show (if s = a then _ else if j = k then -(T.L s k) else _) = _
  rw [if_neg h, if_neg hj]
theorem Good.piv (G : Good r c A T) (ha : a < r) (hk : k < c) (hp : 0 < T.L a k) (hm : ∀ s, s < r → 0 < T.L s k → T.L a c * T.L s k ≤ T.L s c * T.L a k) : Good r c A (piv T a k) := by
  have fe : ∀ s, s < r → s ≠ a → 0 ≤ (Px.piv T a k).L s c := fun s hs hsa => by
    have e := G.exact ha hk hp (j := c) (Nat.le_refl _) (s := s) (by omega) hsa
    rw [piv_o hsa (by omega)]
    generalize (T.L a k * T.L s c - T.L s k * T.L a c).fdiv T.d = z at e ⊢
    have h0 : 0 ≤ T.L a k * T.L s c - T.L s k * T.L a c := by
      by_cases y : 0 < T.L s k
      · have := hm s hs y
        rw [Int.mul_comm (T.L a k), Int.mul_comm (T.L s k)]
        omega
      · have h1 := Int.mul_nonneg (Int.le_of_lt hp) (G.fea s hs)
        have h2 : 0 ≤ -(T.L s k) * T.L a c := Int.mul_nonneg (by omega) (G.fea a ha)
        rw [Int.neg_mul] at h2
        omega
    rw [← e] at h0
    have dp := G.pos
    apply Classical.byContradiction
    intro n
    have : T.d * z < 0 := Int.mul_neg_of_pos_of_neg dp (by omega)
    omega
  refine ⟨hp, G.dtP ha hk, fun j hj i hi => ?_, fun s hs => ?_, ?_, fun s hs => ?_, fun j hj => ?_, fun s s' hs hs' e => ?_, fun j j' hj hj' e => ?_, fun j s hj hs e => ?_, fun t ht => ?_⟩
  · by_cases z : j = k
    · subst z
      have h2 := G.rel j hj i hi
      rw [sumS (r + 1) _ a (by omega)] at h2 ⊢
      rw [show vec c A T j i = thing c A (T.ac j) i from if_pos hk] at h2
      rw [piv_ak, bas_piv, show put (bas c A T) a (fun i => (thing c A (T.ac j) i : Rat)) a i = (thing c A (T.ac j) i : Rat) from if_pos rfl, show vec c A (Px.piv T a j) j i = thing c A (T.dn a) i by
        show (if j < c then thing c A (if j = j then T.dn a else T.ac j) i else A i c) = _
        rw [if_pos hk, if_pos rfl]]
      rw [sumC (r + 1) (fun s => if s = a then 0 else ((Px.piv T a j).L s j : Rat) * put (bas c A T) a (fun i => (thing c A (T.ac j) i : Rat)) s i) (fun s => (-1) * (if s = a then 0 else (T.L s j : Rat) * bas c A T s i)) (fun s _ => by
        by_cases y : s = a
        · rw [if_pos y, if_pos y]
          grind
        · rw [if_neg y, if_neg y, piv_k y, show put (bas c A T) a (fun i => (thing c A (T.ac j) i : Rat)) s i = bas c A T s i from if_neg y]
          push_cast
          grind), sumTo_mul]
      have e : (bas c A T a i) = (thing c A (T.dn a) i : Rat) := rfl
      rw [e] at h2
      show ((T.L a j : Int) : Rat) * _ = _
      grind
    · have h := G.newR ha hk hj hi
      have ev : vec c A (Px.piv T a k) j i = vec c A T j i := by
        show (if j < c then thing c A (if j = k then T.dn a else T.ac j) i else A i c) = (if j < c then thing c A (T.ac j) i else A i c)
        rw [if_neg z]
      rw [ev]
      show ((T.L a k : Int) : Rat) * _ = _
      rw [h]
      refine sumC _ _ _ fun s hs => ?_
      by_cases y : s = a
      · subst y
        rw [if_pos rfl, piv_a j z]
      · rw [if_neg y, piv_o y z]
        have e := G.exact ha hk hp hj hs y
        generalize (T.L a k * T.L s j - T.L s k * T.L a j).fdiv T.d = w at e ⊢
        have eR : (T.d : Rat) * (w : Rat) = (T.L a k : Rat) * (T.L s j : Rat) - (T.L s k : Rat) * (T.L a j : Rat) := by exact_mod_cast e
        rw [← eR]
        have dv := Rat.inv_mul_cancel _ (show (T.d : Rat) ≠ 0 by have := G.dR; grind)
        rw [← Rat.mul_assoc, dv]
        grind
  · by_cases z : s = a
    · subst z
      rw [piv_a c (by omega)]
      exact G.fea s hs
    · exact fe s hs z
  · show (if r = a then T.ac k else T.dn r) = c + r
    rw [if_neg (by omega)]
    exact G.last
  · show (if s = a then T.ac k else T.dn s) < c + r
    split
    · exact G.aclt k hk
    · exact G.dnlt s hs
  · show (if j = k then T.dn a else T.ac j) < c + r
    split
    · exact G.dnlt a ha
    · exact G.aclt j hj
  · have e' : (if s = a then T.ac k else T.dn s) = (if s' = a then T.ac k else T.dn s') := e
    by_cases z : s = a <;> by_cases z' : s' = a
    · rw [z, z']
    · rw [if_pos z, if_neg z'] at e'
      exact absurd e' (G.dis k s' hk hs')
    · rw [if_neg z, if_pos z'] at e'
      exact absurd e'.symm (G.dis k s hk hs)
    · rw [if_neg z, if_neg z'] at e'
      exact G.dnI s s' hs hs' e'
  · have e' : (if j = k then T.dn a else T.ac j) = (if j' = k then T.dn a else T.ac j') := e
    by_cases z : j = k <;> by_cases z' : j' = k
    · rw [z, z']
    · rw [if_pos z, if_neg z'] at e'
      exact absurd e'.symm (G.dis j' a hj' (by omega))
    · rw [if_neg z, if_pos z'] at e'
      exact absurd e' (G.dis j a hj (by omega))
    · rw [if_neg z, if_neg z'] at e'
      exact G.acI j j' hj hj' e'
  · have e' : (if j = k then T.dn a else T.ac j) = (if s = a then T.ac k else T.dn s) := e
    by_cases z : j = k <;> by_cases z' : s = a
    · rw [if_pos z, if_pos z'] at e'
      exact G.dis k a hk (by omega) e'.symm
    · rw [if_pos z, if_neg z'] at e'
      exact z' (G.dnI a s (by omega) hs e').symm
    · rw [if_neg z, if_pos z'] at e'
      exact z (G.acI j k hj hk e')
    · rw [if_neg z, if_neg z'] at e'
      exact G.dis j s hj hs e'
  · rcases G.cov t ht with ⟨j, hj, e⟩ | ⟨s, hs, e⟩
    · by_cases z : j = k
      · refine .inr ⟨a, ha, ?_⟩
        show (if a = a then T.ac k else T.dn a) = t
        rw [if_pos rfl, ← z]
        exact e
      · refine .inl ⟨j, hj, ?_⟩
        show (if j = k then T.dn a else T.ac j) = t
        rw [if_neg z]
        exact e
    · by_cases z : s = a
      · refine .inl ⟨k, hk, ?_⟩
        show (if k = k then T.dn a else T.ac k) = t
        rw [if_pos rfl, ← z]
        exact e
      · refine .inr ⟨s, hs, ?_⟩
        show (if s = a then T.ac k else T.dn s) = t
        rw [if_neg z]
        exact e
end
end Px

set_option maxHeartbeats 4000000
namespace Px
open Ty (sumTo sumTo_add sumTo_mul sumTo_zero)
theorem det_id : ∀ n, det n (fun k i => if i = k then 1 else 0) = 1
  | 0 => rfl
  | n + 1 => by
    unfold det
    rw [sum1 (n + 1) _ 0 (by omega) (fun j _ nj => by
      show sgn j * (if 0 = j then (1 : Rat) else 0) * _ = 0
      rw [if_neg (Ne.symm nj)]
      grind)]
    rw [det_congr n _ (fun k i => if i = k then 1 else 0) (fun k i _ _ => by
      show (if i + 1 = skip 0 k then (1 : Rat) else 0) = _
      have : skip 0 k = k + 1 := by unfold skip; rw [if_neg (by omega)]
      rw [this]
      by_cases z : i = k
      · rw [if_pos z, if_pos (by omega)]
      · rw [if_neg z, if_neg (by omega)]), det_id n]
    simp [sgn]
def tb0 (c : Nat) (A : Nat → Nat → Int) : Tb := ⟨A, 1, fun j => j, fun s => c + s⟩
theorem thing_unit (c : Nat) (A : Nat → Nat → Int) (s i : Nat) : thing c A (c + s) i = if i = s then 1 else 0 := by
  unfold thing
  rw [if_neg (by omega)]
  by_cases z : i = s
  · rw [if_pos z, if_pos (by omega)]
  · rw [if_neg z, if_neg (by omega)]
theorem good0 {r c : Nat} {A : Nat → Nat → Int} (h : ∀ s, s < r → 0 ≤ A s c) : Good r c A (tb0 c A) := by
  have eb : ∀ s i, bas c A (tb0 c A) s i = if i = s then 1 else 0 := fun s i => by
    show ((thing c A (c + s) i : Int) : Rat) = _
    rw [thing_unit]
    split <;> simp
  refine ⟨Int.zero_lt_one, ?_, fun j hj i hi => ?_, h, rfl, fun s hs => ?_, fun j hj => ?_, fun s s' _ _ e => ?_, fun j j' _ _ e => e, fun j s hj hs e => ?_, fun t ht => ?_⟩
  · rw [det_congr (r + 1) _ (fun k i => if i = k then 1 else 0) (fun k i _ _ => eb k i), det_id]
    rfl
  · rw [sum1 (r + 1) _ i hi (fun s _ ns => by
      rw [eb, if_neg (Ne.symm ns)]
      grind), eb, if_pos rfl]
    have : vec c A (tb0 c A) j i = A i j := by
      show (if j < c then thing c A j i else A i c) = _
      by_cases z : j < c
      · rw [if_pos z]
        unfold thing
        rw [if_pos z]
      · rw [if_neg z, show j = c by omega]
    rw [this]
    show ((1 : Int) : Rat) * (A i j : Rat) = (A i j : Rat) * 1
    grind
  · show c + s < c + r
    omega
  · show j < c + r
    omega
  · have : c + s = c + s' := e
    omega
  · have : j = c + s := e
    omega
  · by_cases z : t < c
    · exact .inl ⟨t, z, rfl⟩
    · exact .inr ⟨t - c, by omega, (by show c + (t - c) = t; omega)⟩
section
variable {r c : Nat} {A : Nat → Nat → Int} {T T' : Tb} {a k : Nat}
theorem Good.price (G : Good r c A T) : ∃ π : Nat → Rat, π r = 1 ∧ (∀ s, s < r → sumTo (r + 1) (fun i => π i * (thing c A (T.dn s) i : Rat)) = 0) ∧ (∀ j, j ≤ c → sumTo (r + 1) (fun i => π i * (vec c A T j i : Rat)) = (T.d : Rat)⁻¹ * (T.L r j : Rat)) ∧ (∀ i, i < r → sumTo (r + 1) (fun q => π q * (thing c A (c + i) q : Rat)) = π i) := by
  obtain ⟨R, hR⟩ := left (r + 1) (bas c A T) (by rw [G.dt]; have := G.dR; grind)
  have unit : ∀ s, s < r + 1 → ∀ q, q < r + 1 → sumTo (r + 1) (fun i => R q i * bas c A T s i) = if q = s then 1 else 0 := fun s hs q hq => hR (bas c A T s) (fun q => if q = s then 1 else 0) (fun i _ => by
    rw [sum1 (r + 1) _ s hs (fun j _ nj => by rw [if_neg nj]; grind), if_pos rfl]
    grind) q hq
  have pick : ∀ i, i < r + 1 → sumTo (r + 1) (fun q => R r q * (thing c A (c + i) q : Rat)) = R r i := fun i hi => by
    rw [sum1 (r + 1) _ i hi (fun j _ nj => by
      rw [thing_unit, if_neg nj]
      simp), thing_unit, if_pos rfl]
    simp
  refine ⟨R r, ?_, fun s hs => ?_, fun j hj => ?_, fun i hi => pick i (by omega)⟩
  · have h := unit r (by omega) r (by omega)
    rw [if_pos rfl] at h
    rw [← h, ← pick r (by omega)]
    refine sumC _ _ _ fun q _ => ?_
    show _ = R r q * ((thing c A (T.dn r) q : Int) : Rat)
    rw [G.last]
  · have h := unit s (by omega) r (by omega)
    rw [if_neg (by omega)] at h
    exact h
  · exact hR (fun i => (vec c A T j i : Rat)) (fun s => (T.d : Rat)⁻¹ * (T.L s j : Rat)) (fun i hi => G.relD hj hi) r (by omega)
def Stp (r c : Nat) (T T' : Tb) (a k : Nat) : Prop := a < r ∧ k < c ∧ T.L r k < 0 ∧ 0 < T.L a k ∧ (∀ s, s < r → 0 < T.L s k → T.L a c * T.L s k < T.L s c * T.L a k ∨ (T.L a c * T.L s k = T.L s c * T.L a k ∧ T.dn a ≤ T.dn s)) ∧ (T.L a c = 0 → ∀ j, j < c → T.L r j < 0 → T.ac k ≤ T.ac j) ∧ T' = piv T a k
theorem Stp.good (S : Stp r c T T' a k) (G : Good r c A T) : Good r c A T' := by
  obtain ⟨ha, hk, _, hp, hm, _, rfl⟩ := S
  exact G.piv ha hk hp fun s hs h => by
    rcases hm s hs h with x | x
    · exact Int.le_of_lt x
    · exact Int.le_of_eq x.1
def wr (c r : Nat) (T : Tb) : Rat := (T.d : Rat)⁻¹ * (T.L r c : Rat)
theorem Stp.worth (S : Stp r c T T' a k) (G : Good r c A T) : wr c r T ≤ wr c r T' ∧ (T.L a c ≠ 0 → wr c r T < wr c r T') := by
  obtain ⟨ha, hk, hn, hp, hm, _, rfl⟩ := S
  have e := G.exact ha hk hp (j := c) (Nat.le_refl _) (s := r) (by omega) (by omega)
  have eL : (piv T a k).L r c = (T.L a k * T.L r c - T.L r k * T.L a c).fdiv T.d := piv_o (by omega) (by omega)
  have ed : (piv T a k).d = T.L a k := rfl
  rw [← eL] at e
  unfold wr
  rw [ed]
  have f := G.fea a ha
  generalize (piv T a k).L r c = x at *
  have dp := G.dR
  have pp := posR hp
  have dv := Rat.inv_mul_cancel _ (show (T.d : Rat) ≠ 0 by grind)
  have pv := Rat.inv_mul_cancel _ (show (T.L a k : Rat) ≠ 0 by grind)
  have di : 0 < (T.d : Rat)⁻¹ := Rat.inv_pos.mpr dp
  have pi : 0 < (T.L a k : Rat)⁻¹ := Rat.inv_pos.mpr pp
  have eR : (T.d : Rat) * (x : Rat) = (T.L a k : Rat) * (T.L r c : Rat) + ((-(T.L r k) * T.L a c : Int) : Rat) := by
    have : T.d * x = T.L a k * T.L r c + -(T.L r k) * T.L a c := by rw [e, Int.neg_mul]; omega
    exact_mod_cast this
  have key : (T.L a k : Rat)⁻¹ * (x : Rat) = (T.d : Rat)⁻¹ * (T.L r c : Rat) + (T.L a k : Rat)⁻¹ * (T.d : Rat)⁻¹ * ((-(T.L r k) * T.L a c : Int) : Rat) := by
    generalize ((-(T.L r k) * T.L a c : Int) : Rat) = g at *
    generalize (T.d : Rat) = d at *
    generalize (T.L a k : Rat) = p at *
    generalize d⁻¹ = d' at *
    generalize p⁻¹ = p' at *
    have : p' * (x : Rat) = (p' * d') * (d * (x : Rat)) := by
      have : (p' * d') * (d * (x : Rat)) = p' * ((d' * d) * (x : Rat)) := by grind
      rw [this, dv]
      grind
    rw [this, eR]
    have : p' * d' * (p * (T.L r c : Rat) + g) = (p' * p) * (d' * (T.L r c : Rat)) + p' * d' * g := by grind
    rw [this, pv]
    grind
  have g0 : 0 ≤ -(T.L r k) * T.L a c := Int.mul_nonneg (by omega) f
  have gR : (0 : Rat) ≤ ((-(T.L r k) * T.L a c : Int) : Rat) := by exact_mod_cast g0
  have pd : 0 < (T.L a k : Rat)⁻¹ * (T.d : Rat)⁻¹ := Rat.mul_pos pi di
  rw [key]
  constructor
  · have := Rat.mul_nonneg (Rat.le_of_lt pd) gR
    grind
  · intro nz
    have g1 : 0 < -(T.L r k) * T.L a c := Int.mul_pos (by omega) (by omega)
    have gR1 : (0 : Rat) < ((-(T.L r k) * T.L a c : Int) : Rat) := by exact_mod_cast g1
    have := Rat.mul_pos pd gR1
    grind
theorem Good.same_c (G : Good r c A T) (G' : Good r c A T') (h : ∀ s, s < r + 1 → T.dn s = T'.dn s) : T.d = T'.d ∧ ∀ s, s < r + 1 → T.L s c = T'.L s c := by
  have eb : ∀ s i, s < r + 1 → bas c A T s i = bas c A T' s i := fun s i hs => by
    unfold bas
    rw [h s hs]
  constructor
  · have e : (T.d : Rat) = (T'.d : Rat) := by
      rw [← G.dt, ← G'.dt]
      exact det_congr _ _ _ fun s i hs _ => eb s i hs
    exact_mod_cast e
  · intro s hs
    have e : (T.L s c : Rat) = (T'.L s c : Rat) := by
      rw [← G.cof (Nat.le_refl c) hs, ← G'.cof (Nat.le_refl c) hs]
      refine det_congr _ _ _ fun q i hq _ => ?_
      unfold put vec
      simp only [if_neg (Nat.lt_irrefl c), eb q i hq]
    exact_mod_cast e
end
theorem change_up (P : Nat → Prop) : ∀ (n i : Nat), ¬ P i → P (i + n) → ∃ x, i ≤ x ∧ x < i + n ∧ ¬ P x ∧ P (x + 1)
  | 0, _, h, h' => absurd h' h
  | n + 1, i, h, h' => by
    by_cases z : P (i + n)
    · obtain ⟨x, a, b, d⟩ := change_up P n i h z
      exact ⟨x, a, by omega, d⟩
    · exact ⟨i + n, by omega, by omega, z, h'⟩
theorem turn (P : Nat → Prop) {u v i j : Nat} (e : P u ↔ P v) (hi : u ≤ i ∧ i ≤ v) (hj : u ≤ j ∧ j ≤ v) (pi : P i) (nj : ¬ P j) : ∃ x, u ≤ x ∧ x < v ∧ ¬ P x ∧ P (x + 1) := by
  by_cases z : j ≤ i
  · obtain ⟨x, a, b, d⟩ := change_up P (i - j) j nj (by rw [show j + (i - j) = i by omega]; exact pi)
    exact ⟨x, by omega, by omega, d⟩
  · by_cases y : P u
    · obtain ⟨x, a, b, d⟩ := change_up P (v - j) j nj (by rw [show j + (v - j) = v by omega]; exact e.mp y)
      exact ⟨x, by omega, by omega, d⟩
    · obtain ⟨x, a, b, d⟩ := change_up P (i - u) u y (by rw [show u + (i - u) = i by omega]; exact pi)
      exact ⟨x, by omega, by omega, d⟩
theorem greatest (P : Nat → Prop) : ∀ (B : Nat), (∀ t, P t → t < B) → (∃ t, P t) → ∃ q, P q ∧ ∀ t, P t → t ≤ q
  | 0, h, ⟨t, ht⟩ => absurd (h t ht) (Nat.not_lt_zero _)
  | B + 1, h, ⟨t, ht⟩ => by
    by_cases z : P B
    · exact ⟨B, z, fun t ht => Nat.le_of_lt_succ (h t ht)⟩
    · exact greatest P B (fun t ht => by
        have := h t ht
        have : t ≠ B := fun e => z (e ▸ ht)
        omega) ⟨t, ht⟩
def Bs (r : Nat) (T : Tb) (t : Nat) : Prop := ∃ s, s < r + 1 ∧ T.dn s = t
def Zr (r c : Nat) (T : Tb) (t : Nat) : Prop := ∀ s, s < r + 1 → T.dn s = t → T.L s c = 0
section
variable {r c : Nat} {A : Nat → Nat → Int} {T T' : Tb} {a k t : Nat}
theorem Stp.enters (S : Stp r c T T' a k) (n : ¬ Bs r T t) (b : Bs r T' t) : T.ac k = t := by
  obtain ⟨ha, hk, _, hp, hm, _, rfl⟩ := S
  obtain ⟨s, hs, e⟩ := b
  have e' : (if s = a then T.ac k else T.dn s) = t := e
  by_cases z : s = a
  · rw [if_pos z] at e'
    exact e'
  · rw [if_neg z] at e'
    exact absurd ⟨s, hs, e'⟩ n
theorem Stp.leaves (S : Stp r c T T' a k) (b : Bs r T t) (n : ¬ Bs r T' t) : T.dn a = t := by
  obtain ⟨ha, hk, _, hp, hm, _, rfl⟩ := S
  obtain ⟨s, hs, e⟩ := b
  by_cases z : s = a
  · rw [← z]
    exact e
  · exact absurd ⟨s, hs, (show (if s = a then T.ac k else T.dn s) = t by rw [if_neg z]; exact e)⟩ n
theorem Stp.zero (S : Stp r c T T' a k) (G : Good r c A T) (h0 : T.L a c = 0) (z : Zr r c T t) : Zr r c T' t := by
  obtain ⟨ha, hk, _, hp, hm, _, rfl⟩ := S
  intro s hs e
  have e' : (if s = a then T.ac k else T.dn s) = t := e
  by_cases y : s = a
  · rw [y, piv_a c (by omega)]
    exact h0
  · rw [if_neg y] at e'
    have ex := G.exact ha hk hp (j := c) (Nat.le_refl _) hs y
    rw [piv_o y (by omega)]
    rw [h0, z s hs e'] at ex ⊢
    simp
theorem no_return {f : Nat → Tb} {u v : Nat} (huv : u < v) (hG : ∀ i, u ≤ i → i ≤ v → Good r c A (f i)) (hS : ∀ i, u ≤ i → i < v → ∃ a k, Stp r c (f i) (f (i + 1)) a k) (hd : ∀ s, s < r + 1 → (f u).dn s = (f v).dn s) : False := by
  have Gu := hG u (Nat.le_refl _) (by omega)
  have Gv := hG v (by omega) (Nat.le_refl _)
  have sc := Gu.same_c Gv hd
  have mono : ∀ n i, u ≤ i → i + n ≤ v → wr c r (f i) ≤ wr c r (f (i + n)) := by
    intro n
    induction n with
    | zero => exact fun i _ _ => Rat.le_refl
    | succ n ih =>
      intro i h1 h2
      obtain ⟨a, k, S⟩ := hS (i + n) (by omega) (by omega)
      exact Rat.le_trans (ih i h1 (by omega)) (S.worth (hG _ (by omega) (by omega))).1
  have weq : wr c r (f u) = wr c r (f v) := by
    unfold wr
    rw [sc.1, sc.2 r (by omega)]
  have deg : ∀ i a k, u ≤ i → i < v → Stp r c (f i) (f (i + 1)) a k → (f i).L a c = 0 := by
    intro i a k h1 h2 S
    apply Classical.byContradiction
    intro nz
    have w := (S.worth (hG i h1 (by omega))).2 nz
    have m1 := mono (i - u) u (Nat.le_refl _) (by omega)
    have m2 := mono (v - (i + 1)) (i + 1) (by omega) (by omega)
    rw [show u + (i - u) = i by omega] at m1
    rw [show i + 1 + (v - (i + 1)) = v by omega, ← weq] at m2
    grind
  have zf : ∀ t n i, u ≤ i → i + n ≤ v → Zr r c (f i) t → Zr r c (f (i + n)) t := by
    intro t n
    induction n with
    | zero => exact fun i _ _ z => z
    | succ n ih =>
      intro i h1 h2 z
      obtain ⟨a, k, S⟩ := hS (i + n) (by omega) (by omega)
      exact S.zero (hG _ (by omega) (by omega)) (deg _ _ _ (by omega) (by omega) S) (ih i h1 (by omega) z)
  have za : ∀ t i j, u ≤ i → i ≤ v → u ≤ j → j ≤ v → Zr r c (f i) t → Zr r c (f j) t := by
    intro t i j h1 h2 h3 h4 z
    have zv := zf t (v - i) i h1 (by omega) z
    rw [show i + (v - i) = v by omega] at zv
    have zu : Zr r c (f u) t := fun s hs e => by
      rw [sc.2 s hs]
      exact zv s hs (by rw [← hd s hs]; exact e)
    have := zf t (j - u) u (Nat.le_refl _) (by omega) zu
    rw [show u + (j - u) = j by omega] at this
    exact this
  have buv : ∀ t, Bs r (f u) t ↔ Bs r (f v) t := fun t => ⟨fun ⟨s, hs, e⟩ => ⟨s, hs, by rw [← hd s hs]; exact e⟩, fun ⟨s, hs, e⟩ => ⟨s, hs, by rw [hd s hs]; exact e⟩⟩
  obtain ⟨q, ⟨x, x1, x2, x3, x4⟩, qm⟩ := greatest (fun t => ∃ x, u ≤ x ∧ x < v ∧ ¬ Bs r (f x) t ∧ Bs r (f (x + 1)) t) (c + r) (fun t ⟨x, h1, h2, h3, h4⟩ => by
    obtain ⟨a, k, S⟩ := hS x h1 h2
    rw [← S.enters h3 h4]
    exact (hG x h1 (by omega)).aclt k S.2.1) (by
    obtain ⟨a, k, S⟩ := hS u (Nat.le_refl _) huv
    refine ⟨(f u).ac k, u, Nat.le_refl _, huv, fun ⟨s, hs, e⟩ => Gu.dis k s S.2.1 hs e.symm, a, by have := S.1; omega, ?_⟩
    rw [S.2.2.2.2.2.2]
    show (if a = a then (f u).ac k else _) = _
    rw [if_pos rfl])
  obtain ⟨y, y1, y2, y3, y4⟩ := turn (fun i => ¬ Bs r (f i) q) (by rw [buv q]) (i := x) (j := x + 1) ⟨x1, by omega⟩ ⟨by omega, x2⟩ x3 (fun h => h x4)
  have y3 : Bs r (f y) q := Classical.byContradiction fun h => y3 h
  obtain ⟨a', k', S'⟩ := hS x x1 x2
  obtain ⟨a, k, S⟩ := hS y y1 y2
  have eq' := S'.enters x3 x4
  have eq := S.leaves y3 y4
  have G' := hG x x1 (by omega)
  have G := hG y y1 (by omega)
  have d' := deg x a' k' x1 x2 S'
  have d0 := deg y a k y1 y2 S
  obtain ⟨π, π1, π2, π3, _⟩ := G'.price
  have di : 0 < ((f x).d : Rat)⁻¹ := Rat.inv_pos.mpr G'.dR
  obtain ⟨sa', sk', sn', sp', sm', sb', _⟩ := S'
  have ent : (f y).ac k = (f y).ac k := rfl
  have eBs : ¬ Bs r (f y) ((f y).ac k) := fun ⟨s, hs, e⟩ => G.dis k s S.2.1 hs e.symm
  have eBs' : Bs r (f (y + 1)) ((f y).ac k) := ⟨a, by have := S.1; omega, by
    rw [S.2.2.2.2.2.2]
    show (if a = a then (f y).ac k else _) = _
    rw [if_pos rfl]⟩
  obtain ⟨sa, sk, sn, sp, sm, sb, _⟩ := S
  -- prices of the table where q enters
  have rq : sumTo (r + 1) (fun i => π i * (thing c A q i : Rat)) < 0 := by
    have h := π3 k' (by omega)
    rw [sumC (r + 1) _ (fun i => π i * (thing c A q i : Rat)) (fun i _ => by
      rw [show vec c A (f x) k' i = thing c A ((f x).ac k') i from if_pos sk', eq'])] at h
    rw [h]
    have : ((f x).L r k' : Rat) < 0 := by exact_mod_cast sn'
    have := Rat.mul_pos di (show 0 < -((f x).L r k' : Rat) by grind)
    grind
  have rt : ∀ t, t < q → t < c + r → 0 ≤ sumTo (r + 1) (fun i => π i * (thing c A t i : Rat)) := by
    intro t tq tl
    rcases G'.cov t tl with ⟨j, hj, e⟩ | ⟨s, hs, e⟩
    · have h := π3 j (by omega)
      rw [sumC (r + 1) _ (fun i => π i * (thing c A t i : Rat)) (fun i _ => by
        rw [show vec c A (f x) j i = thing c A ((f x).ac j) i from if_pos hj, e])] at h
      rw [h]
      have : 0 ≤ (f x).L r j := by
        apply Classical.byContradiction
        intro n
        have := sb' d' j hj (by omega)
        omega
      have : (0 : Rat) ≤ ((f x).L r j : Rat) := by exact_mod_cast this
      exact Rat.mul_nonneg (Rat.le_of_lt di) this
    · have h := π2 s hs
      rw [e] at h
      rw [h]
      exact Rat.le_refl
  have rb : ∀ t, t < c + r → Bs r (f x) t → sumTo (r + 1) (fun i => π i * (thing c A t i : Rat)) = 0 := by
    intro t tl ⟨s, hs, e⟩
    have : s ≠ r := fun z => by
      rw [z, G'.last] at e
      omega
    have h := π2 s (by omega)
    rw [e] at h
    exact h
  have rl : sumTo (r + 1) (fun i => π i * (thing c A ((f y).dn r) i : Rat)) = 1 := by
    rw [G.last, sum1 (r + 1) _ r (by omega) (fun j _ nj => by
      rw [thing_unit, if_neg nj]
      simp), thing_unit, if_pos rfl, π1]
    simp
  -- the column that enters where q leaves, by those prices
  have main : ((f y).d : Rat) * sumTo (r + 1) (fun i => π i * (thing c A ((f y).ac k) i : Rat)) = sumTo (r + 1) (fun s => ((f y).L s k : Rat) * sumTo (r + 1) (fun i => π i * (thing c A ((f y).dn s) i : Rat))) := by
    rw [← sumTo_mul, sumC (r + 1) _ (fun i => sumTo (r + 1) (fun s => ((f y).L s k : Rat) * (π i * (thing c A ((f y).dn s) i : Rat)))) (fun i hi => ?_), sumX]
    · refine sumC _ _ _ fun s _ => ?_
      rw [sumTo_mul]
    · have h := G.rel k (by omega) i hi
      rw [show vec c A (f y) k i = thing c A ((f y).ac k) i from if_pos sk] at h
      rw [sumC (r + 1) (fun s => ((f y).L s k : Rat) * (π i * (thing c A ((f y).dn s) i : Rat))) (fun s => π i * (((f y).L s k : Rat) * bas c A (f y) s i)) (fun s _ => by
        show _ = π i * (((f y).L s k : Rat) * ((thing c A ((f y).dn s) i : Int) : Rat))
        grind), sumTo_mul, ← h]
      grind
  rw [sumS (r + 1) (fun s => ((f y).L s k : Rat) * sumTo (r + 1) (fun i => π i * (thing c A ((f y).dn s) i : Rat))) r (by omega), rl] at main
  have eF : ∃ w, u ≤ w ∧ w < v ∧ ¬ Bs r (f w) ((f y).ac k) ∧ Bs r (f (w + 1)) ((f y).ac k) := ⟨y, y1, y2, eBs, eBs'⟩
  have eLe := qm _ eF
  have eNe : (f y).ac k ≠ q := fun z => G.dis k a sk (by omega) (z.trans eq.symm)
  have re := rt ((f y).ac k) (by omega) (G.aclt k sk)
  have nR : ((f y).L r k : Rat) < 0 := by exact_mod_cast sn
  have ps : 0 < sumTo (r + 1) (fun j => if j = r then 0 else ((f y).L j k : Rat) * sumTo (r + 1) (fun i => π i * (thing c A ((f y).dn j) i : Rat))) := by
    have := Rat.mul_nonneg (Rat.le_of_lt G.dR) re
    grind
  obtain ⟨s, hs, sp0⟩ := sum_pos _ _ ps
  have sr : s ≠ r := fun z => by
    rw [if_pos z] at sp0
    grind
  rw [if_neg sr] at sp0
  have slt := G.dnlt s (by omega)
  have nb : ¬ Bs r (f x) ((f y).dn s) := fun b => by
    rw [rb _ slt b] at sp0
    grind
  have sF := turn (fun i => Bs r (f i) ((f y).dn s)) (buv _) (i := y) (j := x) ⟨y1, by omega⟩ ⟨x1, by omega⟩ ⟨s, hs, rfl⟩ nb
  have sLe := qm _ sF
  by_cases z : (f y).dn s = q
  · have : s = a := G.dnI s a hs (by omega) (z.trans eq.symm)
    rw [z] at sp0
    rw [this] at sp0
    have pR : (0 : Rat) < ((f y).L a k : Rat) := posR sp
    have := Rat.mul_pos pR (show 0 < -(sumTo (r + 1) (fun i => π i * (thing c A q i : Rat))) by grind)
    grind
  · have rs := rt ((f y).dn s) (by omega) slt
    have lp : 0 < (f y).L s k := by
      apply Classical.byContradiction
      intro n
      have : ((f y).L s k : Rat) ≤ 0 := by exact_mod_cast (show (f y).L s k ≤ 0 by omega)
      have := Rat.mul_nonneg (show 0 ≤ -((f y).L s k : Rat) by grind) rs
      grind
    have z0 := za ((f y).dn s) x y x1 (by omega) y1 (by omega) (fun s' hs' e => absurd ⟨s', hs', e⟩ nb) s hs rfl
    rcases sm s (by omega) lp with h | h
    · rw [d0, z0] at h
      simp at h
    · have := h.2
      omega
end
theorem pigeon : ∀ (B : Nat) (f : Nat → Nat), (∀ i, i ≤ B → f i < B) → ∃ i j, i < j ∧ j ≤ B ∧ f i = f j
  | 0, f, h => absurd (h 0 (Nat.le_refl _)) (Nat.not_lt_zero _)
  | B + 1, f, h => by
    by_cases z : ∃ i, i ≤ B ∧ f i = f (B + 1)
    · obtain ⟨i, hi, e⟩ := z
      exact ⟨i, B + 1, by omega, Nat.le_refl _, e⟩
    · have n : ∀ i, i ≤ B → f i ≠ f (B + 1) := fun i hi e => z ⟨i, hi, e⟩
      obtain ⟨i, j, h1, h2, e⟩ := pigeon B (fun i => if f i = B then f (B + 1) else f i) (fun i hi => by
        have a := h i (by omega)
        have b := h (B + 1) (Nat.le_refl _)
        have m := n i hi
        show (if f i = B then f (B + 1) else f i) < B
        split <;> omega)
      refine ⟨i, j, h1, by omega, ?_⟩
      have e' : (if f i = B then f (B + 1) else f i) = (if f j = B then f (B + 1) else f j) := e
      have m1 := n i (by omega)
      have m2 := n j (by omega)
      by_cases a : f i = B <;> by_cases b : f j = B
      · omega
      · rw [if_pos a, if_neg b] at e'
        exact absurd e'.symm m2
      · rw [if_neg a, if_pos b] at e'
        exact absurd e' m1
      · rw [if_neg a, if_neg b] at e'
        exact e'
def enc (B : Nat) : Nat → (Nat → Nat) → Nat
  | 0, _ => 0
  | n + 1, g => g n + B * enc B n g
theorem enc_lt (B : Nat) : ∀ (n : Nat) (g : Nat → Nat), (∀ i, i < n → g i < B) → enc B n g < B ^ n
  | 0, _, _ => by simp [enc]
  | n + 1, g, h => by
    have a := enc_lt B n g (fun i hi => h i (by omega))
    have b := h n (by omega)
    have : B * (enc B n g + 1) ≤ B * B ^ n := Nat.mul_le_mul_left _ a
    show g n + B * enc B n g < B ^ (n + 1)
    rw [Nat.pow_succ, Nat.mul_comm (B ^ n)]
    rw [Nat.mul_add] at this
    omega
theorem enc_inj (B : Nat) : ∀ (n : Nat) (g g' : Nat → Nat), (∀ i, i < n → g i < B) → (∀ i, i < n → g' i < B) → enc B n g = enc B n g' → ∀ i, i < n → g i = g' i
  | 0, _, _, _, _, _, i, h => absurd h (Nat.not_lt_zero _)
  | n + 1, g, g', h, h', e, i, hi => by
    have e' : g n + B * enc B n g = g' n + B * enc B n g' := e
    have a := h n (by omega)
    have b := h' n (by omega)
    have m : g n = g' n := by
      have := congrArg (· % B) e'
      simp only [Nat.add_mul_mod_self_left] at this
      rw [Nat.mod_eq_of_lt a, Nat.mod_eq_of_lt b] at this
      exact this
    have m2 : enc B n g = enc B n g' := by
      rw [m] at e'
      exact Nat.eq_of_mul_eq_mul_left (by omega) (Nat.add_left_cancel e')
    by_cases z : i = n
    · rw [z]
      exact m
    · exact enc_inj B n g g' (fun i hi => h i (by omega)) (fun i hi => h' i (by omega)) m2 i (by omega)
def Step (r c : Nat) (T T' : Tb) : Prop := ∃ a k, Stp r c T T' a k
def Halts (r c : Nat) : Nat → Tb → Prop
  | 0, T => ∀ T', ¬ Step r c T T'
  | m + 1, T => ∀ T', Step r c T T' → Halts r c m T'
theorem not_halts {r c : Nat} : ∀ (m : Nat) (T : Tb), ¬ Halts r c m T → ∃ f : Nat → Tb, f 0 = T ∧ ∀ i, i ≤ m → Step r c (f i) (f (i + 1))
  | 0, T, h => by
    obtain ⟨T', h'⟩ := Classical.not_forall.mp h
    have h' := Classical.not_not.mp h'
    exact ⟨fun i => if i = 0 then T else T', rfl, fun i hi => by
      have : i = 0 := by omega
      subst this
      exact h'⟩
  | m + 1, T, h => by
    obtain ⟨T', h'⟩ := Classical.not_forall.mp h
    obtain ⟨h1, h2⟩ := Classical.not_imp.mp h'
    obtain ⟨f, f0, hf⟩ := not_halts m T' h2
    refine ⟨fun i => match i with | 0 => T | i + 1 => f i, rfl, fun i hi => ?_⟩
    cases i with
    | zero =>
      show Step r c T (f 0)
      rw [f0]
      exact h1
    | succ i => exact hf i (by omega)
theorem halts {r c : Nat} {A : Nat → Nat → Int} {T : Tb} (G : Good r c A T) : Halts r c ((c + r + 1) ^ (r + 1)) T := by
  apply Classical.byContradiction
  intro n
  obtain ⟨f, f0, hf⟩ := not_halts _ T n
  have hG : ∀ i, i ≤ (c + r + 1) ^ (r + 1) → Good r c A (f i) := by
    intro i
    induction i with
    | zero => exact fun _ => by rw [f0]; exact G
    | succ i ih =>
      intro h
      obtain ⟨a, k, S⟩ := hf i (by omega)
      exact S.good (ih (by omega))
  have lt : ∀ i, i ≤ (c + r + 1) ^ (r + 1) → ∀ s, s < r + 1 → (f i).dn s < c + r + 1 := fun i hi s hs => by
    by_cases z : s = r
    · rw [z, (hG i hi).last]
      omega
    · have := (hG i hi).dnlt s (by omega)
      omega
  obtain ⟨u, v, h1, h2, e⟩ := pigeon _ (fun i => enc (c + r + 1) (r + 1) (f i).dn) (fun i hi => enc_lt _ _ _ (lt i hi))
  exact no_return h1 (fun i a b => hG i (by omega)) (fun i a b => hf i (by omega)) (enc_inj _ _ _ _ (lt u (by omega)) (lt v h2) e)
end Px

set_option maxHeartbeats 4000000
namespace Px
open Ty (sumTo sumTo_add sumTo_mul sumTo_zero)
theorem sum_split : ∀ (m n : Nat) (f : Nat → Rat), sumTo (m + n) f = sumTo m f + sumTo n (fun i => f (m + i))
  | 0, n, f => by
    rw [Nat.zero_add, sumC n (fun i => f (0 + i)) f (fun i _ => by rw [Nat.zero_add])]
    show _ = 0 + _
    grind
  | m + 1, n, f => by
    rw [show m + 1 + n = (m + n) + 1 by omega]
    show f 0 + sumTo (m + n) (fun i => f (i + 1)) = f 0 + sumTo m (fun i => f (i + 1)) + _
    rw [sum_split m n (fun i => f (i + 1)), sumC n (fun i => f (m + 1 + i)) (fun i => f (m + i + 1)) (fun i _ => by rw [show m + 1 + i = m + i + 1 by omega])]
    grind
theorem sum_last (m : Nat) (f : Nat → Rat) : sumTo (m + 1) f = sumTo m f + f m := by
  rw [sum_split m 1 f]
  show _ + (f (m + 0) + 0) = _
  rw [Nat.add_zero]
  grind
theorem sum_ind (m e : Nat) (w : Rat) (F : Nat → Rat) (h : e < m) : sumTo m (fun t => (if e = t then w else 0) * F t) = w * F e := by
  rw [sum1 m _ e h (fun j _ nj => by rw [if_neg (Ne.symm nj)]; grind), if_pos rfl]
theorem sum_things (m n : Nat) (e : Nat → Nat) (w : Nat → Rat) (F : Nat → Rat) (h : ∀ s, s < n → e s < m) : sumTo m (fun t => sumTo n (fun s => if e s = t then w s else 0) * F t) = sumTo n (fun s => w s * F (e s)) := by
  rw [sumC m _ (fun t => sumTo n (fun s => (if e s = t then w s else 0) * F t)) (fun t _ => by
    rw [sumC n (fun s => (if e s = t then w s else 0) * F t) (fun s => F t * (if e s = t then w s else 0)) (fun _ _ => by grind), sumTo_mul]
    grind), sumX]
  exact sumC _ _ _ fun s hs => sum_ind m (e s) (w s) F (h s hs)
theorem things_split {r c : Nat} {A : Nat → Nat → Int} (W : Nat → Rat) {i : Nat} (hi : i < r + 1) : sumTo (c + (r + 1)) (fun t => W t * (thing c A t i : Rat)) = sumTo c (fun t => W t * (A i t : Rat)) + W (c + i) := by
  rw [sum_split, sumC c _ (fun t => W t * (A i t : Rat)) (fun t ht => by
    unfold thing
    rw [if_pos ht]), sum1 (r + 1) _ i hi (fun j _ nj => by
    rw [thing_unit, if_neg (Ne.symm nj)]
    simp), thing_unit, if_pos rfl]
  simp
section
variable {r c : Nat} {A : Nat → Nat → Int} {T : Tb} {k : Nat}
theorem Good.dnl (G : Good r c A T) {s : Nat} (hs : s < r + 1) : T.dn s < c + (r + 1) := by
  by_cases z : s = r
  · rw [z, G.last]
    omega
  · have := G.dnlt s (by omega)
    omega
theorem Good.primal (G : Good r c A T) : ∃ W : Nat → Rat, (∀ s, s < r + 1 → W (T.dn s) = (T.d : Rat)⁻¹ * (T.L s c : Rat)) ∧ (∀ t, (∀ s, s < r + 1 → T.dn s ≠ t) → W t = 0) ∧ ∀ i, i < r + 1 → sumTo c (fun t => W t * (A i t : Rat)) + W (c + i) = (A i c : Rat) := by
  refine ⟨fun t => sumTo (r + 1) (fun s => if T.dn s = t then (T.d : Rat)⁻¹ * (T.L s c : Rat) else 0), fun s hs => ?_, fun t h => ?_, fun i hi => ?_⟩
  · show sumTo (r + 1) _ = _
    rw [sum1 (r + 1) _ s hs (fun j hj nj => if_neg fun e => nj (G.dnI j s hj hs e)), if_pos rfl]
  · exact sumZ _ _ fun s hs => if_neg (h s hs)
  · rw [← things_split (A := A) _ hi, sum_things _ _ _ _ _ (fun s hs => G.dnl hs)]
    have h := G.relD (Nat.le_refl c) hi
    rw [show vec c A T c i = A i c from if_neg (Nat.lt_irrefl c)] at h
    rw [h]
    rfl
theorem Good.ray (G : Good r c A T) (hk : k < c) : ∃ W : Nat → Rat, W (T.ac k) = (T.d : Rat) ∧ (∀ s, s < r + 1 → W (T.dn s) = -(T.L s k : Rat)) ∧ (∀ t, T.ac k ≠ t → (∀ s, s < r + 1 → T.dn s ≠ t) → W t = 0) ∧ ∀ i, i < r + 1 → sumTo c (fun t => W t * (A i t : Rat)) + W (c + i) = 0 := by
  refine ⟨fun t => (if T.ac k = t then (T.d : Rat) else 0) + sumTo (r + 1) (fun s => if T.dn s = t then -(T.L s k : Rat) else 0), ?_, fun s hs => ?_, fun t h h' => ?_, fun i hi => ?_⟩
  · show (if T.ac k = T.ac k then (T.d : Rat) else 0) + sumTo (r + 1) _ = _
    rw [if_pos rfl, sumZ _ _ fun s hs => if_neg fun e => G.dis k s hk hs e.symm]
    grind
  · show (if T.ac k = T.dn s then (T.d : Rat) else 0) + sumTo (r + 1) _ = _
    rw [if_neg (G.dis k s hk hs), sum1 (r + 1) _ s hs (fun j hj nj => if_neg fun e => nj (G.dnI j s hj hs e)), if_pos rfl]
    grind
  · show (if T.ac k = t then (T.d : Rat) else 0) + sumTo (r + 1) _ = _
    rw [if_neg h, sumZ _ _ fun s hs => if_neg (h' s hs)]
    grind
  · rw [← things_split (A := A) _ hi, sumC _ _ (fun t => (if T.ac k = t then (T.d : Rat) else 0) * (thing c A t i : Rat) + sumTo (r + 1) (fun s => if T.dn s = t then -(T.L s k : Rat) else 0) * (thing c A t i : Rat)) (fun t _ => by grind), sumTo_add, sum_ind _ _ _ _ (by have := G.aclt k hk; omega), sum_things _ _ _ _ _ (fun s hs => G.dnl hs)]
    have h := G.rel k (Nat.le_of_lt hk) i hi
    rw [show vec c A T k i = thing c A (T.ac k) i from if_pos hk] at h
    rw [h, sumC (r + 1) (fun s => -(T.L s k : Rat) * (thing c A (T.dn s) i : Rat)) (fun s => -((T.L s k : Rat) * bas c A T s i)) (fun s _ => by
      show _ = -((T.L s k : Rat) * (thing c A (T.dn s) i : Rat))
      grind), sumN]
    grind
theorem Good.dual (G : Good r c A T) : ∃ π : Nat → Rat, (∀ j i, j < c → i < r → T.ac j = c + i → π i = (T.d : Rat)⁻¹ * (T.L r j : Rat)) ∧ (∀ s i, s < r → i < r → T.dn s = c + i → π i = 0) ∧ (∀ j t, j < c → t < c → T.ac j = t → sumTo r (fun i => π i * (A i t : Rat)) + (A r t : Rat) = (T.d : Rat)⁻¹ * (T.L r j : Rat)) ∧
    (∀ s t, s < r → t < c → T.dn s = t → sumTo r (fun i => π i * (A i t : Rat)) + (A r t : Rat) = 0) ∧ sumTo r (fun i => π i * (A i c : Rat)) + (A r c : Rat) = (T.d : Rat)⁻¹ * (T.L r c : Rat) := by
  obtain ⟨π, π1, π2, π3, π4⟩ := G.price
  have lst : ∀ F : Nat → Int, sumTo (r + 1) (fun i => π i * (F i : Rat)) = sumTo r (fun i => π i * (F i : Rat)) + (F r : Rat) := fun F => by
    rw [sum_last, π1]
    grind
  have col : ∀ t, t < c → sumTo (r + 1) (fun i => π i * (thing c A t i : Rat)) = sumTo r (fun i => π i * (A i t : Rat)) + (A r t : Rat) := fun t ht => by
    rw [sumC (r + 1) _ (fun i => π i * (A i t : Rat)) (fun i _ => by
      unfold thing
      rw [if_pos ht]), lst (fun i => A i t)]
  refine ⟨π, fun j i hj hi e => ?_, fun s i hs hi e => ?_, fun j t hj ht e => ?_, fun s t hs ht e => ?_, ?_⟩
  · rw [← π4 i hi, ← π3 j (by omega)]
    refine sumC _ _ _ fun q _ => ?_
    rw [show vec c A T j q = thing c A (T.ac j) q from if_pos hj, e]
  · rw [← π4 i hi, ← π2 s hs]
    refine sumC _ _ _ fun q _ => ?_
    rw [e]
  · rw [← col t ht, ← π3 j (by omega)]
    refine sumC _ _ _ fun q _ => ?_
    rw [show vec c A T j q = thing c A (T.ac j) q from if_pos hj, e]
  · rw [← col t ht, ← π2 s hs]
    refine sumC _ _ _ fun q _ => ?_
    rw [e]
  · rw [← lst (fun i => A i c), ← π3 c (Nat.le_refl _)]
    refine sumC _ _ _ fun q _ => ?_
    rw [show vec c A T c q = A q c from if_neg (Nat.lt_irrefl c)]
end
structure OptF (r c : Nat) (g : Nat → Rat) (a : Nat → Nat → Rat) (l : Nat → Rat) (w : Rat) (x y : Nat → Rat) : Prop where
  xp : ∀ t, t < c → 0 ≤ x t
  fit : ∀ i, i < r → sumTo c (fun t => a i t * x t) ≤ l i
  wth : sumTo c (fun t => g t * x t) = w
  yp : ∀ i, i < r → 0 ≤ y i
  prc : ∀ t, t < c → g t ≤ sumTo r (fun i => y i * a i t)
  wty : sumTo r (fun i => y i * l i) = w
structure EndF (r c : Nat) (g : Nat → Rat) (a : Nat → Nat → Rat) (x : Nat → Rat) : Prop where
  xp : ∀ t, t < c → 0 ≤ x t
  fit : ∀ i, i < r → sumTo c (fun t => a i t * x t) ≤ 0
  wth : sumTo c (fun t => g t * x t) = 1
structure Lay (r c : Nat) (A : Nat → Nat → Int) (g : Nat → Rat) (a : Nat → Nat → Rat) (l : Nat → Rat) (b : Nat → Int) (gb : Int) : Prop where
  bp : ∀ i, i < r → 0 < b i
  gp : 0 < gb
  row : ∀ i t, i < r → t < c → (A i t : Rat) = a i t * (b i : Rat)
  lim : ∀ i, i < r → (A i c : Rat) = l i * (b i : Rat)
  gain : ∀ t, t < c → (A r t : Rat) = -(g t * (gb : Rat))
  nul : A r c = 0
section
variable {r c : Nat} {A : Nat → Nat → Int} {T : Tb} {k : Nat} {g : Nat → Rat} {a : Nat → Nat → Rat} {l : Nat → Rat} {b : Nat → Int} {gb : Int}
theorem le_of_mul {x y z : Rat} (hz : 0 < z) (h : x * z ≤ y * z) : x ≤ y := by
  apply Classical.byContradiction
  intro n
  have := Rat.mul_pos (show 0 < x - y by grind) hz
  grind
theorem Good.most (G : Good r c A T) (L : Lay r c A g a l b gb) (opt : ∀ j, j < c → 0 ≤ T.L r j) {x y : Nat → Rat} {w : Rat}
    (hx : ∀ t, t < c → (∀ s, s < r → T.dn s = t → x t = (T.L s c : Rat) / (T.d : Rat)) ∧ ((∀ s, s < r → T.dn s ≠ t) → x t = 0))
    (hy : ∀ i, i < r → (∀ j, j < c → T.ac j = c + i → y i = ((T.L r j * b i : Int) : Rat) / ((T.d * gb : Int) : Rat)) ∧ ((∀ j, j < c → T.ac j ≠ c + i) → y i = 0)) (hw : w = (T.L r c : Rat) / ((T.d * gb : Int) : Rat)) : OptF r c g a l w x y := by
  obtain ⟨W, W1, W2, W3⟩ := G.primal
  obtain ⟨π, p1, p2, p3, p4, p5⟩ := G.dual
  have dp := G.dR
  have gp := posR L.gp
  have di : 0 < (T.d : Rat)⁻¹ := Rat.inv_pos.mpr dp
  have gi : 0 < (gb : Rat)⁻¹ := Rat.inv_pos.mpr gp
  have gv := Rat.inv_mul_cancel _ (show (gb : Rat) ≠ 0 by grind)
  have dg : ∀ z : Int, (z : Rat) / ((T.d * gb : Int) : Rat) = (gb : Rat)⁻¹ * ((T.d : Rat)⁻¹ * (z : Rat)) := fun z => by
    have : ((T.d * gb : Int) : Rat) = (T.d : Rat) * (gb : Rat) := by push_cast; rfl
    rw [this]
    grind
  have W0 : ∀ t, t < c + r → 0 ≤ W t := fun t ht => by
    by_cases z : ∃ s, s < r + 1 ∧ T.dn s = t
    · obtain ⟨s, hs, e⟩ := z
      have : s ≠ r := fun y => by rw [y, G.last] at e; omega
      rw [← e, W1 s hs]
      have f := G.fea s (by omega)
      have : (0 : Rat) ≤ (T.L s c : Rat) := by exact_mod_cast f
      exact Rat.mul_nonneg (Rat.le_of_lt di) this
    · rw [W2 t (fun s hs e => z ⟨s, hs, e⟩)]
      exact Rat.le_refl
  have xW : ∀ t, t < c → x t = W t := fun t ht => by
    by_cases z : ∃ s, s < r ∧ T.dn s = t
    · obtain ⟨s, hs, e⟩ := z
      rw [(hx t ht).1 s hs e, ← e, W1 s (by omega)]
      grind
    · rw [(hx t ht).2 (fun s hs e => z ⟨s, hs, e⟩), W2 t (fun s hs e => ?_)]
      by_cases y : s = r
      · rw [y, G.last] at e
        omega
      · exact z ⟨s, by omega, e⟩
  have yπ : ∀ i, i < r → y i = (gb : Rat)⁻¹ * (π i * (b i : Rat)) := fun i hi => by
    rcases G.cov (c + i) (by omega) with ⟨j, hj, e⟩ | ⟨s, hs, e⟩
    · rw [(hy i hi).1 j hj e, p1 j i hj hi e, dg]
      push_cast
      grind
    · rw [(hy i hi).2 (fun j hj e' => G.dis j s hj (by omega) (e'.trans e.symm)), p2 s i hs hi e]
      grind
  have πp : ∀ i, i < r → 0 ≤ π i := fun i hi => by
    rcases G.cov (c + i) (by omega) with ⟨j, hj, e⟩ | ⟨s, hs, e⟩
    · rw [p1 j i hj hi e]
      have : (0 : Rat) ≤ (T.L r j : Rat) := by exact_mod_cast opt j hj
      exact Rat.mul_nonneg (Rat.le_of_lt di) this
    · rw [p2 s i hs hi e]
      exact Rat.le_refl
  have Wr : W (c + r) = (T.d : Rat)⁻¹ * (T.L r c : Rat) := by
    rw [← G.last]
    exact W1 r (by omega)
  refine ⟨fun t ht => by rw [xW t ht]; exact W0 t (by omega), fun i hi => ?_, ?_, fun i hi => ?_, fun t ht => ?_, ?_⟩
  · have h := W3 i (by omega)
    have w0 := W0 (c + i) (by omega)
    have bi := posR (L.bp i hi)
    refine le_of_mul bi ?_
    rw [← L.lim i hi, ← h, sumC c (fun t => W t * (A i t : Rat)) (fun t => (b i : Rat) * (a i t * x t)) (fun t ht => by
      rw [L.row i t hi ht, xW t ht]
      grind), sumTo_mul]
    grind
  · have h := W3 r (by omega)
    rw [L.nul, Wr, sumC c (fun t => W t * (A r t : Rat)) (fun t => (-(gb : Rat)) * (g t * x t)) (fun t ht => by
      rw [L.gain t ht, xW t ht]
      grind), sumTo_mul] at h
    rw [hw, dg]
    have h' : (gb : Rat) * sumTo c (fun t => g t * x t) = (T.d : Rat)⁻¹ * (T.L r c : Rat) := by
      have : ((0 : Int) : Rat) = 0 := rfl
      rw [this] at h
      grind
    rw [← h', ← Rat.mul_assoc, gv]
    grind
  · rw [yπ i hi]
    exact Rat.mul_nonneg (Rat.le_of_lt gi) (Rat.mul_nonneg (πp i hi) (Rat.le_of_lt (posR (L.bp i hi))))
  · have h : 0 ≤ sumTo r (fun i => π i * (A i t : Rat)) + (A r t : Rat) := by
      rcases G.cov t (by omega) with ⟨j, hj, e⟩ | ⟨s, hs, e⟩
      · rw [p3 j t hj ht e]
        have : (0 : Rat) ≤ (T.L r j : Rat) := by exact_mod_cast opt j hj
        exact Rat.mul_nonneg (Rat.le_of_lt di) this
      · rw [p4 s t hs ht e]
        exact Rat.le_refl
    rw [L.gain t ht, sumC r (fun i => π i * (A i t : Rat)) (fun i => (gb : Rat) * (y i * a i t)) (fun i hi => by
      rw [L.row i t hi ht, yπ i hi]
      have : (gb : Rat) * ((gb : Rat)⁻¹ * (π i * (b i : Rat)) * a i t) = ((gb : Rat)⁻¹ * (gb : Rat)) * (π i * (b i : Rat) * a i t) := by grind
      rw [this, gv]
      grind), sumTo_mul] at h
    refine le_of_mul gp ?_
    grind
  · have h := p5
    rw [L.nul, sumC r (fun i => π i * (A i c : Rat)) (fun i => (gb : Rat) * (y i * l i)) (fun i hi => by
      rw [L.lim i hi, yπ i hi]
      have : (gb : Rat) * ((gb : Rat)⁻¹ * (π i * (b i : Rat)) * l i) = ((gb : Rat)⁻¹ * (gb : Rat)) * (π i * (b i : Rat) * l i) := by grind
      rw [this, gv]
      grind), sumTo_mul] at h
    rw [hw, dg]
    have h' : (gb : Rat) * sumTo r (fun i => y i * l i) = (T.d : Rat)⁻¹ * (T.L r c : Rat) := by
      have : ((0 : Int) : Rat) = 0 := rfl
      rw [this] at h
      grind
    rw [← h', ← Rat.mul_assoc, gv]
    grind
theorem Good.endless (G : Good r c A T) (L : Lay r c A g a l b gb) (hk : k < c) (hn : T.L r k < 0) (free : ∀ s, s < r → T.L s k ≤ 0) {x : Nat → Rat}
    (hx : ∀ t, t < c → (T.ac k = t → x t = ((T.d * gb : Int) : Rat) / ((-(T.L r k) : Int) : Rat)) ∧ (∀ s, s < r → T.dn s = t → x t = ((-(T.L s k) * gb : Int) : Rat) / ((-(T.L r k) : Int) : Rat)) ∧ (T.ac k ≠ t → (∀ s, s < r → T.dn s ≠ t) → x t = 0)) : EndF r c g a x := by
  obtain ⟨W, W1, W2, W3, W4⟩ := G.ray hk
  have dp := G.dR
  have gp := posR L.gp
  have np : (0 : Rat) < ((-(T.L r k) : Int) : Rat) := posR (by omega)
  have ni : 0 < ((-(T.L r k) : Int) : Rat)⁻¹ := Rat.inv_pos.mpr np
  have nv := Rat.inv_mul_cancel _ (show ((-(T.L r k) : Int) : Rat) ≠ 0 by grind)
  have W0 : ∀ t, t < c + r → 0 ≤ W t := fun t ht => by
    by_cases z : ∃ s, s < r + 1 ∧ T.dn s = t
    · obtain ⟨s, hs, e⟩ := z
      have : s ≠ r := fun y => by rw [y, G.last] at e; omega
      rw [← e, W2 s hs]
      have f := free s (by omega)
      have : (T.L s k : Rat) ≤ 0 := by exact_mod_cast f
      grind
    · by_cases y : T.ac k = t
      · rw [← y, W1]
        exact Rat.le_of_lt dp
      · rw [W3 t y (fun s hs e => z ⟨s, hs, e⟩)]
        exact Rat.le_refl
  have xW : ∀ t, t < c → x t = (((-(T.L r k) : Int) : Rat)⁻¹ * (gb : Rat)) * W t := fun t ht => by
    by_cases y : T.ac k = t
    · rw [(hx t ht).1 y, ← y, W1]
      push_cast
      grind
    · by_cases z : ∃ s, s < r ∧ T.dn s = t
      · obtain ⟨s, hs, e⟩ := z
        rw [(hx t ht).2.1 s hs e, ← e, W2 s (by omega)]
        push_cast
        grind
      · rw [(hx t ht).2.2 y (fun s hs e => z ⟨s, hs, e⟩), W3 t y (fun s hs e => ?_)]
        · grind
        · by_cases y' : s = r
          · rw [y', G.last] at e
            omega
          · exact z ⟨s, by omega, e⟩
  have ng : 0 < ((-(T.L r k) : Int) : Rat)⁻¹ * (gb : Rat) := Rat.mul_pos ni gp
  have Wr : W (c + r) = ((-(T.L r k) : Int) : Rat) := by
    rw [← G.last, W2 r (by omega)]
    push_cast
    rfl
  refine ⟨fun t ht => by rw [xW t ht]; exact Rat.mul_nonneg (Rat.le_of_lt ng) (W0 t (by omega)), fun i hi => ?_, ?_⟩
  · have h := W4 i (by omega)
    have w0 := W0 (c + i) (by omega)
    have bi := posR (L.bp i hi)
    have e : sumTo c (fun t => a i t * x t) * (b i : Rat) = (((-(T.L r k) : Int) : Rat)⁻¹ * (gb : Rat)) * sumTo c (fun t => W t * (A i t : Rat)) := by
      rw [← sumTo_mul, Rat.mul_comm, ← sumTo_mul]
      refine sumC _ _ _ fun t ht => ?_
      rw [L.row i t hi ht, xW t ht]
      grind
    refine le_of_mul bi ?_
    rw [e]
    have : sumTo c (fun t => W t * (A i t : Rat)) = -(W (c + i)) := by grind
    rw [this]
    have := Rat.mul_nonneg (Rat.le_of_lt ng) w0
    grind
  · have h := W4 r (by omega)
    rw [Wr] at h
    have e : sumTo c (fun t => g t * x t) = (-(((-(T.L r k) : Int) : Rat)⁻¹)) * sumTo c (fun t => W t * (A r t : Rat)) := by
      rw [← sumTo_mul]
      refine sumC _ _ _ fun t ht => ?_
      rw [L.gain t ht, xW t ht]
      grind
    rw [e]
    have : sumTo c (fun t => W t * (A r t : Rat)) = -(((-(T.L r k) : Int) : Rat)) := by grind
    rw [this]
    grind
end
end Px

set_option maxHeartbeats 4000000
namespace Ty
open PySem PySem.Spec PyProof.Rows L2
theorem comp_rangeF {D : Addr} {te : TE} {tt : TT} {cap : L2.St} {H1 : Hp} {Q : VK} {n : Nat} (p : Nat → Bool) (nD : H1 D = none) (hn : n < sizeLine)
    (ht : ∀ (i : Nat) H (R : Bool → Hp → Prop), i < n → Same H1 H → R (p i) H → tt (some (.int (0 + (i : Int))) :: cap) H R)
    (he : ∀ (i : Nat) H (R : VK), i < n → Same H1 H → R (.int (i : Int)) H → te (some (.int (0 + (i : Int))) :: cap) H R)
    (hd : ∀ H, Same H1 H → H D = some (.lst (((List.range n).filter p).map fun (i : Nat) => V.int (i : Int))) → Q (.ref D) H) :
    tBlk D (gName 0) tt te (Itr 0 n) (none :: cap) H1 Q := by
  refine ⟨fun i m σ ys H => m = n - i ∧ i ≤ n ∧ (∃ o, σ = o :: cap) ∧ Same H1 H ∧ H D = some (.lst ys) ∧ ys = ((List.range i).filter p).map fun (i : Nat) => V.int (i : Int), ⟨n, by simp, Nat.zero_le _, ⟨none, rfl⟩, fun b o e => by rw [upd_ne (ne_of_none e nD)]; exact e, upd_same, rfl⟩, ?_⟩
  rintro i m σ ys H ⟨rfl, hi, ⟨o, rfl⟩, s, hD, ey⟩
  by_cases hlt : i < n
  · refine .inr ⟨hlt, fun x H' y => ?_⟩
    obtain ⟨e1, e2⟩ := y
    subst e1 e2
    unfold gName
    refine ht i _ _ hlt s ?_
    have er : ((List.range (i + 1)).filter p).map (fun (i : Nat) => V.int (i : Int)) = ys ++ (if p i = true then [V.int (i : Int)] else []) := by
      rw [List.range_succ, List.filter_append, List.map_append, ← ey]
      by_cases z : p i = true
      · rw [if_pos z, List.filter_cons_of_pos z]
        rfl
      · rw [if_neg z, List.filter_cons_of_neg z]
        rfl
    by_cases z : p i = true
    · rw [if_pos z]
      rw [if_pos z] at er
      refine he i _ _ hlt s ⟨hD, ?_, n - (i + 1), by omega, rfl, by omega, ⟨_, rfl⟩, ?_, upd_same, er.symm⟩
      · have : ys.length ≤ i := by
          rw [ey, List.length_map]
          exact Nat.le_trans (List.length_filter_le _ _) (by simp)
        omega
      · exact fun b o e => by
          rw [upd_ne (ne_of_none e nD)]
          exact s _ _ e
    · rw [if_neg z]
      rw [if_neg z, List.append_nil] at er
      exact ⟨n - (i + 1), by omega, rfl, by omega, ⟨_, rfl⟩, s, hD, er.symm⟩
  · have e : i = n := by omega
    subst e
    exact .inl ⟨Nat.le_refl _, hd H s (by rw [hD, ey])⟩
section
variable {X : Cx}
def tListR2 (ta : TA) : TE := fun σ H Q => ta σ H fun vs H1 => ∃ (a n : Nat), vs = [.int (a : Int), .int ((a : Int) + n)] ∧ a ≤ 1000 ∧ n ≤ 1000 ∧ ∀ l, H1 l = none → Q (.ref l) (upd H1 l (.lst ((List.range n).map fun (i : Nat) => V.int ((a : Int) + i))))
theorem pe_listR2 {a b : Expr} {ta : TA} {p p2 pos pos2 : Pos} (hc : X.calm = true) (hg : Gl X "list") (hm : X.mg "list" = none) (hg2 : Gl X "range") (hm2 : X.mg "range" = none) (ha : PA X [a, b] ta) (hs : starEach [a, b] X.env = [(false, eval a X.env), (false, eval b X.env)] := by rfl) (hs2 : starEach [b] X.env = [(false, eval b X.env)] := by rfl)
    (he : starEach [.Call (.Name "range" p2) [a, b] [] pos2] X.env = [(false, eval (.Call (.Name "range" p2) [a, b] [] pos2) X.env)] := by rfl) : PE X (.Call (.Name "list" p) [.Call (.Name "range" p2) [a, b] [] pos2] [] pos) (tListR2 ta) := by
  intro pins s σ H Q I h
  refine Call_ (ld_blt I hg hm b_list (PyProof.Rows.callWith_type1 ?_ he rfl))
  rw [he]
  show wpAny _ _ (spliced ((false, eval (.Call (.Name "range" p2) [a, b] [] pos2) X.env) :: [])) _ _ s
  refine Calls.spliced_cons ?_
  refine Call_ (ld_blt I hg2 hm2 boot_range (PyProof.Rows.callWith_type1 (thn (ha pos2 pins s σ H _ I h) fun us s1 ⟨vs, H1, I1, r1, q1⟩ => ?_) (by rw [hs, hs2]) (by rw [hs2]; rfl)))
  obtain ⟨a0, n, e, h0, hn, q⟩ := q1
  subst e
  cases r1 with
  | cons r rr =>
  cases rr with
  | cons r' rr =>
    cases rr
    obtain ⟨t, rfl⟩ := r
    obtain ⟨t', rfl⟩ := r'
    refine call_range_2 (Calls.spliced_nil ?_)
    have I2 : Inv X pins σ H1 { s1 with heap := s1.heap.push { cls := .type "range", data := .fields #[.int (a0 : Int) t, .int ((a0 : Int) + n) t', .int 1 s1.toks] }, toks := s1.toks + 1 } := I1.kept fun b o e => Heap.get?_push_of_some _ e
    refine call_list_range (n := n) (I1.ok.hd hc) (IsRange.new ..) (small_one (by omega) (by omega) (by omega) (by omega)) (by rw [rangeSize_one]; split <;> omega) (Nat.le_trans hn (by decide)) fun h' tk acc' c' kk hS hacc => ?_
    have hn' := I2.hok.fresh (Nat.le_refl (s1.heap.push { cls := .type "range", data := .fields #[.int (a0 : Int) t, .int ((a0 : Int) + n) t', .int 1 s1.toks] }).objs.size)
    have rv : Vals ((List.range n).map fun (i : Nat) => V.int ((a0 : Int) + i)) acc'.toList := paired_of (by have := hacc.1; simp; omega) fun i a b e1 e2 => by
      rw [List.getElem?_map] at e1
      obtain ⟨j, ej, rfl⟩ := Option.map_eq_some_iff.mp e1
      obtain ⟨hj, rfl⟩ := List.getElem?_eq_some_iff.mp ej
      obtain ⟨t', e4⟩ := hacc.2 i b (by simpa using e2)
      rw [List.getElem_range]
      exact ⟨t', by rw [e4]; simp⟩
    have I3 := I2.laid (t' := tk) (o := .lst ((List.range n).map fun (i : Nat) => V.int ((a0 : Int) + i))) kk (Nat.le_refl _) ⟨by simp; exact Nat.le_trans hn (by decide), acc'.toList, c', rv, by simpa using hS⟩
    exact ⟨.ref _, _, I3, rfl, q _ hn'⟩
end
theorem fun_okC {P : Program} {w : World} {K : PySem.W.Frag} {mg : Str → Option Value} {base : Heap} {name qual : Str} {st : Stmt} {f cA : Addr} {N ps : List Str} {k : Nat} {sp : Sp} {oc kV dc pm ct : Value} {od an : Option Addr} {sl : Array (Option Value)}
    (lk : K.lookup f = some ⟨oc, od, .func (PySem.W.fnOf name qual (defArgs st) (defBody st) (defScope st) .none kV dc pm an (.ref cA) ct), sl⟩) (hcd : PySem.W.codeIn K (.ref cA) qual = true) (S : FnScope N ps (defScope st)) (len : ∀ vs H Q E, sp vs H Q E → vs.length = ps.length)
    (hbody : ∀ (A : Around) (outer : List Env) (s : Shared) (H : Hp) (vs : List V) (Q : VK) (E : XK), Room k (A.deeper (envOfC qual (defScope st) s.heap.objs.size f (.ref cA))) → sp vs H Q E →
      ∃ t, PSs (cxr P w K mg base N qual (defScope st) f (.ref cA) A outer s H E).nox (defBody st) t ∧ t { nx := fun _ H' => Q .non H', rt := Q } (start N vs) H) : FnOk P w K mg base (CXr P w) (k + 1) f (PySem.W.fnOf name qual (defArgs st) (defBody st) (defScope st) .none kV dc pm an (.ref cA) ct) ps sp :=
  fn_of lk hcd S len fun A outer s H vs Q E hr hsp => by
    obtain ⟨t, h, q⟩ := hbody A outer s H vs Q E hr hsp
    exact ⟨t, h.nox, q⟩
theorem fun_okN {P : Program} {w : World} {K : PySem.W.Frag} {mg : Str → Option Value} {base : Heap} {name qual : Str} {st : Stmt} {f : Addr} {fd : FuncData} {N ps : List Str} {k : Nat} {sp : Sp} (F : Fun K name qual st f fd) (S : FnScope N ps (defScope st)) (len : ∀ vs H Q E, sp vs H Q E → vs.length = ps.length)
    (hbody : ∀ (cdv : Value) (A : Around) (outer : List Env) (s : Shared) (H : Hp) (vs : List V) (Q : VK) (E : XK), Room k (A.deeper (envOfC qual (defScope st) s.heap.objs.size f cdv)) → sp vs H Q E →
      ∃ t, PSs (cxr P w K mg base N qual (defScope st) f cdv A outer s H E).nox (defBody st) t ∧ t { nx := fun _ H' => Q .non H', rt := Q } (start N vs) H) : FnOk P w K mg base (CXr P w) (k + 1) f fd ps sp := by
  obtain ⟨oc, od, kV, doc, pm, an, cdv, ct, osl, rfl, lk, hcd⟩ := F.ex
  exact fn_of lk hcd S len fun A outer s H vs Q E hr hsp => by
    obtain ⟨t, h, q⟩ := hbody cdv A outer s H vs Q E hr hsp
    exact ⟨t, h.nox, q⟩
theorem Room.two {k : Nat} {A : Around} (r : Room k A) : A.in1.in1.depth < recursionLimit := by
  have := r.dp
  show A.depth < recursionLimit
  omega
section
variable {X : Cx} {e o : Expr} {es : List Expr} {ta : TE} {t : TA} {f m : Str} {pos apos : Pos} {P : Program} {w : World} {K : PySem.W.Frag} {mg : Str → Option Value} {base : Heap} {CX : CXT} {k : Nat} {E : XK}
theorem pe_fldK (h : X.K = K) (he : PE X e ta) (hb : attributeBase e f X.env (eval e X.env) = eval e X.env) : PE X (.Attribute e f pos) (tFld K ta f) := by subst h; exact pe_fld he hb
theorem pe_mtdK {pl : Sem Bool} (h1 : X.prog = P) (h2 : X.w = w) (h3 : X.K = K) (h4 : X.mg = mg) (h5 : X.base = base) (he : PE X o ta) (hr : Room k X.A) (hx : Passes CX X E) (ha : PA X (e :: es) t)
    (hst : starEach (e :: es) X.env = (false, eval e X.env) :: starEach es X.env := by rfl) (hpl : (backTo pos (starEach es X.env)).any (·.1) = false := by rfl)
    (ht : eval (.Call (.Attribute o m apos) (e :: es) [] pos) X.env = (do
      let ov ← eval o X.env
      standAt apos.atName
      let (f, first) ← holding [ov] (getMethod ov m pl)
      callWith pos f first (backTo pos (starEach (e :: es) X.env)) (backToKw pos (keywordEach [] X.env))) := by rfl) :
    PE X (.Call (.Attribute o m apos) (e :: es) [] pos) (tMtd P w K mg base CX k m E ta t) := by
  subst h1 h2 h3 h4 h5
  exact pe_mtd he hr hx ha hst hpl ht
end
theorem atI_end {us : List V} {u : V} (h : us[us.length - 1]? = some u) : atI us (-1) = some u := by
  have hl : us.length - 1 < us.length := (List.getElem?_eq_some_iff.mp h).1
  have e : us = us.take (us.length - 1) ++ [u] := by
    refine List.ext_getElem? fun i => ?_
    rw [List.getElem?_append, List.length_take]
    by_cases z : i < us.length - 1
    · rw [if_pos (by omega), List.getElem?_take_of_lt z]
    · rw [if_neg (by omega)]
      by_cases y : i = us.length - 1
      · rw [y, h]
        simp [Nat.min_eq_left (Nat.sub_le _ _)]
      · rw [List.getElem?_eq_none (by omega), List.getElem?_eq_none (by simp; omega)]
  rw [e]
  exact atI_last _ _
theorem ixN_i {n j : Nat} (h : j < n) : ixN n (j : Int) = some j := by
  unfold ixN
  rw [if_pos (by omega), if_pos (by omega)]
  simp
def ln (n : Nat) (F : Nat → Int) : List V := (List.range n).map fun j => V.int (F j)
theorem ln_len {n : Nat} {F : Nat → Int} : (ln n F).length = n := by simp [ln]
theorem ln_get {n : Nat} {F : Nat → Int} {j : Nat} (h : j < n) : (ln n F)[j]? = some (.int (F j)) := by
  unfold ln
  rw [List.getElem?_map, List.getElem?_range h]
  rfl
theorem ln_i {n : Nat} {F : Nat → Int} {j : Nat} (h : j < n) : atI (ln n F) (j : Int) = some (.int (F j)) := atI_nat (ln_get h)
theorem ln_i0 {n : Nat} {F : Nat → Int} {j : Nat} (h : j < n) : atI (ln n F) (0 + (j : Int)) = some (.int (F j)) := by
  rw [Int.zero_add]
  exact ln_i h
theorem ln_last {n : Nat} {F : Nat → Int} : atI (ln (n + 1) F) (-1) = some (.int (F n)) := atI_end (by rw [ln_len]; exact ln_get (Nat.lt_succ_self n))
theorem ln_ext {xs : List V} {n : Nat} {F : Nat → Int} (hl : xs.length = n) (h : ∀ (i : Nat) (v : V), i < n → xs[i]? = some v → v = .int (F i)) : xs = ln n F := by
  refine List.ext_getElem? fun i => ?_
  by_cases hi : i < n
  · have e : xs[i]? = some (xs[i]'(by omega)) := List.getElem?_eq_getElem (by omega)
    rw [e, h i _ hi e, ln_get hi]
  · rw [List.getElem?_eq_none (by omega), List.getElem?_eq_none (by rw [ln_len]; omega)]
theorem ln_set {n : Nat} {F : Nat → Int} {j : Nat} {v : Int} (h : j < n) : (ln n F).set j (.int v) = ln n (fun i => if i = j then v else F i) := by
  refine ln_ext (by simp [ln_len]) fun i u hi e => ?_
  rw [List.getElem?_set, ln_len] at e
  by_cases z : j = i
  · subst z
    rw [if_pos rfl, if_pos h] at e
    cases e
    rw [if_pos rfl]
  · rw [if_neg z, ln_get hi] at e
    cases e
    rw [if_neg (Ne.symm z)]
theorem ln_congr {n : Nat} {F G : Nat → Int} (h : ∀ i, i < n → F i = G i) : ln n F = ln n G := ln_ext ln_len fun i v hi e => by
  rw [ln_get hi] at e
  cases e
  rw [h i hi]
open Px (Tb)
def LnsT (H : Hp) (us : List V) (n m : Nat) (L : Nat → Nat → Int) : Prop := us.length = n ∧ ∀ s, s < n → ∃ p, us[s]? = some (.ref p) ∧ H p = some (.lst (ln m (L s)))
theorem LnsT.same {H H' : Hp} {us : List V} {n m : Nat} {L : Nat → Nat → Int} (h : LnsT H us n m L) (k : ∀ (b : Addr) (xs : List V), (∃ s, s < n ∧ us[s]? = some (.ref b)) → H b = some (.lst xs) → H' b = some (.lst xs)) : LnsT H' us n m L := ⟨h.1, fun s hs => by
  obtain ⟨p, e1, e2⟩ := h.2 s hs
  exact ⟨p, e1, k p _ ⟨s, hs, e1⟩ e2⟩⟩
def fsT (lL lA lD : Addr) (d : Int) : List (Str × V) := [("lines", .ref lL), ("bottom", .int d), ("across", .ref lA), ("down", .ref lD)]
theorem putF_lines {lL lA lD l : Addr} {d : Int} : putF "lines" (.ref l) (fsT lL lA lD d) = fsT l lA lD d := by
  unfold fsT putF
  rw [if_pos rfl]
theorem putF_bottom {lL lA lD : Addr} {d d' : Int} : putF "bottom" (.int d') (fsT lL lA lD d) = fsT lL lA lD d' := by
  unfold fsT
  simp only [putF]
  rw [if_neg (by decide), if_pos trivial]
theorem putF_b1 {x y : V} : putF "bottom" y [("lines", x)] = ([("lines", x), ("bottom", y)] : List (Str × V)) := by
  simp only [putF]
  rw [if_neg (by decide)]
theorem putF_a1 {x y z : V} : putF "across" z [("lines", x), ("bottom", y)] = ([("lines", x), ("bottom", y), ("across", z)] : List (Str × V)) := by
  simp only [putF]
  rw [if_neg (by decide), if_neg (by decide)]
theorem putF_d1 {x y z u : V} : putF "down" u [("lines", x), ("bottom", y), ("across", z)] = ([("lines", x), ("bottom", y), ("across", z), ("down", u)] : List (Str × V)) := by
  simp only [putF]
  rw [if_neg (by decide), if_neg (by decide), if_neg (by decide)]
structure TabR (H : Hp) (C a dx lL lA lD : Addr) (us : List V) (r c : Nat) (T : Tb) : Prop where
  obj : H a = some (.ins C dx (fsT lL lA lD T.d))
  lin : H lL = some (.lst us)
  row : LnsT H us (r + 1) (c + 1) T.L
  acr : H lA = some (.lst (ln c fun j => (T.ac j : Int)))
  dwn : H lD = some (.lst (ln r fun s => (T.dn s : Int)))
  neA : lA ≠ lD
  nrA : ∀ s : Nat, us[s]? ≠ some (V.ref lA)
  nrD : ∀ s : Nat, us[s]? ≠ some (V.ref lD)
  nlA : lL ≠ lA
  nlD : lL ≠ lD
theorem TabR.same {H H' : Hp} {C a dx lL lA lD : Addr} {us : List V} {r c : Nat} {T : Tb} (h : TabR H C a dx lL lA lD us r c T) (s : ∀ b o, (∀ ps, o ≠ .tbl ps) → H b = some o → H' b = some o) : TabR H' C a dx lL lA lD us r c T :=
  ⟨s _ _ (fun _ z => nomatch z) h.obj, s _ _ (fun _ z => nomatch z) h.lin, h.row.same fun b xs _ e => s _ _ (fun _ z => nomatch z) e, s _ _ (fun _ z => nomatch z) h.acr, s _ _ (fun _ z => nomatch z) h.dwn, h.neA, h.nrA, h.nrD, h.nlA, h.nlD⟩
theorem TabR.same' {H H' : Hp} {C a dx lL lA lD : Addr} {us : List V} {r c : Nat} {T : Tb} (h : TabR H C a dx lL lA lD us r c T) (s : Same H H') : TabR H' C a dx lL lA lD us r c T := h.same fun b o _ e => s b o e
def Sz (r c B : Nat) (T : Tb) : Prop := T.d.natAbs ≤ 2 ^ B ∧ ∀ s j, s < r + 1 → j < c + 1 → (T.L s j).natAbs ≤ 2 ^ B
theorem TabR.last {H : Hp} {C a dx lL lA lD : Addr} {us : List V} {r c : Nat} {T : Tb} (h : TabR H C a dx lL lA lD us r c T) : ∃ p, atI us (-1) = some (.ref p) ∧ H p = some (.lst (ln (c + 1) (T.L r))) := by
  obtain ⟨p, e1, e2⟩ := h.row.2 r (Nat.lt_succ_self r)
  exact ⟨p, atI_end (by rw [h.row.1]; exact e1), e2⟩
theorem TabR.line {H : Hp} {C a dx lL lA lD : Addr} {us : List V} {r c : Nat} {T : Tb} (h : TabR H C a dx lL lA lD us r c T) {s : Nat} (hs : s < r + 1) : ∃ p, atI us (s : Int) = some (.ref p) ∧ H p = some (.lst (ln (c + 1) (T.L s))) := by
  obtain ⟨p, e1, e2⟩ := h.row.2 s hs
  exact ⟨p, atI_nat e1, e2⟩
structure TabC (K : PySem.W.Frag) (C : Addr) : Prop where
  cls : Cls K C
  lin : NoAttr K C "lines"
  bot : NoAttr K C "bottom"
  acr : NoAttr K C "across"
  dwn : NoAttr K C "down"
def OutL (r c : Nat) (T : Tb) (k a : Nat) : Prop := a < r ∧ 0 < T.L a k ∧ ∀ s, s < r → 0 < T.L s k → T.L a c * T.L s k < T.L s c * T.L a k ∨ (T.L a c * T.L s k = T.L s c * T.L a k ∧ T.dn a ≤ T.dn s)
end Ty

set_option maxHeartbeats 4000000
namespace T_k71
open PySem PySem.Spec PyProof.Rows L2 Ty
open Builtin.Int (intBits)
seal L2.PE L2.PS L2.PSs L2.PA
def top (i : Nat) : Stmt := PySem.Challenge.pw_trussyard_k71_most_or_endless.main.body.getD i (.Pass ⟨0, 0, 0, 0⟩)
abbrev s_is_less : Stmt := top 2
abbrev s_lowest_terms : Stmt := top 3
abbrev s_greatest_shared : Stmt := top 4
abbrev s_whole_row : Stmt := top 6
abbrev s_most_of : Stmt := top 8
abbrev s_Table : Stmt := top 9
abbrev s_fitting_list : Stmt := top 10
abbrev s_price_list : Stmt := top 11
abbrev s_endless_list : Stmt := top 12
abbrev s_law_cell_at : Stmt := top 14
abbrev s_law_number : Stmt := top 15
abbrev s_law_whole : Stmt := top 16
abbrev s_law_is_number : Stmt := top 17
abbrev s_law_numbers : Stmt := top 18
abbrev s_law_mixed : Stmt := top 19
abbrev s_law_total : Stmt := top 20
abbrev s_law_comes : Stmt := top 21
abbrev s_law_draw : Stmt := top 22
abbrev s_law_limit : Stmt := top 23
abbrev s_law_rows : Stmt := top 24
abbrev s_law_under : Stmt := top 25
abbrev s_law_fits : Stmt := top 26
abbrev s_law_right : Stmt := top 27
abbrev s_law_spoilt : Stmt := top 28
abbrev s_law : Stmt := top 29
abbrev s_Table_init : Stmt := inClass (top 9) 0
abbrev s_Table_next_swap : Stmt := inClass (top 9) 1
abbrev s_Table_growing : Stmt := inClass (top 9) 2
abbrev s_Table_growth : Stmt := inClass (top 9) 3
abbrev s_Table_line_out : Stmt := inClass (top 9) 4
abbrev s_Table_is_sooner : Stmt := inClass (top 9) 5
abbrev s_Table_swap : Stmt := inClass (top 9) 6
abbrev s_Table_swapped : Stmt := inClass (top 9) 7
section
variable {P : Program} {w : World} {K : PySem.W.Frag} {mg : Str → Option Value} {base : Heap} {CX : CXT}
def Nm (H : Hp) (v : V) (q : Int × Int) : Prop := ∃ p, v = .ref p ∧ H p = some (.tup [.int q.1, .int q.2])
theorem Nm.same {H H' : Hp} {v : V} {q : Int × Int} (h : Nm H v q) (s : Same H H') : Nm H' v q := by
  obtain ⟨p, e, k⟩ := h
  exact ⟨p, e, s _ _ k⟩
structure Okn (k : Nat) (q : Int × Int) : Prop where
  pos : 0 < q.2
  top : intBits q.1 ≤ k
  bot : intBits q.2 ≤ k
theorem same_new {H : Hp} {p : Addr} (h : H p = none) (o : HO) : Same H (upd H p o) := fun b u q => by rw [upd_ne (ne_of_none q h)]; exact q
def gives (H : Hp) (Q : VK) (q : Int × Int) : Prop := ∀ (p : Addr) (H' : Hp), Same H H' → H' p = some (.tup [.int q.1, .int q.2]) → Q (.ref p) H'
def spShared : Sp := fun vs H Q _ => ∃ a b : Int, vs = [.int a, .int b] ∧ Q (.int (gz a b)) H
def spLowest : Sp := fun vs H Q _ => ∃ t b : Int, vs = [.int t, .int b] ∧ b ≠ 0 ∧ intBits b ≤ 9000 ∧ gives H Q (low t b)
def spBin (f : Int × Int → Int × Int → Int × Int) : Sp := fun vs H Q _ => ∃ (u v : V) (x y : Int × Int), vs = [u, v] ∧ Nm H u x ∧ Nm H v y ∧ Okn 4000 x ∧ Okn 4000 y ∧ gives H Q (f x y)
def addQ (x y : Int × Int) : Int × Int := low (x.1 * y.2 + y.1 * x.2) (x.2 * y.2)
def subQ (x y : Int × Int) : Int × Int := low (x.1 * y.2 - y.1 * x.2) (x.2 * y.2)
def mulQ (x y : Int × Int) : Int × Int := low (x.1 * y.1) (x.2 * y.2)
theorem at0 {a b : V} : atI [a, b] 0 = some a := rfl
theorem at1 {a b : V} : atI [a, b] 1 = some b := rfl
def Nms (H : Hp) (us : List V) (qs : List (Int × Int)) : Prop := us.length = qs.length ∧ ∀ (i : Nat) (u : V) (q : Int × Int), us[i]? = some u → qs[i]? = some q → Nm H u q
theorem Nms.same {H H' : Hp} {us : List V} {qs : List (Int × Int)} (h : Nms H us qs) (s : Same H H') : Nms H' us qs := ⟨h.1, fun i u q e1 e2 => (h.2 i u q e1 e2).same s⟩
def Row (K : PySem.W.Frag) (H : Hp) (a : Addr) (qs : List (Int × Int)) : Prop := ∃ us, SqL K H a us ∧ Nms H us qs
theorem Nm.kept {H H' : Hp} {D : Addr} {ys : List V} {v : V} {q : Int × Int} (h : Nm H v q) (hD : H D = some (.lst ys)) (k : KSame D H H') : Nm H' v q := by
  obtain ⟨p, e, z⟩ := h
  exact ⟨p, e, k p _ (fun e => by rw [e, hD] at z; cases z) z⟩
def Line (H : Hp) (v : V) (ts : List Int) (b : Int) : Prop := ∃ p l, v = .ref p ∧ H p = some (.tup [.ref l, .int b]) ∧ H l = some (.lst (ts.map V.int))
theorem sc_greatest_shared : FnScope ["one", "other", "left"] ["one", "other"] (defScope s_greatest_shared) := ⟨rfl, rfl, rfl, by decide +kernel, rfl, by decide +kernel, by decide +kernel⟩
theorem ok_greatest_shared (D : Def K mg "greatest_shared" s_greatest_shared ["one", "other"]) (m_abs : mg "abs" = none) : Fn P w K mg base CX 1 "greatest_shared" ["one", "other"] spShared := by
  refine D.ok sc_greatest_shared (fun vs H Q E h => ?_) (fun f cdv A outer s H vs Q E hr h => ?_)
  · obtain ⟨a, b, rfl, _⟩ := h
    rfl
  obtain ⟨a, b, rfl, q⟩ := h
  refine ⟨_, (pss_cons (ps_while PassesOwn.never (pt_cmpR op_ne (pv 1) pe_int (nomark _)) (pss_cons (ps_set (i := 2) sc_greatest_shared.nd rfl (Or.inl rfl) (pe_op op_modB (pv 0) (pv 1)))
      (pss_cons (ps_set (i := 0) sc_greatest_shared.nd rfl (Or.inl rfl) (pv 1))
      (pss_one (ps_set (i := 1) sc_greatest_shared.nd rfl (Or.inl rfl) (pv 2))))))
    (pss_one (ps_ret (pe_callB call_abs rfl m_abs b_abs (pac (pv 0) pa_nil))))), ?_⟩
  refine while_by (fun σ H' => ∃ (x y : Int) (l : Option V), σ = [some (.int x), some (.int y), l] ∧ H' = H ∧ Int.gcd x y = Int.gcd a b) (fun σ _ => match σ with | [_, some (.int y), _] => y.natAbs | _ => 0) ⟨a, b, none, rfl, rfl, rfl⟩ ?_ ?_
  · rintro σ H' ⟨x, y, l, rfl, rfl, g⟩
    refine ⟨_, rfl, rfl, _, rfl, ?_⟩
    refine ite2 (fun c => ?_) (fun c => ?_)
    · have hy : y ≠ 0 := by
        intro z
        subst z
        simp at c
      refine ⟨_, rfl, _, rfl, _, _, rfl, rfl, hy, ?_⟩
      refine ⟨_, rfl, _, rfl, ?_⟩
      exact ⟨⟨_, _, _, rfl, rfl, by rw [gcd_step]; exact g⟩, fmod_less hy⟩
    · have hy : y = 0 := by
        have := Bool.eq_false_iff.mpr c
        simp at this
        exact this
      subst hy
      refine ⟨_, rfl, x, rfl, ?_⟩
      have e : (if x < 0 then -x else x) = gz a b := by
        rw [Int.gcd_zero_right] at g
        unfold gz
        rw [← g]
        split <;> omega
      rw [e]
      exact q
  · rintro σ H' Q1 Q2 h ⟨v, e1, e2, k, ek, z⟩
    exact ⟨v, e1, e2, k, ek, h _ _ z⟩
def spLowestU : Sp := fun vs H Q _ => ∃ t b : Int, vs = [.int t, .int b] ∧ b ≠ 0 ∧ gives H Q (low t b)
theorem sc_lowest_terms : FnScope ["top", "bottom", "shared"] ["top", "bottom"] (defScope s_lowest_terms) := ⟨rfl, rfl, rfl, by decide +kernel, rfl, by decide +kernel, by decide +kernel⟩
theorem ok_lowest_terms (ht : P.given.tree = none) (D : Def K mg "lowest_terms" s_lowest_terms ["top", "bottom"]) (G_greatest_shared : Fn P w K mg base (CXr P w) 1 "greatest_shared" ["one", "other"] spShared) : Fn P w K mg base (CXr P w) 33 "lowest_terms" ["top", "bottom"] spLowestU := by
  refine D.ok sc_lowest_terms (fun vs H Q E h => ?_) (fun f cdv A outer s H vs Q E hr h => ?_)
  · obtain ⟨t, b, rfl, _⟩ := h
    rfl
  obtain ⟨t, b, rfl, hb, q⟩ := h
  have px := passM (X := (cxOf (CXr P w) P w K mg base ["top", "bottom", "shared"] "lowest_terms" (defScope s_lowest_terms) f cdv A outer s H E)) (CXr.mute (P := P) (w := w))
  have tail2 : ∃ tt, PSs (cxOf (CXr P w) P w K mg base ["top", "bottom", "shared"] "lowest_terms" (defScope s_lowest_terms) f cdv A outer s H E).nox ((defBody s_lowest_terms).drop 2) tt ∧ ∀ g : Int, g = sg t b → tt { nx := fun _ H' => Q .non H', rt := Q } [some (.int t), some (.int b), some (.int g)] H := by
    refine ⟨_, (pss_one (ps_ret (pe_tup (pac (pe_op (op_fdivU ht (Ty.Room.py hr (by decide)) rfl rfl rfl rfl rfl) (pv 0) (pv 2)) (pac (pe_op (op_fdivU ht (Ty.Room.py hr (by decide)) rfl rfl rfl rfl rfl) (pv 1) (pv 2)) pa_nil))))), ?_⟩
    rintro g rfl
    have c := sg_ne (t := t) hb
    refine ⟨_, rfl, _, rfl, _, _, rfl, rfl, c, _, rfl, _, rfl, _, _, rfl, rfl, c, (by show 2 ≤ sizeLine; decide), fun p hp => ?_⟩
    exact q p _ (same_new hp _) upd_same
  obtain ⟨t2, p2, q2⟩ := tail2
  refine ⟨_, (pss_cons (ps_set (i := 2) sc_lowest_terms.nd rfl (Or.inl rfl) (pe_fn G_greatest_shared (hr.mono (by decide)) px (pac (pv 0) (pac (pv 1) pa_nil)))) (pss_cons (ps_if (pt_cmpR op_lt (pv 1) pe_int (nomark _)) (pss_one (ps_set (i := 2) sc_lowest_terms.nd rfl (Or.inl rfl) (pe_un un_neg (pv 2)))) pss_nil) p2)), ?_⟩
  refine ⟨_, rfl, _, rfl, t, b, rfl, ?_⟩
  refine ⟨_, rfl, _, _, rfl, rfl, _, rfl, ?_⟩
  refine ite2 (fun c => ?_) (fun c => ?_)
  · refine ⟨_, rfl, _, rfl, q2 _ ?_⟩
    have c' : b < 0 := of_decide_eq_true c
    unfold sg
    rw [if_pos c']
  · refine q2 _ ?_
    have c' : ¬ b < 0 := of_decide_eq_false (Bool.eq_false_iff.mpr c)
    unfold sg
    rw [if_neg c']
def spLess : Sp := fun vs H Q _ => ∃ (u v : V) (x y : Int × Int), vs = [u, v] ∧ Nm H u x ∧ Nm H v y ∧ Okn 100000 x ∧ Okn 100000 y ∧ Q (.bl (decide (x.1 * y.2 < y.1 * x.2))) H
theorem sc_is_less : FnScope ["one", "other"] ["one", "other"] (defScope s_is_less) := ⟨rfl, rfl, rfl, by decide +kernel, rfl, by decide +kernel, by decide +kernel⟩
theorem ok_is_less (D : Def K mg "is_less" s_is_less ["one", "other"]) : Fn P w K mg base CX 1 "is_less" ["one", "other"] spLess := by
  refine D.ok sc_is_less (fun vs H Q E h => ?_) (fun f cdv A outer s H vs Q E hr h => ?_)
  · obtain ⟨u, v, x, y, rfl, _⟩ := h
    rfl
  obtain ⟨u, v, x, y, rfl, ⟨p1, rfl, h1⟩, ⟨p2, rfl, h2⟩, k1, k2, q⟩ := h
  refine ⟨_, (pss_one (ps_ret (pe_cmpR op_lt (pe_op op_mulB (pe_ix ix_tup (pv 0) pe_int (fun _ _ => rfl)) (pe_ix ix_tup (pv 1) pe_int (fun _ _ => rfl))) (pe_op op_mulB (pe_ix ix_tup (pv 1) pe_int (fun _ _ => rfl)) (pe_ix ix_tup (pv 0) pe_int (fun _ _ => rfl))) (nomark _)))), ?_⟩
  have c : ∀ {i j : Int}, intBits i ≤ 100000 → intBits j ≤ 100000 → CMulB i j := fun a b => ⟨Nat.le_trans a (by decide), Nat.le_trans b (by decide)⟩
  refine ⟨_, rfl, p1, _, _, _, rfl, rfl, SqT.of h1, at0, _, rfl, p2, _, _, _, rfl, rfl, SqT.of h2, at1, _, _, rfl, rfl, c k1.top k2.bot, ?_⟩
  refine ⟨_, rfl, p2, _, _, _, rfl, rfl, SqT.of h2, at0, _, rfl, p1, _, _, _, rfl, rfl, SqT.of h1, at1, _, _, rfl, rfl, c k2.top k1.bot, ?_⟩
  exact ⟨_, _, rfl, rfl, q⟩
def spWR (K : PySem.W.Frag) : Sp := fun vs H Q _ => ∃ (a : Addr) (qs : List (Int × Int)) (T B : Nat), vs = [.ref a] ∧ Row K H a qs ∧ (∀ q ∈ qs, Sm T B q) ∧ T ≤ 20000 ∧ B * qs.length ≤ 8000 ∧ B ≤ 8000 ∧ qs.length ≤ 1000 ∧
  ∀ (p l : Addr) (ts : List Int) (b : Int) (H' : Hp), Same H H' → H l = none → H' p = some (.tup [.ref l, .int b]) → H' l = some (.lst (ts.map V.int)) → 0 < b → b.natAbs ≤ 2 ^ (B * qs.length) → Whole ts qs b → (∀ t ∈ ts, t.natAbs ≤ 2 ^ (T + B * qs.length)) → Q (.ref p) H'
theorem sc_whole_row : FnScope ["row", "bottom", "number"] ["row"] (defScope s_whole_row) := ⟨rfl, rfl, rfl, by decide +kernel, rfl, by decide +kernel, by decide +kernel⟩
theorem ok_whole_row (D : Def K mg "whole_row" s_whole_row ["row"]) (G_greatest_shared : Fn P w K mg base (CXr P w) 1 "greatest_shared" ["one", "other"] spShared) : Fn P w K mg base (CXr P w) 2 "whole_row" ["row"] (spWR K) := by
  refine D.ok sc_whole_row (fun vs H Q E h => ?_) (fun f cdv A outer s H vs Q E hr h => ?_)
  · obtain ⟨a, qs, T, B, rfl, _⟩ := h
    rfl
  obtain ⟨a, qs, T, B, rfl, ⟨us, hS, hN⟩, sm, hT, hB, hB1, hl, q⟩ := h
  have px := passM (X := (cxOf (CXr P w) P w K mg base ["row", "bottom", "number"] "whole_row" (defScope s_whole_row) f cdv A outer s H E)) (CXr.mute (P := P) (w := w))
  refine ⟨_, (pss_cons (ps_set (i := 1) sc_whole_row.nd rfl (Or.inr rfl) pe_int)
    (pss_cons (ps_for PassesOwn.never rfl (pi_list (pv 0)) (pg_name (i := 2) sc_whole_row.nd rfl (Or.inl rfl)) (pss_one (ps_set (i := 1) sc_whole_row.nd rfl (Or.inr rfl) (pe_op op_mulB (pe_op op_fdivB (pv 1) (pe_fn G_greatest_shared (hr.mono (by decide)) px (pac (pv 1) (pac (pe_ix ix_tup (pv 2) pe_int (fun _ _ => rfl)) pa_nil)))) (pe_ix ix_tup (pv 2) pe_int (fun _ _ => rfl))))))
    (pss_one (ps_ret (pe_tup (pac (pe_comp (tn := ["number"]) (fr := ["bottom"]) (caps := [1]) rfl ⟨rfl, by decide +kernel, rfl, by decide +kernel, by decide +kernel, rfl, ⟨(by first | exact Or.inl rfl | exact Or.inr rfl), trivial⟩, ⟨(by first | exact Or.inl rfl | exact Or.inr rfl), trivial⟩⟩ (pi_list (pv 0)) (fun _ _ _ _ => (pg_name (i := 0) (show (["number", "bottom"] : List Str).Nodup from by decide +kernel) rfl (Or.inl rfl))) (fun _ _ _ _ => pf_nil) (fun _ _ _ _ => (pe_op op_mulB (pe_ix (ix_tupK (K := K) rfl) (pv 0) pe_int (fun _ _ => rfl)) (pe_op op_fdivB (pv 1) (pe_ix (ix_tupK (K := K) rfl) (pv 0) pe_int (fun _ _ => rfl)))))) (pac (pv 1) pa_nil))))))), ?_⟩
  have hlu := hN.1
  have qat : ∀ {i : Nat} {u : V}, us[i]? = some u → ∃ q, qs[i]? = some q ∧ Nm H u q ∧ Sm T B q := fun {i u} e => by
    have hi : i < us.length := (List.getElem?_eq_some_iff.mp e).1
    have e2 : qs[i]? = some (qs[i]'(by omega)) := List.getElem?_eq_getElem (by omega)
    exact ⟨_, e2, hN.2 i u _ e e2, sm _ (List.getElem_mem _)⟩
  refine ⟨_, rfl, a, rfl, ⟨_, hS⟩, for_list (K := K) (a := a) (xs := us) (fun i σ H' => ∃ (b : Int) (o : Option V), σ = [some (.ref a), some (.int b), o] ∧ H' = H ∧ 0 < b ∧ b.natAbs ≤ 2 ^ (B * i) ∧ ∀ j, j < i → ∀ q, qs[j]? = some q → q.2 ∣ b) ⟨1, none, rfl, rfl, by decide, by simp, fun j h => absurd h (Nat.not_lt_zero _)⟩ (fun i σ H' _ ⟨b, o, _, e, _⟩ => by rw [e]; exact hS) ?_ ?_⟩
  · rintro i u σ H' hu ⟨b, o, rfl, rfl, hb, hs, hd⟩
    obtain ⟨n, en, ⟨p, rfl, hp⟩, sn⟩ := qat hu
    have hi : i < qs.length := (List.getElem?_eq_some_iff.mp en).1
    have nb : n.2.natAbs ≤ 2 ^ B := sn.bot
    obtain ⟨l1, l2, l3, l4⟩ := lcm_step hb sn.pos
    have gp := gz_pos (t := b) (b := n.2) (by have := sn.pos; omega)
    have gl := gz_le (t := b) (b := n.2) (by have := sn.pos; omega)
    have sz : (b.fdiv (gz b n.2) * n.2).natAbs ≤ 2 ^ (B * (i + 1)) := by
      refine Nat.le_trans l4 ?_
      rw [Nat.mul_succ, Nat.pow_add]
      exact Nat.mul_le_mul hs nb
    have bi : B * i ≤ 8000 := Nat.le_trans (Nat.mul_le_mul_left B (by omega)) hB
    have g1 : gz b n.2 ∣ b := Int.gcd_dvd_left ..
    refine ⟨_, rfl, _, rfl, _, rfl, p, _, _, _, rfl, rfl, SqT.of hp, at1, b, n.2, rfl, ?_⟩
    refine ⟨_, _, rfl, rfl, ⟨by omega, Nat.le_trans (pw_bits (Nat.le_trans gl nb) (Nat.lt_succ_self B)) (by omega)⟩, ?_⟩
    refine ⟨_, rfl, p, _, _, _, rfl, rfl, SqT.of hp, at1, _, _, rfl, rfl, pw_cmul (Nat.le_trans (fdiv_size (by omega) g1) hs) nb (by omega) (by omega), ?_⟩
    refine ⟨_, _, rfl, rfl, l1, sz, fun j hj q' e' => ?_⟩
    rcases Nat.lt_succ_iff_lt_or_eq.mp hj with z | z
    · exact Int.dvd_trans (hd j z q' e') l2
    · subst z
      rw [en] at e'
      cases e'
      exact l3
  · rintro σ H' ⟨b, o, rfl, rfl, hb, hs, hd⟩
    rw [hlu] at hs hd
    refine ⟨_, rfl, a, rfl, ⟨_, hS⟩, fun D nD => ?_⟩
    refine comp_list (cap := [some (.int b)]) (K := K) (a := a) (xs := us) (fun i v _ => ∃ q, qs[i]? = some q ∧ v = .int (q.1 * b.fdiv q.2)) nD (by rw [hlu]; exact Nat.lt_of_le_of_lt hl (by decide)) (fun H2 s2 => s2.seq hS) (fun _ _ _ _ _ _ _ h => h) ?_ ?_
    · intro i u H2 R hu s2 k
      obtain ⟨n, en, ⟨p, rfl, hp⟩, sn⟩ := qat hu
      have hp2 := s2 _ _ hp
      have dv := hd i (List.getElem?_eq_some_iff.mp en).1 n en
      have n0 : n.2 ≠ 0 := by have := sn.pos; omega
      refine ⟨_, rfl, p, _, _, _, rfl, rfl, SqT.of hp2, at0, ?_⟩
      refine ⟨_, rfl, _, rfl, p, _, _, _, rfl, rfl, SqT.of hp2, at1, _, _, rfl, rfl, ⟨n0, Nat.le_trans (pw_bits sn.bot (Nat.lt_succ_self B)) (by omega)⟩, ?_⟩
      exact ⟨_, _, rfl, rfl, pw_cmul sn.top (Nat.le_trans (fdiv_size n0 dv) hs) (by omega) (by omega), k _ _ (Same.refl _) ⟨n, en, rfl⟩⟩
    · intro ys H2 hy hrel s2 hD
      have ey : ys = (qs.map fun n => n.1 * b.fdiv n.2).map V.int := by
        refine List.ext_getElem? fun i => ?_
        by_cases hi : i < ys.length
        · have e1 : ys[i]? = some ys[i] := List.getElem?_eq_getElem hi
          obtain ⟨n, en, ev⟩ := hrel i _ e1
          rw [e1, ev, List.getElem?_map, List.getElem?_map, en]
          rfl
        · rw [List.getElem?_eq_none (by omega), List.getElem?_eq_none (by simp; omega)]
      refine ⟨_, rfl, (by show 2 ≤ sizeLine; decide), fun p np => ?_⟩
      have s3 := same_new np (.tup [.ref D, .int b])
      refine q p D (qs.map fun n => n.1 * b.fdiv n.2) b _ (s2.trans s3) nD upd_same (s3 _ _ (by rw [hD, ey])) hb hs ⟨by simp, fun i t n e1 e2 => ?_⟩ (fun t ht => ?_)
      · rw [List.getElem?_map, e2] at e1
        have e1' : n.1 * b.fdiv n.2 = t := Option.some.inj e1
        rw [← e1']
        exact whole_one (sm n (List.mem_of_getElem? e2)).pos (hd i (List.getElem?_eq_some_iff.mp e2).1 n e2)
      · obtain ⟨n, hn, rfl⟩ := List.mem_map.mp ht
        obtain ⟨i, hi⟩ := List.getElem?_of_mem hn
        have n0 : n.2 ≠ 0 := by have := (sm n hn).pos; omega
        exact pw_mul (sm n hn).top (Nat.le_trans (fdiv_size n0 (hd i (List.getElem?_eq_some_iff.mp hi).1 n hi)) hs)
def spGrowing (C : Addr) : Sp := fun vs H Q _ => ∃ (a dx lL lA lD : Addr) (us : List V) (r c : Nat) (T : Px.Tb), vs = [.ref a] ∧ TabR H C a dx lL lA lD us r c T ∧ c ≤ 900 ∧ ∀ (l : Addr) (H' : Hp), Same H H' → H l = none → H' l = some (.lst (((List.range c).filter fun j => decide (T.L r j < 0)).map fun (i : Nat) => V.int (i : Int))) → Q (.ref l) H'
theorem sc_Table_growing : FnScope ["self"] ["self"] (defScope s_Table_growing) := ⟨rfl, rfl, rfl, by decide +kernel, rfl, by decide +kernel, by decide +kernel⟩
theorem ok_Table_growing {f : Addr} {fd : FuncData} {C : Addr} (F : Fun K "growing" "Table.growing" s_Table_growing f fd) (tc : TabC K C) (m_range : mg "range" = none) (m_len : mg "len" = none) : FnOk P w K mg base (CXr P w) 1 f fd ["self"] (spGrowing C) := by
  refine fun_okN F sc_Table_growing (fun vs H Q E h => ?_) (fun cdv A outer s H vs Q E hr h => ?_)
  · obtain ⟨a, dx, lL, lA, lD, us, r, c, T, rfl, _⟩ := h
    rfl
  obtain ⟨a, dx, lL, lA, lD, us, r, c, T, rfl, R, hc, q⟩ := h
  refine ⟨_, (pss_one (ps_ret (pe_comp (tn := ["column"]) (fr := ["self"]) (caps := [0]) rfl ⟨rfl, by decide +kernel, rfl, by decide +kernel, by decide +kernel, rfl, ⟨(by first | exact Or.inl rfl | exact Or.inr rfl), trivial⟩, ⟨(by first | exact Or.inl rfl | exact Or.inr rfl), trivial⟩⟩ (pi_range1 rfl m_range (pac (pe_callB call_len_seq rfl m_len b_len (pac (pe_fld (pv 0) rfl) pa_nil)) pa_nil)) (fun _ _ _ _ => (pg_name (i := 0) (show (["column", "self"] : List Str).Nodup from by decide +kernel) rfl (Or.inl rfl))) (fun _ _ _ _ => (pf_one (pt_cmpR op_lt (pe_ix (ix_listK (K := K) rfl) (pe_ix (ix_listK (K := K) rfl) (pe_fldK (K := K) rfl (pv 1) rfl) (pe_un un_neg pe_int) (fun _ _ => rfl)) (pv 0) (fun _ _ => rfl)) pe_int (nomark _)))) (fun _ _ _ _ => (pv 0))))), ?_⟩
  refine ⟨_, rfl, a, C, dx, _, _, rfl, R.obj, tc.cls, tc.acr, rfl, lA, _, rfl, .inl (.inl (.inl R.acr)), ?_⟩
  rw [ln_len]
  refine ⟨_, rfl, by omega, by omega, fun D nD => ?_⟩
  refine comp_rangeF (cap := [some (.ref a)]) (n := c) (fun j => decide (T.L r j < 0)) nD (Nat.lt_of_le_of_lt hc (by decide)) ?_ ?_ ?_
  · intro i H2 R2 hi s2 k
    have R' := R.same' s2
    obtain ⟨p, e1, e2⟩ := R'.last
    refine ⟨_, rfl, a, C, dx, _, _, rfl, R'.obj, tc.cls, tc.lin, rfl, _, rfl, lL, us, _, _, rfl, rfl, .inl (.inl R'.lin), e1, ?_⟩
    exact ⟨_, rfl, p, _, _, _, rfl, rfl, .inl (.inl e2), ln_i0 (by omega), _, _, rfl, rfl, _, rfl, k⟩
  · intro i H2 R2 hi s2 k
    exact ⟨_, rfl, by rw [Int.zero_add]; exact k⟩
  · intro H2 s2 hD
    exact q D H2 s2 nD hD
def Two (H : Hp) (v : V) (a k : Nat) : Prop := ∃ p, v = .ref p ∧ H p = some (.tup [.int (a : Int), .int (k : Int)])
def spGrowth (C : Addr) : Sp := fun vs H Q _ => ∃ (a dx lL lA lD : Addr) (us : List V) (r c B : Nat) (T : Px.Tb) (v : V) (x k : Nat), vs = [.ref a, v] ∧ TabR H C a dx lL lA lD us r c T ∧ Two H v x k ∧ x < r ∧ k < c ∧ Sz r c B T ∧ B ≤ 20000 ∧ ∀ (u : V) (H' : Hp), Same H H' → Nm H' u (-(T.L r k) * T.L x c, T.L x k) → Q u H'
theorem sc_Table_growth : FnScope ["self", "two", "line"] ["self", "two"] (defScope s_Table_growth) := ⟨rfl, rfl, rfl, by decide +kernel, rfl, by decide +kernel, by decide +kernel⟩
theorem ok_Table_growth {f : Addr} {fd : FuncData} {C : Addr} (F : Fun K "growth" "Table.growth" s_Table_growth f fd) (tc : TabC K C) : FnOk P w K mg base (CXr P w) 1 f fd ["self", "two"] (spGrowth C) := by
  refine fun_okN F sc_Table_growth (fun vs H Q E h => ?_) (fun cdv A outer s H vs Q E hr h => ?_)
  · obtain ⟨a, dx, lL, lA, lD, us, r, c, B, T, v, x, k, rfl, _⟩ := h
    rfl
  obtain ⟨a, dx, lL, lA, lD, us, r, c, B, T, v, x, k, rfl, R, ⟨p2, rfl, h2⟩, hx, hk, sz, hB, q⟩ := h
  refine ⟨_, (pss_cons (ps_set (i := 2) sc_Table_growth.nd rfl (Or.inl rfl) (pe_ix ix_list (pe_fld (pv 0) rfl) (pe_ix ix_tup (pv 1) pe_int (fun _ _ => rfl)) (fun _ _ => rfl)))
    (pss_one (ps_ret (pe_tup (pac (pe_op op_mulB (pe_un un_neg (pe_ix ix_list (pe_ix ix_list (pe_fld (pv 0) rfl) (pe_un un_neg pe_int) (fun _ _ => rfl)) (pe_ix ix_tup (pv 1) pe_int (fun _ _ => rfl)) (fun _ _ => rfl))) (pe_ix ix_list (pv 2) (pe_un un_neg pe_int) (fun _ _ => rfl))) (pac (pe_ix ix_list (pv 2) (pe_ix ix_tup (pv 1) pe_int (fun _ _ => rfl)) (fun _ _ => rfl)) pa_nil)))))), ?_⟩
  obtain ⟨pl, e1, e2⟩ := R.last
  obtain ⟨px', e3, e4⟩ := R.line (s := x) (by omega)
  have b1 := sz.2 r k (by omega) (by omega)
  have b2 := sz.2 x c (by omega) (by omega)
  refine ⟨_, rfl, a, C, dx, _, _, rfl, R.obj, tc.cls, tc.lin, rfl, _, rfl, p2, _, _, _, rfl, rfl, SqT.of h2, at0, lL, us, _, _, rfl, rfl, .inl (.inl R.lin), e3, ?_⟩
  refine ⟨_, rfl, a, C, dx, _, _, rfl, R.obj, tc.cls, tc.lin, rfl, _, rfl, lL, us, _, _, rfl, rfl, .inl (.inl R.lin), e1, _, rfl, p2, _, _, _, rfl, rfl, SqT.of h2, at1, pl, _, _, _, rfl, rfl, .inl (.inl e2), ln_i (by omega), _, rfl, ?_⟩
  refine ⟨_, rfl, _, rfl, px', _, _, _, rfl, rfl, .inl (.inl e4), ln_last, _, _, rfl, rfl, pw_cmul (m := B) (n := B) (by rw [Int.natAbs_neg]; exact b1) b2 (by omega) (by omega), ?_⟩
  refine ⟨_, rfl, _, rfl, p2, _, _, _, rfl, rfl, SqT.of h2, at1, px', _, _, _, rfl, rfl, .inl (.inl e4), ln_i (by omega), (by show 2 ≤ sizeLine; decide), fun p np => ?_⟩
  exact q _ _ (same_new np _) ⟨p, rfl, upd_same⟩
def spSooner (C : Addr) : Sp := fun vs H Q _ => ∃ (a dx lL lA lD : Addr) (us : List V) (r c B : Nat) (T : Px.Tb) (x y k : Nat), vs = [.ref a, .int (x : Int), .int (y : Int), .int (k : Int)] ∧ TabR H C a dx lL lA lD us r c T ∧ x < r ∧ y < r ∧ k < c ∧ Sz r c B T ∧ B ≤ 20000 ∧
  Q (.bl (decide (T.L x c * T.L y k < T.L y c * T.L x k ∨ (T.L x c * T.L y k = T.L y c * T.L x k ∧ T.dn x < T.dn y)))) H
theorem sc_Table_is_sooner : FnScope ["self", "at", "best", "column", "one", "other"] ["self", "at", "best", "column"] (defScope s_Table_is_sooner) := ⟨rfl, rfl, rfl, by decide +kernel, rfl, by decide +kernel, by decide +kernel⟩
theorem ok_Table_is_sooner {f : Addr} {fd : FuncData} {C : Addr} (F : Fun K "is_sooner" "Table.is_sooner" s_Table_is_sooner f fd) (tc : TabC K C) : FnOk P w K mg base (CXr P w) 1 f fd ["self", "at", "best", "column"] (spSooner C) := by
  refine fun_okN F sc_Table_is_sooner (fun vs H Q E h => ?_) (fun cdv A outer s H vs Q E hr h => ?_)
  · obtain ⟨a, dx, lL, lA, lD, us, r, c, B, T, x, y, k, rfl, _⟩ := h
    rfl
  obtain ⟨a, dx, lL, lA, lD, us, r, c, B, T, x, y, k, rfl, R, hx, hy, hk, sz, hB, q⟩ := h
  refine ⟨_, (pss_cons (ps_set (i := 4) sc_Table_is_sooner.nd rfl (Or.inl rfl) (pe_op op_mulB (pe_ix ix_list (pe_ix ix_list (pe_fld (pv 0) rfl) (pv 1) (fun _ _ => rfl)) (pe_un un_neg pe_int) (fun _ _ => rfl)) (pe_ix ix_list (pe_ix ix_list (pe_fld (pv 0) rfl) (pv 2) (fun _ _ => rfl)) (pv 3) (fun _ _ => rfl))))
    (pss_cons (ps_set (i := 5) sc_Table_is_sooner.nd rfl (Or.inl rfl) (pe_op op_mulB (pe_ix ix_list (pe_ix ix_list (pe_fld (pv 0) rfl) (pv 2) (fun _ _ => rfl)) (pe_un un_neg pe_int) (fun _ _ => rfl)) (pe_ix ix_list (pe_ix ix_list (pe_fld (pv 0) rfl) (pv 1) (fun _ _ => rfl)) (pv 3) (fun _ _ => rfl))))
    (pss_one (ps_ret (pe_or (pe_cmpR op_lt (pv 4) (pv 5) (nomark _)) (pe_one (pe_and (pe_cmpR op_eq (pv 4) (pv 5) (nomark _)) (pe_one (pe_cmpR op_lt (pe_ix ix_list (pe_fld (pv 0) rfl) (pv 1) (fun _ _ => rfl)) (pe_ix ix_list (pe_fld (pv 0) rfl) (pv 2) (fun _ _ => rfl)) (nomark _)))))))))), ?_⟩
  obtain ⟨p1, e1, e2⟩ := R.line (s := x) (by omega)
  obtain ⟨p2, e3, e4⟩ := R.line (s := y) (by omega)
  have b1 := sz.2 x c (by omega) (by omega)
  have b2 := sz.2 y k (by omega) (by omega)
  have b3 := sz.2 y c (by omega) (by omega)
  have b4 := sz.2 x k (by omega) (by omega)
  refine ⟨_, rfl, a, C, dx, _, _, rfl, R.obj, tc.cls, tc.lin, rfl, _, rfl, lL, us, _, _, rfl, rfl, .inl (.inl R.lin), e1, _, rfl, p1, _, _, _, rfl, rfl, .inl (.inl e2), ln_last, ?_⟩
  refine ⟨_, rfl, a, C, dx, _, _, rfl, R.obj, tc.cls, tc.lin, rfl, _, rfl, lL, us, _, _, rfl, rfl, .inl (.inl R.lin), e3, _, rfl, p2, _, _, _, rfl, rfl, .inl (.inl e4), ln_i (by omega), _, _, rfl, rfl, pw_cmul b1 b2 (by omega) (by omega), ?_⟩
  refine ⟨_, rfl, a, C, dx, _, _, rfl, R.obj, tc.cls, tc.lin, rfl, _, rfl, lL, us, _, _, rfl, rfl, .inl (.inl R.lin), e3, _, rfl, p2, _, _, _, rfl, rfl, .inl (.inl e4), ln_last, ?_⟩
  refine ⟨_, rfl, a, C, dx, _, _, rfl, R.obj, tc.cls, tc.lin, rfl, _, rfl, lL, us, _, _, rfl, rfl, .inl (.inl R.lin), e1, _, rfl, p1, _, _, _, rfl, rfl, .inl (.inl e2), ln_i (by omega), _, _, rfl, rfl, pw_cmul b3 b4 (by omega) (by omega), ?_⟩
  refine ⟨_, rfl, _, rfl, _, _, rfl, rfl, ?_⟩
  refine ⟨_, rfl, ite2 (fun c1 => ?_) (fun c1 => ?_)⟩
  · have c1' := of_decide_eq_true c1
    rw [decide_eq_true (.inl c1')] at q
    exact q
  · have c1' := of_decide_eq_false (Bool.eq_false_iff.mpr c1)
    refine ⟨_, rfl, _, rfl, rfl, _, rfl, ite2 (fun c2 => ?_) (fun c2 => ?_)⟩
    · have c2' : T.L x c * T.L y k = T.L y c * T.L x k := by simpa using c2
      refine ⟨_, rfl, a, C, dx, _, _, rfl, R.obj, tc.cls, tc.dwn, rfl, _, rfl, lD, _, _, _, rfl, rfl, .inl (.inl R.dwn), ln_i (by omega), _, rfl, a, C, dx, _, _, rfl, R.obj, tc.cls, tc.dwn, rfl, _, rfl, lD, _, _, _, rfl, rfl, .inl (.inl R.dwn), ln_i (by omega), _, _, rfl, rfl, ?_⟩
      by_cases z : T.dn x < T.dn y
      · rw [decide_eq_true (.inr ⟨c2', z⟩)] at q
        have e : decide ((T.dn x : Int) < (T.dn y : Int)) = true := decide_eq_true (by exact_mod_cast z)
        show Q (.bl (decide ((T.dn x : Int) < (T.dn y : Int)))) H
        rw [e]
        exact q
      · rw [decide_eq_false (fun h => h.elim c1' fun y => z y.2)] at q
        have e : decide ((T.dn x : Int) < (T.dn y : Int)) = false := decide_eq_false (fun y => z (by exact_mod_cast y))
        show Q (.bl (decide ((T.dn x : Int) < (T.dn y : Int)))) H
        rw [e]
        exact q
    · have c2' : ¬ T.L x c * T.L y k = T.L y c * T.L x k := by simpa using c2
      rw [decide_eq_false (fun h => h.elim c1' fun y => c2' y.1)] at q
      exact q
def spLineOut (C : Addr) : Sp := fun vs H Q _ => ∃ (a dx lL lA lD : Addr) (us : List V) (r c B : Nat) (T : Px.Tb) (k : Nat), vs = [.ref a, .int (k : Int)] ∧ TabR H C a dx lL lA lD us r c T ∧ r ≤ 900 ∧ k < c ∧ Sz r c B T ∧ B ≤ 20000 ∧
  ((∀ s, s < r → T.L s k ≤ 0) → Q .non H) ∧ ∀ x, OutL r c T k x → Q (.int (x : Int)) H
def OutN (c n : Nat) (T : Px.Tb) (k a : Nat) : Prop := a < n ∧ 0 < T.L a k ∧ ∀ s, s < n → 0 < T.L s k → T.L a c * T.L s k < T.L s c * T.L a k ∨ (T.L a c * T.L s k = T.L s c * T.L a k ∧ T.dn a ≤ T.dn s)
theorem ratio_tr {a1 b1 a2 b2 a3 b3 : Int} (h1 : 0 < b1) (h2 : 0 < b2) (h3 : 0 < b3) (x : a1 * b2 ≤ a2 * b1) (y : a2 * b3 ≤ a3 * b2) : a1 * b3 ≤ a3 * b1 ∧ (a1 * b2 < a2 * b1 ∨ a2 * b3 < a3 * b2 → a1 * b3 < a3 * b1) := by
  have e1 : b2 * (a1 * b3) = a1 * b2 * b3 := by rw [← Int.mul_assoc, Int.mul_comm b2]
  have e2 : b2 * (a3 * b1) = a3 * b2 * b1 := by rw [← Int.mul_assoc, Int.mul_comm b2]
  have e3 : a2 * b1 * b3 = a2 * b3 * b1 := by rw [Int.mul_assoc, Int.mul_comm b1, ← Int.mul_assoc]
  have u := Int.mul_le_mul_of_nonneg_right x (Int.le_of_lt h3)
  have v := Int.mul_le_mul_of_nonneg_right y (Int.le_of_lt h1)
  constructor
  · refine Int.le_of_mul_le_mul_left (a := b2) ?_ h2
    rw [e1, e2]
    omega
  · intro h
    refine Int.lt_of_mul_lt_mul_left (a := b2) ?_ (Int.le_of_lt h2)
    rw [e1, e2]
    rcases h with h | h
    · have := Int.mul_lt_mul_of_pos_right h h3
      omega
    · have := Int.mul_lt_mul_of_pos_right h h1
      omega
theorem OutN.next {c n k a : Nat} {T : Px.Tb} (h : OutN c n T k a) (hn : ¬ 0 < T.L n k ∨ ¬ (T.L n c * T.L a k < T.L a c * T.L n k ∨ (T.L n c * T.L a k = T.L a c * T.L n k ∧ T.dn n < T.dn a))) : OutN c (n + 1) T k a := by
  refine ⟨by have := h.1; omega, h.2.1, fun s hs hp => ?_⟩
  by_cases z : s = n
  · subst z
    rcases hn with y | y
    · exact absurd hp y
    · have y1 : ¬ T.L s c * T.L a k < T.L a c * T.L s k := fun w => y (.inl w)
      by_cases e : T.L s c * T.L a k = T.L a c * T.L s k
      · refine .inr ⟨e.symm, ?_⟩
        have : ¬ T.dn s < T.dn a := fun w => y (.inr ⟨e, w⟩)
        omega
      · exact .inl (by omega)
  · exact h.2.2 s (by omega) hp
theorem OutN.take {c n k a : Nat} {T : Px.Tb} (h : OutN c n T k a) (hp : 0 < T.L n k) (hs : T.L n c * T.L a k < T.L a c * T.L n k ∨ (T.L n c * T.L a k = T.L a c * T.L n k ∧ T.dn n < T.dn a)) : OutN c (n + 1) T k n := by
  refine ⟨Nat.lt_succ_self n, hp, fun s hs' hq => ?_⟩
  by_cases z : s = n
  · subst z
    exact .inr ⟨rfl, Nat.le_refl _⟩
  · have q := h.2.2 s (by omega) hq
    have x : T.L n c * T.L a k ≤ T.L a c * T.L n k := by
      rcases hs with w | w
      · exact Int.le_of_lt w
      · exact Int.le_of_eq w.1
    have y : T.L a c * T.L s k ≤ T.L s c * T.L a k := by
      rcases q with w | w
      · exact Int.le_of_lt w
      · exact Int.le_of_eq w.1
    have tr := ratio_tr hp h.2.1 hq x y
    by_cases e : T.L n c * T.L s k = T.L s c * T.L n k
    · refine .inr ⟨e, ?_⟩
      have ns : ¬ (T.L n c * T.L a k < T.L a c * T.L n k ∨ T.L a c * T.L s k < T.L s c * T.L a k) := fun w => by
        have := tr.2 w
        omega
      rcases hs with w | w
      · exact absurd (.inl w) ns
      · rcases q with w' | w'
        · exact absurd (.inr w') ns
        · omega
    · have := tr.1
      exact .inl (by omega)
theorem sc_Table_line_out : FnScope ["self", "column", "best", "at"] ["self", "column"] (defScope s_Table_line_out) := ⟨rfl, rfl, rfl, by decide +kernel, rfl, by decide +kernel, by decide +kernel⟩
theorem ok_Table_line_out {f : Addr} {fd : FuncData} {C : Addr} (F : Fun K "line_out" "Table.line_out" s_Table_line_out f fd) (tc : TabC K C) (m_range : mg "range" = none) (m_len : mg "len" = none) (MS : MtdOk P w K mg base (CXr P w) 1 C "is_sooner" ["self", "at", "best", "column"] (spSooner C)) : FnOk P w K mg base (CXr P w) 2 f fd ["self", "column"] (spLineOut C) := by
  refine fun_okN F sc_Table_line_out (fun vs H Q E h => ?_) (fun cdv A outer s H vs Q E hr h => ?_)
  · obtain ⟨a, dx, lL, lA, lD, us, r, c, B, T, k, rfl, _⟩ := h
    rfl
  obtain ⟨a, dx, lL, lA, lD, us, r, c, B, T, k, rfl, R, hr9, hk, sz, hB, q1, q2⟩ := h
  have px := passM (X := (cxr P w K mg base ["self", "column", "best", "at"] "Table.line_out" (defScope s_Table_line_out) f cdv A outer s H E)) (CXr.mute (P := P) (w := w))
  refine ⟨_, (pss_cons (ps_set (i := 2) sc_Table_line_out.nd rfl (Or.inl rfl) pe_non)
    (pss_cons (ps_for PassesOwn.never rfl (pi_range1 rfl m_range (pac (pe_callB call_len_seq rfl m_len b_len (pac (pe_fld (pv 0) rfl) pa_nil)) pa_nil)) (pg_name (i := 3) sc_Table_line_out.nd rfl (Or.inl rfl)) (pss_one (ps_if (PW.pt (pw_and (pt_cmpR op_gt (pe_ix ix_list (pe_ix ix_list (pe_fld (pv 0) rfl) (pv 3) (fun _ _ => rfl)) (pv 1) (fun _ _ => rfl)) pe_int (nomark _)) (pw_and1 (PW.pt (pw_or (pt_cmpR op_isN (pv 2) pe_non (nomark _)) (pw_or1 (pt_val (pe_mtd (k := 1) (pv 0) (hr.mono (by decide)) px (pac (pv 3) (pac (pv 2) (pac (pv 1) pa_nil))))))))))) (pss_one (ps_set (i := 2) sc_Table_line_out.nd rfl (Or.inl rfl) (pv 3))) pss_nil)))
    (pss_one (ps_ret (pv 2))))), ?_⟩
  refine ⟨_, rfl, a, C, dx, _, _, rfl, R.obj, tc.cls, tc.dwn, rfl, lD, _, rfl, .inl (.inl (.inl R.dwn)), ?_⟩
  rw [ln_len]
  refine ⟨_, rfl, by omega, by omega, for_range (n := r) (fun i σ H' => H' = H ∧ ∃ (o : Option V) (b : V), σ = [some (.ref a), some (.int (k : Int)), some b, o] ∧ ((b = .non ∧ ∀ s, s < i → T.L s k ≤ 0) ∨ ∃ x : Nat, b = .int (x : Int) ∧ OutN c i T k x)) ⟨rfl, none, .non, rfl, .inl ⟨rfl, fun s h => absurd h (Nat.not_lt_zero _)⟩⟩ ?_ ?_⟩
  · rintro i σ H' hi ⟨rfl, o, b, rfl, hb⟩
    obtain ⟨p1, e1, e2⟩ := R.line (s := i) (by omega)
    refine ⟨_, rfl, a, C, dx, _, _, rfl, R.obj, tc.cls, tc.lin, rfl, _, rfl, lL, us, _, _, rfl, rfl, .inl (.inl R.lin), (by rw [Int.zero_add]; exact e1), _, rfl, p1, _, _, _, rfl, rfl, .inl (.inl e2), ln_i (by omega), _, _, rfl, rfl, _, rfl, ite2 (fun c1 => ?_) (fun c1 => ?_)⟩
    · have c1' : 0 < T.L i k := of_decide_eq_true c1
      rcases hb with ⟨rfl, hb⟩ | ⟨x, rfl, hb⟩
      · refine ⟨_, rfl, rfl, _, rfl, ite2 (fun _ => ?_) (fun n => absurd (by simp) n)⟩
        refine iteT ⟨_, rfl, rfl, _, _, rfl, .inr ⟨i, by simp, Nat.lt_succ_self i, c1', fun s hs hp => ?_⟩⟩
        by_cases z : s = i
        · rw [z]
          exact .inr ⟨rfl, Nat.le_refl _⟩
        · have := hb s (by omega)
          omega
      · have hxi := hb.1
        refine ⟨_, rfl, rfl, _, rfl, ite2 (fun n => absurd n (by simp)) (fun _ => ?_)⟩
        refine ⟨_, rfl, a, C, dx, _, _, _, rfl, R.obj, rfl, MS, _, rfl, _, rfl, _, rfl, ?_⟩
        refine ⟨a, dx, lL, lA, lD, us, r, c, B, T, i, x, k, by rw [Int.zero_add], R, by omega, by omega, hk, sz, hB, ?_⟩
        refine ⟨_, rfl, ite2 (fun c2 => ?_) (fun c2 => ?_)⟩
        · have c2' := of_decide_eq_true c2
          exact ⟨_, rfl, rfl, _, _, rfl, .inr ⟨i, by simp, hb.take c1' c2'⟩⟩
        · have c2' := of_decide_eq_false (Bool.eq_false_iff.mpr c2)
          exact ⟨rfl, _, _, rfl, .inr ⟨x, rfl, hb.next (.inr c2')⟩⟩
    · have c1' : ¬ 0 < T.L i k := of_decide_eq_false (Bool.eq_false_iff.mpr c1)
      refine iteF ⟨rfl, _, _, rfl, ?_⟩
      rcases hb with ⟨rfl, hb⟩ | ⟨x, rfl, hb⟩
      · refine .inl ⟨rfl, fun s hs => ?_⟩
        by_cases z : s = i
        · rw [z]
          omega
        · exact hb s (by omega)
      · exact .inr ⟨x, rfl, hb.next (.inl c1')⟩
  · rintro σ H' ⟨rfl, o, b, rfl, hb⟩
    refine ⟨_, rfl, ?_⟩
    rcases hb with ⟨rfl, hb⟩ | ⟨x, rfl, hb⟩
    · exact q1 hb
    · exact q2 x hb
abbrev lamQ : Str := (envOfC "Table.next_swap" (defScope s_Table_next_swap) 0 0 .none).qual ++ "<lambda>"
abbrev lamP : Pos := ⟨48, 49, 48, 81⟩
def TbO (H : Hp) (P0 : Addr) : Prop := TblOk H P0 lamP lamQ
def spNext (C P0 : Addr) : Sp := fun vs H Q _ => ∃ (a dx lL lA lD : Addr) (us : List V) (r c B : Nat) (T : Px.Tb), vs = [.ref a] ∧ TabR H C a dx lL lA lD us r c T ∧ r ≤ 900 ∧ c < 64 ∧ Sz r c B T ∧ B ≤ 20000 ∧ (∀ s, s < r → 0 ≤ T.L s c) ∧ TbO H P0 ∧
  (∀ H', KSame P0 H H' → TbO H' P0 → (∀ j, j < c → 0 ≤ T.L r j) → Q .non H') ∧
  (∀ (p : Addr) (k : Nat) (H' : Hp), KSame P0 H H' → TbO H' P0 → H' p = some (.tup [.non, .int (k : Int)]) → k < c → T.L r k < 0 → (∀ s, s < r → T.L s k ≤ 0) → Q (.ref p) H') ∧
  (∀ (p : Addr) (x k : Nat) (H' : Hp), KSame P0 H H' → TbO H' P0 → H' p = some (.tup [.int (x : Int), .int (k : Int)]) → k < c → T.L r k < 0 → OutL r c T k x → (T.L x c = 0 → ∀ j, j < c → T.L r j < 0 → T.ac k ≤ T.ac j) → Q (.ref p) H')
theorem ks_to {D : Addr} {H H1 H2 : Hp} (k : KSame D H H1) (s : Same H1 H2) : KSame D H H2 := fun b o n e => s _ _ (k b o n e)
theorem TbO.same {H H' : Hp} {P0 : Addr} (h : TbO H P0) (s : Same H H') : TbO H' P0 := by
  rcases h with h | ⟨c, h1, h2⟩
  · exact .inl (s _ _ h)
  · exact .inr ⟨c, s _ _ h1, s _ _ h2⟩
theorem TbO.tbl {H : Hp} {P0 : Addr} (h : TbO H P0) : ∃ ps, H P0 = some (.tbl ps) := by
  rcases h with h | ⟨c, h1, _⟩
  · exact ⟨_, h⟩
  · exact ⟨_, h1⟩
theorem tabR_ks {H H' : Hp} {C a dx lL lA lD P0 : Addr} {us : List V} {r c : Nat} {T : Px.Tb} (h : TabR H C a dx lL lA lD us r c T) (t : TbO H P0) (s : KSame P0 H H') : TabR H' C a dx lL lA lD us r c T := h.same fun b o n e => s b o (fun z => by
  obtain ⟨ps, e'⟩ := t.tbl
  rw [z, e'] at e
  cases e
  exact n _ rfl) e
theorem first_le {ms : List (Int × Int)} {m0 : Int × Int} (h : ms.Pairwise (fun p q => p.1 ≤ q.1)) (e : ms[0]? = some m0) {m : Int × Int} (hm : m ∈ ms) : m0.1 ≤ m.1 := by
  cases ms with
  | nil => cases hm
  | cons x r =>
    cases e
    rcases List.mem_cons.mp hm with z | z
    · rw [z]
      exact Int.le_refl _
    · exact (List.pairwise_cons.mp h).1 m z
theorem sc_Table_next_swap : FnScope ["self", "best", "column", "at"] ["self"] (defScope s_Table_next_swap) := ⟨rfl, rfl, rfl, by decide +kernel, rfl, by decide +kernel, by decide +kernel⟩
theorem ok_Table_next_swap {f cA P0 : Addr} {C : Addr} {oc kV dc pm ct : Value} {od an : Option Addr} {sl : Array (Option Value)}
    (lk : K.lookup f = some ⟨oc, od, .func (PySem.W.fnOf "next_swap" "Table.next_swap" (defArgs s_Table_next_swap) (defBody s_Table_next_swap) (defScope s_Table_next_swap) .none kV dc pm an (.ref cA) ct), sl⟩) (hcd : PySem.W.codeIn K (.ref cA) "Table.next_swap" = true)
    (hC : PySem.W.codeHdIn K cA P0 = true) (hB : BMain mg base) (tc : TabC K C) (m_sorted : mg "sorted" = none)
    (MG : MtdOk P w K mg base (CXr P w) 1 C "growing" ["self"] (spGrowing C)) (MO : MtdOk P w K mg base (CXr P w) 2 C "line_out" ["self", "column"] (spLineOut C)) (MW : MtdOk P w K mg base (CXr P w) 1 C "growth" ["self", "two"] (spGrowth C))
    (G_is_less : Fn P w K mg base (CXr P w) 1 "is_less" ["one", "other"] spLess) : FnOk P w K mg base (CXr P w) 3 f (PySem.W.fnOf "next_swap" "Table.next_swap" (defArgs s_Table_next_swap) (defBody s_Table_next_swap) (defScope s_Table_next_swap) .none kV dc pm an (.ref cA) ct) ["self"] (spNext C P0) := by
  refine fun_okC lk hcd sc_Table_next_swap (fun vs H Q E h => ?_) (fun A outer s H vs Q E hr h => ?_)
  · obtain ⟨a, dx, lL, lA, lD, us, r, c, B, T, rfl, _⟩ := h
    rfl
  obtain ⟨a, dx, lL, lA, lD, us, r, c, B, T, rfl, R, hr9, hc, sz, hBB, fea, tb, q0, q1, q2⟩ := h
  have px : ∀ {X : Cx}, Passes (CXr P w) X.nox E0 := fun {X} => passM (X := X) (CXr.mute (P := P) (w := w))
  refine ⟨_, (pss_cons (ps_set (i := 1) sc_Table_next_swap.nd rfl (Or.inl rfl) pe_non)
    (pss_cons (ps_for PassesOwn.never rfl (pi_list (pe_sortL (si := 0) rfl m_sorted (pe_mtd0 (k := 1) (pv 0) (hr.mono (by decide)) px) rfl rfl (Or.inr (Or.inl rfl)) rfl hC hB (Ty.Room.two hr))) (pg_name (i := 2) sc_Table_next_swap.nd rfl (Or.inl rfl)) (pss_cons (ps_set (i := 3) sc_Table_next_swap.nd rfl (Or.inl rfl) (pe_mtd (k := 2) (pv 0) (hr.mono (by decide)) px (pac (pv 2) pa_nil)))
      (pss_cons (ps_if (pt_cmpR op_isN (pv 3) pe_non (nomark _)) (pss_one (ps_ret (pe_tup (pac pe_non (pac (pv 2) pa_nil))))) pss_nil)
      (pss_one (ps_if (PW.pt (pw_or (pt_cmpR op_isN (pv 1) pe_non (nomark _)) (pw_or1 (pt_val (pe_fn G_is_less (hr.mono (by decide)) px (pac (pe_mtd (k := 1) (pv 0) (hr.mono (by decide)) px (pac (pv 1) pa_nil)) (pac (pe_mtd (k := 1) (pv 0) (hr.mono (by decide)) px (pac (pe_tup (pac (pv 3) (pac (pv 2) pa_nil))) pa_nil)) pa_nil))))))) (pss_one (ps_set (i := 1) sc_Table_next_swap.nd rfl (Or.inl rfl) (pe_tup (pac (pv 3) (pac (pv 2) pa_nil))))) pss_nil)))))
    (pss_one (ps_ret (pv 1))))), ?_⟩
  refine ⟨_, rfl, a, C, dx, _, _, _, rfl, R.obj, rfl, MG, ?_⟩
  refine ⟨a, dx, lL, lA, lD, us, r, c, T, rfl, R, by omega, fun l H1 s1 nl hl => ?_⟩
  have R1 := R.same' s1
  have clen : ((List.range c).filter fun j => decide (T.L r j < 0)).length < 64 := Nat.lt_of_le_of_lt (List.length_filter_le _ _) (by simpa using hc)
  have cmem : ∀ j, j ∈ (List.range c).filter (fun j => decide (T.L r j < 0)) ↔ j < c ∧ T.L r j < 0 := fun j => by simp
  generalize hcs : (List.range c).filter (fun j => decide (T.L r j < 0)) = cs at *
  refine ⟨l, a, C, dx, lA, cs, cs.map (fun j => (T.ac j : Int)), _, _, rfl, .inl (.inl hl), clen, rfl, R1.obj, tc.cls, tc.acr, rfl, .inl (.inl R1.acr), by simp, fun i x k e1 e2 => ?_, tb.same s1, fun l' ms H2 k2 tb2 nl' pm pw hl' => ?_⟩
  · rw [List.getElem?_map, e1] at e2
    cases e2
    exact ln_get ((cmem x).mp (List.mem_of_getElem? e1)).1
  have k12 : KSame P0 H H2 := fun b o n e => k2 b o n (s1 _ _ e)
  have R2 := tabR_ks R tb k12
  have mmem : ∀ m ∈ ms, ∃ j : Nat, j < c ∧ T.L r j < 0 ∧ m = ((T.ac j : Int), (j : Int)) := fun m hm => by
    have := pm.mem_iff.mp hm
    rw [List.zip_map'] at this
    obtain ⟨j, hj, e⟩ := List.mem_map.mp this
    exact ⟨j, ((cmem j).mp hj).1, ((cmem j).mp hj).2, e.symm⟩
  have mall : ∀ j : Nat, j < c → T.L r j < 0 → ((T.ac j : Int), (j : Int)) ∈ ms := fun j h1 h2 => by
    refine pm.mem_iff.mpr ?_
    rw [List.zip_map']
    exact List.mem_map.mpr ⟨j, (cmem j).mpr ⟨h1, h2⟩, rfl⟩
  have mat : ∀ (i : Nat) (v : V), (ms.map fun p => V.int p.2)[i]? = some v → ∃ j : Nat, j < c ∧ T.L r j < 0 ∧ ms[i]? = some ((T.ac j : Int), (j : Int)) ∧ v = .int (j : Int) := fun i v e => by
    rw [List.getElem?_map] at e
    obtain ⟨m, em, rfl⟩ := Option.map_eq_some_iff.mp e
    obtain ⟨j, h1, h2, rfl⟩ := mmem m (List.mem_of_getElem? em)
    exact ⟨j, h1, h2, em, rfl⟩
  have okn : ∀ x k : Nat, x < r → k < c → 0 < T.L x k → Okn 100000 (-(T.L r k) * T.L x c, T.L x k) := fun x k hx hk hp => ⟨hp, by
    have := pw_mul (a := -(T.L r k)) (b := T.L x c) (m := B) (n := B) (by rw [Int.natAbs_neg]; exact sz.2 r k (by omega) (by omega)) (sz.2 x c (by omega) (by omega))
    exact pw_bits this (by omega), pw_bits (sz.2 x k (by omega) (by omega)) (by omega)⟩
  refine ⟨l', rfl, ⟨_, .inl (.inl hl')⟩, for_list (K := K) (a := l') (xs := ms.map fun p => V.int p.2) (fun i σ H' => Same H2 H' ∧ ∃ (b : V) (o1 o2 : Option V), σ = [some (.ref a), some b, o1, o2] ∧ ((b = .non ∧ i = 0) ∨ ∃ x k : Nat, Two H' b x k ∧ k < c ∧ T.L r k < 0 ∧ OutL r c T k x ∧ (T.L x c = 0 → ms[0]? = some ((T.ac k : Int), (k : Int)))))
    ⟨Same.refl _, .non, none, none, rfl, .inl ⟨rfl, rfl⟩⟩ (fun i σ H' _ ⟨s', _⟩ => s'.seq (.inl (.inl hl'))) ?_ ?_⟩
  · rintro i u σ H' hu ⟨s', b, o1, o2, rfl, hb⟩
    obtain ⟨j, hj, hn, em, rfl⟩ := mat i u hu
    have R' := R2.same' s'
    have ks : KSame P0 H H' := ks_to k12 s'
    refine ⟨_, rfl, a, C, dx, _, _, _, rfl, R'.obj, rfl, MO, _, rfl, a, dx, lL, lA, lD, us, r, c, B, T, j, rfl, R', hr9, hj, sz, hBB, fun hall => ?_, fun x hx => ?_⟩
    · refine ⟨_, rfl, rfl, _, rfl, ite2 (fun _ => ?_) (fun n => absurd (by simp) n)⟩
      refine ⟨_, rfl, (by show 2 ≤ sizeLine; decide), fun p np => ?_⟩
      have sp := same_new np (.tup [.non, .int (j : Int)])
      exact q1 p j _ (ks_to ks sp) (TbO.same (TbO.same tb2 s') sp) upd_same hj hn hall
    · refine ⟨_, rfl, rfl, _, rfl, ite2 (fun n => absurd n (by simp)) (fun _ => ?_)⟩
      rcases hb with ⟨rfl, rfl⟩ | ⟨x0, k0, ⟨p0, rfl, hp0⟩, hk0, hn0, ho0, hf0⟩
      · refine ⟨_, rfl, rfl, _, rfl, ite2 (fun _ => ?_) (fun n => absurd (by simp) n)⟩
        refine iteT ⟨_, rfl, _, rfl, (by show 2 ≤ sizeLine; decide), fun p np => ?_⟩
        exact ⟨s'.trans (same_new np _), _, _, _, rfl, .inr ⟨x, j, ⟨p, rfl, upd_same⟩, hj, hn, hx, fun _ => em⟩⟩
      · refine ⟨_, rfl, rfl, _, rfl, ite2 (fun n => absurd n (by simp)) (fun _ => ?_)⟩
        refine ⟨_, rfl, a, C, dx, _, _, _, rfl, R'.obj, rfl, MW, _, rfl, a, dx, lL, lA, lD, us, r, c, B, T, _, x0, k0, rfl, R', ⟨p0, rfl, hp0⟩, ho0.1, hk0, sz, hBB, fun u1 H3 s3 n1 => ?_⟩
        have R3 := R'.same' s3
        refine ⟨_, rfl, a, C, dx, _, _, _, rfl, R3.obj, rfl, MW, _, rfl, _, rfl, (by show 2 ≤ sizeLine; decide), fun p4 np4 => ?_⟩
        have s4 := same_new np4 (.tup [.int (x : Int), .int (j : Int)])
        refine ⟨a, dx, lL, lA, lD, us, r, c, B, T, _, x, j, rfl, R3.same' s4, ⟨p4, rfl, upd_same⟩, hx.1, hj, sz, hBB, fun u2 H5 s5 n2 => ?_⟩
        have s35 := s4.trans s5
        refine ⟨u1, u2, _, _, rfl, n1.same s35, n2, okn x0 k0 ho0.1 hk0 ho0.2.1, okn x j hx.1 hj hx.2.1, ?_⟩
        refine ⟨_, rfl, ite2 (fun c1 => ?_) (fun c1 => ?_)⟩
        · have c1' := of_decide_eq_true c1
          refine ⟨_, rfl, _, rfl, (by show 2 ≤ sizeLine; decide), fun p np => ?_⟩
          refine ⟨s'.trans (s3.trans (s35.trans (same_new np _))), _, _, _, rfl, .inr ⟨x, j, ⟨p, rfl, upd_same⟩, hj, hn, hx, fun z => ?_⟩⟩
          exfalso
          have h1 : 0 ≤ -(T.L r k0) * T.L x0 c * T.L x j := Int.mul_nonneg (Int.mul_nonneg (by omega) (fea x0 ho0.1)) (Int.le_of_lt hx.2.1)
          simp only [z, Int.mul_zero, Int.zero_mul] at c1'
          omega
        · exact ⟨s'.trans (s3.trans s35), _, _, _, rfl, .inr ⟨x0, k0, ⟨p0, rfl, s35 _ _ (s3 _ _ hp0)⟩, hk0, hn0, ho0, hf0⟩⟩
  · rintro σ H' ⟨s', b, o1, o2, rfl, hb⟩
    have ks : KSame P0 H H' := ks_to k12 s'
    have tb' := TbO.same tb2 s'
    refine ⟨_, rfl, ?_⟩
    rcases hb with ⟨rfl, hz⟩ | ⟨x0, k0, ⟨p0, rfl, hp0⟩, hk0, hn0, ho0, hf0⟩
    · refine q0 H' ks tb' fun j hj => ?_
      apply Classical.byContradiction
      intro n
      have := mall j hj (by omega)
      rw [List.length_map] at hz
      rw [List.length_eq_zero_iff.mp hz] at this
      cases this
    · refine q2 p0 x0 k0 H' ks tb' hp0 hk0 hn0 ho0 fun z j hj hn => ?_
      have := first_le pw (hf0 z) (mall j hj hn)
      simpa using this
def rowS (d : Int) (F G : Nat → Int) (k j : Nat) : Int := if j = k then -(F k) else (G k * F j - F k * G j).fdiv d
def spSwapped (C : Addr) : Sp := fun vs H Q _ => ∃ (a dx lL lA lD pl pd : Addr) (d : Int) (n k B : Nat) (F G : Nat → Int), vs = [.ref a, .ref pl, .ref pd, .int (k : Int)] ∧ H a = some (.ins C dx (fsT lL lA lD d)) ∧ H pl = some (.lst (ln n F)) ∧ H pd = some (.lst (ln n G)) ∧ k < n ∧ n ≤ 900 ∧ d ≠ 0 ∧ B ≤ 20000 ∧
  (∀ j, j < n → (F j).natAbs ≤ 2 ^ B) ∧ (∀ j, j < n → (G j).natAbs ≤ 2 ^ B) ∧ ∀ (l : Addr) (H' : Hp), Same H H' → H l = none → H' l = some (.lst (ln n (rowS d F G k))) → Q (.ref l) H'
theorem sc_Table_swapped : FnScope ["self", "line", "lead", "column", "times", "less", "whole"] ["self", "line", "lead", "column"] (defScope s_Table_swapped) := ⟨rfl, rfl, rfl, by decide +kernel, rfl, by decide +kernel, by decide +kernel⟩
theorem ok_Table_swapped {f : Addr} {fd : FuncData} {C : Addr} (ht : P.given.tree = none) (F : Fun K "swapped" "Table.swapped" s_Table_swapped f fd) (tc : TabC K C) (m_zip : mg "zip" = none) : FnOk P w K mg base (CXr P w) 33 f fd ["self", "line", "lead", "column"] (spSwapped C) := by
  refine fun_okN F sc_Table_swapped (fun vs H Q E h => ?_) (fun cdv A outer s H vs Q E hr h => ?_)
  · obtain ⟨a, dx, lL, lA, lD, pl, pd, d, n, k, B, F, G, rfl, _⟩ := h
    rfl
  obtain ⟨a, dx, lL, lA, lD, pl, pd, d, n, k, B, F, G, rfl, ha, hl, hd, hk, hn, hd0, hB, bF, bG, q⟩ := h
  refine ⟨_, (pss_cons (ps_set (i := 4) sc_Table_swapped.nd rfl (Or.inr rfl) (pe_ix ix_list (pv 2) (pv 3) (fun _ _ => rfl)))
    (pss_cons (ps_set (i := 5) sc_Table_swapped.nd rfl (Or.inr rfl) (pe_ix ix_list (pv 1) (pv 3) (fun _ _ => rfl)))
    (pss_cons (ps_setC (i := 6) sc_Table_swapped.nd rfl (Or.inl rfl) (tn := ["one", "other"]) (fr := ["times", "self", "less"]) (caps := [4, 0, 5]) rfl ⟨rfl, by decide +kernel, rfl, by decide +kernel, by decide +kernel, rfl, ⟨(by first | exact Or.inl rfl | exact Or.inr rfl), ⟨(by first | exact Or.inl rfl | exact Or.inr rfl), ⟨(by first | exact Or.inl rfl | exact Or.inr rfl), trivial⟩⟩⟩, ⟨(by first | exact Or.inl rfl | exact Or.inr rfl), ⟨(by first | exact Or.inl rfl | exact Or.inr rfl), ⟨(by first | exact Or.inl rfl | exact Or.inr rfl), trivial⟩⟩⟩⟩ (pi_zip rfl m_zip (pac (pv 1) (pac (pv 2) pa_nil))) (fun _ _ _ _ => (pg_tupK (K := K) (n := 2) rfl rfl (pgs_cons (pg_name (i := 0) (show (["one", "other", "times", "self", "less"] : List Str).Nodup from by decide +kernel) rfl (Or.inl rfl)) (pgs_cons (pg_name (i := 1) (show (["one", "other", "times", "self", "less"] : List Str).Nodup from by decide +kernel) rfl (Or.inl rfl)) pgs_nil)))) (fun _ _ _ _ => pf_nil) (fun _ _ _ _ => (pe_op (op_fdivU ht (Ty.Room.py hr (by decide)) rfl rfl rfl rfl rfl) (pe_op op_sub (pe_op op_mulB (pv 2) (pv 0)) (pe_op op_mulB (pv 4) (pv 1))) (pe_fldK (K := K) rfl (pv 3) rfl))))
    (pss_cons (ps_asg (pe_un un_neg (pv 5)) (pg_sub (pv 6) (pv 3) set_list))
    (pss_one (ps_ret (pv 6))))))), ?_⟩
  refine ⟨_, rfl, _, rfl, pd, _, _, _, rfl, rfl, .inl (.inl hd), ln_i hk, ?_⟩
  refine ⟨_, rfl, _, rfl, pl, _, _, _, rfl, rfl, .inl (.inl hl), ln_i hk, ?_⟩
  refine ⟨_, rfl, _, rfl, pl, pd, rfl, ⟨_, .inl (.inl hl)⟩, ⟨_, .inl (.inl hd)⟩, fun D nD => ?_⟩
  refine comp_zip (K := K) (a := pl) (b := pd) (xs := ln n F) (ys := ln n G) (cap := [some (.int (G k)), some (.ref a), some (.int (F k))]) (fun i v _ => v = .int ((G k * F i - F k * G i).fdiv d)) nD (by rw [ln_len]; exact Nat.lt_of_le_of_lt hn (by decide)) (by rw [ln_len, ln_len]) (fun H2 s2 => .inl (.inl (s2 _ _ hl))) (fun H2 s2 => .inl (.inl (s2 _ _ hd))) (fun _ _ _ _ _ _ _ h => h) ?_ ?_
  · intro i x y H2 R ex ey s2 k2
    have hi : i < n := by
      have := (List.getElem?_eq_some_iff.mp ex).1
      rwa [ln_len] at this
    rw [ln_get hi] at ex ey
    cases ex
    cases ey
    refine ⟨_, rfl, _, rfl, _, _, rfl, rfl, pw_cmul (bG k hk) (bF i hi) (by omega) (by omega), _, rfl, _, rfl, _, _, rfl, rfl, pw_cmul (bF k hk) (bG i hi) (by omega) (by omega), _, _, rfl, rfl, ?_⟩
    exact ⟨_, rfl, a, C, dx, _, _, rfl, s2 _ _ ha, tc.cls, tc.bot, rfl, _, _, rfl, rfl, hd0, k2 _ _ (Same.refl _) rfl⟩
  · intro zs H2 hz hrel s2 hD
    rw [ln_len] at hz
    have ez : zs = ln n (fun i => (G k * F i - F k * G i).fdiv d) := ln_ext hz fun i v _ e => hrel i v e
    rw [ez] at hD
    refine ⟨_, rfl, _, rfl, _, rfl, _, rfl, D, _, _, k, rfl, rfl, hD, by rw [ln_len]; exact ixN_i hk, ?_⟩
    refine ⟨_, rfl, ?_⟩
    refine q D _ (fun b o e => ?_) nD ?_
    · rw [upd_ne (ne_of_none e nD)]
      exact s2 _ _ e
    · rw [upd_same, ln_set hk]
      rfl
def spSwap (C : Addr) : Sp := fun vs H Q _ => ∃ (a dx lL lA lD : Addr) (us : List V) (r c B : Nat) (T : Px.Tb) (x k : Nat), vs = [.ref a, .int (x : Int), .int (k : Int)] ∧ TabR H C a dx lL lA lD us r c T ∧ x < r ∧ k < c ∧ r ≤ 800 ∧ c ≤ 800 ∧ Sz r c B T ∧ B ≤ 20000 ∧ T.d ≠ 0 ∧
  ∀ (l : Addr) (us' : List V) (H' : Hp), (∀ b o, b ≠ a → b ≠ lA → b ≠ lD → H b = some o → H' b = some o) → TabR H' C a dx l lA lD us' r c (Px.piv T x k) → Q .non H'
theorem sc_Table_swap : FnScope ["self", "at", "column", "lead", "lines", "thing"] ["self", "at", "column"] (defScope s_Table_swap) := ⟨rfl, rfl, rfl, by decide +kernel, rfl, by decide +kernel, by decide +kernel⟩
theorem ok_Table_swap {f : Addr} {fd : FuncData} {C : Addr} (F : Fun K "swap" "Table.swap" s_Table_swap f fd) (tc : TabC K C) (m_list : mg "list" = none) (MW : MtdOk P w K mg base (CXr P w) 33 C "swapped" ["self", "line", "lead", "column"] (spSwapped C)) : FnOk P w K mg base (CXr P w) 34 f fd ["self", "at", "column"] (spSwap C) := by
  refine fun_okN F sc_Table_swap (fun vs H Q E h => ?_) (fun cdv A outer s H vs Q E hr h => ?_)
  · obtain ⟨a, dx, lL, lA, lD, us, r, c, B, T, x, k, rfl, _⟩ := h
    rfl
  obtain ⟨a, dx, lL, lA, lD, us, r, c, B, T, x, k, rfl, R, hx, hk, hr8, hc8, sz, hB, hd, q⟩ := h
  refine ⟨_, (pss_cons (ps_set (i := 3) sc_Table_swap.nd rfl (Or.inr rfl) (pe_ix ix_list (pe_fld (pv 0) rfl) (pv 1) (fun _ _ => rfl)))
    (pss_cons (ps_setC (i := 4) sc_Table_swap.nd rfl (Or.inl rfl) (tn := ["line"]) (fr := ["self", "lead", "column"]) (caps := [0, 3, 2]) rfl ⟨rfl, by decide +kernel, rfl, by decide +kernel, by decide +kernel, rfl, ⟨(by first | exact Or.inl rfl | exact Or.inr rfl), ⟨(by first | exact Or.inl rfl | exact Or.inr rfl), ⟨(by first | exact Or.inl rfl | exact Or.inr rfl), trivial⟩⟩⟩, ⟨(by first | exact Or.inl rfl | exact Or.inr rfl), ⟨(by first | exact Or.inl rfl | exact Or.inr rfl), ⟨(by first | exact Or.inl rfl | exact Or.inr rfl), trivial⟩⟩⟩⟩ (pi_list (pe_fld (pv 0) rfl)) (fun _ _ _ _ => (pg_name (i := 0) (show (["line", "self", "lead", "column"] : List Str).Nodup from by decide +kernel) rfl (Or.inl rfl))) (fun _ _ _ _ => pf_nil) (fun _ _ _ _ => (pe_mtdK (P := P) (w := w) (K := K) (mg := mg) (base := base) (CX := CXr P w) rfl rfl rfl rfl rfl (k := 33) (pv 1) (hr.mono (by decide)) (passB (by first | assumption | exact CXr.mute) rfl) (pac (pv 0) (pac (pv 2) (pac (pv 3) pa_nil))))))
    (pss_cons (ps_asg (pe_callTy call_listL rfl m_list b_list (pac (pv 3) pa_nil)) (pg_sub (pv 4) (pv 1) set_list))
    (pss_cons (ps_asg (pe_fld (pv 0) rfl) (pg_sub (pe_ix ix_list (pv 4) (pv 1) (fun _ _ => rfl)) (pv 2) set_list))
    (pss_cons (ps_fld (pv 0) (pv 4) rfl)
    (pss_cons (ps_fld (pv 0) (pe_ix ix_list (pv 3) (pv 2) (fun _ _ => rfl)) rfl)
    (pss_cons (ps_set (i := 5) sc_Table_swap.nd rfl (Or.inl rfl) (pe_ix ix_list (pe_fld (pv 0) rfl) (pv 1) (fun _ _ => rfl)))
    (pss_cons (ps_asg (pe_ix ix_list (pe_fld (pv 0) rfl) (pv 2) (fun _ _ => rfl)) (pg_sub (pe_fld (pv 0) rfl) (pv 1) set_list))
    (pss_one (ps_asg (pv 5) (pg_sub (pe_fld (pv 0) rfl) (pv 2) set_list))))))))))), ?_⟩
  obtain ⟨pd, e1, e2⟩ := R.line (s := x) (by omega)
  refine ⟨_, rfl, a, C, dx, _, _, rfl, R.obj, tc.cls, tc.lin, rfl, _, rfl, lL, us, _, _, rfl, rfl, .inl (.inl R.lin), e1, ?_⟩
  refine ⟨_, rfl, a, C, dx, _, _, rfl, R.obj, tc.cls, tc.lin, rfl, lL, rfl, ⟨_, .inl (.inl R.lin)⟩, fun D nD => ?_⟩
  have ul := R.row.1
  refine comp_listD (K := K) (a := lL) (xs := us) (cap := [some (.ref a), some (.ref pd), some (.int (k : Int))]) (fun i v H' => ∃ l, v = .ref l ∧ l ≠ D ∧ H l = none ∧ H' l = some (.lst (ln (c + 1) (rowS T.d (T.L i) (T.L x) k)))) nD (by rw [ul]; exact Nat.lt_of_le_of_lt (show r + 1 ≤ 801 by omega) (by decide)) (fun H2 s2 => .inl (.inl (s2 _ _ R.lin))) (fun i v H2 H3 ys hD ks ⟨l, e, nl, fl, hl⟩ => ⟨l, e, nl, fl, ks _ _ nl hl⟩) ?_ ?_
  · intro i u H2 R2 eu s2 ⟨ys, hD⟩ k2
    have hi : i < r + 1 := by
      have := (List.getElem?_eq_some_iff.mp eu).1
      omega
    obtain ⟨pi, f1, f2⟩ := R.row.2 i hi
    rw [f1] at eu
    cases eu
    refine ⟨_, rfl, a, C, dx, _, _, _, rfl, s2 _ _ R.obj, rfl, MW, _, rfl, _, rfl, _, rfl, ?_⟩
    refine ⟨a, dx, lL, lA, lD, pi, pd, T.d, c + 1, k, B, T.L i, T.L x, rfl, s2 _ _ R.obj, s2 _ _ f2, s2 _ _ e2, by omega, by omega, hd, hB, fun j hj => sz.2 i j hi hj, fun j hj => sz.2 x j (by omega) hj, fun l H3 s3 nl hl => ?_⟩
    exact k2 _ _ s3 ⟨l, rfl, (fun z => by rw [z, hD] at nl; cases nl), s2.free nl, hl⟩
  · intro ys H2 hy hrel s2 hD
    rw [ul] at hy
    -- the lead's own new line
    refine ⟨_, rfl, pd, _, rfl, .inl (.inl (s2 _ _ e2)), fun l2 n2 => ?_⟩
    have l2D : l2 ≠ D := fun z => by rw [z, hD] at n2; cases n2
    have n2' : H l2 = none := s2.free n2
    refine ⟨_, rfl, _, rfl, D, ys, _, x, rfl, rfl, (by rw [upd_ne (Ne.symm l2D)]; exact hD), by rw [hy]; exact ixN_i (by omega), ?_⟩
    have a2 : a ≠ l2 := ne_of_none R.obj n2'
    have aD : a ≠ D := ne_of_none R.obj nD
    refine ⟨_, rfl, a, C, dx, _, _, rfl, (by rw [upd_ne aD, upd_ne a2]; exact s2 _ _ R.obj), tc.cls, tc.bot, rfl, ?_⟩
    refine ⟨_, rfl, _, rfl, D, _, _, (V.ref l2), rfl, rfl, .inl (.inl upd_same), atI_nat (by rw [List.getElem?_set, if_pos rfl, if_pos (by omega)]), ?_⟩
    refine ⟨_, rfl, l2, _, _, k, rfl, rfl, (by rw [upd_ne l2D, upd_same]), by rw [ln_len]; exact ixN_i (by omega), ?_⟩
    rw [ln_set (show k < c + 1 by omega)]
    have k5 : ∀ b o, b ≠ D → b ≠ l2 → H2 b = some o → (upd (upd (upd H2 l2 (.lst (ln (c + 1) (T.L x)))) D (.lst (ys.set x (.ref l2)))) l2 (.lst (ln (c + 1) fun j => if j = k then T.d else T.L x j))) b = some o := fun b o nb1 nb2 e => by
      rw [upd_ne nb2, upd_ne nb1, upd_ne nb2]
      exact e
    have D5 : (upd (upd (upd H2 l2 (.lst (ln (c + 1) (T.L x)))) D (.lst (ys.set x (.ref l2)))) l2 (.lst (ln (c + 1) fun j => if j = k then T.d else T.L x j))) D = some (.lst (ys.set x (.ref l2))) := by
      rw [upd_ne (Ne.symm l2D), upd_same]
    have l5 : (upd (upd (upd H2 l2 (.lst (ln (c + 1) (T.L x)))) D (.lst (ys.set x (.ref l2)))) l2 (.lst (ln (c + 1) fun j => if j = k then T.d else T.L x j))) l2 = some (.lst (ln (c + 1) fun j => if j = k then T.d else T.L x j)) := upd_same
    generalize upd (upd (upd H2 l2 (.lst (ln (c + 1) (T.L x)))) D (.lst (ys.set x (.ref l2)))) l2 (.lst (ln (c + 1) fun j => if j = k then T.d else T.L x j)) = H5 at *
    have old5 : ∀ b o, H b = some o → H5 b = some o := fun b o e => k5 b o (ne_of_none e nD) (ne_of_none e n2') (s2 _ _ e)
    have aA : a ≠ lA := fun z => by have := R.acr; rw [← z, R.obj] at this; cases this
    have aL : a ≠ lD := fun z => by have := R.dwn; rw [← z, R.obj] at this; cases this
    have ap : a ≠ pd := fun z => by rw [← z, R.obj] at e2; cases e2
    have AD : lA ≠ D := ne_of_none R.acr nD
    have DD : lD ≠ D := ne_of_none R.dwn nD
    have A2 : lA ≠ l2 := ne_of_none R.acr n2'
    have D2 : lD ≠ l2 := ne_of_none R.dwn n2'
    refine ⟨_, rfl, _, rfl, a, C, dx, _, rfl, old5 _ _ R.obj, tc.cls, tc.lin, (by show 4 < 1000; decide), ?_⟩
    rw [putF_lines]
    refine ⟨_, rfl, _, rfl, pd, _, _, _, rfl, rfl, .inl (.inl (by rw [upd_ne (Ne.symm ap)]; exact old5 _ _ e2)), ln_i (by omega), _, rfl, a, C, dx, _, rfl, upd_same, tc.cls, tc.bot, (by show 4 < 1000; decide), ?_⟩
    rw [putF_bottom]
    generalize e7 : upd (upd H5 a (.ins C dx (fsT D lA lD T.d))) a (.ins C dx (fsT D lA lD (T.L x k))) = H7
    have o7 : H7 a = some (.ins C dx (fsT D lA lD (T.L x k))) := by rw [← e7, upd_same]
    have k7 : ∀ b o, b ≠ a → H5 b = some o → H7 b = some o := fun b o nb e => by rw [← e7, upd_ne nb, upd_ne nb]; exact e
    refine ⟨_, rfl, a, C, dx, _, _, rfl, o7, tc.cls, tc.dwn, rfl, _, rfl, lD, _, _, _, rfl, rfl, .inl (.inl (k7 _ _ (Ne.symm aL) (old5 _ _ R.dwn))), ln_i hx, ?_⟩
    refine ⟨_, rfl, a, C, dx, _, _, rfl, o7, tc.cls, tc.acr, rfl, _, rfl, lA, _, _, _, rfl, rfl, .inl (.inl (k7 _ _ (Ne.symm aA) (old5 _ _ R.acr))), ln_i hk, ?_⟩
    refine ⟨_, rfl, a, C, dx, _, _, rfl, o7, tc.cls, tc.dwn, rfl, _, rfl, lD, _, _, x, rfl, rfl, k7 _ _ (Ne.symm aL) (old5 _ _ R.dwn), by rw [ln_len]; exact ixN_i hx, ?_⟩
    rw [ln_set hx]
    refine ⟨_, rfl, _, rfl, a, C, dx, _, _, rfl, (by rw [upd_ne aL]; exact o7), tc.cls, tc.acr, rfl, _, rfl, lA, _, _, k, rfl, rfl, (by rw [upd_ne R.neA]; exact k7 _ _ (Ne.symm aA) (old5 _ _ R.acr)), by rw [ln_len]; exact ixN_i hk, ?_⟩
    rw [ln_set hk]
    have rp : ∀ s, s < r + 1 → ∃ p, (ys.set x (.ref l2))[s]? = some (.ref p) ∧ H p = none ∧ p ≠ D ∧ H5 p = some (.lst (ln (c + 1) ((Px.piv T x k).L s))) := fun s hs => by
      by_cases z : s = x
      · subst z
        refine ⟨l2, by rw [List.getElem?_set, if_pos rfl, if_pos (by omega)], n2', l2D, ?_⟩
        rw [l5]
        congr 2
        refine ln_congr fun j _ => ?_
        show _ = (if s = s then (if j = k then T.d else T.L s j) else _)
        rw [if_pos rfl]
      · have e : ys[s]? = some (ys[s]'(by omega)) := List.getElem?_eq_getElem (by omega)
        obtain ⟨l, el, nl, fl, hl⟩ := hrel s _ e
        have ll : l ≠ l2 := fun y => by rw [y, n2] at hl; cases hl
        refine ⟨l, by rw [List.getElem?_set, if_neg (Ne.symm z), e, el], fl, nl, ?_⟩
        rw [k5 l _ nl ll hl]
        congr 2
        refine ln_congr fun j _ => ?_
        show rowS T.d (T.L s) (T.L x) k j = (if s = x then _ else if j = k then -(T.L s k) else (T.L x k * T.L s j - T.L s k * T.L x j).fdiv T.d)
        rw [if_neg z]
        rfl
    refine q D (ys.set x (.ref l2)) _ (fun b o n1 n2 n3 e => by rw [upd_ne n2, upd_ne n3]; exact k7 _ _ n1 (old5 _ _ e)) ⟨?_, ?_, ⟨by rw [List.length_set]; exact hy, fun s hs => ?_⟩, ?_, ?_, R.neA, fun s z => ?_, fun s z => ?_, Ne.symm AD, Ne.symm DD⟩
    · rw [upd_ne aA, upd_ne aL]
      exact o7
    · rw [upd_ne (Ne.symm AD), upd_ne (Ne.symm DD)]
      exact k7 _ _ (Ne.symm aD) D5
    · obtain ⟨p, h1, h2, h3, h4⟩ := rp s hs
      refine ⟨p, h1, ?_⟩
      rw [upd_ne (Ne.symm (ne_of_none R.acr h2)), upd_ne (Ne.symm (ne_of_none R.dwn h2))]
      exact k7 _ _ (Ne.symm (ne_of_none R.obj h2)) h4
    · rw [upd_same]
      congr 2
      refine ln_congr fun j _ => ?_
      show (if j = k then (T.dn x : Int) else (T.ac j : Int)) = (((if j = k then T.dn x else T.ac j : Nat)) : Int)
      split <;> rfl
    · rw [upd_ne (Ne.symm R.neA), upd_same]
      congr 2
      refine ln_congr fun j _ => ?_
      show (if j = x then (T.ac k : Int) else (T.dn j : Int)) = (((if j = x then T.ac k else T.dn j : Nat)) : Int)
      split <;> rfl
    · have hs : s < r + 1 := by
        have := (List.getElem?_eq_some_iff.mp z).1
        rw [List.length_set] at this
        omega
      obtain ⟨p, h1, h2, _⟩ := rp s hs
      rw [h1] at z
      cases z
      rw [R.acr] at h2
      cases h2
    · have hs : s < r + 1 := by
        have := (List.getElem?_eq_some_iff.mp z).1
        rw [List.length_set] at this
        omega
      obtain ⟨p, h1, h2, _⟩ := rp s hs
      rw [h1] at z
      cases z
      rw [R.dwn] at h2
      cases h2
def spTInit (C : Addr) : Sp := fun vs H Q _ => ∃ (a dx lL : Addr) (us : List V) (r c : Nat) (L : Nat → Nat → Int), vs = [.ref a, .ref lL] ∧ H a = some (.ins C dx []) ∧ H lL = some (.lst us) ∧ LnsT H us (r + 1) (c + 1) L ∧ r ≤ 800 ∧ c ≤ 800 ∧
  ∀ (lA lD : Addr) (H' : Hp), (∀ b o, b ≠ a → H b = some o → H' b = some o) → H lA = none → H lD = none → TabR H' C a dx lL lA lD us r c (Px.tb0 c L) → Q .non H'
theorem sc_Table_init : FnScope ["self", "lines", "many"] ["self", "lines"] (defScope s_Table_init) := ⟨rfl, rfl, rfl, by decide +kernel, rfl, by decide +kernel, by decide +kernel⟩
theorem ok_Table_init {f : Addr} {fd : FuncData} {C : Addr} (F : Fun K "__init__" "Table.__init__" s_Table_init f fd) (tc : TabC K C) (m_len : mg "len" = none) (m_list : mg "list" = none) (m_range : mg "range" = none) : FnOk P w K mg base (CXr P w) 1 f fd ["self", "lines"] (spTInit C) := by
  refine fun_okN F sc_Table_init (fun vs H Q E h => ?_) (fun cdv A outer s H vs Q E hr h => ?_)
  · obtain ⟨a, dx, lL, us, r, c, L, rfl, _⟩ := h
    rfl
  obtain ⟨a, dx, lL, us, r, c, L, rfl, ha, hl, hR, hr8, hc8, q⟩ := h
  refine ⟨_, (pss_cons (ps_set (i := 2) sc_Table_init.nd rfl (Or.inl rfl) (pe_op op_sub (pe_callB call_len_seq rfl m_len b_len (pac (pe_ix ix_list (pv 1) (pe_un un_neg pe_int) (fun _ _ => rfl)) pa_nil)) pe_int))
    (pss_cons (ps_fld (pv 0) (pv 1) rfl)
    (pss_cons (ps_fld (pv 0) pe_int rfl)
    (pss_cons (ps_fld (pv 0) (pe_listR rfl rfl m_list rfl m_range (pac (pv 2) pa_nil)) rfl)
    (pss_one (ps_fld (pv 0) (pe_listR2 rfl rfl m_list rfl m_range (pac (pv 2) (pac (pe_op op_sub (pe_op op_add (pv 2) (pe_callB call_len_seq rfl m_len b_len (pac (pv 1) pa_nil))) pe_int) pa_nil))) rfl)))))), ?_⟩
  obtain ⟨p, e1, e2⟩ := hR.2 r (Nat.lt_succ_self r)
  have e1' : atI us (-1) = some (.ref p) := atI_end (by rw [hR.1]; exact e1)
  refine ⟨_, rfl, _, rfl, lL, us, _, _, rfl, rfl, .inl (.inl hl), e1', p, _, rfl, .inl (.inl (.inl e2)), ?_⟩
  rw [ln_len]
  refine ⟨_, _, rfl, rfl, ?_⟩
  dsimp only
  rw [show ((c + 1 : Nat) : Int) - 1 = (c : Int) by omega]
  refine ⟨_, rfl, _, rfl, a, C, dx, _, rfl, ha, tc.cls, tc.lin, (by show 0 < 1000; decide), ?_⟩
  refine ⟨_, rfl, a, C, dx, _, rfl, upd_same, tc.cls, tc.bot, (by show 1 < 1000; decide), ?_⟩
  rw [show putF "bottom" (.int 1) (putF "lines" (.ref lL) []) = ([("lines", .ref lL), ("bottom", .int 1)] : List (Str × V)) from putF_b1]
  generalize e3 : upd (upd H a (.ins C dx (putF "lines" (.ref lL) []))) a (.ins C dx [("lines", .ref lL), ("bottom", .int 1)]) = H3
  have o3 : H3 a = some (.ins C dx [("lines", .ref lL), ("bottom", .int 1)]) := by rw [← e3, upd_same]
  have k3 : ∀ b o, b ≠ a → H b = some o → H3 b = some o := fun b o n e => by rw [← e3, upd_ne n, upd_ne n]; exact e
  have f3 : ∀ b, H3 b = none → H b = none := fun b n => by
    cases z : H b with
    | none => rfl
    | some o =>
      by_cases y : b = a
      · rw [y, o3] at n
        cases n
      · rw [k3 b o y z] at n
        cases n
  refine ⟨_, rfl, c, rfl, by omega, fun lA nA => ⟨_, rfl, a, C, dx, _, rfl, (by rw [upd_ne (ne_of_none o3 nA)]; exact o3), tc.cls, tc.acr, (by show 2 < 1000; decide), ?_⟩⟩
  rw [putF_a1]
  have aA : a ≠ lA := ne_of_none o3 nA
  generalize e4 : upd (upd H3 lA (.lst ((List.range c).map fun (i : Nat) => V.int (i : Int)))) a (.ins C dx [("lines", .ref lL), ("bottom", .int 1), ("across", .ref lA)]) = H4
  have o4 : H4 a = some (.ins C dx [("lines", .ref lL), ("bottom", .int 1), ("across", .ref lA)]) := by rw [← e4, upd_same]
  have A4 : H4 lA = some (.lst (ln c fun i => (i : Int))) := by rw [← e4, upd_ne (Ne.symm aA), upd_same]; rfl
  have k4 : ∀ b o, b ≠ a → H b = some o → H4 b = some o := fun b o n e => by rw [← e4, upd_ne n, upd_ne (ne_of_none (k3 b o n e) nA)]; exact k3 b o n e
  have f4 : ∀ b, H4 b = none → H b = none := fun b n => by
    cases z : H b with
    | none => rfl
    | some o =>
      by_cases y : b = a
      · rw [y, o4] at n
        cases n
      · rw [k4 b o y z] at n
        cases n
  have lLa : lL ≠ a := fun z => by rw [z, ha] at hl; cases hl
  refine ⟨_, rfl, _, rfl, _, rfl, lL, us, rfl, .inl (.inl (.inl (k4 _ _ lLa hl))), _, _, rfl, rfl, _, _, rfl, rfl, ?_⟩
  rw [hR.1]
  refine ⟨c, r, (show [V.int (c : Int), V.int ((c : Int) + ((r + 1 : Nat) : Int) - 1)] = [V.int (c : Int), V.int ((c : Int) + r)] by rw [show (c : Int) + ((r + 1 : Nat) : Int) - 1 = (c : Int) + r by omega]), by omega, by omega, fun lD nD => ⟨_, rfl, a, C, dx, _, rfl, (by rw [upd_ne (ne_of_none o4 nD)]; exact o4), tc.cls, tc.dwn, (by show 3 < 1000; decide), ?_⟩⟩
  rw [putF_d1]
  have aD : a ≠ lD := ne_of_none o4 nD
  have AD : lA ≠ lD := ne_of_none A4 nD
  have nA' := f3 lA nA
  have nD' := f4 lD nD
  have fin : ∀ b o, b ≠ a → H4 b = some o → (upd (upd H4 lD (.lst ((List.range r).map fun (i : Nat) => V.int ((c : Int) + i)))) a (.ins C dx [("lines", .ref lL), ("bottom", .int 1), ("across", .ref lA), ("down", .ref lD)])) b = some o := fun b o n e => by
    rw [upd_ne n, upd_ne (ne_of_none e nD)]
    exact e
  refine q lA lD _ (fun b o n e => fin b o n (k4 b o n e)) nA' nD' ⟨upd_same, fin _ _ lLa (k4 _ _ lLa hl), ⟨hR.1, fun s hs => ?_⟩, fin _ _ (Ne.symm aA) A4, ?_, AD, fun s z => ?_, fun s z => ?_, ne_of_none hl nA', ne_of_none hl nD'⟩
  · obtain ⟨p', h1, h2⟩ := hR.2 s hs
    have pa : p' ≠ a := fun z => by rw [z, ha] at h2; cases h2
    exact ⟨p', h1, fin _ _ pa (k4 _ _ pa h2)⟩
  · rw [upd_ne (Ne.symm aD), upd_same]
    rfl
  · have hs : s < r + 1 := by
      have := (List.getElem?_eq_some_iff.mp z).1
      rw [hR.1] at this
      exact this
    obtain ⟨p', h1, h2⟩ := hR.2 s hs
    rw [h1] at z
    cases z
    rw [nA'] at h2
    cases h2
  · have hs : s < r + 1 := by
      have := (List.getElem?_eq_some_iff.mp z).1
      rw [hR.1] at this
      exact this
    obtain ⟨p', h1, h2⟩ := hR.2 s hs
    rw [h1] at z
    cases z
    rw [nD'] at h2
    cases h2
structure FillT (m : Nat) (S : Nat → Option (Int × Int)) (qs : List (Int × Int)) : Prop where
  len : qs.length = m
  get : ∀ t, t < m → qs[t]? = some ((S t).getD (0, 1))
theorem FillT.start {m : Nat} : FillT m (fun _ => none) (List.replicate m ((0 : Int), (1 : Int))) := ⟨by simp, fun t ht => by rw [List.getElem?_replicate, if_pos ht]; rfl⟩
theorem FillT.put {m : Nat} {S : Nat → Option (Int × Int)} {qs : List (Int × Int)} (h : FillT m S qs) {t : Nat} {q : Int × Int} : FillT m (fun u => if u = t then some q else S u) (qs.set t q) := by
  refine ⟨by rw [List.length_set]; exact h.len, fun u hu => ?_⟩
  rw [List.getElem?_set, h.len]
  by_cases z : t = u
  · rw [if_pos z, if_pos (by omega), if_pos z.symm]
    rfl
  · rw [if_neg z, if_neg (Ne.symm z)]
    exact h.get u hu
theorem FillT.congr {m : Nat} {S S' : Nat → Option (Int × Int)} {qs : List (Int × Int)} (h : FillT m S qs) (e : ∀ t, t < m → S t = S' t) : FillT m S' qs := ⟨h.len, fun t ht => by rw [h.get t ht, e t ht]⟩
theorem nmsK_rep {H : Hp} {aN : Addr} (hN : ∀ H : Hp, SqT K H aN [.int 0, .int 1]) (m : Nat) : NmsK K H (List.replicate m (V.ref aN)) (List.replicate m ((0 : Int), (1 : Int))) := ⟨by simp, fun i u q e1 e2 => by
  rw [List.getElem?_replicate] at e1 e2
  by_cases z : i < m
  · rw [if_pos z] at e1 e2
    cases e1
    cases e2
    exact ⟨aN, rfl, hN H⟩
  · rw [if_neg z] at e1
    cases e1⟩
theorem NmK.ks {H H' : Hp} {x : Addr} {xs : List V} {v : V} {q : Int × Int} (h : NmK K H v q) (e : H x = some (.lst xs)) (k : KSame x H H') : NmK K H' v q := by
  obtain ⟨p, e1, h1⟩ := h
  refine ⟨p, e1, ?_⟩
  rcases h1 with (h1 | ⟨o, h1⟩) | h1
  · exact .inl (.inl (k _ _ (fun z => by rw [z, e] at h1; cases h1) h1))
  · exact .inl (.inr ⟨o, k _ _ (fun z => by rw [z, e] at h1; cases h1) h1⟩)
  · exact .inr h1
theorem nmsK_ks {H H' : Hp} {x : Addr} {xs us : List V} {qs : List (Int × Int)} (h : NmsK K H us qs) (e : H x = some (.lst xs)) (k : KSame x H H') : NmsK K H' us qs := ⟨h.1, fun i u q e1 e2 => NmK.ks (h.2 i u q e1 e2) e k⟩
def dnS (n : Nat) (e : Nat → Nat) (F : Nat → Int × Int) (t : Nat) : Option (Int × Int) := (List.range n).foldl (fun acc s => if e s = t then some (F s) else acc) none
theorem dnS_succ {n : Nat} {e : Nat → Nat} {F : Nat → Int × Int} {t : Nat} : dnS (n + 1) e F t = if t = e n then some (F n) else dnS n e F t := by
  unfold dnS
  rw [List.range_succ, List.foldl_append]
  show (if e n = t then _ else _) = _
  by_cases z : e n = t
  · rw [if_pos z, if_pos z.symm]
  · rw [if_neg z, if_neg (Ne.symm z)]
theorem dnS_no {e : Nat → Nat} {F : Nat → Int × Int} {t : Nat} : ∀ {n : Nat}, (∀ s, s < n → e s ≠ t) → dnS n e F t = none
  | 0, _ => rfl
  | n + 1, h => by
    rw [dnS_succ, if_neg (Ne.symm (h n (Nat.lt_succ_self n)))]
    exact dnS_no fun s hs => h s (by omega)
theorem dnS_at {e : Nat → Nat} {F : Nat → Int × Int} {t s : Nat} : ∀ {n : Nat}, (∀ i j, i < n → j < n → e i = e j → i = j) → s < n → e s = t → dnS n e F t = some (F s)
  | 0, _, h, _ => absurd h (Nat.not_lt_zero _)
  | n + 1, hi, h, eq => by
    rw [dnS_succ]
    by_cases z : s = n
    · rw [if_pos (by rw [← z]; exact eq.symm), z]
    · rw [if_neg (fun y => z (hi s n h (Nat.lt_succ_self n) (eq.trans y)))]
      exact dnS_at (fun i j h1 h2 => hi i j (by omega) (by omega)) (by omega) eq
def spFitting (K : PySem.W.Frag) (C : Addr) : Sp := fun vs H Q _ => ∃ (a dx lL lA lD : Addr) (us : List V) (r c : Nat) (T : Px.Tb), vs = [.ref a] ∧ TabR H C a dx lL lA lD us r c T ∧ r ≤ 800 ∧ c ≤ 800 ∧ T.d ≠ 0 ∧
  ∀ (x : Addr) (xs : List V) (qs : List (Int × Int)) (H' : Hp), Same H H' → H x = none → H' x = some (.lst xs) → NmsK K H' xs qs → FillT c (dnS r T.dn fun s => low (T.L s c) T.d) qs → Q (.ref x) H'
theorem sc_fitting_list : FnScope ["table", "x", "at", "thing"] ["table"] (defScope s_fitting_list) := ⟨rfl, rfl, rfl, by decide +kernel, rfl, by decide +kernel, by decide +kernel⟩
theorem ok_fitting_list {C aN : Addr} (hN : ∀ H : Hp, SqT K H aN [.int 0, .int 1]) (m_NOUGHT : mg "NOUGHT" = some (.ref aN)) (m_len : mg "len" = none) (m_enumerate : mg "enumerate" = none) (tc : TabC K C) (D : Def K mg "fitting_list" s_fitting_list ["table"]) (G_lowest_terms : Fn P w K mg base (CXr P w) 33 "lowest_terms" ["top", "bottom"] spLowestU) : Fn P w K mg base (CXr P w) 34 "fitting_list" ["table"] (spFitting K C) := by
  refine D.ok sc_fitting_list (fun vs H Q E h => ?_) (fun f cdv A outer s H vs Q E hr h => ?_)
  · obtain ⟨a, dx, lL, lA, lD, us, r, c, T, rfl, _⟩ := h
    rfl
  obtain ⟨a, dx, lL, lA, lD, us, r, c, T, rfl, R, hr8, hc8, hd, q⟩ := h
  have px := passM (X := (cxOf (CXr P w) P w K mg base ["table", "x", "at", "thing"] "fitting_list" (defScope s_fitting_list) f cdv A outer s H E)) (CXr.mute (P := P) (w := w))
  refine ⟨_, (pss_cons (ps_set (i := 1) sc_fitting_list.nd rfl (Or.inl rfl) (pe_op op_rep (pe_lst (pac (pe_glob (v := .ref aN) rfl m_NOUGHT rfl) pa_nil)) (pe_callB call_len_seq rfl m_len b_len (pac (pe_fld (pv 0) rfl) pa_nil))))
    (pss_cons (ps_for PassesOwn.never rfl (pi_enum rfl m_enumerate (pac (pe_fld (pv 0) rfl) pa_nil)) (pg_tup rfl (pgs_cons (pg_name (i := 2) sc_fitting_list.nd rfl (Or.inl rfl)) (pgs_cons (pg_name (i := 3) sc_fitting_list.nd rfl (Or.inl rfl)) pgs_nil))) (pss_one (ps_if (pt_cmpR op_lt (pv 3) (pe_callB call_len_seq rfl m_len b_len (pac (pv 1) pa_nil)) (nomark _)) (pss_one (ps_asg (pe_fn G_lowest_terms (hr.mono (by decide)) px (pac (pe_ix ix_list (pe_ix ix_list (pe_fld (pv 0) rfl) (pv 2) (fun _ _ => rfl)) (pe_un un_neg pe_int) (fun _ _ => rfl)) (pac (pe_fld (pv 0) rfl) pa_nil))) (pg_sub (pv 1) (pv 3) set_list))) pss_nil)))
    (pss_one (ps_ret (pv 1))))), ?_⟩
  refine ⟨(by show 1 ≤ sizeLine; decide), fun p3 n3 => ?_⟩
  have s3 := same_new n3 (.lst [V.ref aN])
  refine ⟨_, rfl, a, C, dx, _, _, rfl, s3 _ _ R.obj, tc.cls, tc.acr, rfl, lA, _, rfl, .inl (.inl (.inl (s3 _ _ R.acr))), ?_⟩
  rw [ln_len]
  refine ⟨p3, _, _, rfl, rfl, upd_same, by omega, by omega, Nat.le_trans (show 1 * (c : Int).toNat ≤ 1000 by omega) (by decide), fun x n4 => ?_⟩
  have er : (List.replicate (c : Int).toNat [V.ref aN]).flatten = List.replicate c (V.ref aN) := by simp
  rw [er]
  have s4 := same_new n4 (.lst (List.replicate c (V.ref aN)))
  have nx : H x = none := s3.free n4
  have s04 := s3.trans s4
  have R4 := R.same' s04
  generalize hH4 : upd (upd H p3 (.lst [V.ref aN])) x (.lst (List.replicate c (V.ref aN))) = H4 at *
  have x4 : H4 x = some (.lst (List.replicate c (V.ref aN))) := by rw [← hH4, upd_same]
  refine ⟨_, rfl, a, C, dx, _, _, rfl, R4.obj, tc.cls, tc.dwn, rfl, lD, rfl, ⟨_, .inl (.inl R4.dwn)⟩, for_enum (K := K) (a := lD) (xs := ln r fun s => (T.dn s : Int)) (fun i σ H' => Same H H' ∧ ∃ (o1 o2 : Option V) (xs : List V) (qs : List (Int × Int)), σ = [some (.ref a), some (.ref x), o1, o2] ∧ H' x = some (.lst xs) ∧ NmsK K H' xs qs ∧ FillT c (dnS i T.dn fun s => low (T.L s c) T.d) qs)
    ⟨s04, none, none, _, _, rfl, x4, nmsK_rep hN c, FillT.start⟩ (fun i σ H' _ ⟨s', _⟩ => .inl (.inl (s' _ _ R.dwn))) ?_ ?_⟩
  · rintro i v σ H' pt hv ⟨s', o1, o2, xs, qs, rfl, hx, hn, hf⟩ npt
    have hi : i < r := by
      have := (List.getElem?_eq_some_iff.mp hv).1
      rwa [ln_len] at this
    rw [ln_get hi] at hv
    cases hv
    have sp := same_new npt (.tup [.int (i : Int), .int (T.dn i : Int)])
    have R' := R.same' (s'.trans sp)
    have hx' := sp _ _ hx
    have hn' := hn.same sp
    have lx : xs.length = c := hn.1.trans hf.len
    obtain ⟨p1, e1, e2⟩ := R'.line (s := i) (by omega)
    refine ⟨pt, _, rfl, SqT.of upd_same, rfl, _, _, rfl, _, _, rfl, rfl, ?_⟩
    refine ⟨_, rfl, _, rfl, x, _, rfl, .inl (.inl (.inl hx')), _, _, rfl, rfl, _, rfl, ?_⟩
    rw [lx]
    refine ite2 (fun c1 => ?_) (fun c1 => ?_)
    · have c1' : T.dn i < c := by
        have := of_decide_eq_true c1
        omega
      refine ⟨_, rfl, a, C, dx, _, _, rfl, R'.obj, tc.cls, tc.lin, rfl, _, rfl, lL, us, _, _, rfl, rfl, .inl (.inl R'.lin), e1, _, rfl, p1, _, _, _, rfl, rfl, .inl (.inl e2), ln_last, ?_⟩
      refine ⟨_, rfl, a, C, dx, _, _, rfl, R'.obj, tc.cls, tc.bot, rfl, _, _, rfl, hd, fun p5 H5 s5 h5 => ?_⟩
      refine ⟨_, rfl, _, rfl, x, xs, _, T.dn i, rfl, rfl, s5 _ _ hx', by rw [lx]; exact ixN_i c1', ?_⟩
      have ks : KSame x H5 (upd H5 x (.lst (xs.set (T.dn i) (.ref p5)))) := KSame.upd
      refine ⟨fun b o e => ?_, _, _, _, _, rfl, upd_same, nmsK_ks ((hn'.same s5).set ⟨p5, rfl, SqT.of h5⟩) (s5 _ _ hx') ks, hf.put.congr fun t _ => dnS_succ.symm⟩
      rw [upd_ne (ne_of_none e nx)]
      exact s5 _ _ (sp _ _ (s' _ _ e))
    · have c1' : ¬ T.dn i < c := fun y => by
        have := of_decide_eq_false (Bool.eq_false_iff.mpr c1)
        omega
      refine ⟨s'.trans sp, _, _, _, _, rfl, hx', hn', hf.congr fun t ht => ?_⟩
      rw [dnS_succ, if_neg (by omega)]
  · rintro σ H' ⟨s', o1, o2, xs, qs, rfl, hx, hn, hf⟩
    rw [ln_len] at hf
    exact ⟨_, rfl, q x xs qs H' s' nx hx hn hf⟩
def eS (i : Nat) (T : Px.Tb) (r k : Nat) (gb : Int) (t : Nat) : Option (Int × Int) := (dnS i T.dn (fun s => low (-(T.L s k) * gb) (-(T.L r k))) t).or (if t = T.ac k then some (low (T.d * gb) (-(T.L r k))) else none)
theorem eS_succ {i : Nat} {T : Px.Tb} {r k : Nat} {gb : Int} {t : Nat} : eS (i + 1) T r k gb t = if t = T.dn i then some (low (-(T.L i k) * gb) (-(T.L r k))) else eS i T r k gb t := by
  unfold eS
  rw [dnS_succ]
  by_cases z : t = T.dn i
  · rw [if_pos z, if_pos z]
    rfl
  · rw [if_neg z, if_neg z]
def spEndless (K : PySem.W.Frag) (C : Addr) : Sp := fun vs H Q _ => ∃ (a dx lL lA lD : Addr) (us : List V) (r c B k : Nat) (T : Px.Tb) (gb : Int), vs = [.ref a, .int (k : Int), .int gb] ∧ TabR H C a dx lL lA lD us r c T ∧ r ≤ 800 ∧ c ≤ 800 ∧ k < c ∧ T.L r k ≠ 0 ∧ Sz r c B T ∧ gb.natAbs ≤ 2 ^ B ∧ B ≤ 20000 ∧
  ∀ (x : Addr) (xs : List V) (qs : List (Int × Int)) (H' : Hp), Same H H' → H x = none → H' x = some (.lst xs) → NmsK K H' xs qs → FillT c (eS r T r k gb) qs → Q (.ref x) H'
theorem sc_endless_list : FnScope ["table", "column", "bottom", "many", "growth", "x", "at", "thing"] ["table", "column", "bottom"] (defScope s_endless_list) := ⟨rfl, rfl, rfl, by decide +kernel, rfl, by decide +kernel, by decide +kernel⟩
theorem ok_endless_list {C aN : Addr} (hN : ∀ H : Hp, SqT K H aN [.int 0, .int 1]) (m_NOUGHT : mg "NOUGHT" = some (.ref aN)) (m_len : mg "len" = none) (m_enumerate : mg "enumerate" = none) (tc : TabC K C) (D : Def K mg "endless_list" s_endless_list ["table", "column", "bottom"]) (G_lowest_terms : Fn P w K mg base (CXr P w) 33 "lowest_terms" ["top", "bottom"] spLowestU) : Fn P w K mg base (CXr P w) 34 "endless_list" ["table", "column", "bottom"] (spEndless K C) := by
  refine D.ok sc_endless_list (fun vs H Q E h => ?_) (fun f cdv A outer s H vs Q E hr h => ?_)
  · obtain ⟨a, dx, lL, lA, lD, us, r, c, B, k, T, gb, rfl, _⟩ := h
    rfl
  obtain ⟨a, dx, lL, lA, lD, us, r, c, B, k, T, gb, rfl, R, hr8, hc8, hk, hnz, sz, bg, hB, q⟩ := h
  have px := passM (X := (cxOf (CXr P w) P w K mg base ["table", "column", "bottom", "many", "growth", "x", "at", "thing"] "endless_list" (defScope s_endless_list) f cdv A outer s H E)) (CXr.mute (P := P) (w := w))
  have hd : -(T.L r k) ≠ 0 := by omega
  obtain ⟨pl, f1, f2⟩ := R.last
  have bd := sz.1
  have loop : ∃ tt, PSs (cxOf (CXr P w) P w K mg base ["table", "column", "bottom", "many", "growth", "x", "at", "thing"] "endless_list" (defScope s_endless_list) f cdv A outer s H E).nox ((defBody s_endless_list).drop 4) tt ∧ ∀ (x : Addr) (H5 : Hp) (xs5 : List V) (qs5 : List (Int × Int)), H x = none → Same H H5 → H5 x = some (.lst xs5) → NmsK K H5 xs5 qs5 → FillT c (eS 0 T r k gb) qs5 → tt { nx := fun _ H' => Q .non H', rt := Q } [some (.ref a), some (.int (k : Int)), some (.int gb), some (.int (c : Int)), some (.int (-(T.L r k))), some (.ref x), none, none] H5 := by
    refine ⟨_, (pss_cons (ps_for PassesOwn.never rfl (pi_enum rfl m_enumerate (pac (pe_fld (pv 0) rfl) pa_nil)) (pg_tup rfl (pgs_cons (pg_name (i := 6) sc_endless_list.nd rfl (Or.inl rfl)) (pgs_cons (pg_name (i := 7) sc_endless_list.nd rfl (Or.inl rfl)) pgs_nil))) (pss_one (ps_if (pt_cmpR op_lt (pv 7) (pv 3) (nomark _)) (pss_one (ps_asg (pe_fn G_lowest_terms (hr.mono (by decide)) px (pac (pe_op op_mulB (pe_un un_neg (pe_ix ix_list (pe_ix ix_list (pe_fld (pv 0) rfl) (pv 6) (fun _ _ => rfl)) (pv 1) (fun _ _ => rfl))) (pv 2)) (pac (pv 4) pa_nil))) (pg_sub (pv 5) (pv 7) set_list))) pss_nil))) (pss_one (ps_ret (pv 5)))), ?_⟩
    intro x H5 xs5 qs5 nx s5 hx5 hn5 hf5
    refine ⟨_, rfl, a, C, dx, _, _, rfl, s5 _ _ R.obj, tc.cls, tc.dwn, rfl, lD, rfl, ⟨_, .inl (.inl (s5 _ _ R.dwn))⟩, for_enum (K := K) (a := lD) (xs := ln r fun s => (T.dn s : Int)) (fun i σ H' => Same H H' ∧ ∃ (o1 o2 : Option V) (xs : List V) (qs : List (Int × Int)), σ = [some (.ref a), some (.int (k : Int)), some (.int gb), some (.int (c : Int)), some (.int (-(T.L r k))), some (.ref x), o1, o2] ∧ H' x = some (.lst xs) ∧ NmsK K H' xs qs ∧ FillT c (eS i T r k gb) qs)
      ⟨s5, none, none, _, _, rfl, hx5, hn5, hf5⟩ (fun i σ H' _ ⟨s', _⟩ => .inl (.inl (s' _ _ R.dwn))) ?_ ?_⟩
    · rintro i v σ H' pt hv ⟨s', o1, o2, xs, qs, rfl, hx, hn, hf⟩ npt
      have hi : i < r := by
        have := (List.getElem?_eq_some_iff.mp hv).1
        rwa [ln_len] at this
      rw [ln_get hi] at hv
      cases hv
      have sp := same_new npt (.tup [.int (i : Int), .int (T.dn i : Int)])
      have R' := R.same' (s'.trans sp)
      have hx' := sp _ _ hx
      have hn' := hn.same sp
      have lx : xs.length = c := hn.1.trans hf.len
      obtain ⟨p1, e1, e2⟩ := R'.line (s := i) (by omega)
      refine ⟨pt, _, rfl, SqT.of upd_same, rfl, _, _, rfl, _, _, rfl, rfl, ?_⟩
      refine ⟨_, rfl, _, rfl, _, _, rfl, rfl, _, rfl, ?_⟩
      refine ite2 (fun c1 => ?_) (fun c1 => ?_)
      · have c1' : T.dn i < c := by
          have := of_decide_eq_true c1
          omega
        refine ⟨_, rfl, a, C, dx, _, _, rfl, R'.obj, tc.cls, tc.lin, rfl, _, rfl, lL, us, _, _, rfl, rfl, .inl (.inl R'.lin), e1, _, rfl, p1, _, _, _, rfl, rfl, .inl (.inl e2), ln_i (by omega), _, rfl, ?_⟩
        refine ⟨_, rfl, _, _, rfl, rfl, pw_cmul (m := B) (n := B) (by rw [Int.natAbs_neg]; exact sz.2 i k (by omega) (by omega)) bg (by omega) (by omega), ?_⟩
        refine ⟨_, rfl, _, _, rfl, hd, fun p5 H5 s5 h5 => ?_⟩
        refine ⟨_, rfl, _, rfl, x, xs, _, T.dn i, rfl, rfl, s5 _ _ hx', by rw [lx]; exact ixN_i c1', ?_⟩
        have ks : KSame x H5 (upd H5 x (.lst (xs.set (T.dn i) (.ref p5)))) := KSame.upd
        refine ⟨fun b o e => ?_, _, _, _, _, rfl, upd_same, nmsK_ks ((hn'.same s5).set ⟨p5, rfl, SqT.of h5⟩) (s5 _ _ hx') ks, hf.put.congr fun t _ => eS_succ.symm⟩
        rw [upd_ne (ne_of_none e nx)]
        exact s5 _ _ (sp _ _ (s' _ _ e))
      · have c1' : ¬ T.dn i < c := fun y => by
          have := of_decide_eq_false (Bool.eq_false_iff.mpr c1)
          omega
        refine ⟨s'.trans sp, _, _, _, _, rfl, hx', hn', hf.congr fun t ht => ?_⟩
        rw [eS_succ, if_neg (by omega)]
    · rintro σ H' ⟨s', o1, o2, xs, qs, rfl, hx, hn, hf⟩
      rw [ln_len] at hf
      exact ⟨_, rfl, q x xs qs H' s' nx hx hn hf⟩
  obtain ⟨tt, p2, q2⟩ := loop
  refine ⟨_, (pss_cons (ps_set (i := 3) sc_endless_list.nd rfl (Or.inl rfl) (pe_callB call_len_seq rfl m_len b_len (pac (pe_fld (pv 0) rfl) pa_nil))) (pss_cons (ps_set (i := 4) sc_endless_list.nd rfl (Or.inl rfl) (pe_un un_neg (pe_ix ix_list (pe_ix ix_list (pe_fld (pv 0) rfl) (pe_un un_neg pe_int) (fun _ _ => rfl)) (pv 1) (fun _ _ => rfl)))) (pss_cons (ps_set (i := 5) sc_endless_list.nd rfl (Or.inl rfl) (pe_op op_rep (pe_lst (pac (pe_glob (v := .ref aN) rfl m_NOUGHT rfl) pa_nil)) (pv 3))) (pss_cons (ps_if (pt_cmpR op_lt (pe_ix ix_list (pe_fld (pv 0) rfl) (pv 1) (fun _ _ => rfl)) (pv 3) (nomark _)) (pss_one (ps_asg (pe_fn G_lowest_terms (hr.mono (by decide)) px (pac (pe_op op_mulB (pe_fld (pv 0) rfl) (pv 2)) (pac (pv 4) pa_nil))) (pg_sub (pv 5) (pe_ix ix_list (pe_fld (pv 0) rfl) (pv 1) (fun _ _ => rfl)) set_list))) pss_nil) p2)))), ?_⟩
  refine ⟨_, rfl, a, C, dx, _, _, rfl, R.obj, tc.cls, tc.acr, rfl, lA, _, rfl, .inl (.inl (.inl R.acr)), ?_⟩
  rw [ln_len]
  refine ⟨_, rfl, a, C, dx, _, _, rfl, R.obj, tc.cls, tc.lin, rfl, _, rfl, lL, us, _, _, rfl, rfl, .inl (.inl R.lin), f1, _, rfl, pl, _, _, _, rfl, rfl, .inl (.inl f2), ln_i (by omega), _, rfl, ?_⟩
  refine ⟨(by show 1 ≤ sizeLine; decide), fun p3 n3 => ?_⟩
  have s3 := same_new n3 (.lst [V.ref aN])
  refine ⟨_, rfl, p3, _, _, rfl, rfl, upd_same, by omega, by omega, Nat.le_trans (show 1 * (c : Int).toNat ≤ 1000 by omega) (by decide), fun x n4 => ?_⟩
  have er : (List.replicate (c : Int).toNat [V.ref aN]).flatten = List.replicate c (V.ref aN) := by simp
  rw [er]
  have s4 := same_new n4 (.lst (List.replicate c (V.ref aN)))
  have nx : H x = none := s3.free n4
  have s04 := s3.trans s4
  have R4 := R.same' s04
  generalize hH4 : upd (upd H p3 (.lst [V.ref aN])) x (.lst (List.replicate c (V.ref aN))) = H4 at *
  have x4 : H4 x = some (.lst (List.replicate c (V.ref aN))) := by rw [← hH4, upd_same]
  have f0 : FillT c (fun _ => none) (List.replicate c ((0 : Int), (1 : Int))) := FillT.start
  have lx : (List.replicate c (V.ref aN)).length = c := by simp
  refine ⟨_, rfl, a, C, dx, _, _, rfl, R4.obj, tc.cls, tc.acr, rfl, _, rfl, lA, _, _, _, rfl, rfl, .inl (.inl R4.acr), ln_i hk, _, rfl, _, _, rfl, rfl, _, rfl, ?_⟩
  refine ite2 (fun c1 => ?_) (fun c1 => ?_)
  · have c1' : T.ac k < c := by
      have := of_decide_eq_true c1
      omega
    refine ⟨_, rfl, a, C, dx, _, _, rfl, R4.obj, tc.cls, tc.bot, rfl, _, rfl, _, _, rfl, rfl, pw_cmul bd bg (by omega) (by omega), ?_⟩
    refine ⟨_, rfl, _, _, rfl, hd, fun p5 H5 s5 h5 => ?_⟩
    refine ⟨_, rfl, _, rfl, a, C, dx, _, _, rfl, s5 _ _ R4.obj, tc.cls, tc.acr, rfl, _, rfl, lA, _, _, _, rfl, rfl, .inl (.inl (s5 _ _ R4.acr)), ln_i hk, ?_⟩
    refine ⟨x, _, _, T.ac k, rfl, rfl, s5 _ _ x4, by rw [lx]; exact ixN_i c1', ?_⟩
    have ks : KSame x H5 (upd H5 x (.lst ((List.replicate c (V.ref aN)).set (T.ac k) (.ref p5)))) := KSame.upd
    refine q2 x _ _ _ nx (fun b o e => ?_) upd_same (nmsK_ks (((nmsK_rep hN c).same s5).set ⟨p5, rfl, SqT.of h5⟩) (s5 _ _ x4) ks) (f0.put.congr fun t _ => ?_)
    · rw [upd_ne (ne_of_none e nx)]
      exact s5 _ _ (s04 _ _ e)
    · unfold eS
      rw [show dnS 0 T.dn (fun s => low (-(T.L s k) * gb) (-(T.L r k))) t = none from rfl]
      rfl
  · have c1' : ¬ T.ac k < c := fun y => by
      have := of_decide_eq_false (Bool.eq_false_iff.mpr c1)
      omega
    refine q2 x _ _ _ nx s04 x4 (nmsK_rep hN c) (f0.congr fun t ht => ?_)
    unfold eS
    rw [show dnS 0 T.dn (fun s => low (-(T.L s k) * gb) (-(T.L r k))) t = none from rfl, if_neg (by omega)]
    rfl
def Whs (H : Hp) (ws : List V) (r : Nat) (b : Nat → Int) : Prop := ws.length = r ∧ ∀ i, i < r → ∃ p l, ws[i]? = some (.ref p) ∧ H p = some (.tup [.ref l, .int (b i)])
theorem Whs.same {H H' : Hp} {ws : List V} {r : Nat} {b : Nat → Int} (h : Whs H ws r b) (s : Same H H') : Whs H' ws r b := ⟨h.1, fun i hi => by
  obtain ⟨p, l, e1, e2⟩ := h.2 i hi
  exact ⟨p, l, e1, s _ _ e2⟩⟩
def spPrices (K : PySem.W.Frag) (C : Addr) : Sp := fun vs H Q _ => ∃ (a dx lL lA lD pw : Addr) (us ws : List V) (r c B : Nat) (T : Px.Tb) (b : Nat → Int) (gb : Int), vs = [.ref a, .ref pw, .int gb] ∧ TabR H C a dx lL lA lD us r c T ∧ H pw = some (.lst ws) ∧ Whs H ws r b ∧ r ≤ 800 ∧ c ≤ 800 ∧ T.d * gb ≠ 0 ∧ (∀ j, j < c → T.ac j < c + r) ∧ Sz r c B T ∧ gb.natAbs ≤ 2 ^ B ∧ (∀ i, i < r → (b i).natAbs ≤ 2 ^ B) ∧ B ≤ 20000 ∧
  ∀ (x : Addr) (xs : List V) (qs : List (Int × Int)) (H' : Hp), Same H H' → H x = none → H' x = some (.lst xs) → NmsK K H' xs qs → FillT r (fun t => dnS c T.ac (fun j => low (T.L r j * b (T.ac j - c)) (T.d * gb)) (c + t)) qs → Q (.ref x) H'
theorem sc_price_list : FnScope ["table", "wholes", "bottom", "many", "prices", "column", "thing", "times"] ["table", "wholes", "bottom"] (defScope s_price_list) := ⟨rfl, rfl, rfl, by decide +kernel, rfl, by decide +kernel, by decide +kernel⟩
theorem ok_price_list {C aN : Addr} (hN : ∀ H : Hp, SqT K H aN [.int 0, .int 1]) (m_NOUGHT : mg "NOUGHT" = some (.ref aN)) (m_len : mg "len" = none) (m_enumerate : mg "enumerate" = none) (tc : TabC K C) (D : Def K mg "price_list" s_price_list ["table", "wholes", "bottom"]) (G_lowest_terms : Fn P w K mg base (CXr P w) 33 "lowest_terms" ["top", "bottom"] spLowestU) : Fn P w K mg base (CXr P w) 34 "price_list" ["table", "wholes", "bottom"] (spPrices K C) := by
  refine D.ok sc_price_list (fun vs H Q E h => ?_) (fun f cdv A outer s H vs Q E hr h => ?_)
  · obtain ⟨a, dx, lL, lA, lD, pw, us, ws, r, c, B, T, b, gb, rfl, _⟩ := h
    rfl
  obtain ⟨a, dx, lL, lA, lD, pw, us, ws, r, c, B, T, b, gb, rfl, R, hw, hW, hr8, hc8, hd, aclt, sz, bg, bb, hB, q⟩ := h
  have px := passM (X := (cxOf (CXr P w) P w K mg base ["table", "wholes", "bottom", "many", "prices", "column", "thing", "times"] "price_list" (defScope s_price_list) f cdv A outer s H E)) (CXr.mute (P := P) (w := w))
  refine ⟨_, (pss_cons (ps_set (i := 3) sc_price_list.nd rfl (Or.inl rfl) (pe_callB call_len_seq rfl m_len b_len (pac (pe_fld (pv 0) rfl) pa_nil)))
    (pss_cons (ps_set (i := 4) sc_price_list.nd rfl (Or.inl rfl) (pe_op op_rep (pe_lst (pac (pe_glob (v := .ref aN) rfl m_NOUGHT rfl) pa_nil)) (pe_callB call_len_seq rfl m_len b_len (pac (pv 1) pa_nil))))
    (pss_cons (ps_for PassesOwn.never rfl (pi_enum rfl m_enumerate (pac (pe_fld (pv 0) rfl) pa_nil)) (pg_tup rfl (pgs_cons (pg_name (i := 5) sc_price_list.nd rfl (Or.inl rfl)) (pgs_cons (pg_name (i := 6) sc_price_list.nd rfl (Or.inl rfl)) pgs_nil))) (pss_one (ps_if (pt_cmpR op_ge (pv 6) (pv 3) (nomark _)) (pss_cons (ps_set (i := 7) sc_price_list.nd rfl (Or.inl rfl) (pe_ix ix_tup (pe_ix ix_list (pv 1) (pe_op op_sub (pv 6) (pv 3)) (fun _ _ => rfl)) pe_int (fun _ _ => rfl)))
        (pss_one (ps_asg (pe_fn G_lowest_terms (hr.mono (by decide)) px (pac (pe_op op_mulB (pe_ix ix_list (pe_ix ix_list (pe_fld (pv 0) rfl) (pe_un un_neg pe_int) (fun _ _ => rfl)) (pv 5) (fun _ _ => rfl)) (pv 7)) (pac (pe_op op_mulB (pe_fld (pv 0) rfl) (pv 2)) pa_nil))) (pg_sub (pv 4) (pe_op op_sub (pv 6) (pv 3)) set_list)))) pss_nil)))
    (pss_one (ps_ret (pv 4)))))), ?_⟩
  refine ⟨_, rfl, a, C, dx, _, _, rfl, R.obj, tc.cls, tc.acr, rfl, lA, _, rfl, .inl (.inl (.inl R.acr)), ?_⟩
  rw [ln_len]
  refine ⟨(by show 1 ≤ sizeLine; decide), fun p3 n3 => ?_⟩
  have s3 := same_new n3 (.lst [V.ref aN])
  refine ⟨_, rfl, pw, _, rfl, .inl (.inl (.inl (s3 _ _ hw))), ?_⟩
  rw [hW.1]
  refine ⟨p3, _, _, rfl, rfl, upd_same, by omega, by omega, Nat.le_trans (show 1 * (r : Int).toNat ≤ 1000 by omega) (by decide), fun x n4 => ?_⟩
  have er : (List.replicate (r : Int).toNat [V.ref aN]).flatten = List.replicate r (V.ref aN) := by simp
  rw [er]
  have s4 := same_new n4 (.lst (List.replicate r (V.ref aN)))
  have nx : H x = none := s3.free n4
  have s04 := s3.trans s4
  have R4 := R.same' s04
  generalize hH4 : upd (upd H p3 (.lst [V.ref aN])) x (.lst (List.replicate r (V.ref aN))) = H4 at *
  have x4 : H4 x = some (.lst (List.replicate r (V.ref aN))) := by rw [← hH4, upd_same]
  refine ⟨_, rfl, a, C, dx, _, _, rfl, R4.obj, tc.cls, tc.acr, rfl, lA, rfl, ⟨_, .inl (.inl R4.acr)⟩, for_enum (K := K) (a := lA) (xs := ln c fun s => (T.ac s : Int)) (fun i σ H' => Same H H' ∧ ∃ (o1 o2 o3 : Option V) (xs : List V) (qs : List (Int × Int)), σ = [some (.ref a), some (.ref pw), some (.int gb), some (.int (c : Int)), some (.ref x), o1, o2, o3] ∧ H' x = some (.lst xs) ∧ NmsK K H' xs qs ∧ FillT r (fun t => dnS i T.ac (fun j => low (T.L r j * b (T.ac j - c)) (T.d * gb)) (c + t)) qs)
    ⟨s04, none, none, none, _, _, rfl, x4, nmsK_rep hN r, FillT.start⟩ (fun i σ H' _ ⟨s', _⟩ => .inl (.inl (s' _ _ R.acr))) ?_ ?_⟩
  · rintro i v σ H' pt hv ⟨s', o1, o2, o3, xs, qs, rfl, hx, hn, hf⟩ npt
    have hi : i < c := by
      have := (List.getElem?_eq_some_iff.mp hv).1
      rwa [ln_len] at this
    rw [ln_get hi] at hv
    cases hv
    have sp := same_new npt (.tup [.int (i : Int), .int (T.ac i : Int)])
    have R' := R.same' (s'.trans sp)
    have hW' := hW.same (s'.trans sp)
    have hw' := sp _ _ (s' _ _ hw)
    have hx' := sp _ _ hx
    have hn' := hn.same sp
    have lx : xs.length = r := hn.1.trans hf.len
    obtain ⟨p1, e1, e2⟩ := R'.last
    refine ⟨pt, _, rfl, SqT.of upd_same, rfl, _, _, rfl, _, _, rfl, rfl, ?_⟩
    refine ⟨_, rfl, _, rfl, _, _, rfl, rfl, _, rfl, ?_⟩
    refine ite2 (fun c1 => ?_) (fun c1 => ?_)
    · have c1' : c ≤ T.ac i := by
        have := of_decide_eq_true c1
        omega
      have lt := aclt i hi
      obtain ⟨p6, l6, w1, w2⟩ := hW'.2 (T.ac i - c) (by omega)
      have sub : (T.ac i : Int) - (c : Int) = ((T.ac i - c : Nat) : Int) := by omega
      refine ⟨_, rfl, _, rfl, _, rfl, _, _, rfl, rfl, pw, _, _, _, rfl, rfl, .inl (.inl hw'), (show atI ws ((T.ac i : Int) - (c : Int)) = some (.ref p6) by rw [sub]; exact atI_nat w1), p6, _, _, _, rfl, rfl, SqT.of w2, at1, ?_⟩
      refine ⟨_, rfl, a, C, dx, _, _, rfl, R'.obj, tc.cls, tc.lin, rfl, _, rfl, lL, us, _, _, rfl, rfl, .inl (.inl R'.lin), e1, _, rfl, p1, _, _, _, rfl, rfl, .inl (.inl e2), ln_i (by omega), ?_⟩
      refine ⟨_, rfl, _, _, rfl, rfl, pw_cmul (sz.2 r i (by omega) (by omega)) (bb _ (by omega)) (by omega) (by omega), ?_⟩
      refine ⟨_, rfl, a, C, dx, _, _, rfl, R'.obj, tc.cls, tc.bot, rfl, _, rfl, _, _, rfl, rfl, pw_cmul sz.1 bg (by omega) (by omega), ?_⟩
      refine ⟨_, _, rfl, hd, fun p5 H5 s5 h5 => ?_⟩
      refine ⟨_, rfl, _, rfl, _, rfl, _, _, rfl, rfl, x, xs, _, T.ac i - c, rfl, rfl, s5 _ _ hx', (show ixN xs.length ((T.ac i : Int) - (c : Int)) = some (T.ac i - c) by rw [lx, sub]; exact ixN_i (by omega)), ?_⟩
      have ks : KSame x H5 (upd H5 x (.lst (xs.set (T.ac i - c) (.ref p5)))) := KSame.upd
      refine ⟨fun b' o e => ?_, _, _, _, _, _, rfl, upd_same, nmsK_ks ((hn'.same s5).set ⟨p5, rfl, SqT.of h5⟩) (s5 _ _ hx') ks, hf.put.congr fun t _ => ?_⟩
      · rw [upd_ne (ne_of_none e nx)]
        exact s5 _ _ (sp _ _ (s' _ _ e))
      · rw [dnS_succ]
        by_cases z : t = T.ac i - c
        · rw [if_pos z, if_pos (by omega)]
        · rw [if_neg z, if_neg (by omega)]
    · have c1' : ¬ c ≤ T.ac i := fun y => by
        have := of_decide_eq_false (Bool.eq_false_iff.mpr c1)
        omega
      refine ⟨s'.trans sp, _, _, _, _, _, rfl, hx', hn', hf.congr fun t ht => ?_⟩
      rw [dnS_succ, if_neg (by omega)]
  · rintro σ H' ⟨s', o1, o2, o3, xs, qs, rfl, hx, hn, hf⟩
    rw [ln_len] at hf
    exact ⟨_, rfl, q x xs qs H' s' nx hx hn hf⟩
def qf (qs : List (Int × Int)) (t : Nat) : Rat := vl (qs.getD t (0, 1))
def aF (qss : List (List (Int × Int))) (i t : Nat) : Rat := qf (qss.getD i []) t
structure OptQ (gs : List (Int × Int)) (qss : List (List (Int × Int))) (lims : List (Int × Int)) (B : Nat) (w : Int × Int) (xq yq : List (Int × Int)) : Prop where
  xl : xq.length = gs.length
  yl : yq.length = qss.length
  xs : ∀ q ∈ xq, Sm B B q
  ys : ∀ q ∈ yq, Sm B B q
  ws : Sm B B w
  opt : Px.OptF qss.length gs.length (qf gs) (aF qss) (qf lims) (vl w) (qf xq) (qf yq)
structure EndQ (gs : List (Int × Int)) (qss : List (List (Int × Int))) (B : Nat) (xq : List (Int × Int)) : Prop where
  xl : xq.length = gs.length
  xs : ∀ q ∈ xq, Sm B B q
  fin : Px.EndF qss.length gs.length (qf gs) (aF qss) (qf xq)
def RwL (H : Hp) (rs : List V) (qss : List (List (Int × Int))) : Prop := rs.length = qss.length ∧ ∀ i, i < qss.length → ∃ p us, rs[i]? = some (.ref p) ∧ H p = some (.lst us) ∧ Nms H us (qss.getD i [])
theorem RwL.same {H H' : Hp} {rs : List V} {qss : List (List (Int × Int))} (h : RwL H rs qss) (s : Same H H') : RwL H' rs qss := ⟨h.1, fun i hi => by
  obtain ⟨p, us, e1, e2, e3⟩ := h.2 i hi
  exact ⟨p, us, e1, s _ _ e2, e3.same s⟩⟩
def bz (r M : Nat) : Nat := (r + 1) * (r + 1) + M * (r + 1)
theorem fact_le : ∀ n, Px.fact n ≤ 2 ^ (n * n)
  | 0 => by simp [Px.fact]
  | n + 1 => by
    show (n + 1) * Px.fact n ≤ _
    have h : n + 1 ≤ 2 ^ (n + 1) := Nat.le_of_lt Nat.lt_two_pow_self
    refine Nat.le_trans (Nat.mul_le_mul h (fact_le n)) ?_
    rw [← Nat.pow_add]
    refine Nat.pow_le_pow_right (by decide) ?_
    rw [show (n + 1) * (n + 1) = n * n + n + (n + 1) by rw [Nat.add_mul, Nat.mul_add]; omega]
    omega
theorem sz_of {r c M : Nat} {A : Nat → Nat → Int} {T : Px.Tb} (G : Px.Good r c A T) (hA : ∀ i j, i < r + 1 → j ≤ c → (A i j).natAbs ≤ 2 ^ M) : Sz r c (bz r M) T := by
  have h := G.bound (X := 2 ^ M) Nat.one_le_two_pow (fun i j hi hj => by
    have h1 := hA i j hi hj
    generalize (2 ^ M : Nat) = X at h1 ⊢
    omega)
  have e : Px.fact (r + 1) * (2 ^ M) ^ (r + 1) ≤ 2 ^ bz r M := by
    unfold bz
    rw [Nat.pow_add 2 ((r + 1) * (r + 1)) (M * (r + 1)), Nat.pow_mul 2 M (r + 1)]
    exact Nat.mul_le_mul_right _ (fact_le _)
  exact ⟨Nat.le_trans h.1 e, fun s j hs hj => Nat.le_trans (h.2 s j hs (by omega)) e⟩
def firstL (r c : Nat) (tsF : Nat → List Int) (gts : List Int) (i j : Nat) : Int := if i < r then (tsF i).getD j 0 else if j < c then -(gts.getD j 0) else 0
theorem whole_get {ts : List Int} {qs : List (Int × Int)} {b : Int} (h : Whole ts qs b) {j : Nat} (hj : j < qs.length) : ((ts.getD j 0 : Int) : Rat) = vl (qs.getD j (0, 1)) * b := by
  have hl := h.1
  have e1 : ts[j]? = some (ts[j]'(by omega)) := List.getElem?_eq_getElem (by omega)
  have e2 : qs[j]? = some qs[j] := List.getElem?_eq_getElem hj
  rw [List.getD_eq_getElem?_getD, List.getD_eq_getElem?_getD, e1, e2]
  exact h.2 j _ _ e1 e2
theorem getD_app {qs : List (Int × Int)} {x : Int × Int} {j : Nat} (h : j < qs.length) : (qs ++ [x]).getD j (0, 1) = qs.getD j (0, 1) := by
  rw [List.getD_eq_getElem?_getD, List.getD_eq_getElem?_getD, List.getElem?_append_left h]
theorem getD_end {qs : List (Int × Int)} {x : Int × Int} : (qs ++ [x]).getD qs.length (0, 1) = x := by
  rw [List.getD_eq_getElem?_getD, List.getElem?_append_right (Nat.le_refl _), Nat.sub_self]
  rfl
theorem lay_of {gs lims : List (Int × Int)} {qss : List (List (Int × Int))} {tsF : Nat → List Int} {bF : Nat → Int} {gts : List Int} {gb : Int} (hg : Whole gts gs gb) (gp : 0 < gb)
    (hT : ∀ i, i < qss.length → 0 < bF i ∧ Whole (tsF i) (qss.getD i [] ++ [lims.getD i (0, 1)]) (bF i)) (hc : ∀ i, i < qss.length → (qss.getD i []).length = gs.length) :
    Px.Lay qss.length gs.length (firstL qss.length gs.length tsF gts) (qf gs) (aF qss) (qf lims) bF gb := by
  refine ⟨fun i hi => (hT i hi).1, gp, fun i t hi ht => ?_, fun i hi => ?_, fun t ht => ?_, ?_⟩
  · have h := whole_get (hT i hi).2 (j := t) (by rw [List.length_append, hc i hi]; omega)
    rw [getD_app (by rw [hc i hi]; exact ht)] at h
    unfold firstL
    rw [if_pos hi]
    exact h
  · have h := whole_get (hT i hi).2 (j := gs.length) (by rw [List.length_append, hc i hi]; simp)
    rw [← hc i hi, getD_end, hc i hi] at h
    unfold firstL
    rw [if_pos hi]
    exact h
  · have h := whole_get hg ht
    unfold firstL
    rw [if_neg (Nat.lt_irrefl _), if_pos ht]
    unfold qf
    rw [← h]
    push_cast
    rfl
  · unfold firstL
    rw [if_neg (Nat.lt_irrefl _), if_neg (Nat.lt_irrefl _)]
theorem dnS_mem {e : Nat → Nat} {F : Nat → Int × Int} {t : Nat} {q : Int × Int} : ∀ {n : Nat}, dnS n e F t = some q → ∃ s, s < n ∧ e s = t ∧ q = F s
  | 0, h => nomatch h
  | n + 1, h => by
    rw [dnS_succ] at h
    by_cases z : t = e n
    · rw [if_pos z] at h
      cases h
      exact ⟨n, Nat.lt_succ_self n, z.symm, rfl⟩
    · rw [if_neg z] at h
      obtain ⟨s, hs, e1, e2⟩ := dnS_mem h
      exact ⟨s, by omega, e1, e2⟩
theorem vl_nought : vl ((0 : Int), (1 : Int)) = 0 := by
  unfold vl
  decide +kernel
theorem fillT_qf {m : Nat} {S : Nat → Option (Int × Int)} {qs : List (Int × Int)} (h : FillT m S qs) {t : Nat} (ht : t < m) : qf qs t = vl ((S t).getD (0, 1)) := by
  unfold qf
  rw [List.getD_eq_getElem?_getD, h.get t ht]
  rfl
theorem FillT.sm {m B : Nat} {S : Nat → Option (Int × Int)} {qs : List (Int × Int)} (h : FillT m S qs) (hS : ∀ t q, t < m → S t = some q → Sm B B q) : ∀ q ∈ qs, Sm B B q := fun q hq => by
  obtain ⟨t, e⟩ := List.getElem?_of_mem hq
  have ht : t < m := by
    have := (List.getElem?_eq_some_iff.mp e).1
    rw [h.len] at this
    exact this
  rw [h.get t ht] at e
  cases e
  cases z : S t with
  | none => exact ⟨by decide, by decide, Nat.zero_le _, Nat.one_le_two_pow⟩
  | some q' => exact hS t q' ht z
theorem smL {t b : Int} {B : Nat} (hb : b ≠ 0) (ht : t.natAbs ≤ 2 ^ B) (hbb : b.natAbs ≤ 2 ^ B) : Sm B B (low t b) := ⟨low_pos hb, low_gcd hb, Nat.le_trans (low_top_le hb) ht, Nat.le_trans (low_bot_le hb) hbb⟩
section
variable {r c : Nat} {A : Nat → Nat → Int} {T : Px.Tb} {g : Nat → Rat} {a : Nat → Nat → Rat} {l : Nat → Rat} {b : Nat → Int} {gb : Int}
theorem opt_of (G : Px.Good r c A T) (L : Px.Lay r c A g a l b gb) (opt : ∀ j, j < c → 0 ≤ T.L r j) {xq yq : List (Int × Int)} (hx : FillT c (dnS r T.dn fun s => low (T.L s c) T.d) xq) (hy : FillT r (fun t => dnS c T.ac (fun j => low (T.L r j * b (T.ac j - c)) (T.d * gb)) (c + t)) yq) :
    Px.OptF r c g a l (vl (low (T.L r c) (T.d * gb))) (qf xq) (qf yq) := by
  have hd : T.d ≠ 0 := by have := G.pos; omega
  have hdg : T.d * gb ≠ 0 := Int.ne_of_gt (Int.mul_pos G.pos L.gp)
  refine G.most L opt (fun t ht => ⟨fun s hs e => ?_, fun h => ?_⟩) (fun i hi => ⟨fun j hj e => ?_, fun h => ?_⟩) (vl_low hdg)
  · rw [fillT_qf hx ht, dnS_at (s := s) (fun i j h1 h2 => G.dnI i j (by omega) (by omega)) hs e]
    exact vl_low hd
  · rw [fillT_qf hx ht, dnS_no h]
    exact vl_nought
  · rw [fillT_qf hy hi, dnS_at (s := j) (fun i j h1 h2 => G.acI i j h1 h2) hj e]
    show vl (low (T.L r j * b (T.ac j - c)) (T.d * gb)) = _
    rw [vl_low hdg, e, Nat.add_sub_cancel_left]
  · rw [fillT_qf hy hi, dnS_no h]
    exact vl_nought
theorem end_of (G : Px.Good r c A T) (L : Px.Lay r c A g a l b gb) {k : Nat} (hk : k < c) (hn : T.L r k < 0) (free : ∀ s, s < r → T.L s k ≤ 0) {xq : List (Int × Int)} (hx : FillT c (eS r T r k gb) xq) : Px.EndF r c g a (qf xq) := by
  have hd : -(T.L r k) ≠ 0 := by omega
  refine G.endless L hk hn free fun t ht => ⟨fun e => ?_, fun s hs e => ?_, fun h h' => ?_⟩
  · rw [fillT_qf hx ht]
    unfold eS
    rw [dnS_no (fun s hs e' => G.dis k s hk (by omega) (e.trans e'.symm)), if_pos e.symm]
    exact vl_low hd
  · rw [fillT_qf hx ht]
    unfold eS
    rw [dnS_at (s := s) (fun i j h1 h2 => G.dnI i j (by omega) (by omega)) hs e]
    exact vl_low hd
  · rw [fillT_qf hx ht]
    unfold eS
    rw [dnS_no h', if_neg (Ne.symm h)]
    exact vl_nought
end
def TwoOk (H : Hp) (v : V) (r c : Nat) (T : Px.Tb) : Prop := (v = .non ∧ ∀ j, j < c → 0 ≤ T.L r j) ∨ (∃ (p : Addr) (k : Nat), v = .ref p ∧ H p = some (.tup [.non, .int (k : Int)]) ∧ k < c ∧ T.L r k < 0 ∧ ∀ s, s < r → T.L s k ≤ 0) ∨
  (∃ (p : Addr) (x k : Nat), v = .ref p ∧ H p = some (.tup [.int (x : Int), .int (k : Int)]) ∧ k < c ∧ T.L r k < 0 ∧ OutL r c T k x ∧ (T.L x c = 0 → ∀ j, j < c → T.L r j < 0 → T.ac k ≤ T.ac j))
theorem sp_next {C P0 a dx lL lA lD : Addr} {us : List V} {r c B : Nat} {T : Px.Tb} {H : Hp} {Q : VK} {E : XK} (R : TabR H C a dx lL lA lD us r c T) (hr : r ≤ 900) (hc : c < 64) (sz : Sz r c B T) (hB : B ≤ 20000) (fea : ∀ s, s < r → 0 ≤ T.L s c) (tb : TbO H P0)
    (q : ∀ v H', KSame P0 H H' → TbO H' P0 → TwoOk H' v r c T → Q v H') : spNext C P0 [.ref a] H Q E :=
  ⟨a, dx, lL, lA, lD, us, r, c, B, T, rfl, R, hr, hc, sz, hB, fea, tb, fun H' k t h => q _ _ k t (.inl ⟨rfl, h⟩), fun p k H' ks t h1 h2 h3 h4 => q _ _ ks t (.inr (.inl ⟨p, k, rfl, h1, h2, h3, h4⟩)), fun p x k H' ks t h1 h2 h3 h4 h5 => q _ _ ks t (.inr (.inr ⟨p, x, k, rfl, h1, h2, h3, h4, h5⟩))⟩
theorem ln_of (ts : List Int) : ts.map V.int = ln ts.length (fun j => ts.getD j 0) := ln_ext (by simp) fun i v hi e => by
  rw [List.getElem?_map, List.getElem?_eq_getElem hi] at e
  cases e
  rw [List.getD_eq_getElem?_getD, List.getElem?_eq_getElem hi]
  rfl
def Told (K : PySem.W.Frag) (H H' : Hp) (gs : List (Int × Int)) (qss : List (List (Int × Int))) (lims : List (Int × Int)) (B : Nat) (v : V) : Prop :=
  (∃ (p lx lp : Addr) (uw : V) (xs ps : List V) (w : Int × Int) (xq yq : List (Int × Int)), v = .ref p ∧ H' p = some (.tup [.str "most", uw, .ref lx, .ref lp]) ∧ Nm H' uw w ∧ H' lx = some (.lst xs) ∧ NmsK K H' xs xq ∧ H' lp = some (.lst ps) ∧ NmsK K H' ps yq ∧ H lx = none ∧ H lp = none ∧ lx ≠ lp ∧ OptQ gs qss lims B w xq yq) ∨
  (∃ (p lx : Addr) (xs : List V) (xq : List (Int × Int)), v = .ref p ∧ H' p = some (.tup [.str "endless", .ref lx]) ∧ H' lx = some (.lst xs) ∧ NmsK K H' xs xq ∧ H lx = none ∧ EndQ gs qss B xq)
def spMost (K : PySem.W.Frag) (P0 : Addr) : Sp := fun vs H Q _ => ∃ (ga ra la : Addr) (rs ls : List V) (gs lims : List (Int × Int)) (qss : List (List (Int × Int))) (T0 B0 : Nat), vs = [.ref ga, .ref ra, .ref la] ∧ Row K H ga gs ∧ SqL K H ra rs ∧ RwL H rs qss ∧ SqL K H la ls ∧ Nms H ls lims ∧ lims.length = qss.length ∧ (∀ i, i < qss.length → (qss.getD i []).length = gs.length) ∧
  (∀ q ∈ gs, Sm T0 B0 q) ∧ (∀ q ∈ lims, Sm T0 B0 q ∧ 0 ≤ q.1) ∧ (∀ i, i < qss.length → ∀ q ∈ qss.getD i [], Sm T0 B0 q) ∧ gs.length < 60 ∧ qss.length ≤ 60 ∧ B0 * (gs.length + 1) ≤ 8000 ∧ bz qss.length (T0 + B0 * (gs.length + 1)) ≤ 10000 ∧ TbO H P0 ∧
  ∀ v H', KSame P0 H H' → TbO H' P0 → Told K H H' gs qss lims (2 * bz qss.length (T0 + B0 * (gs.length + 1))) v → Q v H'
theorem sc_most_of : FnScope ["gains", "rows", "limits", "gain", "wholes", "lines", "table", "two", "worth"] ["gains", "rows", "limits"] (defScope s_most_of) := ⟨rfl, rfl, rfl, by decide +kernel, rfl, by decide +kernel, by decide +kernel⟩
theorem ok_most_of {C P0 fi : Addr} {fdi : FuncData} (tc : TabC K C) (m_zip : mg "zip" = none) (m_Table : mg "Table" = some (.ref C)) (M_Table : Mk K C fi) (G_Table_init : FnOk P w K mg base (CXr P w) 1 fi fdi ["self", "lines"] (spTInit C)) (b_Table_init : Binds K fdi ["self", "lines"] [])
    (MN : MtdOk P w K mg base (CXr P w) 3 C "next_swap" ["self"] (spNext C P0)) (MW : MtdOk P w K mg base (CXr P w) 34 C "swap" ["self", "at", "column"] (spSwap C)) (D : Def K mg "most_of" s_most_of ["gains", "rows", "limits"])
    (G_whole_row : Fn P w K mg base (CXr P w) 2 "whole_row" ["row"] (spWR K)) (G_lowest_terms : Fn P w K mg base (CXr P w) 33 "lowest_terms" ["top", "bottom"] spLowestU) (G_fitting_list : Fn P w K mg base (CXr P w) 34 "fitting_list" ["table"] (spFitting K C))
    (G_price_list : Fn P w K mg base (CXr P w) 34 "price_list" ["table", "wholes", "bottom"] (spPrices K C)) (G_endless_list : Fn P w K mg base (CXr P w) 34 "endless_list" ["table", "column", "bottom"] (spEndless K C)) : Fn P w K mg base (CXr P w) 36 "most_of" ["gains", "rows", "limits"] (spMost K P0) := by
  refine D.ok sc_most_of (fun vs H Q E h => ?_) (fun f cdv A outer s H vs Q E hr h => ?_)
  · obtain ⟨ga, ra, la, rs, ls, gs, lims, qss, T0, B0, rfl, _⟩ := h
    rfl
  obtain ⟨ga, ra, la, rs, ls, gs, lims, qss, T0, B0, rfl, hG, hR, hRw, hL, hN, hll, hrc, smG, smL', smR, hc6, hr6, hB8, hbz, tb, q⟩ := h
  have px := passM (X := (cxOf (CXr P w) P w K mg base ["gains", "rows", "limits", "gain", "wholes", "lines", "table", "two", "worth"] "most_of" (defScope s_most_of) f cdv A outer s H E)) (CXr.mute (P := P) (w := w))
  refine ⟨_, (pss_cons (ps_set (i := 3) sc_most_of.nd rfl (Or.inl rfl) (pe_fn G_whole_row (hr.mono (by decide)) px (pac (pv 0) pa_nil)))
    (pss_cons (ps_setC (i := 4) sc_most_of.nd rfl (Or.inl rfl) (tn := ["row", "limit"]) (fr := []) (caps := []) rfl ⟨rfl, by decide +kernel, rfl, by decide +kernel, by decide +kernel, rfl, trivial, trivial⟩ (pi_zip rfl m_zip (pac (pv 1) (pac (pv 2) pa_nil))) (fun _ _ _ _ => (pg_tupK (K := K) (n := 2) rfl rfl (pgs_cons (pg_name (i := 0) (show (["row", "limit"] : List Str).Nodup from by decide +kernel) rfl (Or.inl rfl)) (pgs_cons (pg_name (i := 1) (show (["row", "limit"] : List Str).Nodup from by decide +kernel) rfl (Or.inl rfl)) pgs_nil)))) (fun _ _ _ _ => pf_nil) (fun _ _ _ _ => (pe_fn G_whole_row (hr.mono (by decide)) (passB (by first | assumption | exact CXr.mute) rfl) (pac (pe_op op_cat (pv 0) (pe_lst (pac (pv 1) pa_nil))) pa_nil))))
    (pss_cons (ps_setC (i := 5) sc_most_of.nd rfl (Or.inl rfl) (tn := ["whole"]) (fr := []) (caps := []) rfl ⟨rfl, by decide +kernel, rfl, by decide +kernel, by decide +kernel, rfl, trivial, trivial⟩ (pi_list (pv 4)) (fun _ _ _ _ => (pg_name (i := 0) (show (["whole"] : List Str).Nodup from by decide +kernel) rfl (Or.inl rfl))) (fun _ _ _ _ => pf_nil) (fun _ _ _ _ => (pe_ix (ix_tupK (K := K) rfl) (pv 0) pe_int (fun _ _ => rfl))))
    (pss_cons (ps_expr (pe_bm PySem.F.plainAttrs_list PySem.F.slot_list_append PySem.F.type_list_append mt_append (pv 5) (pac (pe_op op_cat (pe_comp (tn := ["top"]) (fr := []) (caps := []) rfl ⟨rfl, by decide +kernel, rfl, by decide +kernel, by decide +kernel, rfl, trivial, trivial⟩ (pi_list (pe_ix ix_tup (pv 3) pe_int (fun _ _ => rfl))) (fun _ _ _ _ => (pg_name (i := 0) (show (["top"] : List Str).Nodup from by decide +kernel) rfl (Or.inl rfl))) (fun _ _ _ _ => pf_nil) (fun _ _ _ _ => (pe_un un_neg (pv 0)))) (pe_lst (pac pe_int pa_nil))) pa_nil)))
    (pss_cons (ps_set (i := 6) sc_most_of.nd rfl (Or.inl rfl) (pe_make M_Table G_Table_init (hr.mono (by decide)) rfl m_Table b_Table_init .nil px (pac (pv 5) pa_nil)))
    (pss_cons (ps_set (i := 7) sc_most_of.nd rfl (Or.inl rfl) (pe_mtd0 (k := 3) (pv 6) (hr.mono (by decide)) px))
    (pss_cons (ps_while PassesOwn.never (pt_cmpR op_notN (pv 7) pe_non (nomark _)) (pss_cons (ps_if (pt_cmpR op_isN (pe_ix ix_tup (pv 7) pe_int (fun _ _ => rfl)) pe_non (nomark _)) (pss_one (ps_ret (pe_tup (pac pe_str (pac (pe_fn G_endless_list (hr.mono (by decide)) px (pac (pv 6) (pac (pe_ix ix_tup (pv 7) pe_int (fun _ _ => rfl)) (pac (pe_ix ix_tup (pv 3) pe_int (fun _ _ => rfl)) pa_nil)))) pa_nil))))) pss_nil)
      (pss_cons (ps_expr (pe_mtd (k := 34) (pv 6) (hr.mono (by decide)) px (pac (pe_ix ix_tup (pv 7) pe_int (fun _ _ => rfl)) (pac (pe_ix ix_tup (pv 7) pe_int (fun _ _ => rfl)) pa_nil))))
      (pss_one (ps_set (i := 7) sc_most_of.nd rfl (Or.inl rfl) (pe_mtd0 (k := 3) (pv 6) (hr.mono (by decide)) px))))))
    (pss_cons (ps_set (i := 8) sc_most_of.nd rfl (Or.inl rfl) (pe_fn G_lowest_terms (hr.mono (by decide)) px (pac (pe_ix ix_list (pe_ix ix_list (pe_fld (pv 6) rfl) (pe_un un_neg pe_int) (fun _ _ => rfl)) (pe_un un_neg pe_int) (fun _ _ => rfl)) (pac (pe_op op_mulB (pe_fld (pv 6) rfl) (pe_ix ix_tup (pv 3) pe_int (fun _ _ => rfl))) pa_nil))))
    (pss_one (ps_ret (pe_tup (pac pe_str (pac (pv 8) (pac (pe_fn G_fitting_list (hr.mono (by decide)) px (pac (pv 6) pa_nil)) (pac (pe_fn G_price_list (hr.mono (by decide)) px (pac (pv 6) (pac (pv 4) (pac (pe_ix ix_tup (pv 3) pe_int (fun _ _ => rfl)) pa_nil)))) pa_nil))))))))))))))), ?_⟩
  generalize hM : T0 + B0 * (gs.length + 1) = M at hbz q
  have M1 : M ≤ 10000 := by
    unfold bz at hbz
    have := Nat.le_mul_of_pos_right M (show 0 < qss.length + 1 by omega)
    omega
  have M2 : M ≤ bz qss.length M := by
    unfold bz
    have := Nat.le_mul_of_pos_right M (show 0 < qss.length + 1 by omega)
    omega
  have B0c : B0 * gs.length ≤ B0 * (gs.length + 1) := Nat.mul_le_mul_left _ (by omega)
  have B01 : B0 ≤ B0 * (gs.length + 1) := Nat.le_mul_of_pos_right _ (by omega)
  -- the gains
  refine ⟨_, rfl, ga, gs, T0, B0, rfl, hG, smG, by omega, by omega, by omega, by omega, fun pg lg gts gb H1 s1 nlg hpg hlg gbp gbs hgW hgs => ?_⟩
  -- the rows
  refine ⟨_, rfl, _, rfl, ra, la, rfl, ⟨_, s1.seq hR⟩, ⟨_, s1.seq hL⟩, fun D1 nD1 => ?_⟩
  refine comp_zipD (K := K) (a := ra) (b := la) (xs := rs) (ys := ls) (cap := []) (fun i v H' => ∃ (p l : Addr) (ts : List Int) (b : Int), v = .ref p ∧ H' p = some (.tup [.ref l, .int b]) ∧ H' l = some (.lst (ts.map V.int)) ∧ l ≠ D1 ∧ 0 < b ∧ b.natAbs ≤ 2 ^ M ∧ Whole ts (qss.getD i [] ++ [lims.getD i (0, 1)]) b ∧ ∀ t ∈ ts, t.natAbs ≤ 2 ^ M) nD1 (by rw [hRw.1]; exact Nat.lt_of_le_of_lt hr6 (by decide)) (by rw [hRw.1, hN.1, hll]) (fun H2 s2 => s2.seq (s1.seq hR)) (fun H2 s2 => s2.seq (s1.seq hL)) ?_ ?_ ?_
  · rintro i v H2 H3 ys hD ks ⟨p, l, ts, b, e, h1, h2, h3, h4⟩
    exact ⟨p, l, ts, b, e, ks _ _ (fun z => by rw [z, hD] at h1; cases h1) h1, ks _ _ h3 h2, h3, h4⟩
  · intro i x y H2 R ex ey s2 ⟨ys, hD⟩ k2
    have hi : i < qss.length := by
      have := (List.getElem?_eq_some_iff.mp ex).1
      rw [hRw.1] at this
      exact this
    obtain ⟨pr, us, r1, r2, r3⟩ := ((hRw.same s1).same s2).2 i hi
    rw [ex] at r1
    cases r1
    have hli : i < lims.length := by omega
    have el : lims[i]? = some lims[i] := List.getElem?_eq_getElem hli
    have nl := ((hN.same s1).same s2).2 i y _ ey el
    have eg : lims.getD i (0, 1) = lims[i] := by rw [List.getD_eq_getElem?_getD, el]; rfl
    refine ⟨_, rfl, _, rfl, (by show 1 ≤ sizeLine; decide), fun p3 n3 => ?_⟩
    have s3 := same_new n3 (.lst [y])
    have ul : us.length = gs.length := r3.1.trans (hrc i hi)
    refine ⟨pr, p3, us, _, rfl, rfl, s3 _ _ r2, upd_same, Nat.le_trans (show us.length + 1 ≤ 100 by omega) (by decide), fun p4 n4 => ?_⟩
    have s4 := same_new n4 (.lst (us ++ [y]))
    have s34 := s3.trans s4
    refine ⟨p4, qss.getD i [] ++ [lims[i]], T0, B0, rfl, ⟨us ++ [y], .inl (.inl upd_same), ⟨by rw [List.length_append, List.length_append, r3.1]; rfl, fun j u n e1 e2 => ?_⟩⟩, fun n hn => ?_, by omega, ?_, by omega, ?_, fun p l ts b H5 s5 nl5 hp5 hl5 bp bs hW hts => ?_⟩
    · by_cases z : j < us.length
      · rw [List.getElem?_append_left z] at e1
        rw [List.getElem?_append_left (by rw [← r3.1]; exact z)] at e2
        exact (r3.2 j u n e1 e2).same s34
      · rw [List.getElem?_append_right (by omega)] at e1
        rw [List.getElem?_append_right (by rw [← r3.1]; omega)] at e2
        have z0 : j - us.length = 0 := by
          have := (List.getElem?_eq_some_iff.mp e1).1
          simp at this
          omega
        rw [z0] at e1
        rw [← r3.1, z0] at e2
        cases e1
        cases e2
        exact nl.same s34
    · rcases List.mem_append.mp hn with z | z
      · exact smR i hi n z
      · rw [List.mem_singleton.mp z]
        exact (smL' _ (List.getElem_mem _)).1
    · rw [List.length_append, hrc i hi]
      exact hB8
    · rw [List.length_append, hrc i hi]
      show gs.length + 1 ≤ 1000
      omega
    · rw [List.length_append, hrc i hi] at bs hts
      refine k2 _ _ (s34.trans s5) ⟨p, l, ts, b, rfl, hp5, hl5, fun z => ?_, bp, pw_up bs (by show B0 * (gs.length + 1) ≤ M; omega), by rw [eg]; exact hW, fun t ht => pw_up (hts t ht) (by show T0 + B0 * (gs.length + 1) ≤ M; omega)⟩
      rw [z, s34 _ _ hD] at nl5
      cases nl5
  intro zs H2 hz hrel s2 hD1
  rw [hRw.1] at hz
  generalize hrr : qss.length = r at *
  generalize hcc : gs.length = c at *
  obtain ⟨Z, hZ⟩ := Classical.axiomOfChoice (r := fun (i : Nat) (z : Addr × Addr × List Int × Int) => i < r → zs[i]? = some (.ref z.1) ∧ H2 z.1 = some (.tup [.ref z.2.1, .int z.2.2.2]) ∧ H2 z.2.1 = some (.lst (z.2.2.1.map V.int)) ∧ 0 < z.2.2.2 ∧ z.2.2.2.natAbs ≤ 2 ^ M ∧ Whole z.2.2.1 (qss.getD i [] ++ [lims.getD i (0, 1)]) z.2.2.2 ∧ ∀ t ∈ z.2.2.1, t.natAbs ≤ 2 ^ M) (fun i => by
    by_cases hi : i < r
    · have e : zs[i]? = some (zs[i]'(by omega)) := List.getElem?_eq_getElem (by omega)
      obtain ⟨p, l, ts, b, h0, h1, h2, h3, h4, h5, h6, h7⟩ := hrel i _ e
      exact ⟨(p, l, ts, b), fun _ => ⟨by rw [e, h0], h1, h2, h4, h5, h6, h7⟩⟩
    · exact ⟨(0, 0, [], 0), fun h => absurd h hi⟩)
  -- the lines
  refine ⟨_, rfl, D1, rfl, ⟨_, .inl (.inl hD1)⟩, fun D2 nD2 => ?_⟩
  refine comp_list (K := K) (a := D1) (xs := zs) (cap := []) (fun i v _ => v = .ref (Z i).2.1) nD2 (by rw [hz]; exact Nat.lt_of_le_of_lt hr6 (by decide)) (fun H3 s3 => .inl (.inl (s3 _ _ hD1))) (fun _ _ _ _ _ _ _ h => h) ?_ ?_
  · intro i u H3 R eu s3 k3
    have hi : i < r := by
      have := (List.getElem?_eq_some_iff.mp eu).1
      omega
    obtain ⟨z1, z2, _⟩ := hZ i hi
    rw [z1] at eu
    cases eu
    exact ⟨_, rfl, _, _, _, _, rfl, rfl, SqT.of (s3 _ _ z2), at0, k3 _ _ (Same.refl _) rfl⟩
  intro ys H3 hy hrel3 s3 hD2
  rw [hz] at hy
  have s13 := s2.trans s3
  have hpg3 := s13 _ _ hpg
  have hlg3 := s13 _ _ hlg
  have gtl : gts.length = c := by rw [hgW.1, hcc]
  -- the last line
  refine ⟨_, rfl, .inl ⟨rfl, _, SqL.of hD2⟩, ?_⟩
  refine ⟨_, rfl, pg, _, _, _, rfl, rfl, SqT.of hpg3, at0, lg, rfl, ⟨_, .inl (.inl hlg3)⟩, fun D3 nD3 => ?_⟩
  refine comp_list (K := K) (a := lg) (xs := gts.map V.int) (cap := []) (fun i v _ => v = .int (-(gts.getD i 0))) nD3 (by rw [List.length_map, gtl]; exact Nat.lt_of_lt_of_le hc6 (by decide)) (fun H4 s4 => .inl (.inl (s4 _ _ hlg3))) (fun _ _ _ _ _ _ _ h => h) ?_ ?_
  · intro i u H4 R eu s4 k4
    rw [List.getElem?_map] at eu
    obtain ⟨t, et, rfl⟩ := Option.map_eq_some_iff.mp eu
    refine ⟨_, rfl, _, rfl, k4 _ _ (Same.refl _) ?_⟩
    rw [List.getD_eq_getElem?_getD, et]
    rfl
  intro ns H4 hns hrel4 s4 hD3
  rw [List.length_map, gtl] at hns
  refine ⟨(by show 1 ≤ sizeLine; decide), fun p4 n4 => ?_⟩
  have s5 := same_new n4 (.lst [V.int 0])
  refine ⟨D3, p4, _, _, rfl, rfl, s5 _ _ hD3, upd_same, Nat.le_trans (show ns.length + 1 ≤ 100 by omega) (by decide), fun l4 n5 => ?_⟩
  have s6 := same_new n5 (.lst (ns ++ [V.int 0]))
  have s46 := s4.trans (s5.trans s6)
  have hD2' := s46 _ _ hD2
  have l46 : upd (upd H4 p4 (.lst [V.int 0])) l4 (.lst (ns ++ [V.int 0])) l4 = some (.lst (ns ++ [V.int 0])) := upd_same
  have nl4 : H3 l4 = none := s4.free (s5.free n5)
  generalize upd (upd H4 p4 (.lst [V.int 0])) l4 (.lst (ns ++ [V.int 0])) = H6 at *
  refine ⟨D2, ys, _, rfl, rfl, hD2', by rw [hy]; exact Nat.lt_of_le_of_lt hr6 (by decide), ?_⟩
  have D2l : l4 ≠ D2 := fun z => by rw [z, hD2] at nl4; cases nl4
  have old7 : ∀ b o, H2 b = some o → upd H6 D2 (.lst (ys ++ [.ref l4])) b = some o := fun b o e => by
    rw [upd_ne (ne_of_none e nD2)]
    exact s46 _ _ (s3 _ _ e)
  have D7 : upd H6 D2 (.lst (ys ++ [.ref l4])) D2 = some (.lst (ys ++ [.ref l4])) := upd_same
  have l7 : upd H6 D2 (.lst (ys ++ [.ref l4])) l4 = some (.lst (ns ++ [V.int 0])) := by rw [upd_ne D2l]; exact l46
  generalize upd H6 D2 (.lst (ys ++ [.ref l4])) = H7 at *
  have S7 : Same H H7 := fun b o e => old7 _ _ (s2 _ _ (s1 _ _ e))
  generalize hA : firstL r c (fun i => (Z i).2.2.1) gts = AA
  have lns : LnsT H7 (ys ++ [.ref l4]) (r + 1) (c + 1) AA := by
    refine ⟨by rw [List.length_append, hy]; rfl, fun s hs => ?_⟩
    by_cases z : s < r
    · obtain ⟨z1, z2, z3, z4, z5, z6, z7⟩ := hZ s z
      have e : ys[s]? = some (ys[s]'(by omega)) := List.getElem?_eq_getElem (by omega)
      refine ⟨(Z s).2.1, by rw [List.getElem?_append_left (by omega), e, hrel3 s _ e], ?_⟩
      rw [old7 _ _ z3, ln_of]
      have tl : (Z s).2.2.1.length = c + 1 := by rw [z6.1, List.length_append, hrc s (by omega)]; rfl
      rw [tl]
      congr 2
      refine ln_congr fun j _ => ?_
      rw [← hA]
      unfold firstL
      rw [if_pos z]
    · have : s = r := by omega
      subst this
      refine ⟨l4, by rw [List.getElem?_append_right (by omega), hy, Nat.sub_self]; rfl, ?_⟩
      rw [l7]
      congr 2
      refine ln_ext (by rw [List.length_append, hns]; rfl) fun i v hi e => ?_
      rw [← hA]
      unfold firstL
      rw [if_neg (Nat.lt_irrefl _)]
      by_cases y : i < c
      · rw [List.getElem?_append_left (by omega)] at e
        rw [if_pos y]
        exact hrel4 i v e
      · rw [List.getElem?_append_right (by omega), hns] at e
        rw [if_neg y]
        have : i - c = 0 := by omega
        rw [this] at e
        cases e
        rfl
  have lay : Px.Lay r c AA (qf gs) (aF qss) (qf lims) (fun i => (Z i).2.2.2) gb := by
    rw [← hA, ← hrr, ← hcc]
    exact lay_of hgW gbp (fun i hi => ⟨(hZ i (by omega)).2.2.2.1, (hZ i (by omega)).2.2.2.2.2.1⟩) (fun i hi => by rw [hrc i (by omega), hcc])
  have bA : ∀ i j, i < r + 1 → j ≤ c → (AA i j).natAbs ≤ 2 ^ M := fun i j hi hj => by
    rw [← hA]
    show (if i < r then (Z i).2.2.1.getD j 0 else if j < c then -(gts.getD j 0) else 0).natAbs ≤ 2 ^ M
    by_cases z : i < r
    · rw [if_pos z]
      have h7 := (hZ i z).2.2.2.2.2.2
      by_cases y : j < (Z i).2.2.1.length
      · rw [List.getD_eq_getElem?_getD, List.getElem?_eq_getElem y]
        exact h7 _ (List.getElem_mem _)
      · rw [List.getD_eq_getElem?_getD, List.getElem?_eq_none (by omega)]
        exact Nat.zero_le _
    · rw [if_neg z]
      by_cases y : j < c
      · rw [if_pos y, Int.natAbs_neg, List.getD_eq_getElem?_getD, List.getElem?_eq_getElem (by omega)]
        exact pw_up (hgs _ (List.getElem_mem _)) (by omega)
      · rw [if_neg y]
        exact Nat.zero_le _
  have fea0 : ∀ s, s < r → 0 ≤ AA s c := fun s hs => by
    have h1 := lay.lim s hs
    have h2 : 0 ≤ (lims.getD s (0, 1)).1 ∧ 0 < (lims.getD s (0, 1)).2 := by
      have hl : s < lims.length := by omega
      rw [List.getD_eq_getElem?_getD, List.getElem?_eq_getElem hl]
      have := smL' _ (List.getElem_mem hl)
      exact ⟨this.2, this.1.pos⟩
    have h3 : (0 : Rat) ≤ qf lims s := by
      unfold qf vl
      have a1 : (0 : Rat) ≤ ((lims.getD s (0, 1)).1 : Rat) := by exact_mod_cast h2.1
      have a2 : (0 : Rat) < ((lims.getD s (0, 1)).2 : Rat) := by exact_mod_cast h2.2
      rw [Rat.div_def]
      exact Rat.mul_nonneg a1 (Rat.le_of_lt (Rat.inv_pos.mpr a2))
    have h4 : (0 : Rat) ≤ (AA s c : Rat) := by
      rw [h1]
      exact Rat.mul_nonneg h3 (Rat.le_of_lt (Px.posR (lay.bp s hs)))
    exact_mod_cast h4
  have gbM : gb.natAbs ≤ 2 ^ bz r M := pw_up gbs (by omega)
  have hpg7 := old7 _ _ (s2 _ _ hpg)
  have hD17 := old7 _ _ hD1
  have wh7 : Whs H7 zs r (fun i => (Z i).2.2.2) := ⟨hz, fun i hi => ⟨(Z i).1, (Z i).2.1, (hZ i hi).1, old7 _ _ (hZ i hi).2.1⟩⟩
  have G0 := Px.good0 fea0
  have szG : ∀ T, Px.Good r c AA T → Sz r c (bz r M) T := fun T G => sz_of G bA
  -- the table
  refine ⟨_, rfl, fun a dx na ndx ne => ?_⟩
  have S8 : Same H7 (upd (upd H7 dx (.own a)) a (.ins C dx [])) := fun b o e => by
    rw [upd_ne (ne_of_none e na), upd_ne (ne_of_none e ndx)]
    exact e
  refine ⟨a, dx, D2, _, r, c, AA, rfl, upd_same, S8 _ _ D7, lns.same fun b xs _ e => S8 _ _ e, by omega, by omega, fun lA lD H8 k8 nA nD R8 => ⟨rfl, ?_⟩⟩
  have S78 : Same H7 H8 := fun b o e => k8 b o (ne_of_none e na) (S8 _ _ e)
  have nA7 := S8.free nA
  have nD7 := S8.free nD
  have tb8 : TbO H8 P0 := TbO.same (TbO.same tb S7) S78
  refine ⟨_, rfl, a, C, dx, _, _, _, rfl, R8.obj, rfl, MN, ?_⟩
  dsimp only [tNil]
  refine sp_next R8 (by omega) (by omega) (szG _ G0) (by omega) fea0 tb8 fun v2 H9 k9 tb9 two9 => ?_
  have R9 := tabR_ks R8 tb8 k9
  have nP : ∀ b o, b ≠ P0 → H7 b = some o → H9 b = some o := fun b o n e => k9 b o n (S78 _ _ e)
  -- the steps
  refine ⟨fun m σ H' => ∃ (T : Px.Tb) (lL : Addr) (us : List V) (v2 : V), σ = [some (.ref ga), some (.ref ra), some (.ref la), some (.ref pg), some (.ref D1), some (.ref D2), some (.ref a), some v2, none] ∧ Px.Good r c AA T ∧ Px.Halts r c m T ∧ (∀ b o, b ≠ P0 → H7 b = some o → H' b = some o) ∧ TabR H' C a dx lL lA lD us r c T ∧ TbO H' P0 ∧ TwoOk H' v2 r c T,
    ⟨_, _, _, _, _, rfl, G0, Px.halts G0, nP, R9, tb9, two9⟩, ?_⟩
  rintro m σ H' ⟨T, lL, us, v2, rfl, G, hm, nP', R', tb', two'⟩
  have notP : ∀ {b o}, H7 b = some o → (∀ ps, o ≠ .tbl ps) → b ≠ P0 := fun {b o} e n z => by
    obtain ⟨ps, e'⟩ := TbO.tbl (TbO.same tb S7)
    rw [z, e'] at e
    cases e
    exact n _ rfl
  have hpg' := nP' _ _ (notP hpg7 (fun _ z => nomatch z)) hpg7
  have hD1' := nP' _ _ (notP hD17 (fun _ z => nomatch z)) hD17
  have wh' : Whs H' zs r (fun i => (Z i).2.2.2) := ⟨hz, fun i hi => by
    obtain ⟨p, l, e1, e2⟩ := wh7.2 i hi
    exact ⟨p, l, e1, nP' _ _ (notP e2 (fun _ z => nomatch z)) e2⟩⟩
  have KS : KSame P0 H H' := fun b o n e => nP' b o n (S7 _ _ e)
  have sz := szG _ G
  have free7 : ∀ b, H' b = none → H b = none := fun b n => by
    cases z : H b with
    | none => rfl
    | some o =>
      by_cases y : b = P0
      · obtain ⟨ps, e'⟩ := TbO.tbl tb'
        rw [y, e'] at n
        cases n
      · rw [KS b o y z] at n
        cases n
  have pB : ∀ {x y : Int}, x.natAbs ≤ 2 ^ bz r M → y.natAbs ≤ 2 ^ bz r M → (x * y).natAbs ≤ 2 ^ (2 * bz r M) := fun {x y} h1 h2 => by
    have := pw_mul h1 h2
    rw [← Nat.two_mul] at this
    exact this
  have oB : ∀ {x : Int}, x.natAbs ≤ 2 ^ bz r M → x.natAbs ≤ 2 ^ (2 * bz r M) := fun {x} h => pw_up h (by omega)
  refine ⟨_, rfl, rfl, _, rfl, ite2 (fun c1 => ?_) (fun c1 => ?_)⟩
  · refine ⟨fun σ' H'' => ∃ m', m' < m ∧ ∃ (T : Px.Tb) (lL : Addr) (us : List V) (v2 : V), σ' = [some (.ref ga), some (.ref ra), some (.ref la), some (.ref pg), some (.ref D1), some (.ref D2), some (.ref a), some v2, none] ∧ Px.Good r c AA T ∧ Px.Halts r c m' T ∧ (∀ b o, b ≠ P0 → H7 b = some o → H'' b = some o) ∧ TabR H'' C a dx lL lA lD us r c T ∧ TbO H'' P0 ∧ TwoOk H'' v2 r c T, fun _ _ h => h, ?_⟩
    rcases two' with ⟨rfl, _⟩ | ⟨p, k, rfl, hp, hk, hn, free⟩ | ⟨p, x, k, rfl, hp, hk, hn, out, bland⟩
    · exact absurd c1 (by simp)
    · refine ⟨_, rfl, p, _, _, _, rfl, rfl, SqT.of hp, at0, rfl, _, rfl, ite2 (fun _ => ?_) (fun n => absurd (by simp) n)⟩
      refine ⟨_, rfl, _, rfl, p, _, _, _, rfl, rfl, SqT.of hp, at1, _, rfl, pg, _, _, _, rfl, rfl, SqT.of hpg', at1, ?_⟩
      refine ⟨a, dx, lL, lA, lD, us, r, c, bz r M, k, T, gb, rfl, R', by omega, by omega, hk, by omega, sz, gbM, by omega, fun lx xs xq H10 s10 nx hx hxn hf => ?_⟩
      refine ⟨(by show 2 ≤ sizeLine; decide), fun pt npt => ?_⟩
      have sp := same_new npt (.tup [.str "endless", .ref lx])
      refine q _ _ (ks_to (ks_to KS s10) sp) (TbO.same (TbO.same tb' s10) sp) (.inr ⟨pt, lx, xs, xq, rfl, upd_same, sp _ _ hx, hxn.same sp, free7 _ nx, ⟨by rw [hf.len, hcc], hf.sm fun t qq ht e => ?_, ?_⟩⟩)
      · unfold eS at e
        cases z : dnS r T.dn (fun s => low (-(T.L s k) * gb) (-(T.L r k))) t with
        | some q' =>
          rw [z] at e
          cases e
          obtain ⟨s, hs, _, rfl⟩ := dnS_mem z
          exact smL (by omega) (pB (by rw [Int.natAbs_neg]; exact sz.2 s k (by omega) (by omega)) gbM) (oB (by rw [Int.natAbs_neg]; exact sz.2 r k (by omega) (by omega)))
        | none =>
          rw [z] at e
          by_cases y : t = T.ac k
          · rw [if_pos y] at e
            cases e
            exact smL (by omega) (pB sz.1 gbM) (oB (by rw [Int.natAbs_neg]; exact sz.2 r k (by omega) (by omega)))
          · rw [if_neg y] at e
            cases e
      · rw [hrr, hcc]
        exact end_of G lay hk hn free hf
    · refine ⟨_, rfl, p, _, _, _, rfl, rfl, SqT.of hp, at0, rfl, _, rfl, ite2 (fun n => absurd n (by simp)) (fun _ => ?_)⟩
      refine ⟨_, rfl, a, C, dx, _, _, _, rfl, R'.obj, rfl, MW, _, rfl, p, _, _, _, rfl, rfl, SqT.of hp, at0, _, rfl, p, _, _, _, rfl, rfl, SqT.of hp, at1, ?_⟩
      refine ⟨a, dx, lL, lA, lD, us, r, c, bz r M, T, x, k, rfl, R', out.1, hk, by omega, by omega, sz, by omega, by have := G.pos; omega, fun lL2 us2 H10 k10 R10 => ?_⟩
      have stp : Px.Stp r c T (Px.piv T x k) x k := ⟨out.1, hk, hn, out.2.1, out.2.2, bland, rfl⟩
      have G10 := stp.good G
      have o10 : ∀ b o, H7 b = some o → H' b = some o → H10 b = some o := fun b o e e' => k10 b o (ne_of_none e na) (ne_of_none e nA7) (ne_of_none e nD7) e'
      have tb10 : TbO H10 P0 := by
        have nn : ∀ b o, (∀ fs C dx, o ≠ .ins C dx fs) → (∀ xs, o ≠ .lst xs) → H' b = some o → H10 b = some o := fun b o h1 h2 e => k10 b o (fun z => by rw [z, R'.obj] at e; cases e; exact h1 _ _ _ rfl) (fun z => by rw [z, R'.acr] at e; cases e; exact h2 _ rfl) (fun z => by rw [z, R'.dwn] at e; cases e; exact h2 _ rfl) e
        rcases tb' with e | ⟨cc', e1, e2⟩
        · exact .inl (nn _ _ (fun _ _ _ z => nomatch z) (fun _ z => nomatch z) e)
        · exact .inr ⟨cc', nn _ _ (fun _ _ _ z => nomatch z) (fun _ z => nomatch z) e1, nn _ _ (fun _ _ _ z => nomatch z) (fun _ z => nomatch z) e2⟩
      refine ⟨_, rfl, a, C, dx, _, _, _, rfl, R10.obj, rfl, MN, ?_⟩
      dsimp only [tNil]
      refine sp_next R10 (by omega) (by omega) (szG _ G10) (by omega) G10.fea tb10 fun v3 H11 k11 tb11 two11 => ?_
      obtain ⟨m', rfl, hm'⟩ : ∃ m', m = m' + 1 ∧ Px.Halts r c m' (Px.piv T x k) := by
        cases m with
        | zero => exact absurd ⟨x, k, stp⟩ (hm _)
        | succ m' => exact ⟨m', rfl, hm _ ⟨x, k, stp⟩⟩
      exact ⟨m', Nat.lt_succ_self _, _, _, _, _, rfl, G10, hm', fun b o n e => k11 b o n (o10 b o e (nP' b o n e)), tabR_ks R10 tb10 k11, tb11, two11⟩
  · have hv2 : v2 = .non := by simpa using c1
    subst hv2
    have opt : ∀ j, j < c → 0 ≤ T.L r j := by
      rcases two' with ⟨_, h⟩ | ⟨p, k, z, _⟩ | ⟨p, x, k, z, _⟩
      · exact h
      · cases z
      · cases z
    obtain ⟨pl, f1, f2⟩ := R'.last
    have hdg : T.d * gb ≠ 0 := Int.ne_of_gt (Int.mul_pos G.pos gbp)
    refine ⟨_, rfl, a, C, dx, _, _, rfl, R'.obj, tc.cls, tc.lin, rfl, _, rfl, lL, us, _, _, rfl, rfl, .inl (.inl R'.lin), f1, _, rfl, pl, _, _, _, rfl, rfl, .inl (.inl f2), ln_last, ?_⟩
    refine ⟨_, rfl, a, C, dx, _, _, rfl, R'.obj, tc.cls, tc.bot, rfl, _, rfl, pg, _, _, _, rfl, rfl, SqT.of hpg', at1, _, _, rfl, rfl, pw_cmul sz.1 gbM (by omega) (by omega), ?_⟩
    refine ⟨_, _, rfl, hdg, fun pw H10 s10 h10 => ?_⟩
    refine ⟨_, rfl, _, rfl, a, dx, lL, lA, lD, us, r, c, T, rfl, R'.same' s10, by omega, by omega, by have := G.pos; omega, fun lx xs xq H11 s11 nx hx hxn hf => ?_⟩
    have s1011 := s10.trans s11
    refine ⟨_, rfl, _, rfl, _, rfl, pg, _, _, _, rfl, rfl, SqT.of (s1011 _ _ hpg'), at1, ?_⟩
    refine ⟨a, dx, lL, lA, lD, D1, us, zs, r, c, bz r M, T, fun i => (Z i).2.2.2, gb, rfl, R'.same' s1011, s1011 _ _ hD1', wh'.same s1011, by omega, by omega, hdg, G.aclt, sz, gbM, fun i hi => pw_up (hZ i hi).2.2.2.2.1 M2, by omega, fun lp ps pq H12 s12 np hp hpn hfp => ?_⟩
    refine ⟨(by show 4 ≤ sizeLine; decide), fun pt npt => ?_⟩
    have sp := same_new npt (.tup [.str "most", .ref pw, .ref lx, .ref lp])
    have s012 := s1011.trans s12
    refine q _ _ (ks_to (ks_to KS s012) sp) (TbO.same (TbO.same tb' s012) sp) (.inl ⟨pt, lx, lp, .ref pw, xs, ps, _, xq, pq, rfl, upd_same, ⟨pw, rfl, sp _ _ (s12 _ _ (s11 _ _ h10))⟩, sp _ _ (s12 _ _ hx), (hxn.same s12).same sp, sp _ _ hp, hpn.same sp, free7 _ (s10.free nx), free7 _ (s1011.free np), fun z => ?_, ⟨by rw [hf.len, hcc], by rw [hfp.len, hrr], hf.sm fun t qq ht e => ?_, hfp.sm fun t qq ht e => ?_, ?_, ?_⟩⟩)
    · rw [← z, hx] at np
      cases np
    · obtain ⟨s, hs, _, rfl⟩ := dnS_mem e
      exact smL (by have := G.pos; omega) (oB (sz.2 s c (by omega) (by omega))) (oB sz.1)
    · obtain ⟨j, hj, ej, rfl⟩ := dnS_mem e
      have := G.aclt j hj
      exact smL hdg (pB (sz.2 r j (by omega) (by omega)) (pw_up (hZ _ (by omega)).2.2.2.2.1 M2)) (pB sz.1 gbM)
    · exact smL hdg (oB (sz.2 r c (by omega) (by omega))) (pB sz.1 gbM)
    · rw [hrr, hcc]
      exact opt_of G lay opt hf hfp
def MatV (H : Hp) (r : Addr) (ls : List Addr) (vss : List (List V)) : Prop := H r = some (.lst (ls.map V.ref)) ∧ ls.length = vss.length ∧ ∀ (i : Nat) (l : Addr) (vs : List V), ls[i]? = some l → vss[i]? = some vs → H l = some (.lst vs)
theorem MatV.same {H H' : Hp} {r : Addr} {ls : List Addr} {vss : List (List V)} (h : MatV H r ls vss) (s : Same H H') : MatV H' r ls vss := ⟨s _ _ h.1, h.2.1, fun i l vs e1 e2 => s _ _ (h.2.2 i l vs e1 e2)⟩
def Numss (H : Hp) (vss : List (List V)) (qss : List (List (Int × Int))) : Prop := vss.length = qss.length ∧ ∀ (i : Nat) (vs : List V) (qs : List (Int × Int)), vss[i]? = some vs → qss[i]? = some qs → Nms H vs qs
theorem Numss.same {H H' : Hp} {vss : List (List V)} {qss : List (List (Int × Int))} (h : Numss H vss qss) (s : Same H H') : Numss H' vss qss := ⟨h.1, fun i vs qs e1 e2 => (h.2 i vs qs e1 e2).same s⟩
def TSame (H H' : Hp) : Prop := ∀ (b : Addr) (xs : List V), H b = some (.tup xs) → H' b = some (.tup xs)
theorem TSame.lst {H : Hp} {D : Addr} {ys : List V} {o : HO} (e : H D = some (.lst ys)) : TSame H (upd H D o) := fun b xs e' => by
  rw [upd_ne (by intro z; rw [z, e] at e'; cases e')]
  exact e'
theorem Nm.tsame {H H' : Hp} {v : V} {q : Int × Int} (h : Nm H v q) (s : TSame H H') : Nm H' v q := by
  obtain ⟨p, e, z⟩ := h
  exact ⟨p, e, s _ _ z⟩
theorem Nms.tsame {H H' : Hp} {us : List V} {qs : List (Int × Int)} (h : Nms H us qs) (s : TSame H H') : Nms H' us qs := ⟨h.1, fun i u q e1 e2 => (h.2 i u q e1 e2).tsame s⟩
theorem Numss.tsame {H H' : Hp} {vss : List (List V)} {qss : List (List (Int × Int))} (h : Numss H vss qss) (s : TSame H H') : Numss H' vss qss := ⟨h.1, fun i vs qs e1 e2 => (h.2 i vs qs e1 e2).tsame s⟩
theorem Nms.at' {H : Hp} {us : List V} {qs : List (Int × Int)} (h : Nms H us qs) {i : Nat} {q : Int × Int} (e : qs[i]? = some q) : ∃ u, us[i]? = some u ∧ Nm H u q := by
  have hi : i < qs.length := (List.getElem?_eq_some_iff.mp e).1
  have hl := h.1
  have e2 : us[i]? = some (us[i]'(by omega)) := List.getElem?_eq_getElem (by omega)
  exact ⟨_, e2, h.2 i _ q e2 e⟩
theorem Nms.set {H : Hp} {us : List V} {qs : List (Int × Int)} {j : Nat} {v : V} {q : Int × Int} (h : Nms H us qs) (n : Nm H v q) : Nms H (us.set j v) (qs.set j q) := by
  refine ⟨by simp [h.1], fun i u q' e1 e2 => ?_⟩
  rw [List.getElem?_set] at e1 e2
  by_cases c : j = i
  · subst c
    rw [if_pos rfl] at e1 e2
    have l := h.1
    by_cases hj : j < us.length
    · rw [if_pos hj] at e1
      rw [if_pos (by omega)] at e2
      cases e1
      cases e2
      exact n
    · rw [if_neg hj] at e1
      cases e1
  · rw [if_neg c] at e1 e2
    exact h.2 i u q' e1 e2
def Shape (T B m : Nat) (qss : List (List (Int × Int))) : Prop := ∀ qs ∈ qss, qs.length = m ∧ ∀ q ∈ qs, Sm T B q
structure Own (H0 H : Hp) (r : Addr) (ls : List Addr) (vss : List (List V)) (qss : List (List (Int × Int))) : Prop where
  since : Same H0 H
  mat : MatV H r ls vss
  num : Numss H vss qss
  nd : ∀ (i j : Nat) (l : Addr), ls[i]? = some l → ls[j]? = some l → i = j
  nr : r ∉ ls
  fr : H0 r = none
  fl : ∀ l ∈ ls, H0 l = none
theorem Own.same {H0 H H' : Hp} {r : Addr} {ls : List Addr} {vss : List (List V)} {qss : List (List (Int × Int))} (h : Own H0 H r ls vss qss) (s : Same H H') : Own H0 H' r ls vss qss :=
  ⟨h.since.trans s, h.mat.same s, h.num.same s, h.nd, h.nr, h.fr, h.fl⟩
theorem Own.row {H0 H : Hp} {r : Addr} {ls : List Addr} {vss : List (List V)} {qss : List (List (Int × Int))} (h : Own H0 H r ls vss qss) {i : Nat} {qs : List (Int × Int)} (e : qss[i]? = some qs) : ∃ l us, ls[i]? = some l ∧ vss[i]? = some us ∧ H l = some (.lst us) ∧ Nms H us qs := by
  have hi : i < qss.length := (List.getElem?_eq_some_iff.mp e).1
  have l1 := h.mat.2.1
  have l2 := h.num.1
  have e1 : ls[i]? = some (ls[i]'(by omega)) := List.getElem?_eq_getElem (by omega)
  have e2 : vss[i]? = some (vss[i]'(by omega)) := List.getElem?_eq_getElem (by omega)
  exact ⟨_, _, e1, e2, h.mat.2.2 i _ _ e1 e2, h.num.2 i _ _ e2 e⟩
theorem Own.set {H0 H : Hp} {r D : Addr} {ls : List Addr} {vss : List (List V)} {qss : List (List (Int × Int))} {i : Nat} {us : List V} {qs : List (Int × Int)} (h : Own H0 H r ls vss qss) (hD : H D = some (.lst us)) (nD : D ∉ ls) (nr : D ≠ r) (f : H0 D = none) (n : Nms H us qs) :
    Own H0 (upd H r (.lst ((ls.map V.ref).set i (.ref D)))) r (ls.set i D) (vss.set i us) (qss.set i qs) := by
  obtain ⟨m1, m2, m3⟩ := h.mat
  have ts : TSame H (upd H r (.lst ((ls.map V.ref).set i (.ref D)))) := TSame.lst m1
  have nel : ∀ l ∈ ls, l ≠ r := fun l hl z => h.nr (z ▸ hl)
  refine ⟨fun b o e => ?_, ⟨?_, by simp [m2], fun j l vs e1 e2 => ?_⟩, ⟨by simp [h.num.1], fun j vs qs' e1 e2 => ?_⟩, ?_, fun z => ?_, h.fr, fun l hl => ?_⟩
  · rw [upd_ne (fun z => by rw [z, h.fr] at e; cases e)]
    exact h.since _ _ e
  · rw [upd_same, List.map_set]
  · rw [List.getElem?_set] at e1 e2
    by_cases c : i = j
    · subst c
      rw [if_pos rfl] at e1 e2
      by_cases hj : i < ls.length
      · rw [if_pos hj] at e1
        rw [if_pos (by omega)] at e2
        cases e1
        cases e2
        rw [upd_ne nr]
        exact hD
      · rw [if_neg hj] at e1
        cases e1
    · rw [if_neg c] at e1 e2
      rw [upd_ne (nel l (List.mem_of_getElem? e1))]
      exact m3 j l vs e1 e2
  · rw [List.getElem?_set] at e1 e2
    have l2 := h.num.1
    by_cases c : i = j
    · subst c
      rw [if_pos rfl] at e1 e2
      by_cases hj : i < vss.length
      · rw [if_pos hj] at e1
        rw [if_pos (by omega)] at e2
        cases e1
        cases e2
        exact n.tsame ts
      · rw [if_neg hj] at e1
        cases e1
    · rw [if_neg c] at e1 e2
      exact (h.num.2 j vs qs' e1 e2).tsame ts
  · intro a b l' e1 e2
    rw [List.getElem?_set] at e1 e2
    have notin : ∀ k : Nat, ls[k]? ≠ some D := fun k z => nD (List.mem_of_getElem? z)
    by_cases c1 : i = a <;> by_cases c2 : i = b
    · omega
    · rw [if_pos c1] at e1
      rw [if_neg c2] at e2
      by_cases hj : i < ls.length
      · rw [if_pos hj] at e1
        cases e1
        exact absurd e2 (notin b)
      · rw [if_neg hj] at e1
        cases e1
    · rw [if_neg c1] at e1
      rw [if_pos c2] at e2
      by_cases hj : i < ls.length
      · rw [if_pos hj] at e2
        cases e2
        exact absurd e1 (notin a)
      · rw [if_neg hj] at e2
        cases e2
    · rw [if_neg c1] at e1
      rw [if_neg c2] at e2
      exact h.nd a b l' e1 e2
  · rcases List.mem_or_eq_of_mem_set z with y | y
    · exact h.nr y
    · exact nr y.symm
  · rcases List.mem_or_eq_of_mem_set hl with y | y
    · exact h.fl l y
    · rw [y]; exact f
def cell (ns : List Int) (k : Int) : Int := (ns[k.toNat]?).getD 0
def spCell (K : PySem.W.Frag) : Sp := fun vs H Q _ => ∃ (a : Addr) (ns : List Int) (k : Int), vs = [.ref a, .int k] ∧ SqL K H a (ns.map V.int) ∧ 0 ≤ k ∧ Q (.int (cell ns k)) H
theorem cell_in {ns : List Int} {k : Int} (h0 : 0 ≤ k) (h : k < (ns.length : Int)) : atI (ns.map V.int) k = some (.int (cell ns k)) := by
  have hk : k.toNat < ns.length := by omega
  have ek : k = ((k.toNat : Nat) : Int) := by omega
  have q : atI (ns.map V.int) ((k.toNat : Nat) : Int) = some (.int (cell ns k)) := atI_nat (by
    unfold cell
    rw [List.getElem?_map, List.getElem?_eq_getElem hk]
    rfl)
  rw [← ek] at q
  exact q
theorem cell_out {ns : List Int} {k : Int} (h : ¬ k < (ns.length : Int)) : cell ns k = 0 := by
  unfold cell
  rw [List.getElem?_eq_none (by omega)]
  rfl
theorem cell_bits {ns : List Int} (hb : ∀ i ∈ ns, intBits i ≤ 1048576) (k : Int) : intBits (cell ns k) ≤ 1048576 := by
  unfold cell
  cases e : ns[k.toNat]? with
  | none => exact intBits_le_iff.mpr (by show 0 < 2 ^ 1048576; exact Nat.two_pow_pos _)
  | some v => exact hb v (List.mem_of_getElem? e)
theorem sc_law_cell_at : FnScope ["_law_script", "_law_k"] ["_law_script", "_law_k"] (defScope s_law_cell_at) := ⟨rfl, rfl, rfl, by decide +kernel, rfl, by decide +kernel, by decide +kernel⟩
theorem ok_law_cell_at (D : Def K mg "_law_cell_at" s_law_cell_at ["_law_script", "_law_k"]) (m_len : mg "len" = none) : Fn P w K mg base CX 1 "_law_cell_at" ["_law_script", "_law_k"] (spCell K) := by
  refine D.ok sc_law_cell_at (fun vs H Q E h => ?_) (fun f cdv A outer s H vs Q E hr h => ?_)
  · obtain ⟨a, ns, k, rfl, _⟩ := h
    rfl
  obtain ⟨a, ns, k, rfl, hS, h0, q⟩ := h
  refine ⟨_, (pss_cons (ps_if (pt_cmpR op_lt (pv 1) (pe_callB call_len_seq rfl m_len b_len (pac (pv 0) pa_nil)) (nomark _)) (pss_one (ps_ret (pe_ix ix_list (pv 0) (pv 1) (fun _ _ => rfl)))) pss_nil)
    (pss_one (ps_ret pe_int))), ?_⟩
  have hl : (ns.map V.int).length = ns.length := List.length_map _
  refine ⟨_, rfl, _, rfl, a, _, rfl, .inl hS, _, _, rfl, rfl, _, rfl, ?_⟩
  refine ite2 (fun c => ?_) (fun c => ?_)
  · have c' : k < (((ns.map V.int).length : Nat) : Int) := of_decide_eq_true c
    rw [hl] at c'
    exact ⟨_, rfl, _, rfl, a, _, k, _, rfl, rfl, hS, cell_in h0 c', q⟩
  · have c' : ¬ k < (((ns.map V.int).length : Nat) : Int) := of_decide_eq_false (Bool.eq_false_iff.mpr c)
    rw [hl] at c'
    rw [cell_out c'] at q
    exact q
def spLaw_number : Sp := fun vs H Q _ => ∃ t b : Int, vs = [.int t, .int b] ∧ 0 < b ∧ gives H Q (low t b)
theorem sc_law_number : FnScope ["_law_top", "_law_bottom", "_law_one", "_law_other"] ["_law_top", "_law_bottom"] (defScope s_law_number) := ⟨rfl, rfl, rfl, by decide +kernel, rfl, by decide +kernel, by decide +kernel⟩
theorem ok_law_number (ht : P.given.tree = none) (D : Def K mg "_law_number" s_law_number ["_law_top", "_law_bottom"]) (m_abs : mg "abs" = none) : Fn P w K mg base (CXr P w) 33 "_law_number" ["_law_top", "_law_bottom"] spLaw_number := by
  refine D.ok sc_law_number (fun vs H Q E h => ?_) (fun f cdv A outer s H vs Q E hr h => ?_)
  · obtain ⟨t, b, rfl, _⟩ := h
    rfl
  obtain ⟨t, b, rfl, hb, q⟩ := h
  refine ⟨_, (pss_cons (ps_set (i := 2) sc_law_number.nd rfl (Or.inl rfl) (pe_callB call_abs rfl m_abs b_abs (pac (pv 0) pa_nil)))
    (pss_cons (ps_set (i := 3) sc_law_number.nd rfl (Or.inl rfl) (pv 1))
    (pss_cons (ps_while PassesOwn.never (pt_cmpR op_ne (pv 3) pe_int (nomark _)) (pss_one (ps_par (i := 2) (j := 3) rfl sc_law_number.nd rfl rfl (by decide) rfl rfl (pac (pv 3) (pac (pe_op op_modB (pv 2) (pv 3)) pa_nil)) rfl)))
    (pss_one (ps_ret (pe_tup (pac (pe_op (op_fdivU ht (Ty.Room.py hr (by decide)) rfl rfl rfl rfl rfl) (pv 0) (pv 2)) (pac (pe_op (op_fdivU ht (Ty.Room.py hr (by decide)) rfl rfl rfl rfl rfl) (pv 1) (pv 2)) pa_nil)))))))), ?_⟩
  refine ⟨_, rfl, t, rfl, ?_⟩
  refine ⟨_, rfl, ?_⟩
  refine while_by (fun σ H' => ∃ x y : Int, σ = [some (.int t), some (.int b), some (.int x), some (.int y)] ∧ H' = H ∧ 0 ≤ x ∧ 0 ≤ y ∧ Int.gcd x y = Int.gcd t b) (fun σ _ => match σ with | [_, _, _, some (.int y)] => y.natAbs | _ => 0) ⟨_, b, rfl, rfl, ?_, by omega, ?_⟩ ?_ ?_
  · split <;> omega
  · split
    · exact Int.neg_gcd
    · rfl
  · rintro σ H' ⟨x, y, rfl, rfl, hx, hy, g⟩
    refine ⟨_, rfl, rfl, _, rfl, ?_⟩
    refine ite2 (fun c => ?_) (fun c => ?_)
    · have hy0 : y ≠ 0 := by
        intro z
        subst z
        simp at c
      refine ⟨_, rfl, _, rfl, _, rfl, _, _, rfl, rfl, hy0, _, _, rfl, ?_⟩
      exact ⟨⟨_, _, rfl, rfl, hy, Int.fmod_nonneg_of_pos _ (by omega), by rw [gcd_step]; exact g⟩, fmod_less hy0⟩
    · have hy0 : y = 0 := by
        have := Bool.eq_false_iff.mpr c
        simp at this
        exact this
      subst hy0
      have e : x = sg t b := by
        rw [Int.gcd_zero_right] at g
        unfold sg
        rw [if_neg (by omega)]
        unfold gz
        rw [← g]
        omega
      subst e
      have hbn : b ≠ 0 := by omega
      have c := sg_ne (t := t) hbn
      refine ⟨_, rfl, _, rfl, _, _, rfl, rfl, c, _, rfl, _, rfl, _, _, rfl, rfl, c, (by show 2 ≤ sizeLine; decide), fun p hp => ?_⟩
      exact q p _ (same_new hp _) upd_same
  · rintro σ H' Q1 Q2 h ⟨v, e1, e2, k, ek, z⟩
    exact ⟨v, e1, e2, k, ek, h _ _ z⟩
def spWholeI : Sp := fun vs H Q _ => ∃ i, vs = [.int i] ∧ Q (.bl true) H
theorem k_ii : PySem.W.kitOne K (.type "int") (.type "int") = some true := by unfold PySem.W.kitOne; rw [if_pos (by decide)]
theorem k_ib : PySem.W.kitOne K (.type "int") (.type "bool") = some false := kind_sub ⟨by decide, fun _ => ⟨by decide +kernel, by decide +kernel⟩⟩
theorem fmod_in {x m : Int} (h : 0 < m) : 0 ≤ x.fmod m ∧ x.fmod m < m := ⟨Int.fmod_nonneg_of_pos x h, Int.fmod_lt_of_pos x h⟩
theorem sc_law_whole : FnScope ["_law_found"] ["_law_found"] (defScope s_law_whole) := ⟨rfl, rfl, rfl, by decide +kernel, rfl, by decide +kernel, by decide +kernel⟩
theorem ok_law_whole (D : Def K mg "_law_whole" s_law_whole ["_law_found"]) (m_isinstance : mg "isinstance" = none) (m_int : mg "int" = none) (m_bool : mg "bool" = none) : Fn P w K mg base CX 1 "_law_whole" ["_law_found"] spWholeI := by
  refine D.ok sc_law_whole (fun vs H Q E h => ?_) (fun f cdv A outer s H vs Q E hr h => ?_)
  · obtain ⟨i, rfl, _⟩ := h
    rfl
  obtain ⟨i, rfl, q⟩ := h
  refine ⟨_, (pss_one (ps_ret (pe_and (pe_callB call_isi rfl m_isinstance b_isinstance (pac (pv 0) (pac (pe_ty rfl m_int b_int) pa_nil))) (pe_one (pe_not (pe_callB call_isi rfl m_isinstance b_isinstance (pac (pv 0) (pac (pe_ty rfl m_bool b_bool) pa_nil)))))))), ?_⟩
  refine ⟨_, rfl, _, _, _, true, rfl, rfl, .int i, k_ii, _, rfl, iteT ?_⟩
  exact ⟨_, rfl, _, _, _, false, rfl, rfl, .int i, k_ib, _, rfl, q⟩
theorem is_num {K : PySem.W.Frag} {H : Hp} {v : V} {q : Int × Int} (h : NmK K H v q) : Is K H (.t [.v (.int q.1), .v (.int q.2)]) v := by
  obtain ⟨p, rfl, e⟩ := h
  unfold Is
  refine ⟨p, _, rfl, e, ?_⟩
  unfold Iss
  refine ⟨by unfold Is; exact ⟨rfl, rfl⟩, ?_⟩
  unfold Iss
  refine ⟨by unfold Is; exact ⟨rfl, rfl⟩, ?_⟩
  unfold Iss
  trivial
theorem eq_num1 (x : Int × Int) : eqDas [.v (.int x.1), .v (.int x.2)] [.v (.int x.1), .v (.int x.2)] = true := by
  simp [eqDas, eqDa, eqV]
def spIsNum (K : PySem.W.Frag) : Sp := fun vs H Q _ => ∃ (u : V) (x : Int × Int), vs = [u] ∧ NmK K H u x ∧ 0 < x.2 ∧ Int.gcd x.1 x.2 = 1 ∧ ∀ H', Same H H' → Q (.bl true) H'
theorem sc_law_is_number : FnScope ["_law_found"] ["_law_found"] (defScope s_law_is_number) := ⟨rfl, rfl, rfl, by decide +kernel, rfl, by decide +kernel, by decide +kernel⟩
theorem ok_law_is_number (D : Def K mg "_law_is_number" s_law_is_number ["_law_found"]) (m_isinstance : mg "isinstance" = none) (m_len : mg "len" = none) (m_tuple : mg "tuple" = none) (G_law_whole : Fn P w K mg base (CXr P w) 1 "_law_whole" ["_law_found"] spWholeI)
    (G_law_number : Fn P w K mg base (CXr P w) 33 "_law_number" ["_law_top", "_law_bottom"] spLaw_number) : Fn P w K mg base (CXr P w) 34 "_law_is_number" ["_law_found"] (spIsNum K) := by
  refine D.ok sc_law_is_number (fun vs H Q E h => ?_) (fun f cdv A outer s H vs Q E hr h => ?_)
  · obtain ⟨u, x, rfl, _⟩ := h
    rfl
  obtain ⟨u, x, rfl, ⟨p1, rfl, h1⟩, hp, hg, q⟩ := h
  have px := passM (X := (cxOf (CXr P w) P w K mg base ["_law_found"] "_law_is_number" (defScope s_law_is_number) f cdv A outer s H E)) (CXr.mute (P := P) (w := w))
  refine ⟨_, (pss_cons (ps_if (PW.pt (pw_or (pt_not (pt_val (pe_callB call_isiT rfl m_isinstance b_isinstance (pac (pv 0) (pac (pe_ty rfl m_tuple b_tuple) pa_nil))))) (pw_or1 (pt_cmpR op_ne (pe_callB call_len_seq rfl m_len b_len (pac (pv 0) pa_nil)) pe_int (nomark _))))) (pss_one (ps_ret pe_bl)) pss_nil)
    (pss_cons (ps_if (PW.pt (pw_or (pt_not (pt_val (pe_fn G_law_whole (hr.mono (by decide)) px (pac (pe_ix ix_tup (pv 0) pe_int (fun _ _ => rfl)) pa_nil)))) (pw_or1 (pt_not (pt_val (pe_fn G_law_whole (hr.mono (by decide)) px (pac (pe_ix ix_tup (pv 0) pe_int (fun _ _ => rfl)) pa_nil))))))) (pss_one (ps_ret pe_bl)) pss_nil)
    (pss_one (ps_ret (pe_and (pe_cmpR op_gt (pe_ix ix_tup (pv 0) pe_int (fun _ _ => rfl)) pe_int (nomark _)) (pe_one (pe_cmpR (op_eqDa hr.units) (pv 0) (pe_fn G_law_number (hr.mono (by decide)) px (pac (pe_ix ix_tup (pv 0) pe_int (fun _ _ => rfl)) (pac (pe_ix ix_tup (pv 0) pe_int (fun _ _ => rfl)) pa_nil))) (nomark _)))))))), ?_⟩
  refine ⟨_, rfl, p1, _, rfl, h1, _, rfl, ?_⟩
  refine ite2 (fun c => nomatch c) (fun _ => ?_)
  refine ⟨_, rfl, p1, _, rfl, .inr (h1), rfl, _, rfl, ?_⟩
  refine iteNS rfl ?_
  refine ⟨_, rfl, p1, _, _, _, rfl, rfl, h1, at0, _, rfl, _, rfl, ?_⟩
  refine ite2 (fun c => nomatch c) (fun _ => ?_)
  refine ⟨_, rfl, p1, _, _, _, rfl, rfl, h1, at1, _, rfl, _, rfl, ?_⟩
  refine ite2 (fun c => nomatch c) (fun _ => ?_)
  refine ⟨_, rfl, p1, _, _, _, rfl, rfl, h1, at1, _, _, rfl, rfl, _, rfl, ?_⟩
  refine ite2 (fun _ => ?_) (fun c => absurd (decide_eq_true hp) c)
  refine ⟨_, rfl, _, rfl, p1, _, _, _, rfl, rfl, h1, at0, _, rfl, p1, _, _, _, rfl, rfl, h1, at1, _, _, rfl, hp, fun p2 H2 s2 e2 => ?_⟩
  rw [low_self hp hg] at e2
  refine ⟨_, _, .inl ⟨is_num (q := x) ⟨p1, rfl, Ty.Same.seqT s2 h1⟩, is_num (q := x) ⟨p2, rfl, SqT.of e2⟩⟩, rfl, dep_num, ?_⟩
  rw [eq_num1 x]
  exact q _ s2
theorem k_ll : PySem.W.kitOne K (.type "list") (.type "list") = some true := by unfold PySem.W.kitOne; rw [if_pos (by decide)]
theorem trues_of {ys : List V} (h : ∀ (i : Nat) (v : V), ys[i]? = some v → v = .bl true) : ∃ bs : List Bool, ys = bs.map V.bl ∧ bs.all id = true := by
  refine ⟨List.replicate ys.length true, ?_, by simp⟩
  refine List.ext_getElem? fun i => ?_
  by_cases hi : i < ys.length
  · have e : ys[i]? = some ys[i] := List.getElem?_eq_getElem hi
    rw [e, h i _ e, List.getElem?_map, List.getElem?_replicate, if_pos hi]
    rfl
  · rw [List.getElem?_eq_none (by omega), List.getElem?_eq_none (by simp; omega)]
def spNumbers (K : PySem.W.Frag) : Sp := fun vs H Q _ => ∃ (a : Addr) (m : Int) (us : List V) (qs : List (Int × Int)), vs = [.ref a, .int m] ∧ H a = some (.lst us) ∧ NmsK K H us qs ∧ (qs.length : Int) = m ∧ qs.length ≤ 1000 ∧ (∀ q ∈ qs, 0 < q.2 ∧ Int.gcd q.1 q.2 = 1) ∧ ∀ H', Same H H' → Q (.bl true) H'
theorem sc_law_numbers : FnScope ["_law_found", "_law_many"] ["_law_found", "_law_many"] (defScope s_law_numbers) := ⟨rfl, rfl, rfl, by decide +kernel, rfl, by decide +kernel, by decide +kernel⟩
theorem ok_law_numbers (D : Def K mg "_law_numbers" s_law_numbers ["_law_found", "_law_many"]) (m_isinstance : mg "isinstance" = none) (m_len : mg "len" = none) (m_list : mg "list" = none) (m_all : mg "all" = none) (G_law_is_number : Fn P w K mg base (CXr P w) 34 "_law_is_number" ["_law_found"] (spIsNum K)) :
    Fn P w K mg base (CXr P w) 35 "_law_numbers" ["_law_found", "_law_many"] (spNumbers K) := by
  refine D.ok sc_law_numbers (fun vs H Q E h => ?_) (fun f cdv A outer s H vs Q E hr h => ?_)
  · obtain ⟨a, m, us, qs, rfl, _⟩ := h
    rfl
  obtain ⟨a, m, us, qs, rfl, ha, hN, hm, hn, hq, q⟩ := h
  have px := passM (X := (cxOf (CXr P w) P w K mg base ["_law_found", "_law_many"] "_law_numbers" (defScope s_law_numbers) f cdv A outer s H E)) (CXr.mute (P := P) (w := w))
  have hlu := hN.1
  refine ⟨_, (pss_cons (ps_if (PW.pt (pw_or (pt_not (pt_val (pe_callB call_isi rfl m_isinstance b_isinstance (pac (pv 0) (pac (pe_ty rfl m_list b_list) pa_nil))))) (pw_or1 (pt_cmpR op_ne (pe_callB call_len_seq rfl m_len b_len (pac (pv 0) pa_nil)) (pv 1) (nomark _))))) (pss_one (ps_ret pe_bl)) pss_nil)
    (pss_one (ps_ret (pe_callB (call_allB rfl) rfl m_all b_all (pac (pe_comp (tn := ["_law_one"]) (fr := []) (caps := []) rfl ⟨rfl, by decide +kernel, rfl, by decide +kernel, by decide +kernel, rfl, trivial, trivial⟩ (pi_list (pv 0)) (fun _ _ _ _ => (pg_name (i := 0) (show (["_law_one"] : List Str).Nodup from by decide +kernel) rfl (Or.inl rfl))) (fun _ _ _ _ => pf_nil) (fun _ _ _ _ => (pe_fn G_law_is_number (hr.mono (by decide)) (passB (by first | assumption | exact CXr.mute) rfl) (pac (pv 0) pa_nil)))) pa_nil))))), ?_⟩
  refine ⟨_, rfl, _, _, _, true, rfl, rfl, .lst ha, k_ll, _, rfl, ?_⟩
  refine ite2 (fun c => nomatch c) (fun _ => ?_)
  refine ⟨_, rfl, a, _, rfl, .inl (SqL.of ha), _, rfl, rfl, _, rfl, ?_⟩
  refine iteNS (by rw [hlu, hm]) ?_
  refine ⟨_, rfl, a, rfl, ⟨_, SqL.of ha⟩, fun D1 n1 => ?_⟩
  refine comp_list (cap := []) (K := K) (a := a) (xs := us) (fun _ v _ => v = .bl true) n1 (by rw [hlu]; exact Nat.lt_of_le_of_lt hn (by decide)) (fun H2 s2 => SqL.of (s2 _ _ ha)) (fun _ _ _ _ _ _ _ h => h) ?_ ?_
  · intro i u H2 R hu s2 k
    obtain ⟨n, en, nn⟩ := hN.at hu
    obtain ⟨h1, h2⟩ := hq n (List.mem_of_getElem? en)
    exact ⟨_, rfl, u, n, rfl, nn.same s2, h1, h2, fun H3 s3 => k _ _ s3 rfl⟩
  · intro ys H2 hy hrel s2 hD
    obtain ⟨bs, eb, ea⟩ := trues_of hrel
    refine ⟨D1, bs, rfl, by rw [← eb]; exact SqL.of hD, ?_⟩
    rw [ea]
    exact q _ s2
def spMixedC (K : PySem.W.Frag) : Sp := fun vs H Q _ => ∃ (a : Addr) (ns : List Int) (k : Int), vs = [.ref a, .int k] ∧ SqL K H a (ns.map V.int) ∧ (∀ i ∈ ns, intBits i ≤ 1048576) ∧ 0 ≤ k ∧ k ≤ 100000 ∧ ∀ v, intBits v ≤ 1048576 → Q (.int v) H
theorem sc_law_mixed : FnScope ["_law_script", "_law_k", "_law_number_here"] ["_law_script", "_law_k"] (defScope s_law_mixed) := ⟨rfl, rfl, rfl, by decide +kernel, rfl, by decide +kernel, by decide +kernel⟩
theorem ok_law_mixed (D : Def K mg "_law_mixed" s_law_mixed ["_law_script", "_law_k"]) (m_len : mg "len" = none) (G_law_cell_at : Fn P w K mg base (CXr P w) 1 "_law_cell_at" ["_law_script", "_law_k"] (spCell K)) : Fn P w K mg base (CXr P w) 2 "_law_mixed" ["_law_script", "_law_k"] (spMixedC K) := by
  refine D.ok sc_law_mixed (fun vs H Q E h => ?_) (fun f cdv A outer s H vs Q E hr h => ?_)
  · obtain ⟨a, ns, k, rfl, _⟩ := h
    rfl
  obtain ⟨a, ns, k, rfl, hS, hb, h0, h1, q⟩ := h
  have px := passM (X := (cxOf (CXr P w) P w K mg base ["_law_script", "_law_k", "_law_number_here"] "_law_mixed" (defScope s_law_mixed) f cdv A outer s H E)) (CXr.mute (P := P) (w := w))
  refine ⟨_, (pss_cons (ps_if (pt_cmpR op_lt (pv 1) (pe_callB call_len_seq rfl m_len b_len (pac (pv 0) pa_nil)) (nomark _)) (pss_one (ps_ret (pe_ix ix_list (pv 0) (pv 1) (fun _ _ => rfl)))) pss_nil)
    (pss_cons (ps_set (i := 2) sc_law_mixed.nd rfl (Or.inl rfl) (pe_op op_add (pe_op op_add (pe_op op_modB (pe_fn G_law_cell_at (hr.mono (by decide)) px (pac (pv 0) (pac pe_int pa_nil))) pe_int) (pe_op op_mulB pe_int (pv 1))) pe_int))
    (pss_one (ps_ret (pe_op op_modB (pe_op op_mulB (pe_op op_mulB (pv 2) (pv 2)) (pe_op op_add (pv 1) pe_int)) pe_int))))), ?_⟩
  have hl : (ns.map V.int).length = ns.length := List.length_map _
  refine ⟨_, rfl, _, rfl, a, _, rfl, .inl hS, _, _, rfl, rfl, _, rfl, ?_⟩
  refine ite2 (fun c => ?_) (fun c => ?_)
  · have c' : k < (((ns.map V.int).length : Nat) : Int) := of_decide_eq_true c
    rw [hl] at c'
    exact ⟨_, rfl, _, rfl, a, _, k, _, rfl, rfl, hS, cell_in h0 c', q _ (cell_bits hb k)⟩
  · have m := fmod_in (x := cell ns 1) (m := 2147483647) (by decide)
    have b64 : ∀ {x : Int}, -(2 ^ 63) < x → x < 2 ^ 63 → intBits x ≤ 64 := fun h1 h2 => intBits_le_64 (by omega) (by omega)
    have cm : ∀ {x y : Int} {j k : Nat}, intBits x ≤ j → intBits y ≤ k → j ≤ 1000 → k ≤ 1000 → CMulB x y := fun h1 h2 h3 h4 => ⟨Nat.le_trans h1 (Nat.le_trans h3 (by decide)), Nat.le_trans h2 (Nat.le_trans h4 (by decide))⟩
    have bk : intBits k ≤ 64 := b64 (by omega) (by omega)
    have bn : intBits ((cell ns 1).fmod 2147483647 + 48271 * k + 7) ≤ 64 := b64 (by omega) (by omega)
    have bk3 : intBits (k + 3) ≤ 64 := b64 (by omega) (by omega)
    have bnn := intBits_mul_le bn bn
    refine ⟨_, rfl, a, ns, 1, rfl, hS, by decide, _, _, rfl, rfl, nz (by decide), ?_⟩
    refine ⟨_, rfl, _, _, rfl, rfl, cm (show intBits 48271 ≤ 64 by decide +kernel) bk (by decide) (by decide), _, _, rfl, rfl, _, _, rfl, rfl, ?_⟩
    refine ⟨_, rfl, _, rfl, _, _, rfl, rfl, cm bn bn (by decide) (by decide), ?_⟩
    have r := fmod_in (x := ((cell ns 1).fmod 2147483647 + 48271 * k + 7) * ((cell ns 1).fmod 2147483647 + 48271 * k + 7) * (k + 3)) (m := 2147483629) (by decide)
    exact ⟨_, rfl, _, _, rfl, rfl, _, _, rfl, rfl, cm bnn bk3 (by decide) (by decide), _, _, rfl, rfl, nz (by decide), q _ (Nat.le_trans (b64 (by omega) (by omega)) (by decide))⟩
theorem dotQ_snoc {xs ys : List (Int × Int)} {x y : Int × Int} (h : xs.length = ys.length) : dotQ (xs ++ [x]) (ys ++ [y]) = dotQ xs ys + vl x * vl y := by
  unfold dotQ
  rw [List.zipWith_append h, List.sum_append]
  simp [Rat.add_zero]
theorem dotQ_take {qs rs : List (Int × Int)} {i : Nat} {q r : Int × Int} (hl : rs.length = qs.length) (e1 : qs[i]? = some q) (e2 : rs[i]? = some r) : dotQ (qs.take (i + 1)) (rs.take (i + 1)) = dotQ (qs.take i) (rs.take i) + vl q * vl r := by
  rw [List.take_succ, List.take_succ, e1, e2]
  exact dotQ_snoc (by simp [hl])
def spTotal (K : PySem.W.Frag) : Sp := fun vs H Q _ => ∃ (a b : Addr) (qs rs : List (Int × Int)) (T B T' B' M N : Nat), vs = [.ref a, .ref b] ∧ RowK K H a qs ∧ RowK K H b rs ∧ rs.length = qs.length ∧ qs.length ≤ 1000 ∧ (∀ q ∈ qs, Sm T B q) ∧ (∀ q ∈ rs, Sm T' B' q) ∧
  T + T' ≤ M ∧ B + B' ≤ N ∧ N ≤ M ∧ M ≤ 10000000 ∧ (M + 1) * qs.length ≤ 120000000 ∧ ∀ t b : Int, 0 < b → t.natAbs ≤ 2 ^ ((M + 1) * qs.length) → b.natAbs ≤ 2 ^ (N * qs.length) → (t : Rat) / b = dotQ qs rs → gives H Q (t, b)
theorem sc_law_total : FnScope ["_law_row", "_law_xs", "_law_top", "_law_bottom", "_law_k", "_law_under_here"] ["_law_row", "_law_xs"] (defScope s_law_total) := ⟨rfl, rfl, rfl, by decide +kernel, rfl, by decide +kernel, by decide +kernel⟩
theorem ok_law_total (D : Def K mg "_law_total" s_law_total ["_law_row", "_law_xs"]) (m_len : mg "len" = none) (m_range : mg "range" = none) : Fn P w K mg base (CXr P w) 1 "_law_total" ["_law_row", "_law_xs"] (spTotal K) := by
  refine D.ok sc_law_total (fun vs H Q E h => ?_) (fun f cdv A outer s H vs Q E hr h => ?_)
  · obtain ⟨a, b, qs, rs, T, B, T', B', M, N, rfl, _⟩ := h
    rfl
  obtain ⟨a, b, qs, rs, T, B, T', B', M, N, rfl, ⟨us, hS, hN⟩, ⟨us', hS', hN'⟩, hl, hn, sq, sr, hG, hG2, hNM, hG3, hGn, q⟩ := h
  refine ⟨_, (pss_cons (ps_set (i := 2) sc_law_total.nd rfl (Or.inl rfl) pe_int)
    (pss_cons (ps_set (i := 3) sc_law_total.nd rfl (Or.inl rfl) pe_int)
    (pss_cons (ps_for PassesOwn.never rfl (pi_range1 rfl m_range (pac (pe_callB call_len_seq rfl m_len b_len (pac (pv 0) pa_nil)) pa_nil)) (pg_name (i := 4) sc_law_total.nd rfl (Or.inl rfl)) (pss_cons (ps_set (i := 5) sc_law_total.nd rfl (Or.inl rfl) (pe_op op_mulZ (pe_ix ix_tup (pe_ix ix_list (pv 0) (pv 4) (fun _ _ => rfl)) pe_int (fun _ _ => rfl)) (pe_ix ix_tup (pe_ix ix_list (pv 1) (pv 4) (fun _ _ => rfl)) pe_int (fun _ _ => rfl))))
      (pss_cons (ps_set (i := 2) sc_law_total.nd rfl (Or.inl rfl) (pe_op op_add (pe_op op_mulZ (pv 2) (pv 5)) (pe_op op_mulZ (pe_op op_mulZ (pe_ix ix_tup (pe_ix ix_list (pv 0) (pv 4) (fun _ _ => rfl)) pe_int (fun _ _ => rfl)) (pe_ix ix_tup (pe_ix ix_list (pv 1) (pv 4) (fun _ _ => rfl)) pe_int (fun _ _ => rfl))) (pv 3))))
      (pss_one (ps_set (i := 3) sc_law_total.nd rfl (Or.inl rfl) (pe_op op_mulZ (pv 3) (pv 5)))))))
    (pss_one (ps_ret (pe_tup (pac (pv 2) (pac (pv 3) pa_nil)))))))), ?_⟩
  have hlu := hN.1
  have hlu' := hN'.1
  refine ⟨_, rfl, a, _, rfl, .inl hS, _, rfl, by omega, by omega, ?_⟩
  refine for_range (lo := 0) (n := ((us.length : Nat) : Int).toNat) (fun i σ H' => ∃ (t b0 : Int) (o1 o2 : Option V), σ = [some (.ref a), some (.ref b), some (.int t), some (.int b0), o1, o2] ∧ H' = H ∧ 0 < b0 ∧ b0.natAbs ≤ 2 ^ (N * i) ∧ t.natAbs ≤ 2 ^ ((M + 1) * i) ∧ (t : Rat) / b0 = dotQ (qs.take i) (rs.take i)) ⟨0, 1, none, none, rfl, rfl, by decide, by simp, by simp, by simp [dotQ]; grind⟩ ?_ ?_
  · rintro i σ H' hi ⟨t, b0, o1, o2, rfl, rfl, hb, sb, st, ev⟩
    have hi' : i < qs.length := by omega
    have gi : (M + 1) * (i + 1) ≤ 120000000 := Nat.le_trans (Nat.mul_le_mul_left _ (by omega)) hGn
    have gs : (M + 1) * (i + 1) = (M + 1) * i + (M + 1) := Nat.mul_succ _ _
    have bs : N * (i + 1) = N * i + N := Nat.mul_succ _ _
    have bg : N * i ≤ (M + 1) * i := Nat.mul_le_mul_right _ (by omega)
    have eq : qs[i]? = some qs[i] := List.getElem?_eq_getElem hi'
    obtain ⟨u, eu, n1⟩ := hN.at' eq
    have er : rs[i]? = some (rs[i]'(by omega)) := List.getElem?_eq_getElem (by omega)
    obtain ⟨u', eu', n2⟩ := hN'.at' er
    have s1 := sq _ (List.mem_of_getElem? eq)
    have s2 := sr _ (List.mem_of_getElem? er)
    generalize qs[i] = x at *
    generalize rs[i]'(by omega) = y at *
    obtain ⟨p1, rfl, h1⟩ := n1
    obtain ⟨p2, rfl, h2⟩ := n2
    have a1 : atI us ((0 : Int) + (i : Nat)) = some (.ref p1) := by rw [Int.zero_add]; exact atI_nat eu
    have a2 : atI us' ((0 : Int) + (i : Nat)) = some (.ref p2) := by rw [Int.zero_add]; exact atI_nat eu'
    have bu := pw_mul s1.bot s2.bot
    have btp := pw_mul s1.top s2.top
    have pu : 0 < x.2 * y.2 := Int.mul_pos s1.pos s2.pos
    refine ⟨_, rfl, _, rfl, a, _, _, _, rfl, rfl, hS, a1, p1, _, _, _, rfl, rfl, h1, at1, ?_⟩
    refine ⟨_, rfl, _, rfl, b, _, _, _, rfl, rfl, hS', a2, p2, _, _, _, rfl, rfl, h2, at1, _, _, rfl, rfl, pw_cmulS s1.bot s2.bot (by omega), ?_⟩
    refine ⟨_, rfl, _, rfl, _, _, rfl, rfl, pw_cmulS st bu (by omega), ?_⟩
    refine ⟨_, rfl, _, rfl, a, _, _, _, rfl, rfl, hS, a1, p1, _, _, _, rfl, rfl, h1, at0, ?_⟩
    refine ⟨_, rfl, _, rfl, b, _, _, _, rfl, rfl, hS', a2, p2, _, _, _, rfl, rfl, h2, at0, _, _, rfl, rfl, pw_cmulS s1.top s2.top (by omega), ?_⟩
    refine ⟨_, rfl, _, _, rfl, rfl, pw_cmulS btp sb (by omega), _, _, rfl, rfl, ?_⟩
    refine ⟨_, rfl, _, rfl, _, _, rfl, rfl, pw_cmulS sb bu (by omega), ?_⟩
    refine ⟨_, _, _, _, rfl, rfl, Int.mul_pos hb pu, pw_up (pw_mul sb bu) (by omega), ?_, ?_⟩
    · exact pw_up (pw_add (m := (M + 1) * i + M) (pw_up (pw_mul st bu) (by omega)) (pw_up (pw_mul btp sb) (by omega))) (by omega)
    · rw [dotQ_take hl eq er, ← ev]
      have hb' := ratne (b := b0) (by omega)
      have hx := ratne (b := x.2) (by have := s1.pos; omega)
      have hy := ratne (b := y.2) (by have := s2.pos; omega)
      unfold vl
      push_cast
      grind
  · rintro σ H' ⟨t, b0, o1, o2, rfl, rfl, hb, sb, st, ev⟩
    have en : ((us.length : Nat) : Int).toNat = qs.length := by omega
    rw [en] at sb st ev
    rw [List.take_of_length_le (Nat.le_refl _), List.take_of_length_le (by omega)] at ev
    have bg : N * qs.length ≤ (M + 1) * qs.length := Nat.mul_le_mul_right _ (by omega)
    refine ⟨_, rfl, _, rfl, (by show 2 ≤ sizeLine; decide), fun p np => ?_⟩
    exact q t b0 hb (pw_up st (by omega)) (pw_up sb (by omega)) ev p _ (same_new np _) upd_same
def spComes (K : PySem.W.Frag) : Sp := fun vs H Q _ => ∃ (a b : Addr) (v : V) (qs rs : List (Int × Int)) (d : Int × Int) (T B T' B' M : Nat), vs = [.ref a, .ref b, v] ∧ RowK K H a qs ∧ RowK K H b rs ∧ rs.length = qs.length ∧ qs.length ≤ 1000 ∧ (∀ q ∈ qs, Sm T B q) ∧ (∀ q ∈ rs, Sm T' B' q) ∧
  T + T' ≤ M ∧ B + B' ≤ M ∧ M ≤ 10000000 ∧ (M + 1) * qs.length ≤ 120000000 ∧ NmK K H v d ∧ 0 < d.2 ∧ vl d = dotQ qs rs ∧ d.1.natAbs ≤ 2 ^ 1000000 ∧ d.2.natAbs ≤ 2 ^ 1000000 ∧ ∀ H', Same H H' → Q (.bl true) H'
theorem sc_law_comes : FnScope ["_law_row", "_law_xs", "_law_due", "_law_top", "_law_bottom"] ["_law_row", "_law_xs", "_law_due"] (defScope s_law_comes) := ⟨rfl, rfl, rfl, by decide +kernel, rfl, by decide +kernel, by decide +kernel⟩
theorem ok_law_comes (D : Def K mg "_law_comes" s_law_comes ["_law_row", "_law_xs", "_law_due"]) (G_law_total : Fn P w K mg base (CXr P w) 1 "_law_total" ["_law_row", "_law_xs"] (spTotal K)) : Fn P w K mg base (CXr P w) 2 "_law_comes" ["_law_row", "_law_xs", "_law_due"] (spComes K) := by
  refine D.ok sc_law_comes (fun vs H Q E h => ?_) (fun f cdv A outer s H vs Q E hr h => ?_)
  · obtain ⟨a, b, v, qs, rs, d, T, B, T', B', M, rfl, _⟩ := h
    rfl
  obtain ⟨a, b, v, qs, rs, d, T, B, T', B', M, rfl, ra, rb, hl, hn, sq, sr, hG, hG2, hG3, hGn, ⟨p, rfl, hp⟩, dp, ev, z1, z2, q⟩ := h
  have px := passM (X := (cxOf (CXr P w) P w K mg base ["_law_row", "_law_xs", "_law_due", "_law_top", "_law_bottom"] "_law_comes" (defScope s_law_comes) f cdv A outer s H E)) (CXr.mute (P := P) (w := w))
  have mle : M * qs.length ≤ (M + 1) * qs.length := Nat.mul_le_mul_right _ (by omega)
  refine ⟨_, (pss_cons (ps_asg (pe_fn G_law_total (hr.mono (by decide)) px (pac (pv 0) (pac (pv 1) pa_nil))) (pg_tup rfl (pgs_cons (pg_name (i := 3) sc_law_comes.nd rfl (Or.inl rfl)) (pgs_cons (pg_name (i := 4) sc_law_comes.nd rfl (Or.inl rfl)) pgs_nil))))
    (pss_one (ps_ret (pe_cmpR op_eq (pe_op op_mulZ (pv 3) (pe_ix ix_tup (pv 2) pe_int (fun _ _ => rfl))) (pe_op op_mulZ (pe_ix ix_tup (pv 2) pe_int (fun _ _ => rfl)) (pv 4)) (nomark _))))), ?_⟩
  refine ⟨_, rfl, _, rfl, a, b, qs, rs, T, B, T', B', M, M, rfl, ra, rb, hl, hn, sq, sr, hG, hG2, Nat.le_refl _, hG3, hGn, fun t b0 hb st sb et p1 H1 s1 e1 => ?_⟩
  have g := Ty.Same.seqT s1 hp
  refine ⟨p1, _, rfl, SqT.of e1, rfl, _, _, rfl, _, _, rfl, rfl, ?_⟩
  refine ⟨_, rfl, _, rfl, p, _, _, _, rfl, rfl, g, at1, _, _, rfl, rfl, pw_cmulS st z2 (by omega), ?_⟩
  refine ⟨_, rfl, p, _, _, _, rfl, rfl, g, at0, _, rfl, _, _, rfl, rfl, pw_cmulS z1 sb (by omega), rfl, ?_⟩
  have e : t * d.2 = d.1 * b0 := cross_of_vl (by omega) (by omega) (by rw [et, ← ev]; rfl)
  show Q (.bl (decide (V.int (t * d.2) = V.int (d.1 * b0)))) H1
  rw [decide_eq_true (congrArg V.int e)]
  exact q _ s1
theorem sm_low {t b : Int} {T B : Nat} (hb : 0 < b) (ht : t.natAbs ≤ 2 ^ T) (hbb : b.natAbs ≤ 2 ^ B) : Sm T B (low t b) :=
  have h : b ≠ 0 := by omega
  ⟨low_pos h, low_gcd h, Nat.le_trans (low_top_le h) ht, Nat.le_trans (low_bot_le h) hbb⟩
theorem low_nn {t b : Int} (hb : 0 < b) (ht : 0 ≤ t) : 0 ≤ (low t b).1 := by
  have h : b ≠ 0 := by omega
  have c := low_cross (t := t) h
  have p := low_pos (t := t) h
  have m : 0 ≤ (low t b).1 * b := by rw [c]; exact Int.mul_nonneg ht (Int.le_of_lt p)
  apply Classical.byContradiction
  intro n
  have : (low t b).1 * b < 0 := Int.mul_neg_of_neg_of_pos (by omega) hb
  omega
def spDraw : Sp := fun vs H Q _ => ∃ (c k : Int) (T B : Nat), vs = [.int c, .int k] ∧ intBits c ≤ 1048576 ∧ (31 ≤ T ∧ 7 ≤ B) ∧ ∀ q, Sm T B q → gives H Q q
theorem sc_law_draw : FnScope ["_law_cell", "_law_kind"] ["_law_cell", "_law_kind"] (defScope s_law_draw) := ⟨rfl, rfl, rfl, by decide +kernel, rfl, by decide +kernel, by decide +kernel⟩
theorem ok_law_draw (D : Def K mg "_law_draw" s_law_draw ["_law_cell", "_law_kind"]) (G_law_number : Fn P w K mg base (CXr P w) 33 "_law_number" ["_law_top", "_law_bottom"] spLaw_number) : Fn P w K mg base (CXr P w) 34 "_law_draw" ["_law_cell", "_law_kind"] spDraw := by
  refine D.ok sc_law_draw (fun vs H Q E h => ?_) (fun f cdv A outer s H vs Q E hr h => ?_)
  · obtain ⟨c, k, T, B, rfl, _⟩ := h
    rfl
  obtain ⟨c, k, T, B, rfl, bc, fit, q⟩ := h
  have px := passM (X := (cxOf (CXr P w) P w K mg base ["_law_cell", "_law_kind"] "_law_draw" (defScope s_law_draw) f cdv A outer s H E)) (CXr.mute (P := P) (w := w))
  refine ⟨_, (pss_cons (ps_if (pt_cmpR op_lt (pv 1) pe_int (nomark _)) (pss_one (ps_ret (pe_tup (pac (pe_op op_modB (pv 0) pe_int) (pac pe_int pa_nil))))) pss_nil)
    (pss_cons (ps_if (pt_cmpR op_lt (pv 1) pe_int (nomark _)) (pss_one (ps_ret (pe_tup (pac (pe_op op_sub (pe_op op_modB (pv 0) pe_int) pe_int) (pac pe_int pa_nil))))) pss_nil)
    (pss_cons (ps_if (pt_cmpR op_eq (pv 1) pe_int (nomark _)) (pss_one (ps_ret (pe_fn G_law_number (hr.mono (by decide)) px (pac (pe_op op_sub (pe_op op_modB (pv 0) pe_int) pe_int) (pac (pe_op op_add pe_int (pe_op op_modB (pe_op op_fdivB (pv 0) pe_int) pe_int)) pa_nil))))) pss_nil)
    (pss_one (ps_ret (pe_fn G_law_number (hr.mono (by decide)) px (pac (pe_op op_sub (pe_op op_modB (pv 0) pe_int) pe_int) (pac (pe_op op_add pe_int (pe_op op_modB (pe_op op_mulB (pe_op op_modB (pv 0) pe_int) pe_int) pe_int)) pa_nil)))))))), ?_⟩
  have cm : ∀ {i j : Int}, intBits i ≤ 2097152 → intBits j ≤ 1048576 → CMulB i j := fun a b => ⟨Nat.le_trans a (by decide), Nat.le_trans b (by decide)⟩
  have f31 : (2 : Nat) ^ 31 = 2147483648 := by decide
  have f7 : (2 : Nat) ^ 7 = 128 := by decide
  have num : ∀ t b : Int, 0 < b → b ≤ 100 → t.natAbs ≤ 2 ^ 31 → spLaw_number [.int t, .int b] H Q E0 := fun t b h1 h2 h3 => by
    have hb : b.natAbs ≤ 2 ^ 7 := by rw [f7]; omega
    exact ⟨t, b, rfl, h1, q _ ((sm_low h1 h3 hb).up fit.1 fit.2)⟩
  have one : ∀ t : Int, t.natAbs ≤ 10 → ∀ p, H p = none → Q (.ref p) (upd H p (.tup [.int t, .int 1])) := fun t ht p np => by
    have hs : Sm 31 7 (t, 1) := ⟨(by show (0 : Int) < 1; decide), by simp, by show t.natAbs ≤ 2 ^ 31; omega, (by show (1 : Int).natAbs ≤ 2 ^ 7; decide)⟩
    exact q (t, 1) (hs.up fit.1 fit.2) p _ (same_new np _) upd_same
  refine ⟨_, rfl, _, _, rfl, rfl, _, rfl, ?_⟩
  refine ite2 (fun _ => ?_) (fun _ => ?_)
  · have m := fmod_in (x := c) (m := 5) (by decide)
    exact ⟨_, rfl, _, _, rfl, rfl, nz (by decide), (by show 2 ≤ sizeLine; decide), one _ (by omega)⟩
  refine ⟨_, rfl, _, _, rfl, rfl, _, rfl, ?_⟩
  refine ite2 (fun _ => ?_) (fun _ => ?_)
  · have m := fmod_in (x := c) (m := 7) (by decide)
    exact ⟨_, rfl, _, _, rfl, rfl, nz (by decide), _, _, rfl, rfl, (by show 2 ≤ sizeLine; decide), one _ (by omega)⟩
  refine ⟨_, rfl, rfl, _, rfl, ?_⟩
  refine ite2 (fun _ => ?_) (fun _ => ?_)
  · have m := fmod_in (x := c) (m := 17) (by decide)
    have m2 := fmod_in (x := c.fdiv 17) (m := 4) (by decide)
    refine ⟨_, rfl, _, _, rfl, rfl, nz (by decide), _, _, rfl, rfl, ?_⟩
    exact ⟨_, rfl, _, _, rfl, rfl, ⟨by decide, by decide +kernel⟩, _, _, rfl, rfl, nz (by decide), _, _, rfl, rfl, num _ _ (by omega) (by omega) (by rw [f31]; omega)⟩
  · have m := fmod_in (x := c) (m := 2000000001) (by decide)
    have m1 := fmod_in (x := c) (m := 1009) (by decide)
    have m2 := fmod_in (x := c.fmod 1009 * 48271) (m := 97) (by decide)
    refine ⟨_, rfl, _, _, rfl, rfl, nz (by decide), _, _, rfl, rfl, ?_⟩
    exact ⟨_, rfl, _, _, rfl, rfl, nz (by decide), _, _, rfl, rfl, cm (Nat.le_trans (intBits_le_64 (by omega) (by omega)) (by decide)) (by decide +kernel), _, _, rfl, rfl, nz (by decide), _, _, rfl, rfl, num _ _ (by omega) (by omega) (by rw [f31]; omega)⟩
def spLimit : Sp := fun vs H Q _ => ∃ (c k : Int), vs = [.int c, .int k] ∧ intBits c ≤ 1048576 ∧ ∀ q, Sm 31 7 q → 0 ≤ q.1 → gives H Q q
theorem sc_law_limit : FnScope ["_law_cell", "_law_kind"] ["_law_cell", "_law_kind"] (defScope s_law_limit) := ⟨rfl, rfl, rfl, by decide +kernel, rfl, by decide +kernel, by decide +kernel⟩
theorem ok_law_limit (D : Def K mg "_law_limit" s_law_limit ["_law_cell", "_law_kind"]) (G_law_number : Fn P w K mg base (CXr P w) 33 "_law_number" ["_law_top", "_law_bottom"] spLaw_number) : Fn P w K mg base (CXr P w) 34 "_law_limit" ["_law_cell", "_law_kind"] spLimit := by
  refine D.ok sc_law_limit (fun vs H Q E h => ?_) (fun f cdv A outer s H vs Q E hr h => ?_)
  · obtain ⟨c, k, rfl, _⟩ := h
    rfl
  obtain ⟨c, k, rfl, bc, q⟩ := h
  have px := passM (X := (cxOf (CXr P w) P w K mg base ["_law_cell", "_law_kind"] "_law_limit" (defScope s_law_limit) f cdv A outer s H E)) (CXr.mute (P := P) (w := w))
  refine ⟨_, (pss_cons (ps_if (pt_cmpR op_eq (pe_op op_modB (pv 0) pe_int) pe_int (nomark _)) (pss_one (ps_ret (pe_tup (pac pe_int (pac pe_int pa_nil))))) pss_nil)
    (pss_cons (ps_if (pt_cmpR op_lt (pv 1) pe_int (nomark _)) (pss_one (ps_ret (pe_tup (pac (pe_op op_modB (pe_op op_fdivB (pv 0) pe_int) pe_int) (pac pe_int pa_nil))))) pss_nil)
    (pss_one (ps_ret (pe_fn G_law_number (hr.mono (by decide)) px (pac (pe_op op_modB (pe_op op_fdivB (pv 0) pe_int) pe_int) (pac (pe_op op_add pe_int (pe_op op_modB (pe_op op_mulB (pe_op op_modB (pv 0) pe_int) pe_int) pe_int)) pa_nil))))))), ?_⟩
  have cm : ∀ {i j : Int}, intBits i ≤ 2097152 → intBits j ≤ 1048576 → CMulB i j := fun a b => ⟨Nat.le_trans a (by decide), Nat.le_trans b (by decide)⟩
  have f31 : (2 : Nat) ^ 31 = 2147483648 := by decide
  have f7 : (2 : Nat) ^ 7 = 128 := by decide
  have one : ∀ t : Int, 0 ≤ t → t.natAbs ≤ 10 → ∀ p, H p = none → Q (.ref p) (upd H p (.tup [.int t, .int 1])) := fun t h0 ht p np => by
    have hs : Sm 31 7 (t, 1) := ⟨(by show (0 : Int) < 1; decide), by simp, by show t.natAbs ≤ 2 ^ 31; omega, (by show (1 : Int).natAbs ≤ 2 ^ 7; decide)⟩
    exact q (t, 1) hs h0 p _ (same_new np _) upd_same
  refine ⟨_, rfl, _, _, rfl, rfl, nz (by decide), rfl, _, rfl, ?_⟩
  refine ite2 (fun _ => ?_) (fun _ => ?_)
  · exact ⟨(by show 2 ≤ sizeLine; decide), one 0 (by decide) (by decide)⟩
  refine ⟨_, rfl, _, _, rfl, rfl, _, rfl, ?_⟩
  refine ite2 (fun _ => ?_) (fun _ => ?_)
  · have m := fmod_in (x := c.fdiv 4) (m := 9) (by decide)
    exact ⟨_, rfl, _, _, rfl, rfl, ⟨by decide, by decide +kernel⟩, _, _, rfl, rfl, nz (by decide), (by show 2 ≤ sizeLine; decide), one _ (by omega) (by omega)⟩
  · have m := fmod_in (x := c.fdiv 4) (m := 1000000001) (by decide)
    have m1 := fmod_in (x := c) (m := 1013) (by decide)
    have m2 := fmod_in (x := c.fmod 1013 * 69621) (m := 97) (by decide)
    refine ⟨_, rfl, _, _, rfl, rfl, ⟨by decide, by decide +kernel⟩, _, _, rfl, rfl, nz (by decide), ?_⟩
    refine ⟨_, rfl, _, _, rfl, rfl, nz (by decide), _, _, rfl, rfl, cm (Nat.le_trans (intBits_le_64 (by omega) (by omega)) (by decide)) (by decide +kernel), _, _, rfl, rfl, nz (by decide), _, _, rfl, rfl, ?_⟩
    exact ⟨_, _, rfl, by omega, q _ (sm_low (by omega) (by rw [f31]; omega) (by rw [f7]; omega)) (low_nn (by omega) m.1)⟩
theorem nums_of {H : Hp} {T B : Nat} : ∀ {ys : List V}, (∀ (i : Nat) (v : V), ys[i]? = some v → ∃ q, Sm T B q ∧ Nm H v q) → ∃ qs, Nms H ys qs ∧ ∀ q ∈ qs, Sm T B q
  | [], _ => ⟨[], ⟨rfl, fun i u q e => by simp at e⟩, (fun q h => nomatch h)⟩
  | y :: ys, h => by
    obtain ⟨q, s, n⟩ := h 0 y rfl
    obtain ⟨qs, ⟨l, ns⟩, ss⟩ := nums_of (ys := ys) (fun i v e => h (i + 1) v (by simpa using e))
    refine ⟨q :: qs, ⟨by simp [l], fun i u q' e1 e2 => ?_⟩, fun q' hq => ?_⟩
    · cases i with
      | zero =>
        cases e1
        cases e2
        exact n
      | succ i => exact ns i u q' (by simpa using e1) (by simpa using e2)
    · rcases List.mem_cons.mp hq with z | z
      · rw [z]; exact s
      · exact ss q' z
theorem Own.snoc {H0 H : Hp} {r D : Addr} {ls : List Addr} {vss : List (List V)} {qss : List (List (Int × Int))} {us : List V} {qs : List (Int × Int)} (h : Own H0 H r ls vss qss) (hD : H D = some (.lst us)) (nD : D ∉ ls) (nr : D ≠ r) (f : H0 D = none) (n : Nms H us qs) :
    Own H0 (upd H r (.lst (ls.map V.ref ++ [.ref D]))) r (ls ++ [D]) (vss ++ [us]) (qss ++ [qs]) := by
  obtain ⟨m1, m2, m3⟩ := h.mat
  have ts : TSame H (upd H r (.lst (ls.map V.ref ++ [.ref D]))) := TSame.lst m1
  have nel : ∀ l ∈ ls, l ≠ r := fun l hl z => h.nr (z ▸ hl)
  have l2 := h.num.1
  have two : ∀ {α : Type} {xs : List α} {x y : α} {j : Nat}, (xs ++ [x])[j]? = some y → (j < xs.length ∧ xs[j]? = some y) ∨ (j = xs.length ∧ x = y) := fun {α xs x y j} e => by
    by_cases c : j < xs.length
    · rw [List.getElem?_append_left c] at e
      exact .inl ⟨c, e⟩
    · rw [List.getElem?_append_right (by omega)] at e
      by_cases z : j - xs.length = 0
      · rw [z] at e
        exact .inr ⟨by omega, Option.some.inj e⟩
      · rw [List.getElem?_eq_none (by simp; omega)] at e
        cases e
  refine ⟨fun b o e => ?_, ⟨?_, by simp [m2], fun j l vs e1 e2 => ?_⟩, ⟨by simp [h.num.1], fun j vs qs' e1 e2 => ?_⟩, fun a b l e1 e2 => ?_, fun z => ?_, h.fr, fun l hl => ?_⟩
  · rw [upd_ne (fun z => by rw [z, h.fr] at e; cases e)]
    exact h.since _ _ e
  · rw [upd_same, List.map_append]
    rfl
  · rcases two e1 with ⟨c1, d1⟩ | ⟨c1, d1⟩ <;> rcases two e2 with ⟨c2, d2⟩ | ⟨c2, d2⟩
    · rw [upd_ne (nel l (List.mem_of_getElem? d1))]
      exact m3 j l vs d1 d2
    · omega
    · omega
    · subst d1 d2
      rw [upd_ne nr]
      exact hD
  · rcases two e1 with ⟨c1, d1⟩ | ⟨c1, d1⟩ <;> rcases two e2 with ⟨c2, d2⟩ | ⟨c2, d2⟩
    · exact (h.num.2 j vs qs' d1 d2).tsame ts
    · omega
    · omega
    · subst d1 d2
      exact n.tsame ts
  · rcases two e1 with ⟨c1, d1⟩ | ⟨c1, d1⟩ <;> rcases two e2 with ⟨c2, d2⟩ | ⟨c2, d2⟩
    · exact h.nd a b l d1 d2
    · exact absurd (List.mem_of_getElem? d1) (d2 ▸ nD)
    · exact absurd (List.mem_of_getElem? d2) (d1 ▸ nD)
    · omega
  · rcases List.mem_append.mp z with y | y
    · exact h.nr y
    · exact nr (List.mem_singleton.mp y).symm
  · rcases List.mem_append.mp hl with y | y
    · exact h.fl l y
    · rw [List.mem_singleton.mp y]; exact f
def spRows (K : PySem.W.Frag) : Sp := fun vs H Q _ => ∃ (a : Addr) (ns : List Int) (m n k : Int) (T B : Nat), vs = [.ref a, .int m, .int n, .int k] ∧ SqL K H a (ns.map V.int) ∧ (∀ i ∈ ns, intBits i ≤ 1048576) ∧ 0 ≤ m ∧ m ≤ 100 ∧ 0 ≤ n ∧ n ≤ 100 ∧ (31 ≤ T ∧ 7 ≤ B) ∧
  ∀ r ls vss qss H', Own H H' r ls vss qss → (qss.length : Int) = n → Shape T B m.toNat qss → Q (.ref r) H'
theorem sc_law_rows : FnScope ["_law_script", "_law_many", "_law_count", "_law_kind", "_law_rows_here", "_law_i"] ["_law_script", "_law_many", "_law_count", "_law_kind"] (defScope s_law_rows) := ⟨rfl, rfl, rfl, by decide +kernel, rfl, by decide +kernel, by decide +kernel⟩
theorem ok_law_rows (D : Def K mg "_law_rows" s_law_rows ["_law_script", "_law_many", "_law_count", "_law_kind"]) (m_range : mg "range" = none) (G_law_draw : Fn P w K mg base (CXr P w) 34 "_law_draw" ["_law_cell", "_law_kind"] spDraw) (G_law_mixed : Fn P w K mg base (CXr P w) 2 "_law_mixed" ["_law_script", "_law_k"] (spMixedC K)) :
    Fn P w K mg base (CXr P w) 35 "_law_rows" ["_law_script", "_law_many", "_law_count", "_law_kind"] (spRows K) := by
  refine D.ok sc_law_rows (fun vs H Q E h => ?_) (fun f cdv A outer s H vs Q E hr h => ?_)
  · obtain ⟨a, ns, m, n, k, T, B, rfl, _⟩ := h
    rfl
  obtain ⟨a, ns, m, n, k, T, B, rfl, hS, hb, m0, m1, n0, n1, fit, q⟩ := h
  have px := passM (X := (cxOf (CXr P w) P w K mg base ["_law_script", "_law_many", "_law_count", "_law_kind", "_law_rows_here", "_law_i"] "_law_rows" (defScope s_law_rows) f cdv A outer s H E)) (CXr.mute (P := P) (w := w))
  refine ⟨_, (pss_cons (ps_set (i := 4) sc_law_rows.nd rfl (Or.inl rfl) (pe_lst pa_nil))
    (pss_cons (ps_for PassesOwn.never rfl (pi_range1 rfl m_range (pac (pv 2) pa_nil)) (pg_name (i := 5) sc_law_rows.nd rfl (Or.inr rfl)) (pss_one (ps_expr (pe_bm PySem.F.plainAttrs_list PySem.F.slot_list_append PySem.F.type_list_append mt_append (pv 4) (pac (pe_comp (tn := ["_law_j"]) (fr := ["_law_script", "_law_many", "_law_kind", "_law_i"]) (caps := [0, 1, 3, 5]) rfl ⟨rfl, by decide +kernel, rfl, by decide +kernel, by decide +kernel, rfl, ⟨(by first | exact Or.inl rfl | exact Or.inr rfl), ⟨(by first | exact Or.inl rfl | exact Or.inr rfl), ⟨(by first | exact Or.inl rfl | exact Or.inr rfl), ⟨(by first | exact Or.inl rfl | exact Or.inr rfl), trivial⟩⟩⟩⟩, ⟨(by first | exact Or.inl rfl | exact Or.inr rfl), ⟨(by first | exact Or.inl rfl | exact Or.inr rfl), ⟨(by first | exact Or.inl rfl | exact Or.inr rfl), ⟨(by first | exact Or.inl rfl | exact Or.inr rfl), trivial⟩⟩⟩⟩⟩ (pi_range1 rfl m_range (pac (pv 1) pa_nil)) (fun _ _ _ _ => (pg_name (i := 0) (show (["_law_j", "_law_script", "_law_many", "_law_kind", "_law_i"] : List Str).Nodup from by decide +kernel) rfl (Or.inl rfl))) (fun _ _ _ _ => pf_nil) (fun _ _ _ _ => (pe_fn G_law_draw (hr.mono (by decide)) (passB (by first | assumption | exact CXr.mute) rfl) (pac (pe_fn G_law_mixed (hr.mono (by decide)) (passB (by first | assumption | exact CXr.mute) rfl) (pac (pv 1) (pac (pe_op op_add (pe_op op_add pe_int (pe_op op_mulB (pv 4) (pv 2))) (pv 0)) pa_nil))) (pac (pv 3) pa_nil))))) pa_nil)))))
    (pss_one (ps_ret (pv 4))))), ?_⟩
  refine ⟨(by show 0 ≤ sizeLine; decide), fun r nr => ?_⟩
  refine ⟨_, rfl, _, rfl, by omega, by omega, ?_⟩
  refine for_range (lo := 0) (n := n.toNat) (fun i σ H' => ∃ (o : Option V) (ls : List Addr) (vss : List (List V)) (qss : List (List (Int × Int))), σ = [some (.ref a), some (.int m), some (.int n), some (.int k), some (.ref r), o] ∧ Own H H' r ls vss qss ∧ qss.length = i ∧ Shape T B m.toNat qss) ⟨none, [], [], [], rfl, ⟨same_new nr _, ⟨upd_same, rfl, fun i l vs e => by simp at e⟩, ⟨rfl, fun i vs qs e => by simp at e⟩, fun i j l e => by simp at e, by simp, nr, fun l h => nomatch h⟩, rfl, fun qs h => nomatch h⟩ ?_ ?_
  · rintro i σ H' hi ⟨o, ls, vss, qss, rfl, ow, lq, sh⟩
    obtain ⟨w1, w2, w3⟩ := ow.mat
    have hS' := ow.since.seq hS
    have lv := ow.num.1
    refine ⟨_, rfl, .inl ⟨rfl, _, SqL.of w1⟩, ?_⟩
    refine ⟨_, rfl, _, rfl, by omega, by omega, fun D nD => ?_⟩
    refine comp_range (lo := 0) (n := m.toNat) (cap := [some (.ref a), some (.int m), some (.int k), some (.int ((0 : Int) + i))]) (fun _ v H2 => ∃ q, Sm T B q ∧ Nm H2 v q) nD (Nat.lt_of_le_of_lt (show m.toNat ≤ 100 by omega) (by decide)) (fun i v H2 H3 ys e ks ⟨q, s, n⟩ => ⟨q, s, n.kept e ks⟩) ?_ ?_
    · intro j H2 R hj s2 kk
      have bi : intBits ((0 : Int) + i) ≤ 64 := intBits_le_64 (by omega) (by omega)
      have bm : intBits m ≤ 64 := intBits_le_64 (by omega) (by omega)
      have cm : CMulB ((0 : Int) + i) m := ⟨Nat.le_trans bi (by decide), Nat.le_trans bm (by decide)⟩
      have p0 : (0 : Int) ≤ ((0 : Int) + i) * m := Int.mul_nonneg (by omega) m0
      have p1 : ((0 : Int) + i) * m ≤ 100 * 100 := Int.mul_le_mul (by omega) m1 m0 (by decide)
      refine ⟨_, rfl, _, rfl, _, rfl, _, _, rfl, rfl, cm, _, _, rfl, rfl, _, rfl, _, _, rfl, rfl, ?_⟩
      refine ⟨a, ns, _, rfl, s2.seq hS', hb, by omega, by omega, fun c bc => ?_⟩
      exact ⟨_, rfl, c, k, T, B, rfl, bc, fit, fun n' sn p H6 s6 e6 => kk _ _ s6 ⟨n', sn, p, rfl, e6⟩⟩
    · intro us H2 hl hrel s2 hD
      obtain ⟨qs, N1, S1⟩ := nums_of hrel
      have ow2 := ow.same s2
      have fD : H D = none := ow.since.free nD
      have nDl : D ∉ ls := fun z => by
        obtain ⟨j, hj⟩ := List.getElem?_of_mem z
        have hj' : j < ls.length := (List.getElem?_eq_some_iff.mp hj).1
        have := w3 j D (vss[j]'(by omega)) hj (List.getElem?_eq_getElem (by omega))
        rw [nD] at this
        cases this
      have nDr : D ≠ r := fun z => by rw [z, w1] at nD; cases nD
      refine ⟨r, _, _, rfl, rfl, s2 _ _ w1, by rw [List.length_map]; exact Nat.lt_of_le_of_lt (show ls.length ≤ 100 by omega) (by decide), ?_⟩
      refine ⟨_, ls ++ [D], vss ++ [us], qss ++ [qs], rfl, ow2.snoc hD nDl nDr fD N1, by simp [lq], fun qs' h' => ?_⟩
      rcases List.mem_append.mp h' with z | z
      · exact sh qs' z
      · rw [List.mem_singleton.mp z]
        exact ⟨by have := N1.1; omega, S1⟩
  · rintro σ H' ⟨o, ls, vss, qss, rfl, ow, lq, sh⟩
    exact ⟨_, rfl, q r ls vss qss H' ow (by omega) sh⟩
theorem nums_PI {H : Hp} {R : Nat → Int × Int → Prop} : ∀ {ys : List V}, (∀ (i : Nat) (v : V), ys[i]? = some v → ∃ q, R i q ∧ Nm H v q) → ∃ qs, Nms H ys qs ∧ ∀ (i : Nat) (q : Int × Int), qs[i]? = some q → R i q := by
  intro ys h
  induction ys generalizing R with
  | nil => exact ⟨[], ⟨rfl, fun i u q e => by simp at e⟩, fun i q e => by simp at e⟩
  | cons y ys ih =>
    obtain ⟨q, s, n⟩ := h 0 y rfl
    obtain ⟨qs, ⟨l, ns⟩, ss⟩ := ih (R := fun i => R (i + 1)) (fun i v e => h (i + 1) v (by simpa using e))
    refine ⟨q :: qs, ⟨by simp [l], fun i u q' e1 e2 => ?_⟩, fun i q' e => ?_⟩
    · cases i with
      | zero =>
        cases e1
        cases e2
        exact n
      | succ i => exact ns i u q' (by simpa using e1) (by simpa using e2)
    · cases i with
      | zero =>
        cases e
        exact s
      | succ i => exact ss i q' (by simpa using e)
theorem Nms.toK {H : Hp} {us : List V} {qs : List (Int × Int)} (h : Nms H us qs) : NmsK K H us qs := ⟨h.1, fun i u q e1 e2 => by
  obtain ⟨p, e, k⟩ := h.2 i u q e1 e2
  exact ⟨p, e, SqT.of k⟩⟩
theorem pickZ {x y v : Int} : ∃ z : Int, atI [V.int x, V.int y] (v.fmod 2) = some (.int z) := by
  have m := fmod_in (x := v) (m := 2) (by decide)
  rcases (show v.fmod 2 = 0 ∨ v.fmod 2 = 1 by omega) with e | e
  · exact ⟨x, by rw [e]; rfl⟩
  · exact ⟨y, by rw [e]; rfl⟩
theorem Shape.at {T B m : Nat} {qss : List (List (Int × Int))} (h : Shape T B m qss) {i : Nat} (hi : i < qss.length) : (qss.getD i []).length = m ∧ ∀ q ∈ qss.getD i [], Sm T B q := by
  rw [List.getD_eq_getElem?_getD, List.getElem?_eq_getElem hi]
  exact h _ (List.getElem_mem _)
theorem dotQ_sum : ∀ {xs ys : List (Int × Int)}, xs.length = ys.length → dotQ xs ys = Ty.sumTo xs.length (fun t => qf xs t * qf ys t)
  | [], ys, _ => by rw [dotQ_nil]; rfl
  | x :: xs, [], h => by simp at h
  | x :: xs, y :: ys, h => by
    rw [dotQ_cons, dotQ_sum (xs := xs) (ys := ys) (by simpa using h)]
    rfl
theorem dotQ_sumN {xs ys : List (Int × Int)} {n : Nat} (h1 : xs.length = n) (h2 : ys.length = n) : dotQ xs ys = Ty.sumTo n (fun t => qf xs t * qf ys t) := by
  rw [dotQ_sum (by rw [h1, h2]), h1]
theorem le_cross {t b u c : Int} (hb : 0 < b) (hc : 0 < c) (h : (t : Rat) / b ≤ (u : Rat) / c) : t * c ≤ u * b := by
  have b1 : (0 : Rat) < (b : Rat) := by exact_mod_cast hb
  have c1 : (0 : Rat) < (c : Rat) := by exact_mod_cast hc
  have e1 : (t : Rat) / b * (b * c) = t * c := by
    have := Rat.mul_inv_cancel _ (show (b : Rat) ≠ 0 by grind)
    rw [Rat.div_def]
    grind
  have e2 : (u : Rat) / c * (b * c) = u * b := by
    have := Rat.mul_inv_cancel _ (show (c : Rat) ≠ 0 by grind)
    rw [Rat.div_def]
    grind
  have p := Rat.mul_nonneg (show 0 ≤ (u : Rat) / c - (t : Rat) / b by grind) (Rat.le_of_lt (Rat.mul_pos b1 c1))
  have : (t : Rat) * c ≤ u * b := by
    rw [← e1, ← e2]
    grind
  exact_mod_cast this
theorem Nm.k {H : Hp} {v : V} {q : Int × Int} (h : Nm H v q) : NmK K H v q := by
  obtain ⟨p, e, k⟩ := h
  exact ⟨p, e, SqT.of k⟩
def spUnder (K : PySem.W.Frag) : Sp := fun vs H Q _ => ∃ (a b : Addr) (v : V) (qs rs : List (Int × Int)) (d : Int × Int) (T B T' B' M : Nat), vs = [.ref a, .ref b, v] ∧ RowK K H a qs ∧ RowK K H b rs ∧ rs.length = qs.length ∧ qs.length ≤ 1000 ∧ (∀ q ∈ qs, Sm T B q) ∧ (∀ q ∈ rs, Sm T' B' q) ∧
  T + T' ≤ M ∧ B + B' ≤ M ∧ M ≤ 10000000 ∧ (M + 1) * qs.length ≤ 120000000 ∧ NmK K H v d ∧ 0 < d.2 ∧ dotQ qs rs ≤ vl d ∧ d.1.natAbs ≤ 2 ^ 1000000 ∧ d.2.natAbs ≤ 2 ^ 1000000 ∧ ∀ H', Same H H' → Q (.bl true) H'
theorem sc_law_under : FnScope ["_law_row", "_law_xs", "_law_due", "_law_top", "_law_bottom"] ["_law_row", "_law_xs", "_law_due"] (defScope s_law_under) := ⟨rfl, rfl, rfl, by decide +kernel, rfl, by decide +kernel, by decide +kernel⟩
theorem ok_law_under (D : Def K mg "_law_under" s_law_under ["_law_row", "_law_xs", "_law_due"]) (G_law_total : Fn P w K mg base (CXr P w) 1 "_law_total" ["_law_row", "_law_xs"] (spTotal K)) : Fn P w K mg base (CXr P w) 2 "_law_under" ["_law_row", "_law_xs", "_law_due"] (spUnder K) := by
  refine D.ok sc_law_under (fun vs H Q E h => ?_) (fun f cdv A outer s H vs Q E hr h => ?_)
  · obtain ⟨a, b, v, qs, rs, d, T, B, T', B', M, rfl, _⟩ := h
    rfl
  obtain ⟨a, b, v, qs, rs, d, T, B, T', B', M, rfl, ra, rb, hl, hn, sq, sr, hG, hG2, hG3, hGn, ⟨p, rfl, hp⟩, dp, ev, z1, z2, q⟩ := h
  have px := passM (X := (cxOf (CXr P w) P w K mg base ["_law_row", "_law_xs", "_law_due", "_law_top", "_law_bottom"] "_law_under" (defScope s_law_under) f cdv A outer s H E)) (CXr.mute (P := P) (w := w))
  have mle : M * qs.length ≤ (M + 1) * qs.length := Nat.mul_le_mul_right _ (by omega)
  refine ⟨_, (pss_cons (ps_asg (pe_fn G_law_total (hr.mono (by decide)) px (pac (pv 0) (pac (pv 1) pa_nil))) (pg_tup rfl (pgs_cons (pg_name (i := 3) sc_law_under.nd rfl (Or.inl rfl)) (pgs_cons (pg_name (i := 4) sc_law_under.nd rfl (Or.inl rfl)) pgs_nil))))
    (pss_one (ps_ret (pe_cmpR op_le (pe_op op_mulZ (pv 3) (pe_ix ix_tup (pv 2) pe_int (fun _ _ => rfl))) (pe_op op_mulZ (pe_ix ix_tup (pv 2) pe_int (fun _ _ => rfl)) (pv 4)) (nomark _))))), ?_⟩
  refine ⟨_, rfl, _, rfl, a, b, qs, rs, T, B, T', B', M, M, rfl, ra, rb, hl, hn, sq, sr, hG, hG2, Nat.le_refl _, hG3, hGn, fun t b0 hb st sb et p1 H1 s1 e1 => ?_⟩
  have g := Ty.Same.seqT s1 hp
  refine ⟨p1, _, rfl, SqT.of e1, rfl, _, _, rfl, _, _, rfl, rfl, ?_⟩
  refine ⟨_, rfl, _, rfl, p, _, _, _, rfl, rfl, g, at1, _, _, rfl, rfl, pw_cmulS st z2 (by omega), ?_⟩
  refine ⟨_, rfl, p, _, _, _, rfl, rfl, g, at0, _, rfl, _, _, rfl, rfl, pw_cmulS z1 sb (by omega), _, _, rfl, rfl, ?_⟩
  have e : t * d.2 ≤ d.1 * b0 := le_cross hb dp (by rw [et]; exact ev)
  show Q (.bl (decide (t * d.2 ≤ d.1 * b0))) H1
  rw [decide_eq_true e]
  exact q _ s1
def RwK (K : PySem.W.Frag) (H : Hp) (rs : List V) (qss : List (List (Int × Int))) : Prop := rs.length = qss.length ∧ ∀ i, i < qss.length → ∃ p, rs[i]? = some (.ref p) ∧ RowK K H p (qss.getD i [])
theorem RwK.same {H H' : Hp} {rs : List V} {qss : List (List (Int × Int))} (h : RwK K H rs qss) (s : Same H H') : RwK K H' rs qss := ⟨h.1, fun i hi => by
  obtain ⟨p, e1, e2⟩ := h.2 i hi
  exact ⟨p, e1, e2.same s⟩⟩
theorem RwL.k {H : Hp} {rs : List V} {qss : List (List (Int × Int))} (h : RwL H rs qss) : RwK K H rs qss := ⟨h.1, fun i hi => by
  obtain ⟨p, us, e1, e2, e3⟩ := h.2 i hi
  exact ⟨p, e1, us, SqL.of e2, Nms.toK e3⟩⟩
def spFits (K : PySem.W.Frag) : Sp := fun vs H Q _ => ∃ (x r l : Addr) (rs ls : List V) (xq lims : List (Int × Int)) (qss : List (List (Int × Int))), vs = [.ref x, .ref r, .ref l] ∧ RowK K H x xq ∧ SqL K H r rs ∧ RwK K H rs qss ∧ SqL K H l ls ∧ NmsK K H ls lims ∧ lims.length = qss.length ∧ qss.length ≤ 100 ∧ xq.length ≤ 100 ∧ (∀ q ∈ xq, Sm 3000 3000 q ∧ 0 ≤ q.1) ∧ (∀ q ∈ lims, Sm 31 7 q) ∧
  (∀ i, i < qss.length → (qss.getD i []).length = xq.length ∧ (∀ q ∈ qss.getD i [], Sm 31 7 q) ∧ dotQ (qss.getD i []) xq ≤ vl (lims.getD i (0, 1))) ∧ ∀ H', Same H H' → Q (.bl true) H'
theorem sc_law_fits : FnScope ["_law_xs", "_law_rows_here", "_law_limits"] ["_law_xs", "_law_rows_here", "_law_limits"] (defScope s_law_fits) := ⟨rfl, rfl, rfl, by decide +kernel, rfl, by decide +kernel, by decide +kernel⟩
theorem ok_law_fits (D : Def K mg "_law_fits" s_law_fits ["_law_xs", "_law_rows_here", "_law_limits"]) (m_all : mg "all" = none) (m_range : mg "range" = none) (m_len : mg "len" = none) (G_law_under : Fn P w K mg base (CXr P w) 2 "_law_under" ["_law_row", "_law_xs", "_law_due"] (spUnder K)) : Fn P w K mg base (CXr P w) 3 "_law_fits" ["_law_xs", "_law_rows_here", "_law_limits"] (spFits K) := by
  refine D.ok sc_law_fits (fun vs H Q E h => ?_) (fun f cdv A outer s H vs Q E hr h => ?_)
  · obtain ⟨x, r, l, rs, ls, xq, lims, qss, rfl, _⟩ := h
    rfl
  obtain ⟨x, r, l, rs, ls, xq, lims, qss, rfl, ⟨us, hx, hN⟩, hr', hR, hl, hL, hll, hn, hxn, sx, sl, fit, q⟩ := h
  have px := passM (X := (cxOf (CXr P w) P w K mg base ["_law_xs", "_law_rows_here", "_law_limits"] "_law_fits" (defScope s_law_fits) f cdv A outer s H E)) (CXr.mute (P := P) (w := w))
  have hlu := hN.1
  refine ⟨_, (pss_cons (ps_if (pt_not (pt_val (pe_callB (call_allB rfl) rfl m_all b_all (pac (pe_comp (tn := ["_law_one"]) (fr := []) (caps := []) rfl ⟨rfl, by decide +kernel, rfl, by decide +kernel, by decide +kernel, rfl, trivial, trivial⟩ (pi_list (pv 0)) (fun _ _ _ _ => (pg_name (i := 0) (show (["_law_one"] : List Str).Nodup from by decide +kernel) rfl (Or.inl rfl))) (fun _ _ _ _ => pf_nil) (fun _ _ _ _ => (pe_cmpR op_ge (pe_ix (ix_tupK (K := K) rfl) (pv 0) pe_int (fun _ _ => rfl)) pe_int (nomark _)))) pa_nil)))) (pss_one (ps_ret pe_bl)) pss_nil)
    (pss_one (ps_ret (pe_callB (call_allB rfl) rfl m_all b_all (pac (pe_comp (tn := ["_law_i"]) (fr := ["_law_xs", "_law_rows_here", "_law_limits"]) (caps := [0, 1, 2]) rfl ⟨rfl, by decide +kernel, rfl, by decide +kernel, by decide +kernel, rfl, ⟨(by first | exact Or.inl rfl | exact Or.inr rfl), ⟨(by first | exact Or.inl rfl | exact Or.inr rfl), ⟨(by first | exact Or.inl rfl | exact Or.inr rfl), trivial⟩⟩⟩, ⟨(by first | exact Or.inl rfl | exact Or.inr rfl), ⟨(by first | exact Or.inl rfl | exact Or.inr rfl), ⟨(by first | exact Or.inl rfl | exact Or.inr rfl), trivial⟩⟩⟩⟩ (pi_range1 rfl m_range (pac (pe_callB call_len_seq rfl m_len b_len (pac (pv 1) pa_nil)) pa_nil)) (fun _ _ _ _ => (pg_name (i := 0) (show (["_law_i", "_law_xs", "_law_rows_here", "_law_limits"] : List Str).Nodup from by decide +kernel) rfl (Or.inl rfl))) (fun _ _ _ _ => pf_nil) (fun _ _ _ _ => (pe_fn G_law_under (hr.mono (by decide)) (passB (by first | assumption | exact CXr.mute) rfl) (pac (pe_ix (ix_listK (K := K) rfl) (pv 2) (pv 0) (fun _ _ => rfl)) (pac (pv 1) (pac (pe_ix (ix_listK (K := K) rfl) (pv 3) (pv 0) (fun _ _ => rfl)) pa_nil)))))) pa_nil))))), ?_⟩
  refine ⟨_, rfl, x, rfl, ⟨_, hx⟩, fun D1 n1 => ?_⟩
  refine comp_list (cap := []) (K := K) (a := x) (xs := us) (fun _ v _ => v = .bl true) n1 (by rw [hlu]; exact Nat.lt_of_le_of_lt hxn (by decide)) (fun H2 s2 => s2.seq hx) (fun _ _ _ _ _ _ _ h => h) ?_ ?_
  · intro i u H2 R hu s2 k
    obtain ⟨n, en, nn⟩ := hN.at hu
    obtain ⟨p, rfl, hp⟩ := nn.same s2
    have n0 := (sx n (List.mem_of_getElem? en)).2
    refine ⟨_, rfl, p, _, _, _, rfl, rfl, hp, at0, _, _, rfl, rfl, k _ _ (Same.refl _) ?_⟩
    show V.bl (decide (n.1 ≥ 0)) = .bl true
    rw [decide_eq_true n0]
  intro ys H2 hy hrel s2 hD
  obtain ⟨bs, eb, ea⟩ := trues_of hrel
  refine ⟨D1, bs, rfl, by rw [← eb]; exact SqL.of hD, ?_⟩
  rw [ea]
  refine ⟨_, rfl, ite2 (fun c => nomatch c) (fun _ => ?_)⟩
  refine ⟨_, rfl, r, _, rfl, .inl (s2.seq hr'), ?_⟩
  rw [hR.1]
  refine ⟨_, rfl, by omega, by omega, fun D3 n3 => ?_⟩
  refine comp_range (lo := 0) (n := ((qss.length : Nat) : Int).toNat) (cap := [some (.ref x), some (.ref r), some (.ref l)]) (fun _ v _ => v = .bl true) n3 (Nat.lt_of_le_of_lt (show ((qss.length : Nat) : Int).toNat ≤ 100 by omega) (by decide)) (fun _ _ _ _ _ _ _ h => h) ?_ ?_
  · intro i H3 R hi s3 k
    have hi' : i < qss.length := by omega
    have s23 := s2.trans s3
    obtain ⟨p, e1, e2⟩ := (hR.same s23).2 i hi'
    obtain ⟨f1, f2, f3⟩ := fit i hi'
    have el : lims[i]? = some (lims[i]'(by omega)) := List.getElem?_eq_getElem (by omega)
    obtain ⟨u, eu, nu⟩ := (hL.same s23).at' el
    have sl' := sl _ (List.mem_of_getElem? el)
    have eg : lims.getD i (0, 1) = lims[i]'(by omega) := by rw [List.getD_eq_getElem?_getD, el]; rfl
    rw [eg] at f3
    refine ⟨_, rfl, _, rfl, r, _, _, _, rfl, rfl, s23.seq hr', (by rw [Int.zero_add]; exact atI_nat e1), _, rfl, _, rfl, _, rfl, l, _, _, _, rfl, rfl, s23.seq hl, (by rw [Int.zero_add]; exact atI_nat eu), ?_⟩
    refine ⟨p, x, u, qss.getD i [], xq, _, 31, 7, 3000, 3000, 3100, rfl, e2, ⟨us, s23.seq hx, hN.same s23⟩, f1.symm, by omega, f2, fun q hq => (sx q hq).1, by decide, by decide, by decide, ?_, nu, sl'.pos, f3, pw_up sl'.top (by decide), pw_up sl'.bot (by decide), fun H4 s4 => k _ _ s4 rfl⟩
    rw [f1]
    omega
  intro zs H3 hz hrel3 s3 hD3
  obtain ⟨bs3, eb3, ea3⟩ := trues_of hrel3
  refine ⟨D3, bs3, rfl, by rw [← eb3]; exact SqL.of hD3, ?_⟩
  rw [ea3]
  exact q _ (s2.trans s3)
def TldK (K : PySem.W.Frag) (H : Hp) (gs : List (Int × Int)) (qss : List (List (Int × Int))) (lims : List (Int × Int)) (B : Nat) (v : V) : Prop :=
  (∃ (p lx lp : Addr) (uw : V) (xs ps : List V) (w : Int × Int) (xq yq : List (Int × Int)), v = .ref p ∧ H p = some (.tup [.str "most", uw, .ref lx, .ref lp]) ∧ NmK K H uw w ∧ H lx = some (.lst xs) ∧ NmsK K H xs xq ∧ H lp = some (.lst ps) ∧ NmsK K H ps yq ∧ OptQ gs qss lims B w xq yq) ∨
  (∃ (p lx : Addr) (xs : List V) (xq : List (Int × Int)), v = .ref p ∧ H p = some (.tup [.str "endless", .ref lx]) ∧ H lx = some (.lst xs) ∧ NmsK K H xs xq ∧ EndQ gs qss B xq)
theorem Told.k {H0 H : Hp} {gs : List (Int × Int)} {qss : List (List (Int × Int))} {lims : List (Int × Int)} {B : Nat} {v : V} (h : Told K H0 H gs qss lims B v) : TldK K H gs qss lims B v := by
  rcases h with ⟨p, lx, lp, uw, xs, ps, w, xq, yq, h1, h2, h3, h4, h5, h6, h7, _, _, _, h8⟩ | ⟨p, lx, xs, xq, h1, h2, h3, h4, _, h5⟩
  · exact .inl ⟨p, lx, lp, uw, xs, ps, w, xq, yq, h1, h2, h3.k, h4, h5, h6, h7, h8⟩
  · exact .inr ⟨p, lx, xs, xq, h1, h2, h3, h4, h5⟩
theorem nn_of {qs : List (Int × Int)} {n : Nat} (hl : qs.length = n) (h : ∀ t, t < n → 0 ≤ qf qs t) (hp : ∀ q ∈ qs, 0 < q.2) : ∀ q ∈ qs, 0 ≤ q.1 := fun q hq => by
  obtain ⟨i, e⟩ := List.getElem?_of_mem hq
  have hi : i < n := by
    have := (List.getElem?_eq_some_iff.mp e).1
    omega
  have h0 := h i hi
  have eq : qf qs i = vl q := by
    unfold qf
    rw [List.getD_eq_getElem?_getD, e]
    rfl
  rw [eq] at h0
  have hp' := hp q hq
  have := le_cross (t := 0) (b := 1) (u := q.1) (c := q.2) (by decide) hp' (by
    have : ((0 : Int) : Rat) / ((1 : Int) : Rat) = 0 := vl_nought
    rw [this]
    exact h0)
  omega
def aQ (qss : List (List (Int × Int))) (i j : Nat) : Int × Int := (qss.getD i []).getD j (0, 1)
def colL (qss : List (List (Int × Int))) (j : Nat) : List (Int × Int) := qss.map fun qs => qs.getD j (0, 1)
theorem qf_col {qss : List (List (Int × Int))} {i j : Nat} (hi : i < qss.length) : qf (colL qss j) i = aF qss i j := by
  unfold qf colL aF qf
  rw [List.getD_eq_getElem?_getD, List.getElem?_map, List.getElem?_eq_getElem hi, List.getD_eq_getElem?_getD (l := qss), List.getElem?_eq_getElem hi]
  rfl
def spRight71 (K : PySem.W.Frag) : Sp := fun vs H Q _ => ∃ (v : V) (g r l : Addr) (rs ls : List V) (gs lims : List (Int × Int)) (qss : List (List (Int × Int))) (B : Nat), vs = [v, .ref g, .ref r, .ref l] ∧ RowK K H g gs ∧ SqL K H r rs ∧ RwK K H rs qss ∧ SqL K H l ls ∧ NmsK K H ls lims ∧ lims.length = qss.length ∧ qss.length ≤ 50 ∧ gs.length ≤ 50 ∧ (∀ q ∈ gs, Sm 31 7 q) ∧ (∀ q ∈ lims, Sm 31 7 q) ∧
  (∀ i, i < qss.length → (qss.getD i []).length = gs.length ∧ ∀ q ∈ qss.getD i [], Sm 31 7 q) ∧ B ≤ 3000 ∧ TldK K H gs qss lims B v ∧ ∀ H', Same H H' → Q (.bl true) H'
theorem sc_law_right : FnScope ["_law_found", "_law_gains", "_law_rows_here", "_law_limits", "_law_many", "_law_word", "_law_worth", "_law_xs", "_law_prices", "_law_j", "_law_top", "_law_bottom"] ["_law_found", "_law_gains", "_law_rows_here", "_law_limits"] (defScope s_law_right) := ⟨rfl, rfl, rfl, by decide +kernel, rfl, by decide +kernel, by decide +kernel⟩
theorem ok_law_right (D : Def K mg "_law_right" s_law_right ["_law_found", "_law_gains", "_law_rows_here", "_law_limits"]) (m_isinstance : mg "isinstance" = none) (m_tuple : mg "tuple" = none) (m_len : mg "len" = none) (m_all : mg "all" = none) (m_range : mg "range" = none) (G_law_numbers : Fn P w K mg base (CXr P w) 35 "_law_numbers" ["_law_found", "_law_many"] (spNumbers K)) (G_law_fits : Fn P w K mg base (CXr P w) 3 "_law_fits" ["_law_xs", "_law_rows_here", "_law_limits"] (spFits K))
    (G_law_comes : Fn P w K mg base (CXr P w) 2 "_law_comes" ["_law_row", "_law_xs", "_law_due"] (spComes K)) (G_law_is_number : Fn P w K mg base (CXr P w) 34 "_law_is_number" ["_law_found"] (spIsNum K)) (G_law_total : Fn P w K mg base (CXr P w) 1 "_law_total" ["_law_row", "_law_xs"] (spTotal K)) : Fn P w K mg base (CXr P w) 36 "_law_right" ["_law_found", "_law_gains", "_law_rows_here", "_law_limits"] (spRight71 K) := by
  refine D.ok sc_law_right (fun vs H Q E h => ?_) (fun f cdv A outer s H vs Q E hr h => ?_)
  · obtain ⟨v, g, r, l, rs, ls, gs, lims, qss, B, rfl, _⟩ := h
    rfl
  obtain ⟨v, g, r, l, rs, ls, gs, lims, qss, B, rfl, ⟨gu, hg, hgN⟩, hr', hR, hl, hL, hll, hn, hc, sg, sl, sr, hB, told, q⟩ := h
  have px := passM (X := (cxOf (CXr P w) P w K mg base ["_law_found", "_law_gains", "_law_rows_here", "_law_limits", "_law_many", "_law_word", "_law_worth", "_law_xs", "_law_prices", "_law_j", "_law_top", "_law_bottom"] "_law_right" (defScope s_law_right) f cdv A outer s H E)) (CXr.mute (P := P) (w := w))
  refine ⟨_, (pss_cons (ps_if (PW.pt (pw_or (pt_not (pt_val (pe_callB call_isiT rfl m_isinstance b_isinstance (pac (pv 0) (pac (pe_ty rfl m_tuple b_tuple) pa_nil))))) (pw_or1 (pt_cmpR op_notIn_seq (pe_callB call_len_seq rfl m_len b_len (pac (pv 0) pa_nil)) (pe_lst (pac pe_int (pac pe_int pa_nil))) rfl)))) (pss_one (ps_ret pe_bl)) pss_nil)
    (pss_cons (ps_set (i := 4) sc_law_right.nd rfl (Or.inl rfl) (pe_callB call_len_seq rfl m_len b_len (pac (pv 1) pa_nil)))
    (pss_cons (ps_if (pt_cmpR op_eq (pe_callB call_len_seq rfl m_len b_len (pac (pv 0) pa_nil)) pe_int (nomark _)) (pss_cons (ps_if (PW.pt (pw_or (pt_cmpR op_ne (pe_ix ix_tup (pv 0) pe_int (fun _ _ => rfl)) pe_str (nomark _)) (pw_or1 (pt_not (pt_val (pe_fn G_law_numbers (hr.mono (by decide)) px (pac (pe_ix ix_tup (pv 0) pe_int (fun _ _ => rfl)) (pac (pv 4) pa_nil)))))))) (pss_one (ps_ret pe_bl)) pss_nil)
      (pss_one (ps_ret (pe_and (pe_fn G_law_fits (hr.mono (by decide)) px (pac (pe_ix ix_tup (pv 0) pe_int (fun _ _ => rfl)) (pac (pv 2) (pac (pe_comp (tn := ["_law_row"]) (fr := []) (caps := []) rfl ⟨rfl, by decide +kernel, rfl, by decide +kernel, by decide +kernel, rfl, trivial, trivial⟩ (pi_list (pv 2)) (fun _ _ _ _ => (pg_name (i := 0) (show (["_law_row"] : List Str).Nodup from by decide +kernel) rfl (Or.inl rfl))) (fun _ _ _ _ => pf_nil) (fun _ _ _ _ => (pe_tup (pac pe_int (pac pe_int pa_nil))))) pa_nil)))) (pe_one (pe_fn G_law_comes (hr.mono (by decide)) px (pac (pv 1) (pac (pe_ix ix_tup (pv 0) pe_int (fun _ _ => rfl)) (pac (pe_tup (pac pe_int (pac pe_int pa_nil))) pa_nil))))))))) pss_nil)
    (pss_cons (ps_asg (pv 0) (pg_tup rfl (pgs_cons (pg_name (i := 5) sc_law_right.nd rfl (Or.inl rfl)) (pgs_cons (pg_name (i := 6) sc_law_right.nd rfl (Or.inl rfl)) (pgs_cons (pg_name (i := 7) sc_law_right.nd rfl (Or.inl rfl)) (pgs_cons (pg_name (i := 8) sc_law_right.nd rfl (Or.inl rfl)) pgs_nil))))))
    (pss_cons (ps_if (PW.pt (pw_or (pt_cmpR op_ne (pv 5) pe_str (nomark _)) (pw_or (pt_not (pt_val (pe_fn G_law_is_number (hr.mono (by decide)) px (pac (pv 6) pa_nil)))) (pw_or1 (pt_not (pt_val (pe_fn G_law_numbers (hr.mono (by decide)) px (pac (pv 7) (pac (pv 4) pa_nil))))))))) (pss_one (ps_ret pe_bl)) pss_nil)
    (pss_cons (ps_if (PW.pt (pw_or (pt_not (pt_val (pe_fn G_law_fits (hr.mono (by decide)) px (pac (pv 7) (pac (pv 2) (pac (pv 3) pa_nil)))))) (pw_or1 (pt_not (pt_val (pe_fn G_law_comes (hr.mono (by decide)) px (pac (pv 1) (pac (pv 7) (pac (pv 6) pa_nil))))))))) (pss_one (ps_ret pe_bl)) pss_nil)
    (pss_cons (ps_if (PW.pt (pw_or (pt_not (pt_val (pe_fn G_law_numbers (hr.mono (by decide)) px (pac (pv 8) (pac (pe_callB call_len_seq rfl m_len b_len (pac (pv 2) pa_nil)) pa_nil))))) (pw_or1 (pt_not (pt_val (pe_callB (call_allB rfl) rfl m_all b_all (pac (pe_comp (tn := ["_law_one"]) (fr := []) (caps := []) rfl ⟨rfl, by decide +kernel, rfl, by decide +kernel, by decide +kernel, rfl, trivial, trivial⟩ (pi_list (pv 8)) (fun _ _ _ _ => (pg_name (i := 0) (show (["_law_one"] : List Str).Nodup from by decide +kernel) rfl (Or.inl rfl))) (fun _ _ _ _ => pf_nil) (fun _ _ _ _ => (pe_cmpR op_ge (pe_ix (ix_tupK (K := K) rfl) (pv 0) pe_int (fun _ _ => rfl)) pe_int (nomark _)))) pa_nil))))))) (pss_one (ps_ret pe_bl)) pss_nil)
    (pss_cons (ps_for PassesOwn.never rfl (pi_range1 rfl m_range (pac (pv 4) pa_nil)) (pg_name (i := 9) sc_law_right.nd rfl (Or.inr rfl)) (pss_cons (ps_asg (pe_fn G_law_total (hr.mono (by decide)) px (pac (pv 8) (pac (pe_comp (tn := ["_law_row"]) (fr := ["_law_j"]) (caps := [9]) rfl ⟨rfl, by decide +kernel, rfl, by decide +kernel, by decide +kernel, rfl, ⟨(by first | exact Or.inl rfl | exact Or.inr rfl), trivial⟩, ⟨(by first | exact Or.inl rfl | exact Or.inr rfl), trivial⟩⟩ (pi_list (pv 2)) (fun _ _ _ _ => (pg_name (i := 0) (show (["_law_row", "_law_j"] : List Str).Nodup from by decide +kernel) rfl (Or.inl rfl))) (fun _ _ _ _ => pf_nil) (fun _ _ _ _ => (pe_ix (ix_listK (K := K) rfl) (pv 0) (pv 1) (fun _ _ => rfl)))) pa_nil))) (pg_tup rfl (pgs_cons (pg_name (i := 10) sc_law_right.nd rfl (Or.inl rfl)) (pgs_cons (pg_name (i := 11) sc_law_right.nd rfl (Or.inl rfl)) pgs_nil))))
      (pss_one (ps_if (pt_cmpR op_lt (pe_op op_mulZ (pv 10) (pe_ix ix_tup (pe_ix ix_list (pv 1) (pv 9) (fun _ _ => rfl)) pe_int (fun _ _ => rfl))) (pe_op op_mulZ (pe_ix ix_tup (pe_ix ix_list (pv 1) (pv 9) (fun _ _ => rfl)) pe_int (fun _ _ => rfl)) (pv 11)) (nomark _)) (pss_one (ps_ret pe_bl)) pss_nil))))
    (pss_one (ps_ret (pe_fn G_law_comes (hr.mono (by decide)) px (pac (pv 8) (pac (pv 3) (pac (pv 6) pa_nil)))))))))))))), ?_⟩
  have glen := hgN.1
  rcases told with ⟨p, lx, lp, uw, xs, ps, wq, xq, yq, rfl, hp, hw, hx, hxn, hpl, hpn, O⟩ | ⟨p, lx, xs, xq, rfl, hp, hx, hxn, O⟩
  · refine ⟨_, rfl, p, _, rfl, SqT.of hp, _, rfl, ite2 (fun c => nomatch c) (fun _ => ?_)⟩
    refine ⟨_, rfl, p, _, rfl, .inr (SqT.of hp), (by show 2 ≤ sizeLine; decide), fun p2 n2 => ⟨p2, _, rfl, .inl (SqL.of upd_same), rfl, rfl, _, rfl, ite2 (fun c => nomatch c) (fun _ => ?_)⟩⟩
    have s1 := same_new n2 (.lst [.int 2, .int 4])
    generalize upd H p2 (.lst [.int 2, .int 4]) = H1 at *
    refine ⟨_, rfl, g, _, rfl, .inl (s1.seq hg), ?_⟩
    rw [glen]
    refine ⟨_, rfl, p, _, rfl, .inr (SqT.of (s1 _ _ hp)), rfl, _, rfl, ite2 (fun c => absurd c (by simp)) (fun _ => ?_)⟩
    refine ⟨_, rfl, p, _, rfl, SqT.of (s1 _ _ hp), rfl, _, _, rfl, _, _, rfl, _, _, rfl, _, _, rfl, rfl, ?_⟩
    have xnn := nn_of O.xl O.opt.xp (fun q hq => (O.xs q hq).pos)
    have ynn := nn_of O.yl O.opt.yp (fun q hq => (O.ys q hq).pos)
    have xs' : ∀ q ∈ xq, Sm 3000 3000 q := fun q hq => (O.xs q hq).up hB hB
    have ys' : ∀ q ∈ yq, Sm 3000 3000 q := fun q hq => (O.ys q hq).up hB hB
    have wb1 := pw_up O.ws.top (show B ≤ 1000000 by omega)
    have wb2 := pw_up O.ws.bot (show B ≤ 1000000 by omega)
    have xlen := O.xl
    have ylen := O.yl
    refine ⟨_, rfl, rfl, _, rfl, ite2 (fun c => absurd c (by simp)) (fun _ => ?_)⟩
    refine ⟨_, rfl, uw, wq, rfl, hw.same s1, O.ws.pos, O.ws.low, fun H2 s2 => ⟨_, rfl, ite2 (fun c => nomatch c) (fun _ => ?_)⟩⟩
    have s02 := s1.trans s2
    refine ⟨_, rfl, _, rfl, lx, _, xs, xq, rfl, s02 _ _ hx, hxn.same s02, by rw [xlen], by omega, fun q hq => ⟨(O.xs q hq).pos, (O.xs q hq).low⟩, fun H3 s3 => ⟨_, rfl, ite2 (fun c => nomatch c) (fun _ => ?_)⟩⟩
    have s03 := s02.trans s3
    refine ⟨_, rfl, _, rfl, _, rfl, lx, r, l, rs, ls, xq, lims, qss, rfl, ⟨xs, SqL.of (s03 _ _ hx), hxn.same s03⟩, s03.seq hr', hR.same s03, s03.seq hl, hL.same s03, hll, by omega, by omega, fun q hq => ⟨xs' q hq, xnn q hq⟩, sl, fun i hi => ⟨by rw [(sr i hi).1, xlen], (sr i hi).2, ?_⟩, fun H4 s4 => ⟨_, rfl, ite2 (fun c => nomatch c) (fun _ => ?_)⟩⟩
    · rw [dotQ_sumN (n := gs.length) (sr i hi).1 xlen]
      exact O.opt.fit i hi
    have s04 := s03.trans s4
    refine ⟨_, rfl, _, rfl, _, rfl, g, lx, uw, gs, xq, wq, 31, 7, 3000, 3000, 3100, rfl, ⟨gu, s04.seq hg, hgN.same s04⟩, ⟨xs, SqL.of (s04 _ _ hx), hxn.same s04⟩, xlen, by omega, sg, xs', by decide, by decide, by decide, by omega, hw.same s04, O.ws.pos, ?_, wb1, wb2, fun H5 s5 => ⟨_, rfl, ite2 (fun c => nomatch c) (fun _ => ?_)⟩⟩
    · rw [dotQ_sumN (n := gs.length) rfl xlen]
      exact O.opt.wth.symm
    have s05 := s04.trans s5
    refine ⟨_, rfl, _, rfl, r, _, rfl, .inl (s05.seq hr'), ?_⟩
    refine ⟨lp, _, ps, yq, rfl, s05 _ _ hpl, hpn.same s05, by rw [ylen, hR.1], by omega, fun q hq => ⟨(O.ys q hq).pos, (O.ys q hq).low⟩, fun H6 s6 => ⟨_, rfl, ite2 (fun c => nomatch c) (fun _ => ?_)⟩⟩
    have s06 := s05.trans s6
    have pN := hpn.1
    refine ⟨_, rfl, lp, rfl, ⟨_, SqL.of (s06 _ _ hpl)⟩, fun D1 n1 => ?_⟩
    refine comp_list (cap := []) (K := K) (a := lp) (xs := ps) (fun _ v _ => v = .bl true) n1 (by rw [pN]; exact Nat.lt_of_le_of_lt (show yq.length ≤ 100 by omega) (by decide)) (fun H2 s2 => SqL.of (s2 _ _ (s06 _ _ hpl))) (fun _ _ _ _ _ _ _ h => h) ?_ ?_
    · intro i u H7 R hu s7 k
      obtain ⟨n, en, nn⟩ := hpn.at hu
      obtain ⟨p', rfl, hp'⟩ := (nn.same s06).same s7
      have n0 := ynn n (List.mem_of_getElem? en)
      refine ⟨_, rfl, p', _, _, _, rfl, rfl, hp', at0, _, _, rfl, rfl, k _ _ (Same.refl _) ?_⟩
      show V.bl (decide (n.1 ≥ 0)) = .bl true
      rw [decide_eq_true n0]
    intro bvs H7 hbv hrel s7 hD1
    obtain ⟨bs, eb, ea⟩ := trues_of hrel
    refine ⟨D1, bs, rfl, by rw [← eb]; exact SqL.of hD1, ?_⟩
    rw [ea]
    refine ⟨_, rfl, ite2 (fun c => nomatch c) (fun _ => ?_)⟩
    have s07 := s06.trans s7
    refine ⟨_, rfl, _, rfl, by omega, by omega, for_range (lo := 0) (n := ((gs.length : Nat) : Int).toNat) (fun i σ H' => Same H H' ∧ ∃ (o1 o2 o3 : Option V), σ = [some (.ref p), some (.ref g), some (.ref r), some (.ref l), some (.int (gs.length : Int)), some (.str "most"), some uw, some (.ref lx), some (.ref lp), o1, o2, o3]) ⟨s07, none, none, none, rfl⟩ ?_ ?_⟩
    · rintro j σ H' hj ⟨s', o1, o2, o3, rfl⟩
      have hj' : j < gs.length := by omega
      have rl := hR.1
      refine ⟨_, rfl, _, rfl, r, rfl, ⟨_, s'.seq hr'⟩, fun D2 n2 => ?_⟩
      refine comp_list (cap := [some (.int ((0 : Int) + (j : Int)))]) (K := K) (a := r) (xs := rs) (fun i v H2 => NmK K H2 v (aQ qss i j)) n2 (by rw [rl]; exact Nat.lt_of_le_of_lt (show qss.length ≤ 100 by omega) (by decide)) (fun H2 s2 => s2.seq (s'.seq hr')) (fun i v H2 H3 ys e ks h => NmK.ks h e ks) ?_ ?_
      · intro i u H8 R hu s8 k
        have hi : i < qss.length := by
          have := (List.getElem?_eq_some_iff.mp hu).1
          omega
        obtain ⟨pr, e1, us, e2, e3⟩ := ((hR.same s').same s8).2 i hi
        rw [hu] at e1
        cases e1
        have eq : (qss.getD i [])[j]? = some ((qss.getD i [])[j]'(by rw [(sr i hi).1]; exact hj')) := List.getElem?_eq_getElem _
        obtain ⟨u', eu, nu⟩ := e3.at' eq
        refine ⟨_, rfl, _, rfl, pr, _, _, _, rfl, rfl, e2, (by rw [Int.zero_add]; exact atI_nat eu), k _ _ (Same.refl _) ?_⟩
        unfold aQ
        rw [List.getD_eq_getElem?_getD (l := qss.getD i []), eq]
        exact nu
      intro cu H8 hcu hrel8 s8 hD2
      have s08 := s'.trans s8
      have colN : NmsK K H8 cu (colL qss j) := ⟨by rw [hcu, rl]; unfold colL; simp, fun i u q e1 e2 => by
        have h1 := hrel8 i u e1
        have hi : i < qss.length := by
          have := (List.getElem?_eq_some_iff.mp e2).1
          unfold colL at this
          simpa using this
        unfold colL at e2
        rw [List.getElem?_map, List.getElem?_eq_getElem hi] at e2
        cases e2
        unfold aQ at h1
        rw [List.getD_eq_getElem?_getD (l := qss), List.getElem?_eq_getElem hi] at h1
        exact h1⟩
      have cl : (colL qss j).length = qss.length := by unfold colL; simp
      have csm : ∀ q ∈ colL qss j, Sm 31 7 q := fun q hq => by
        unfold colL at hq
        obtain ⟨qs, hqs, rfl⟩ := List.mem_map.mp hq
        obtain ⟨i, e⟩ := List.getElem?_of_mem hqs
        have hi : i < qss.length := (List.getElem?_eq_some_iff.mp e).1
        have e' : qss.getD i [] = qs := by rw [List.getD_eq_getElem?_getD, e]; rfl
        have h1 := sr i hi
        rw [e'] at h1
        rw [List.getD_eq_getElem?_getD, List.getElem?_eq_getElem (by rw [h1.1]; exact hj')]
        exact h1.2 _ (List.getElem_mem _)
      refine ⟨lp, D2, yq, colL qss j, 3000, 3000, 31, 7, 3100, 3100, rfl, ⟨ps, SqL.of (s08 _ _ hpl), hpn.same s08⟩, ⟨cu, SqL.of hD2, colN⟩, by rw [cl, ylen], by omega, ys', csm, by decide, by decide, by decide, by decide, by omega, fun t b0 bp bt bb e p9 H9 s9 e9 => ?_⟩
      have s09 := s08.trans s9
      refine ⟨p9, _, rfl, SqT.of e9, rfl, _, _, rfl, _, _, rfl, rfl, ?_⟩
      have eg : gs[j]? = some gs[j] := List.getElem?_eq_getElem hj'
      obtain ⟨gv, egv, ⟨pgv, rfl, hpgv⟩⟩ := (hgN.same s09).at' eg
      have sgj := sg _ (List.mem_of_getElem? eg)
      have ag : atI gu ((0 : Int) + (j : Int)) = some (.ref pgv) := by rw [Int.zero_add]; exact atI_nat egv
      refine ⟨_, rfl, _, rfl, _, rfl, g, _, _, _, rfl, rfl, s09.seq hg, ag, pgv, _, _, _, rfl, rfl, hpgv, at1, _, _, rfl, rfl, pw_cmulS bt sgj.bot (by omega), ?_⟩
      refine ⟨_, rfl, _, rfl, g, _, _, _, rfl, rfl, s09.seq hg, ag, pgv, _, _, _, rfl, rfl, hpgv, at0, _, rfl, _, _, rfl, rfl, pw_cmulS sgj.top bb (by omega), _, _, rfl, rfl, _, rfl, ?_⟩
      have le : vl gs[j] ≤ (t : Rat) / b0 := by
        rw [e, dotQ_sumN (n := qss.length) ylen cl]
        have h1 := O.opt.prc j hj'
        have e1 : qf gs j = vl gs[j] := by
          unfold qf
          rw [List.getD_eq_getElem?_getD, eg]
          rfl
        rw [e1] at h1
        rw [Px.sumC qss.length (fun t => qf yq t * qf (colL qss j) t) (fun i => qf yq i * aF qss i j) (fun i hi => by rw [qf_col hi])]
        exact h1
      have fin : gs[j].1 * b0 ≤ t * gs[j].2 := le_cross sgj.pos bp le
      refine ite2 (fun c => ?_) (fun _ => ⟨s09, _, _, _, rfl⟩)
      have c' : t * gs[j].2 < gs[j].1 * b0 := of_decide_eq_true c
      omega
    · rintro σ H' ⟨s', o1, o2, o3, rfl⟩
      refine ⟨_, rfl, _, rfl, _, rfl, lp, l, uw, yq, lims, wq, 3000, 3000, 31, 7, 3100, rfl, ⟨ps, SqL.of (s' _ _ hpl), hpn.same s'⟩, ⟨ls, s'.seq hl, hL.same s'⟩, by rw [hll, ylen], by omega, ys', sl, by decide, by decide, by decide, by omega, hw.same s', O.ws.pos, ?_, wb1, wb2, fun H5 s5 => q _ (s'.trans s5)⟩
      rw [dotQ_sumN (n := qss.length) ylen hll]
      exact O.opt.wty.symm
  · refine ⟨_, rfl, p, _, rfl, SqT.of hp, _, rfl, ite2 (fun c => nomatch c) (fun _ => ?_)⟩
    refine ⟨_, rfl, p, _, rfl, .inr (SqT.of hp), (by show 2 ≤ sizeLine; decide), fun p2 n2 => ⟨p2, _, rfl, .inl (SqL.of upd_same), rfl, rfl, _, rfl, ite2 (fun c => nomatch c) (fun _ => ?_)⟩⟩
    have s1 := same_new n2 (.lst [.int 2, .int 4])
    generalize upd H p2 (.lst [.int 2, .int 4]) = H1 at *
    refine ⟨_, rfl, g, _, rfl, .inl (s1.seq hg), ?_⟩
    rw [glen]
    refine ⟨_, rfl, p, _, rfl, .inr (SqT.of (s1 _ _ hp)), rfl, _, rfl, ite2 (fun _ => ?_) (fun c => absurd (by simp) c)⟩
    have xnn := nn_of O.xl O.fin.xp (fun q hq => (O.xs q hq).pos)
    have xs' : ∀ q ∈ xq, Sm 3000 3000 q := fun q hq => (O.xs q hq).up hB hB
    have xlen := O.xl
    refine ⟨_, rfl, p, _, _, _, rfl, rfl, SqT.of (s1 _ _ hp), rfl, rfl, _, rfl, ite2 (fun c => absurd c (by simp)) (fun _ => ?_)⟩
    refine ⟨_, rfl, p, _, _, _, rfl, rfl, SqT.of (s1 _ _ hp), rfl, _, rfl, lx, _, xs, xq, rfl, s1 _ _ hx, hxn.same s1, by rw [xlen], by omega, fun q hq => ⟨(O.xs q hq).pos, (O.xs q hq).low⟩, fun H2 s2 => ⟨_, rfl, ite2 (fun c => nomatch c) (fun _ => ?_)⟩⟩
    have s02 := s1.trans s2
    refine ⟨_, rfl, p, _, _, _, rfl, rfl, SqT.of (s02 _ _ hp), rfl, _, rfl, _, rfl, r, rfl, ⟨_, s02.seq hr'⟩, fun D1 n1 => ?_⟩
    have rl := hR.1
    refine comp_list (cap := []) (K := K) (a := r) (xs := rs) (fun _ v H2 => NmK K H2 v (0, 1)) n1 (by rw [rl]; exact Nat.lt_of_le_of_lt (show qss.length ≤ 100 by omega) (by decide)) (fun H2 s2 => s2.seq (s02.seq hr')) (fun i v H2 H3 ys e ks h => NmK.ks h e ks) ?_ ?_
    · intro i u H3 R hu s3 k
      exact ⟨(by show 2 ≤ sizeLine; decide), fun p3 n3 => k _ _ (same_new n3 _) ⟨p3, rfl, SqT.of upd_same⟩⟩
    intro zs H3 hz hrel s3 hD1
    have s03 := s02.trans s3
    have zN : NmsK K H3 zs (List.replicate qss.length ((0 : Int), (1 : Int))) := ⟨by rw [hz, rl]; simp, fun i u q e1 e2 => by
      rw [List.getElem?_replicate] at e2
      by_cases c : i < qss.length
      · rw [if_pos c] at e2
        cases e2
        exact hrel i u e1
      · rw [if_neg c] at e2
        cases e2⟩
    refine ⟨lx, r, D1, rs, zs, xq, List.replicate qss.length (0, 1), qss, rfl, ⟨xs, SqL.of (s03 _ _ hx), hxn.same s03⟩, s03.seq hr', hR.same s03, SqL.of hD1, zN, by simp, by omega, by omega, fun q hq => ⟨xs' q hq, xnn q hq⟩, fun q hq => ?_, fun i hi => ⟨by rw [(sr i hi).1, xlen], (sr i hi).2, ?_⟩, fun H4 s4 => ⟨_, rfl, ite2 (fun _ => ?_) (fun c => absurd rfl c)⟩⟩
    · rw [List.eq_of_mem_replicate hq]
      exact ⟨by decide, by decide, by decide, by decide⟩
    · have e0 : (List.replicate qss.length ((0 : Int), (1 : Int))).getD i (0, 1) = (0, 1) := by
        rw [List.getD_eq_getElem?_getD, List.getElem?_replicate, if_pos hi]
        rfl
      rw [dotQ_sumN (n := gs.length) (sr i hi).1 xlen, e0, vl_nought]
      exact O.fin.fit i hi
    have s04 := s03.trans s4
    refine ⟨_, rfl, _, rfl, p, _, _, _, rfl, rfl, SqT.of (s04 _ _ hp), rfl, (by show 2 ≤ sizeLine; decide), fun p5 n5 => ?_⟩
    have s05 := s04.trans (same_new n5 (.tup [.int 1, .int 1]))
    refine ⟨g, lx, .ref p5, gs, xq, (1, 1), 31, 7, 3000, 3000, 3100, rfl, ⟨gu, s05.seq hg, hgN.same s05⟩, ⟨xs, SqL.of (s05 _ _ hx), hxn.same s05⟩, xlen, by omega, sg, xs', by decide, by decide, by decide, by omega, ⟨p5, rfl, SqT.of upd_same⟩, by decide, ?_, ?_, ?_, fun H6 s6 => q _ (s05.trans s6)⟩
    · rw [dotQ_sumN (n := gs.length) rfl xlen, O.fin.wth]
      unfold vl
      decide +kernel
    · exact Nat.le_trans (show (1 : Int).natAbs ≤ 2 ^ 0 by decide) (Nat.pow_le_pow_right (by decide) (Nat.zero_le _))
    · exact Nat.le_trans (show (1 : Int).natAbs ≤ 2 ^ 0 by decide) (Nat.pow_le_pow_right (by decide) (Nat.zero_le _))
theorem Own.fresh {H0 H : Hp} {r D : Addr} {ls : List Addr} {vss : List (List V)} {qss : List (List (Int × Int))} (h : Own H0 H r ls vss qss) (nD : H D = none) : D ∉ ls ∧ D ≠ r ∧ H0 D = none := by
  obtain ⟨w1, w2, w3⟩ := h.mat
  refine ⟨fun z => ?_, (fun z => by rw [z, w1] at nD; cases nD), h.since.free nD⟩
  obtain ⟨j, hj⟩ := List.getElem?_of_mem z
  have hj' : j < ls.length := (List.getElem?_eq_some_iff.mp hj).1
  have := w3 j D (vss[j]'(by omega)) hj (List.getElem?_eq_getElem (by omega))
  rw [nD] at this
  cases this
theorem Shape.set {T B m i : Nat} {qss : List (List (Int × Int))} {qs : List (Int × Int)} (h : Shape T B m qss) (hl : qs.length = m) (hq : ∀ q ∈ qs, Sm T B q) : Shape T B m (qss.set i qs) := fun qs' h' => by
  rcases List.mem_or_eq_of_mem_set h' with z | z
  · exact h qs' z
  · rw [z]; exact ⟨hl, hq⟩
theorem Own.other {H0 H : Hp} {r l : Addr} {ls : List Addr} {vss : List (List V)} {qss : List (List (Int × Int))} {us us' : List V} (h : Own H0 H r ls vss qss) (e : H l = some (.lst us)) (n0 : H0 l = none) (nr : l ≠ r) (nl : l ∉ ls) : Own H0 (upd H l (.lst us')) r ls vss qss := by
  obtain ⟨m1, m2, m3⟩ := h.mat
  refine ⟨fun b o e' => ?_, ⟨?_, m2, fun i l' vs e1 e2 => ?_⟩, h.num.tsame (TSame.lst e), h.nd, h.nr, h.fr, h.fl⟩
  · rw [upd_ne (ne_of_none e' n0)]
    exact h.since _ _ e'
  · rw [upd_ne (Ne.symm nr)]
    exact m1
  · rw [upd_ne (fun z => nl (by rw [← z]; exact List.mem_of_getElem? e1))]
    exact m3 i l' vs e1 e2
def spSpoilt : Sp := fun vs H Q _ => ∃ (H0 : Hp) (r l : Addr) (c : Int) (ls : List Addr) (vss : List (List V)) (qss : List (List (Int × Int))) (us : List V) (lims : List (Int × Int)) (m : Nat), vs = [.ref r, .ref l, .int c] ∧ Own H0 H r ls vss qss ∧ Shape 31 7 m qss ∧ m ≤ 50 ∧ qss.length ≤ 50 ∧ H l = some (.lst us) ∧ Nms H us lims ∧ lims.length = qss.length ∧ (∀ q ∈ lims, Sm 31 7 q ∧ 0 ≤ q.1) ∧ H0 l = none ∧ l ≠ r ∧ l ∉ ls ∧
  ∀ (ls' : List Addr) (vss' : List (List V)) (qss' : List (List (Int × Int))) (us' : List V) (lims' : List (Int × Int)) (H' : Hp), (∀ b o, b ≠ r → b ≠ l → H b = some o → H' b = some o) → Own H0 H' r ls' vss' qss' → Shape 31 7 m qss' → qss'.length = qss.length → H' l = some (.lst us') → Nms H' us' lims' → lims'.length = qss'.length → (∀ q ∈ lims', Sm 31 7 q ∧ 0 ≤ q.1) → Q .non H'
theorem sc_law_spoilt : FnScope ["_law_rows_here", "_law_limits", "_law_cell"] ["_law_rows_here", "_law_limits", "_law_cell"] (defScope s_law_spoilt) := ⟨rfl, rfl, rfl, by decide +kernel, rfl, by decide +kernel, by decide +kernel⟩
theorem ok_law_spoilt (D : Def K mg "_law_spoilt" s_law_spoilt ["_law_rows_here", "_law_limits", "_law_cell"]) (m_len : mg "len" = none) (m_list : mg "list" = none) : Fn P w K mg base (CXr P w) 1 "_law_spoilt" ["_law_rows_here", "_law_limits", "_law_cell"] spSpoilt := by
  refine D.ok sc_law_spoilt (fun vs H Q E h => ?_) (fun f cdv A outer s H vs Q E hr h => ?_)
  · obtain ⟨H0, r, l, c, ls, vss, qss, us, lims, m, rfl, _⟩ := h
    rfl
  obtain ⟨H0, r, l, c, ls, vss, qss, us, lims, m, rfl, ow, sh, hm, hn, hl, hN, hll, sl, n0, nr, nl, q⟩ := h
  have tail : ∃ tt, PSs (cxOf (CXr P w) P w K mg base ["_law_rows_here", "_law_limits", "_law_cell"] "_law_spoilt" (defScope s_law_spoilt) f cdv A outer s H E).nox ((defBody s_law_spoilt).drop 1) tt ∧ ∀ (ls : List Addr) (vss : List (List V)) (qss' : List (List (Int × Int))) (H1 : Hp), (∀ b o, b ≠ r → b ≠ l → H b = some o → H1 b = some o) → Own H0 H1 r ls vss qss' → Shape 31 7 m qss' → qss'.length = qss.length → H1 l = some (.lst us) → Nms H1 us lims → l ∉ ls → tt { nx := fun _ H' => Q .non H', rt := Q } [some (.ref r), some (.ref l), some (.int c)] H1 := by
    refine ⟨_, (pss_one (ps_if (PW.pt (pw_and (pt_cmpR op_eq (pe_op op_modB (pv 2) pe_int) pe_int (nomark _)) (pw_and1 (pt_cmpR op_gt (pe_callB call_len_seq rfl m_len b_len (pac (pv 0) pa_nil)) pe_int (nomark _))))) (pss_cons (ps_asg (pe_callTy call_listL rfl m_list b_list (pac (pe_ix ix_list (pv 0) (pe_un un_neg pe_int) (fun _ _ => rfl)) pa_nil)) (pg_sub (pv 0) pe_int set_list))
      (pss_one (ps_asg (pe_ix ix_list (pv 1) (pe_un un_neg pe_int) (fun _ _ => rfl)) (pg_sub (pv 1) pe_int set_list)))) pss_nil)), ?_⟩
    intro ls vss qss' H1 k1 ow sh lq hl hN nl
    have lv := ow.num.1
    have lm := ow.mat.2.1
    have no : ∀ {b : Bool}, b = false → (if b = true then False else True) := fun e => by rw [e]; exact trivial
    refine ⟨_, rfl, _, _, rfl, rfl, nz (by decide), rfl, _, rfl, ite2 (fun c1 => ?_) (fun c1 => ?_)⟩
    · refine ⟨_, rfl, r, _, rfl, .inl (SqL.of ow.mat.1), _, _, rfl, rfl, _, rfl, ite2 (fun c2 => ?_) (fun c2 => ?_)⟩
      · have c2' : 1 < ls.length := by
          have := of_decide_eq_true c2
          rw [List.length_map] at this
          omega
        have eq : qss'[qss'.length - 1]? = some (qss'[qss'.length - 1]'(by omega)) := List.getElem?_eq_getElem (by omega)
        obtain ⟨pl, pu, e1, e2, e3, e4⟩ := ow.row eq
        have a1 : atI (ls.map V.ref) (-1) = some (.ref pl) := atI_end (by rw [List.length_map, List.getElem?_map, lm, lv, e1]; rfl)
        refine ⟨_, rfl, _, rfl, r, _, _, _, rfl, rfl, SqL.of ow.mat.1, a1, pl, _, rfl, SqL.of e3, fun p3 n3 => ?_⟩
        obtain ⟨f1, f2, f3⟩ := ow.fresh n3
        have s3 := same_new n3 (.lst pu)
        have ow3 := ow.same s3
        refine ⟨_, rfl, r, _, _, 0, rfl, rfl, ow3.mat.1, by rw [List.length_map]; exact ixN_i (j := 0) (by omega), ?_⟩
        have shl := sh _ (List.mem_of_getElem? eq)
        have ow4 := ow3.set (i := 0) upd_same f1 f2 f3 (e4.same s3)
        have l3 : l ≠ p3 := fun z => by rw [z, n3] at hl; cases hl
        generalize hH4 : upd (upd H1 p3 (.lst pu)) r (.lst ((ls.map V.ref).set 0 (.ref p3))) = H4 at *
        have k4 : ∀ b o, b ≠ r → H1 b = some o → H4 b = some o := fun b o n e => by
          rw [← hH4, upd_ne n]
          exact s3 _ _ e
        have hl4 := k4 _ _ nr hl
        have N4 : Nms H4 us lims := ⟨hN.1, fun i u n e1 e2 => by
          obtain ⟨p, ep, kp⟩ := hN.2 i u n e1 e2
          exact ⟨p, ep, k4 _ _ (fun z => by rw [z, ow.mat.1] at kp; cases kp) kp⟩⟩
        have el : lims[lims.length - 1]? = some (lims[lims.length - 1]'(by omega)) := List.getElem?_eq_getElem (by omega)
        obtain ⟨ul, eul, nul⟩ := N4.at' el
        have a2 : atI us (-1) = some ul := atI_end (by rw [N4.1]; exact eul)
        refine ⟨_, rfl, _, rfl, l, _, _, _, rfl, rfl, SqL.of hl4, a2, ?_⟩
        refine ⟨_, rfl, l, _, _, 0, rfl, rfl, hl4, by rw [N4.1]; exact ixN_i (j := 0) (by omega), ?_⟩
        have nl4 : l ∉ ls.set 0 p3 := fun z => by
          rcases List.mem_or_eq_of_mem_set z with y | y
          · exact nl y
          · exact l3 y
        refine q _ _ _ _ (lims.set 0 (lims[lims.length - 1]'(by omega))) _ (fun b o n1 n2 e => ?_) (ow4.other (us' := us.set 0 ul) hl4 n0 nr nl4) (sh.set (i := 0) shl.1 shl.2) (by rw [List.length_set]; exact lq) upd_same ((N4.set (j := 0) nul).tsame (TSame.lst hl4)) (by rw [List.length_set, List.length_set, lq]; exact hll) (fun q' hq => ?_)
        · rw [upd_ne n2]
          exact k4 _ _ n1 (k1 _ _ n1 n2 e)
        · rcases List.mem_or_eq_of_mem_set hq with y | y
          · exact sl q' y
          · rw [y]
            exact sl _ (List.getElem_mem _)
      · exact q _ _ _ _ _ _ k1 ow sh lq hl hN (by rw [hll, lq]) sl
    · exact iteF (q _ _ _ _ _ _ k1 ow sh lq hl hN (by rw [hll, lq]) sl)
  obtain ⟨tt, p2, q2⟩ := tail
  refine ⟨_, (pss_cons (ps_if (PW.pt (pw_and (pt_cmpR op_eq (pe_op op_modB (pv 2) pe_int) pe_int (nomark _)) (pw_and1 (pt_cmpR op_gt (pe_callB call_len_seq rfl m_len b_len (pac (pv 0) pa_nil)) pe_int (nomark _))))) (pss_one (ps_asg (pe_comp (tn := ["_law_one"]) (fr := []) (caps := []) rfl ⟨rfl, by decide +kernel, rfl, by decide +kernel, by decide +kernel, rfl, trivial, trivial⟩ (pi_list (pe_ix ix_list (pv 0) pe_int (fun _ _ => rfl))) (fun _ _ _ _ => (pg_name (i := 0) (show (["_law_one"] : List Str).Nodup from by decide +kernel) rfl (Or.inl rfl))) (fun _ _ _ _ => pf_nil) (fun _ _ _ _ => (pe_tup (pac pe_int (pac pe_int pa_nil))))) (pg_sub (pv 0) (pe_op op_modB (pe_op op_fdivB (pv 2) pe_int) (pe_callB call_len_seq rfl m_len b_len (pac (pv 0) pa_nil))) set_list))) pss_nil) p2), ?_⟩
  have lv := ow.num.1
  have lm := ow.mat.2.1
  have stay := q2 ls vss qss H (fun _ _ _ _ e => e) ow sh rfl hl hN nl
  refine ⟨_, rfl, _, _, rfl, rfl, nz (by decide), rfl, _, rfl, ite2 (fun c1 => ?_) (fun c1 => iteF stay)⟩
  refine ⟨_, rfl, r, _, rfl, .inl (SqL.of ow.mat.1), _, _, rfl, rfl, _, rfl, ite2 (fun c2 => ?_) (fun c2 => stay)⟩
  have c2' : 0 < ls.length := by
    have := of_decide_eq_true c2
    rw [List.length_map] at this
    omega
  have eq : qss[0]? = some (qss[0]'(by omega)) := List.getElem?_eq_getElem (by omega)
  obtain ⟨pl, pu, e1, e2, e3, e4⟩ := ow.row eq
  have a1 : atI (ls.map V.ref) 0 = some (.ref pl) := atI_nat (j := 0) (by rw [List.getElem?_map, e1]; rfl)
  refine ⟨_, rfl, r, _, _, _, rfl, rfl, SqL.of ow.mat.1, a1, pl, rfl, ⟨_, SqL.of e3⟩, fun D1 n1 => ?_⟩
  have pul : pu.length = m := by rw [e4.1]; exact (sh _ (List.mem_of_getElem? eq)).1
  refine comp_list (cap := []) (K := K) (a := pl) (xs := pu) (fun _ v H2 => Nm H2 v (0, 1)) n1 (by rw [pul]; exact Nat.lt_of_le_of_lt (show m ≤ 100 by omega) (by decide)) (fun H2 s2 => SqL.of (s2 _ _ e3)) (fun i v H2 H3 ys e ks h => h.kept e ks) ?_ ?_
  · intro i u H3 R hu s3 k
    exact ⟨(by show 2 ≤ sizeLine; decide), fun p3 n3 => k _ _ (same_new n3 _) ⟨p3, rfl, upd_same⟩⟩
  intro zs H3 hz hrel s3 hD1
  obtain ⟨f1, f2, f3⟩ := ow.fresh n1
  have ow3 := ow.same s3
  have zN : Nms H3 zs (List.replicate m ((0 : Int), (1 : Int))) := ⟨by rw [hz, pul]; simp, fun i u q e1 e2 => by
    rw [List.getElem?_replicate] at e2
    by_cases c : i < m
    · rw [if_pos c] at e2
      cases e2
      exact hrel i u e1
    · rw [if_neg c] at e2
      cases e2⟩
  refine ⟨_, rfl, _, rfl, _, _, rfl, rfl, ⟨by decide, by decide +kernel⟩, _, rfl, r, _, rfl, .inl (SqL.of ow3.mat.1), ?_⟩
  have mm := fmod_in (x := c.fdiv 4) (m := ((ls.map V.ref).length : Int)) (by rw [List.length_map]; omega)
  obtain ⟨j, ej⟩ := Int.eq_ofNat_of_zero_le mm.1
  refine ⟨_, _, rfl, rfl, nz (by rw [List.length_map]; omega), ?_⟩
  refine ⟨r, _, _, j, rfl, rfl, ow3.mat.1, (by
    have := mm.2
    rw [ej] at this ⊢
    exact ixN_i (by omega)), ?_⟩
  have ow4 := ow3.set (i := j) hD1 f1 f2 f3 zN
  have lD : l ≠ D1 := fun z => by rw [z, n1] at hl; cases hl
  refine q2 (ls.set j D1) _ _ _ (fun b o n1 n2 e => ?_) ow4 (sh.set (i := j) (by simp) (fun q' hq => ?_)) (by rw [List.length_set]) ?_ ((hN.same s3).tsame (TSame.lst ow3.mat.1)) (fun z => ?_)
  · rw [upd_ne n1]
    exact s3 _ _ e
  · rw [List.eq_of_mem_replicate hq]
    exact ⟨by decide, by decide, by decide, by decide⟩
  · rw [upd_ne nr]
    exact s3 _ _ hl
  · rcases List.mem_or_eq_of_mem_set z with y | y
    · exact nl y
    · exact lD y
def dn (q : Int × Int) : Da := .t [.v (.int q.1), .v (.int q.2)]
theorem iss_nums {H : Hp} : ∀ {us : List V} {qs : List (Int × Int)}, Nms H us qs → Iss K H (qs.map dn) us
  | [], [], _ => by unfold List.map Iss; trivial
  | u :: us, q :: qs, h => by
    rw [List.map_cons]
    unfold Iss
    exact ⟨is_num ((h.2 0 u q rfl rfl).k), iss_nums ⟨by simpa using h.1, fun i u' q' e1 e2 => h.2 (i + 1) u' q' (by simpa using e1) (by simpa using e2)⟩⟩
  | [], _ :: _, h => by have := h.1; simp at this
  | _ :: _, [], h => by have := h.1; simp at this
theorem eq_dns : ∀ qs : List (Int × Int), eqDas (qs.map dn) (qs.map dn) = true
  | [] => by simp [eqDas]
  | q :: qs => by
    rw [List.map_cons]
    unfold eqDas
    rw [eq_dns qs, Bool.and_true]
    show eqDa (dn q) (dn q) = true
    unfold dn eqDa
    exact eq_num1 q
theorem al_dns : ∀ qs : List (Int × Int), alikes (qs.map dn) (qs.map dn) = true
  | [] => by simp [alikes]
  | q :: qs => by
    rw [List.map_cons]
    unfold alikes
    rw [al_dns qs, Bool.and_true]
    rfl
theorem dep_dns : ∀ qs : List (Int × Int), deps (qs.map dn) ≤ 1
  | [] => by simp [deps]
  | q :: qs => by
    rw [List.map_cons]
    unfold deps
    exact Nat.max_le.mpr ⟨by unfold dn; simp [dep, deps], dep_dns qs⟩
def dr (qs : List (Int × Int)) : Da := .l (qs.map dn)
theorem iss_rows {H : Hp} : ∀ {ls : List Addr} {vss : List (List V)} {qss : List (List (Int × Int))}, ls.length = vss.length → (∀ (i : Nat) (l : Addr) (vs : List V), ls[i]? = some l → vss[i]? = some vs → H l = some (.lst vs)) → Numss H vss qss → Iss K H (qss.map dr) (ls.map V.ref)
  | [], [], [], _, _, _ => by unfold List.map Iss; trivial
  | l :: ls, vs :: vss, qs :: qss, h1, h2, h3 => by
    rw [List.map_cons, List.map_cons]
    unfold Iss
    refine ⟨?_, iss_rows (vss := vss) (by simpa using h1) (fun i l vs e1 e2 => h2 (i + 1) l vs (by simpa using e1) (by simpa using e2)) ⟨by simpa using h3.1, fun i vs qs e1 e2 => h3.2 (i + 1) vs qs (by simpa using e1) (by simpa using e2)⟩⟩
    unfold dr Is
    exact ⟨l, vs, rfl, SqL.of (h2 0 l vs rfl rfl), iss_nums (h3.2 0 vs qs rfl rfl)⟩
  | [], _ :: _, _, h, _, _ => by simp at h
  | _ :: _, [], _, h, _, _ => by simp at h
  | _, [], _ :: _, _, _, h => by have := h.1; simp at this
  | _, _ :: _, [], _, _, h => by have := h.1; simp at this
theorem eq_drs : ∀ qss : List (List (Int × Int)), eqDas (qss.map dr) (qss.map dr) = true
  | [] => by simp [eqDas]
  | q :: qs => by
    rw [List.map_cons]
    unfold eqDas
    rw [eq_drs qs, Bool.and_true]
    unfold dr eqDa
    exact eq_dns q
theorem al_drs : ∀ qss : List (List (Int × Int)), alikes (qss.map dr) (qss.map dr) = true
  | [] => by simp [alikes]
  | q :: qs => by
    rw [List.map_cons]
    unfold alikes
    rw [al_drs qs, Bool.and_true]
    unfold dr alike
    exact al_dns q
theorem dep_drs : ∀ qss : List (List (Int × Int)), deps (qss.map dr) ≤ 2
  | [] => by simp [deps]
  | q :: qs => by
    rw [List.map_cons]
    unfold deps
    refine Nat.max_le.mpr ⟨?_, dep_drs qs⟩
    unfold dr dep
    have := dep_dns q
    omega
theorem is_rows {H : Hp} {r : Addr} {ls : List Addr} {vss : List (List V)} {qss : List (List (Int × Int))} (M : MatV H r ls vss) (N : Numss H vss qss) : Is K H (.l (qss.map dr)) (.ref r) := by
  unfold Is
  exact ⟨r, _, rfl, SqL.of M.1, iss_rows M.2.1 M.2.2 N⟩
theorem is_row {H : Hp} {r : Addr} {us : List V} {qs : List (Int × Int)} (e : H r = some (.lst us)) (N : Nms H us qs) : Is K H (.l (qs.map dn)) (.ref r) := by
  unfold Is
  exact ⟨r, us, rfl, SqL.of e, iss_nums N⟩
theorem rows_copied {H H' : Hp} {D : Addr} {zs : List V} {vss : List (List V)} (hz : zs.length = vss.length) (hD : H' D = some (.lst zs)) (h : ∀ (i : Nat) (v : V), zs[i]? = some v → ∃ l us, v = .ref l ∧ vss[i]? = some us ∧ H' l = some (.lst us)) : ∃ ls, MatV H' D ls vss := by
  have key : ∀ (zs : List V) (vss : List (List V)), zs.length = vss.length → (∀ (i : Nat) (v : V), zs[i]? = some v → ∃ l us, v = .ref l ∧ vss[i]? = some us ∧ H' l = some (.lst us)) → ∃ ls : List Addr, zs = ls.map V.ref ∧ ls.length = vss.length ∧ ∀ (i : Nat) (l : Addr) (vs : List V), ls[i]? = some l → vss[i]? = some vs → H' l = some (.lst vs) := by
    intro zs
    induction zs with
    | nil => intro vss h1 _; exact ⟨[], rfl, h1, fun i l vs e => by simp at e⟩
    | cons z zs ih =>
      intro vss h1 h2
      cases vss with
      | nil => simp at h1
      | cons vs0 vss =>
        obtain ⟨l, us, rfl, e1, e2⟩ := h2 0 z rfl
        cases e1
        obtain ⟨ls, a, b, c⟩ := ih vss (by simpa using h1) (fun i v e => by
          obtain ⟨l, us, x1, x2, x3⟩ := h2 (i + 1) v (by simpa using e)
          exact ⟨l, us, x1, by simpa using x2, x3⟩)
        refine ⟨l :: ls, by rw [a]; rfl, by simp [b], fun i l' vs e3 e4 => ?_⟩
        cases i with
        | zero =>
          cases e3
          cases e4
          exact e2
        | succ i => exact c i l' vs (by simpa using e3) (by simpa using e4)
  obtain ⟨ls, a, b, c⟩ := key zs vss hz h
  exact ⟨ls, by rw [hD, a], b, c⟩
structure Rdy (K : PySem.W.Frag) (P0 : Addr) (H : Hp) (D1 r D3 hd h1 D6 h3 : Addr) (us1 us3 : List V) (ls ls6 : List Addr) (vss : List (List V)) (gs lims : List (Int × Int)) (qss : List (List (Int × Int))) : Prop where
  hHd : H hd = some (.lst [.ref h1, .ref D6, .ref h3])
  hh1 : H h1 = some (.lst us1)
  hh3 : H h3 = some (.lst us3)
  hD1 : H D1 = some (.lst us1)
  hD3 : H D3 = some (.lst us3)
  M6 : MatV H D6 ls6 vss
  Mr : MatV H r ls vss
  N1 : Nms H us1 gs
  N3 : Nms H us3 lims
  NN : Numss H vss qss
  lg : gs.length ≤ 4
  lq : qss.length ≤ 5
  ll : lims.length = qss.length
  sh : Shape 31 7 gs.length qss
  s1 : ∀ q ∈ gs, Sm 31 7 q
  s3 : ∀ q ∈ lims, Sm 31 7 q ∧ 0 ≤ q.1
  tb : TbO H P0
theorem mat_rwl {H : Hp} {r : Addr} {ls : List Addr} {vss : List (List V)} {qss : List (List (Int × Int))} (M : MatV H r ls vss) (N : Numss H vss qss) : RwL H (ls.map V.ref) qss := by
  refine ⟨by rw [List.length_map, M.2.1, N.1], fun i hi => ?_⟩
  have lm := M.2.1
  have lv := N.1
  have e : qss[i]? = some qss[i] := List.getElem?_eq_getElem hi
  have e1 : ls[i]? = some (ls[i]'(by omega)) := List.getElem?_eq_getElem (by omega)
  have e2 : vss[i]? = some (vss[i]'(by omega)) := List.getElem?_eq_getElem (by omega)
  refine ⟨_, _, by rw [List.getElem?_map, e1]; rfl, M.2.2 i _ _ e1 e2, ?_⟩
  rw [List.getD_eq_getElem?_getD, e]
  exact N.2 i _ _ e2 e
theorem TbO.but {H H' : Hp} {P0 : Addr} (h : TbO H P0) (k : ∀ b o, (∀ xs, o ≠ .lst xs) → H b = some o → H' b = some o) : TbO H' P0 := by
  rcases h with e | ⟨c, e1, e2⟩
  · exact .inl (k _ _ (fun _ z => nomatch z) e)
  · exact .inr ⟨c, k _ _ (fun _ z => nomatch z) e1, k _ _ (fun _ z => nomatch z) e2⟩
section
variable {P0 D1 r D3 hd h1 D6 h3 : Addr} {H H' : Hp} {us1 us3 : List V} {ls ls6 : List Addr} {vss : List (List V)} {gs lims : List (Int × Int)} {qss : List (List (Int × Int))}
theorem Rdy.ks (h : Rdy K P0 H D1 r D3 hd h1 D6 h3 us1 us3 ls ls6 vss gs lims qss) (k : KSame P0 H H') (tb : TbO H' P0) : Rdy K P0 H' D1 r D3 hd h1 D6 h3 us1 us3 ls ls6 vss gs lims qss := by
  have nL : ∀ {b : Addr} {xs : List V}, H b = some (.lst xs) → H' b = some (.lst xs) := fun {b xs} e => k b _ (fun z => by
    obtain ⟨ps, e'⟩ := TbO.tbl h.tb
    rw [z, e'] at e
    cases e) e
  have nT : ∀ {b : Addr} {xs : List V}, H b = some (.tup xs) → H' b = some (.tup xs) := fun {b xs} e => k b _ (fun z => by
    obtain ⟨ps, e'⟩ := TbO.tbl h.tb
    rw [z, e'] at e
    cases e) e
  have ts : TSame H H' := fun b xs e => nT e
  exact ⟨nL h.hHd, nL h.hh1, nL h.hh3, nL h.hD1, nL h.hD3, ⟨nL h.M6.1, h.M6.2.1, fun i l vs e1 e2 => nL (h.M6.2.2 i l vs e1 e2)⟩, ⟨nL h.Mr.1, h.Mr.2.1, fun i l vs e1 e2 => nL (h.Mr.2.2 i l vs e1 e2)⟩, h.N1.tsame ts, h.N3.tsame ts, h.NN.tsame ts, h.lg, h.lq, h.ll, h.sh, h.s1, h.s3, tb⟩
theorem bz71 {m n : Nat} (hm : m ≤ 4) (hn : n ≤ 5) : bz n (31 + 7 * (m + 1)) ≤ 500 := by
  unfold bz
  have h1 : (n + 1) * (n + 1) ≤ 6 * 6 := Nat.mul_le_mul (by omega) (by omega)
  have h2 : (31 + 7 * (m + 1)) * (n + 1) ≤ 66 * 6 := Nat.mul_le_mul (by omega) (by omega)
  omega
theorem Rdy.most {Q : VK} {E : XK} (h : Rdy K P0 H D1 r D3 hd h1 D6 h3 us1 us3 ls ls6 vss gs lims qss) (q : ∀ v H', KSame P0 H H' → TbO H' P0 → Told K H H' gs qss lims (2 * bz qss.length (31 + 7 * (gs.length + 1))) v → Q v H') : spMost K P0 [.ref h1, .ref D6, .ref h3] H Q E :=
  ⟨h1, D6, h3, ls6.map V.ref, us3, gs, lims, qss, 31, 7, rfl, ⟨us1, SqL.of h.hh1, h.N1⟩, SqL.of h.M6.1, mat_rwl h.M6 h.NN, SqL.of h.hh3, h.N3, h.ll, fun i hi => (h.sh.at hi).1, h.s1, h.s3, fun i hi => (h.sh.at hi).2, by have := h.lg; omega, by have := h.lq; omega, by have := h.lg; omega, Nat.le_trans (bz71 h.lg h.lq) (by decide), h.tb, q⟩
theorem Rdy.right {v : V} {Q : VK} {E : XK} (h : Rdy K P0 H D1 r D3 hd h1 D6 h3 us1 us3 ls ls6 vss gs lims qss) (t : TldK K H gs qss lims (2 * bz qss.length (31 + 7 * (gs.length + 1))) v) (q : ∀ H', Same H H' → Q (.bl true) H') : spRight71 K [v, .ref D1, .ref r, .ref D3] H Q E :=
  ⟨v, D1, r, D3, ls.map V.ref, us3, gs, lims, qss, _, rfl, ⟨us1, SqL.of h.hD1, Nms.toK h.N1⟩, SqL.of h.Mr.1, (mat_rwl h.Mr h.NN).k, SqL.of h.hD3, Nms.toK h.N3, h.ll, by have := h.lq; omega, by have := h.lg; omega, h.s1, fun q hq => (h.s3 q hq).1, fun i hi => h.sh.at hi, by have := bz71 h.lg h.lq; omega, t, q⟩
theorem Rdy.isH (h : Rdy K P0 H D1 r D3 hd h1 D6 h3 us1 us3 ls ls6 vss gs lims qss) : Is K H (.l [.l (gs.map dn), .l (qss.map dr), .l (lims.map dn)]) (.ref hd) := by
  unfold Is
  refine ⟨hd, _, rfl, SqL.of h.hHd, ?_⟩
  unfold Iss
  refine ⟨is_row h.hh1 h.N1, ?_⟩
  unfold Iss
  refine ⟨is_rows h.M6 h.NN, ?_⟩
  unfold Iss
  refine ⟨is_row h.hh3 h.N3, ?_⟩
  unfold Iss
  trivial
theorem Rdy.isG {p : Addr} (h : Rdy K P0 H D1 r D3 hd h1 D6 h3 us1 us3 ls ls6 vss gs lims qss) (e : H p = some (.lst [.ref D1, .ref r, .ref D3])) : Is K H (.l [.l (gs.map dn), .l (qss.map dr), .l (lims.map dn)]) (.ref p) := by
  unfold Is
  refine ⟨p, _, rfl, SqL.of e, ?_⟩
  unfold Iss
  refine ⟨is_row h.hD1 h.N1, ?_⟩
  unfold Iss
  refine ⟨is_rows h.Mr h.NN, ?_⟩
  unfold Iss
  refine ⟨is_row h.hD3 h.N3, ?_⟩
  unfold Iss
  trivial
theorem eq3 : eqDas [Da.l (gs.map dn), .l (qss.map dr), .l (lims.map dn)] [.l (gs.map dn), .l (qss.map dr), .l (lims.map dn)] = true := by
  simp only [eqDas, eqDa, eq_dns, eq_drs, Bool.and_self]
theorem al3 : alikes [Da.l (gs.map dn), .l (qss.map dr), .l (lims.map dn)] [.l (gs.map dn), .l (qss.map dr), .l (lims.map dn)] = true := by
  simp only [alikes, alike, al_dns, al_drs, Bool.and_self]
theorem dep3 : deps [Da.l (gs.map dn), .l (qss.map dr), .l (lims.map dn)] ≤ 60 := by
  have a := dep_dns gs
  have b := dep_drs qss
  have c := dep_dns lims
  simp only [deps, dep]
  omega
end
theorem sc_law : FnScope ["_law_script", "_law_many", "_law_count", "_law_kind", "_law_gains", "_law_rows_here", "_law_limits", "_law_handed", "_law_found", "_law_part"] ["_law_script"] (defScope s_law) := ⟨rfl, rfl, rfl, by decide +kernel, rfl, by decide +kernel, by decide +kernel⟩
theorem ok_law {f : Addr} {fd : FuncData} {P0 : Addr} (F : Fun K "law" "law" s_law f fd) (m_range : mg "range" = none) (m_list : mg "list" = none) (m_len : mg "len" = none)
    (G_law_cell_at : Fn P w K mg base (CXr P w) 1 "_law_cell_at" ["_law_script", "_law_k"] (spCell K)) (G_law_mixed : Fn P w K mg base (CXr P w) 2 "_law_mixed" ["_law_script", "_law_k"] (spMixedC K)) (G_law_draw : Fn P w K mg base (CXr P w) 34 "_law_draw" ["_law_cell", "_law_kind"] spDraw) (G_law_limit : Fn P w K mg base (CXr P w) 34 "_law_limit" ["_law_cell", "_law_kind"] spLimit)
    (G_law_rows : Fn P w K mg base (CXr P w) 35 "_law_rows" ["_law_script", "_law_many", "_law_count", "_law_kind"] (spRows K)) (G_law_spoilt : Fn P w K mg base (CXr P w) 1 "_law_spoilt" ["_law_rows_here", "_law_limits", "_law_cell"] spSpoilt) (G_most_of : Fn P w K mg base (CXr P w) 36 "most_of" ["gains", "rows", "limits"] (spMost K P0))
    (G_law_right : Fn P w K mg base (CXr P w) 36 "_law_right" ["_law_found", "_law_gains", "_law_rows_here", "_law_limits"] (spRight71 K)) :
    FnOk P w K mg base (CXr P w) 42 f fd ["_law_script"] (spLawT K P0) := by
  refine F.okG sc_law (fun vs H Q E h => ?_) (fun cdv A outer s H vs Q E hr h => ?_)
  · obtain ⟨a, ns, rfl, _⟩ := h
    rfl
  obtain ⟨a, ns, rfl, hS, h63, hb, hT, q⟩ := h
  have px := passM (X := (cxOf (CXr P w) P w K mg base ["_law_script", "_law_many", "_law_count", "_law_kind", "_law_gains", "_law_rows_here", "_law_limits", "_law_handed", "_law_found", "_law_part"] "law" (defScope s_law) f cdv A outer s H E)) (CXr.mute (P := P) (w := w))
  have tail11 : ∃ t, PSs (cxOf (CXr P w) P w K mg base ["_law_script", "_law_many", "_law_count", "_law_kind", "_law_gains", "_law_rows_here", "_law_limits", "_law_handed", "_law_found", "_law_part"] "law" (defScope s_law) f cdv A outer s H E).nox ((defBody s_law).drop 11) t ∧ ∀ (x1 x2 x3 v o : Option V) (H' : Hp) (D1 r D3 hd h1 D6 h3 : Addr) (us1 us3 : List V) (ls ls6 : List Addr) (vss : List (List V)) (gs lims : List (Int × Int)) (qss : List (List (Int × Int))), Rdy K P0 H' D1 r D3 hd h1 D6 h3 us1 us3 ls ls6 vss gs lims qss → t { nx := fun _ H' => Q .non H', rt := Q } [some (.ref a), x1, x2, x3, some (.ref D1), some (.ref r), some (.ref D3), some (.ref hd), v, o] H' := by
    refine ⟨_, (pss_one (ps_ret (pe_fn G_law_right (hr.mono (by decide)) px (pac (pe_fn G_most_of (hr.mono (by decide)) px (pac (pe_ix ix_list (pv 7) pe_int (fun _ _ => rfl)) (pac (pe_ix ix_list (pv 7) pe_int (fun _ _ => rfl)) (pac (pe_ix ix_list (pv 7) pe_int (fun _ _ => rfl)) pa_nil)))) (pac (pv 4) (pac (pv 5) (pac (pv 6) pa_nil))))))), ?_⟩
    intro x1 x2 x3 v o H' D1 r D3 hd h1 D6 h3 us1 us3 ls ls6 vss gs lims qss R
    refine ⟨_, rfl, hd, _, _, _, rfl, rfl, SqL.of R.hHd, rfl, _, rfl, hd, _, _, _, rfl, rfl, SqL.of R.hHd, rfl, _, rfl, hd, _, _, _, rfl, rfl, SqL.of R.hHd, rfl, R.most (E := E0) fun v' H2 k2 tb2 told => ?_⟩
    have R2 := R.ks k2 tb2
    exact ⟨_, rfl, _, rfl, _, rfl, R2.right (E := E0) told.k fun H3 s3 => q _⟩
  obtain ⟨t11, p11, q11⟩ := tail11
  have tail3 : ∃ t, PSs (cxOf (CXr P w) P w K mg base ["_law_script", "_law_many", "_law_count", "_law_kind", "_law_gains", "_law_rows_here", "_law_limits", "_law_handed", "_law_found", "_law_part"] "law" (defScope s_law) f cdv A outer s H E).nox ((defBody s_law).drop 3) t ∧ ∀ (m n : Nat) (k : Int), 1 ≤ m → m ≤ 4 → n ≤ 5 → t { nx := fun _ H' => Q .non H', rt := Q } [some (.ref a), some (.int (m : Int)), some (.int (n : Int)), some (.int k), none, none, none, none, none, none] H := by
    refine ⟨_, (pss_cons (ps_setC (i := 4) sc_law.nd rfl (Or.inl rfl) (tn := ["_law_j"]) (fr := ["_law_script", "_law_kind"]) (caps := [0, 3]) rfl ⟨rfl, by decide +kernel, rfl, by decide +kernel, by decide +kernel, rfl, ⟨(by first | exact Or.inl rfl | exact Or.inr rfl), ⟨(by first | exact Or.inl rfl | exact Or.inr rfl), trivial⟩⟩, ⟨(by first | exact Or.inl rfl | exact Or.inr rfl), ⟨(by first | exact Or.inl rfl | exact Or.inr rfl), trivial⟩⟩⟩ (pi_range1 rfl m_range (pac (pv 1) pa_nil)) (fun _ _ _ _ => (pg_name (i := 0) (show (["_law_j", "_law_script", "_law_kind"] : List Str).Nodup from by decide +kernel) rfl (Or.inl rfl))) (fun _ _ _ _ => pf_nil) (fun _ _ _ _ => (pe_fn G_law_draw (hr.mono (by decide)) (passB (by first | assumption | exact CXr.mute) rfl) (pac (pe_fn G_law_mixed (hr.mono (by decide)) (passB (by first | assumption | exact CXr.mute) rfl) (pac (pv 1) (pac (pe_op op_add pe_int (pv 0)) pa_nil))) (pac (pe_ix (ix_listK (K := K) rfl) (pe_lst (pac (pv 2) (pac pe_int pa_nil))) (pe_op op_modB (pv 2) pe_int) (fun _ _ => rfl)) pa_nil))))) (pss_cons (ps_set (i := 5) sc_law.nd rfl (Or.inl rfl) (pe_fn G_law_rows (hr.mono (by decide)) px (pac (pv 0) (pac (pv 1) (pac (pv 2) (pac (pv 3) pa_nil)))))) (pss_cons (ps_setC (i := 6) sc_law.nd rfl (Or.inl rfl) (tn := ["_law_i"]) (fr := ["_law_script", "_law_many", "_law_kind", "_law_count"]) (caps := [0, 1, 3, 2]) rfl ⟨rfl, by decide +kernel, rfl, by decide +kernel, by decide +kernel, rfl, ⟨(by first | exact Or.inl rfl | exact Or.inr rfl), ⟨(by first | exact Or.inl rfl | exact Or.inr rfl), ⟨(by first | exact Or.inl rfl | exact Or.inr rfl), ⟨(by first | exact Or.inl rfl | exact Or.inr rfl), trivial⟩⟩⟩⟩, ⟨(by first | exact Or.inl rfl | exact Or.inr rfl), ⟨(by first | exact Or.inl rfl | exact Or.inr rfl), ⟨(by first | exact Or.inl rfl | exact Or.inr rfl), ⟨(by first | exact Or.inl rfl | exact Or.inr rfl), trivial⟩⟩⟩⟩⟩ (pi_range1 rfl m_range (pac (pv 2) pa_nil)) (fun _ _ _ _ => (pg_name (i := 0) (show (["_law_i", "_law_script", "_law_many", "_law_kind", "_law_count"] : List Str).Nodup from by decide +kernel) rfl (Or.inl rfl))) (fun _ _ _ _ => pf_nil) (fun _ _ _ _ => (pe_fn G_law_limit (hr.mono (by decide)) (passB (by first | assumption | exact CXr.mute) rfl) (pac (pe_fn G_law_mixed (hr.mono (by decide)) (passB (by first | assumption | exact CXr.mute) rfl) (pac (pv 1) (pac (pe_op op_add (pe_op op_add pe_int (pe_op op_mulB (pv 4) (pv 2))) (pv 0)) pa_nil))) (pac (pv 3) pa_nil))))) (pss_cons (ps_expr (pe_fn G_law_spoilt (hr.mono (by decide)) px (pac (pv 5) (pac (pv 6) (pac (pe_fn G_law_cell_at (hr.mono (by decide)) px (pac (pv 0) (pac pe_int pa_nil))) pa_nil))))) (pss_cons (ps_set (i := 7) sc_law.nd rfl (Or.inl rfl) (pe_lst (pac (pe_callTy call_listL rfl m_list b_list (pac (pv 4) pa_nil)) (pac (pe_comp (tn := ["_law_row"]) (fr := []) (caps := []) rfl ⟨rfl, by decide +kernel, rfl, by decide +kernel, by decide +kernel, rfl, trivial, trivial⟩ (pi_list (pv 5)) (fun _ _ _ _ => (pg_name (i := 0) (show (["_law_row"] : List Str).Nodup from by decide +kernel) rfl (Or.inl rfl))) (fun _ _ _ _ => pf_nil) (fun _ _ _ _ => (pe_callTy (call_listLK (K := K) rfl) rfl m_list b_list (pac (pv 0) pa_nil)))) (pac (pe_callTy call_listL rfl m_list b_list (pac (pv 6) pa_nil)) pa_nil))))) (pss_cons (ps_set (i := 8) sc_law.nd rfl (Or.inl rfl) (pe_fn G_most_of (hr.mono (by decide)) px (pac (pe_ix ix_list (pv 7) pe_int (fun _ _ => rfl)) (pac (pe_ix ix_list (pv 7) pe_int (fun _ _ => rfl)) (pac (pe_ix ix_list (pv 7) pe_int (fun _ _ => rfl)) pa_nil))))) (pss_cons (ps_if (PW.pt (pw_or (pt_not (pt_val (pe_fn G_law_right (hr.mono (by decide)) px (pac (pv 8) (pac (pv 4) (pac (pv 5) (pac (pv 6) pa_nil))))))) (pw_or1 (pt_cmpR (op_neDa hr.units) (pv 7) (pe_lst (pac (pv 4) (pac (pv 5) (pac (pv 6) pa_nil)))) (nomark _))))) (pss_one (ps_ret pe_bl)) pss_nil) (pss_cons (ps_for PassesOwn.never rfl (pi_tup (pe_slice sl_tup (pv 8) (po_some (pe_op op_fdivB (pe_callB call_len_seq rfl m_len b_len (pac (pv 8) pa_nil)) pe_int)) po_none)) (pg_name (i := 9) sc_law.nd rfl (Or.inl rfl)) (pss_one (ps_expr (pe_bm PySem.F.plainAttrs_list PySem.F.slot_list_append PySem.F.type_list_append mt_append (pv 9) (pac (pe_tup (pac pe_int (pac pe_int pa_nil))) pa_nil))))) p11)))))))), ?_⟩
    intro m n k hm1 hm hn
    -- gains
    refine ⟨_, rfl, _, rfl, by omega, by omega, fun D1 nD1 => ?_⟩
    refine comp_range (lo := 0) (n := (m : Int).toNat) (cap := [some (.ref a), some (.int k)]) (fun _ v H2 => ∃ q, Sm 31 7 q ∧ Nm H2 v q) nD1 (Nat.lt_of_le_of_lt (show (m : Int).toNat ≤ 100 by omega) (by decide)) (fun i v H2 H3 ys e ks ⟨q, s, n⟩ => ⟨q, s, n.kept e ks⟩) ?_ ?_
    · intro j H2 R hj s2 kk
      obtain ⟨z, ez⟩ := pickZ (x := k) (y := 4) (v := k)
      refine ⟨_, rfl, _, rfl, _, _, rfl, rfl, a, ns, _, rfl, s2.seq hS, hb, by omega, by omega, fun c bc => ?_⟩
      refine ⟨_, rfl, (by show 2 ≤ sizeLine; decide), fun p3 n3 => ?_⟩
      have s3 := same_new n3 (.lst [.int k, .int 4])
      refine ⟨_, rfl, _, _, rfl, rfl, nz (by decide), p3, _, _, _, rfl, rfl, SqL.of upd_same, ez, ?_⟩
      exact ⟨c, z, 31, 7, rfl, bc, ⟨Nat.le_refl _, Nat.le_refl _⟩, fun q' sq p H6 s6 e6 => kk _ _ (s3.trans s6) ⟨q', sq, p, rfl, e6⟩⟩
    intro us1 H1 hl1 hrel1 s1 hD1
    obtain ⟨gs, N1, S1⟩ := nums_of hrel1
    have lg : gs.length = m := by have := N1.1; omega
    -- rows
    refine ⟨_, rfl, _, rfl, _, rfl, _, rfl, a, ns, m, n, k, 31, 7, rfl, s1.seq hS, hb, by omega, by omega, by omega, by omega, ⟨Nat.le_refl _, Nat.le_refl _⟩, fun r ls vss qss H2 ow lq sh => ?_⟩
    have s2 := ow.since
    have lq' : qss.length = n := by omega
    have shm : Shape 31 7 m qss := by rw [Int.toNat_natCast] at sh; exact sh
    -- limits
    refine ⟨_, rfl, _, rfl, by omega, by omega, fun D3 nD3 => ?_⟩
    have nm : (n : Int) * (m : Int) ≤ 20 ∧ 0 ≤ (n : Int) * (m : Int) := by
      have h1 : n * m ≤ 5 * 4 := Nat.mul_le_mul hn hm
      have h2 : (n : Int) * (m : Int) = ((n * m : Nat) : Int) := by push_cast; rfl
      rw [h2]
      omega
    refine comp_range (lo := 0) (n := (n : Int).toNat) (cap := [some (.ref a), some (.int (m : Int)), some (.int k), some (.int (n : Int))]) (fun _ v H2 => ∃ q, (Sm 31 7 q ∧ 0 ≤ q.1) ∧ Nm H2 v q) nD3 (Nat.lt_of_le_of_lt (show (n : Int).toNat ≤ 100 by omega) (by decide)) (fun i v H2 H3 ys e ks ⟨q, s, n⟩ => ⟨q, s, n.kept e ks⟩) ?_ ?_
    · intro j H3 R hj s3 kk
      have hS3 := s3.seq (s2.seq (s1.seq hS))
      have cm : CMulB (n : Int) (m : Int) := ⟨Nat.le_trans (intBits_le_64 (by omega) (by omega)) (by decide), Nat.le_trans (intBits_le_64 (by omega) (by omega)) (by decide)⟩
      refine ⟨_, rfl, _, rfl, _, rfl, _, _, rfl, rfl, cm, _, _, rfl, rfl, _, rfl, _, _, rfl, rfl, a, ns, _, rfl, hS3, hb, by omega, by omega, fun c bc => ?_⟩
      exact ⟨_, rfl, c, k, rfl, bc, fun q' sq q0 p H6 s6 e6 => kk _ _ s6 ⟨q', ⟨sq, q0⟩, p, rfl, e6⟩⟩
    intro us3 H3 hl3 hrel3 s3 hD3
    obtain ⟨lims, N3, S3⟩ := nums_PI (R := fun _ q => Sm 31 7 q ∧ 0 ≤ q.1) hrel3
    have ll : lims.length = n := by have := N3.1; omega
    have S3' : ∀ q ∈ lims, Sm 31 7 q ∧ 0 ≤ q.1 := fun q hq => by
      obtain ⟨i, e⟩ := List.getElem?_of_mem hq
      exact S3 i q e
    have ow3 := ow.same s3
    obtain ⟨fr1, fr2, fr3⟩ := ow.fresh nD3
    -- spoilt
    refine ⟨_, rfl, _, rfl, _, rfl, a, ns, 3, rfl, s3.seq (s2.seq (s1.seq hS)), by decide, H1, r, D3, cell ns 3, ls, vss, qss, us3, lims, m, rfl, ow3, shm, by omega, by omega, hD3, N3, by rw [ll, lq'], S3', fr3, fr2, fr1, fun ls4 vss4 qss4 us4 lims4 H4 k4 ow4 sh4 lq4 hl4 N4 ll4 sl4 => ?_⟩
    have s14 := ow4.since
    have lv4 := ow4.num.1
    have lm4 := ow4.mat.2.1
    -- handed
    refine ⟨_, rfl, D1, _, rfl, SqL.of (s14 _ _ hD1), fun h1 n1 => ?_⟩
    have t1 := same_new n1 (.lst us1)
    have M4 := ow4.mat.same t1
    refine ⟨_, rfl, r, rfl, ⟨_, SqL.of M4.1⟩, fun D6 n6 => ?_⟩
    refine comp_listD (K := K) (a := r) (xs := ls4.map V.ref) (cap := []) (fun i v H' => ∃ l vs, v = .ref l ∧ vss4[i]? = some vs ∧ H' l = some (.lst vs) ∧ l ≠ D6) n6 (by rw [List.length_map, lm4, lv4]; exact Nat.lt_of_le_of_lt (show qss4.length ≤ 100 by omega) (by decide)) (fun H5 s5 => SqL.of (s5 _ _ M4.1)) (fun i v H2 H3 ys e ks ⟨l, vs, h1, h2, h3, h4⟩ => ⟨l, vs, h1, h2, ks _ _ h4 h3, h4⟩) ?_ ?_
    · rintro i u H5 R hu s5 ⟨ys, hD⟩ kk
      rw [List.getElem?_map] at hu
      obtain ⟨lr, elr, rfl⟩ := Option.map_eq_some_iff.mp hu
      have hi : i < ls4.length := (List.getElem?_eq_some_iff.mp elr).1
      have ev : vss4[i]? = some (vss4[i]'(by omega)) := List.getElem?_eq_getElem (by omega)
      have hlr := M4.2.2 i lr _ elr ev
      refine ⟨_, rfl, lr, _, rfl, SqL.of (s5 _ _ hlr), fun p np => kk _ _ (same_new np _) ⟨p, _, rfl, ev, upd_same, fun z => ?_⟩⟩
      rw [← z, np] at hD
      cases hD
    intro zs H5 hz hrel5 s5 hD6
    obtain ⟨ls6, M6⟩ := rows_copied (H := H5) (vss := vss4) (by rw [hz, List.length_map, lm4]) hD6 (fun i v e => by
      obtain ⟨l, vs, h1, h2, h3, _⟩ := hrel5 i v e
      exact ⟨l, vs, h1, h2, h3⟩)
    have t15 := t1.trans s5
    refine ⟨_, rfl, D3, _, rfl, SqL.of (t15 _ _ hl4), fun h3 n3 => ?_⟩
    have t6 := same_new n3 (.lst us4)
    refine ⟨(by show 3 ≤ sizeLine; decide), fun hd nhd => ?_⟩
    have t7 := same_new nhd (.lst [.ref h1, .ref D6, .ref h3])
    have u57 := t6.trans t7
    have u47 := t15.trans u57
    have hh1 : H5 h1 = some (.lst us1) := s5 _ _ upd_same
    have R7 : Rdy K P0 (upd (upd H5 h3 (.lst us4)) hd (.lst [.ref h1, .ref D6, .ref h3])) D1 r D3 hd h1 D6 h3 us1 us4 ls4 ls6 vss4 gs lims4 qss4 :=
      ⟨upd_same, u57 _ _ hh1, t7 _ _ upd_same, u47 _ _ (s14 _ _ hD1), u47 _ _ hl4, M6.same u57, ow4.mat.same u47, (N1.same s14).same u47, N4.same u47, ow4.num.same u47, by omega, by omega, ll4, by rw [lg]; exact sh4, S1, sl4, TbO.same (TbO.same (TbO.same (.inl hT) s1) s14) u47⟩
    generalize upd (upd H5 h3 (.lst us4)) hd (.lst [.ref h1, .ref D6, .ref h3]) = H7 at *
    -- found
    refine ⟨_, rfl, hd, _, _, _, rfl, rfl, SqL.of R7.hHd, rfl, _, rfl, hd, _, _, _, rfl, rfl, SqL.of R7.hHd, rfl, _, rfl, hd, _, _, _, rfl, rfl, SqL.of R7.hHd, rfl, R7.most (E := E0) fun v H8 k8 tb8 told => ?_⟩
    have R8 := R7.ks k8 tb8
    refine ⟨_, rfl, _, rfl, _, rfl, _, rfl, ?_⟩
    dsimp only [tNil]
    refine R8.right told.k fun H9 s9 => ?_
    refine ⟨_, rfl, ite2 (fun c => nomatch c) (fun _ => ?_)⟩
    have R9 := R8.ks (fun b o _ e => s9 _ _ e) (TbO.same tb8 s9)
    refine ⟨_, rfl, _, rfl, _, rfl, _, rfl, (by show 3 ≤ sizeLine; decide), fun p10 n10 => ?_⟩
    have t10 := same_new n10 (.lst [.ref D1, .ref r, .ref D3])
    have R10 := R9.ks (fun b o _ e => t10 _ _ e) (TbO.same R9.tb t10)
    refine ⟨_, _, .inr ⟨R10.isH, R10.isG upd_same⟩, al3, dep3, _, rfl, ?_⟩
    rw [eq3]
    refine ite2 (fun c => nomatch c) (fun _ => ?_)
    have s810 := s9.trans t10
    generalize upd H9 p10 (.lst [.ref D1, .ref r, .ref D3]) = H10 at *
    have k710 : KSame P0 H7 H10 := ks_to k8 s810
    rcases told with ⟨p, lx, lp, uw, xs, ps, wq, xq, yq, rfl, hp, hw, hx, hxn, hpl, hpn, fx, fp, nxp, O⟩ | ⟨p, lx, xs, xq, rfl, hp, hx, hxn, fx, O⟩
    · have len1 : xs.length = gs.length := hxn.1.trans O.xl
      have len2 : ps.length = qss4.length := hpn.1.trans O.yl
      refine ⟨_, rfl, _, rfl, p, _, rfl, .inr (SqT.of (s810 _ _ hp)), _, _, rfl, rfl, ⟨by decide, by decide +kernel⟩, _, rfl, ?_⟩
      have x2 : HT.sIx 4 0 (some (((4 : Nat) : Int).fdiv 2)) = 2 := by decide +kernel
      have x4 : HT.sIx 4 4 none = 4 := by decide +kernel
      refine ⟨p, _, rfl, SqT.of (s810 _ _ hp), (fun h => absurd (x2.symm.trans h.1) (by decide)), fun pc npc => ?_⟩
      have ecut : cutV [V.str "most", uw, .ref lx, .ref lp] (some (((([V.str "most", uw, .ref lx, .ref lp] : List V).length : Nat) : Int).fdiv 2)) none = [.ref lx, .ref lp] := by
        show ([V.str "most", uw, .ref lx, .ref lp].drop (HT.sIx 4 0 (some (((4 : Nat) : Int).fdiv 2)))).take (HT.sIx 4 4 none - HT.sIx 4 0 (some (((4 : Nat) : Int).fdiv 2))) = _
        rw [x2, x4]
        rfl
      rw [ecut]
      have tc := same_new npc (.tup [.ref lx, .ref lp])
      have hx11 := tc _ _ (s810 _ _ hx)
      have hp11 := tc _ _ (s810 _ _ hpl)
      have tb11 := TbO.same R10.tb tc
      have k711 := ks_to k710 tc
      have hpc : upd H10 pc (.tup [.ref lx, .ref lp]) pc = some (.tup [.ref lx, .ref lp]) := upd_same
      generalize upd H10 pc (.tup [.ref lx, .ref lp]) = H11 at *
      have pcx : pc ≠ lx := fun z => by rw [z, hx11] at hpc; cases hpc
      have pcp : pc ≠ lp := fun z => by rw [z, hp11] at hpc; cases hpc
      refine ⟨pc, rfl, ⟨_, SqT.of hpc⟩, for_tup (K := K) (a := pc) (xs := [.ref lx, .ref lp]) (fun i σ H' => ∃ (o : Option V) (xs' ps' : List V), σ = [some (.ref a), some (.int (m : Int)), some (.int (n : Int)), some (.int k), some (.ref D1), some (.ref r), some (.ref D3), some (.ref hd), some (.ref p), o] ∧ (∀ b o, b ≠ lx → b ≠ lp → H11 b = some o → H' b = some o) ∧ H' lx = some (.lst xs') ∧ H' lp = some (.lst ps') ∧ xs'.length ≤ 100 + i ∧ ps'.length ≤ 100 + i) ⟨none, xs, ps, rfl, fun _ _ _ _ e => e, hx11, hp11, by omega, by omega⟩ (fun i σ H' _ ⟨o, xs', ps', _, kk, _⟩ => SqT.of (kk _ _ pcx pcp hpc)) ?_ ?_⟩
      · rintro i u σ H' hu ⟨o, xs', ps', rfl, kk, e1, e2, l1, l2⟩
        have hi : i < 2 := (List.getElem?_eq_some_iff.mp hu).1
        have cs : (u = .ref lx ∨ u = .ref lp) := by
          have := List.mem_of_getElem? hu
          simpa using this
        rcases cs with rfl | rfl
        · refine ⟨_, rfl, .inl ⟨rfl, _, SqL.of e1⟩, (by show 2 ≤ sizeLine; decide), fun pt npt => ?_⟩
          have st := same_new npt (.tup [.int 1, .int 1])
          refine ⟨lx, _, _, rfl, rfl, st _ _ e1, Nat.lt_of_le_of_lt (show xs'.length ≤ 200 by omega) (by decide), ?_⟩
          refine ⟨_, _, ps', rfl, fun b o n1 n2 e => by rw [upd_ne n1]; exact st _ _ (kk _ _ n1 n2 e), upd_same, by rw [upd_ne (Ne.symm nxp)]; exact st _ _ e2, by rw [List.length_append]; show xs'.length + 1 ≤ _; omega, by omega⟩
        · refine ⟨_, rfl, .inl ⟨rfl, _, SqL.of e2⟩, (by show 2 ≤ sizeLine; decide), fun pt npt => ?_⟩
          have st := same_new npt (.tup [.int 1, .int 1])
          refine ⟨lp, _, _, rfl, rfl, st _ _ e2, Nat.lt_of_le_of_lt (show ps'.length ≤ 200 by omega) (by decide), ?_⟩
          refine ⟨_, xs', _, rfl, fun b o n1 n2 e => by rw [upd_ne n2]; exact st _ _ (kk _ _ n1 n2 e), by rw [upd_ne nxp]; exact st _ _ e1, upd_same, by omega, by rw [List.length_append]; show ps'.length + 1 ≤ _; omega⟩
      · rintro σ H' ⟨o, xs', ps', rfl, kk, e1, e2, l1, l2⟩
        refine q11 _ _ _ _ _ _ _ _ _ _ _ _ _ _ _ _ _ _ _ _ _ (R7.ks (fun b o n e => kk _ _ (ne_of_none e fx) (ne_of_none e fp) (k711 _ _ n e)) ?_)
        refine tb11.but fun b o n e => kk _ _ (fun z => ?_) (fun z => ?_) e
        · rw [z, hx11] at e
          cases e
          exact n _ rfl
        · rw [z, hp11] at e
          cases e
          exact n _ rfl
    · have len1 : xs.length = gs.length := hxn.1.trans O.xl
      refine ⟨_, rfl, _, rfl, p, _, rfl, .inr (SqT.of (s810 _ _ hp)), _, _, rfl, rfl, ⟨by decide, by decide +kernel⟩, _, rfl, ?_⟩
      have x2 : HT.sIx 2 0 (some (((2 : Nat) : Int).fdiv 2)) = 1 := by decide +kernel
      have x4 : HT.sIx 2 2 none = 2 := by decide +kernel
      refine ⟨p, _, rfl, SqT.of (s810 _ _ hp), (fun h => absurd (x2.symm.trans h.1) (by decide)), fun pc npc => ?_⟩
      have ecut : cutV [V.str "endless", .ref lx] (some (((([V.str "endless", .ref lx] : List V).length : Nat) : Int).fdiv 2)) none = [.ref lx] := by
        show ([V.str "endless", .ref lx].drop (HT.sIx 2 0 (some (((2 : Nat) : Int).fdiv 2)))).take (HT.sIx 2 2 none - HT.sIx 2 0 (some (((2 : Nat) : Int).fdiv 2))) = _
        rw [x2, x4]
        rfl
      rw [ecut]
      have tc := same_new npc (.tup [.ref lx])
      have hx11 := tc _ _ (s810 _ _ hx)
      have tb11 := TbO.same R10.tb tc
      have k711 := ks_to k710 tc
      have hpc : upd H10 pc (.tup [.ref lx]) pc = some (.tup [.ref lx]) := upd_same
      generalize upd H10 pc (.tup [.ref lx]) = H11 at *
      have pcx : pc ≠ lx := fun z => by rw [z, hx11] at hpc; cases hpc
      refine ⟨pc, rfl, ⟨_, SqT.of hpc⟩, for_tup (K := K) (a := pc) (xs := [.ref lx]) (fun i σ H' => ∃ (o : Option V) (xs' : List V), σ = [some (.ref a), some (.int (m : Int)), some (.int (n : Int)), some (.int k), some (.ref D1), some (.ref r), some (.ref D3), some (.ref hd), some (.ref p), o] ∧ (∀ b o, b ≠ lx → H11 b = some o → H' b = some o) ∧ H' lx = some (.lst xs') ∧ xs'.length ≤ 100 + i) ⟨none, xs, rfl, fun _ _ _ e => e, hx11, by omega⟩ (fun i σ H' _ ⟨o, xs', _, kk, _⟩ => SqT.of (kk _ _ pcx hpc)) ?_ ?_⟩
      · rintro i u σ H' hu ⟨o, xs', rfl, kk, e1, l1⟩
        have hi : i < 1 := (List.getElem?_eq_some_iff.mp hu).1
        have cs : u = .ref lx := by
          have := List.mem_of_getElem? hu
          simpa using this
        subst cs
        refine ⟨_, rfl, .inl ⟨rfl, _, SqL.of e1⟩, (by show 2 ≤ sizeLine; decide), fun pt npt => ?_⟩
        have st := same_new npt (.tup [.int 1, .int 1])
        refine ⟨lx, _, _, rfl, rfl, st _ _ e1, Nat.lt_of_le_of_lt (show xs'.length ≤ 200 by omega) (by decide), ?_⟩
        refine ⟨_, _, rfl, fun b o n1 e => by rw [upd_ne n1]; exact st _ _ (kk _ _ n1 e), upd_same, by rw [List.length_append]; show xs'.length + 1 ≤ _; omega⟩
      · rintro σ H' ⟨o, xs', rfl, kk, e1, l1⟩
        refine q11 _ _ _ _ _ _ _ _ _ _ _ _ _ _ _ _ _ _ _ _ _ (R7.ks (fun b o n e => kk _ _ (ne_of_none e fx) (k711 _ _ n e)) ?_)
        refine tb11.but fun b o n e => kk _ _ (fun z => ?_) e
        rw [z, hx11] at e
        cases e
        exact n _ rfl
  obtain ⟨t3, p3, q3⟩ := tail3
  refine ⟨_, (pss_cons (ps_set (i := 1) sc_law.nd rfl (Or.inr rfl) (pe_op op_add pe_int (pe_op op_modB (pe_fn G_law_cell_at (hr.mono (by decide)) px (pac (pv 0) (pac pe_int pa_nil))) pe_int))) (pss_cons (ps_set (i := 2) sc_law.nd rfl (Or.inr rfl) (pe_op op_modB (pe_op op_fdivB (pe_fn G_law_cell_at (hr.mono (by decide)) px (pac (pv 0) (pac pe_int pa_nil))) pe_int) pe_int)) (pss_cons (ps_set (i := 3) sc_law.nd rfl (Or.inr rfl) (pe_op op_modB (pe_fn G_law_cell_at (hr.mono (by decide)) px (pac (pv 0) (pac pe_int pa_nil))) pe_int)) p3))), ?_⟩
  have m1 := fmod_in (x := cell ns 0) (m := 4) (by decide)
  have m2 := fmod_in (x := (cell ns 0).fdiv 4) (m := 6) (by decide)
  refine ⟨_, rfl, a, ns, 0, rfl, hS, by decide, _, _, rfl, rfl, nz (by decide), _, _, rfl, rfl, ?_⟩
  refine ⟨_, rfl, a, ns, 0, rfl, hS, by decide, _, _, rfl, rfl, ⟨by decide, by decide +kernel⟩, _, _, rfl, rfl, nz (by decide), ?_⟩
  refine ⟨_, rfl, a, ns, 2, rfl, hS, by decide, _, _, rfl, rfl, nz (by decide), ?_⟩
  have h := q3 (1 + (cell ns 0).fmod 4).toNat (((cell ns 0).fdiv 4).fmod 6).toNat ((cell ns 2).fmod 8) (by omega) (by omega) (by omega)
  rw [Int.toNat_of_nonneg (by omega), Int.toNat_of_nonneg m2.1] at h
  exact h
end
theorem all_mk {l : PySem.W.OpenLaw} {w : World} {K : PySem.W.Frag} {h : Heap} {mg : Str → Option Value} {fa : Addr} {P0 : Addr} (X : K.In h) (G : h.Ns mainGlobals mg) (hfa : mg "law" = some (.ref fa))
    {f_is_less : Addr} {od_is_less an_is_less : Option Addr} {sl_is_less : Array (Option Value)} {oc_is_less kV_is_less dc_is_less pm_is_less cd_is_less ct_is_less : Value} {f_lowest_terms : Addr} {od_lowest_terms an_lowest_terms : Option Addr} {sl_lowest_terms : Array (Option Value)} {oc_lowest_terms kV_lowest_terms dc_lowest_terms pm_lowest_terms cd_lowest_terms ct_lowest_terms : Value} {f_greatest_shared : Addr} {od_greatest_shared an_greatest_shared : Option Addr} {sl_greatest_shared : Array (Option Value)} {oc_greatest_shared kV_greatest_shared dc_greatest_shared pm_greatest_shared cd_greatest_shared ct_greatest_shared : Value} {f_whole_row : Addr} {od_whole_row an_whole_row : Option Addr} {sl_whole_row : Array (Option Value)} {oc_whole_row kV_whole_row dc_whole_row pm_whole_row cd_whole_row ct_whole_row : Value} {f_most_of : Addr} {od_most_of an_most_of : Option Addr} {sl_most_of : Array (Option Value)} {oc_most_of kV_most_of dc_most_of pm_most_of cd_most_of ct_most_of : Value} {f_fitting_list : Addr} {od_fitting_list an_fitting_list : Option Addr} {sl_fitting_list : Array (Option Value)} {oc_fitting_list kV_fitting_list dc_fitting_list pm_fitting_list cd_fitting_list ct_fitting_list : Value} {f_price_list : Addr} {od_price_list an_price_list : Option Addr} {sl_price_list : Array (Option Value)} {oc_price_list kV_price_list dc_price_list pm_price_list cd_price_list ct_price_list : Value} {f_endless_list : Addr} {od_endless_list an_endless_list : Option Addr} {sl_endless_list : Array (Option Value)} {oc_endless_list kV_endless_list dc_endless_list pm_endless_list cd_endless_list ct_endless_list : Value} {f_law_cell_at : Addr} {od_law_cell_at an_law_cell_at : Option Addr} {sl_law_cell_at : Array (Option Value)} {oc_law_cell_at kV_law_cell_at dc_law_cell_at pm_law_cell_at cd_law_cell_at ct_law_cell_at : Value} {f_law_number : Addr} {od_law_number an_law_number : Option Addr} {sl_law_number : Array (Option Value)} {oc_law_number kV_law_number dc_law_number pm_law_number cd_law_number ct_law_number : Value} {f_law_whole : Addr} {od_law_whole an_law_whole : Option Addr} {sl_law_whole : Array (Option Value)} {oc_law_whole kV_law_whole dc_law_whole pm_law_whole cd_law_whole ct_law_whole : Value} {f_law_is_number : Addr} {od_law_is_number an_law_is_number : Option Addr} {sl_law_is_number : Array (Option Value)} {oc_law_is_number kV_law_is_number dc_law_is_number pm_law_is_number cd_law_is_number ct_law_is_number : Value} {f_law_numbers : Addr} {od_law_numbers an_law_numbers : Option Addr} {sl_law_numbers : Array (Option Value)} {oc_law_numbers kV_law_numbers dc_law_numbers pm_law_numbers cd_law_numbers ct_law_numbers : Value} {f_law_mixed : Addr} {od_law_mixed an_law_mixed : Option Addr} {sl_law_mixed : Array (Option Value)} {oc_law_mixed kV_law_mixed dc_law_mixed pm_law_mixed cd_law_mixed ct_law_mixed : Value} {f_law_total : Addr} {od_law_total an_law_total : Option Addr} {sl_law_total : Array (Option Value)} {oc_law_total kV_law_total dc_law_total pm_law_total cd_law_total ct_law_total : Value} {f_law_comes : Addr} {od_law_comes an_law_comes : Option Addr} {sl_law_comes : Array (Option Value)} {oc_law_comes kV_law_comes dc_law_comes pm_law_comes cd_law_comes ct_law_comes : Value} {f_law_draw : Addr} {od_law_draw an_law_draw : Option Addr} {sl_law_draw : Array (Option Value)} {oc_law_draw kV_law_draw dc_law_draw pm_law_draw cd_law_draw ct_law_draw : Value} {f_law_limit : Addr} {od_law_limit an_law_limit : Option Addr} {sl_law_limit : Array (Option Value)} {oc_law_limit kV_law_limit dc_law_limit pm_law_limit cd_law_limit ct_law_limit : Value} {f_law_rows : Addr} {od_law_rows an_law_rows : Option Addr} {sl_law_rows : Array (Option Value)} {oc_law_rows kV_law_rows dc_law_rows pm_law_rows cd_law_rows ct_law_rows : Value} {f_law_under : Addr} {od_law_under an_law_under : Option Addr} {sl_law_under : Array (Option Value)} {oc_law_under kV_law_under dc_law_under pm_law_under cd_law_under ct_law_under : Value} {f_law_fits : Addr} {od_law_fits an_law_fits : Option Addr} {sl_law_fits : Array (Option Value)} {oc_law_fits kV_law_fits dc_law_fits pm_law_fits cd_law_fits ct_law_fits : Value} {f_law_right : Addr} {od_law_right an_law_right : Option Addr} {sl_law_right : Array (Option Value)} {oc_law_right kV_law_right dc_law_right pm_law_right cd_law_right ct_law_right : Value} {f_law_spoilt : Addr} {od_law_spoilt an_law_spoilt : Option Addr} {sl_law_spoilt : Array (Option Value)} {oc_law_spoilt kV_law_spoilt dc_law_spoilt pm_law_spoilt cd_law_spoilt ct_law_spoilt : Value} {f_law : Addr} {od_law an_law : Option Addr} {sl_law : Array (Option Value)} {oc_law kV_law dc_law pm_law cd_law ct_law : Value} {c_NOUGHT : Addr} {cd_NOUGHT : Option Addr} {ck0_NOUGHT : Tok} {ck1_NOUGHT : Tok} {cn_NOUGHT : Nat} {cs_NOUGHT : Array (Option Value)} {C_Table : Addr} {f_Table_init : Addr} {od_Table_init an_Table_init : Option Addr} {sl_Table_init : Array (Option Value)} {oc_Table_init kV_Table_init dc_Table_init pm_Table_init cd_Table_init ct_Table_init : Value} {f_Table_next_swap : Addr} {od_Table_next_swap an_Table_next_swap : Option Addr} {sl_Table_next_swap : Array (Option Value)} {oc_Table_next_swap kV_Table_next_swap dc_Table_next_swap pm_Table_next_swap ct_Table_next_swap : Value} {cA : Addr} {f_Table_growing : Addr} {od_Table_growing an_Table_growing : Option Addr} {sl_Table_growing : Array (Option Value)} {oc_Table_growing kV_Table_growing dc_Table_growing pm_Table_growing cd_Table_growing ct_Table_growing : Value} {f_Table_growth : Addr} {od_Table_growth an_Table_growth : Option Addr} {sl_Table_growth : Array (Option Value)} {oc_Table_growth kV_Table_growth dc_Table_growth pm_Table_growth cd_Table_growth ct_Table_growth : Value} {f_Table_line_out : Addr} {od_Table_line_out an_Table_line_out : Option Addr} {sl_Table_line_out : Array (Option Value)} {oc_Table_line_out kV_Table_line_out dc_Table_line_out pm_Table_line_out cd_Table_line_out ct_Table_line_out : Value} {f_Table_is_sooner : Addr} {od_Table_is_sooner an_Table_is_sooner : Option Addr} {sl_Table_is_sooner : Array (Option Value)} {oc_Table_is_sooner kV_Table_is_sooner dc_Table_is_sooner pm_Table_is_sooner cd_Table_is_sooner ct_Table_is_sooner : Value} {f_Table_swap : Addr} {od_Table_swap an_Table_swap : Option Addr} {sl_Table_swap : Array (Option Value)} {oc_Table_swap kV_Table_swap dc_Table_swap pm_Table_swap cd_Table_swap ct_Table_swap : Value} {f_Table_swapped : Addr} {od_Table_swapped an_Table_swapped : Option Addr} {sl_Table_swapped : Array (Option Value)} {oc_Table_swapped kV_Table_swapped dc_Table_swapped pm_Table_swapped cd_Table_swapped ct_Table_swapped : Value}
    (a_is_less : PySem.W.nsIn K mainGlobals "is_less" = some (some (.ref f_is_less))) (l_is_less : K.lookup f_is_less = some ⟨oc_is_less, od_is_less, .func (PySem.W.fnOf "is_less" "is_less" (defArgs s_is_less) (defBody s_is_less) (defScope s_is_less) .none kV_is_less dc_is_less pm_is_less an_is_less cd_is_less ct_is_less), sl_is_less⟩) (c_is_less : PySem.W.codeIn K cd_is_less "is_less" = true) (k_is_less : PySem.W.keepIn K (.ref f_is_less) = true) (a_lowest_terms : PySem.W.nsIn K mainGlobals "lowest_terms" = some (some (.ref f_lowest_terms))) (l_lowest_terms : K.lookup f_lowest_terms = some ⟨oc_lowest_terms, od_lowest_terms, .func (PySem.W.fnOf "lowest_terms" "lowest_terms" (defArgs s_lowest_terms) (defBody s_lowest_terms) (defScope s_lowest_terms) .none kV_lowest_terms dc_lowest_terms pm_lowest_terms an_lowest_terms cd_lowest_terms ct_lowest_terms), sl_lowest_terms⟩) (c_lowest_terms : PySem.W.codeIn K cd_lowest_terms "lowest_terms" = true) (k_lowest_terms : PySem.W.keepIn K (.ref f_lowest_terms) = true) (a_greatest_shared : PySem.W.nsIn K mainGlobals "greatest_shared" = some (some (.ref f_greatest_shared))) (l_greatest_shared : K.lookup f_greatest_shared = some ⟨oc_greatest_shared, od_greatest_shared, .func (PySem.W.fnOf "greatest_shared" "greatest_shared" (defArgs s_greatest_shared) (defBody s_greatest_shared) (defScope s_greatest_shared) .none kV_greatest_shared dc_greatest_shared pm_greatest_shared an_greatest_shared cd_greatest_shared ct_greatest_shared), sl_greatest_shared⟩) (c_greatest_shared : PySem.W.codeIn K cd_greatest_shared "greatest_shared" = true) (k_greatest_shared : PySem.W.keepIn K (.ref f_greatest_shared) = true) (a_whole_row : PySem.W.nsIn K mainGlobals "whole_row" = some (some (.ref f_whole_row))) (l_whole_row : K.lookup f_whole_row = some ⟨oc_whole_row, od_whole_row, .func (PySem.W.fnOf "whole_row" "whole_row" (defArgs s_whole_row) (defBody s_whole_row) (defScope s_whole_row) .none kV_whole_row dc_whole_row pm_whole_row an_whole_row cd_whole_row ct_whole_row), sl_whole_row⟩) (c_whole_row : PySem.W.codeIn K cd_whole_row "whole_row" = true) (k_whole_row : PySem.W.keepIn K (.ref f_whole_row) = true) (a_most_of : PySem.W.nsIn K mainGlobals "most_of" = some (some (.ref f_most_of))) (l_most_of : K.lookup f_most_of = some ⟨oc_most_of, od_most_of, .func (PySem.W.fnOf "most_of" "most_of" (defArgs s_most_of) (defBody s_most_of) (defScope s_most_of) .none kV_most_of dc_most_of pm_most_of an_most_of cd_most_of ct_most_of), sl_most_of⟩) (c_most_of : PySem.W.codeIn K cd_most_of "most_of" = true) (k_most_of : PySem.W.keepIn K (.ref f_most_of) = true) (a_fitting_list : PySem.W.nsIn K mainGlobals "fitting_list" = some (some (.ref f_fitting_list))) (l_fitting_list : K.lookup f_fitting_list = some ⟨oc_fitting_list, od_fitting_list, .func (PySem.W.fnOf "fitting_list" "fitting_list" (defArgs s_fitting_list) (defBody s_fitting_list) (defScope s_fitting_list) .none kV_fitting_list dc_fitting_list pm_fitting_list an_fitting_list cd_fitting_list ct_fitting_list), sl_fitting_list⟩) (c_fitting_list : PySem.W.codeIn K cd_fitting_list "fitting_list" = true) (k_fitting_list : PySem.W.keepIn K (.ref f_fitting_list) = true) (a_price_list : PySem.W.nsIn K mainGlobals "price_list" = some (some (.ref f_price_list))) (l_price_list : K.lookup f_price_list = some ⟨oc_price_list, od_price_list, .func (PySem.W.fnOf "price_list" "price_list" (defArgs s_price_list) (defBody s_price_list) (defScope s_price_list) .none kV_price_list dc_price_list pm_price_list an_price_list cd_price_list ct_price_list), sl_price_list⟩) (c_price_list : PySem.W.codeIn K cd_price_list "price_list" = true) (k_price_list : PySem.W.keepIn K (.ref f_price_list) = true) (a_endless_list : PySem.W.nsIn K mainGlobals "endless_list" = some (some (.ref f_endless_list))) (l_endless_list : K.lookup f_endless_list = some ⟨oc_endless_list, od_endless_list, .func (PySem.W.fnOf "endless_list" "endless_list" (defArgs s_endless_list) (defBody s_endless_list) (defScope s_endless_list) .none kV_endless_list dc_endless_list pm_endless_list an_endless_list cd_endless_list ct_endless_list), sl_endless_list⟩) (c_endless_list : PySem.W.codeIn K cd_endless_list "endless_list" = true) (k_endless_list : PySem.W.keepIn K (.ref f_endless_list) = true) (a_law_cell_at : PySem.W.nsIn K mainGlobals "_law_cell_at" = some (some (.ref f_law_cell_at))) (l_law_cell_at : K.lookup f_law_cell_at = some ⟨oc_law_cell_at, od_law_cell_at, .func (PySem.W.fnOf "_law_cell_at" "_law_cell_at" (defArgs s_law_cell_at) (defBody s_law_cell_at) (defScope s_law_cell_at) .none kV_law_cell_at dc_law_cell_at pm_law_cell_at an_law_cell_at cd_law_cell_at ct_law_cell_at), sl_law_cell_at⟩) (c_law_cell_at : PySem.W.codeIn K cd_law_cell_at "_law_cell_at" = true) (k_law_cell_at : PySem.W.keepIn K (.ref f_law_cell_at) = true) (a_law_number : PySem.W.nsIn K mainGlobals "_law_number" = some (some (.ref f_law_number))) (l_law_number : K.lookup f_law_number = some ⟨oc_law_number, od_law_number, .func (PySem.W.fnOf "_law_number" "_law_number" (defArgs s_law_number) (defBody s_law_number) (defScope s_law_number) .none kV_law_number dc_law_number pm_law_number an_law_number cd_law_number ct_law_number), sl_law_number⟩) (c_law_number : PySem.W.codeIn K cd_law_number "_law_number" = true) (k_law_number : PySem.W.keepIn K (.ref f_law_number) = true) (a_law_whole : PySem.W.nsIn K mainGlobals "_law_whole" = some (some (.ref f_law_whole))) (l_law_whole : K.lookup f_law_whole = some ⟨oc_law_whole, od_law_whole, .func (PySem.W.fnOf "_law_whole" "_law_whole" (defArgs s_law_whole) (defBody s_law_whole) (defScope s_law_whole) .none kV_law_whole dc_law_whole pm_law_whole an_law_whole cd_law_whole ct_law_whole), sl_law_whole⟩) (c_law_whole : PySem.W.codeIn K cd_law_whole "_law_whole" = true) (k_law_whole : PySem.W.keepIn K (.ref f_law_whole) = true) (a_law_is_number : PySem.W.nsIn K mainGlobals "_law_is_number" = some (some (.ref f_law_is_number))) (l_law_is_number : K.lookup f_law_is_number = some ⟨oc_law_is_number, od_law_is_number, .func (PySem.W.fnOf "_law_is_number" "_law_is_number" (defArgs s_law_is_number) (defBody s_law_is_number) (defScope s_law_is_number) .none kV_law_is_number dc_law_is_number pm_law_is_number an_law_is_number cd_law_is_number ct_law_is_number), sl_law_is_number⟩) (c_law_is_number : PySem.W.codeIn K cd_law_is_number "_law_is_number" = true) (k_law_is_number : PySem.W.keepIn K (.ref f_law_is_number) = true) (a_law_numbers : PySem.W.nsIn K mainGlobals "_law_numbers" = some (some (.ref f_law_numbers))) (l_law_numbers : K.lookup f_law_numbers = some ⟨oc_law_numbers, od_law_numbers, .func (PySem.W.fnOf "_law_numbers" "_law_numbers" (defArgs s_law_numbers) (defBody s_law_numbers) (defScope s_law_numbers) .none kV_law_numbers dc_law_numbers pm_law_numbers an_law_numbers cd_law_numbers ct_law_numbers), sl_law_numbers⟩) (c_law_numbers : PySem.W.codeIn K cd_law_numbers "_law_numbers" = true) (k_law_numbers : PySem.W.keepIn K (.ref f_law_numbers) = true) (a_law_mixed : PySem.W.nsIn K mainGlobals "_law_mixed" = some (some (.ref f_law_mixed))) (l_law_mixed : K.lookup f_law_mixed = some ⟨oc_law_mixed, od_law_mixed, .func (PySem.W.fnOf "_law_mixed" "_law_mixed" (defArgs s_law_mixed) (defBody s_law_mixed) (defScope s_law_mixed) .none kV_law_mixed dc_law_mixed pm_law_mixed an_law_mixed cd_law_mixed ct_law_mixed), sl_law_mixed⟩) (c_law_mixed : PySem.W.codeIn K cd_law_mixed "_law_mixed" = true) (k_law_mixed : PySem.W.keepIn K (.ref f_law_mixed) = true) (a_law_total : PySem.W.nsIn K mainGlobals "_law_total" = some (some (.ref f_law_total))) (l_law_total : K.lookup f_law_total = some ⟨oc_law_total, od_law_total, .func (PySem.W.fnOf "_law_total" "_law_total" (defArgs s_law_total) (defBody s_law_total) (defScope s_law_total) .none kV_law_total dc_law_total pm_law_total an_law_total cd_law_total ct_law_total), sl_law_total⟩) (c_law_total : PySem.W.codeIn K cd_law_total "_law_total" = true) (k_law_total : PySem.W.keepIn K (.ref f_law_total) = true) (a_law_comes : PySem.W.nsIn K mainGlobals "_law_comes" = some (some (.ref f_law_comes))) (l_law_comes : K.lookup f_law_comes = some ⟨oc_law_comes, od_law_comes, .func (PySem.W.fnOf "_law_comes" "_law_comes" (defArgs s_law_comes) (defBody s_law_comes) (defScope s_law_comes) .none kV_law_comes dc_law_comes pm_law_comes an_law_comes cd_law_comes ct_law_comes), sl_law_comes⟩) (c_law_comes : PySem.W.codeIn K cd_law_comes "_law_comes" = true) (k_law_comes : PySem.W.keepIn K (.ref f_law_comes) = true) (a_law_draw : PySem.W.nsIn K mainGlobals "_law_draw" = some (some (.ref f_law_draw))) (l_law_draw : K.lookup f_law_draw = some ⟨oc_law_draw, od_law_draw, .func (PySem.W.fnOf "_law_draw" "_law_draw" (defArgs s_law_draw) (defBody s_law_draw) (defScope s_law_draw) .none kV_law_draw dc_law_draw pm_law_draw an_law_draw cd_law_draw ct_law_draw), sl_law_draw⟩) (c_law_draw : PySem.W.codeIn K cd_law_draw "_law_draw" = true) (k_law_draw : PySem.W.keepIn K (.ref f_law_draw) = true) (a_law_limit : PySem.W.nsIn K mainGlobals "_law_limit" = some (some (.ref f_law_limit))) (l_law_limit : K.lookup f_law_limit = some ⟨oc_law_limit, od_law_limit, .func (PySem.W.fnOf "_law_limit" "_law_limit" (defArgs s_law_limit) (defBody s_law_limit) (defScope s_law_limit) .none kV_law_limit dc_law_limit pm_law_limit an_law_limit cd_law_limit ct_law_limit), sl_law_limit⟩) (c_law_limit : PySem.W.codeIn K cd_law_limit "_law_limit" = true) (k_law_limit : PySem.W.keepIn K (.ref f_law_limit) = true) (a_law_rows : PySem.W.nsIn K mainGlobals "_law_rows" = some (some (.ref f_law_rows))) (l_law_rows : K.lookup f_law_rows = some ⟨oc_law_rows, od_law_rows, .func (PySem.W.fnOf "_law_rows" "_law_rows" (defArgs s_law_rows) (defBody s_law_rows) (defScope s_law_rows) .none kV_law_rows dc_law_rows pm_law_rows an_law_rows cd_law_rows ct_law_rows), sl_law_rows⟩) (c_law_rows : PySem.W.codeIn K cd_law_rows "_law_rows" = true) (k_law_rows : PySem.W.keepIn K (.ref f_law_rows) = true) (a_law_under : PySem.W.nsIn K mainGlobals "_law_under" = some (some (.ref f_law_under))) (l_law_under : K.lookup f_law_under = some ⟨oc_law_under, od_law_under, .func (PySem.W.fnOf "_law_under" "_law_under" (defArgs s_law_under) (defBody s_law_under) (defScope s_law_under) .none kV_law_under dc_law_under pm_law_under an_law_under cd_law_under ct_law_under), sl_law_under⟩) (c_law_under : PySem.W.codeIn K cd_law_under "_law_under" = true) (k_law_under : PySem.W.keepIn K (.ref f_law_under) = true) (a_law_fits : PySem.W.nsIn K mainGlobals "_law_fits" = some (some (.ref f_law_fits))) (l_law_fits : K.lookup f_law_fits = some ⟨oc_law_fits, od_law_fits, .func (PySem.W.fnOf "_law_fits" "_law_fits" (defArgs s_law_fits) (defBody s_law_fits) (defScope s_law_fits) .none kV_law_fits dc_law_fits pm_law_fits an_law_fits cd_law_fits ct_law_fits), sl_law_fits⟩) (c_law_fits : PySem.W.codeIn K cd_law_fits "_law_fits" = true) (k_law_fits : PySem.W.keepIn K (.ref f_law_fits) = true) (a_law_right : PySem.W.nsIn K mainGlobals "_law_right" = some (some (.ref f_law_right))) (l_law_right : K.lookup f_law_right = some ⟨oc_law_right, od_law_right, .func (PySem.W.fnOf "_law_right" "_law_right" (defArgs s_law_right) (defBody s_law_right) (defScope s_law_right) .none kV_law_right dc_law_right pm_law_right an_law_right cd_law_right ct_law_right), sl_law_right⟩) (c_law_right : PySem.W.codeIn K cd_law_right "_law_right" = true) (k_law_right : PySem.W.keepIn K (.ref f_law_right) = true) (a_law_spoilt : PySem.W.nsIn K mainGlobals "_law_spoilt" = some (some (.ref f_law_spoilt))) (l_law_spoilt : K.lookup f_law_spoilt = some ⟨oc_law_spoilt, od_law_spoilt, .func (PySem.W.fnOf "_law_spoilt" "_law_spoilt" (defArgs s_law_spoilt) (defBody s_law_spoilt) (defScope s_law_spoilt) .none kV_law_spoilt dc_law_spoilt pm_law_spoilt an_law_spoilt cd_law_spoilt ct_law_spoilt), sl_law_spoilt⟩) (c_law_spoilt : PySem.W.codeIn K cd_law_spoilt "_law_spoilt" = true) (k_law_spoilt : PySem.W.keepIn K (.ref f_law_spoilt) = true) (a_law : PySem.W.nsIn K mainGlobals "law" = some (some (.ref f_law))) (l_law : K.lookup f_law = some ⟨oc_law, od_law, .func (PySem.W.fnOf "law" "law" (defArgs s_law) (defBody s_law) (defScope s_law) .none kV_law dc_law pm_law an_law cd_law ct_law), sl_law⟩) (c_law : PySem.W.codeIn K cd_law "law" = true) (k_law : PySem.W.keepIn K (.ref f_law) = true) (a_NOUGHT : PySem.W.nsIn K mainGlobals "NOUGHT" = some (some (.ref c_NOUGHT))) (t_NOUGHT : K.lookup c_NOUGHT = some ⟨.type "tuple", cd_NOUGHT, .seq #[.int 0 ck0_NOUGHT, .int 1 ck1_NOUGHT] cn_NOUGHT, cs_NOUGHT⟩) (z_abs : PySem.W.nsIn K mainGlobals "abs" = some none) (z_all : PySem.W.nsIn K mainGlobals "all" = some none) (z_bool : PySem.W.nsIn K mainGlobals "bool" = some none) (z_enumerate : PySem.W.nsIn K mainGlobals "enumerate" = some none) (z_int : PySem.W.nsIn K mainGlobals "int" = some none) (z_isinstance : PySem.W.nsIn K mainGlobals "isinstance" = some none) (z_len : PySem.W.nsIn K mainGlobals "len" = some none) (z_list : PySem.W.nsIn K mainGlobals "list" = some none) (z_range : PySem.W.nsIn K mainGlobals "range" = some none) (z_sorted : PySem.W.nsIn K mainGlobals "sorted" = some none) (z_tuple : PySem.W.nsIn K mainGlobals "tuple" = some none) (z_zip : PySem.W.nsIn K mainGlobals "zip" = some none) (a_Table : PySem.W.nsIn K mainGlobals "Table" = some (some (.ref C_Table))) (pg_Table : PySem.W.plainGet K C_Table Str.empty = true) (hd_Table : PySem.W.hasDictIn K C_Table = true) (po_Table : PySem.W.plainOver K C_Table = true) (sa_Table : PySem.W.findIn K (.ref C_Table) "__setattr__" = some (some (.builtin "object.__setattr__"))) (mk_Table : PySem.W.makesIn K C_Table = true) (kc_Table : PySem.W.keepIn K (.ref C_Table) = true) (a_Table_init : PySem.W.findIn K (.ref C_Table) "__init__" = some (some (.ref f_Table_init))) (i_Table_init : PySem.W.isFn K (.ref f_Table_init) = true) (l_Table_init : K.lookup f_Table_init = some ⟨oc_Table_init, od_Table_init, .func (PySem.W.fnOf "__init__" "Table.__init__" (defArgs s_Table_init) (defBody s_Table_init) (defScope s_Table_init) .none kV_Table_init dc_Table_init pm_Table_init an_Table_init cd_Table_init ct_Table_init), sl_Table_init⟩) (c_Table_init : PySem.W.codeIn K cd_Table_init "Table.__init__" = true) (k_Table_init : PySem.W.keepIn K (.ref f_Table_init) = true) (a_Table_next_swap : PySem.W.findIn K (.ref C_Table) "next_swap" = some (some (.ref f_Table_next_swap))) (i_Table_next_swap : PySem.W.isFn K (.ref f_Table_next_swap) = true) (l_Table_next_swap : K.lookup f_Table_next_swap = some ⟨oc_Table_next_swap, od_Table_next_swap, .func (PySem.W.fnOf "next_swap" "Table.next_swap" (defArgs s_Table_next_swap) (defBody s_Table_next_swap) (defScope s_Table_next_swap) .none kV_Table_next_swap dc_Table_next_swap pm_Table_next_swap an_Table_next_swap (.ref cA) ct_Table_next_swap), sl_Table_next_swap⟩) (c_Table_next_swap : PySem.W.codeIn K (.ref cA) "Table.next_swap" = true) (k_Table_next_swap : PySem.W.keepIn K (.ref f_Table_next_swap) = true) (a_Table_growing : PySem.W.findIn K (.ref C_Table) "growing" = some (some (.ref f_Table_growing))) (i_Table_growing : PySem.W.isFn K (.ref f_Table_growing) = true) (l_Table_growing : K.lookup f_Table_growing = some ⟨oc_Table_growing, od_Table_growing, .func (PySem.W.fnOf "growing" "Table.growing" (defArgs s_Table_growing) (defBody s_Table_growing) (defScope s_Table_growing) .none kV_Table_growing dc_Table_growing pm_Table_growing an_Table_growing cd_Table_growing ct_Table_growing), sl_Table_growing⟩) (c_Table_growing : PySem.W.codeIn K cd_Table_growing "Table.growing" = true) (k_Table_growing : PySem.W.keepIn K (.ref f_Table_growing) = true) (a_Table_growth : PySem.W.findIn K (.ref C_Table) "growth" = some (some (.ref f_Table_growth))) (i_Table_growth : PySem.W.isFn K (.ref f_Table_growth) = true) (l_Table_growth : K.lookup f_Table_growth = some ⟨oc_Table_growth, od_Table_growth, .func (PySem.W.fnOf "growth" "Table.growth" (defArgs s_Table_growth) (defBody s_Table_growth) (defScope s_Table_growth) .none kV_Table_growth dc_Table_growth pm_Table_growth an_Table_growth cd_Table_growth ct_Table_growth), sl_Table_growth⟩) (c_Table_growth : PySem.W.codeIn K cd_Table_growth "Table.growth" = true) (k_Table_growth : PySem.W.keepIn K (.ref f_Table_growth) = true) (a_Table_line_out : PySem.W.findIn K (.ref C_Table) "line_out" = some (some (.ref f_Table_line_out))) (i_Table_line_out : PySem.W.isFn K (.ref f_Table_line_out) = true) (l_Table_line_out : K.lookup f_Table_line_out = some ⟨oc_Table_line_out, od_Table_line_out, .func (PySem.W.fnOf "line_out" "Table.line_out" (defArgs s_Table_line_out) (defBody s_Table_line_out) (defScope s_Table_line_out) .none kV_Table_line_out dc_Table_line_out pm_Table_line_out an_Table_line_out cd_Table_line_out ct_Table_line_out), sl_Table_line_out⟩) (c_Table_line_out : PySem.W.codeIn K cd_Table_line_out "Table.line_out" = true) (k_Table_line_out : PySem.W.keepIn K (.ref f_Table_line_out) = true) (a_Table_is_sooner : PySem.W.findIn K (.ref C_Table) "is_sooner" = some (some (.ref f_Table_is_sooner))) (i_Table_is_sooner : PySem.W.isFn K (.ref f_Table_is_sooner) = true) (l_Table_is_sooner : K.lookup f_Table_is_sooner = some ⟨oc_Table_is_sooner, od_Table_is_sooner, .func (PySem.W.fnOf "is_sooner" "Table.is_sooner" (defArgs s_Table_is_sooner) (defBody s_Table_is_sooner) (defScope s_Table_is_sooner) .none kV_Table_is_sooner dc_Table_is_sooner pm_Table_is_sooner an_Table_is_sooner cd_Table_is_sooner ct_Table_is_sooner), sl_Table_is_sooner⟩) (c_Table_is_sooner : PySem.W.codeIn K cd_Table_is_sooner "Table.is_sooner" = true) (k_Table_is_sooner : PySem.W.keepIn K (.ref f_Table_is_sooner) = true) (a_Table_swap : PySem.W.findIn K (.ref C_Table) "swap" = some (some (.ref f_Table_swap))) (i_Table_swap : PySem.W.isFn K (.ref f_Table_swap) = true) (l_Table_swap : K.lookup f_Table_swap = some ⟨oc_Table_swap, od_Table_swap, .func (PySem.W.fnOf "swap" "Table.swap" (defArgs s_Table_swap) (defBody s_Table_swap) (defScope s_Table_swap) .none kV_Table_swap dc_Table_swap pm_Table_swap an_Table_swap cd_Table_swap ct_Table_swap), sl_Table_swap⟩) (c_Table_swap : PySem.W.codeIn K cd_Table_swap "Table.swap" = true) (k_Table_swap : PySem.W.keepIn K (.ref f_Table_swap) = true) (a_Table_swapped : PySem.W.findIn K (.ref C_Table) "swapped" = some (some (.ref f_Table_swapped))) (i_Table_swapped : PySem.W.isFn K (.ref f_Table_swapped) = true) (l_Table_swapped : K.lookup f_Table_swapped = some ⟨oc_Table_swapped, od_Table_swapped, .func (PySem.W.fnOf "swapped" "Table.swapped" (defArgs s_Table_swapped) (defBody s_Table_swapped) (defScope s_Table_swapped) .none kV_Table_swapped dc_Table_swapped pm_Table_swapped an_Table_swapped cd_Table_swapped ct_Table_swapped), sl_Table_swapped⟩) (c_Table_swapped : PySem.W.codeIn K cd_Table_swapped "Table.swapped" = true) (k_Table_swapped : PySem.W.keepIn K (.ref f_Table_swapped) = true) (hC : PySem.W.codeHdIn K cA P0 = true) (hKT : K.lookup P0 = none) (ht : l.prog.given.tree = none) (n_lines : PySem.W.findIn K (.ref C_Table) "lines" = some none) (n_bottom : PySem.W.findIn K (.ref C_Table) "bottom" = some none) (n_across : PySem.W.findIn K (.ref C_Table) "across" = some none) (n_down : PySem.W.findIn K (.ref C_Table) "down" = some none) :
    ∃ (cA' : Addr) (fd : FuncData), PySem.W.codeHdIn K cA' P0 = true ∧ K.lookup P0 = none ∧ (∀ (s : Shared) (v : Value), BindsTo s fd ⟨[v], []⟩ [("_law_script", v)]) ∧ ∀ base : Heap, K.In base → base.Ns mainGlobals mg → BMain mg base → FnOk l.prog w K mg base (CXr l.prog w) 42 fa fd ["_law_script"] (spLawT K P0) := by
  have e := hfa.symm.trans (PySem.W.mg_of X G a_law)
  cases e
  have D_is_less : Def K mg "is_less" s_is_less ["one", "other"] := Def.of (fun_mk (st := s_is_less) l_is_less c_is_less k_is_less) ((fun_mk (st := s_is_less) l_is_less c_is_less k_is_less).binds (ps := ["one", "other"]) (fun _ _ _ _ _ _ us hl => match us, hl with | [_, _], _ => rfl)) (PySem.W.mg_of X G a_is_less)
  have D_lowest_terms : Def K mg "lowest_terms" s_lowest_terms ["top", "bottom"] := Def.of (fun_mk (st := s_lowest_terms) l_lowest_terms c_lowest_terms k_lowest_terms) ((fun_mk (st := s_lowest_terms) l_lowest_terms c_lowest_terms k_lowest_terms).binds (ps := ["top", "bottom"]) (fun _ _ _ _ _ _ us hl => match us, hl with | [_, _], _ => rfl)) (PySem.W.mg_of X G a_lowest_terms)
  have D_greatest_shared : Def K mg "greatest_shared" s_greatest_shared ["one", "other"] := Def.of (fun_mk (st := s_greatest_shared) l_greatest_shared c_greatest_shared k_greatest_shared) ((fun_mk (st := s_greatest_shared) l_greatest_shared c_greatest_shared k_greatest_shared).binds (ps := ["one", "other"]) (fun _ _ _ _ _ _ us hl => match us, hl with | [_, _], _ => rfl)) (PySem.W.mg_of X G a_greatest_shared)
  have D_whole_row : Def K mg "whole_row" s_whole_row ["row"] := Def.of (fun_mk (st := s_whole_row) l_whole_row c_whole_row k_whole_row) ((fun_mk (st := s_whole_row) l_whole_row c_whole_row k_whole_row).binds (ps := ["row"]) (fun _ _ _ _ _ _ us hl => match us, hl with | [_], _ => rfl)) (PySem.W.mg_of X G a_whole_row)
  have D_most_of : Def K mg "most_of" s_most_of ["gains", "rows", "limits"] := Def.of (fun_mk (st := s_most_of) l_most_of c_most_of k_most_of) ((fun_mk (st := s_most_of) l_most_of c_most_of k_most_of).binds (ps := ["gains", "rows", "limits"]) (fun _ _ _ _ _ _ us hl => match us, hl with | [_, _, _], _ => rfl)) (PySem.W.mg_of X G a_most_of)
  have D_fitting_list : Def K mg "fitting_list" s_fitting_list ["table"] := Def.of (fun_mk (st := s_fitting_list) l_fitting_list c_fitting_list k_fitting_list) ((fun_mk (st := s_fitting_list) l_fitting_list c_fitting_list k_fitting_list).binds (ps := ["table"]) (fun _ _ _ _ _ _ us hl => match us, hl with | [_], _ => rfl)) (PySem.W.mg_of X G a_fitting_list)
  have D_price_list : Def K mg "price_list" s_price_list ["table", "wholes", "bottom"] := Def.of (fun_mk (st := s_price_list) l_price_list c_price_list k_price_list) ((fun_mk (st := s_price_list) l_price_list c_price_list k_price_list).binds (ps := ["table", "wholes", "bottom"]) (fun _ _ _ _ _ _ us hl => match us, hl with | [_, _, _], _ => rfl)) (PySem.W.mg_of X G a_price_list)
  have D_endless_list : Def K mg "endless_list" s_endless_list ["table", "column", "bottom"] := Def.of (fun_mk (st := s_endless_list) l_endless_list c_endless_list k_endless_list) ((fun_mk (st := s_endless_list) l_endless_list c_endless_list k_endless_list).binds (ps := ["table", "column", "bottom"]) (fun _ _ _ _ _ _ us hl => match us, hl with | [_, _, _], _ => rfl)) (PySem.W.mg_of X G a_endless_list)
  have D_law_cell_at : Def K mg "_law_cell_at" s_law_cell_at ["_law_script", "_law_k"] := Def.of (fun_mk (st := s_law_cell_at) l_law_cell_at c_law_cell_at k_law_cell_at) ((fun_mk (st := s_law_cell_at) l_law_cell_at c_law_cell_at k_law_cell_at).binds (ps := ["_law_script", "_law_k"]) (fun _ _ _ _ _ _ us hl => match us, hl with | [_, _], _ => rfl)) (PySem.W.mg_of X G a_law_cell_at)
  have D_law_number : Def K mg "_law_number" s_law_number ["_law_top", "_law_bottom"] := Def.of (fun_mk (st := s_law_number) l_law_number c_law_number k_law_number) ((fun_mk (st := s_law_number) l_law_number c_law_number k_law_number).binds (ps := ["_law_top", "_law_bottom"]) (fun _ _ _ _ _ _ us hl => match us, hl with | [_, _], _ => rfl)) (PySem.W.mg_of X G a_law_number)
  have D_law_whole : Def K mg "_law_whole" s_law_whole ["_law_found"] := Def.of (fun_mk (st := s_law_whole) l_law_whole c_law_whole k_law_whole) ((fun_mk (st := s_law_whole) l_law_whole c_law_whole k_law_whole).binds (ps := ["_law_found"]) (fun _ _ _ _ _ _ us hl => match us, hl with | [_], _ => rfl)) (PySem.W.mg_of X G a_law_whole)
  have D_law_is_number : Def K mg "_law_is_number" s_law_is_number ["_law_found"] := Def.of (fun_mk (st := s_law_is_number) l_law_is_number c_law_is_number k_law_is_number) ((fun_mk (st := s_law_is_number) l_law_is_number c_law_is_number k_law_is_number).binds (ps := ["_law_found"]) (fun _ _ _ _ _ _ us hl => match us, hl with | [_], _ => rfl)) (PySem.W.mg_of X G a_law_is_number)
  have D_law_numbers : Def K mg "_law_numbers" s_law_numbers ["_law_found", "_law_many"] := Def.of (fun_mk (st := s_law_numbers) l_law_numbers c_law_numbers k_law_numbers) ((fun_mk (st := s_law_numbers) l_law_numbers c_law_numbers k_law_numbers).binds (ps := ["_law_found", "_law_many"]) (fun _ _ _ _ _ _ us hl => match us, hl with | [_, _], _ => rfl)) (PySem.W.mg_of X G a_law_numbers)
  have D_law_mixed : Def K mg "_law_mixed" s_law_mixed ["_law_script", "_law_k"] := Def.of (fun_mk (st := s_law_mixed) l_law_mixed c_law_mixed k_law_mixed) ((fun_mk (st := s_law_mixed) l_law_mixed c_law_mixed k_law_mixed).binds (ps := ["_law_script", "_law_k"]) (fun _ _ _ _ _ _ us hl => match us, hl with | [_, _], _ => rfl)) (PySem.W.mg_of X G a_law_mixed)
  have D_law_total : Def K mg "_law_total" s_law_total ["_law_row", "_law_xs"] := Def.of (fun_mk (st := s_law_total) l_law_total c_law_total k_law_total) ((fun_mk (st := s_law_total) l_law_total c_law_total k_law_total).binds (ps := ["_law_row", "_law_xs"]) (fun _ _ _ _ _ _ us hl => match us, hl with | [_, _], _ => rfl)) (PySem.W.mg_of X G a_law_total)
  have D_law_comes : Def K mg "_law_comes" s_law_comes ["_law_row", "_law_xs", "_law_due"] := Def.of (fun_mk (st := s_law_comes) l_law_comes c_law_comes k_law_comes) ((fun_mk (st := s_law_comes) l_law_comes c_law_comes k_law_comes).binds (ps := ["_law_row", "_law_xs", "_law_due"]) (fun _ _ _ _ _ _ us hl => match us, hl with | [_, _, _], _ => rfl)) (PySem.W.mg_of X G a_law_comes)
  have D_law_draw : Def K mg "_law_draw" s_law_draw ["_law_cell", "_law_kind"] := Def.of (fun_mk (st := s_law_draw) l_law_draw c_law_draw k_law_draw) ((fun_mk (st := s_law_draw) l_law_draw c_law_draw k_law_draw).binds (ps := ["_law_cell", "_law_kind"]) (fun _ _ _ _ _ _ us hl => match us, hl with | [_, _], _ => rfl)) (PySem.W.mg_of X G a_law_draw)
  have D_law_limit : Def K mg "_law_limit" s_law_limit ["_law_cell", "_law_kind"] := Def.of (fun_mk (st := s_law_limit) l_law_limit c_law_limit k_law_limit) ((fun_mk (st := s_law_limit) l_law_limit c_law_limit k_law_limit).binds (ps := ["_law_cell", "_law_kind"]) (fun _ _ _ _ _ _ us hl => match us, hl with | [_, _], _ => rfl)) (PySem.W.mg_of X G a_law_limit)
  have D_law_rows : Def K mg "_law_rows" s_law_rows ["_law_script", "_law_many", "_law_count", "_law_kind"] := Def.of (fun_mk (st := s_law_rows) l_law_rows c_law_rows k_law_rows) ((fun_mk (st := s_law_rows) l_law_rows c_law_rows k_law_rows).binds (ps := ["_law_script", "_law_many", "_law_count", "_law_kind"]) (fun _ _ _ _ _ _ us hl => match us, hl with | [_, _, _, _], _ => rfl)) (PySem.W.mg_of X G a_law_rows)
  have D_law_under : Def K mg "_law_under" s_law_under ["_law_row", "_law_xs", "_law_due"] := Def.of (fun_mk (st := s_law_under) l_law_under c_law_under k_law_under) ((fun_mk (st := s_law_under) l_law_under c_law_under k_law_under).binds (ps := ["_law_row", "_law_xs", "_law_due"]) (fun _ _ _ _ _ _ us hl => match us, hl with | [_, _, _], _ => rfl)) (PySem.W.mg_of X G a_law_under)
  have D_law_fits : Def K mg "_law_fits" s_law_fits ["_law_xs", "_law_rows_here", "_law_limits"] := Def.of (fun_mk (st := s_law_fits) l_law_fits c_law_fits k_law_fits) ((fun_mk (st := s_law_fits) l_law_fits c_law_fits k_law_fits).binds (ps := ["_law_xs", "_law_rows_here", "_law_limits"]) (fun _ _ _ _ _ _ us hl => match us, hl with | [_, _, _], _ => rfl)) (PySem.W.mg_of X G a_law_fits)
  have D_law_right : Def K mg "_law_right" s_law_right ["_law_found", "_law_gains", "_law_rows_here", "_law_limits"] := Def.of (fun_mk (st := s_law_right) l_law_right c_law_right k_law_right) ((fun_mk (st := s_law_right) l_law_right c_law_right k_law_right).binds (ps := ["_law_found", "_law_gains", "_law_rows_here", "_law_limits"]) (fun _ _ _ _ _ _ us hl => match us, hl with | [_, _, _, _], _ => rfl)) (PySem.W.mg_of X G a_law_right)
  have D_law_spoilt : Def K mg "_law_spoilt" s_law_spoilt ["_law_rows_here", "_law_limits", "_law_cell"] := Def.of (fun_mk (st := s_law_spoilt) l_law_spoilt c_law_spoilt k_law_spoilt) ((fun_mk (st := s_law_spoilt) l_law_spoilt c_law_spoilt k_law_spoilt).binds (ps := ["_law_rows_here", "_law_limits", "_law_cell"]) (fun _ _ _ _ _ _ us hl => match us, hl with | [_, _, _], _ => rfl)) (PySem.W.mg_of X G a_law_spoilt)
  have cls_Table : Cls K C_Table := ⟨pg_Table, hd_Table, po_Table, sa_Table⟩
  have M_Table : Mk K C_Table f_Table_init := ⟨mk_Table, a_Table_init, i_Table_init, kc_Table⟩
  have F_Table_init := fun_mk (st := s_Table_init) l_Table_init c_Table_init k_Table_init
  have b_Table_init := F_Table_init.binds (ps := ["self", "lines"]) (fun _ _ _ _ _ _ us hl => match us, hl with | [_, _], _ => rfl)
  have m_Table_init : Meth K C_Table "__init__" f_Table_init := ⟨a_Table_init, i_Table_init, k_Table_init⟩
  have F_Table_next_swap := fun_mk (st := s_Table_next_swap) l_Table_next_swap c_Table_next_swap k_Table_next_swap
  have b_Table_next_swap := F_Table_next_swap.binds (ps := ["self"]) (fun _ _ _ _ _ _ us hl => match us, hl with | [_], _ => rfl)
  have m_Table_next_swap : Meth K C_Table "next_swap" f_Table_next_swap := ⟨a_Table_next_swap, i_Table_next_swap, k_Table_next_swap⟩
  have F_Table_growing := fun_mk (st := s_Table_growing) l_Table_growing c_Table_growing k_Table_growing
  have b_Table_growing := F_Table_growing.binds (ps := ["self"]) (fun _ _ _ _ _ _ us hl => match us, hl with | [_], _ => rfl)
  have m_Table_growing : Meth K C_Table "growing" f_Table_growing := ⟨a_Table_growing, i_Table_growing, k_Table_growing⟩
  have F_Table_growth := fun_mk (st := s_Table_growth) l_Table_growth c_Table_growth k_Table_growth
  have b_Table_growth := F_Table_growth.binds (ps := ["self", "two"]) (fun _ _ _ _ _ _ us hl => match us, hl with | [_, _], _ => rfl)
  have m_Table_growth : Meth K C_Table "growth" f_Table_growth := ⟨a_Table_growth, i_Table_growth, k_Table_growth⟩
  have F_Table_line_out := fun_mk (st := s_Table_line_out) l_Table_line_out c_Table_line_out k_Table_line_out
  have b_Table_line_out := F_Table_line_out.binds (ps := ["self", "column"]) (fun _ _ _ _ _ _ us hl => match us, hl with | [_, _], _ => rfl)
  have m_Table_line_out : Meth K C_Table "line_out" f_Table_line_out := ⟨a_Table_line_out, i_Table_line_out, k_Table_line_out⟩
  have F_Table_is_sooner := fun_mk (st := s_Table_is_sooner) l_Table_is_sooner c_Table_is_sooner k_Table_is_sooner
  have b_Table_is_sooner := F_Table_is_sooner.binds (ps := ["self", "at", "best", "column"]) (fun _ _ _ _ _ _ us hl => match us, hl with | [_, _, _, _], _ => rfl)
  have m_Table_is_sooner : Meth K C_Table "is_sooner" f_Table_is_sooner := ⟨a_Table_is_sooner, i_Table_is_sooner, k_Table_is_sooner⟩
  have F_Table_swap := fun_mk (st := s_Table_swap) l_Table_swap c_Table_swap k_Table_swap
  have b_Table_swap := F_Table_swap.binds (ps := ["self", "at", "column"]) (fun _ _ _ _ _ _ us hl => match us, hl with | [_, _, _], _ => rfl)
  have m_Table_swap : Meth K C_Table "swap" f_Table_swap := ⟨a_Table_swap, i_Table_swap, k_Table_swap⟩
  have F_Table_swapped := fun_mk (st := s_Table_swapped) l_Table_swapped c_Table_swapped k_Table_swapped
  have b_Table_swapped := F_Table_swapped.binds (ps := ["self", "line", "lead", "column"]) (fun _ _ _ _ _ _ us hl => match us, hl with | [_, _, _, _], _ => rfl)
  have m_Table_swapped : Meth K C_Table "swapped" f_Table_swapped := ⟨a_Table_swapped, i_Table_swapped, k_Table_swapped⟩
  have m_NOUGHT : mg "NOUGHT" = some (.ref c_NOUGHT) := PySem.W.mg_of X G a_NOUGHT
  have m_Table : mg "Table" = some (.ref C_Table) := PySem.W.mg_of X G a_Table
  have m_abs : mg "abs" = none := PySem.W.mg_none_of X G z_abs
  have m_all : mg "all" = none := PySem.W.mg_none_of X G z_all
  have m_bool : mg "bool" = none := PySem.W.mg_none_of X G z_bool
  have m_enumerate : mg "enumerate" = none := PySem.W.mg_none_of X G z_enumerate
  have m_int : mg "int" = none := PySem.W.mg_none_of X G z_int
  have m_isinstance : mg "isinstance" = none := PySem.W.mg_none_of X G z_isinstance
  have m_len : mg "len" = none := PySem.W.mg_none_of X G z_len
  have m_list : mg "list" = none := PySem.W.mg_none_of X G z_list
  have m_range : mg "range" = none := PySem.W.mg_none_of X G z_range
  have m_sorted : mg "sorted" = none := PySem.W.mg_none_of X G z_sorted
  have m_tuple : mg "tuple" = none := PySem.W.mg_none_of X G z_tuple
  have m_zip : mg "zip" = none := PySem.W.mg_none_of X G z_zip
  have F := fun_mk (st := s_law) l_law c_law k_law
  refine ⟨cA, PySem.W.fnOf "law" "law" (defArgs s_law) (defBody s_law) (defScope s_law) .none kV_law dc_law pm_law an_law cd_law ct_law, hC, hKT, fun s v => .of_eq rfl, fun base _ _ hB => ?_⟩
  have hM : Mute (CXr l.prog w) := CXr.mute
  have hN : ∀ H : Hp, SqT K H c_NOUGHT [.int 0, .int 1] := fun H => .inr ⟨_, _, _, t_NOUGHT, rfl, rfl, (by show 2 ≤ sizeLine; decide), .cons ⟨_, rfl⟩ (.cons ⟨_, rfl⟩ .nil)⟩
  have tc : TabC K C_Table := ⟨cls_Table, n_lines, n_bottom, n_across, n_down⟩
  have G1 := ok_greatest_shared (P := l.prog) (w := w) (base := base) (CX := CXr l.prog w) D_greatest_shared m_abs
  have G2 := ok_lowest_terms ht D_lowest_terms G1
  have GL := ok_is_less (P := l.prog) (w := w) (base := base) (CX := CXr l.prog w) D_is_less
  have GW := ok_whole_row D_whole_row G1
  have GI := ok_Table_init (P := l.prog) (w := w) (mg := mg) (base := base) F_Table_init tc m_len m_list m_range
  have MG : MtdOk l.prog w K mg base (CXr l.prog w) 1 C_Table "growing" ["self"] (spGrowing C_Table) := ⟨_, _, cls_Table, m_Table_growing, ok_Table_growing F_Table_growing tc m_range m_len, b_Table_growing⟩
  have MW : MtdOk l.prog w K mg base (CXr l.prog w) 1 C_Table "growth" ["self", "two"] (spGrowth C_Table) := ⟨_, _, cls_Table, m_Table_growth, ok_Table_growth F_Table_growth tc, b_Table_growth⟩
  have MS : MtdOk l.prog w K mg base (CXr l.prog w) 1 C_Table "is_sooner" ["self", "at", "best", "column"] (spSooner C_Table) := ⟨_, _, cls_Table, m_Table_is_sooner, ok_Table_is_sooner F_Table_is_sooner tc, b_Table_is_sooner⟩
  have MO : MtdOk l.prog w K mg base (CXr l.prog w) 2 C_Table "line_out" ["self", "column"] (spLineOut C_Table) := ⟨_, _, cls_Table, m_Table_line_out, ok_Table_line_out F_Table_line_out tc m_range m_len MS, b_Table_line_out⟩
  have MN : MtdOk l.prog w K mg base (CXr l.prog w) 3 C_Table "next_swap" ["self"] (spNext C_Table P0) := ⟨_, _, cls_Table, m_Table_next_swap, ok_Table_next_swap l_Table_next_swap c_Table_next_swap hC hB tc m_sorted MG MO MW GL, b_Table_next_swap⟩
  have MP : MtdOk l.prog w K mg base (CXr l.prog w) 33 C_Table "swapped" ["self", "line", "lead", "column"] (spSwapped C_Table) := ⟨_, _, cls_Table, m_Table_swapped, ok_Table_swapped ht F_Table_swapped tc m_zip, b_Table_swapped⟩
  have MX : MtdOk l.prog w K mg base (CXr l.prog w) 34 C_Table "swap" ["self", "at", "column"] (spSwap C_Table) := ⟨_, _, cls_Table, m_Table_swap, ok_Table_swap F_Table_swap tc m_list MP, b_Table_swap⟩
  have GMo := ok_most_of tc m_zip m_Table M_Table GI b_Table_init MN MX D_most_of GW G2 (ok_fitting_list hN m_NOUGHT m_len m_enumerate tc D_fitting_list G2) (ok_price_list hN m_NOUGHT m_len m_enumerate tc D_price_list G2) (ok_endless_list hN m_NOUGHT m_len m_enumerate tc D_endless_list G2)
  have GC := ok_law_cell_at (P := l.prog) (w := w) (base := base) (CX := CXr l.prog w) D_law_cell_at m_len
  have GM := ok_law_mixed D_law_mixed m_len GC
  have G3 := ok_law_number (w := w) (base := base) ht D_law_number m_abs
  have GD := ok_law_draw D_law_draw G3
  have GT := ok_law_limit D_law_limit G3
  have GR := ok_law_rows D_law_rows m_range GD GM
  have GWh := ok_law_whole (P := l.prog) (w := w) (base := base) (CX := CXr l.prog w) D_law_whole m_isinstance m_int m_bool
  have GTo := ok_law_total (P := l.prog) (w := w) (base := base) D_law_total m_len m_range
  have GN := ok_law_is_number D_law_is_number m_isinstance m_len m_tuple GWh G3
  have GNs := ok_law_numbers D_law_numbers m_isinstance m_len m_list m_all GN
  have GCo := ok_law_comes D_law_comes GTo
  have GU := ok_law_under D_law_under GTo
  have GF := ok_law_fits D_law_fits m_all m_range m_len GU
  have GRi := ok_law_right D_law_right m_isinstance m_tuple m_len m_all m_range GNs GF GCo GN GTo
  exact ok_law F m_range m_list m_len GC GM GD GT GR (ok_law_spoilt D_law_spoilt m_len m_list) GMo GRi
end T_k71
open PySem PySem.W PyProof.Rows
set_option maxRecDepth 100000 in
set_option maxHeartbeats 0 in
theorem PySem.Challenge.cw_trussyard_k71_most_or_endless_holds : PySem.Challenge.rw_trussyard_k71_most_or_endless.Holds := by
  w_on; o_law; k_head; (case hw => w_witness2)
  k_fill
  refine Ty.walkT (l := PySem.Challenge.rw_trussyard_k71_most_or_endless) (x := "_law_script") (k := 42) (CX := fun w => Ty.CXr (PySem.Challenge.rw_trussyard_k71_most_or_endless).prog w) rfl rfl (by first | rfl | decide +kernel) ⟨rfl, by decide, by decide⟩ (fun w h Y => ⟨Y.1, Y.2 _ (List.Mem.head _)⟩) (fun w => Ty.CXr.mute) ?F
  case F =>
    intro w mg fa h KX G hmg
    refine' T_k71.all_mk KX G hmg ?a_is_less ?l_is_less ?c_is_less ?k_is_less ?a_lowest_terms ?l_lowest_terms ?c_lowest_terms ?k_lowest_terms ?a_greatest_shared ?l_greatest_shared ?c_greatest_shared ?k_greatest_shared ?a_whole_row ?l_whole_row ?c_whole_row ?k_whole_row ?a_most_of ?l_most_of ?c_most_of ?k_most_of ?a_fitting_list ?l_fitting_list ?c_fitting_list ?k_fitting_list ?a_price_list ?l_price_list ?c_price_list ?k_price_list ?a_endless_list ?l_endless_list ?c_endless_list ?k_endless_list ?a_law_cell_at ?l_law_cell_at ?c_law_cell_at ?k_law_cell_at ?a_law_number ?l_law_number ?c_law_number ?k_law_number ?a_law_whole ?l_law_whole ?c_law_whole ?k_law_whole ?a_law_is_number ?l_law_is_number ?c_law_is_number ?k_law_is_number ?a_law_numbers ?l_law_numbers ?c_law_numbers ?k_law_numbers ?a_law_mixed ?l_law_mixed ?c_law_mixed ?k_law_mixed ?a_law_total ?l_law_total ?c_law_total ?k_law_total ?a_law_comes ?l_law_comes ?c_law_comes ?k_law_comes ?a_law_draw ?l_law_draw ?c_law_draw ?k_law_draw ?a_law_limit ?l_law_limit ?c_law_limit ?k_law_limit ?a_law_rows ?l_law_rows ?c_law_rows ?k_law_rows ?a_law_under ?l_law_under ?c_law_under ?k_law_under ?a_law_fits ?l_law_fits ?c_law_fits ?k_law_fits ?a_law_right ?l_law_right ?c_law_right ?k_law_right ?a_law_spoilt ?l_law_spoilt ?c_law_spoilt ?k_law_spoilt ?a_law ?l_law ?c_law ?k_law ?a_NOUGHT ?t_NOUGHT ?z_abs ?z_all ?z_bool ?z_enumerate ?z_int ?z_isinstance ?z_len ?z_list ?z_range ?z_sorted ?z_tuple ?z_zip ?a_Table ?pg_Table ?hd_Table ?po_Table ?sa_Table ?mk_Table ?kc_Table ?a_Table_init ?i_Table_init ?l_Table_init ?c_Table_init ?k_Table_init ?a_Table_next_swap ?i_Table_next_swap ?l_Table_next_swap ?c_Table_next_swap ?k_Table_next_swap ?a_Table_growing ?i_Table_growing ?l_Table_growing ?c_Table_growing ?k_Table_growing ?a_Table_growth ?i_Table_growth ?l_Table_growth ?c_Table_growth ?k_Table_growth ?a_Table_line_out ?i_Table_line_out ?l_Table_line_out ?c_Table_line_out ?k_Table_line_out ?a_Table_is_sooner ?i_Table_is_sooner ?l_Table_is_sooner ?c_Table_is_sooner ?k_Table_is_sooner ?a_Table_swap ?i_Table_swap ?l_Table_swap ?c_Table_swap ?k_Table_swap ?a_Table_swapped ?i_Table_swapped ?l_Table_swapped ?c_Table_swapped ?k_Table_swapped ?hC ?hKT ?ht ?n_lines ?n_bottom ?n_across ?n_down
    (case a_is_less => k_is); (case l_is_less => k_is); (case c_is_less => k_is); (case k_is_less => k_is); (case a_lowest_terms => k_is); (case l_lowest_terms => k_is); (case c_lowest_terms => k_is); (case k_lowest_terms => k_is); (case a_greatest_shared => k_is); (case l_greatest_shared => k_is); (case c_greatest_shared => k_is); (case k_greatest_shared => k_is); (case a_whole_row => k_is); (case l_whole_row => k_is); (case c_whole_row => k_is); (case k_whole_row => k_is); (case a_most_of => k_is); (case l_most_of => k_is); (case c_most_of => k_is); (case k_most_of => k_is); (case a_fitting_list => k_is); (case l_fitting_list => k_is); (case c_fitting_list => k_is); (case k_fitting_list => k_is); (case a_price_list => k_is); (case l_price_list => k_is); (case c_price_list => k_is); (case k_price_list => k_is); (case a_endless_list => k_is); (case l_endless_list => k_is); (case c_endless_list => k_is); (case k_endless_list => k_is); (case a_law_cell_at => k_is); (case l_law_cell_at => k_is); (case c_law_cell_at => k_is); (case k_law_cell_at => k_is); (case a_law_number => k_is); (case l_law_number => k_is); (case c_law_number => k_is); (case k_law_number => k_is); (case a_law_whole => k_is); (case l_law_whole => k_is); (case c_law_whole => k_is); (case k_law_whole => k_is); (case a_law_is_number => k_is); (case l_law_is_number => k_is); (case c_law_is_number => k_is); (case k_law_is_number => k_is); (case a_law_numbers => k_is); (case l_law_numbers => k_is); (case c_law_numbers => k_is); (case k_law_numbers => k_is); (case a_law_mixed => k_is); (case l_law_mixed => k_is); (case c_law_mixed => k_is); (case k_law_mixed => k_is); (case a_law_total => k_is); (case l_law_total => k_is); (case c_law_total => k_is); (case k_law_total => k_is); (case a_law_comes => k_is); (case l_law_comes => k_is); (case c_law_comes => k_is); (case k_law_comes => k_is); (case a_law_draw => k_is); (case l_law_draw => k_is); (case c_law_draw => k_is); (case k_law_draw => k_is); (case a_law_limit => k_is); (case l_law_limit => k_is); (case c_law_limit => k_is); (case k_law_limit => k_is); (case a_law_rows => k_is); (case l_law_rows => k_is); (case c_law_rows => k_is); (case k_law_rows => k_is); (case a_law_under => k_is); (case l_law_under => k_is); (case c_law_under => k_is); (case k_law_under => k_is); (case a_law_fits => k_is); (case l_law_fits => k_is); (case c_law_fits => k_is); (case k_law_fits => k_is); (case a_law_right => k_is); (case l_law_right => k_is); (case c_law_right => k_is); (case k_law_right => k_is); (case a_law_spoilt => k_is); (case l_law_spoilt => k_is); (case c_law_spoilt => k_is); (case k_law_spoilt => k_is); (case a_law => k_is); (case l_law => k_is); (case c_law => k_is); (case k_law => k_is); (case a_NOUGHT => k_is); (case t_NOUGHT => k_is); (case z_abs => k_is); (case z_all => k_is); (case z_bool => k_is); (case z_enumerate => k_is); (case z_int => k_is); (case z_isinstance => k_is); (case z_len => k_is); (case z_list => k_is); (case z_range => k_is); (case z_sorted => k_is); (case z_tuple => k_is); (case z_zip => k_is); (case a_Table => k_is); (case pg_Table => k_is); (case hd_Table => k_is); (case po_Table => k_is); (case sa_Table => k_is); (case mk_Table => k_is); (case kc_Table => k_is); (case a_Table_init => k_is); (case i_Table_init => k_is); (case l_Table_init => k_is); (case c_Table_init => k_is); (case k_Table_init => k_is); (case a_Table_next_swap => k_is); (case i_Table_next_swap => k_is); (case l_Table_next_swap => k_is); (case c_Table_next_swap => k_is); (case k_Table_next_swap => k_is); (case a_Table_growing => k_is); (case i_Table_growing => k_is); (case l_Table_growing => k_is); (case c_Table_growing => k_is); (case k_Table_growing => k_is); (case a_Table_growth => k_is); (case i_Table_growth => k_is); (case l_Table_growth => k_is); (case c_Table_growth => k_is); (case k_Table_growth => k_is); (case a_Table_line_out => k_is); (case i_Table_line_out => k_is); (case l_Table_line_out => k_is); (case c_Table_line_out => k_is); (case k_Table_line_out => k_is); (case a_Table_is_sooner => k_is); (case i_Table_is_sooner => k_is); (case l_Table_is_sooner => k_is); (case c_Table_is_sooner => k_is); (case k_Table_is_sooner => k_is); (case a_Table_swap => k_is); (case i_Table_swap => k_is); (case l_Table_swap => k_is); (case c_Table_swap => k_is); (case k_Table_swap => k_is); (case a_Table_swapped => k_is); (case i_Table_swapped => k_is); (case l_Table_swapped => k_is); (case c_Table_swapped => k_is); (case k_Table_swapped => k_is); (case hC => kernel_rfl); (case hKT => kernel_rfl); (case ht => rfl); (case n_lines => k_is); (case n_bottom => k_is); (case n_across => k_is); (case n_down => k_is)
#print axioms PySem.Challenge.cw_trussyard_k71_most_or_endless_holds



