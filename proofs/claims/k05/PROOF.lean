import PyProof.Rows.All
import Wide.All
import OpenK.AllK
import Wide.FinOn
import Lean
import PyProof.EqAt
import PyProof.EqKinds
import PyProof.TupleCall
import PyProof.ZipIter
import PyProof.SumWalkG
import PyProof.ListCopy
import PyProof.ListStr
import PyProof.DictItems
import PyProof.DictWalks
import PyProof.DictTruth
import PyProof.EnumMake
import PySem.Challenge.RW_trussyard_k05_texts_read
set_option Elab.async false
set_option linter.all false
set_option maxRecDepth 100000
def PySem.W.Fast.tw2917880276927753078 : Unit := ()
def PySem.W.Fast.tw1658950093296529592 : Unit := ()
def PySem.W.Fast.tw8225318080436969141 : Unit := ()
def PySem.W.Fast.tw9481974848696798827 : Unit := ()
def PySem.W.Fast.tw4823909476154993661 : Unit := ()
def PySem.W.Fast.tw12503774217911888629 : Unit := ()
def PySem.W.Fast.tw987993277178117020 : Unit := ()
def PySem.W.Fast.tw15449643186484061712 : Unit := ()
def PySem.W.Fast.tw3907464606610085874 : Unit := ()
def PySem.W.Fast.tw5876584175781311056 : Unit := ()
def PySem.W.Fast.tw5737243938727889711 : Unit := ()
def PySem.W.Fast.tw6009169596656247255 : Unit := ()
def PySem.W.Fast.tw13045571663294712040 : Unit := ()
def PySem.W.Fast.tw8081853519795487357 : Unit := ()
def PySem.W.Fast.tw17050921736473271034 : Unit := ()
def PySem.W.Fast.tw12912028713446317462 : Unit := ()
def PySem.W.Fast.tw2123162903199784440 : Unit := ()
def PySem.W.Fast.tw1822267310841382205 : Unit := ()
def PySem.W.Fast.tw3048153231862752657 : Unit := ()
def PySem.W.Fast.tw2778691601162063414 : Unit := ()
def PySem.W.Fast.tw649206439770794727 : Unit := ()
def PySem.W.Fast.tw12767905733534371042 : Unit := ()

namespace L2
open PySem PySem.Spec PyProof.Rows

abbrev Key := Sum Int Str
def keyIs : Key → Value → Bool
  | .inl k, v => Value.isInt k v
  | .inr x, v => Value.isStrOf x v
def keyH (w : World) : Key → Int
  | .inl k => hashInt k
  | .inr x => hashStr w x
theorem keyIs_shape : ∀ {k : Key} {v : Value}, keyIs k v = true → (∃ i t, k = Sum.inl i ∧ v = Value.int i t) ∨ (∃ x t, k = Sum.inr x ∧ v = Value.str x t)
  | .inl i, v, h => by
    obtain ⟨t, e⟩ := Value.isInt_shape (k := i) (v := v) h
    exact .inl ⟨i, t, rfl, e⟩
  | .inr x, v, h => by
    obtain ⟨t, e⟩ := Value.isStrOf_shape (x := x) (v := v) h
    exact .inr ⟨x, t, rfl, e⟩
theorem key_ll (a b : Int) : decide ((Sum.inl a : Key) = Sum.inl b) = (a == b) := by
  by_cases e : a = b
  · subst e; simp
  · have h : ¬ (Sum.inl a : Key) = Sum.inl b := fun q => e (Sum.inl.inj q)
    rw [decide_eq_false h]
    exact (beq_eq_false_iff_ne.mpr e).symm
theorem key_rr (a b : Str) : decide ((Sum.inr a : Key) = Sum.inr b) = decide (a = b) := by
  by_cases e : a = b
  · subst e; simp
  · have h : ¬ (Sum.inr a : Key) = Sum.inr b := fun q => e (Sum.inr.inj q)
    rw [decide_eq_false h, decide_eq_false e]
theorem key_lr (a : Int) (b : Str) : decide ((Sum.inl a : Key) = Sum.inr b) = false := decide_eq_false (fun q => nomatch q)
theorem key_rl (a : Str) (b : Int) : decide ((Sum.inr a : Key) = Sum.inl b) = false := decide_eq_false (fun q => nomatch q)

def mixKind (prog : Program) (w : World) : PySem.KeyKind prog w Key where
  is := keyIs
  hash := keyH w
  inj := fun v a b ha hb => by
    rcases keyIs_shape ha with ⟨i, t, rfl, rfl⟩ | ⟨x, t, rfl, rfl⟩
    · rcases keyIs_shape hb with ⟨j, u, rfl, e⟩ | ⟨y, u, rfl, e⟩
      · injection e with e1 _; rw [e1]
      · exact nomatch e
    · rcases keyIs_shape hb with ⟨j, u, rfl, e⟩ | ⟨y, u, rfl, e⟩
      · exact nomatch e
      · injection e with e1 _; rw [e1]
  byValue := fun k v h => by
    rcases keyIs_shape h with ⟨i, t, rfl, rfl⟩ | ⟨x, t, rfl, rfl⟩ <;> rfl
  pyHash := fun hv h => by
    rcases keyIs_shape hv with ⟨i, t, rfl, rfl⟩ | ⟨x, t, rfl, rfl⟩
    · exact wpAny_pyHash_int h
    · exact wpAny_pyHash_str h
  eqBool := fun hu hv h => by
    rcases keyIs_shape hu with ⟨i, t, rfl, rfl⟩ | ⟨x, t, rfl, rfl⟩
    · rcases keyIs_shape hv with ⟨j, u, rfl, rfl⟩ | ⟨y, u, rfl, rfl⟩
      · rw [key_ll] at h; exact wpAny_eqBool_int h
      · rw [key_lr] at h; exact SeqAt.EqAt.int_str i t y u _ _ _ _ h
    · rcases keyIs_shape hv with ⟨j, u, rfl, rfl⟩ | ⟨y, u, rfl, rfl⟩
      · rw [key_rl] at h; exact SeqAt.EqAt.str_int x t j u _ _ _ _ h
      · rw [key_rr] at h; exact wpAny_eqBool_str h
  «strs» := fun k x t v h => by
    rcases keyIs_shape h with ⟨i, u, rfl, e⟩ | ⟨y, u, rfl, e⟩
    · exact nomatch e
    · injection e with e1 _
      subst e1
      cases v <;> rfl

end L2

namespace L2
open PySem PySem.Spec PyProof.Rows

inductive V where
  | non | bl (b : Bool) | int (i : Int) | str (x : Str) | byt (b : Array UInt8) | flt (b : UInt64) | ref (a : Addr) | ty (n : String)
  deriving DecidableEq

def RelV : V → Value → Prop
  | .non, u => u = Value.none
  | .bl b, u => u = Value.bool b
  | .int i, u => ∃ t, u = Value.int i t
  | .str x, u => ∃ t, u = Value.str x t
  | .byt b, u => ∃ t, u = Value.bytes b t
  | .flt b, u => ∃ t, u = Value.float b t
  | .ref a, u => u = Value.ref a
  | .ty n, u => u = Value.type n

abbrev Vals : List V → List Value → Prop := Paired RelV
theorem Vals.length {xs : List V} {us : List Value} (r : Vals xs us) : xs.length = us.length := Paired.length r
theorem Vals.get : ∀ {xs : List V} {us : List Value} {i : Nat} {x : V}, Vals xs us → xs[i]? = some x → ∃ u, us[i]? = some u ∧ RelV x u
  | _, _, _, _, .nil, e => by simp at e
  | _, _, 0, _, .cons r _, e => by simp at e; subst e; exact ⟨_, rfl, r⟩
  | _, _, i + 1, x, .cons _ t, e => by
    obtain ⟨u, h1, h2⟩ := Vals.get (i := i) (x := x) t (by simpa using e)
    exact ⟨u, by simpa using h1, h2⟩
theorem Vals.set {x : V} {u : Value} (r : RelV x u) : ∀ {xs : List V} {us : List Value} (i : Nat), Vals xs us → Vals (xs.set i x) (us.set i u)
  | _, _, _, .nil => .nil
  | _, _, 0, .cons _ t => .cons r t
  | _, _, i + 1, .cons q t => .cons q (Vals.set r i t)
theorem Vals.append : ∀ {xs ys : List V} {us ws : List Value}, Vals xs us → Vals ys ws → Vals (xs ++ ys) (us ++ ws)
  | _, _, _, _, .nil, s => s
  | _, _, _, _, .cons r t, s => .cons r (Vals.append t s)
theorem Vals.take : ∀ {xs : List V} {us : List Value} (n : Nat), Vals xs us → Vals (xs.take n) (us.take n)
  | _, _, 0, _ => .nil
  | _, _, _ + 1, .nil => .nil
  | _, _, n + 1, .cons r t => .cons r (Vals.take n t)
theorem Vals.drop : ∀ {xs : List V} {us : List Value} (n : Nat), Vals xs us → Vals (xs.drop n) (us.drop n)
  | _, _, 0, r => r
  | _, _, _ + 1, .nil => .nil
  | _, _, n + 1, .cons _ t => Vals.drop n t
theorem Vals.none_of : ∀ {xs : List V} {us : List Value} {i : Nat}, Vals xs us → xs[i]? = none → us[i]? = none := fun {xs us i} r e => by
  have h1 := r.length
  have h2 : xs.length ≤ i := List.getElem?_eq_none_iff.mp e
  exact List.getElem?_eq_none_iff.mpr (by omega)

def RelO : Option V → Option Value → Prop
  | some v, some u => RelV v u
  | none, none => True
  | _, _ => False
def KV {κ : Type} : List (κ × V) → List (κ × Value) → Prop := Paired fun (p : κ × V) (q : κ × Value) => p.1 = q.1 ∧ RelV p.2 q.2

def kV : Key → V
  | .inl i => .int i
  | .inr x => .str x

inductive HO where
  /-- a list -/
  | lst (xs : List V)
  /-- a tuple (never changes) -/
  | tup (xs : List V)
  /-- a dict whose keys are ints and texts; one whose keys are tuples of ints and texts (the empty one is both) -/
  | dK (kvs : List (Key × V)) | dT (kvs : List (List Key × V))
  /-- a set of ints: its members, its size -/
  | set (S : Int → Bool) (n : Nat)
  /-- an instance of the class at C, its dict at dx, its attributes -/
  | ins (C dx : Addr) (fs : List (Str × V))
  /-- the dict of the instance at x -/
  | own (x : Addr)
  /-- the dict of an exception -/
  | xd (fs : List (Str × V))
  /-- a bound method, f of x -/
  | met (f x : Addr)
  /-- a range object lo, lo + 1, .. below hi -/
  | rng (lo hi : Int)
  /-- a thing that is known to the object (the script; a dict while a loop walks it): read, never written while it is so -/
  | frz (o : Obj) (u : HO)
  /-- a code object's table -/
  | tbl (ps : Array Value)
  /-- any other thing, by what is true of its one object (a def of one's own: SetO a S n := HO.ext fun h => ..) -/
  | ext (φ : Heap → Prop)

abbrev Hp := Addr → Option HO
def upd (H : Hp) (a : Addr) (o : HO) : Hp := fun b => if b = a then some o else H b
theorem upd_same {H : Hp} {a : Addr} {o : HO} : upd H a o a = some o := by unfold upd; rw [if_pos rfl]
theorem upd_ne {H : Hp} {a b : Addr} {o : HO} (h : b ≠ a) : upd H a o b = H b := by unfold upd; rw [if_neg h]
theorem ne_of_none {H : Hp} {a b : Addr} {o : HO} (h : H a = some o) (h' : H b = none) : a ≠ b := by
  intro e; subst e; rw [h] at h'; cases h'

section
variable (P : Program) (w : World)
def ObjOk (H : Hp) (h : Heap) (a : Addr) : HO → Prop
  | .lst xs => xs.length ≤ sizeLine ∧ ∃ (its : List Value) (n : Nat), Vals xs its ∧ h.get? a = some { cls := .type "list", data := .seq its.toArray n }
  | .tup xs => xs.length ≤ sizeLine ∧ ∃ its : List Value, Vals xs its ∧ IsTup h a its.toArray
  | .dK kvs => kvs.length ≤ sizeLine ∧ (a == sysModules) = false ∧ ∃ vs, KV kvs vs ∧ h.DictOf (mixKind P w) a vs
  | .dT kvs => kvs.length ≤ sizeLine ∧ (a == sysModules) = false ∧ ∃ xs : List (List Key × Addr × Value),
      Paired (fun (p : List Key × V) (q : List Key × Addr × Value) => p.1 = q.1 ∧ H q.2.1 = some (.tup (p.1.map kV)) ∧ RelV p.2 q.2.2) kvs xs ∧
      ∃ o es ep, h.get? a = some o ∧ o.ExactDict ∧ o.data = .dict es ep ∧ es.toList = xs.map (entryOfKey (tupleKind (mixKind P w))) ∧ (xs.map (·.1)).Nodup
  | .set S n => h.SetOf (intKind P w) a S n
  | .ins C dx fs => H dx = some (.own a) ∧ fs.length ≤ 1000 ∧ dx ≠ a ∧ h.get? a = some (PySem.W.instObj C dx) ∧
      ∃ mA, h.Ns1 dx mA ∧ (∀ f, RelO (fs.lookup f) (mA f)) ∧ PySem.Within mA (fs.map (·.1))
  | .own _ => ∃ o, h.get? a = some o
  | .xd fs => ∃ mA, h.Ns1 a mA ∧ ∀ f, RelO (fs.lookup f) (mA f)
  | .rng lo hi => ∃ t u v, h.get? a = some { cls := .type "range", data := .fields #[.int lo t, .int hi u, .int 1 v] }
  | .frz o u => h.get? a = some o ∧ ObjOk H h a u
  | .tbl ps => h.get? a = some { cls := .none, data := .fields ps }
  | .met f x => h.get? a = some (PySem.W.methodObj (.ref f) (.ref x))
  | .ext φ => φ h ∧ (∃ o, h.get? a = some o) ∧ ∀ h1 h2 : Heap, φ h1 → (∀ o, h1.get? a = some o → h2.get? a = some o) → φ h2
def HOk (H : Hp) (h : Heap) : Prop := ∀ a o, H a = some o → ObjOk P w H h a o
end

section
variable {P : Program} {w : World} {H H' : Hp} {h h' : Heap} {a : Addr} {o : HO}
theorem ObjOk.lt (x : ObjOk P w H h a o) : a < h.objs.size := by
  cases o with
  | lst xs => obtain ⟨_, _, _, _, e⟩ := x; exact Heap.lt_size e
  | tup xs => obtain ⟨_, _, _, p⟩ := x; exact p.lt
  | dK kvs => obtain ⟨_, _, _, _, o, _, _, e, _⟩ := x; exact Heap.lt_size e
  | dT kvs => obtain ⟨_, _, _, _, o, _, _, e, _⟩ := x; exact Heap.lt_size e
  | set S n => obtain ⟨o, _, _, _, e, _⟩ := x; exact Heap.lt_size e
  | ins C dx fs => obtain ⟨_, _, _, e, _⟩ := x; exact Heap.lt_size e
  | own y => obtain ⟨_, e⟩ := x; exact Heap.lt_size e
  | xd fs => obtain ⟨_, ⟨_, _, _, e, _⟩, _⟩ := x; exact Heap.lt_size e
  | rng lo hi => obtain ⟨_, _, _, e⟩ := x; exact Heap.lt_size e
  | frz ob u => obtain ⟨e, _⟩ := x; exact Heap.lt_size e
  | tbl ps => exact Heap.lt_size (show h.get? a = some _ from x)
  | met f y => exact Heap.lt_size (show h.get? a = some _ from x)
  | ext φ => obtain ⟨_, ⟨_, e⟩, _⟩ := x; exact Heap.lt_size e
theorem Paired.mapP {α β : Type} {F G : α → β → Prop} : ∀ {l₁ : List α} {l₂ : List β}, Paired F l₁ l₂ → (∀ a b, F a b → G a b) → Paired G l₁ l₂
  | _, _, .nil, _ => .nil
  | _, _, .cons r t, f => .cons (f _ _ r) (Paired.mapP t f)
theorem ObjOk.stay (x : ObjOk P w H h a o) (k : ∀ b u, (b = a ∨ H b = some (.own a)) → h.get? b = some u → h'.get? b = some u)
    (ho : ∀ b, H b = some (.own a) → H' b = some (.own a)) (ht : ∀ b xs, H b = some (.tup xs) → H' b = some (.tup xs)) : ObjOk P w H' h' a o := by
  induction o with
  | lst xs => obtain ⟨z, its, n, r, e⟩ := x; exact ⟨z, its, n, r, k _ _ (.inl rfl) e⟩
  | tup xs => obtain ⟨z, its, r, ob, e, c⟩ := x; exact ⟨z, its, r, ob, k _ _ (.inl rfl) e, c⟩
  | dK kvs => obtain ⟨z, y, vs, r, ob, es, ep, e, c⟩ := x; exact ⟨z, y, vs, r, ob, es, ep, k _ _ (.inl rfl) e, c⟩
  | dT kvs =>
    obtain ⟨z, y, xs, r, ob, es, ep, e, c⟩ := x
    exact ⟨z, y, xs, Paired.mapP r fun p q z => ⟨z.1, ht _ _ z.2.1, z.2.2⟩, ob, es, ep, k _ _ (.inl rfl) e, c⟩
  | set S n => obtain ⟨ob, es, ep, t, e, c⟩ := x; exact ⟨ob, es, ep, t, k _ _ (.inl rfl) e, c⟩
  | ins C dx fs =>
    obtain ⟨d, z, ne, e, mA, ⟨od, es, ep, e2, c⟩, r⟩ := x
    exact ⟨ho _ d, z, ne, k _ _ (.inl rfl) e, mA, ⟨od, es, ep, k _ _ (.inr d) e2, c⟩, r⟩
  | own y => obtain ⟨ob, e⟩ := x; exact ⟨ob, k _ _ (.inl rfl) e⟩
  | xd fs => obtain ⟨mA, ⟨od, es, ep, e, c⟩, r⟩ := x; exact ⟨mA, ⟨od, es, ep, k _ _ (.inl rfl) e, c⟩, r⟩
  | rng lo hi => obtain ⟨t, u, v, e⟩ := x; exact ⟨t, u, v, k _ _ (.inl rfl) e⟩
  | frz ob u ih => obtain ⟨e, q⟩ := x; exact ⟨k _ _ (.inl rfl) e, ih q⟩
  | tbl ps =>
    have e : h.get? a = some { cls := .none, data := .fields ps } := x
    show h'.get? a = some { cls := .none, data := .fields ps }
    exact k a _ (.inl rfl) e
  | met f y =>
    have e : h.get? a = some (PySem.W.methodObj (.ref f) (.ref y)) := x
    show h'.get? a = some (PySem.W.methodObj (.ref f) (.ref y))
    exact k a _ (.inl rfl) e
  | ext φ => obtain ⟨p, ⟨o, e⟩, st⟩ := x; exact ⟨st _ _ p fun o q => k _ _ (.inl rfl) q, ⟨o, k _ _ (.inl rfl) e⟩, st⟩
theorem HOk.lt (x : HOk P w H h) (e : H a = some o) : a < h.objs.size := (x a o e).lt
theorem HOk.fresh (x : HOk P w H h) (e : h.objs.size ≤ a) : H a = none := by
  cases q : H a with
  | none => rfl
  | some u => exact absurd (Nat.lt_of_lt_of_le (x.lt q) e) (Nat.lt_irrefl _)
theorem HOk.kept (x : HOk P w H h) (k : ∀ b u, h.get? b = some u → h'.get? b = some u) : HOk P w H h' := fun a o e =>
  (x a o e).stay (fun b u _ q => k b u q) (fun _ q => q) fun _ _ q => q
theorem HOk.laid (x : HOk P w H h) (k : ∀ b u, h.get? b = some u → h'.get? b = some u) (hp : h.objs.size ≤ a) (new : ObjOk P w (upd H a o) h' a o) : HOk P w (upd H a o) h' := fun b u e => by
  have hn := x.fresh hp
  by_cases hb : b = a
  · subst hb; rw [upd_same] at e; cases e; exact new
  · rw [upd_ne hb] at e
    exact (x b u e).stay (fun c v _ q => k c v q) (fun c q => by rw [upd_ne (ne_of_none q hn)]; exact q) fun c xs q => by rw [upd_ne (ne_of_none q hn)]; exact q
end

def Rd (H : Hp) (a : Addr) (u : HO) : Prop := H a = some u ∨ ∃ o, H a = some (.frz o u)
theorem Rd.of {H : Hp} {a : Addr} {u : HO} (h : H a = some u) : Rd H a u := .inl h
theorem Rd.ok {P : Program} {w : World} {H : Hp} {h : Heap} {a : Addr} {u : HO} (r : Rd H a u) (x : HOk P w H h) : ObjOk P w H h a u := by
  rcases r with r | ⟨o, r⟩
  · exact x a u r
  · obtain ⟨_, q⟩ := x a _ r
    exact q
def Mut : Option HO → Prop
  | some (.lst _) => True
  | some (.dK _) => True
  | some (.dT _) => True
  | some (.set _ _) => True
  | some (.ins _ _ _) => True
  | some (.ext _) => True
  | _ => False
section
variable {P : Program} {w : World} {H : Hp} {h h' : Heap} {x e : Addr} {o' : HO}
theorem HOk.write (ok : HOk P w H h) (mu : Mut (H x)) (he : e = x ∨ H e = some (.own x)) (k : ∀ b u, b ≠ e → h.get? b = some u → h'.get? b = some u) (heo : ∃ u, h'.get? e = some u)
    (new : ObjOk P w (upd H x o') h' x o') : HOk P w (upd H x o') h' := fun b u q => by
  have nown : ∀ c y, H c = some (.own y) → c ≠ x := fun c y r z => by subst z; rw [r] at mu; exact mu
  have ntup : ∀ c xs, H c = some (.tup xs) → c ≠ x := fun c xs r z => by subst z; rw [r] at mu; exact mu
  by_cases hb : b = x
  · subst hb; rw [upd_same] at q; cases q; exact new
  · rw [upd_ne hb] at q
    by_cases hbe : b = e
    · have q' : H b = some (.own x) := by
        rcases he with z | z
        · exact absurd (hbe.trans z) hb
        · rw [hbe]; exact z
      rw [q] at q'; cases q'
      obtain ⟨v, hv⟩ := heo
      exact ⟨v, by rw [hbe]; exact hv⟩
    · refine (ok b u q).stay (fun c v hc r => k c v ?_ r) (fun c r => by rw [upd_ne (nown c b r)]; exact r) fun c xs r => by rw [upd_ne (ntup c xs r)]; exact r
      rcases hc with rfl | hc
      · exact hbe
      · rintro rfl
        rcases he with z | z
        · exact nown c b hc z
        · rw [hc] at z; cases z; exact hb rfl
end

structure Un (fs ex : List Addr) (H H' : Hp) (h h' : Heap) : Prop where
  keep : ∀ b o, h.get? b = some o → H b = none → b ∉ fs → b ∉ ex → h'.get? b = some o
  slot : ∀ b o, h.get? b = some o → H b = none → b ∈ fs → b ∉ ex → ∃ sl, h'.get? b = some { o with slots := sl }
  free : ∀ b o, h.get? b = some o → H b = none → b ∉ ex → H' b = none
  there : ∀ b o, h.get? b = some o → b ∉ ex → ∃ o', h'.get? b = some o'
  tups : ∀ b xs, H b = some (.tup xs) → H' b = some (.tup xs)
  frzs : ∀ b o u, H b = some (.frz o u) → H' b = some (.frz o u)
  tbls : ∀ b ps, H b = some (.tbl ps) → ∃ more, H' b = some (.tbl (ps ++ more))
section
variable {fs fs' ex ex' : List Addr} {H H1 H2 : Hp} {h h1 h2 h' : Heap} {a x e : Addr} {o : HO}
theorem Un.any (u : Un fs ex H H1 h h1) {b : Addr} {ob : Obj} (q : h.get? b = some ob) (n : H b = none) (hx : b ∉ ex) : ∃ sl, h1.get? b = some { ob with slots := sl } := by
  by_cases hb : b ∈ fs
  · exact u.slot b ob q n hb hx
  · exact ⟨ob.slots, u.keep b ob q n hb hx⟩
theorem Un.trans (a : Un fs ex H H1 h h1) (b : Un fs ex H1 H2 h1 h2) : Un fs ex H H2 h h2 where
  keep := fun c ob q n hc hx => b.keep c ob (a.keep c ob q n hc hx) (a.free c ob q n hx) hc hx
  slot := fun c ob q n hc hx => by
    obtain ⟨sl, e1⟩ := a.slot c ob q n hc hx
    obtain ⟨sl', e2⟩ := b.slot c _ e1 (a.free c ob q n hx) hc hx
    exact ⟨sl', e2⟩
  free := fun c ob q n hx => by
    obtain ⟨o', e1⟩ := a.there c ob q hx
    exact b.free c o' e1 (a.free c ob q n hx) hx
  there := fun c ob q hx => by
    obtain ⟨o', e1⟩ := a.there c ob q hx
    exact b.there c o' e1 hx
  tups := fun c xs q => b.tups c xs (a.tups c xs q)
  frzs := fun c ob xs q => b.frzs c ob xs (a.frzs c ob xs q)
  tbls := fun c ps q => by
    obtain ⟨m1, e1⟩ := a.tbls c ps q
    obtain ⟨m2, e2⟩ := b.tbls c _ e1
    exact ⟨m1 ++ m2, by rw [e2, Array.append_assoc]⟩
theorem Un.kept (k : ∀ b u, h.get? b = some u → h'.get? b = some u) : Un fs ex H H h h' :=
  ⟨fun b ob q _ _ _ => k b ob q, fun b ob q _ _ _ => ⟨ob.slots, k b ob q⟩, fun _ _ _ n _ => n, fun b ob q _ => ⟨ob, k b ob q⟩, fun _ _ q => q, fun _ _ _ q => q, fun _ ps q => ⟨#[], by rw [q]; simp⟩⟩
theorem Un.refl : Un fs ex H H h h := Un.kept fun _ _ q => q
theorem Un.laid (k : ∀ b u, h.get? b = some u → h'.get? b = some u) (hp : h.objs.size ≤ a) (hn : H a = none) : Un fs ex H (upd H a o) h h' where
  keep := fun b u q _ _ _ => k b u q
  slot := fun b u q _ _ _ => ⟨u.slots, k b u q⟩
  free := fun b u q n _ => by rw [upd_ne (Nat.ne_of_lt (Nat.lt_of_lt_of_le (Heap.lt_size q) hp))]; exact n
  there := fun b u q _ => ⟨u, k b u q⟩
  tups := fun b xs q => by rw [upd_ne (ne_of_none q hn)]; exact q
  frzs := fun b u xs q => by rw [upd_ne (ne_of_none q hn)]; exact q
  tbls := fun b ps q => ⟨#[], by rw [upd_ne (ne_of_none q hn), q]; simp⟩
theorem Un.write (mu : Mut (H x)) (he : e = x ∨ H e = some (.own x)) (k : ∀ b u, b ≠ e → h.get? b = some u → h'.get? b = some u) (heo : ∃ u, h'.get? e = some u) : Un fs ex H (upd H x o) h h' := by
  have hx : ∀ b, H b = none → b ≠ x := fun b n z => by subst z; rw [n] at mu; exact mu
  have hb : ∀ b, H b = none → b ≠ e := fun b n z => by
    subst z
    rcases he with r | r
    · exact hx b n r
    · rw [n] at r; cases r
  have hm : ∀ b u, H b = some u → ¬ Mut (some u) → b ≠ x := fun b u q nm z => by subst z; rw [q] at mu; exact nm mu
  refine ⟨fun b u q n _ _ => k b u (hb b n) q, fun b u q n _ _ => ⟨u.slots, k b u (hb b n) q⟩, fun b u q n _ => by rw [upd_ne (hx b n)]; exact n, fun b u q _ => ?_,
    fun b xs q => by rw [upd_ne (hm b _ q fun z => z)]; exact q, fun b u xs q => by rw [upd_ne (hm b _ q fun z => z)]; exact q, fun b ps q => ⟨#[], by rw [upd_ne (hm b _ q fun z => z), q]; simp⟩⟩
  by_cases hbe : b = e
  · subst hbe; exact heo
  · exact ⟨u, k b u hbe q⟩
theorem Un.mono (u : Un fs ex H H1 h h1) (hs : ∀ b ∈ fs, b ∈ fs') (hx : ∀ b ∈ ex, b ∈ ex') : Un fs' ex' H H1 h h1 :=
  ⟨fun b ob q n hb he => u.keep b ob q n (fun z => hb (hs b z)) fun z => he (hx b z), fun _ _ q n _ he => u.any q n fun z => he (hx _ z), fun b ob q n he => u.free b ob q n fun z => he (hx b z), fun b ob q he => u.there b ob q fun z => he (hx b z), u.tups, u.frzs, u.tbls⟩
end

def trk (h : Heap) (H : Hp) : List Addr := (List.range h.objs.size).filter fun a => (H a).isSome
def hidT (h : Heap) (H : Hp) : Heap := PySem.W.hideAll h (trk h H)
theorem hidT_size (h : Heap) (H : Hp) : (hidT h H).objs.size = h.objs.size := PySem.W.hideAll_size _ _
theorem hidT_get {h : Heap} {H : Hp} {b : Addr} {o : Obj} (e : h.get? b = some o) (n : H b = none) : (hidT h H).get? b = some o :=
  PySem.W.hideAll_get _ e fun hm => by
    have q : (H b).isSome = true := (List.mem_filter.mp hm).2
    rw [n] at q; simp at q
theorem of_hidT {h : Heap} {H : Hp} {b : Addr} {o : Obj} (e : (hidT h H).get? b = some o) : h.get? b = some o ∧ H b = none := by
  have e' : h.get? b = some o := PySem.W.of_hideAll (trk h H) e
  refine ⟨e', ?_⟩
  cases q : H b with
  | none => rfl
  | some x =>
    have hm : b ∈ trk h H := List.mem_filter.mpr ⟨List.mem_range.mpr (Heap.lt_size e'), by simp [q]⟩
    have z : (hidT h H).get? b = none := PySem.W.hideAll_none (trk h H) hm
    rw [z] at e; cases e

def allNews (g h : Heap) (L : Addr) : List (Addr × Obj) := (List.range h.objs.size).filterMap fun a => if a = L ∨ (g.get? a).isSome = true then none else (h.get? a).map fun o => (a, o)
def rest (g h : Heap) (L d : Addr) : List (Addr × Obj) := (allNews g h L).filter fun p => decide (p.1 ≠ d)
end L2

namespace L2
open PySem PySem.Spec PyProof.Rows

structure Mod (K : PySem.W.Frag) (mg : Str → Option Value) (base : Heap) : Prop where
  kin : K.In base
  glob : base.Ns mainGlobals mg
  blt : ∃ mb, base.Ns builtinsNs mb ∧ ∀ x : Str, x ≠ "__name__" → mb x = bootBuiltins x
  nolimit : base.NoLimit
  seer : base.NoSeer

structure Cx where
  prog : Program
  w : World
  K : PySem.W.Frag
  mg : Str → Option Value
  base : Heap
  A : Around
  N : List Str
  s₀ : Shared
  H₀ : Hp
  env : Env
  outer : List Env
  stack : List Env
  ex : List Addr
  fn : Str → Bool
  calm : Bool
  pn : List (Addr × Obj)
  xe : Value → Shared → Prop
def frs (l : List Env) : List Addr := l.filterMap (·.frame)
abbrev Cx.fs (X : Cx) : List Addr := frs X.outer

def Vis (sc : Scope) (x : Str) : Prop := sc.names.lookup x = some .local ∨ sc.names.lookup x = some .cell ∨ sc.names.lookup x = some .free
def Loc (sc : Scope) (x : Str) : Prop := sc.names.lookup x = some .local ∨ sc.names.lookup x = some .cell
def Look (env : Env) (h : Heap) (m : Str → Option Value) (x : Str) (u : Value) : Prop :=
  (env.kindOf x = some .local ∧ m x = some u) ∨ ((env.kindOf x = some .cell ∨ env.kindOf x = some .free) ∧ ∃ c, env.cells.lookup x = some c ∧ h.IsCell c (some u))

structure Cx.Ok (X : Cx) : Prop where
  mod : Mod X.K X.mg X.base
  kind : X.env.scope.kind = .function
  glob : X.env.globals = mainGlobals
  blt : X.env.builtins = builtinsNs
  above : X.s₀.heap.objs.size ≤ X.env.locals
  inj : ∀ x y c, X.env.cells.lookup x = some c → X.env.cells.lookup y = some c → x = y
  has : ∀ x, (X.env.kindOf x = some .cell ∨ X.env.kindOf x = some .free) → ∃ c, X.env.cells.lookup x = some c
  cab : ∀ x c, X.fn x = true → X.env.cells.lookup x = some c → X.s₀.heap.objs.size ≤ c
  hd : X.calm = true → X.A.handled = none
  frames : X.A.frames = some X.stack
  stk : X.stack = X.outer ∨ (X.stack = X.env :: X.outer ∧ X.env.frame = some X.env.locals)
  exf : ∀ b ∈ X.ex, b ≠ X.env.locals ∧ ∀ x c, X.env.cells.lookup x = some c → c ≠ b
  bs : ∀ b o, X.base.get? b = some o → X.s₀.heap.get? b = some o ∧ X.H₀ b = none
  bsz : X.base.objs.size ≤ X.s₀.heap.objs.size
  noex : ∀ b o, X.base.get? b = some o → b ∉ X.ex
  exfs : ∀ b ∈ X.ex, b ∉ X.fs
  funs : X.s₀.heap.FunFrames X.base X.outer
  frf : ∀ b ∈ X.fs, X.H₀ b = none

structure Inv (X : Cx) (pins : List (Addr × Obj)) (σ : List (Option V)) (H : Hp) (s : Shared) : Prop where
  ok : X.Ok
  os : s.os = X.s₀.os
  bare : AllBare s.gens
  base : Un X.fs X.ex X.H₀ H X.s₀.heap s.heap
  loc : ∃ m, s.heap.Ns X.env.locals m ∧ ∀ (i : Nat) (x : Str) (v : V), X.N[i]? = some x → σ[i]? = some (some v) → Vis X.env.scope x → ∃ u, RelV v u ∧ Look X.env s.heap m x u
  cell : ∀ x c, X.env.cells.lookup x = some c → ∃ v, s.heap.IsCell c v
  free : H X.env.locals = none
  freeC : ∀ x c, X.env.cells.lookup x = some c → H c = none
  pin : ∀ p ∈ X.pn ++ pins, s.heap.get? p.1 = some p.2 ∧ H p.1 = none ∧ p.1 ≠ X.env.locals ∧ p.1 ∉ X.fs ∧ ∀ v, p.2.data ≠ .cell v
  hok : HOk X.prog X.w H s.heap
  len : σ.length = X.N.length

section
variable {X : Cx} {pins : List (Addr × Obj)} {σ : List (Option V)} {H H' : Hp} {s : Shared} {h' : Heap}

theorem Cx.Ok.nofr (ok : X.Ok) {b : Addr} {o : Obj} (e : X.base.get? b = some o) : b ∉ X.fs := fun hb => by
  have := (ok.funs.mem hb).1
  rw [e] at this; cases this
theorem Inv.bs (I : Inv X pins σ H s) : ∀ b o, X.base.get? b = some o → s.heap.get? b = some o ∧ H b = none := fun b o e =>
  ⟨I.base.keep b o (I.ok.bs b o e).1 (I.ok.bs b o e).2 (I.ok.nofr e) (I.ok.noex b o e), I.base.free b o (I.ok.bs b o e).1 (I.ok.bs b o e).2 (I.ok.noex b o e)⟩
theorem Inv.bk (I : Inv X pins σ H s) : ∀ b o, X.base.get? b = some o → s.heap.get? b = some o := fun b o e => (I.bs b o e).1
theorem Inv.mod (I : Inv X pins σ H s) : Mod X.K X.mg X.base := I.ok.mod
theorem Inv.kIn (I : Inv X pins σ H s) : X.K.In s.heap := I.ok.mod.kin.keeps I.bk
theorem Inv.nolimit (I : Inv X pins σ H s) : s.heap.NoLimit := I.ok.mod.nolimit.keeps I.bk
theorem Inv.fr (I : Inv X pins σ H s) : ∃ m, Fr X.base X.env.locals s.heap m :=
  let ⟨m, hn, _⟩ := I.loc
  ⟨m, hn, I.bk, Nat.le_trans I.ok.bsz I.ok.above⟩
theorem Inv.lt (I : Inv X pins σ H s) : X.env.locals < s.heap.objs.size := let ⟨_, hn, _⟩ := I.loc; hn.lt
theorem Inv.sz (I : Inv X pins σ H s) : X.s₀.heap.objs.size ≤ s.heap.objs.size := Nat.le_trans I.ok.above (Nat.le_of_lt I.lt)
theorem Inv.nofs (I : Inv X pins σ H s) {a : Addr} (h : s.heap.objs.size ≤ a) : a ∉ X.fs := fun hb => by
  obtain ⟨_, o, ho, _⟩ := I.ok.funs.mem hb
  exact absurd (Nat.lt_of_lt_of_le (Heap.lt_size ho) (Nat.le_trans I.sz h)) (Nat.lt_irrefl _)
theorem Inv.cne (I : Inv X pins σ H s) : ∀ x c, X.env.cells.lookup x = some c → c ≠ X.env.locals := fun x c e z => by
  obtain ⟨v, o, ho, hd⟩ := I.cell x c e
  obtain ⟨m, ⟨o', es, ep, ho', hd', _⟩, _⟩ := I.loc
  rw [z, ho'] at ho; cases ho; rw [hd'] at hd; cases hd
theorem Inv.funs (I : Inv X pins σ H s) : s.heap.FunFrames X.base X.outer := by
  have all : ∀ (l : List Env), (∀ b ∈ frs l, b ∈ X.fs) → X.s₀.heap.FunFrames X.base l → s.heap.FunFrames X.base l := by
    intro l
    induction l with
    | nil => intro _ _; trivial
    | cons env r ih =>
      intro hs hl
      obtain ⟨hk, ⟨L, o, hf, hn, ho, hd⟩, hr⟩ := hl
      have hL : L ∈ X.fs := hs L (by unfold frs; rw [List.filterMap_cons, hf]; exact List.mem_cons_self)
      obtain ⟨sl, e⟩ := I.base.slot L o ho (I.ok.frf L hL) hL fun z => I.ok.exfs L z hL
      exact ⟨hk, ⟨L, _, hf, hn, e, hd⟩, ih (fun b hb => hs b (by unfold frs; rw [List.filterMap_cons, hf]; exact List.mem_cons_of_mem _ hb)) hr⟩
  exact all X.outer (fun _ hb => hb) I.ok.funs

theorem Inv.stack (I : Inv X pins σ H s) : s.heap.FunFrames X.base X.stack := by
  rcases I.ok.stk with e | ⟨e, hf⟩
  · rw [e]; exact I.funs
  · rw [e]
    obtain ⟨m, hn, _⟩ := I.loc
    refine .cons (by rw [I.ok.kind]; decide) hf hn ?_ I.funs
    exact Heap.get?_none_of_le (Nat.le_trans I.ok.bsz I.ok.above)
theorem Inv.stkSub (I : Inv X pins σ H s) : ∀ b ∈ frs X.stack, b ∈ X.env.locals :: X.fs := fun b hb => by
  rcases I.ok.stk with e | ⟨e, hf⟩
  · rw [e] at hb; exact List.mem_cons_of_mem _ hb
  · rw [e] at hb
    unfold frs at hb
    rw [List.filterMap_cons, hf] at hb
    exact hb
theorem Inv.stkFree (I : Inv X pins σ H s) : ∀ b ∈ frs X.stack, H b = none := fun b hb => by
  rcases List.mem_cons.mp (I.stkSub b hb) with e | hb
  · rw [e]; exact I.free
  · obtain ⟨_, o, ho, _⟩ := I.ok.funs.mem hb
    exact I.base.free b o ho (I.ok.frf b hb) fun z => I.ok.exfs b z hb

theorem Inv.step {g' : Array GenState} {t' : Nat} {d' : Drawn} {ch : List Addr} (I : Inv X pins σ H s)
    (hch : ∀ b ∈ ch, (b ∈ X.ex ∨ X.s₀.heap.objs.size ≤ b) ∧ b ≠ X.env.locals ∧ (∀ x c, X.env.cells.lookup x = some c → c ≠ b) ∧ ∀ p ∈ X.pn ++ pins, p.1 ≠ b)
    (keep : ∀ b o, b ≠ X.env.locals → b ∉ X.fs → b ∉ ch → s.heap.get? b = some o → H b = none → h'.get? b = some o)
    (slot : ∀ b o, b ≠ X.env.locals → b ∈ X.fs → b ∉ ch → s.heap.get? b = some o → H b = none → ∃ sl, h'.get? b = some { o with slots := sl }) (free : ∀ b o, b ∉ ch → s.heap.get? b = some o → H b = none → H' b = none)
    (there : ∀ b o, b ∉ ch → s.heap.get? b = some o → ∃ o', h'.get? b = some o')
    (tups : ∀ b xs, H b = some (.tup xs) → H' b = some (.tup xs)) (frzs : ∀ b o u, H b = some (.frz o u) → H' b = some (.frz o u)) (tbls : ∀ b ps, H b = some (.tbl ps) → ∃ more, H' b = some (.tbl (ps ++ more)))
    (ns : ∀ m, s.heap.Ns X.env.locals m → h'.Ns X.env.locals m) (hok : HOk X.prog X.w H' h') (hg : AllBare g') :
    Inv X pins σ H' { s with heap := h', gens := g', drawn := d', toks := t' } := by
  have neL : ∀ b o, X.s₀.heap.get? b = some o → b ≠ X.env.locals := fun b o e => Nat.ne_of_lt (Nat.lt_of_lt_of_le (Heap.lt_size e) I.ok.above)
  have neC : ∀ b o, X.s₀.heap.get? b = some o → b ∉ X.ex → b ∉ ch := fun b o e hx hb => by
    rcases (hch b hb).1 with z | z
    · exact hx z
    · exact absurd (Nat.lt_of_lt_of_le (Heap.lt_size e) z) (Nat.lt_irrefl _)
  have cellK : ∀ x c, X.env.cells.lookup x = some c → ∀ v, s.heap.IsCell c v → h'.IsCell c v := fun x c e v ⟨o, ho, hd⟩ => by
    have nch : c ∉ ch := fun z => (hch c z).2.2.1 x c e rfl
    by_cases hc : c ∈ X.fs
    · obtain ⟨sl, q⟩ := slot c o (I.cne x c e) hc nch ho (I.freeC x c e)
      exact ⟨_, q, hd⟩
    · exact ⟨o, keep c o (I.cne x c e) hc nch ho (I.freeC x c e), hd⟩
  refine ⟨I.ok, I.os, hg, ⟨fun b o e n hb hx => ?_, fun b o e n hb hx => ?_, fun b o e n hx => ?_, fun b o e hx => ?_, fun b xs e => tups b xs (I.base.tups b xs e), fun b o xs e => frzs b o xs (I.base.frzs b o xs e), fun b ps e => ?_⟩, ?_, fun x c e => ?_, ?_, fun x c e => ?_, fun p hp => ?_, hok, I.len⟩
  · exact keep b o (neL b o e) hb (neC b o e hx) (I.base.keep b o e n hb hx) (I.base.free b o e n hx)
  · obtain ⟨sl, e1⟩ := I.base.slot b o e n hb hx
    obtain ⟨sl', e2⟩ := slot b _ (neL b o e) hb (neC b o e hx) e1 (I.base.free b o e n hx)
    exact ⟨sl', e2⟩
  · obtain ⟨o', e1⟩ := I.base.there b o e hx
    exact free b o' (neC b o e hx) e1 (I.base.free b o e n hx)
  · obtain ⟨o', e1⟩ := I.base.there b o e hx
    exact there b o' (neC b o e hx) e1
  · obtain ⟨m1, e1⟩ := I.base.tbls b ps e
    obtain ⟨m2, e2⟩ := tbls b _ e1
    exact ⟨m1 ++ m2, by rw [e2, Array.append_assoc]⟩
  · obtain ⟨m, hn, hl⟩ := I.loc
    refine ⟨m, ns m hn, fun i x v e1 e2 e3 => ?_⟩
    obtain ⟨u, r, l⟩ := hl i x v e1 e2 e3
    refine ⟨u, r, ?_⟩
    rcases l with l | ⟨k, c, e, z⟩
    · exact .inl l
    · exact .inr ⟨k, c, e, cellK x c e _ z⟩
  · obtain ⟨v, z⟩ := I.cell x c e
    exact ⟨v, cellK x c e v z⟩
  · obtain ⟨m, ⟨o, _, _, ho, _⟩, _⟩ := I.loc
    exact free _ o (fun z => (hch _ z).2.1 rfl) ho I.free
  · obtain ⟨v, o, ho, hd⟩ := I.cell x c e
    exact free c o (fun z => (hch c z).2.2.1 x c e rfl) ho (I.freeC x c e)
  · obtain ⟨e, n, ne, nf, d⟩ := I.pin p hp
    have nch : p.1 ∉ ch := fun z => (hch p.1 z).2.2.2 p hp rfl
    exact ⟨keep p.1 p.2 ne nf nch e n, free p.1 p.2 nch e n, ne, nf, d⟩
theorem Inv.un {t' : Nat} (I : Inv X pins σ H s) (u : Un X.fs [] H H' s.heap h') (hok : HOk X.prog X.w H' h') : Inv X pins σ H' { s with heap := h', toks := t' } := by
  obtain ⟨m, ⟨o, es, ep, ho, r⟩, _⟩ := id I.loc
  obtain ⟨sl, hL⟩ := u.any ho I.free (by simp)
  exact I.step (g' := s.gens) (d' := s.drawn) (ch := []) (fun _ z => nomatch z) (fun b o _ hb _ e n => u.keep b o e n hb (by simp)) (fun b o _ hb _ e n => u.slot b o e n hb (by simp)) (fun b o _ e n => u.free b o e n (by simp)) (fun b o _ e => u.there b o e (by simp)) u.tups u.frzs u.tbls (fun m' hm => by
    obtain ⟨o', es', ep', ho', r'⟩ := hm
    rw [ho] at ho'; cases ho'
    exact ⟨_, es', ep', hL, r'⟩) hok I.bare
theorem Inv.call {g' : Array GenState} {t' : Nat} {d' : Drawn} {ch : List Addr} (I : Inv X pins σ H s) (u : Un (frs X.stack) ch H H' s.heap h') (hok : HOk X.prog X.w H' h') (hg : AllBare g')
    (hch : ∀ b ∈ ch, (b ∈ X.ex ∨ X.s₀.heap.objs.size ≤ b) ∧ b ≠ X.env.locals ∧ (∀ x c, X.env.cells.lookup x = some c → c ≠ b) ∧ ∀ p ∈ X.pn ++ pins, p.1 ≠ b) :
    Inv X pins σ H' { s with heap := h', gens := g', drawn := d', toks := t' } := by
  obtain ⟨m, ⟨o, es, ep, ho, r⟩, _⟩ := id I.loc
  obtain ⟨sl, hL⟩ := u.any ho I.free fun z => (hch _ z).2.1 rfl
  exact I.step (ch := ch) hch (fun b o hL hb hc e n => u.keep b o e n (fun z => (List.mem_cons.mp (I.stkSub b z)).elim hL hb) hc) (fun b o _ _ hc e n => u.any e n hc) (fun b o hc e n => u.free b o e n hc) (fun b o hc e => u.there b o e hc) u.tups u.frzs u.tbls (fun m' hm => by
    obtain ⟨o', es', ep', ho', r'⟩ := hm
    rw [ho] at ho'; cases ho'
    exact ⟨_, es', ep', hL, r'⟩) hok hg
theorem Inv.turned {t' : Nat} {it : Addr} (I : Inv X pins σ H s) (k : ∀ b o, b ≠ it → s.heap.get? b = some o → h'.get? b = some o) (hn : H it = none) (hL : it ≠ X.env.locals)
    (h1 : it ∈ X.ex ∨ X.s₀.heap.objs.size ≤ it) (h2 : ∀ x c, X.env.cells.lookup x = some c → c ≠ it) (h3 : ∀ p ∈ X.pn ++ pins, p.1 ≠ it) : Inv X pins σ H { s with heap := h', toks := t' } := by
  have nit : ∀ b u, H b = some u → b ≠ it := fun b u e z => by rw [z, hn] at e; cases e
  refine I.step (g' := s.gens) (d' := s.drawn) (ch := [it]) (fun b hb => ?_) (fun b o _ _ hc e _ => k b o (fun z => hc (by simp [z])) e) (fun b o _ _ hc e _ => ⟨o.slots, k b o (fun z => hc (by simp [z])) e⟩) (fun _ _ _ _ n => n)
    (fun b o hc e => ⟨o, k b o (fun z => hc (by simp [z])) e⟩) (fun _ _ e => e) (fun _ _ _ e => e) (fun b ps e => ⟨#[], by rw [e]; simp⟩) (fun m hm => ?_) (fun b u e => ?_) I.bare
  · have e : b = it := by simpa using hb
    subst e
    exact ⟨h1, hL, h2, h3⟩
  · obtain ⟨o, es, ep, ho, r⟩ := hm
    exact ⟨o, es, ep, k _ o (Ne.symm hL) ho, r⟩
  · refine (I.hok b u e).stay (fun c v hc q => k c v ?_ q) (fun _ q => q) fun _ _ q => q
    rcases hc with z | z
    · rw [z]; exact nit b u e
    · exact nit c _ z
theorem Inv.tok (I : Inv X pins σ H s) (t : Nat) : Inv X pins σ H { s with toks := t } := I.un (h' := s.heap) (t' := t) Un.refl I.hok
theorem Inv.kept {t' : Nat} (I : Inv X pins σ H s) (k : ∀ b u, s.heap.get? b = some u → h'.get? b = some u) : Inv X pins σ H { s with heap := h', toks := t' } := I.un (Un.kept k) (I.hok.kept k)
theorem Inv.laid {a : Addr} {o : HO} {t' : Nat} (I : Inv X pins σ H s) (k : ∀ b u, s.heap.get? b = some u → h'.get? b = some u) (hp : s.heap.objs.size ≤ a) (new : ObjOk X.prog X.w (upd H a o) h' a o) :
    Inv X pins σ (upd H a o) { s with heap := h', toks := t' } := I.un (Un.laid k hp (I.hok.fresh hp)) (I.hok.laid k hp new)
theorem Inv.write {x e : Addr} {o : HO} {t' : Nat} (I : Inv X pins σ H s) (mu : Mut (H x)) (he : e = x ∨ H e = some (.own x)) (k : ∀ b u, b ≠ e → s.heap.get? b = some u → h'.get? b = some u) (heo : ∃ u, h'.get? e = some u)
    (new : ObjOk X.prog X.w (upd H x o) h' x o) : Inv X pins σ (upd H x o) { s with heap := h', toks := t' } := I.un (Un.write mu he k heo) (I.hok.write mu he k heo new)
theorem Inv.pins_of {pins' : List (Addr × Obj)} (I : Inv X pins σ H s) (h : ∀ p ∈ pins', s.heap.get? p.1 = some p.2 ∧ H p.1 = none ∧ p.1 ≠ X.env.locals ∧ p.1 ∉ X.fs ∧ ∀ v, p.2.data ≠ .cell v) : Inv X pins' σ H s :=
  ⟨I.ok, I.os, I.bare, I.base, I.loc, I.cell, I.free, I.freeC, fun p hp => (List.mem_append.mp hp).elim (fun z => I.pin p (List.mem_append_left _ z)) (h p), I.hok, I.len⟩

theorem nodup_ix {N : List Str} (hN : N.Nodup) {i j : Nat} {x : Str} (a : N[i]? = some x) (b : N[j]? = some x) : i = j := by
  obtain ⟨h1, e1⟩ := List.getElem?_eq_some_iff.mp a
  obtain ⟨h2, e2⟩ := List.getElem?_eq_some_iff.mp b
  exact (List.getElem_inj hN).mp (e1.trans e2.symm)

theorem store_ok2 {M : Model} {A : Around} {E : Value → Shared → Prop} {i : Nat} {x : Str} {v : V} {u : Value} {Q : Unit → Shared → Prop} (I : Inv X pins σ H s) (hN : X.N.Nodup) (hi : X.N[i]? = some x) (hx : Loc X.env.scope x) (r : RelV v u)
    (h : ∀ s', Inv X pins (σ.set i (some v)) H s' → (∃ a, Heap.SameBut a s.heap s'.heap ∧ (a = X.env.locals ∨ X.env.cells.lookup x = some a)) → Q () s') (hf : X.fn x = true ∨ X.env.scope.names.lookup x = some .local := by first | exact .inl rfl | exact .inr rfl | assumption) : wpAny M A (storeName X.env x u) Q E s := by
  obtain ⟨m, hn, hl⟩ := id I.loc
  have hcls : (X.env.scope.kind == .class || (X.env.scope.kind == .module && X.env.locals != X.env.globals)) = false := by rw [I.ok.kind]; rfl
  have hiσ : i < σ.length := by rw [I.len]; exact (List.getElem?_eq_some_iff.mp hi).1
  have cne := I.cne
  have tracked : ∀ {a : Addr} {h' : Heap}, (∃ o, s.heap.get? a = some o ∧ H a = none) → Heap.SameBut a s.heap h' → HOk X.prog X.w H h' := fun {a h'} ha hs b ob e => by
    obtain ⟨_, _, hfree⟩ := ha
    refine (I.hok b ob e).stay (fun c w' hc q => (hs.2 c ?_).trans q) (fun _ q => q) fun _ _ q => q
    rintro rfl
    rcases hc with rfl | hc
    · rw [hfree] at e; cases e
    · rw [hfree] at hc; cases hc
  rcases hx with hk | hk
  · refine wpAny_storeName_local hk hn (fun h' hn' hs => ?_) hcls
    obtain ⟨oL, _, _, hoL, _⟩ := id hn
    refine h _ ⟨I.ok, I.os, I.bare, ⟨fun b o e n hb hx => ?_, fun b o e n hb hx => ?_, I.base.free, fun b o e hx => ?_, I.base.tups, I.base.frzs, I.base.tbls⟩, ⟨_, hn', fun j y v' e1 e2 e3 => ?_⟩, fun y c e => ?_, I.free, I.freeC, fun p hp => ?_, tracked ⟨oL, hoL, I.free⟩ hs, by simpa using I.len⟩ ⟨_, hs, .inl rfl⟩
    · exact (hs.2 b (Nat.ne_of_lt (Nat.lt_of_lt_of_le (Heap.lt_size e) I.ok.above))).trans (I.base.keep b o e n hb hx)
    · obtain ⟨sl, e1⟩ := I.base.slot b o e n hb hx
      exact ⟨sl, (hs.2 b (Nat.ne_of_lt (Nat.lt_of_lt_of_le (Heap.lt_size e) I.ok.above))).trans e1⟩
    · obtain ⟨o', e1⟩ := I.base.there b o e hx
      exact ⟨o', (hs.2 b (Nat.ne_of_lt (Nat.lt_of_lt_of_le (Heap.lt_size e) I.ok.above))).trans e1⟩
    · by_cases hj : j = i
      · subst hj
        rw [hi] at e1; cases e1
        rw [List.getElem?_set_self hiσ] at e2
        cases e2
        exact ⟨u, r, .inl ⟨hk, by simp⟩⟩
      · rw [List.getElem?_set_ne (Ne.symm hj)] at e2
        obtain ⟨u', r', q⟩ := hl j y v' e1 e2 e3
        refine ⟨u', r', ?_⟩
        rcases q with ⟨k, e⟩ | ⟨k, c, e, z⟩
        · refine .inl ⟨k, ?_⟩
          have : y ≠ x := fun e => hj (nodup_ix hN e1 (e ▸ hi))
          simp [this, e]
        · exact .inr ⟨k, c, e, z.sameBut hs (cne y c e)⟩
    · obtain ⟨w', z⟩ := I.cell y c e
      exact ⟨w', z.sameBut hs (cne y c e)⟩
    · obtain ⟨e, n, ne, nf, d⟩ := I.pin p hp
      exact ⟨(hs.2 p.1 ne).trans e, n, ne, nf, d⟩
  · have hfn : X.fn x = true := by
      rcases hf with z | z
      · exact z
      · rw [z] at hk; cases hk
    obtain ⟨c, hc⟩ := I.ok.has x (.inl hk)
    obtain ⟨w', z⟩ := I.cell x c hc
    refine wpAny_storeName_cell I.ok.kind hk hc z (fun h' hc' hs => ?_)
    obtain ⟨oc, hoc, hocd⟩ := id z
    refine h { s with heap := h' } ⟨I.ok, I.os, I.bare, ⟨fun b o e n hb hx => ?_, fun b o e n hb hx => ?_, I.base.free, fun b o e hx => ?_, I.base.tups, I.base.frzs, I.base.tbls⟩, ⟨m, hn.sameBut hs (Ne.symm (cne x c hc)), fun j y v' e1 e2 e3 => ?_⟩, fun y c' e => ?_, I.free, I.freeC, fun p hp => ?_, tracked ⟨oc, hoc, I.freeC x c hc⟩ hs, by simpa using I.len⟩ ⟨c, hs, .inr hc⟩
    · exact (hs.2 b (Nat.ne_of_lt (Nat.lt_of_lt_of_le (Heap.lt_size e) (I.ok.cab x c hfn hc)))).trans (I.base.keep b o e n hb hx)
    · obtain ⟨sl, e1⟩ := I.base.slot b o e n hb hx
      exact ⟨sl, (hs.2 b (Nat.ne_of_lt (Nat.lt_of_lt_of_le (Heap.lt_size e) (I.ok.cab x c hfn hc)))).trans e1⟩
    · obtain ⟨o', e1⟩ := I.base.there b o e hx
      exact ⟨o', (hs.2 b (Nat.ne_of_lt (Nat.lt_of_lt_of_le (Heap.lt_size e) (I.ok.cab x c hfn hc)))).trans e1⟩
    · by_cases hj : j = i
      · subst hj
        rw [hi] at e1; cases e1
        rw [List.getElem?_set_self hiσ] at e2
        cases e2
        exact ⟨u, r, .inr ⟨.inl hk, c, hc, hc'⟩⟩
      · rw [List.getElem?_set_ne (Ne.symm hj)] at e2
        obtain ⟨u', r', q⟩ := hl j y v' e1 e2 e3
        refine ⟨u', r', ?_⟩
        rcases q with q | ⟨k, c', e, z'⟩
        · exact .inl q
        · refine .inr ⟨k, c', e, z'.sameBut hs ?_⟩
          rintro rfl
          exact hj (nodup_ix hN e1 (I.ok.inj _ _ _ e hc ▸ hi))
    · by_cases hcc : c' = c
      · subst hcc; exact ⟨_, hc'⟩
      · obtain ⟨w2, z2⟩ := I.cell y c' e
        exact ⟨w2, z2.sameBut hs hcc⟩
    · obtain ⟨e, n, ne, nf, d⟩ := I.pin p hp
      refine ⟨(hs.2 p.1 ?_).trans e, n, ne, nf, d⟩
      intro q
      rw [q, hoc] at e
      have q' : oc = p.2 := Option.some.inj e
      exact d w' (by rw [← q']; exact hocd)
theorem store_ok {M : Model} {A : Around} {E : Value → Shared → Prop} {i : Nat} {x : Str} {v : V} {u : Value} {Q : Unit → Shared → Prop} (I : Inv X pins σ H s) (hN : X.N.Nodup) (hi : X.N[i]? = some x) (hx : Loc X.env.scope x) (r : RelV v u)
    (h : ∀ s', Inv X pins (σ.set i (some v)) H s' → Q () s') (hf : X.fn x = true ∨ X.env.scope.names.lookup x = some .local := by first | exact .inl rfl | exact .inr rfl | assumption) : wpAny M A (storeName X.env x u) Q E s :=
  store_ok2 I hN hi hx r (fun s' I' _ => h s' I') hf
theorem Inv.call' {s' : Shared} {ch : List Addr} (I : Inv X pins σ H s) (ho : s'.os = s.os) (u : Un (frs X.stack) ch H H' s.heap s'.heap) (hok : HOk X.prog X.w H' s'.heap) (hg : AllBare s'.gens)
    (hch : ∀ b ∈ ch, (b ∈ X.ex ∨ X.s₀.heap.objs.size ≤ b) ∧ b ≠ X.env.locals ∧ (∀ x c, X.env.cells.lookup x = some c → c ≠ b) ∧ ∀ p ∈ X.pn ++ pins, p.1 ≠ b) : Inv X pins σ H' s' := by
  obtain ⟨h', g', d', t', o'⟩ := s'
  have e : o' = s.os := ho
  subst e
  exact I.call (g' := g') (t' := t') (d' := d') u hok hg hch
end

abbrev XK := Value → Option Addr → Hp → Prop
abbrev St := List (Option V)
abbrev VK := V → Hp → Prop
abbrev TE := St → Hp → VK → Prop
abbrev TT := St → Hp → (Bool → Hp → Prop) → Prop
abbrev TA := St → Hp → (List V → Hp → Prop) → Prop
structure Ends where
  nx : St → Hp → Prop
  rt : VK
  bk : St → Hp → Prop := fun _ _ => False
  ct : St → Hp → Prop := fun _ _ => False
abbrev TS := Ends → St → Hp → Prop

def EP (X : Cx) (pins : List (Addr × Obj)) (σ : St) (Q : VK) (u : Value) (s' : Shared) : Prop := ∃ v H', Inv X pins σ H' s' ∧ RelV v u ∧ Q v H'
def TP (X : Cx) (pins : List (Addr × Obj)) (σ : St) (Q : Bool → Hp → Prop) (b : Bool) (s' : Shared) : Prop := ∃ H', Inv X pins σ H' s' ∧ Q b H'
def AP (X : Cx) (pins : List (Addr × Obj)) (σ : St) (Q : List V → Hp → Prop) (us : List Value) (s' : Shared) : Prop := ∃ vs H', Inv X pins σ H' s' ∧ Vals vs us ∧ Q vs H'
def SP (X : Cx) (pins : List (Addr × Obj)) (D : Ends) (f : Flow) (s' : Shared) : Prop :=
  match f with
  | .next => ∃ σ' H', Inv X pins σ' H' s' ∧ D.nx σ' H'
  | .brk => ∃ σ' H', Inv X pins σ' H' s' ∧ D.bk σ' H'
  | .cont => ∃ σ' H', Inv X pins σ' H' s' ∧ D.ct σ' H'
  | .ret u => ∃ v σ' H', Inv X pins σ' H' s' ∧ RelV v u ∧ D.rt v H'

def PE (X : Cx) (e : Expr) (t : TE) : Prop :=
  ∀ (pins : List (Addr × Obj)) (s : Shared) (σ : St) (H : Hp) (Q : VK), Inv X pins σ H s → t σ H Q → wpAny (model X.prog X.w) X.A (eval e X.env) (EP X pins σ Q) X.xe s
def PT (X : Cx) (e : Expr) (t : TT) : Prop :=
  ∀ (pins : List (Addr × Obj)) (s : Shared) (σ : St) (H : Hp) (Q : Bool → Hp → Prop), Inv X pins σ H s → t σ H Q → wpAny (model X.prog X.w) X.A (isTrue e X.env (eval e X.env)) (TP X pins σ Q) X.xe s
def PW (X : Cx) (e : Expr) (t : TT) : Prop :=
  ∀ (whole : Sem Value) (pins : List (Addr × Obj)) (s : Shared) (σ : St) (H : Hp) (Q : Bool → Hp → Prop), Inv X pins σ H s → t σ H Q → wpAny (model X.prog X.w) X.A (isTrue e X.env whole) (TP X pins σ Q) X.xe s
theorem PW.pt {X : Cx} {e : Expr} {t : TT} (h : PW X e t) : PT X e t := h _
def PA (X : Cx) (es : List Expr) (t : TA) : Prop :=
  ∀ (pos : Pos) (pins : List (Addr × Obj)) (s : Shared) (σ : St) (H : Hp) (Q : List V → Hp → Prop), Inv X pins σ H s → t σ H Q → wpAny (model X.prog X.w) X.A (spliced (backTo pos (starEach es X.env))) (AP X pins σ Q) X.xe s
def PS (X : Cx) (st : Stmt) (t : TS) : Prop :=
  ∀ (pins : List (Addr × Obj)) (s : Shared) (σ : St) (H : Hp) (D : Ends), Inv X pins σ H s → t D σ H → wpAny (model X.prog X.w) X.A (exec st X.env) (SP X pins D) X.xe s
def PSs (X : Cx) (st : List Stmt) (t : TS) : Prop :=
  ∀ (pins : List (Addr × Obj)) (s : Shared) (σ : St) (H : Hp) (D : Ends), Inv X pins σ H s → t D σ H → wpAny (model X.prog X.w) X.A (execs st X.env) (SP X pins D) X.xe s
theorem thn {α : Type} {t : Sem α} {Q Q' : α → Shared → Prop} {M : Model} {A : Around} {E : Value → Shared → Prop} {s : Shared} (h : wpAny M A t Q E s) (hQ : ∀ a s, Q a s → Q' a s) : wpAny M A t Q' E s := wpAny_mono h hQ fun _ _ x => x
end L2

namespace L2
open PySem PySem.Spec PyProof.Rows
section
variable {X : Cx}

def tVar (i : Nat) : TE := fun σ H Q => ∃ v, σ[i]? = some (some v) ∧ Q v H
def tC (v : V) : TE := fun _ H Q => Q v H
theorem pe_var {i : Nat} {x : Str} {pos : Pos} (hN : X.N[i]? = some x) (hv : Vis X.env.scope x) (hd : (x == ("__debug__" : Str)) = false := by decide) (hcd : (x == ("__classdict__" : Str)) = false := by decide) : PE X (.Name x pos) (tVar i) := by
  intro pins s σ H Q I h
  obtain ⟨v, e, h⟩ := h
  obtain ⟨m, hn, hl⟩ := I.loc
  obtain ⟨u, r, l⟩ := hl i x v hN e hv
  have fin : EP X pins σ Q u s := ⟨v, H, I, r, h⟩
  rcases l with ⟨hk, hm⟩ | ⟨hk, c, hc, hcell⟩
  · exact wpAny_Name (wpAny_loadName_local I.ok.kind hk hn hm fin) hd
  · rcases hk with hk | hk
    · exact wpAny_Name (wpAny_loadName_cell I.ok.kind hk hc hcell fin) hd
    · exact wpAny_Name (wpAny_loadName_free I.ok.kind hk hc hcell fin hcd) hd
theorem pe_int {i j pos} : PE X (.Constant (.int i) j pos) (tC (.int i)) := fun _ _ _ H _ I h => wpAny_Constant_int ⟨.int i, H, I.tok _, ⟨_, rfl⟩, h⟩
theorem pe_bl {b j pos} : PE X (.Constant (.bool b) j pos) (tC (.bl b)) := fun _ _ _ H _ I h => Constant_bool ⟨.bl b, H, I, rfl, h⟩
theorem pe_non {j pos} : PE X (.Constant .none j pos) (tC .non) := fun _ _ _ H _ I h => Constant_none ⟨.non, H, I, rfl, h⟩
theorem pe_str {x j pos} : PE X (.Constant (.str x) j pos) (tC (.str x)) := fun _ _ _ H _ I h => Calls.Constant_str ⟨.str x, H, I.tok _, ⟨_, rfl⟩, h⟩

def Gl (X : Cx) (x : Str) : Prop := X.env.kindOf x = some .globalImplicit
theorem ld_glob {E : Value → Shared → Prop} {pins : List (Addr × Obj)} {s : Shared} {σ : St} {H : Hp} {x : Str} {u : Value} {pos : Pos} {Q : Value → Shared → Prop} (I : Inv X pins σ H s) (hg : Gl X x) (hm : X.mg x = some u) (h : Q u s)
    (hd : (x == ("__debug__" : Str)) = false := by decide) : wpAny (model X.prog X.w) X.A (eval (.Name x pos) X.env) Q E s :=
  Calls.Name_function_global I.ok.kind hg (Calls.loadGlobal_global (by rw [I.ok.glob]; exact I.mod.glob.keeps I.bk) hm h) hd
theorem ld_blt {E : Value → Shared → Prop} {pins : List (Addr × Obj)} {s : Shared} {σ : St} {H : Hp} {x : Str} {u : Value} {pos : Pos} {Q : Value → Shared → Prop} (I : Inv X pins σ H s) (hg : Gl X x) (hm : X.mg x = none) (hv : bootBuiltins x = some u) (h : Q u s)
    (hn : x ≠ "__name__" := by decide) (hd : (x == ("__debug__" : Str)) = false := by decide) : wpAny (model X.prog X.w) X.A (eval (.Name x pos) X.env) Q E s := by
  obtain ⟨mb, h1, h2⟩ := I.mod.blt
  exact Calls.Name_function_global I.ok.kind hg (Calls.loadGlobal_builtin (by rw [I.ok.glob]; exact I.mod.glob.keeps I.bk) hm (by rw [I.ok.blt]; exact h1.keeps I.bk) ((h2 x hn).trans hv) h) hd
theorem pe_glob {x : Str} {v : V} {u : Value} {pos : Pos} (hg : Gl X x) (hm : X.mg x = some u) (r : RelV v u) (hd : (x == ("__debug__" : Str)) = false := by decide) : PE X (.Name x pos) (tC v) :=
  fun _ _ _ H _ I h => ld_glob I hg hm ⟨v, H, I, r, h⟩ hd
theorem pe_bltn {x : Str} {v : V} {u : Value} {pos : Pos} (hg : Gl X x) (hm : X.mg x = none) (hv : bootBuiltins x = some u) (r : RelV v u) (hn : x ≠ "__name__" := by decide) (hd : (x == ("__debug__" : Str)) = false := by decide) : PE X (.Name x pos) (tC v) :=
  fun _ _ _ H _ I h => ld_blt I hg hm hv ⟨v, H, I, r, h⟩ hn hd

def t2I (ta tb : TE) (k : Int → Int → Hp → Prop) : St → Hp → Prop := fun σ H => ta σ H fun x H1 => tb σ H1 fun y H2 => ∃ i j, x = .int i ∧ y = .int j ∧ k i j H2
def tAdd (ta tb : TE) : TE := fun σ H Q => t2I ta tb (fun i j H2 => Q (.int (i + j)) H2) σ H
def tSub (ta tb : TE) : TE := fun σ H Q => t2I ta tb (fun i j H2 => Q (.int (i - j)) H2) σ H
def tMul (ta tb : TE) : TE := fun σ H Q => t2I ta tb (fun i j H2 => (-(2 ^ 64) < i ∧ i < 2 ^ 64) ∧ Q (.int (i * j)) H2) σ H
variable {a b : Expr} {ta tb : TE} {pos : Pos}
def PC (X : Cx) (op : CmpOp) (a b : Expr) (t : TE) : Prop :=
  ∀ (pins : List (Addr × Obj)) (s : Shared) (σ : St) (H : Hp) (Q : VK), Inv X pins σ H s → t σ H Q →
    wpAny (model X.prog X.w) X.A (eval a X.env) (fun v s₁ => wpAny (model X.prog X.w) X.A (eval b X.env) (fun u s₂ => wpAny (model X.prog X.w) X.A (compareOp op v u) (EP X pins σ Q) X.xe s₂) X.xe s₁) X.xe s
def tCmp (p : Int → Int → Bool) (ta tb : TE) : TE := fun σ H Q => t2I ta tb (fun i j H2 => Q (.bl (p i j)) H2) σ H
abbrev tLt : TE → TE → TE := tCmp fun i j => decide (i < j)
abbrev tLe : TE → TE → TE := tCmp fun i j => decide (i ≤ j)
abbrev tGt : TE → TE → TE := tCmp fun i j => decide (j < i)
abbrev tGe : TE → TE → TE := tCmp fun i j => decide (j ≤ i)
abbrev tEqI : TE → TE → TE := tCmp fun i j => decide (i = j)
abbrev tNeI : TE → TE → TE := tCmp fun i j => !decide (i = j)
def tIsN (ta : TE) : TE := fun σ H Q => ta σ H fun x H1 => Q (.bl (decide (x = .non))) H1
def tNotN (ta : TE) : TE := fun σ H Q => ta σ H fun x H1 => Q (.bl (!decide (x = .non))) H1
def tB (t : TE) : TT := fun σ H Q => t σ H fun x H1 => ∃ c, x = .bl c ∧ Q c H1
theorem pt_val {e : Expr} {t : TE} (h : PE X e t) (he : ∀ whole, isTrue e X.env whole = (do let v ← whole; standAt e.pos; holding [v] (truthy v)) := by intro _; rfl) : PT X e (tB t) := by
  intro pins s σ H Q I hw
  refine isTrue_plain (thn (h pins s σ H _ I hw) fun v s1 ⟨x, H1, I1, r1, q1⟩ => ?_) (he _)
  obtain ⟨d, rfl, q⟩ := q1
  cases r1
  exact wpAny_truthy_bool ⟨H1, I1, q⟩

variable {tA tB' : TT} {rest : List Expr}
def tAnd (t u : TT) : TT := fun σ H Q => t σ H fun c H1 => if c = true then u σ H1 Q else Q false H1
def tOr (t u : TT) : TT := fun σ H Q => t σ H fun c H1 => if c = true then Q true H1 else u σ H1 Q
def tNot (t : TT) : TT := fun σ H Q => t σ H fun c H1 => Q (!c) H1
theorem pw_and1 (ha : PT X a tA) : PW X (.BoolOp .And [a] pos) tA := by
  intro wh pins s σ H Q I h
  refine isTrue_and (thn (ha pins s σ H Q I h) fun c s1 e => ?_)
  cases c with
  | true => exact isTrue_and_nil e
  | false => exact e
theorem pw_or1 (ha : PT X a tA) : PW X (.BoolOp .Or [a] pos) tA := by
  intro wh pins s σ H Q I h
  refine isTrue_or (thn (ha pins s σ H Q I h) fun c s1 e => ?_)
  cases c with
  | false => exact isTrue_or_nil e
  | true => exact e
theorem pw_and (ha : PT X a tA) (hb : PW X (.BoolOp .And (b :: rest) pos) tB') : PW X (.BoolOp .And (a :: b :: rest) pos) (tAnd tA tB') := by
  intro wh pins s σ H Q I h
  refine isTrue_and (thn (ha pins s σ H _ I h) fun c s1 ⟨H1, I1, q1⟩ => ?_)
  cases c with
  | true => exact hb wh pins s1 σ H1 Q I1 q1
  | false => exact ⟨H1, I1, q1⟩
theorem pw_or (ha : PT X a tA) (hb : PW X (.BoolOp .Or (b :: rest) pos) tB') : PW X (.BoolOp .Or (a :: b :: rest) pos) (tOr tA tB') := by
  intro wh pins s σ H Q I h
  refine isTrue_or (thn (ha pins s σ H _ I h) fun c s1 ⟨H1, I1, q1⟩ => ?_)
  cases c with
  | true => exact ⟨H1, I1, q1⟩
  | false => exact hb wh pins s1 σ H1 Q I1 q1
theorem pt_not (ha : PT X a tA) : PT X (.UnaryOp .Not a pos) (tNot tA) := by
  intro pins s σ H Q I h
  exact isTrue_not (ha pins s σ H (fun c H1 => Q (!c) H1) I h)
def tAndV (ta tb : TE) : TE := fun σ H Q => ta σ H fun x H1 => ∃ c, x = .bl c ∧ if c = true then tb σ H1 Q else Q (.bl false) H1
def tOrV (ta tb : TE) : TE := fun σ H Q => ta σ H fun x H1 => ∃ c, x = .bl c ∧ if c = true then Q (.bl true) H1 else tb σ H1 Q
def tNotV (ta : TE) : TE := fun σ H Q => ta σ H fun x H1 => ∃ c, x = .bl c ∧ Q (.bl (!c)) H1
theorem pe_one {op} {t : TE} (h : PE X a t) : PE X (.BoolOp op [a] pos) t := fun pins s σ H Q I hw => BoolOp_one (h pins s σ H Q I hw)
theorem pe_and (ha : PE X a ta) (hb : PE X (.BoolOp .And (b :: rest) pos) tb) : PE X (.BoolOp .And (a :: b :: rest) pos) (tAndV ta tb) := by
  intro pins s σ H Q I h
  refine BoolOp_and (thn (ha pins s σ H _ I h) fun v s1 ⟨x, H1, I1, r1, q1⟩ => ?_)
  obtain ⟨c, rfl, q1⟩ := q1
  cases r1
  refine wpAny_truthy_bool ?_
  cases c with
  | true => exact hb pins s1 σ H1 Q I1 q1
  | false => exact ⟨.bl false, H1, I1, rfl, q1⟩
theorem pe_not (ha : PE X a ta) : PE X (.UnaryOp .Not a pos) (tNotV ta) := by
  intro pins s σ H Q I h
  refine UnaryOp_ (thn (ha pins s σ H _ I h) fun v s1 ⟨x, H1, I1, r1, q1⟩ => ?_)
  obtain ⟨c, rfl, q1⟩ := q1
  cases r1
  exact not_of (wpAny_truthy_bool ⟨.bl (!c), H1, I1, rfl, q1⟩)
def tIf (t : TT) (ta tb : TE) : TE := fun σ H Q => t σ H fun c H1 => if c = true then ta σ H1 Q else tb σ H1 Q
theorem pe_ifExp {c : Expr} (hc : PT X c tA) (ha : PE X a ta) (hb : PE X b tb) : PE X (.IfExp c a b pos) (tIf tA ta tb) := by
  intro pins s σ H Q I h
  refine wpAny_IfExp (thn (hc pins s σ H _ I h) fun d s1 ⟨H1, I1, q1⟩ => ?_)
  cases d with
  | true => exact ha pins s1 σ H1 Q I1 q1
  | false => exact hb pins s1 σ H1 Q I1 q1
end
end L2

namespace L2
open PySem PySem.Spec PyProof.Rows

def SqL (K : PySem.W.Frag) (H : Hp) (a : Addr) (xs : List V) : Prop :=
  Rd H a (.lst xs) ∨
    ∃ (o : Obj) (its : Array Value) (n : Nat), K.lookup a = some o ∧ o.cls = .type "list" ∧ o.dict = none ∧ o.data = .seq its n ∧ its.size ≤ sizeLine ∧ Vals xs its.toList
def SqT (K : PySem.W.Frag) (H : Hp) (a : Addr) (xs : List V) : Prop :=
  Rd H a (.tup xs) ∨
    ∃ (o : Obj) (its : Array Value) (n : Nat), K.lookup a = some o ∧ o.cls = .type "tuple" ∧ o.data = .seq its n ∧ its.size ≤ sizeLine ∧ Vals xs its.toList
def absV : Value → Option V
  | .none => some .non
  | .bool b => some (.bl b)
  | .int i _ => some (.int i)
  | .str x _ => some (.str x)
  | .bytes b _ => some (.byt b)
  | .float b _ => some (.flt b)
  | .ref a => some (.ref a)
  | .type n => some (.ty n)
  | _ => none
theorem RelV.abs {x : V} {u : Value} (r : RelV x u) : absV u = some x := by
  cases x with
  | non => cases r; rfl
  | bl _ => cases r; rfl
  | int _ => obtain ⟨t, rfl⟩ := r; rfl
  | str _ => obtain ⟨t, rfl⟩ := r; rfl
  | byt _ => obtain ⟨t, rfl⟩ := r; rfl
  | flt _ => obtain ⟨t, rfl⟩ := r; rfl
  | ref _ => cases r; rfl
  | ty _ => cases r; rfl
theorem RelV.inj {x y : V} {u : Value} (r : RelV x u) (q : RelV y u) : x = y := Option.some.inj (r.abs.symm.trans q.abs)
theorem Vals.inj : ∀ {xs ys : List V} {us : List Value}, Vals xs us → Vals ys us → xs = ys
  | _, _, _, .nil, .nil => rfl
  | _, _, _, .cons r t, .cons r' t' => by rw [r.inj r', Vals.inj t t']
section
variable {X : Cx} {pins : List (Addr × Obj)} {σ : St} {H : Hp} {s : Shared} {a : Addr} {xs ys : List V}
theorem SqL.of {K : PySem.W.Frag} (h : H a = some (.lst xs)) : SqL K H a xs := .inl (.inl h)
theorem SqT.of {K : PySem.W.Frag} (h : H a = some (.tup xs)) : SqT K H a xs := .inl (.inl h)
theorem Inv.list (I : Inv X pins σ H s) (h : SqL X.K H a xs) : ∃ its : List Value, Vals xs its ∧ PlainL s.heap a its.toArray ∧ xs.length ≤ sizeLine := by
  rcases h with h | ⟨o, its, n, hk, hc, hd, hs, hz, r⟩
  · obtain ⟨z, its, n, r, e⟩ := h.ok I.hok
    exact ⟨its, r, ⟨_, n, e, rfl, rfl, rfl⟩, z⟩
  · refine ⟨its.toList, r, ⟨o, n, I.kIn a o hk, hc, hd, by simpa using hs⟩, ?_⟩
    have e := r.length
    simp only [Array.length_toList] at e
    omega
theorem Inv.tuple (I : Inv X pins σ H s) (h : SqT X.K H a xs) : ∃ its : List Value, Vals xs its ∧ IsTup s.heap a its.toArray ∧ xs.length ≤ sizeLine := by
  rcases h with h | ⟨o, its, n, hk, hc, hs, hz, r⟩
  · obtain ⟨z, its, r, p⟩ := h.ok I.hok
    exact ⟨its, r, p, z⟩
  · refine ⟨its.toList, r, ⟨o, I.kIn a o hk, hc, n, by simpa using hs⟩, ?_⟩
    have e := r.length
    simp only [Array.length_toList] at e
    omega
theorem Inv.list_inj (I : Inv X pins σ H s) (h : SqL X.K H a xs) (h' : SqL X.K H a ys) : xs = ys := by
  obtain ⟨its, r, ⟨o, n, e, _, _, d⟩, _⟩ := I.list h
  obtain ⟨its', r', ⟨o', n', e', _, _, d'⟩, _⟩ := I.list h'
  rw [e] at e'; cases e'
  rw [d] at d'
  injection d' with d1 _
  have : its = its' := by simpa using congrArg Array.toList d1
  subst this
  exact r.inj r'
theorem Inv.tuple_inj (I : Inv X pins σ H s) (h : SqT X.K H a xs) (h' : SqT X.K H a ys) : xs = ys := by
  obtain ⟨its, r, ⟨o, e, _, n, d⟩, _⟩ := I.tuple h
  obtain ⟨its', r', ⟨o', e', _, n', d'⟩, _⟩ := I.tuple h'
  rw [e] at e'; cases e'
  rw [d] at d'
  injection d' with d1 _
  have : its = its' := by simpa using congrArg Array.toList d1
  subst this
  exact r.inj r'
end

abbrev Cx.wish (X : Cx) (E : Value → Shared → Prop) : Cx := { X with xe := E }
abbrev Cx.nox (X : Cx) : Cx := X.wish fun _ _ => False
theorem Cx.Ok.wish {X : Cx} (ok : X.Ok) (E : Value → Shared → Prop) : (X.wish E).Ok :=
  ⟨ok.mod, ok.kind, ok.glob, ok.blt, ok.above, ok.inj, ok.has, ok.cab, ok.hd, ok.frames, ok.stk, ok.exf, ok.bs, ok.bsz, ok.noex, ok.exfs, ok.funs, ok.frf⟩
theorem Cx.Ok.unwish {X : Cx} {E : Value → Shared → Prop} (ok : (X.wish E).Ok) : X.Ok :=
  ⟨ok.mod, ok.kind, ok.glob, ok.blt, ok.above, ok.inj, ok.has, ok.cab, ok.hd, ok.frames, ok.stk, ok.exf, ok.bs, ok.bsz, ok.noex, ok.exfs, ok.funs, ok.frf⟩
section
variable {X : Cx} {pins : List (Addr × Obj)} {σ : St} {H : Hp} {s : Shared} {E : Value → Shared → Prop}
theorem Inv.wish (I : Inv X pins σ H s) (E : Value → Shared → Prop) : Inv (X.wish E) pins σ H s := ⟨I.ok.wish E, I.os, I.bare, I.base, I.loc, I.cell, I.free, I.freeC, I.pin, I.hok, I.len⟩
theorem Inv.unwish (I : Inv (X.wish E) pins σ H s) : Inv X pins σ H s := ⟨I.ok.unwish, I.os, I.bare, I.base, I.loc, I.cell, I.free, I.freeC, I.pin, I.hok, I.len⟩
theorem SP.unwish {D : Ends} {f : Flow} {s' : Shared} (h : SP (X.wish E) pins D f s') : SP X pins D f s' := by
  cases f with
  | next => obtain ⟨σ', H', I, q⟩ := h; exact ⟨σ', H', I.unwish, q⟩
  | brk => obtain ⟨σ', H', I, q⟩ := h; exact ⟨σ', H', I.unwish, q⟩
  | cont => obtain ⟨σ', H', I, q⟩ := h; exact ⟨σ', H', I.unwish, q⟩
  | ret u => obtain ⟨v, σ', H', I, r, q⟩ := h; exact ⟨v, σ', H', I.unwish, r, q⟩
theorem PE.nox {e : Expr} {t : TE} (h : PE X.nox e t) : PE X e t := fun pins s σ H Q I hw =>
  wpAny_mono (h pins s σ H Q (I.wish _) hw) (fun _ _ ⟨v, H', I', r, q⟩ => ⟨v, H', I'.unwish, r, q⟩) fun _ _ z => False.elim z
theorem PT.nox {e : Expr} {t : TT} (h : PT X.nox e t) : PT X e t := fun pins s σ H Q I hw =>
  wpAny_mono (h pins s σ H Q (I.wish _) hw) (fun _ _ ⟨H', I', q⟩ => ⟨H', I'.unwish, q⟩) fun _ _ z => False.elim z
theorem PSs.nox {st : List Stmt} {t : TS} (h : PSs X.nox st t) : PSs X st t := fun pins s σ H D I hw =>
  wpAny_mono (h pins s σ H D (I.wish _) hw) (fun _ _ q => q.unwish) fun _ _ z => False.elim z
end

section
variable {X : Cx} {st : Stmt} {rest : List Stmt} {t u : TS} {e : Expr} {te : TE} {pos : Pos}
def tNext : TS := fun D σ H => D.nx σ H
def tSeq (t u : TS) : TS := fun D σ H => t { D with nx := u D } σ H
theorem pss_nil : PSs X [] tNext := fun _ _ σ H _ I h => wpAny_execs_nil ⟨σ, H, I, h⟩
theorem pss_cons (h1 : PS X st t) (h2 : PSs X rest u) : PSs X (st :: rest) (tSeq t u) := by
  intro pins s σ H D I h
  refine wpAny_execs_cons (thn (h1 pins s σ H { D with nx := u D } I h) fun f s1 q => ?_)
  cases f with
  | next =>
    obtain ⟨σ', H', I', q⟩ := q
    exact h2 pins s1 σ' H' D I' q
  | ret v => exact q
  | brk => exact q
  | cont => exact q
theorem pss_one (h1 : PS X st t) : PSs X [st] t := by
  intro pins s σ H D I h
  refine wpAny_execs_cons (thn (h1 pins s σ H D I h) fun f s1 q => ?_)
  cases f with
  | next => exact wpAny_execs_nil q
  | ret v => exact q
  | brk => exact q
  | cont => exact q
def tBreak : TS := fun D σ H => D.bk σ H
def tCont : TS := fun D σ H => D.ct σ H
theorem Inv.quiet {pins : List (Addr × Obj)} {σ : St} {H : Hp} {s : Shared} (I : Inv X pins σ H s) : interactive X.env = false := by simp [interactive, I.ok.kind]
def tDrop (te : TE) : TS := fun D σ H => te σ H fun _ H1 => D.nx σ H1
def tRet (te : TE) : TS := fun D σ H => te σ H D.rt
theorem ps_ret (he : PE X e te) : PS X (.Return (some e) pos) (tRet te) := by
  intro pins s σ H D I h
  exact wpAny_Return_some (thn (he pins s σ H _ I h) fun v s1 ⟨x, H1, I1, r1, q1⟩ => ⟨x, σ, H1, I1, r1, q1⟩)
def tRetN : TS := fun D _ H => D.rt .non H
def tIfS (c : TT) (t u : TS) : TS := fun D σ H => c σ H fun b H1 => if b = true then t D σ H1 else u D σ H1
theorem ps_if {c : Expr} {a b : List Stmt} {tc : TT} (hc : PT X c tc) (ha : PSs X a t) (hb : PSs X b u) : PS X (.If c a b pos) (tIfS tc t u) := by
  intro pins s σ H D I h
  refine wpAny_If (thn (hc pins s σ H _ I h) fun d s1 ⟨H1, I1, q1⟩ => ?_)
  cases d with
  | true => exact ha pins s1 σ H1 D I1 q1
  | false => exact hb pins s1 σ H1 D I1 q1
def tNever : TS := fun _ _ _ => False
end

abbrev TG := V → St → Hp → (St → Hp → Prop) → Prop
abbrev TGs := List V → St → Hp → (St → Hp → Prop) → Prop
def PG (X : Cx) (target : Expr) (t : TG) : Prop :=
  ∀ (pins : List (Addr × Obj)) (s : Shared) (σ : St) (H : Hp) (v : V) (u : Value) (Q : St → Hp → Prop), Inv X pins σ H s → RelV v u → t v σ H Q →
    wpAny (model X.prog X.w) X.A (assign target X.env u) (fun _ s' => ∃ σ' H', Inv X pins σ' H' s' ∧ Q σ' H') X.xe s
def PGs (X : Cx) (ts : List Expr) (t : TGs) : Prop :=
  ∀ (pins : List (Addr × Obj)) (s : Shared) (σ : St) (H : Hp) (vs : List V) (us : List Value) (Q : St → Hp → Prop), Inv X pins σ H s → Vals vs us → t vs σ H Q →
    wpAny (model X.prog X.w) X.A (assignInOrder ((assignEach ts X.env).map (·.2)) us) (fun _ s' => ∃ σ' H', Inv X pins σ' H' s' ∧ Q σ' H') X.xe s
abbrev TSet := V → V → V → Hp → (Hp → Prop) → Prop
def PSet (X : Cx) (t : TSet) : Prop :=
  ∀ (pins : List (Addr × Obj)) (s : Shared) (σ : St) (H : Hp) (o i v : V) (ov iv u : Value) (Q : Hp → Prop), Inv X pins σ H s → RelV o ov → RelV i iv → RelV v u → t o i v H Q →
    wpAny (model X.prog X.w) X.A (setItem ov iv u) (fun _ s' => ∃ H', Inv X pins σ H' s' ∧ Q H') X.xe s
abbrev TIp := V → V → Hp → VK → Prop
def PIp (X : Cx) (op : Operator) (t : TIp) : Prop :=
  ∀ (pins : List (Addr × Obj)) (s : Shared) (σ : St) (H : Hp) (x y : V) (v u : Value) (Q : VK), Inv X pins σ H s → RelV x v → RelV y u → t x y H Q →
    wpAny (model X.prog X.w) X.A (inplaceOp op v u) (EP X pins σ Q) X.xe s
section
variable {X : Cx} {pos : Pos}
def gName (i : Nat) : TG := fun v σ H Q => Q (σ.set i (some v)) H
theorem pg_name {i : Nat} {x : Str} (hN : X.N.Nodup) (hi : X.N[i]? = some x) (hx : Loc X.env.scope x) (hf : X.fn x = true ∨ X.env.scope.names.lookup x = some .local := by first | exact .inl rfl | exact .inr rfl | assumption) : PG X (.Name x pos) (gName i) := by
  intro pins s σ H v u Q I r h
  exact wpAny_assign_Name (store_ok I hN hi hx r (fun s' I' => ⟨_, H, I', h⟩) hf)
def gNil : TGs := fun vs σ H Q => vs = [] ∧ Q σ H
def gCons (t : TG) (u : TGs) : TGs := fun vs σ H Q => ∃ v r, vs = v :: r ∧ t v σ H fun σ' H' => u r σ' H' Q
theorem pgs_nil : PGs X [] gNil := by
  intro pins s σ H vs us Q I r h
  obtain ⟨e, h⟩ := h
  subst e
  cases r
  exact assignInOrder_nil ⟨σ, H, I, h⟩
theorem pgs_cons {e : Expr} {es : List Expr} {t : TG} {u : TGs} (h1 : PG X e t) (h2 : PGs X es u)
    (hs : (assignEach (e :: es) X.env).map (·.2) = assign e X.env :: (assignEach es X.env).map (·.2) := by rfl) : PGs X (e :: es) (gCons t u) := by
  intro pins s σ H vs us Q I r h
  obtain ⟨v, vr, e1, h⟩ := h
  subst e1
  cases r with
  | cons r rr =>
    rw [hs]
    refine assignInOrder_cons (thn (h1 pins s σ H _ _ _ I r h) fun _ s1 ⟨σ1, H1, I1, q1⟩ => ?_)
    exact h2 pins s1 σ1 H1 _ _ Q I1 rr q1
def gTup (K : PySem.W.Frag) (n : Nat) (t : TGs) : TG := fun v σ H Q => ∃ a xs, v = .ref a ∧ SqT K H a xs ∧ xs.length = n ∧ t xs σ H Q
theorem pg_tup {es : List Expr} {k : Nat} {t : TGs} {n : Nat} (hc : X.calm = true) (h : PGs X es t)
    (hn : (assignEach es X.env).length = n := by rfl) (hst : (assignEach es X.env).findIdx? (·.1) = none := by rfl) : PG X (.Tuple es k pos) (gTup X.K n t) := by
  intro pins s σ H v u Q I r hw
  obtain ⟨a, xs, e1, hq, hl, hw⟩ := hw
  subst e1
  cases r
  obtain ⟨its, rv, ht, hz⟩ := I.tuple hq
  refine assign_Tuple_tuple (I.ok.hd hc) ht (by simp [hn, ← hl, rv.length]) hst fun h' hx => ?_
  have I1 : Inv X pins σ H { s with heap := h' } := I.kept (t' := s.toks) fun b o e => hx b o (Nat.ne_of_lt (Heap.lt_size e)) e
  exact h pins _ σ H xs _ Q I1 (by simpa using rv) hw
def gSub (to ti : TE) (t : TSet) : TG := fun v σ H Q => to σ H fun o H1 => ti σ H1 fun i H2 => t o i v H2 fun H3 => Q σ H3
def tAsg (te : TE) (g : TG) : TS := fun D σ H => te σ H fun x H1 => g x σ H1 D.nx
theorem ps_asg {tg e : Expr} {te : TE} {g : TG} (he : PE X e te) (hg : PG X tg g) (hs : swapsWithSole [tg] e pos.line X.env = pure false := by rfl) (hw : swappedStores [tg] e X.env = pure none := by rfl)
    (h1 : (assignEach [tg] X.env).map (·.2) = [assign tg X.env] := by rfl) : PS X (.Assign [tg] e pos) (tAsg te g) := by
  intro pins s σ H D I h
  refine wpAny_Assign_stores (thn (he pins s σ H _ I h) fun v s1 ⟨x, H1, I1, r1, q1⟩ => ?_) hs hw
  rw [h1]
  exact thn (hg pins s1 σ H1 x v _ I1 r1 q1) fun _ s2 q => q
theorem ps_set {i : Nat} {x : Str} {e : Expr} {te : TE} {pos' : Pos} (hN : X.N.Nodup) (hi : X.N[i]? = some x) (hx : Loc X.env.scope x) (he : PE X e te) (hs : swapsWith e (some (.Name x pos')) pos.line X.env = pure false := by rfl) (hf : X.fn x = true ∨ X.env.scope.names.lookup x = some .local := by first | exact .inl rfl | exact .inr rfl | assumption) :
    PS X (.Assign [.Name x pos'] e pos) (tAsg te (gName i)) := by
  intro pins s σ H D I h
  refine wpAny_Assign_Name (thn (he pins s σ H _ I h) fun v s1 ⟨y, H1, I1, r1, q1⟩ => ?_) hs
  exact store_ok I1 hN hi hx r1 (fun s2 I2 => ⟨_, H1, I2, q1⟩) hf
def tPar (i j : Nat) (ta : TA) : TS := fun D σ H => ta σ H fun vs H1 => ∃ v w, vs = [v, w] ∧ D.nx ((σ.set i (some v)).set j (some w)) H1
theorem ps_par {i j : Nat} {x y : Str} {a b : Expr} {ta : TA} {px py pt : Pos} {kt k2 pt2} (hc : X.calm = true) (hN : X.N.Nodup) (hi : X.N[i]? = some x) (hj : X.N[j]? = some y) (hij : i ≠ j)
    (hx : X.env.scope.names.lookup x = some .local) (hy : X.env.scope.names.lookup y = some .local) (ha : PA X [a, b] ta)
    (hw : swappedStores [.Tuple [.Name x px, .Name y py] kt pt] (.Tuple [a, b] k2 pt2) X.env = pure (some [x, y]))
    (hs : swapsWithSole [.Tuple [.Name x px, .Name y py] kt pt] (.Tuple [a, b] k2 pt2) pos.line X.env = pure false := by rfl) :
    PS X (.Assign [.Tuple [.Name x px, .Name y py] kt pt] (.Tuple [a, b] k2 pt2) pos) (tPar i j ta) := by
  intro pins s σ H D I h
  rw [exec_Assign_arm]
  refine wpAny_bind (wpAny_standAt ?_)
  rw [hs]
  refine wpAny_bind (wpAny_pure ?_)
  rw [if_neg (by decide)]
  refine wpAny_bind (Tuple_ (thn (ha _ pins s σ H _ I h) fun us s1 ⟨vs, H1, I1, r1, q1⟩ => ?_))
  obtain ⟨v, w, e1, q1⟩ := q1
  subst e1
  obtain ⟨u1, u2, rfl, rv, rw'⟩ : ∃ u1 u2, us = [u1, u2] ∧ RelV v u1 ∧ RelV w u2 := by
    cases r1 with
    | cons p q =>
      cases q with
      | cons p' q' =>
        cases q'
        exact ⟨_, _, rfl, p, p'⟩
  refine wpAny_newObj_type ?_ (by show 2 ≤ sizeLine; decide)
  have I2 : Inv X pins σ H1 { s1 with heap := s1.heap.push { cls := .type "tuple", data := .seq [u1, u2].toArray } } := I1.kept (t' := s1.toks) fun b o e => Heap.get?_push_of_some _ e
  rw [hw]
  refine wpAny_bind (wpAny_pure ?_)
  show wpAny (model X.prog X.w) X.A (do rule "assign.swapped-stores"; let items ← unpackItems (.ref s1.heap.objs.size) 2 none; assignInOrder [fun v => bindName X.env y v, fun v => bindName X.env x v] items.reverse; pure Flow.next) _ _ _
  refine wpAny_bind (wpAny_rule (wpAny_bind (unpackItems_tuple (items := #[u1, u2]) (I.ok.hd hc) (IsTup.new s1.heap _) fun h' hx' => ?_)))
  have I3 := I2.kept (h' := h') (t' := s1.toks) fun b o e => hx' b o (Nat.ne_of_lt (Heap.lt_size e)) e
  show wpAny _ _ (assignInOrder [fun v => bindName X.env y v, fun v => bindName X.env x v] [u2, u1] >>= fun _ => pure Flow.next) _ _ _
  refine wpAny_bind (assignInOrder_cons (wpAny_bindName (store_ok I3 hN hj (.inl hy) rw' (fun s2 I4 => ?_) (.inr hy))))
  refine assignInOrder_cons (wpAny_bindName (store_ok I4 hN hi (.inl hx) rv (fun s3 I5 => assignInOrder_nil (wpAny_pure ?_)) (.inr hx)))
  rw [List.set_comm _ _ (Ne.symm hij)] at I5
  exact ⟨_, H1, I5, q1⟩
def tAug (i : Nat) (te : TE) (ti : TIp) : TS := fun D σ H => ∃ x, σ[i]? = some (some x) ∧ te σ H fun y H1 => ti x y H1 fun z H2 => D.nx (σ.set i (some z)) H2
def tAugS (to ti te : TE) (tget : V → V → Hp → VK → Prop) (tip : TIp) (tset : TSet) : TS := fun D σ H => to σ H fun o H1 => ti σ H1 fun i H2 => tget o i H2 fun x H3 => te σ H3 fun y H4 => tip x y H4 fun z H5 => tset o i z H5 fun H6 => D.nx σ H6
def PGet (X : Cx) (t : V → V → Hp → VK → Prop) : Prop :=
  ∀ (pins : List (Addr × Obj)) (s : Shared) (σ : St) (H : Hp) (o i : V) (ov iv : Value) (Q : VK), Inv X pins σ H s → RelV o ov → RelV i iv → t o i H Q →
    wpAny (model X.prog X.w) X.A (getItem ov iv) (EP X pins σ Q) X.xe s
def ipI (f : Int → Int → Int) : TIp := fun x y H Q => ∃ i j, x = .int i ∧ y = .int j ∧ Q (.int (f i j)) H
end

section
variable {X : Cx} {pos : Pos}
def tWhile (c : TT) (tb : TS) : TS := fun D σ H => ∃ W : Nat → St → Hp → Prop, (∃ m, W m σ H) ∧ ∀ m σ H, W m σ H →
  c σ H fun b H1 => if b = true then ∃ N : St → Hp → Prop, (∀ σ' H', N σ' H' → ∃ m', m' < m ∧ W m' σ' H') ∧ tb { D with nx := N, ct := N, bk := D.nx } σ H1 else D.nx σ H1
theorem ps_while {c : Expr} {body : List Stmt} {tc : TT} {tb : TS} (hp : PassesOwn (model X.prog X.w) X.A X.env X.xe) (hc : PT X c tc) (hb : PSs X body tb) : PS X (.While c body [] pos) (tWhile tc tb) := by
  intro pins s σ H D I h
  obtain ⟨W, ⟨m0, w0⟩, turn⟩ := h
  refine wpAny_While (codeAny_whileLoop (fun n s' => ∃ σ' H', Inv X pins σ' H' s' ∧ W n σ' H') ?_ m0 ⟨σ, H, I, w0⟩)
  rintro n s1 ⟨σ1, H1, I1, w1⟩
  refine wpAny_passesOwn hp (thn (hc pins s1 σ1 H1 _ I1 (turn n σ1 H1 w1)) fun b s2 ⟨H2, I2, q2⟩ => ?_)
  cases b with
  | true =>
    obtain ⟨N, hN, q2⟩ := q2
    rw [if_pos rfl]
    refine wpAny_passesOwn hp (thn (hb pins s2 σ1 H2 _ I2 q2) fun f s3 q3 => ?_)
    cases f with
    | next =>
      obtain ⟨σ3, H3, I3, n3⟩ := q3
      obtain ⟨m', hm, w3⟩ := hN σ3 H3 n3
      exact ⟨m', hm, σ3, H3, I3, w3⟩
    | cont =>
      obtain ⟨σ3, H3, I3, n3⟩ := q3
      obtain ⟨m', hm, w3⟩ := hN σ3 H3 n3
      exact ⟨m', hm, σ3, H3, I3, w3⟩
    | brk => exact q3
    | ret v => exact q3
  | false =>
    rw [if_neg Bool.false_ne_true]
    exact wpAny_execs_nil ⟨σ1, H2, I2, q2⟩
end

structure It where
  go : Nat → Hp → Prop
  yld : Nat → Hp → V → Hp → Prop
  stop : Nat → Hp → Prop
def FpOk (X : Cx) (pins : List (Addr × Obj)) (H : Hp) (b : Addr) : Prop :=
  H b = none ∧ b ≠ X.env.locals ∧ b ∉ X.fs ∧ (b ∈ X.ex ∨ X.s₀.heap.objs.size ≤ b) ∧ (∀ x c, X.env.cells.lookup x = some c → c ≠ b) ∧ ∀ p ∈ X.pn ++ pins, p.1 ≠ b
theorem Inv.fpOk {X : Cx} {pins : List (Addr × Obj)} {σ : St} {H H' : Hp} {s : Shared} {b : Addr} (I : Inv X pins σ H s) (hb : s.heap.objs.size ≤ b) (hn : H' b = none) : FpOk X pins H' b := by
  refine ⟨hn, Nat.ne_of_gt (Nat.lt_of_lt_of_le I.lt hb), I.nofs hb, .inr (Nat.le_trans I.sz hb), fun x c e z => ?_, fun p hp z => ?_⟩
  · obtain ⟨v, q⟩ := I.cell x c e
    exact absurd (Nat.lt_of_lt_of_le q.lt (by rw [z]; exact hb)) (Nat.lt_irrefl _)
  · exact absurd (Nat.lt_of_lt_of_le (Heap.lt_size (I.pin p hp).1) (by rw [z]; exact hb)) (Nat.lt_irrefl _)
structure Turn (P : Program) (w : World) (K : PySem.W.Frag) (tg : Expr) (J : It) (fp : List Addr) (it : Addr) (tn : Nat → Heap → Prop) : Prop where
  mem : it ∈ fp
  obj : ∀ i h, tn i h → ∀ b ∈ fp, ∃ o, h.get? b = some o ∧ ∀ v, o.data ≠ .cell v
  keep : ∀ i h h', tn i h → (∀ b ∈ fp, ∀ o, h.get? b = some o → h'.get? b = some o) → tn i h'
  item : ∀ (X : Cx), X.prog = P → X.w = w → X.K = K → X.calm = true → ∀ (i : Nat) (pins : List (Addr × Obj)) (s : Shared) (σ : St) (H : Hp) (E : Value → Shared → Prop), Inv X pins σ H s → (∀ b ∈ fp, FpOk X pins H b) → tn i s.heap → J.go i H →
    wpAny (model P w) X.A (pyNext (.ref it)) (fun r s1 => ∃ u, r = some u ∧
      wpAny (model P w) X.A (letOwnedTupleGo tg (.ref it) u) (fun _ s2 => ∃ x H', Inv X pins σ H' s2 ∧ RelV x u ∧ J.yld i H x H' ∧ tn (i + 1) s2.heap ∧ ∀ b ∈ fp, H' b = none) E s1) E s
  done : ∀ (X : Cx), X.prog = P → X.w = w → X.K = K → X.calm = true → ∀ (i : Nat) (pins : List (Addr × Obj)) (s : Shared) (σ : St) (H : Hp) (E : Value → Shared → Prop), Inv X pins σ H s → (∀ b ∈ fp, FpOk X pins H b) → tn i s.heap → J.stop i H →
    wpAny (model P w) X.A (pyNext (.ref it)) (fun r s1 => r = none ∧ Inv X pins σ H s1) E s
  self : ∀ (A : Around) (i : Nat) (s : Shared) (Q : Value → Shared → Prop) (E : Value → Shared → Prop), tn i s.heap → Q (.ref it) s → wpAny (model P w) A (pyIter (.ref it)) Q E s
abbrev TI := St → Hp → (It → Hp → Prop) → Prop
def PIE (X : Cx) (pins : List (Addr × Obj)) (σ : St) (tg : Expr) (R : It → Hp → Prop) (itv : Value) (s2 : Shared) : Prop :=
  ∃ (it : Addr) (fp : List Addr) (tn : Nat → Heap → Prop) (J : It) (H' : Hp), itv = .ref it ∧ Inv X pins σ H' s2 ∧ Turn X.prog X.w X.K tg J fp it tn ∧ tn 0 s2.heap ∧ (∀ b ∈ fp, FpOk X pins H' b) ∧ R J H'
def PI (X : Cx) (tg iter : Expr) (wi : TI) : Prop :=
  ∀ (pins : List (Addr × Obj)) (s : Shared) (σ : St) (H : Hp) (R : It → Hp → Prop), Inv X pins σ H s → wi σ H R →
    wpAny (model X.prog X.w) X.A (eval iter X.env) (fun v s1 => wpAny (model X.prog X.w) X.A (pyIter v) (PIE X pins σ tg R) X.xe s1) X.xe s

theorem go_of {M : Model} {A : Around} {E : Value → Shared → Prop} {s : Shared} {tg : Expr} {it : Addr} {u : Value} {o : Obj} {n : String} {vs : Array Value} {Q : Unit → Shared → Prop} (ho : s.heap.get? it = some o) (hc : o.cls = .type n) (hd : o.data = .fields vs)
    (hn : ["enumerate", "zip", "dict_itemiterator", "dict_reverseitemiterator", "odict_iterator", "itertools.zip_longest", "itertools.pairwise"].contains n = false) (hQ : Q () s) : wpAny M A (letOwnedTupleGo tg (.ref it) u) Q E s := by
  unfold letOwnedTupleGo
  cases tg <;> first
    | exact wpAny_pure hQ
    | (cases u <;> first
        | exact wpAny_pure hQ
        | (refine wpAny_bind (wpAny_load ho ?_)
           rw [hc, hd]
           show wpAny M A (if (["enumerate", "zip", "dict_itemiterator", "dict_reverseitemiterator", "odict_iterator", "itertools.zip_longest", "itertools.pairwise"].contains n && vs[0]? == some (rawInt _)) = true then _ else _) Q E s
           rw [if_neg (by intro h; rw [hn, Bool.false_and] at h; cases h)]
           exact wpAny_pure hQ))

def Itl (K : PySem.W.Frag) (a : Addr) : It :=
  ⟨fun i H => ∃ xs x, SqL K H a xs ∧ xs[i]? = some x, fun i H x H' => H' = H ∧ ∀ xs, SqL K H a xs → xs[i]? = some x, fun i H => ∃ xs, SqL K H a xs ∧ xs.length ≤ i⟩
def Itt (K : PySem.W.Frag) (a : Addr) : It :=
  ⟨fun i H => ∃ xs x, SqT K H a xs ∧ xs[i]? = some x, fun i H x H' => H' = H ∧ ∀ xs, SqT K H a xs → xs[i]? = some x, fun i H => ∃ xs, SqT K H a xs ∧ xs.length ≤ i⟩
def Itr (lo : Int) (n : Nat) : It := ⟨fun i _ => i < n, fun i H x H' => H' = H ∧ x = .int (lo + i), fun i _ => n ≤ i⟩
theorem turn_list {P : Program} {w : World} {K : PySem.W.Frag} {tg : Expr} (a it : Addr) : Turn P w K tg (Itl K a) [it] it (fun i h => h.IsListIter it a i) where
  mem := by simp
  obj := fun i h st b hb => by
    have e : b = it := by simpa using hb
    subst e
    obtain ⟨o, e, c, d⟩ := st
    exact ⟨o, e, fun v z => by rw [d] at z; cases z⟩
  keep := fun i h h' st k => st.at fun o e => k it (by simp) o e
  item := by
    intro X hP hw hK hc i pins s σ H E I hf st hg
    subst hP hw hK
    obtain ⟨xs, x, hq, hx⟩ := hg
    obtain ⟨its, rv, p, hz⟩ := I.list hq
    obtain ⟨u, hu, ru⟩ := rv.get hx
    obtain ⟨f0, f1, f2, f3, f4, f5⟩ := hf it (by simp)
    refine wpAny_pyNext_list_item st p.isList (x := u) (by simpa using hu) fun h' st' sb => ?_
    have I1 : Inv X pins σ H { s with heap := h' } := I.turned (t' := s.toks) (fun b o hb e => (sb.2 b hb).trans e) f0 f1 f3 f4 f5
    obtain ⟨o, e, c, d⟩ := id st'
    exact ⟨u, rfl, go_of (s := { s with heap := h' }) e c d (by decide) ⟨x, H, I1, ru, ⟨rfl, fun ys hy => by rw [I.list_inj hy hq]; exact hx⟩, st', fun b hb => (hf b hb).1⟩⟩
  done := by
    intro X hP hw hK hc i pins s σ H E I hf st hg
    subst hP hw hK
    obtain ⟨xs, hq, hx⟩ := hg
    obtain ⟨its, rv, p, hz⟩ := I.list hq
    obtain ⟨f0, f1, f2, f3, f4, f5⟩ := hf it (by simp)
    have hl := rv.length
    exact wpAny_pyNext_list_end (I.ok.hd hc) st p.isList (by simp; omega) fun h' eb => ⟨rfl, I.turned (t' := s.toks) (fun b o hb e => eb b o hb e) f0 f1 f3 f4 f5⟩
  self := fun _ _ _ _ _ st h => wpAny_pyIter_listiter st h
theorem turn_tuple {P : Program} {w : World} {K : PySem.W.Frag} {tg : Expr} (a it : Addr) : Turn P w K tg (Itt K a) [it] it (fun i h => h.IsTupleIter it a i) where
  mem := by simp
  obj := fun i h st b hb => by
    have e : b = it := by simpa using hb
    subst e
    obtain ⟨o, e, c, d⟩ := st
    exact ⟨o, e, fun v z => by rw [d] at z; cases z⟩
  keep := fun i h h' st k => st.at fun o e => k it (by simp) o e
  item := by
    intro X hP hw hK hc i pins s σ H E I hf st hg
    subst hP hw hK
    obtain ⟨xs, x, hq, hx⟩ := hg
    obtain ⟨its, rv, p, hz⟩ := I.tuple hq
    obtain ⟨u, hu, ru⟩ := rv.get hx
    obtain ⟨f0, f1, f2, f3, f4, f5⟩ := hf it (by simp)
    refine wpAny_pyNext_tuple_item st (show s.heap.IsTuple a its.toArray from p) (x := u) (by simpa using hu) fun h' st' sb => ?_
    have I1 : Inv X pins σ H { s with heap := h' } := I.turned (t' := s.toks) (fun b o hb e => (sb.2 b hb).trans e) f0 f1 f3 f4 f5
    obtain ⟨o, e, c, d⟩ := id st'
    exact ⟨u, rfl, go_of (s := { s with heap := h' }) e c d (by decide) ⟨x, H, I1, ru, ⟨rfl, fun ys hy => by rw [I.tuple_inj hy hq]; exact hx⟩, st', fun b hb => (hf b hb).1⟩⟩
  done := by
    intro X hP hw hK hc i pins s σ H E I hf st hg
    subst hP hw hK
    obtain ⟨xs, hq, hx⟩ := hg
    obtain ⟨its, rv, p, hz⟩ := I.tuple hq
    obtain ⟨f0, f1, f2, f3, f4, f5⟩ := hf it (by simp)
    have hl := rv.length
    exact wpAny_pyNext_tuple_end (I.ok.hd hc) st (show s.heap.IsTuple a its.toArray from p) (by simp; omega) fun h' eb => ⟨rfl, I.turned (t' := s.toks) (fun b o hb e => eb b o hb e) f0 f1 f3 f4 f5⟩
  self := fun _ _ _ _ _ st h => wpAny_pyIter_tupleiter st h
end L2

namespace L2
open PySem PySem.Spec PyProof.Rows
section
variable {X : Cx} {tg : Expr}
def iList (K : PySem.W.Frag) (tl : TE) : TI := fun σ H R => tl σ H fun x H1 => ∃ a, x = .ref a ∧ (∃ xs, SqL K H1 a xs) ∧ R (Itl K a) H1
def iTup (K : PySem.W.Frag) (tl : TE) : TI := fun σ H R => tl σ H fun x H1 => ∃ a, x = .ref a ∧ (∃ xs, SqT K H1 a xs) ∧ R (Itt K a) H1
theorem pi_list {l : Expr} {tl : TE} (hl : PE X l tl) : PI X tg l (iList X.K tl) := by
  intro pins s σ H R I h
  refine thn (hl pins s σ H _ I h) fun v s1 ⟨x, H1, I1, r1, q1⟩ => ?_
  obtain ⟨a, e, ⟨xs, hq⟩, q⟩ := q1
  subst e
  cases r1
  obtain ⟨its, rv, p, hz⟩ := I1.list hq
  refine wpAny_pyIter_list p.isList ?_
  refine ⟨s1.heap.objs.size, [s1.heap.objs.size], _, _, H1, rfl, I1.kept (t' := s1.toks) fun b o e => Heap.get?_push_of_some _ e, turn_list a _, ⟨_, Heap.get?_push_size _ rfl, rfl, rfl⟩, fun b hb => ?_, q⟩
  have e : b = s1.heap.objs.size := by simpa using hb
  subst e
  exact I1.fpOk (Nat.le_refl _) (I1.hok.fresh (Nat.le_refl _))
theorem pi_tup {l : Expr} {tl : TE} (hl : PE X l tl) : PI X tg l (iTup X.K tl) := by
  intro pins s σ H R I h
  refine thn (hl pins s σ H _ I h) fun v s1 ⟨x, H1, I1, r1, q1⟩ => ?_
  obtain ⟨a, e, ⟨xs, hq⟩, q⟩ := q1
  subst e
  cases r1
  obtain ⟨its, rv, p, hz⟩ := I1.tuple hq
  refine wpAny_pyIter_tuple (show s1.heap.IsTuple a its.toArray from p) ?_
  refine ⟨s1.heap.objs.size, [s1.heap.objs.size], _, _, H1, rfl, I1.kept (t' := s1.toks) fun b o e => Heap.get?_push_of_some _ e, turn_tuple a _, ⟨_, Heap.get?_push_size _ rfl, rfl, rfl⟩, fun b hb => ?_, q⟩
  have e : b = s1.heap.objs.size := by simpa using hb
  subst e
  exact I1.fpOk (Nat.le_refl _) (I1.hok.fresh (Nat.le_refl _))
def iRng1 (ta : TA) : TI := fun σ H R => ta σ H fun vs H1 => ∃ j : Int, vs = [.int j] ∧ -(2 ^ 62) ≤ j ∧ j < 2 ^ 62 ∧ R (Itr 0 j.toNat) H1
def iRng2 (ta : TA) : TI := fun σ H R => ta σ H fun vs H1 => ∃ i j : Int, vs = [.int i, .int j] ∧ (-(2 ^ 62) ≤ i ∧ i < 2 ^ 62 ∧ -(2 ^ 62) ≤ j ∧ j < 2 ^ 62) ∧ R (Itr i (j - i).toNat) H1
def tFor (wi : TI) (g : TG) (tb : TS) : TS := fun D σ H => wi σ H fun J H1 => ∃ W : Nat → Nat → St → Hp → Prop, (∃ m, W 0 m σ H1) ∧ ∀ i m σ H, W i m σ H →
  (J.stop i H ∧ D.nx σ H) ∨ (J.go i H ∧ ∃ N : St → Hp → Prop, (∀ σ' H', N σ' H' → ∃ m', m' < m ∧ W (i + 1) m' σ' H') ∧ ∀ x H', J.yld i H x H' → g x σ H' fun σ2 H2 => tb { D with nx := N, ct := N, bk := D.nx } σ2 H2)
def pinsAt (fp : List Addr) (h : Heap) : List (Addr × Obj) := fp.filterMap fun b => (h.get? b).map fun o => (b, o)
theorem mem_pinsAt {fp : List Addr} {h : Heap} {b : Addr} {o : Obj} (hb : b ∈ fp) (e : h.get? b = some o) : (b, o) ∈ pinsAt fp h := List.mem_filterMap.mpr ⟨b, hb, by rw [e]; rfl⟩
theorem of_pinsAt {fp : List Addr} {h : Heap} {p : Addr × Obj} (hp : p ∈ pinsAt fp h) : p.1 ∈ fp ∧ h.get? p.1 = some p.2 := by
  obtain ⟨b, hb, e⟩ := List.mem_filterMap.mp hp
  cases q : h.get? b with
  | none => rw [q] at e; cases e
  | some o =>
    rw [q] at e
    have e' : (b, o) = p := Option.some.inj e
    subst e'
    exact ⟨hb, q⟩
theorem Inv.pinned {pins : List (Addr × Obj)} {σ : St} {H : Hp} {s : Shared} {fp : List Addr} (I : Inv X pins σ H s) (hf : ∀ b ∈ fp, FpOk X pins H b) (ho : ∀ b ∈ fp, ∃ o, s.heap.get? b = some o ∧ ∀ v, o.data ≠ .cell v) : Inv X (pins ++ pinsAt fp s.heap) σ H s :=
  I.pins_of fun p hp => (List.mem_append.mp hp).elim (fun z => I.pin p (List.mem_append_right _ z)) fun z => by
    obtain ⟨hb, e⟩ := of_pinsAt z
    obtain ⟨f0, f1, f2, _⟩ := hf p.1 hb
    obtain ⟨o, e', d⟩ := ho p.1 hb
    rw [e] at e'; cases e'
    exact ⟨e, f0, f1, f2, d⟩
theorem Inv.unpinned {pins pl : List (Addr × Obj)} {σ : St} {H : Hp} {s : Shared} (I : Inv X (pins ++ pl) σ H s) : Inv X pins σ H s := I.pins_of fun p hp => I.pin p (List.mem_append_right _ (List.mem_append_left _ hp))
theorem ps_for {iter : Expr} {body : List Stmt} {wi : TI} {g : TG} {tb : TS} {pos : Pos} (hp : PassesOwn (model X.prog X.w) X.A X.env X.xe) (hc : X.calm = true) (hi : PI X tg iter wi) (hg : PG X tg g) (hb : PSs X body tb)
    (hs : ∀ x, foldedSetIterable iter X.env x = pure x := by intro _; rfl) : PS X (.For tg iter body [] pos) (tFor wi g tb) := by
  intro pins s σ H D I h
  refine wpAny_For (thn (hi pins s σ H _ I h) fun v s1 h1 => thn h1 fun itv s2 h2 => ?_) hs
  obtain ⟨it, fp, tn, J, H2, e, I2, T, st2, f2, W, ⟨m0, w0⟩, turn⟩ := h2
  subst e
  -- what stays true of the iterator's objects through the loop
  have stat : ∀ {H' : Hp}, (∀ b ∈ fp, H' b = none) → ∀ b ∈ fp, FpOk X pins H' b := fun hn b hb => ⟨hn b hb, (f2 b hb).2⟩
  refine codeAny_forLoop_any (fun n s' => ∃ i σ' H', Inv X pins σ' H' s' ∧ tn i s'.heap ∧ (∀ b ∈ fp, H' b = none) ∧ W i n σ' H') ?_ m0 ⟨0, σ, H2, I2, st2, fun b hb => (f2 b hb).1, w0⟩
  rintro n s3 ⟨i, σ3, H3, I3, st3, fr3, w3⟩
  rcases turn i n σ3 H3 w3 with ⟨stop, qn⟩ | ⟨go, N, hN, step⟩
  · refine wpAny_passesOwn hp (thn (T.done X rfl rfl rfl hc i pins s3 σ3 H3 X.xe I3 (stat fr3) st3 stop) fun r s4 ⟨hr, I4⟩ => ?_)
    subst hr
    exact wpAny_execs_nil ⟨σ3, H3, I4, qn⟩
  · refine wpAny_passesOwn hp (thn (T.item X rfl rfl rfl hc i pins s3 σ3 H3 X.xe I3 (stat fr3) st3 go) fun r s4 ⟨u, hr, h4⟩ => ?_)
    subst hr
    refine wpAny_passesOwn hp (thn h4 fun _ s5 ⟨x, H5, I5, r5, y5, st5, fr5⟩ => ?_)
    have I5' := I5.pinned (stat fr5) (T.obj _ _ st5)
    refine wpAny_passesOwn hp (thn (hg _ s5 σ3 H5 x u _ I5' r5 (step x H5 y5)) fun _ s6 ⟨σ6, H6, I6, q6⟩ => ?_)
    refine wpAny_passesOwn hp (thn (hb _ s6 σ6 H6 _ I6 q6) fun f s7 q7 => ?_)
    have again : ∀ {σ7 : St} {H7 : Hp}, Inv X (pins ++ pinsAt fp s5.heap) σ7 H7 s7 → N σ7 H7 → ∃ m, m < n ∧ ∃ i σ' H', Inv X pins σ' H' s7 ∧ tn i s7.heap ∧ (∀ b ∈ fp, H' b = none) ∧ W i m σ' H' := fun {σ7 H7} I7 n7 => by
      obtain ⟨m', hm, w7⟩ := hN σ7 H7 n7
      refine ⟨m', hm, i + 1, σ7, H7, I7.unpinned, T.keep _ _ _ st5 fun b hb o e => (I7.pin (b, o) (List.mem_append_right _ (List.mem_append_right _ (mem_pinsAt hb e)))).1, fun b hb => ?_, w7⟩
      obtain ⟨o, e, d⟩ := T.obj _ _ st5 b hb
      exact (I7.pin (b, o) (List.mem_append_right _ (List.mem_append_right _ (mem_pinsAt hb e)))).2.1
    cases f with
    | next => obtain ⟨σ7, H7, I7, n7⟩ := q7; exact again I7 n7
    | cont => obtain ⟨σ7, H7, I7, n7⟩ := q7; exact again I7 n7
    | brk => obtain ⟨σ7, H7, I7, q7⟩ := q7; exact ⟨σ7, H7, I7.unpinned, q7⟩
    | ret v => obtain ⟨x7, σ7, H7, I7, r7, q7⟩ := q7; exact ⟨x7, σ7, H7, I7.unpinned, r7, q7⟩
end

theorem for_tup {K : PySem.W.Frag} {a : Addr} {xs : List V} {g : TG} {tb : TS} {D : Ends} {σ : St} {H : Hp} (Pv : Nat → St → Hp → Prop) (h0 : Pv 0 σ H) (hl : ∀ i σ H, i ≤ xs.length → Pv i σ H → SqT K H a xs)
    (hs : ∀ i x σ H, xs[i]? = some x → Pv i σ H → g x σ H fun σ2 H2 => tb { D with nx := Pv (i + 1), ct := Pv (i + 1), bk := D.nx } σ2 H2) (hd : ∀ σ H, Pv xs.length σ H → D.nx σ H) :
    ∃ W : Nat → Nat → St → Hp → Prop, (∃ m, W 0 m σ H) ∧ ∀ i m σ H, W i m σ H →
      ((Itt K a).stop i H ∧ D.nx σ H) ∨ ((Itt K a).go i H ∧ ∃ N : St → Hp → Prop, (∀ σ' H', N σ' H' → ∃ m', m' < m ∧ W (i + 1) m' σ' H') ∧ ∀ x H', (Itt K a).yld i H x H' → g x σ H' fun σ2 H2 => tb { D with nx := N, ct := N, bk := D.nx } σ2 H2) := by
  refine ⟨fun i m σ H => m = xs.length - i ∧ i ≤ xs.length ∧ Pv i σ H, ⟨xs.length, by simp, Nat.zero_le _, h0⟩, ?_⟩
  rintro i m σ H ⟨rfl, hi, p⟩
  have q := hl i σ H hi p
  by_cases hlt : i < xs.length
  · refine .inr ⟨⟨xs, xs[i], q, by simp [hlt]⟩, Pv (i + 1), fun σ' H' p' => ⟨xs.length - (i + 1), by omega, rfl, hlt, p'⟩, fun x H' y => ?_⟩
    obtain ⟨e, y⟩ := y
    subst e
    exact hs i x σ _ (y xs q) p
  · have e : i = xs.length := by omega
    subst e
    exact .inl ⟨⟨xs, q, Nat.le_refl _⟩, hd σ H p⟩
theorem while_by {c : TT} {tb : TS} {D : Ends} {σ : St} {H : Hp} (Pv : St → Hp → Prop) (μ : St → Hp → Nat) (h0 : Pv σ H)
    (hs : ∀ σ H, Pv σ H → c σ H fun b H1 => if b = true then tb { D with nx := fun σ' H' => Pv σ' H' ∧ μ σ' H' < μ σ H, ct := fun σ' H' => Pv σ' H' ∧ μ σ' H' < μ σ H, bk := D.nx } σ H1 else D.nx σ H1)
    (mono : ∀ σ H Q Q', (∀ b H1, Q b H1 → Q' b H1) → c σ H Q → c σ H Q') : tWhile c tb D σ H := by
  refine ⟨fun m σ H => m = μ σ H ∧ Pv σ H, ⟨_, rfl, h0⟩, ?_⟩
  rintro m σ H ⟨rfl, p⟩
  refine mono σ H _ _ (fun b H1 q => ?_) (hs σ H p)
  cases b with
  | true => exact ⟨_, fun σ' H' ⟨p', l⟩ => ⟨_, l, rfl, p'⟩, q⟩
  | false => exact q
end L2

namespace L2
open PySem PySem.Spec PyProof.Rows

abbrev R2 := V → V → Hp → VK → Prop
def OpR (X : Cx) (f : Value → Value → Sem Value) (r : R2) : Prop :=
  ∀ (pins : List (Addr × Obj)) (s : Shared) (σ : St) (H : Hp) (x y : V) (v u : Value) (Q : VK), Inv X pins σ H s → RelV x v → RelV y u → r x y H Q →
    wpAny (model X.prog X.w) X.A (f v u) (EP X pins σ Q) X.xe s
def UnR (X : Cx) (f : Value → Sem Value) (r : V → Hp → VK → Prop) : Prop :=
  ∀ (pins : List (Addr × Obj)) (s : Shared) (σ : St) (H : Hp) (x : V) (v : Value) (Q : VK), Inv X pins σ H s → RelV x v → r x H Q →
    wpAny (model X.prog X.w) X.A (f v) (EP X pins σ Q) X.xe s
def CallR (X : Cx) (f : Value) (r : List V → Hp → VK → Prop) : Prop :=
  ∀ (pins : List (Addr × Obj)) (s : Shared) (σ : St) (H : Hp) (xs : List V) (us : List Value) (Q : VK), Inv X pins σ H s → Vals xs us → r xs H Q →
    wpAny (model X.prog X.w) X.A (call f us) (EP X pins σ Q) X.xe s
def TruR (X : Cx) (r : V → Hp → (Bool → Hp → Prop) → Prop) : Prop :=
  ∀ (pins : List (Addr × Obj)) (s : Shared) (σ : St) (H : Hp) (x : V) (v : Value) (Q : Bool → Hp → Prop), Inv X pins σ H s → RelV x v → r x H Q →
    wpAny (model X.prog X.w) X.A (truthy v) (TP X pins σ Q) X.xe s

def tOp (r : R2) (ta tb : TE) : TE := fun σ H Q => ta σ H fun x H1 => tb σ H1 fun y H2 => r x y H2 Q
def tUn (r : V → Hp → VK → Prop) (ta : TE) : TE := fun σ H Q => ta σ H fun x H1 => r x H1 Q
def rI (C : Int → Int → Prop) (g : Int → Int → V) : R2 := fun x y H Q => ∃ i j, x = .int i ∧ y = .int j ∧ C i j ∧ Q (g i j) H
def rI0 (g : Int → Int → V) : R2 := fun x y H Q => ∃ i j, x = .int i ∧ y = .int j ∧ Q (g i j) H
def rU (g : Int → V) : V → Hp → VK → Prop := fun x H Q => ∃ i, x = .int i ∧ Q (g i) H

section
variable {X : Cx} {a b c : Expr} {ta tb tc : TE} {pos : Pos}

theorem binT (ha : PE X a ta) (hb : PE X b tb) {pins : List (Addr × Obj)} {s : Shared} {σ : St} {H : Hp} {R : V → V → Hp → Prop} (I : Inv X pins σ H s)
    (h : ta σ H fun x H1 => tb σ H1 fun y H2 => R x y H2) {Q : Value → Shared → Prop} {f : Value → Value → Sem Value}
    (hf : ∀ v u s2 x y H2, Inv X pins σ H2 s2 → RelV x v → RelV y u → R x y H2 → wpAny (model X.prog X.w) X.A (f v u) Q X.xe s2) :
    wpAny (model X.prog X.w) X.A (eval a X.env) (fun v s₁ => wpAny (model X.prog X.w) X.A (eval b X.env) (fun u s₂ => wpAny (model X.prog X.w) X.A (f v u) Q X.xe s₂) X.xe s₁) X.xe s := by
  refine thn (ha pins s σ H _ I h) fun v s1 ⟨x, H1, I1, r1, q1⟩ => ?_
  refine thn (hb pins s1 σ H1 _ I1 q1) fun u s2 ⟨y, H2, I2, r2, q2⟩ => ?_
  exact hf v u s2 x y H2 I2 r1 r2 q2

theorem pe_op {op : Operator} {r : R2} (ho : OpR X (binaryOp op) r) (ha : PE X a ta) (hb : PE X b tb) : PE X (.BinOp a op b pos) (tOp r ta tb) := by
  intro pins s σ H Q I h
  exact wpAny_BinOp (binT ha hb I h fun v u s2 x y H2 I2 rx ry q => ho pins s2 σ H2 x y v u Q I2 rx ry q)
theorem pe_un {op : UnaryOp} {r : V → Hp → VK → Prop} (ho : UnR X (unaryOp op) r) (ha : PE X a ta) : PE X (.UnaryOp op a pos) (tUn r ta) := by
  intro pins s σ H Q I h
  exact UnaryOp_ (thn (ha pins s σ H _ I h) fun v s1 ⟨x, H1, I1, r1, q1⟩ => ho pins s1 σ H1 x v Q I1 r1 q1)
theorem opI {f : Value → Value → Sem Value} {C : Int → Int → Prop} {g : Int → Int → Int}
    (rule : ∀ (i j : Int) (t u : Tok) (s : Shared) (Q : Value → Shared → Prop) (E : Value → Shared → Prop), C i j → Q (.int (g i j) s.toks) { s with toks := s.toks + 1 } → wpAny (model X.prog X.w) X.A (f (.int i t) (.int j u)) Q E s) :
    OpR X f (rI C fun i j => .int (g i j)) := by
  intro pins s σ H x y v u Q I rx ry h
  obtain ⟨i, j, rfl, rfl, hc, q⟩ := h
  obtain ⟨t, rfl⟩ := rx
  obtain ⟨t', rfl⟩ := ry
  exact rule i j t t' s _ _ hc ⟨.int (g i j), H, I.tok _, ⟨_, rfl⟩, q⟩
theorem opI0 {f : Value → Value → Sem Value} {g : Int → Int → Int}
    (rule : ∀ (i j : Int) (t u : Tok) (s : Shared) (Q : Value → Shared → Prop) (E : Value → Shared → Prop), Q (.int (g i j) s.toks) { s with toks := s.toks + 1 } → wpAny (model X.prog X.w) X.A (f (.int i t) (.int j u)) Q E s) :
    OpR X f (rI0 fun i j => .int (g i j)) := by
  intro pins s σ H x y v u Q I rx ry h
  obtain ⟨i, j, rfl, rfl, q⟩ := h
  obtain ⟨t, rfl⟩ := rx
  obtain ⟨t', rfl⟩ := ry
  exact rule i j t t' s _ _ ⟨.int (g i j), H, I.tok _, ⟨_, rfl⟩, q⟩
theorem opB0 {f : Value → Value → Sem Value} {g : Int → Int → Bool}
    (rule : ∀ (i j : Int) (t u : Tok) (s : Shared) (Q : Value → Shared → Prop) (E : Value → Shared → Prop), Q (.bool (g i j)) s → wpAny (model X.prog X.w) X.A (f (.int i t) (.int j u)) Q E s) :
    OpR X f (rI0 fun i j => .bl (g i j)) := by
  intro pins s σ H x y v u Q I rx ry h
  obtain ⟨i, j, rfl, rfl, q⟩ := h
  obtain ⟨t, rfl⟩ := rx
  obtain ⟨t', rfl⟩ := ry
  exact rule i j t t' s _ _ ⟨.bl (g i j), H, I, rfl, q⟩

def CDiv (i j : Int) : Prop := 0 < j ∧ j < 1073741824
def CDivN (i j : Int) : Prop := j ≠ 0 ∧ j.natAbs < 1073741824
def CPow (i j : Int) : Prop := 0 ≤ j ∧ j ≤ 1000000 ∧ i.natAbs < 2 ^ 64
def CMul (i j : Int) : Prop := (-(2 ^ 64) < i ∧ i < 2 ^ 64) ∨ (-(2 ^ 64) < j ∧ j < 2 ^ 64)
theorem CMul.ok {i j : Int} (h : CMul i j) : IntMulOk i j := by
  rcases h with ⟨h1, h2⟩ | ⟨h1, h2⟩
  · exact .of_left (intBits_le_64 h1 h2)
  · exact .of_right (intBits_le_64 h1 h2)
theorem op_add : OpR X (binaryOp .Add) (rI0 fun i j => .int (i + j)) := opI0 fun _ _ _ _ _ _ _ q => add_int q
theorem op_sub : OpR X (binaryOp .Sub) (rI0 fun i j => .int (i - j)) := opI0 fun _ _ _ _ _ _ _ q => sub_int q
theorem op_modN : OpR X (binaryOp .Mod) (rI (fun _ j => j ≠ 0) fun i j => .int (i.fmod j)) := opI fun _ _ _ _ _ _ _ hc q => mod_int' hc q
theorem op_pow : OpR X (binaryOp .Pow) (rI CPow fun i j => .int (i ^ j.toNat)) := opI fun _ _ _ _ _ _ _ hc q => pow_int_small hc.1 hc.2.1 hc.2.2 q
theorem unI {f : Value → Sem Value} {g : Int → Int}
    (rule : ∀ (i : Int) (t : Tok) (s : Shared) (Q : Value → Shared → Prop) (E : Value → Shared → Prop), Q (.int (g i) s.toks) { s with toks := s.toks + 1 } → wpAny (model X.prog X.w) X.A (f (.int i t)) Q E s) :
    UnR X f (rU fun i => .int (g i)) := by
  intro pins s σ H x v Q I rx h
  obtain ⟨i, rfl, q⟩ := h
  obtain ⟨t, rfl⟩ := rx
  exact rule i t s _ _ ⟨.int (g i), H, I.tok _, ⟨_, rfl⟩, q⟩
theorem un_neg : UnR X (unaryOp .USub) (rU fun i => .int (-i)) := unI fun _ _ _ _ _ q => neg_int q
end

def scal : V → V → Bool
  | .non, .non => true | .non, .int _ => true | .int _, .non => true | .non, .bl _ => true | .bl _, .non => true | .non, .str _ => true | .str _, .non => true
  | .int _, .int _ => true | .bl _, .bl _ => true | .str _, .str _ => true | .byt _, .byt _ => true
  | .int _, .str _ => true | .str _, .int _ => true | .bl _, .str _ => true | .str _, .bl _ => true
  | _, _ => false
def rEq : R2 := fun x y H Q => scal x y = true ∧ Q (.bl (decide (x = y))) H
def rNe : R2 := fun x y H Q => scal x y = true ∧ Q (.bl (!decide (x = y))) H

theorem dec_int {i j : Int} : decide (V.int i = V.int j) = (i == j) := by
  rw [Bool.eq_iff_iff]
  simp
theorem dec_bl {i j : Bool} : decide (V.bl i = V.bl j) = (i == j) := by
  rw [Bool.eq_iff_iff]
  simp
theorem dec_str {i j : Str} : decide (V.str i = V.str j) = (i == j) := by
  rw [Bool.eq_iff_iff]
  simp
theorem dec_byt {i j : Array UInt8} : decide (V.byt i = V.byt j) = (i.toList == j.toList) := by
  rw [Bool.eq_iff_iff]
  cases i
  cases j
  simp

section
variable {X : Cx} {a b c : Expr} {ta tb tc : TE} {pos : Pos}
theorem fin_bl {pins : List (Addr × Obj)} {σ : St} {H : Hp} {s : Shared} {Q : VK} {k k' : Bool} (I : Inv X pins σ H s) (q : Q (.bl k) H) (e : k = k') : EP X pins σ Q (.bool k') s := by
  subst e
  exact ⟨.bl k, H, I, rfl, q⟩
theorem op_eq : OpR X (compareOp .Eq) rEq := by
  intro pins s σ H x y v u Q I rx ry h
  obtain ⟨hs, q⟩ := h
  cases x with
  | non =>
    cases rx
    cases y with
    | non => cases ry; exact PySem.EqNone.eq_none_none (fin_bl I q (by simp))
    | bl j => cases ry; exact PySem.EqNone.eq_none_bool (fin_bl I q (by simp))
    | int j => obtain ⟨t', rfl⟩ := ry; exact PySem.EqNone.eq_none_int (fin_bl I q (by simp))
    | str j => obtain ⟨t', rfl⟩ := ry; exact PySem.EqNone.eq_none_str (fin_bl I q (by simp))
    | _ => exact absurd (show false = true from hs) Bool.false_ne_true
  | bl i =>
    cases rx
    cases y with
    | non => cases ry; exact PySem.EqNone.eq_bool_none (fin_bl I q (by simp))
    | bl j => cases ry; exact eq_bool (fin_bl I q dec_bl)
    | str j => obtain ⟨t', rfl⟩ := ry; exact PySem.EqMixed.eq_bool_str (fin_bl I q (by simp))
    | _ => exact absurd (show false = true from hs) Bool.false_ne_true
  | int i =>
    obtain ⟨t, rfl⟩ := rx
    cases y with
    | non => cases ry; exact PySem.EqNone.eq_int_none (fin_bl I q (by simp))
    | int j => obtain ⟨t', rfl⟩ := ry; exact eq_int (fin_bl I q dec_int)
    | str j => obtain ⟨t', rfl⟩ := ry; exact PySem.EqMixed.eq_int_str (fin_bl I q (by simp))
    | _ => exact absurd (show false = true from hs) Bool.false_ne_true
  | str i =>
    obtain ⟨t, rfl⟩ := rx
    cases y with
    | non => cases ry; exact PySem.EqNone.eq_str_none (fin_bl I q (by simp))
    | bl j => cases ry; exact PySem.EqMixed.eq_str_bool (fin_bl I q (by simp))
    | int j => obtain ⟨t', rfl⟩ := ry; exact PySem.EqMixed.eq_str_int (fin_bl I q (by simp))
    | str j => obtain ⟨t', rfl⟩ := ry; exact eq_str (fin_bl I q dec_str)
    | _ => exact absurd (show false = true from hs) Bool.false_ne_true
  | byt i =>
    obtain ⟨t, rfl⟩ := rx
    cases y with
    | byt j => obtain ⟨t', rfl⟩ := ry; exact PySem.W.eq_bytes (fin_bl I q dec_byt)
    | _ => exact absurd (show false = true from hs) Bool.false_ne_true
  | _ => cases y <;> exact absurd (show false = true from hs) Bool.false_ne_true
theorem op_ne : OpR X (compareOp .NotEq) rNe := by
  intro pins s σ H x y v u Q I rx ry h
  obtain ⟨hs, q⟩ := h
  cases x with
  | non =>
    cases rx
    cases y with
    | non => cases ry; exact PySem.EqNone.ne_none_none (fin_bl I q (by simp))
    | bl j => cases ry; exact PySem.EqNone.ne_none_bool (fin_bl I q (by simp))
    | int j => obtain ⟨t', rfl⟩ := ry; exact PySem.EqNone.ne_none_int (fin_bl I q (by simp))
    | str j => obtain ⟨t', rfl⟩ := ry; exact PySem.EqNone.ne_none_str (fin_bl I q (by simp))
    | _ => exact absurd (show false = true from hs) Bool.false_ne_true
  | bl i =>
    cases rx
    cases y with
    | non => cases ry; exact PySem.EqNone.ne_bool_none (fin_bl I q (by simp))
    | bl j => cases ry; exact ne_bool (fin_bl I q (congrArg not dec_bl))
    | str j => obtain ⟨t', rfl⟩ := ry; exact PySem.EqMixed.ne_bool_str (fin_bl I q (by simp))
    | _ => exact absurd (show false = true from hs) Bool.false_ne_true
  | int i =>
    obtain ⟨t, rfl⟩ := rx
    cases y with
    | non => cases ry; exact PySem.EqNone.ne_int_none (fin_bl I q (by simp))
    | int j => obtain ⟨t', rfl⟩ := ry; exact ne_int (fin_bl I q (congrArg not dec_int))
    | str j => obtain ⟨t', rfl⟩ := ry; exact PySem.EqMixed.ne_int_str (fin_bl I q (by simp))
    | _ => exact absurd (show false = true from hs) Bool.false_ne_true
  | str i =>
    obtain ⟨t, rfl⟩ := rx
    cases y with
    | non => cases ry; exact PySem.EqNone.ne_str_none (fin_bl I q (by simp))
    | bl j => cases ry; exact PySem.EqMixed.ne_str_bool (fin_bl I q (by simp))
    | int j => obtain ⟨t', rfl⟩ := ry; exact PySem.EqMixed.ne_str_int (fin_bl I q (by simp))
    | str j => obtain ⟨t', rfl⟩ := ry; exact ne_str (fin_bl I q (congrArg not dec_str))
    | _ => exact absurd (show false = true from hs) Bool.false_ne_true
  | byt i =>
    obtain ⟨t, rfl⟩ := rx
    cases y with
    | byt j => obtain ⟨t', rfl⟩ := ry; exact PySem.W.ne_bytes (fin_bl I q (congrArg not dec_byt))
    | _ => exact absurd (show false = true from hs) Bool.false_ne_true
  | _ => cases y <;> exact absurd (show false = true from hs) Bool.false_ne_true

theorem op_lt : OpR X (compareOp .Lt) (rI0 fun i j => .bl (decide (i < j))) := opB0 fun _ _ _ _ _ _ _ q => lt_int q
theorem op_le : OpR X (compareOp .LtE) (rI0 fun i j => .bl (decide (i ≤ j))) := opB0 fun _ _ _ _ _ _ _ q => le_int q
theorem op_gt : OpR X (compareOp .Gt) (rI0 fun i j => .bl (decide (j < i))) := opB0 fun _ _ _ _ _ _ _ q => gt_int q
theorem op_in_str : OpR X (compareOp .In) (fun x y H Q => ∃ i j, x = .str i ∧ y = .str j ∧ Q (.bl (!(Builtin.Str.occurrences j i 0 j.length 1).isEmpty)) H) := by
  intro pins s σ H x y v u Q I rx ry h
  obtain ⟨i, j, rfl, rfl, q⟩ := h
  obtain ⟨t, rfl⟩ := rx
  obtain ⟨t', rfl⟩ := ry
  exact in_str (fin_bl I q rfl)

theorem op_isN : OpR X (compareOp .Is) (fun x y H Q => y = .non ∧ Q (.bl (decide (x = .non))) H) := by
  intro pins s σ H x y v u Q I rx ry h
  obtain ⟨rfl, q⟩ := h
  cases ry
  refine is_none_gen (fin_bl I q ?_)
  cases x <;> first
    | (cases rx; rfl)
    | (obtain ⟨t, rfl⟩ := rx; rfl)
def isObj : HO → Bool
  | .lst _ => true
  | .ins _ _ _ => true
  | _ => false
theorem OpR.or {f : Value → Value → Sem Value} {r r' : R2} (h : OpR X f r) (h' : OpR X f r') : OpR X f (fun x y H Q => r x y H Q ∨ r' x y H Q) := by
  intro pins s σ H x y v u Q I rx ry q
  rcases q with q | q
  · exact h pins s σ H x y v u Q I rx ry q
  · exact h' pins s σ H x y v u Q I rx ry q

theorem nomark (b : Expr) {op : CmpOp} (h : op ≠ .In := by decide) (h2 : op ≠ .NotIn := by decide) : behindInMarks op b = false := by
  have e1 : (op == CmpOp.In) = false := by cases op <;> first | rfl | exact absurd rfl h
  have e2 : (op == CmpOp.NotIn) = false := by cases op <;> first | rfl | exact absurd rfl h2
  cases b <;> simp [behindInMarks, e1, e2]
theorem pe_cmpR {op : CmpOp} {r : R2} (ho : OpR X (compareOp op) r) (ha : PE X a ta) (hb : PE X b tb) (hm : behindInMarks op b = false) : PE X (.Compare a [op] [b] pos) (tOp r ta tb) := by
  intro pins s σ H Q I h
  exact wpAny_Compare1 (binT ha hb I h fun v u s2 x y H2 I2 rx ry q => ho pins s2 σ H2 x y v u Q I2 rx ry q) hm
def tTest (t : TE) : TT := fun σ H Q => t σ H fun x H' => ∃ k, x = .bl k ∧ Q k H'
theorem pt_cmpR {op : CmpOp} {r : R2} (ho : OpR X (compareOp op) r) (ha : PE X a ta) (hb : PE X b tb) (hm : behindInMarks op b = false) : PT X (.Compare a [op] [b] pos) (tTest (tOp r ta tb)) := by
  intro pins s σ H Q I h
  refine wpAny_isTrue_Compare1 (thn (ha pins s σ H _ I h) fun v s1 ⟨x, H1, I1, r1, q1⟩ => thn (hb pins s1 σ H1 _ I1 q1) fun u s2 ⟨y, H2, I2, r2, q2⟩ =>
    thn (ho pins s2 σ H2 x y v u _ I2 r1 r2 q2) fun c s3 ⟨z, H3, I3, r3, k, e, q3⟩ => ?_) hm
  subst e
  cases r3
  exact wpAny_truthy_bool ⟨H3, I3, q3⟩
def tChain (r r' : R2) (ta tb tc : TE) : TE := fun σ H Q => ta σ H fun x H1 => tb σ H1 fun y H2 => r x y H2 fun z H3 => ∃ k, z = .bl k ∧
  (if k = true then tc σ H3 fun w' H4 => r' y w' H4 Q else Q (.bl false) H3)
theorem pt_chain {op op' : CmpOp} {r r' : R2} (ho : OpR X (compareOp op) r) (ho' : OpR X (compareOp op') r') (ha : PE X a ta) (hb : PE X b tb) (hc : PE X c tc)
    (hm : lastMarks [op, op'] [b, c] = false := by with_unfolding_all rfl) : PT X (.Compare a [op, op'] [b, c] pos) (tTest (tChain r r' ta tb tc)) := by
  intro pins s σ H Q I h
  refine isTrue_chain (thn (ha pins s σ H _ I h) fun v s1 ⟨x, H1, I1, r1, q1⟩ => test_link (thn (hb pins s1 σ H1 _ I1 q1) fun u s2 ⟨y, H2, I2, r2, q2⟩ =>
    thn (ho pins s2 σ H2 x y v u _ I2 r1 r2 q2) fun d s3 ⟨z, H3, I3, r3, k, e, q3⟩ => ?_)) hm
  subst e
  cases r3
  refine wpAny_truthy_bool ?_
  cases k with
  | false =>
    obtain ⟨k', e', q'⟩ := q3
    cases e'
    exact ite_ff ⟨H3, I3, q'⟩
  | true =>
    refine ite_tt (test_last (thn (hc pins s3 σ H3 _ I3 q3) fun w' s4 ⟨z', H4, I4, r4, q4⟩ => thn (ho' pins s4 σ H4 y z' u w' _ I4 r2 r4 q4) fun d' s5 ⟨z2, H5, I5, r5, k2, e2, q5⟩ => ?_))
    subst e2
    cases r5
    exact wpAny_truthy_bool ⟨H5, I5, q5⟩

def TruV (K : PySem.W.Frag) (x : V) (H : Hp) (k : Bool) : Prop :=
  match x with
  | .non => k = false
  | .bl b => k = b
  | .int i => k = (i != 0)
  | .str y => y.length ≤ sizeLine ∧ k = ((y.length : Int) != 0)
  | .byt y => y.size ≤ sizeLine ∧ k = ((y.size : Int) != 0)
  | .ref p => (∃ xs, SqL K H p xs ∧ k = !xs.isEmpty) ∨ (∃ xs, SqT K H p xs ∧ k = !xs.isEmpty) ∨ ∃ kvs, H p = some (.dK kvs) ∧ k = !kvs.isEmpty
  | _ => False
theorem line63 : (sizeLine : Nat) < 2 ^ 63 := by rw [sizeLine_eq]; decide
theorem op_add_str : OpR X (binaryOp .Add) (fun x y H Q => ∃ i j, x = .str i ∧ y = .str j ∧ i.length + j.length ≤ sizeLine ∧ Q (.str (i ++ j)) H) := by
  intro pins s σ H x y v u Q I rx ry h
  obtain ⟨i, j, rfl, rfl, hz, q⟩ := h
  obtain ⟨t, rfl⟩ := rx
  obtain ⟨t', rfl⟩ := ry
  exact add_str (fun t' tk => ⟨.str (i ++ j), H, I.tok _, ⟨_, rfl⟩, q⟩) hz
def PlainIxT (b : Expr) : Prop := ∀ o i, subscripted b false o i = operate [o, i] (getItem o i)
theorem vals1 {x : V} {us : List Value} (r : Vals [x] us) : ∃ u, us = [u] ∧ RelV x u := by
  cases r with
  | cons r1 r2 => cases r2; exact ⟨_, rfl, r1⟩
theorem vals2 {x y : V} {us : List Value} (r : Vals [x, y] us) : ∃ u w', us = [u, w'] ∧ RelV x u ∧ RelV y w' := by
  cases r with
  | cons r1 r2 =>
    cases r2 with
    | cons r3 r4 => cases r4; exact ⟨_, _, rfl, r1, r3⟩
theorem call_abs : CallR X (.builtin "abs") (fun xs H Q => ∃ i, xs = [.int i] ∧ Q (.int (if i < 0 then -i else i)) H) := by
  intro pins s σ H xs us Q I r h
  obtain ⟨i, rfl, q⟩ := h
  obtain ⟨u, rfl, t, rfl⟩ := vals1 r
  exact call_abs_int fun u tk => ⟨.int (if i < 0 then -i else i), H, I.tok _, ⟨_, rfl⟩, q⟩
theorem call_str_int : CallR X (.type "str") (fun xs H Q => ∃ i, xs = [.int i] ∧ i.natAbs.log2 < 1920 ∧ Q (.str (toString i)) H) := by
  intro pins s σ H xs us Q I r h
  obtain ⟨i, rfl, hz, q⟩ := h
  obtain ⟨u, rfl, t, rfl⟩ := vals1 r
  exact PySem.P.str_of_int hz ⟨.str _, H, I.tok _, ⟨_, rfl⟩, q⟩
def LenV (K : PySem.W.Frag) (x : V) (H : Hp) (n : Nat) : Prop :=
  match x with
  | .str y => y.length ≤ sizeLine ∧ n = y.length
  | .byt y => y.size ≤ sizeLine ∧ n = y.size
  | .ref p => (∃ xs, SqL K H p xs ∧ n = xs.length) ∨ ∃ xs, SqT K H p xs ∧ n = xs.length
  | _ => False
end
end L2

namespace L2
open PySem PySem.Spec PyProof.Rows

structure ObjM (h : Heap) (x dx C : Addr) (mA : Str → Option Value) : Prop where
  obj : h.get? x = some (PySem.W.instObj C dx)
  ns : h.Ns1 dx mA
  ne : dx ≠ x

theorem lookIn_ns {h : Heap} {dx : Addr} {mA : Str → Option Value} (n : h.Ns1 dx mA) : ∃ od, h.get? dx = some od ∧ ∀ name, PySem.W.lookIn name od = some (mA name) := by
  obtain ⟨o, es, ep, ho, hd, hk, _, hm⟩ := n
  refine ⟨o, ho, fun name => ?_⟩
  have e := hm name
  unfold nsFind findBy at e
  rw [← Array.find?_toList] at e
  unfold PySem.W.lookIn
  rw [hd]
  dsimp only
  split
  · rename_i y q
    rw [q] at e
    exact congrArg some e
  · rename_i q
    rw [q] at e
    have a : es.toList.any (·.refKey) = false := by
      rw [List.any_eq_false]
      intro y hy
      obtain ⟨z, t, hkey⟩ := hk y (Array.mem_toList_iff.mp hy)
      simp [DictEntry.refKey, hkey]
    have a' : ¬ es.toList.any (·.refKey) = true := by rw [a]; exact Bool.false_ne_true
    rw [if_neg a']
    exact congrArg some e

theorem ObjM.look {h : Heap} {x dx C : Addr} {mA : Str → Option Value} (I : ObjM h x dx C mA) : ∃ od, PySem.W.InstAt h x (PySem.W.instObj C dx) C (some od) ∧ ∀ name, PySem.W.lookIn name od = some (mA name) :=
  let ⟨od, ho, hl⟩ := lookIn_ns I.ns
  ⟨od, ⟨I.obj, rfl, rfl, ho⟩, hl⟩

section
variable {prog : Program} {w : World} {A : Around} {E : Value → Shared → Prop} {s : Shared} {K : PySem.W.Frag} {x dx C f : Addr} {mA : Str → Option Value} {name : Str} {v : Value}

end

def putF (f : Str) (v : V) : List (Str × V) → List (Str × V)
  | [] => [(f, v)]
  | (g, x) :: r => if g = f then (g, v) :: r else (g, x) :: putF f v r
theorem RelO.none_of {o : Option Value} (r : RelO none o) : o = none := by
  cases o with
  | none => rfl
  | some u => exact (show False from r).elim
section
variable {P : Program} {w : World} {H H' : Hp} {h h' : Heap} {a C dx : Addr} {fs fs' : List (Str × V)}
theorem ins_get (hok : HOk P w H h) (e : H a = some (.ins C dx fs)) : ∃ mA, ObjM h a dx C mA ∧ (∀ f, RelO (fs.lookup f) (mA f)) ∧ PySem.Within mA (fs.map (·.1)) ∧ fs.length ≤ 1000 ∧ H dx = some (.own a) := by
  obtain ⟨d, z, ne, ob, mA, n, r, q⟩ := (show ObjOk P w H h a (.ins C dx fs) from hok a _ e)
  exact ⟨mA, ⟨ob, n, ne⟩, r, q, z, d⟩
end

structure Cls (K : PySem.W.Frag) (C : Addr) : Prop where
  pg : PySem.W.plainGet K C Str.empty = true
  hd : PySem.W.hasDictIn K C = true
  po : PySem.W.plainOver K C = true
  sa : PySem.W.findIn K (.ref C) "__setattr__" = some (some (.builtin "object.__setattr__"))
theorem Cls.get {K : PySem.W.Frag} {C : Addr} (c : Cls K C) (f : Str) : PySem.W.plainGet K C f = true := c.pg
def NoAttr (K : PySem.W.Frag) (C : Addr) (f : Str) : Prop := PySem.W.findIn K (.ref C) f = some none
structure Con (K : PySem.W.Frag) (C : Addr) (f : Str) (v : V) (u : Value) : Prop where
  at_ : PySem.W.findIn K (.ref C) f = some (some u)
  rel : RelV v u
  get : PySem.W.specialIn K u "__get__" = some none
  cp : PySem.W.copiedNames.contains f = false
structure Meth (K : PySem.W.Frag) (C : Addr) (m : Str) (f : Addr) : Prop where
  at_ : PySem.W.findIn K (.ref C) m = some (some (.ref f))
  fn : PySem.W.isFn K (.ref f) = true
  kp : PySem.W.keepIn K (.ref f) = true

section
variable {X : Cx} {pins : List (Addr × Obj)} {σ : St} {H : Hp} {s : Shared} {a C dx : Addr} {fs : List (Str × V)} {f : Str} {v : V} {A : Around} {E : Value → Shared → Prop}

end

def tFld (K : PySem.W.Frag) (ta : TE) (f : Str) : TE := fun σ H Q => ta σ H fun x H1 => ∃ a C dx fs v, x = .ref a ∧ H1 a = some (.ins C dx fs) ∧ Cls K C ∧ NoAttr K C f ∧ fs.lookup f = some v ∧ Q v H1
def tCon (K : PySem.W.Frag) (ta : TE) (f : Str) : TE := fun σ H Q => ta σ H fun x H1 => ∃ a C dx fs v u, x = .ref a ∧ H1 a = some (.ins C dx fs) ∧ Cls K C ∧ Con K C f v u ∧ fs.lookup f = none ∧ Q v H1
def sFld (K : PySem.W.Frag) (ta tv : TE) (f : Str) : TS := fun D σ H => tv σ H fun y H1 => ta σ H1 fun x H2 => ∃ a C dx fs, x = .ref a ∧ H2 a = some (.ins C dx fs) ∧ Cls K C ∧ NoAttr K C f ∧ fs.length < 1000 ∧
  D.nx σ (upd H2 a (.ins C dx (putF f y fs)))
def InOp (X : Cx) (op : Operator) (rd : V → V → Hp → VK → Prop) : Prop :=
  ∀ (pins : List (Addr × Obj)) (s : Shared) (σ : St) (H : Hp) (x y : V) (u v : Value) (Q : VK), Inv X pins σ H s → RelV x u → RelV y v → rd x y H Q → wpAny (model X.prog X.w) X.A (inplaceOp op u v) (EP X pins σ Q) X.xe s
def sFldAug (K : PySem.W.Frag) (ta tv : TE) (rd : V → V → Hp → VK → Prop) (f : Str) : TS := fun D σ H => ta σ H fun x H1 => ∃ a C dx fs v, x = .ref a ∧ H1 a = some (.ins C dx fs) ∧ Cls K C ∧ NoAttr K C f ∧ fs.lookup f = some v ∧
  tv σ H1 fun y H2 => rd v y H2 fun z H3 => ∃ dx' fs', H3 a = some (.ins C dx' fs') ∧ fs'.length < 1000 ∧ D.nx σ (upd H3 a (.ins C dx' (putF f z fs')))

section
variable {X : Cx} {o e value : Expr} {f : Str} {pos pos' tpos : Pos} {ta tv : TE}
def rAdd : V → V → Hp → VK → Prop := fun x y H Q => ∃ i j, x = .int i ∧ y = .int j ∧ Q (.int (i + j)) H
def rSub : V → V → Hp → VK → Prop := fun x y H Q => ∃ i j, x = .int i ∧ y = .int j ∧ Q (.int (i - j)) H
end

section
variable {X : Cx} {pins : List (Addr × Obj)} {σ : St} {H : Hp} {s : Shared} {A : Around} {E : Value → Shared → Prop} {Q : Value → Shared → Prop} {c : Value} {b : Bool}
inductive TyOf (K : PySem.W.Frag) (H : Hp) : V → Value → Prop where
  | non : TyOf K H .non (.type "NoneType")
  | bl (x : Bool) : TyOf K H (.bl x) (.type "bool")
  | int (i : Int) : TyOf K H (.int i) (.type "int")
  | str (x : Str) : TyOf K H (.str x) (.type "str")
  | flt (x : UInt64) : TyOf K H (.flt x) (.type "float")
  | lst {a : Addr} {xs : List V} (e : H a = some (.lst xs)) : TyOf K H (.ref a) (.type "list")
  | frz {a : Addr} {o : Obj} {xs : List V} (e : H a = some (.frz o (.lst xs))) : TyOf K H (.ref a) (.type "list")
  | tup {a : Addr} {xs : List V} (e : H a = some (.tup xs)) : TyOf K H (.ref a) (.type "tuple")
  | dK {a : Addr} {kvs : List (Key × V)} (e : H a = some (.dK kvs)) : TyOf K H (.ref a) (.type "dict")
  | dT {a : Addr} {kvs : List (List Key × V)} (e : H a = some (.dT kvs)) : TyOf K H (.ref a) (.type "dict")
  | ins {a C dx : Addr} {fs : List (Str × V)} (e : H a = some (.ins C dx fs)) (cl : Cls K C) (ha : PySem.W.findIn K (.ref C) "__class__" = some (some (.builtin "object.__class__")))
      (hn : PySem.W.specialIn K (.builtin "object.__class__") "__get__" = some (some (.builtin "getset_descriptor.__get__"))) (htk : PySem.W.takesIn K (.builtin "object.__class__") = some true)
      (hm : PySem.W.mroIn K C (.type "object") = some true) : TyOf K H (.ref a) (.ref C)
theorem isinst_ok {x : V} {u t : Value} (I : Inv X pins σ H s) (rx : RelV x u) (ty : TyOf X.K H x t) (e : PySem.W.kitOne X.K t c = some b) (h : ∀ tk, Q (.bool b) { s with toks := tk }) :
    wpAny (model X.prog X.w) A (call (.builtin "isinstance") [u, c]) Q E s := by
  cases ty with
  | non => cases (show u = Value.none from rx); exact PySem.W.kia_one PySem.W.kitx_none I.kIn True.intro e (fun z => nomatch z) h
  | bl y => cases (show u = Value.bool y from rx); exact PySem.W.kia_one PySem.W.kitx_bool I.kIn True.intro e (fun z => nomatch z) h
  | int i => obtain ⟨t, q⟩ := (show ∃ t, u = Value.int i t from rx); cases q; exact PySem.W.kia_one PySem.W.kitx_int I.kIn True.intro e (fun z => nomatch z) h
  | str y => obtain ⟨t, q⟩ := (show ∃ t, u = Value.str y t from rx); cases q; exact PySem.W.kia_one PySem.W.kitx_str I.kIn True.intro e (fun z => nomatch z) h
  | flt y => obtain ⟨t, q⟩ := (show ∃ t, u = Value.float y t from rx); cases q; exact PySem.W.kia_one PySem.W.kitx_float I.kIn True.intro e (fun z => nomatch z) h
  | @lst a xs ea =>
    cases (show u = Value.ref a from rx)
    obtain ⟨_, _, n, _, h1⟩ := (show ObjOk X.prog X.w H s.heap a (.lst xs) from I.hok a _ ea)
    exact PySem.W.kia_one PySem.W.kitx_list I.kIn ⟨_, h1, rfl⟩ e (fun z => nomatch z) h
  | @frz a ob xs ea =>
    cases (show u = Value.ref a from rx)
    obtain ⟨_, _, _, n, _, h1⟩ := (show ObjOk X.prog X.w H s.heap a (.frz ob (.lst xs)) from I.hok a _ ea)
    exact PySem.W.kia_one PySem.W.kitx_list I.kIn ⟨_, h1, rfl⟩ e (fun z => nomatch z) h
  | @tup a xs ea =>
    cases (show u = Value.ref a from rx)
    obtain ⟨_, _, _, p⟩ := (show ObjOk X.prog X.w H s.heap a (.tup xs) from I.hok a _ ea)
    obtain ⟨o, h1, h2, _⟩ := p
    exact PySem.W.kia_one PySem.W.kitx_tuple I.kIn ⟨o, h1, h2⟩ e (fun z => nomatch z) h
  | @dK a kvs ea =>
    cases (show u = Value.ref a from rx)
    obtain ⟨_, _, vs, _, p⟩ := (show ObjOk X.prog X.w H s.heap a (.dK kvs) from I.hok a _ ea)
    obtain ⟨o, es, ep, h1, h2, _⟩ := p
    exact PySem.W.kia_one PySem.W.kitx_dict I.kIn ⟨o, h1, h2.1⟩ e (fun z => nomatch z) h
  | @dT a kvs ea =>
    cases (show u = Value.ref a from rx)
    obtain ⟨_, _, xs, _, o, es, ep, h1, h2, _⟩ := (show ObjOk X.prog X.w H s.heap a (.dT kvs) from I.hok a _ ea)
    exact PySem.W.kia_one PySem.W.kitx_dict I.kIn ⟨o, h1, h2.1⟩ e (fun z => nomatch z) h
  | @ins a C dx fs ea cl ha hn htk hm =>
    cases (show u = Value.ref a from rx)
    obtain ⟨mA, O, _⟩ := ins_get I.hok ea
    obtain ⟨od, J, _⟩ := O.look
    exact PySem.W.kia_one (PySem.W.kitx_own (cl.get _) cl.hd ha hn htk hm) I.kIn J e (fun z => nomatch z) h
end
end L2

namespace L2
open PySem PySem.Spec PyProof.Rows

structure Room (k : Nat) (A : Around) : Prop where
  hd : A.handled = none
  dp : A.depth + 3 * k + 5 < recursionLimit
  un : A.units + 16 * k + 200 < cLine
theorem Room.mono {j k : Nat} {A : Around} (r : Room k A) (h : j ≤ k) : Room j A := ⟨r.hd, by have := r.dp; omega, by have := r.un; omega⟩
theorem Room.deeper {k : Nat} {A : Around} (r : Room (k + 1) A) (env : Env) : Room k (A.deeper env) :=
  ⟨r.hd, by have := r.dp; show A.depth + 1 + 3 * k + 5 < _; omega, by have := r.un; show A.units + 3 + 16 * k + 200 < _; omega⟩
theorem Room.in1 {k : Nat} {A : Around} (r : Room (k + 1) A) : Room k A.in1 :=
  ⟨r.hd, by have := r.dp; show A.depth + 3 * k + 5 < _; omega, by have := r.un; show A.units + 1 + 16 * k + 200 < _; omega⟩
theorem make_depth {A : Around} {C : Addr} {us : List Value} {kw : List (Str × Value)} : (A.under (.builtin "type.__call__" ⟨.ref C :: us, kw⟩)).depth = A.depth + 1 := by
  first | rfl | simp [Around.under, Code.weight, Code.isCreation, Code.isGuard, Code.isCaller, Code.frames, Code.isFrame, guardIds]
theorem make_units {A : Around} {C : Addr} {us : List Value} {kw : List (Str × Value)} : (A.under (.builtin "type.__call__" ⟨.ref C :: us, kw⟩)).units = A.units + 1 := by
  first | rfl | simp [Around.under, Code.cUnits, Code.frames, Code.isFrame]
theorem Room.make {k : Nat} {A : Around} (r : Room (k + 1) A) (C : Addr) (us : List Value) (kw : List (Str × Value)) : Room k (A.under (.builtin "type.__call__" ⟨.ref C :: us, kw⟩)) :=
  ⟨r.hd, by have := r.dp; rw [make_depth]; omega, by have := r.un; rw [make_units]; omega⟩
theorem Room.depth {k : Nat} {A : Around} (r : Room k A) : A.depth < recursionLimit := by have := r.dp; omega
theorem Room.units {k : Nat} {A : Around} (r : Room k A) : A.units + 64 < cLine := by have := r.un; omega
def tNil : TA := fun _ H Q => Q [] H
def tCons (ta : TE) (tr : TA) : TA := fun σ H Q => ta σ H fun x H1 => tr σ H1 fun xs H2 => Q (x :: xs) H2
section
variable {X : Cx} {e : Expr} {es : List Expr} {te : TE} {t : TA} {pos : Pos}
theorem pa_nil : PA X [] tNil := fun _ _ _ _ H Q I h => Calls.spliced_nil ⟨[], H, I, .nil, h⟩
theorem pa_cons (ha : PE X e te) (hr : PA X es t) (hs : starEach (e :: es) X.env = (false, eval e X.env) :: starEach es X.env := by rfl) : PA X (e :: es) (tCons te t) := by
  intro pos pins s σ H Q I h
  rw [hs]
  show wpAny _ _ (spliced ((false, eval e X.env) :: backTo pos (starEach es X.env))) _ _ s
  refine Calls.spliced_cons (thn (ha pins s σ H _ I h) fun u s1 ⟨x, H1, I1, r1, q1⟩ => ?_)
  exact thn (hr pos pins s1 σ H1 _ I1 q1) fun us s2 ⟨xs, H2, I2, r2, q2⟩ => ⟨x :: xs, H2, I2, .cons r1 r2, q2⟩

def tTup (t : TA) : TE := fun σ H Q => t σ H fun xs H1 => xs.length ≤ sizeLine ∧ ∀ p, H1 p = none → Q (.ref p) (upd H1 p (.tup xs))
def tLst (t : TA) : TE := fun σ H Q => t σ H fun xs H1 => xs.length ≤ sizeLine ∧ ∀ p, H1 p = none → Q (.ref p) (upd H1 p (.lst xs))
theorem pe_tup {x1} (h : PA X es t) : PE X (.Tuple es x1 pos) (tTup t) := by
  intro pins s σ H Q I hq
  refine wpAny_Tuple_spliced (thn (h pos pins s σ H _ I hq) fun us s1 ⟨xs, H1, I1, r, z, q⟩ => ⟨by rw [← r.length]; exact z, ?_⟩)
  have hf : H1 s1.heap.objs.size = none := I1.hok.fresh (Nat.le_refl _)
  refine ⟨.ref s1.heap.objs.size, upd H1 s1.heap.objs.size (.tup xs), I1.laid (t' := s1.toks) (fun b u e => Heap.get?_push_of_some _ e) (Nat.le_refl _) ?_, rfl, q _ hf⟩
  exact ⟨z, us, r, ⟨_, Heap.get?_push_size _ rfl, rfl, _, rfl⟩⟩
theorem pe_lst (h : PA X es t) : PE X (.List es pos) (tLst t) := by
  intro pins s σ H Q I hq
  refine wpAny_List_spliced (thn (h pos pins s σ H _ I hq) fun us s1 ⟨xs, H1, I1, r, z, q⟩ => ⟨by rw [← r.length]; exact z, ?_⟩)
  have hf : H1 s1.heap.objs.size = none := I1.hok.fresh (Nat.le_refl _)
  refine ⟨.ref s1.heap.objs.size, upd H1 s1.heap.objs.size (.lst xs), I1.laid (t' := s1.toks) (fun b u e => Heap.get?_push_of_some _ e) (Nat.le_refl _) ?_, rfl, q _ hf⟩
  exact ⟨z, us, 0, r, Heap.get?_push_size _ rfl⟩
end

abbrev Sp := List V → Hp → VK → XK → Prop
abbrev CXT := List Env → Hp → Shared → XK → Value → Shared → Prop

structure Env0 (P : Program) (w : World) (K : PySem.W.Frag) (mg : Str → Option Value) (base : Heap) (A : Around) (outer : List Env) (s : Shared) (H : Hp) : Prop where
  frames : A.frames = some outer
  mod : Mod K mg base
  bs : ∀ b o, base.get? b = some o → s.heap.get? b = some o ∧ H b = none
  bsz : base.objs.size ≤ s.heap.objs.size
  funs : s.heap.FunFrames base outer
  frf : ∀ b ∈ frs outer, H b = none
  hok : HOk P w H s.heap
  bare : AllBare s.gens
def CE (outer : List Env) (P : Program) (w : World) (H : Hp) (s : Shared) (Q : VK) (u : Value) (s' : Shared) : Prop :=
  ∃ v H', s'.os = s.os ∧ AllBare s'.gens ∧ Un (frs outer) [] H H' s.heap s'.heap ∧ HOk P w H' s'.heap ∧ RelV v u ∧ Q v H'
def CR (CX : CXT) (outer : List Env) (P : Program) (w : World) (H : Hp) (s : Shared) (Q : VK) (E : XK) (r : Result) (s' : Shared) : Prop :=
  match r with
  | .ok (.ret u) => CE outer P w H s Q u s'
  | .ok _ => False
  | .error e => CX outer H s E e s'
structure FnOk (P : Program) (w : World) (K : PySem.W.Frag) (mg : Str → Option Value) (base : Heap) (CX : CXT) (k : Nat) (f : Addr) (fd : FuncData) (ps : List Str) (sp : Sp) : Prop where
  len : ∀ vs H Q E, sp vs H Q E → vs.length = ps.length
  run : ∀ (A : Around) (outer : List Env) (s : Shared) (H : Hp) (args : Args) (us : List Value) (vs : List V) (Q : VK) (E : XK), Room k A → Env0 P w K mg base A outer s H → BindsTo s fd args (ps.zip us) → Vals vs us → sp vs H Q E →
    codeAny (model P w) A (.call (.ref f) args) (CR CX outer P w H s Q E) s
theorem FnOk.mono {P : Program} {w : World} {K : PySem.W.Frag} {mg : Str → Option Value} {base : Heap} {CX : CXT} {j k : Nat} {f : Addr} {fd : FuncData} {ps : List Str} {sp : Sp} (F : FnOk P w K mg base CX j f fd ps sp) (h : j ≤ k) :
    FnOk P w K mg base CX k f fd ps sp := ⟨F.len, fun A outer s H args us vs Q E hr => F.run A outer s H args us vs Q E (hr.mono h)⟩
theorem FnOk.imp {P : Program} {w : World} {K : PySem.W.Frag} {mg : Str → Option Value} {base : Heap} {CX : CXT} {k : Nat} {f : Addr} {fd : FuncData} {ps : List Str} {sp sp' : Sp} (F : FnOk P w K mg base CX k f fd ps sp)
    (h : ∀ vs H Q E, sp' vs H Q E → sp vs H Q E) : FnOk P w K mg base CX k f fd ps sp' :=
  ⟨fun vs H Q E q => F.len vs H Q E (h _ _ _ _ q), fun A outer s H args us vs Q E hr he hb hv hs => F.run A outer s H args us vs Q E hr he hb hv (h _ _ _ _ hs)⟩

theorem Env0.make {P : Program} {w : World} {K : PySem.W.Frag} {mg : Str → Option Value} {base : Heap} {A : Around} {outer : List Env} {s : Shared} {H : Hp} (e : Env0 P w K mg base A outer s H) (C : Addr) (us : List Value) (kw : List (Str × Value)) :
    Env0 P w K mg base (A.under (.builtin "type.__call__" ⟨.ref C :: us, kw⟩)) outer s H := ⟨by first | exact e.frames | (simpa [Around.under, Code.envs, Code.isFrame, pushEnvs] using e.frames), e.mod, e.bs, e.bsz, e.funs, e.frf, e.hok, e.bare⟩
theorem Env0.in1 {P : Program} {w : World} {K : PySem.W.Frag} {mg : Str → Option Value} {base : Heap} {A : Around} {outer : List Env} {s : Shared} {H : Hp} (e : Env0 P w K mg base A outer s H) :
    Env0 P w K mg base A.in1 outer s H := ⟨e.frames, e.mod, e.bs, e.bsz, e.funs, e.frf, e.hok, e.bare⟩

section
variable {X : Cx} {pins : List (Addr × Obj)} {σ : St} {H : Hp} {s s' : Shared}
theorem Inv.env0 (I : Inv X pins σ H s) : Env0 X.prog X.w X.K X.mg X.base X.A X.stack s H :=
  ⟨I.ok.frames, I.ok.mod, I.bs, Nat.le_trans I.ok.bsz I.sz, I.stack, I.stkFree, I.hok, I.bare⟩
theorem Inv.after {Q : VK} {u : Value} (I : Inv X pins σ H s) (h : CE X.stack X.prog X.w H s Q u s') : EP X pins σ Q u s' := by
  obtain ⟨v, H', os, bare, un, hok, r, q⟩ := h
  obtain ⟨hh, g, d, t, os'⟩ := s'
  obtain rfl : os' = s.os := os
  exact ⟨v, H', I.call (h' := hh) (g' := g) (d' := d) (t' := t) (ch := []) un hok bare (fun b z => absurd z (by simp)), r, q⟩
end

def tCall (sp : Sp) (dvs : List V) (E : XK) (t : TA) : TE := fun σ H Q => t σ H fun vs H1 => sp (vs ++ dvs) H1 Q E
def tMeth (C : Addr) (m : Str) (sp : Sp) (dvs : List V) (E : XK) (ta : TE) (t : TA) : TE := fun σ H Q => ta σ H fun x H1 => ∃ a dx fs, x = .ref a ∧ H1 a = some (.ins C dx fs) ∧ fs.lookup m = none ∧
  t σ H1 fun vs H2 => sp (x :: (vs ++ dvs)) H2 Q E
def tMake (C : Addr) (sp : Sp) (dvs : List V) (E : XK) (t : TA) : TE := fun σ H Q => t σ H fun vs H1 => ∀ x dx, H1 x = none → H1 dx = none → dx ≠ x →
  sp (.ref x :: (vs ++ dvs)) (upd (upd H1 dx (.own x)) x (.ins C dx [])) (fun v H2 => v = .non ∧ Q (.ref x) H2) E

def Binds (K : PySem.W.Frag) (fd : FuncData) (ps : List Str) (ds : List Value) : Prop :=
  ∀ (s : Shared) (us : List Value), K.In s.heap → (us ++ ds).length = ps.length → BindsTo s fd ⟨us, []⟩ (ps.zip (us ++ ds))
theorem Binds.all {K : PySem.W.Frag} {fd : FuncData} {ps : List Str} (h : ∀ us : List Value, us.length = ps.length → bindArgs fd ⟨us, []⟩ = pure (ps.zip us)) : Binds K fd ps [] := fun s us _ hl => by
  rw [List.append_nil] at hl ⊢
  exact .of_eq (h us hl)

def Passes (CX : CXT) (X : Cx) (E : XK) : Prop := ∀ (pins : List (Addr × Obj)) (σ : St) (H : Hp) (s : Shared) (e : Value) (s' : Shared), Inv X pins σ H s → CX X.stack H s E e s' → X.xe e s'

section
variable {X : Cx} {CX : CXT} {k : Nat} {f C : Addr} {fd : FuncData} {ps : List Str} {sp : Sp} {dvs : List V} {ds : List Value} {E : XK} {x m : Str} {p pos apos : Pos} {e o : Expr} {es : List Expr} {ta : TE} {t : TA}

theorem run_fn {pins : List (Addr × Obj)} {σ : St} {H : Hp} {s : Shared} {Q : VK} {us : List Value} {vs : List V} (F : FnOk X.prog X.w X.K X.mg X.base CX k f fd ps sp) (hr : Room k X.A) (hb : Binds X.K fd ps ds) (hd : Vals dvs ds) (hx : Passes CX X E)
    (I : Inv X pins σ H s) (r : Vals vs us) (h : sp (vs ++ dvs) H Q E) : wpAny (model X.prog X.w) X.A (call (.ref f) us) (EP X pins σ Q) X.xe s := by
  have r2 : Vals (vs ++ dvs) (us ++ ds) := r.append hd
  have hl : (us ++ ds).length = ps.length := by rw [← r2.length]; exact F.len _ _ _ _ h
  refine wpAny_call (codeAny_mono (F.run X.A X.stack s H ⟨us, []⟩ (us ++ ds) (vs ++ dvs) Q E hr I.env0 (hb s us I.kIn hl) r2 h) fun r s' hq => ?_)
  cases r with
  | error e => exact hx pins σ H s e s' I hq
  | ok fl =>
    cases fl with
    | ret u => exact I.after hq
    | next => exact False.elim hq
    | brk => exact False.elim hq
    | cont => exact False.elim hq

theorem pe_call (F : FnOk X.prog X.w X.K X.mg X.base CX k f fd ps sp) (hr : Room k X.A) (hg : Gl X x) (hm : X.mg x = some (.ref f)) (hk : PySem.W.keepIn X.K (.ref f) = true) (hb : Binds X.K fd ps ds) (hd : Vals dvs ds) (hx : Passes CX X E)
    (ha : PA X (e :: es) t) (hdb : (x == ("__debug__" : Str)) = false := by decide) (he : starEach (e :: es) X.env = (false, eval e X.env) :: starEach es X.env := by rfl) (hpl : (backTo pos (starEach es X.env)).any (·.1) = false := by rfl) :
    PE X (.Call (.Name x p) (e :: es) [] pos) (tCall sp dvs E t) := by
  intro pins s σ H Q I h
  refine wpAny_Call_Name_kw (ld_glob I hg hm ?_ hdb)
  refine PySem.W.callWith_K (h₀ := X.base) I.ok.mod.kin hk (thn (ha pos pins s σ H _ I h) fun us s1 ⟨vs, H1, I1, r, q⟩ => ⟨I1.kIn, ?_⟩) he hpl
  exact run_fn F hr hb hd hx I1 r q
structure Mk (K : PySem.W.Frag) (C f : Addr) : Prop where
  makes : PySem.W.makesIn K C = true
  init : PySem.W.findIn K (.ref C) "__init__" = some (some (.ref f))
  fn : PySem.W.isFn K (.ref f) = true
  kp : PySem.W.keepIn K (.ref C) = true

end

def PK (X : Cx) (kws : List Keyword) (t : TA) : Prop :=
  ∀ (pos : Pos) (pins : List (Addr × Obj)) (s : Shared) (σ : St) (H : Hp) (Q : List V → Hp → Prop), Inv X pins σ H s → t σ H Q → wpAny (model X.prog X.w) X.A (evalAll ((backToKw pos (keywordEach kws X.env)).map (·.2))) (AP X pins σ Q) X.xe s
section
variable {X : Cx} {CX : CXT} {k : Nat} {f C : Addr} {fd : FuncData} {ps ks : List Str} {sp : Sp} {E : XK} {x m : Str} {p pos apos kpos : Pos} {e o : Expr} {es : List Expr} {kws : List Keyword} {te ta : TE} {t tk : TA} {nm : Option Str}
structure KBinds (K : PySem.W.Frag) (fd : FuncData) (ps ks : List Str) (g : List Value → List Value → List Value) (gV : List V → List V → List V) : Prop where
  to : ∀ (s : Shared) (us ws : List Value), K.In s.heap → (g us ws).length = ps.length → BindsTo s fd ⟨us, ks.zip ws⟩ (ps.zip (g us ws))
  rel : ∀ {vs : List V} {us : List Value} {zs : List V} {ws : List Value}, Vals vs us → Vals zs ws → Vals (gV vs zs) (g us ws)
def tCallK (sp : Sp) (gV : List V → List V → List V) (E : XK) (t tk : TA) : TE := fun σ H Q => t σ H fun vs H1 => tk σ H1 fun zs H2 => sp (gV vs zs) H2 Q E
variable {g : List Value → List Value → List Value} {gV : List V → List V → List V}
end

structure FnScope (N P : List Str) (sc : Scope) : Prop where
  kind : sc.kind = .function
  co : sc.isCoroutine = false
  gen : sc.isGenerator = false
  nd : N.Nodup
  pre : N.take P.length = P
  par : ∀ x ∈ P, sc.names.lookup x = some .local ∨ sc.names.lookup x = some .cell
  nofree : ∀ y ∈ sc.names, y.2 ≠ .free

theorem bindL_out {kindOf : Str → Option NameKind} {x : Str} : ∀ {binds : List (Str × Value)} {m : Str → Option Value}, (∀ v, (x, v) ∉ binds) → bindL kindOf binds m x = m x
  | [], _, _ => rfl
  | (n, v) :: r, m, h => by
    unfold bindL
    rw [bindL_out fun w hw => h w (List.mem_cons_of_mem _ hw)]
    split
    · have : x ≠ n := by rintro rfl; exact h v List.mem_cons_self
      simp [this]
    · rfl
theorem bindC_out {kindOf : Str → Option NameKind} {x : Str} : ∀ {binds : List (Str × Value)} {m : Str → Option Value}, (∀ v, (x, v) ∉ binds) → bindC kindOf binds m x = m x
  | [], _, _ => rfl
  | (n, v) :: r, m, h => by
    unfold bindC
    rw [bindC_out fun w hw => h w (List.mem_cons_of_mem _ hw)]
    split
    · rfl
    · have : x ≠ n := by rintro rfl; exact h v List.mem_cons_self
      simp [this]
theorem bindL_get {kindOf : Str → Option NameKind} {x : Str} {v : Value} : ∀ {P : List Str} {vs : List Value} {i : Nat} {m : Str → Option Value}, P.Nodup → P[i]? = some x → vs[i]? = some v → kindOf x = some .local →
    bindL kindOf (P.zip vs) m x = some v
  | [], _, _, _, _, h, _, _ => by simp at h
  | _ :: _, [], _, _, _, _, h, _ => by simp at h
  | p :: P, w :: vs, 0, m, nd, h1, h2, hk => by
    simp at h1 h2; subst h1; subst h2
    show bindL kindOf ((p, w) :: P.zip vs) m p = _
    unfold bindL
    rw [bindL_out fun v hv => (List.nodup_cons.mp nd).1 (List.of_mem_zip hv).1, if_pos hk]
    simp
  | p :: P, w :: vs, i + 1, m, nd, h1, h2, hk => by
    show bindL kindOf ((p, w) :: P.zip vs) m x = _
    unfold bindL
    exact bindL_get (i := i) (List.nodup_cons.mp nd).2 (by simpa using h1) (by simpa using h2) hk
theorem bindC_get {kindOf : Str → Option NameKind} {x : Str} {v : Value} : ∀ {P : List Str} {vs : List Value} {i : Nat} {m : Str → Option Value}, P.Nodup → P[i]? = some x → vs[i]? = some v → kindOf x ≠ some .local →
    bindC kindOf (P.zip vs) m x = some v
  | [], _, _, _, _, h, _, _ => by simp at h
  | _ :: _, [], _, _, _, _, h, _ => by simp at h
  | p :: P, w :: vs, 0, m, nd, h1, h2, hk => by
    simp at h1 h2; subst h1; subst h2
    show bindC kindOf ((p, w) :: P.zip vs) m p = _
    unfold bindC
    rw [bindC_out fun v hv => (List.nodup_cons.mp nd).1 (List.of_mem_zip hv).1, if_neg hk]
    simp
  | p :: P, w :: vs, i + 1, m, nd, h1, h2, hk => by
    show bindC kindOf ((p, w) :: P.zip vs) m x = _
    unfold bindC
    exact bindC_get (i := i) (List.nodup_cons.mp nd).2 (by simpa using h1) (by simpa using h2) hk

def start (N : List Str) (vs : List V) : St := vs.map some ++ List.replicate (N.length - vs.length) none

def cxOf (CX : CXT) (P : Program) (w : World) (K : PySem.W.Frag) (mg : Str → Option Value) (base : Heap) (N : List Str) (qual : Str) (scope : Scope) (f : Addr) (cd : Value) (A : Around) (outer : List Env) (s : Shared) (H : Hp) (E : XK) : Cx where
  prog := P
  w := w
  K := K
  mg := mg
  base := base
  A := A.deeper (envOfC qual scope s.heap.objs.size f cd)
  N := N
  s₀ := s
  H₀ := H
  env := envOfC qual scope s.heap.objs.size f cd
  outer := outer
  stack := envOfC qual scope s.heap.objs.size f cd :: outer
  ex := []
  calm := true
  fn := fun _ => true
  pn := []
  xe := fun e s' => wpAny (model P w) (A.deeper (envOfC qual scope s.heap.objs.size f cd)) (leaving (envOfC qual scope s.heap.objs.size f cd) e) (fun _ s'' => CX outer H s E e s'') (fun e' s'' => CX outer H s E e' s'') s'

theorem cell_has {sc : Scope} {n : Nat} {x : Str} (h : sc.names.lookup x = some .cell) : ∃ c, (cellsFrom n sc.names []).lookup x = some c := by
  have q := PySem.W.cellsFrom_some sc.names n [] (.inl h)
  exact Option.isSome_iff_exists.mp q

theorem inv_start {CX : CXT} {P : Program} {w : World} {K : PySem.W.Frag} {mg : Str → Option Value} {base : Heap} {N ps : List Str} {qual : Str} {scope : Scope} {f : Addr} {cd : Value} {A : Around} {outer : List Env} {s s1 : Shared} {H : Hp} {E : XK} {us : List Value} {vs : List V}
    (S : FnScope N ps scope) (hd : A.handled = none) (e0 : Env0 P w K mg base A outer s H) (hl : vs.length = ps.length) (r : Vals vs us)
    (x : InCallC s s.heap.objs.size (bindL (envOfC qual scope s.heap.objs.size f cd).kindOf (ps.zip us) fun _ => none) (cellsFrom (s.heap.objs.size + 1) scope.names []) (bindC (envOfC qual scope s.heap.objs.size f cd).kindOf (ps.zip us) fun _ => none) s1) :
    Inv (cxOf CX P w K mg base N qual scope f cd A outer s H E) [] (start N vs) H s1 := by
  have hpl : ps.length ≤ N.length := by have := congrArg List.length S.pre; rw [List.length_take] at this; omega
  obtain ⟨h1, tk, rfl, hk⟩ := x.done
  have noA : ∀ b : Addr, b ∉ (cxOf CX P w K mg base N qual scope f cd A outer s H E).ex := fun b z => absurd (show b ∈ ([] : List Addr) from z) (by simp)
  refine ⟨⟨e0.mod, S.kind, rfl, rfl, Nat.le_refl _, fun y z c h1 h2 => ?_, fun y hy => ?_, fun y c _ h => ?_, fun _ => hd, Around.frames_deeper e0.frames, .inr ⟨rfl, rfl⟩, fun b z => absurd z (noA b), e0.bs, e0.bsz, fun b _ _ => noA b, fun b z => absurd z (noA b), e0.funs, e0.frf⟩,
    rfl, e0.bare, Un.kept hk, ⟨_, x.toInCall.ns, fun i y v h1 h2 h3 => ?_⟩, fun y c h => ⟨_, x.cell y c h⟩, e0.hok.fresh (Nat.le_refl _), fun y c h => ?_, fun p hp => absurd (show p ∈ ([] : List (Addr × Obj)) from hp) (by simp), e0.hok.kept hk, ?_⟩
  · exact name_of_addr x.apart (PySem.mem_of_lookup h1) (PySem.mem_of_lookup h2)
  · have hy : scope.names.lookup y = some .cell ∨ scope.names.lookup y = some .free := hy
    rcases hy with hy | hy
    · exact cell_has hy
    · exact absurd rfl (S.nofree _ (PySem.mem_of_lookup hy))
  · exact Nat.le_of_lt (x.above y c (PySem.mem_of_lookup h))
  · have hi : i < vs.length := by
      unfold start at h2
      by_cases hi : i < vs.length
      · exact hi
      · rw [List.getElem?_append_right (by simpa using hi)] at h2
        rw [List.getElem?_replicate] at h2
        split at h2 <;> cases h2
    have ha : vs[i]? = some v := by
      unfold start at h2
      rw [List.getElem?_append_left (by simpa using hi), List.getElem?_map] at h2
      cases e : vs[i]? with
      | none => rw [e] at h2; cases h2
      | some a => rw [e] at h2; cases h2; rfl
    obtain ⟨u, hu, rv⟩ := r.get ha
    have hp : ps[i]? = some y := by
      rw [← S.pre, List.getElem?_take_of_lt (by omega)]; exact h1
    have ndP : ps.Nodup := by rw [← S.pre]; exact S.nd.sublist (List.take_sublist _ _)
    refine ⟨u, rv, ?_⟩
    rcases S.par y (List.mem_of_getElem? hp) with k | k
    · exact .inl ⟨k, bindL_get ndP hp hu k⟩
    · obtain ⟨c, e⟩ := cell_has (n := s.heap.objs.size + 1) k
      refine .inr ⟨.inl k, c, e, ?_⟩
      have q := x.cell y c e
      rw [bindC_get ndP hp hu (by show scope.names.lookup y ≠ _; rw [k]; decide)] at q
      exact q
  · exact e0.hok.fresh (Nat.le_of_lt (x.above y c (PySem.mem_of_lookup h)))
  · unfold start
    show _ = N.length
    rw [List.length_append, List.length_map, List.length_replicate]
    omega

theorem fn_of {CX : CXT} {P : Program} {w : World} {K : PySem.W.Frag} {mg : Str → Option Value} {base : Heap} {k : Nat} {f : Addr} {name qual : Str} {params : Arguments} {body : List Stmt} {scope : Scope} {dV kV doc pm cdv ct oc : Value} {an od : Option Addr}
    {osl : Array (Option Value)} {N ps : List Str} {sp : Sp} (lk : K.lookup f = some ⟨oc, od, .func (PySem.W.fnOf name qual params body scope dV kV doc pm an cdv ct), osl⟩) (hcd : PySem.W.codeIn K cdv qual = true) (S : FnScope N ps scope)
    (len : ∀ vs H Q E, sp vs H Q E → vs.length = ps.length)
    (hbody : ∀ (A : Around) (outer : List Env) (s : Shared) (H : Hp) (vs : List V) (Q : VK) (E : XK), Room k (A.deeper (envOfC qual scope s.heap.objs.size f cdv)) → sp vs H Q E →
      ∃ t, PSs (cxOf CX P w K mg base N qual scope f cdv A outer s H E) body t ∧ t { nx := fun _ H' => Q .non H', rt := Q } (start N vs) H) :
    FnOk P w K mg base CX (k + 1) f (PySem.W.fnOf name qual params body scope dV kV doc pm an cdv ct) ps sp := by
  refine ⟨len, fun A outer s H args us vs Q E hr e0 hb r hsp => ?_⟩
  have hl := len _ _ _ _ hsp
  have KX : K.In s.heap := e0.mod.kin.keeps fun b o e => (e0.bs b o e).1
  have lim : s.heap.NoLimit := e0.mod.nolimit.keeps fun b o e => (e0.bs b o e).1
  have hkind : ∀ y ∈ ps.zip us, scope.names.lookup y.1 = some .local ∨ (scope.names.lookup y.1 = some .cell ∧ ((cellsFrom (s.heap.objs.size + 1) scope.names []).lookup y.1).isSome = true) := fun ⟨n, v⟩ hy => by
    rcases S.par n (List.of_mem_zip hy).1 with q | q
    · exact .inl q
    · exact .inr ⟨q, PySem.W.cellsFrom_some _ _ _ (.inl q)⟩
  refine codeAny_call_function hr.depth (KX _ _ lk) rfl S.co S.gen rfl (PySem.W.codeRec_of KX hcd) (hb _ _ _ _ ?_)
  refine wpAny_newFunctionEnv_cells S.kind hkind fun env he s1 x => ?_
  subst he
  refine ⟨lim.keeps x.toInCall.keep, codeAny_func ?_⟩
  obtain ⟨t, ht, hq⟩ := hbody A outer s H vs Q E (hr.deeper _) hsp
  have I : Inv (cxOf CX P w K mg base N qual scope f cdv A outer s H E) [] (start N vs) H s1 := inv_start S hr.hd e0 hl r x
  refine wpAny_mono (ht [] s1 (start N vs) H _ I hq) (fun fl s' hs => ?_) fun e s' hs => hs
  have fin : ∀ {σ' : St} {H' : Hp} {v : V} {u : Value}, Inv (cxOf CX P w K mg base N qual scope f cdv A outer s H E) [] σ' H' s' → RelV v u → Q v H' → CE outer P w H s Q u s' :=
    fun {σ' H' v u} J rv q => ⟨v, H', J.os, J.bare, J.base, J.hok, rv, q⟩
  cases fl with
  | ret u =>
    obtain ⟨v, σ', H', J, rv, q⟩ := hs
    exact fin J rv q
  | next =>
    obtain ⟨σ', H', J, q⟩ := hs
    exact fin (v := V.non) (u := Value.none) J rfl q
  | brk =>
    obtain ⟨_, _, _, q⟩ := hs
    exact False.elim q
  | cont =>
    obtain ⟨_, _, _, q⟩ := hs
    exact False.elim q
end L2

namespace L2
open PySem PySem.Spec PyProof.Rows
section
variable {X : Cx} {x : Str} {p pos : Pos} {e : Expr} {es : List Expr} {t : TA} {id T : String} {r : List V → Hp → VK → Prop}

def tCB (r : List V → Hp → VK → Prop) (t : TA) : TE := fun σ H Q => t σ H fun vs H1 => r vs H1 Q
theorem pe_callB (hc : CallR X (.builtin id) r) (hg : Gl X x) (hm : X.mg x = none) (hv : bootBuiltins x = some (.builtin id)) (ha : PA X (e :: es) t) (hn : x ≠ "__name__" := by decide) (hdb : (x == ("__debug__" : Str)) = false := by decide)
    (he : starEach (e :: es) X.env = (false, eval e X.env) :: starEach es X.env := by rfl) (hpl : (backTo pos (starEach es X.env)).any (·.1) = false := by rfl) : PE X (.Call (.Name x p) (e :: es) [] pos) (tCB r t) := by
  intro pins s σ H Q I h
  refine wpAny_Call_Name_kw (ld_blt I hg hm hv ?_ hn hdb)
  exact PyProof.Rows.callWith_builtin1 (thn (ha pos pins s σ H _ I h) fun us s1 ⟨vs, H1, I1, r1, q1⟩ => hc pins s1 σ H1 vs us Q I1 r1 q1) he hpl
theorem pe_callTy (hc : CallR X (.type T) r) (hg : Gl X x) (hm : X.mg x = none) (hv : bootBuiltins x = some (.type T)) (ha : PA X (e :: es) t) (hn : x ≠ "__name__" := by decide) (hdb : (x == ("__debug__" : Str)) = false := by decide)
    (he : starEach (e :: es) X.env = (false, eval e X.env) :: starEach es X.env := by rfl) (hpl : (backTo pos (starEach es X.env)).any (·.1) = false := by rfl) : PE X (.Call (.Name x p) (e :: es) [] pos) (tCB r t) := by
  intro pins s σ H Q I h
  refine wpAny_Call_Name_kw (ld_blt I hg hm hv ?_ hn hdb)
  exact PyProof.Rows.callWith_type1 (thn (ha pos pins s σ H _ I h) fun us s1 ⟨vs, H1, I1, r1, q1⟩ => hc pins s1 σ H1 vs us Q I1 r1 q1) he hpl
end
end L2

namespace HT
open PySem PyProof.Rows

def lexLt : List Int → List Int → Bool
  | [], [] => false
  | [], _ :: _ => true
  | _ :: _, [] => false
  | x :: xs, y :: ys => if x = y then lexLt xs ys else decide (x < y)
section
open PySem.SeqAt
open PySem.AutoSeq1 (wpAny_loadPart')
open PySem.MeetsSeq PySem.MeetsSeq2 PySem.MeetsSeq3

end

section
variable {prog : Program} {w : World} {A : Around} {E : Value → Shared → Prop} {s : Shared}

def sIx (n d : Nat) : Option Int → Nat
  | none => d
  | some v => if v < 0 then (v + (n : Int)).toNat else min v.toNat n
end
end HT

namespace L2
open PySem PySem.Spec PyProof.Rows

abbrev TO := St → Hp → (Option Int → Hp → Prop) → Prop
def PO (X : Cx) (e : Option Expr) (t : TO) : Prop :=
  ∀ (pins : List (Addr × Obj)) (s : Shared) (σ : St) (H : Hp) (Q : Option Int → Hp → Prop), Inv X pins σ H s → t σ H Q →
    wpAny (model X.prog X.w) X.A (evalPart e X.env) (fun u s' => ∃ o H', Inv X pins σ H' s' ∧ IsPart u o ∧ Q o H') X.xe s
def tNoPart : TO := fun _ H Q => Q none H
def tPart (t : TE) : TO := fun σ H Q => t σ H fun x H1 => ∃ i, x = .int i ∧ Q (some i) H1

section
variable {X : Cx} {e : Expr} {te : TE} {lo hi : Option Expr} {tl th : TO} {pos p2 : Pos}

theorem po_none : PO X none tNoPart := by
  intro pins s σ H Q I h
  rw [evalPart_none]
  exact wpAny_pure ⟨none, H, I, .none, h⟩
theorem po_some (h : PE X e te) : PO X (some e) (tPart te) := by
  intro pins s σ H Q I hw
  rw [evalPart_some]
  refine thn (h pins s σ H _ I hw) fun u s1 ⟨x, H1, I1, r1, q1⟩ => ?_
  obtain ⟨i, rfl, q⟩ := q1
  obtain ⟨t, rfl⟩ := r1
  exact ⟨some i, H1, I1, .int i t, q⟩

def SlR (X : Cx) (r : V → Option Int → Option Int → Hp → VK → Prop) : Prop :=
  ∀ (pins : List (Addr × Obj)) (s : Shared) (σ : St) (H : Hp) (x : V) (v vl vu : Value) (lo hi : Option Int) (sl : Addr) (Q : VK), Inv X pins σ H s → RelV x v → s.heap.IsSliceOf sl vl vu .none → IsPart vl lo → IsPart vu hi → r x lo hi H Q →
    ∃ T id, typeLookup (.type T) "__getitem__" = pure (some (.builtin id)) ∧ s.TypeIs v T ∧ wpAny (model X.prog X.w) X.A (getItem v (.ref sl)) (EP X pins σ Q) X.xe s
theorem SlR.or {r r' : V → Option Int → Option Int → Hp → VK → Prop} (h : SlR X r) (h' : SlR X r') : SlR X (fun x lo hi H Q => r x lo hi H Q ∨ r' x lo hi H Q) := by
  intro pins s σ H x v vl vu lo hi sl Q I rx hs pl pu q
  rcases q with q | q
  · exact h pins s σ H x v vl vu lo hi sl Q I rx hs pl pu q
  · exact h' pins s σ H x v vl vu lo hi sl Q I rx hs pl pu q
def tSl (r : V → Option Int → Option Int → Hp → VK → Prop) (te : TE) (tl th : TO) : TE := fun σ H Q => te σ H fun x H1 => tl σ H1 fun l H2 => th σ H2 fun u H3 => r x l u H3 Q
theorem pe_slice {r : V → Option Int → Option Int → Hp → VK → Prop} (hr : SlR X r) (he : PE X e te) (hl : PO X lo tl) (hu : PO X hi th) : PE X (.Subscript e (.Slice lo hi none p2) pos) (tSl r te tl th) := by
  intro pins s σ H Q I h
  refine Subscript_ (thn (he pins s σ H _ I h) fun v s1 ⟨x, H1, I1, r1, q1⟩ => ?_)
  refine wpAny_Slice (thn (hl pins s1 σ H1 _ I1 q1) fun vl s2 ⟨l, H2, I2, pl, q2⟩ => thn (hu pins s2 σ H2 _ I2 q2) fun vu s3 ⟨u, H3, I3, pu, q3⟩ => ?_)
  rw [evalPart_none]
  refine wpAny_pure ?_
  have I4 : Inv X pins σ H3 { s3 with heap := s3.heap.push { cls := .type "slice", data := .fields #[vl, vu, .none] } } := I3.kept (t' := s3.toks) fun b ob q => Heap.get?_push_of_some _ q
  obtain ⟨T, id, hT, ht, hg⟩ := hr pins { s3 with heap := s3.heap.push { cls := .type "slice", data := .fields #[vl, vu, .none] } } σ H3 x v vl vu l u s3.heap.objs.size Q I4 r1 (Heap.IsSliceOf.new ..) pl pu q3
  show wpAny (model X.prog X.w) X.A (subscriptTail e (.Slice lo hi none p2) v (.ref s3.heap.objs.size)) (EP X pins σ Q) X.xe { s3 with heap := s3.heap.push { cls := .type "slice", data := .fields #[vl, vu, .none] } }
  exact tail_any (ops := [.ref s3.heap.objs.size, v]) ht hT hg (by with_unfolding_all rfl)

def cutV (xs : List V) (lo hi : Option Int) : List V := (xs.drop (HT.sIx xs.length 0 lo)).take (HT.sIx xs.length xs.length hi - HT.sIx xs.length 0 lo)
theorem cutV_length (xs : List V) (lo hi : Option Int) : (cutV xs lo hi).length ≤ xs.length := by
  unfold cutV
  rw [List.length_take, List.length_drop]
  omega
def rSlT (K : PySem.W.Frag) : V → Option Int → Option Int → Hp → VK → Prop := fun x lo hi H Q => ∃ a xs, x = .ref a ∧ SqT K H a xs ∧
  ¬ (HT.sIx xs.length 0 lo = 0 ∧ HT.sIx xs.length xs.length hi = xs.length) ∧ ∀ p, H p = none → Q (.ref p) (upd H p (.tup (cutV xs lo hi)))
def rLtT (K : PySem.W.Frag) : R2 := fun x y H Q => ∃ a b ns ms, x = .ref a ∧ y = .ref b ∧ SqT K H a (ns.map V.int) ∧ SqT K H b (ms.map V.int) ∧ Q (.bl (HT.lexLt ns ms)) H
def rCatT (K : PySem.W.Frag) : R2 := fun x y H Q => ∃ a b xs ys, x = .ref a ∧ y = .ref b ∧ SqT K H a xs ∧ SqT K H b ys ∧ xs ≠ [] ∧ xs.length + ys.length ≤ sizeLine ∧
  (ys = [] → Q (.ref a) H) ∧ (ys ≠ [] → ∀ p, H p = none → Q (.ref p) (upd H p (.tup (xs ++ ys))))
end
end L2

namespace L2
open PySem PySem.Spec PyProof.Rows

def ixN (n : Nat) (i : Int) : Option Nat := if 0 ≤ i then (if i < n then some i.toNat else none) else if -(n : Int) ≤ i then some (i + n).toNat else none
def atI {α : Type} (xs : List α) (i : Int) : Option α := (ixN xs.length i).bind fun j => xs[j]?
theorem ixN_seq {n : Nat} {i : Int} {j : Nat} (h : ixN n i = some j) : seqIndex? i n = some j ∧ j < n ∧ -(n : Int) ≤ i ∧ i < n := by
  unfold ixN at h
  by_cases h0 : 0 ≤ i
  · rw [if_pos h0] at h
    by_cases h1 : i < n
    · rw [if_pos h1] at h
      have e : i.toNat = j := Option.some.inj h
      exact ⟨by rw [seqIndex_of h0 h1, e], by omega, by omega, h1⟩
    · rw [if_neg h1] at h; cases h
  · rw [if_neg h0] at h
    by_cases h1 : -(n : Int) ≤ i
    · rw [if_pos h1] at h
      have e : (i + n).toNat = j := Option.some.inj h
      exact ⟨by rw [seqIndex_neg (by omega) h1, e], by omega, h1, by omega⟩
    · rw [if_neg h1] at h; cases h
theorem atI_get {α : Type} {xs : List α} {i : Int} {v : α} (h : atI xs i = some v) : ∃ j, seqIndex? i xs.length = some j ∧ xs[j]? = some v ∧ j < xs.length ∧ -(xs.length : Int) ≤ i ∧ i < xs.length := by
  unfold atI at h
  cases e : ixN xs.length i with
  | none => rw [e] at h; cases h
  | some j =>
    rw [e] at h
    obtain ⟨h1, h2, h3, h4⟩ := ixN_seq e
    exact ⟨j, h1, h, h2, h3, h4⟩
theorem atI_nat {α : Type} {xs : List α} {j : Nat} {v : α} (h : xs[j]? = some v) : atI xs (j : Int) = some v := by
  have hj : j < xs.length := (List.getElem?_eq_some_iff.mp h).1
  have e : ixN xs.length (j : Int) = some j := by
    unfold ixN
    rw [if_pos (by omega), if_pos (by omega)]; simp
  unfold atI; rw [e]; exact h
def PlainIx (b : Expr) : Prop := ∀ o i, subscripted b false o i = operate [o, i] (getItem o i)
def IxR (X : Cx) (r : R2) : Prop :=
  ∀ (value slice : Expr) (pins : List (Addr × Obj)) (s : Shared) (σ : St) (H : Hp) (x y : V) (v u : Value) (Q : VK), Inv X pins σ H s → RelV x v → RelV y u → r x y H Q →
    subscripted slice false v u = operate [v, u] (getItem v u) → wpAny (model X.prog X.w) X.A (subscriptTail value slice v u) (EP X pins σ Q) X.xe s
def MtR (X : Cx) (id : String) (r : V → List V → Hp → VK → Prop) : Prop :=
  ∀ (pins : List (Addr × Obj)) (s : Shared) (σ : St) (H : Hp) (x : V) (xs : List V) (v : Value) (us : List Value) (Q : VK), Inv X pins σ H s → RelV x v → Vals xs us → r x xs H Q →
    wpAny (model X.prog X.w) X.A (call (.builtin id) (v :: us)) (EP X pins σ Q) X.xe s
section
variable {X : Cx} {a b : Expr} {ta tb : TE} {pos : Pos}
theorem IxR.or {r r' : R2} (h : IxR X r) (h' : IxR X r') : IxR X (fun x y H Q => r x y H Q ∨ r' x y H Q) := by
  intro value slice pins s σ H x y v u Q I rx ry q hs
  rcases q with q | q
  · exact h value slice pins s σ H x y v u Q I rx ry q hs
  · exact h' value slice pins s σ H x y v u Q I rx ry q hs
theorem MtR.or {id : String} {r r' : V → List V → Hp → VK → Prop} (h : MtR X id r) (h' : MtR X id r') : MtR X id (fun x xs H Q => r x xs H Q ∨ r' x xs H Q) := by
  intro pins s σ H x xs v us Q I rx rs q
  rcases q with q | q
  · exact h pins s σ H x xs v us Q I rx rs q
  · exact h' pins s σ H x xs v us Q I rx rs q
theorem pe_ix {r : R2} (hr : IxR X r) (ha : PE X a ta) (hb : PE X b tb) (hs : PlainIx b) : PE X (.Subscript a b pos) (tOp r ta tb) := by
  intro pins s σ H Q I h
  exact Subscript_ (binT ha hb I h fun v u s2 x y H2 I2 rx ry q => hr a b pins s2 σ H2 x y v u Q I2 rx ry q (hs _ _))

def rIxL (K : PySem.W.Frag) : R2 := fun x y H Q => ∃ p xs i v, x = .ref p ∧ y = .int i ∧ SqL K H p xs ∧ atI xs i = some v ∧ Q v H
def rIxT (K : PySem.W.Frag) : R2 := fun x y H Q => ∃ p xs i v, x = .ref p ∧ y = .int i ∧ SqT K H p xs ∧ atI xs i = some v ∧ Q v H
def rIxS : R2 := fun x y H Q => ∃ z i c, x = .str z ∧ y = .int i ∧ z.length ≤ sizeLine ∧ atI z.cps.toList i = some c ∧ Q (.str ⟨#[c]⟩) H
theorem ix_list : IxR X (rIxL X.K) := by
  intro value slice pins s σ H x y v u Q I rx ry h hs
  obtain ⟨p, xs, i, z, rfl, rfl, hq, he, q⟩ := h
  cases rx
  obtain ⟨t, rfl⟩ := ry
  obtain ⟨its, r, pl, hz⟩ := I.list hq
  obtain ⟨j, h1, h2, h3, h4, h5⟩ := atI_get he
  obtain ⟨w, ew, rw'⟩ := r.get h2
  have hl := r.length
  have hn := line63
  have fin : EP X pins σ Q w s := ⟨z, H, I, rw', q⟩
  by_cases h0 : 0 ≤ i
  · have hj : i.toNat = j := by
      rw [seqIndex_of h0 h5] at h1
      exact Option.some.inj h1
    exact item_listR pl.isList h0 (by omega) (by rw [hj]; simpa using ew) fin hs
  · have hj : (i + (its.toArray.size : Int)).toNat = j := by
      rw [seqIndex_neg (by omega) h4] at h1
      rw [List.size_toArray, ← hl]
      exact Option.some.inj h1
    exact subscriptTail_builtinR (x := w) pl.isList.typeIs slot_list_getitem.lookup
      (wpAny_getItem_list_neg (Q := fun r s' => r = w ∧ EP X pins σ Q r s') pl.isList (by omega) (by rw [List.size_toArray] <;> omega) (by omega) (by rw [hj]; simpa using ew) ⟨rfl, fin⟩) hs
theorem ix_tup : IxR X (rIxT X.K) := by
  intro value slice pins s σ H x y v u Q I rx ry h hs
  obtain ⟨p, xs, i, z, rfl, rfl, hq, he, q⟩ := h
  cases rx
  obtain ⟨t, rfl⟩ := ry
  obtain ⟨its, r, pl, hz⟩ := I.tuple hq
  obtain ⟨j, h1, h2, h3, h4, h5⟩ := atI_get he
  obtain ⟨w, ew, rw'⟩ := r.get h2
  have hl := r.length
  have hn := line63
  have fin : EP X pins σ Q w s := ⟨z, H, I, rw', q⟩
  exact subscriptTail_builtinR (x := w) pl.typeIs slot_tuple_getitem.lookup
    (getItem_tuple (j := j) (Q := fun r s' => r = w ∧ EP X pins σ Q r s') pl (by omega) (by omega) (by rw [List.size_toArray, ← hl]; exact h1) (by simpa using ew) ⟨rfl, fin⟩) hs
theorem ix_str : IxR X rIxS := by
  intro value slice pins s σ H x y v u Q I rx ry h hs
  obtain ⟨z, i, c, rfl, rfl, hz, he, q⟩ := h
  obtain ⟨t, rfl⟩ := rx
  obtain ⟨t', rfl⟩ := ry
  obtain ⟨j, h1, h2, h3, h4, h5⟩ := atI_get he
  have hl : z.cps.toList.length = z.length := by simp [Str.length]
  rw [hl] at h1 h4 h5
  have hn := line63
  exact tail_any (typeIs_str s z t) slot_str_getitem.lookup (getItem_str (c := c) (by
    have e1 : decide (i < -(2 ^ 63 : Int)) = false := decide_eq_false (by omega)
    have e2 : decide (i ≥ 2 ^ 63) = false := decide_eq_false (by omega)
    rw [e1, e2, Bool.or_false]) (by rw [h1]; simpa using h2) ⟨.str ⟨#[c]⟩, H, I.tok _, ⟨_, rfl⟩, q⟩) hs
def rIx (K : PySem.W.Frag) : R2 := fun x y H Q => rIxL K x y H Q ∨ rIxT K x y H Q ∨ rIxS x y H Q
theorem Inv.lst {pins : List (Addr × Obj)} {σ : St} {H : Hp} {s : Shared} {p : Addr} {xs : List V} (I : Inv X pins σ H s) (h : H p = some (.lst xs)) :
    ∃ (its : List Value) (n : Nat), Vals xs its ∧ s.heap.get? p = some { cls := .type "list", data := .seq its.toArray n } ∧ xs.length ≤ sizeLine := by
  obtain ⟨z, its, n, r, e⟩ := I.hok p _ h
  exact ⟨its, n, r, e, z⟩
def rSetL : V → V → V → Hp → (Hp → Prop) → Prop := fun o i v H Q => ∃ p xs k j, o = .ref p ∧ i = .int k ∧ H p = some (.lst xs) ∧ ixN xs.length k = some j ∧ Q (upd H p (.lst (xs.set j v)))
theorem slice_bounds (lo hi : Option Int) (n : Nat) : (sliceBounds lo hi none n).1 = ((HT.sIx n 0 lo : Nat) : Int) ∧ (sliceBounds lo hi none n).2.1 = ((HT.sIx n n hi : Nat) : Int) ∧ (sliceBounds lo hi none n).2.2 = 1 := by
  refine ⟨?_, ?_, rfl⟩
  · cases lo with
    | none => simp [sliceBounds, HT.sIx]
    | some i =>
      simp only [sliceBounds, HT.sIx, Option.getD_none, show (1 : Int) > 0 by decide, if_true]
      by_cases h : i < 0
      · simp only [h, if_true] <;> omega
      · simp only [h, if_false] <;> omega
  · cases hi with
    | none => simp [sliceBounds, HT.sIx]
    | some i =>
      simp only [sliceBounds, HT.sIx, Option.getD_none, show (1 : Int) > 0 by decide, if_true]
      by_cases h : i < 0
      · simp only [h, if_true] <;> omega
      · simp only [h, if_false] <;> omega
theorem slicePick_cut (its : List Value) (lo hi : Option Int) : slicePick its.toArray lo hi none = ((its.drop (HT.sIx its.length 0 lo)).take (HT.sIx its.length its.length hi - HT.sIx its.length 0 lo)).toArray := by
  obtain ⟨h1, h2, h3⟩ := slice_bounds lo hi its.toArray.size
  unfold slicePick
  rw [h1, h2, h3]
  simp only [sliceRange_one, pick_run, List.size_toArray] <;> rfl
def rSlL (K : PySem.W.Frag) : V → Option Int → Option Int → Hp → VK → Prop := fun x lo hi H Q => ∃ a xs, x = .ref a ∧ SqL K H a xs ∧ ∀ p, H p = none → Q (.ref p) (upd H p (.lst (cutV xs lo hi)))
theorem sl_list : SlR X (rSlL X.K) := by
  intro pins s σ H x v vl vu lo hi sl Q I rx hs pl pu h
  obtain ⟨a, xs, rfl, hx, q⟩ := h
  cases rx
  obtain ⟨its, r, ht, hz⟩ := I.list hx
  have hlen := r.length
  refine ⟨"list", _, slot_list_getitem.lookup, ht.isList.typeIs, ?_⟩
  refine wpAny_getItem_list_slice ht.isList hs pl pu .none (by simp) ?_ (by rw [List.size_toArray] <;> omega)
  rw [slicePick_cut, ← hlen]
  refine ⟨.ref s.heap.objs.size, _, I.laid (t' := s.toks) (o := .lst (cutV xs lo hi)) (fun b ob q => Heap.get?_push_of_some _ q) (Nat.le_refl _) ?_, rfl, q _ (I.hok.fresh (Nat.le_refl _))⟩
  exact ⟨Nat.le_trans (cutV_length xs lo hi) hz, _, 0, (r.drop (HT.sIx xs.length 0 lo)).take (HT.sIx xs.length xs.length hi - HT.sIx xs.length 0 lo), Heap.get?_push_size _ rfl⟩

def flatV : V → Bool
  | .non => true
  | .bl _ => true
  | .int _ => true
  | .str _ => true
  | _ => false
def eqV : V → V → Bool
  | .non, .non => true
  | .bl a, .bl b => a == b
  | .bl a, .int b => (if a then 1 else 0) == b
  | .int a, .bl b => a == (if b then 1 else 0)
  | .int a, .int b => a == b
  | .str a, .str b => a == b
  | _, _ => false
theorem eqAt_V {A : Around} {s : Shared} {y x : V} {u v : Value} (ry : RelV y u) (rx : RelV x v) (fy : flatV y = true) (fx : flatV x = true) : SeqAt.EqAt A s u v (eqV y x) := by
  cases y with
  | non =>
    cases ry
    cases x with
    | non => cases rx; exact SeqAt.EqAt.same _
    | bl b => cases rx; exact SeqAt.EqAt.none_bool b
    | int b => obtain ⟨t, rfl⟩ := rx; exact SeqAt.EqAt.none_int b t
    | str b => obtain ⟨t, rfl⟩ := rx; exact SeqAt.EqAt.none_str b t
    | _ => exact absurd (show false = true from fx) Bool.false_ne_true
  | bl a =>
    cases ry
    cases x with
    | non => cases rx; exact SeqAt.EqAt.bool_none a
    | bl b => cases rx; exact SeqAt.EqAt.bool_bool a b
    | int b => obtain ⟨t, rfl⟩ := rx; exact SeqAt.EqAt.bool_int a b t
    | str b => obtain ⟨t, rfl⟩ := rx; exact SeqAt.EqAt.bool_str a b t
    | _ => exact absurd (show false = true from fx) Bool.false_ne_true
  | int a =>
    obtain ⟨t', rfl⟩ := ry
    cases x with
    | non => cases rx; exact SeqAt.EqAt.int_none a t'
    | bl b => cases rx; exact SeqAt.EqAt.int_bool a t' b
    | int b => obtain ⟨t, rfl⟩ := rx; exact SeqAt.EqAt.int_int a t' b t
    | str b => obtain ⟨t, rfl⟩ := rx; exact SeqAt.EqAt.int_str a t' b t
    | _ => exact absurd (show false = true from fx) Bool.false_ne_true
  | str a =>
    obtain ⟨t', rfl⟩ := ry
    cases x with
    | non => cases rx; exact SeqAt.EqAt.str_none a t'
    | bl b => cases rx; exact SeqAt.EqAt.str_bool a t' b
    | int b => obtain ⟨t, rfl⟩ := rx; exact SeqAt.EqAt.str_int a t' b t
    | str b => obtain ⟨t, rfl⟩ := rx; exact SeqAt.EqAt.str_str a t' b t
    | _ => exact absurd (show false = true from fx) Bool.false_ne_true
  | _ => exact absurd (show false = true from fy) Bool.false_ne_true
def eqU (x : V) (u : Value) : Bool := match u with
  | .none => eqV .non x
  | .bool b => eqV (.bl b) x
  | .int i _ => eqV (.int i) x
  | .str z _ => eqV (.str z) x
  | _ => false
theorem eqU_of {x y : V} {u : Value} (r : RelV y u) (f : flatV y = true) : eqU x u = eqV y x := by
  cases y with
  | non => cases r; rfl
  | bl b => cases r; rfl
  | int i => obtain ⟨t, rfl⟩ := r; rfl
  | str z => obtain ⟨t, rfl⟩ := r; rfl
  | _ => exact absurd (show false = true from f) Bool.false_ne_true
theorem mem_eqAt {A : Around} {s : Shared} {x : V} {v : Value} (rx : RelV x v) (fx : flatV x = true) : ∀ {xs : List V} {us : List Value}, Vals xs us → xs.all flatV = true → ∀ u ∈ us, SeqAt.EqAt A s u v (eqU x u)
  | _, _, .nil, _ => fun u hu => by cases hu
  | y :: xs, u :: us, .cons r t, f => fun u' hu => by
    rw [List.all_cons, Bool.and_eq_true] at f
    rcases List.mem_cons.mp hu with rfl | hu
    · rw [eqU_of r f.1]; exact eqAt_V r rx f.1 fx
    · exact mem_eqAt rx fx t f.2 u' hu
def inV (x : V) (xs : List V) : Bool := xs.any fun y => eqV y x
def rIn (K : PySem.W.Frag) (neg : Bool) : R2 := fun x y H Q => ∃ p xs, y = .ref p ∧ (SqL K H p xs ∨ SqT K H p xs) ∧ flatV x = true ∧ xs.all flatV = true ∧ Q (.bl (if neg then !inV x xs else inV x xs)) H
theorem call_len_seq : CallR X (.builtin "len") (fun xs H Q => ∃ p ys, xs = [.ref p] ∧ (SqL X.K H p ys ∨ SqT X.K H p ys) ∧ Q (.int ys.length) H) := by
  intro pins s σ H xs us Q I r h
  obtain ⟨p, ys, rfl, hq, q⟩ := h
  obtain ⟨u, rfl, rx⟩ := vals1 r
  cases rx
  have hn := line63
  rcases hq with hq | hq
  · obtain ⟨its, r', pl, hz⟩ := I.list hq
    have hlen := r'.length
    exact Calls.call_len_list pl.isList (by simp only [List.size_toArray] <;> omega) ⟨.int ys.length, H, I.tok _, ⟨s.toks + 1, by rw [List.size_toArray, hlen]⟩, q⟩
  · obtain ⟨its, r', pl, hz⟩ := I.tuple hq
    have hlen := r'.length
    exact len_tuple pl (by simp only [List.size_toArray] <;> omega) ⟨.int ys.length, H, I.tok _, ⟨s.toks + 1, by rw [List.size_toArray, hlen]⟩, q⟩
theorem call_len_str : CallR X (.builtin "len") (fun xs H Q => ∃ z, xs = [.str z] ∧ z.length ≤ sizeLine ∧ Q (.int z.length) H) := by
  intro pins s σ H xs us Q I r h
  obtain ⟨z, rfl, hz, q⟩ := h
  obtain ⟨u, rfl, t, rfl⟩ := vals1 r
  have hn := line63
  exact len_str (by omega) ⟨.int z.length, H, I.tok _, ⟨_, rfl⟩, q⟩
theorem CallR.or {f : Value} {r r' : List V → Hp → VK → Prop} (h : CallR X f r) (h' : CallR X f r') : CallR X f (fun xs H Q => r xs H Q ∨ r' xs H Q) := by
  intro pins s σ H xs us Q I rs q
  rcases q with q | q
  · exact h pins s σ H xs us Q I rs q
  · exact h' pins s σ H xs us Q I rs q
def tyV (K : PySem.W.Frag) (T : String) (x : V) (H : Hp) : Prop := match x with
  | .str _ => T = "str"
  | .int _ => T = "int"
  | .ref p => (T = "list" ∧ ∃ xs, SqL K H p xs) ∨ (T = "tuple" ∧ ∃ o, K.lookup p = some o ∧ o.cls = .type "tuple" ∧ o.dict = none) ∨
      (T = "dict" ∧ ((∃ kvs, H p = some (.dK kvs)) ∨ ∃ kvs, H p = some (.dT kvs))) ∨ (T = "set" ∧ ∃ S n, H p = some (.set S n))
  | _ => False
theorem tyV_is {pins : List (Addr × Obj)} {σ : St} {H : Hp} {s : Shared} {T : String} {x : V} {v : Value} (I : Inv X pins σ H s) (r : RelV x v) (ty : tyV X.K T x H) :
    s.TypeIs v T ∧ ∀ a, v = .ref a → ∃ ob, s.heap.get? a = some ob ∧ ob.dict = none := by
  cases x with
  | str z =>
    obtain ⟨t, rfl⟩ := r
    cases (show T = "str" from ty)
    exact ⟨typeIs_str s z t, fun _ e => nomatch e⟩
  | int i =>
    obtain ⟨t, rfl⟩ := r
    cases (show T = "int" from ty)
    exact ⟨typeIs_int s i t, fun _ e => nomatch e⟩
  | ref p =>
    cases r
    rcases ty with ⟨rfl, xs, hq⟩ | ⟨rfl, o, hk, hc, hd⟩ | ⟨rfl, hk⟩ | ⟨rfl, S, n, hk⟩
    · obtain ⟨its, _, pl, _⟩ := I.list hq
      refine ⟨pl.isList.typeIs, fun a e => ?_⟩
      cases e
      obtain ⟨o, n, e, c, hd, _⟩ := pl
      exact ⟨o, e, hd⟩
    · refine ⟨⟨o, I.kIn p o hk, hc⟩, fun a e => ?_⟩
      cases e
      exact ⟨o, I.kIn _ o hk, hd⟩
    · have z : ∃ o, s.heap.get? p = some o ∧ o.ExactDict := by
        rcases hk with ⟨kvs, hk⟩ | ⟨kvs, hk⟩
        · obtain ⟨_, _, _, _, o, _, _, e, ex, _⟩ := I.hok p _ hk
          exact ⟨o, e, ex⟩
        · obtain ⟨_, _, _, _, o, _, _, e, ex, _⟩ := I.hok p _ hk
          exact ⟨o, e, ex⟩
      obtain ⟨o, e, ex⟩ := z
      refine ⟨⟨o, e, ex.1⟩, fun a e2 => ?_⟩
      cases e2
      exact ⟨o, e, ex.2.1⟩
    · obtain ⟨o, _, _, _, e, ex, _⟩ := I.hok p _ hk
      refine ⟨⟨o, e, ex.1⟩, fun a e2 => ?_⟩
      cases e2
      exact ⟨o, e, ex.2.1⟩
  | _ => exact False.elim ty
def tBM0 (K : PySem.W.Frag) (T : String) (r : V → List V → Hp → VK → Prop) (to : TE) : TE := fun σ H Q => to σ H fun x H1 => tyV K T x H1 ∧ r x [] H1 Q
def tBM (K : PySem.W.Frag) (T : String) (r : V → List V → Hp → VK → Prop) (to : TE) (t : TA) : TE := fun σ H Q => to σ H fun x H1 => tyV K T x H1 ∧ t σ H1 fun xs H2 => r x xs H2 Q
variable {o e : Expr} {es : List Expr} {to : TE} {t : TA} {name : Str} {apos cpos : Pos} {T id : String} {r : V → List V → Hp → VK → Prop}
theorem pe_bm (pa : PlainAttrs T) (slot : Slot T name id) (hty : typeOf (.builtin id) = pure (.type "method_descriptor")) (hm : MtR X id r) (ho : PE X o to) (ha : PA X (e :: es) t)
    (hbase : attributeBase o name X.env (eval o X.env) = eval o X.env := by rfl)
    (hfew : ((backTo cpos (starEach (e :: es) X.env)).all (fun x => !x.1) && (backToKw cpos (keywordEach [] X.env)).all (fun x => x.1.isSome)
      && decide ((e :: es).length + ([] : List Keyword).length + (if ([] : List Keyword).isEmpty then 0 else 1) < 30)) = true := by rfl)
    (hline : (apos.endLine == cpos.line) = true := by rfl) (hs : starEach (e :: es) X.env = (false, eval e X.env) :: starEach es X.env := by rfl) (hplain : (backTo cpos (starEach es X.env)).any (·.1) = false := by rfl) :
    PE X (.Call (.Attribute o name apos) (e :: es) [] cpos) (tBM X.K T r to t) := by
  intro pins s σ H Q I h
  refine wpAny_Call_method_late hbase hfew hline rfl (thn (ho pins s σ H _ I h) fun v s1 ⟨x, H1, I1, r1, ty, q1⟩ => ?_)
  obtain ⟨h1, h2⟩ := tyV_is I1 r1 ty
  refine ⟨T, id, pa, slot, hty, h1, h2, ?_⟩
  have hA := ha cpos pins s1 σ H1 _ I1 q1
  rw [hs] at hA ⊢
  refine Calls.callWith_builtin (by show (false || (backTo cpos (starEach es X.env)).any (·.1)) = false; rw [hplain] <;> rfl) (Calls.evalArgs_plain ?_)
  exact thn hA fun us s2 ⟨vs, H2, I2, r2, q2⟩ => hm pins s2 σ H2 x vs v us Q I2 r1 r2 q2
end
end L2

namespace L2
open PySem PySem.Spec PyProof.Rows

def MtM (X : Cx) (id : String) (r : V → List V → Hp → VK → Prop) : Prop :=
  ∀ (pins : List (Addr × Obj)) (s : Shared) (σ : St) (H : Hp) (x : V) (xs : List V) (v : Value) (us : List Value) (Q : VK), Inv X pins σ H s → RelV x v → Vals xs us → r x xs H Q →
    wpAny (model X.prog X.w) X.A (call (.builtin id) (v :: us)) (EP X pins σ Q) X.xe s

theorem Vals.one : ∀ {x : V} {us : List Value}, Vals [x] us → ∃ u, us = [u] ∧ RelV x u
  | _, _, .cons r .nil => ⟨_, rfl, r⟩
theorem Vals.two : ∀ {x y : V} {us : List Value}, Vals [x, y] us → ∃ u v, us = [u, v] ∧ RelV x u ∧ RelV y v
  | _, _, _, .cons r (.cons q .nil) => ⟨_, _, rfl, r, q⟩
theorem Vals.zero : ∀ {us : List Value}, Vals [] us → us = []
  | _, .nil => rfl
theorem Vals.dropLast {xs : List V} {us : List Value} (h : Vals xs us) : Vals xs.dropLast us.dropLast := by
  induction h with
  | nil => exact .nil
  | cons r t ih =>
    cases t with
    | nil => exact .nil
    | cons q t' => exact .cons r ih
theorem Vals.eraseIdx : ∀ {xs : List V} {us : List Value} (i : Nat), Vals xs us → Vals (xs.eraseIdx i) (us.eraseIdx i)
  | _, _, _, .nil => .nil
  | _, _, 0, .cons _ t => t
  | _, _, i + 1, .cons r t => .cons r (Vals.eraseIdx i t)
theorem Vals.reverse {xs : List V} {us : List Value} (h : Vals xs us) : Vals xs.reverse us.reverse := by
  induction h with
  | nil => exact .nil
  | cons r t ih => rw [List.reverse_cons, List.reverse_cons]; exact Vals.append ih (.cons r .nil)
section
variable {X : Cx} {pins : List (Addr × Obj)} {σ : St} {H : Hp} {s : Shared} {l b : Addr} {xs ys zs : List V}

theorem Inv.lset {its its' : List Value} {n : Nat} {f : Array Value → Array Value} {t' : Nat} (I : Inv X pins σ H s) (hH : H l = some (.lst xs))
    (e : s.heap.get? l = some { cls := .type "list", data := .seq its.toArray n }) (hf : f its.toArray = its'.toArray) (hv : Vals ys its') (hz : ys.length ≤ sizeLine) :
    Inv X pins σ (upd H l (.lst ys)) { s with heap := s.heap.update l (Obj.mapSeq f), toks := t' } := by
  have q := PySem.IsL.update e f
  rw [hf] at q
  refine I.write (x := l) (e := l) (by rw [hH]; exact trivial) (.inl rfl) (fun b' u hb hu => (Heap.get?_update_other s.heap (Obj.mapSeq f) (Ne.symm hb)).trans hu) ⟨_, q⟩ ?_
  exact ⟨hz, its', _, hv, q⟩
theorem Inv.lnew {its : List Value} {t' : Nat} (I : Inv X pins σ H s) (hv : Vals ys its) (hz : ys.length ≤ sizeLine) :
    Inv X pins σ (upd H s.heap.objs.size (.lst ys)) { s with heap := s.heap.push { cls := .type "list", data := .seq its.toArray }, toks := t' } :=
  I.laid (fun _ _ q => Heap.get?_push_of_some _ q) (Nat.le_refl _) ⟨hz, its, 0, hv, Heap.get?_push_size _ rfl⟩
theorem Inv.fresh (I : Inv X pins σ H s) : H s.heap.objs.size = none := I.hok.fresh (Nat.le_refl _)
theorem Inv.lstM (I : Inv X pins σ H s) (hH : H l = some (.lst xs)) : xs.length ≤ sizeLine ∧ ∃ (its : List Value) (n : Nat), Vals xs its ∧ xs.length = its.length ∧ s.heap.get? l = some { cls := .type "list", data := .seq its.toArray n } := by
  obtain ⟨z, its, n, r, e⟩ := I.hok l _ hH
  exact ⟨z, its, n, r, r.length, e⟩

end

section
variable {X : Cx}

def rAppend : V → List V → Hp → VK → Prop := fun x vs H Q => ∃ l xs y, x = .ref l ∧ vs = [y] ∧ H l = some (.lst xs) ∧ xs.length < sizeLine ∧ Q .non (upd H l (.lst (xs ++ [y])))
theorem mt_append : MtM X "list.append" rAppend := by
  intro pins s σ H x vs v us Q I rx rv h
  obtain ⟨l, xs, y, rfl, rfl, hH, hz, q⟩ := h
  cases rx
  obtain ⟨u, rfl, ru⟩ := rv.one
  obtain ⟨z, its, n, r, hl, e⟩ := I.lstM hH
  refine call_meets F.slot_list_append ⟨_, e, rfl⟩ F.entry_list_append (F.args_list_append_2 _ _) (PySem.list_append l its.toArray n u (by rw [List.size_toArray]; omega)) ⟨e, ?_⟩
  refine ⟨.non, _, I.lset (its' := its ++ [u]) hH e (by simp) (r.append (.cons ru .nil)) ?_, rfl, q⟩
  rw [List.length_append, List.length_singleton]
  omega

def rExtend : V → List V → Hp → VK → Prop := fun x vs H Q => ∃ l b xs zs, x = .ref l ∧ vs = [.ref b] ∧ H l = some (.lst xs) ∧ H b = some (.lst zs) ∧ xs.length + zs.length ≤ sizeLine ∧ Q .non (upd H l (.lst (xs ++ zs)))
def rPop : V → List V → Hp → VK → Prop := fun x vs H Q => ∃ l xs y, x = .ref l ∧ vs = [] ∧ H l = some (.lst xs) ∧ xs[xs.length - 1]? = some y ∧ Q y (upd H l (.lst xs.dropLast))
def rPopAt : V → List V → Hp → VK → Prop := fun x vs H Q => ∃ l xs i k y, x = .ref l ∧ vs = [.int i] ∧ H l = some (.lst xs) ∧ -(2 ^ 63) ≤ i ∧ i < 2 ^ 63 ∧ seqIndex? i xs.length = some k ∧ xs[k]? = some y ∧ Q y (upd H l (.lst (xs.eraseIdx k)))
def rReverse : V → List V → Hp → VK → Prop := fun x vs H Q => ∃ l xs, x = .ref l ∧ vs = [] ∧ H l = some (.lst xs) ∧ Q .non (upd H l (.lst xs.reverse))
def rClear : V → List V → Hp → VK → Prop := fun x vs H Q => ∃ l xs, x = .ref l ∧ vs = [] ∧ H l = some (.lst xs) ∧ Q .non (upd H l (.lst []))
def rCat : R2 := fun x y H Q => ∃ l b xs zs, x = .ref l ∧ y = .ref b ∧ H l = some (.lst xs) ∧ H b = some (.lst zs) ∧ xs.length + zs.length ≤ sizeLine ∧ ∀ p, H p = none → Q (.ref p) (upd H p (.lst (xs ++ zs)))
theorem op_cat : OpR X (binaryOp .Add) rCat := by
  intro pins s σ H x y v u Q I rx ry h
  obtain ⟨l, b, xs, zs, rfl, rfl, hH, hB, hz, q⟩ := h
  cases rx
  cases ry
  obtain ⟨z, its, n, r, hl, e⟩ := I.lstM hH
  obtain ⟨z2, its2, n2, r2, hl2, e2⟩ := I.lstM hB
  refine PySem.P.add_list e e2 ?_ (by rw [List.size_toArray, List.size_toArray]; omega)
  have ea : its.toArray ++ its2.toArray = (its ++ its2).toArray := by simp
  rw [ea]
  exact ⟨.ref _, _, I.lnew (t' := s.toks) (r.append r2) (by rw [List.length_append]; omega), rfl, q _ I.fresh⟩
def rRep : R2 := fun x y H Q => ∃ l k xs, x = .ref l ∧ y = .int k ∧ H l = some (.lst xs) ∧ -(2 ^ 63) ≤ k ∧ k < 2 ^ 63 ∧ xs.length * k.toNat ≤ sizeLine ∧
  ∀ p, H p = none → Q (.ref p) (upd H p (.lst (List.replicate k.toNat xs).flatten))
end

section
variable {prog : Program} {w : World} {A : Around} {E : Value → Shared → Prop} {s : Shared}
set_option maxRecDepth 100000 in
end

section
variable {X : Cx}
end
end L2

namespace Att
open PySem PySem.W PySem.Calls PyProof.Rows

theorem ints_of_wellAll {P : Params} {h : Heap} : ∀ (ns : List Int) (vs : List Value), WellAll P h vs (ns.map WData.int) → IntsAre vs ns := by
  intro ns
  induction ns with
  | nil =>
    intro vs w
    rw [List.map_nil] at w
    cases w
    exact .nil
  | cons n ns ih =>
    intro vs w
    rw [List.map_cons] at w
    cases w with
    | cons a b =>
      cases a
      exact .cons _ _ (ih _ b)

theorem script_of {l : OpenLaw} {n : Nat} (hn : l.most = some n) {P : Params} {h : Heap} {args : List WData} {vals : List Value}
    (hpre : l.row.toRowW.claim.pre args = true) (hwl : WellAll P h vals args) :
    ∃ a vs ns, vals = [Value.ref a] ∧ args = [WData.list (ns.map WData.int)] ∧ h.get? a = some { cls := .type "list", data := .seq vs.toArray } ∧ IntsAre vs ns ∧ ns.length ≤ n := by
  have hsh : WShape.hasAll [] args [.list .int] = true := (pre_splitW hpre).1
  have hc : l.pre.holds [] { args := args } = true := (pre_splitW hpre).2
  obtain ⟨d, r, rfl, h1, h2⟩ := hasAllW_cons hsh
  obtain rfl := hasAllW_nil h2
  obtain ⟨xs, rfl, h3⟩ := hasW_list h1
  obtain ⟨ns, rfl⟩ := items_int h3
  have hlen : ns.length ≤ n := by
    unfold OpenLaw.pre at hc
    have h4 : (WTm.not (.lt (.lit (.int (n : Int))) (.len (.arg 0)))).holds [] { args := [.list (ns.map .int)] } = true := by
      have h4 := (holds_andW hc).1
      rw [hn] at h4
      exact h4
    have h5 := condW_of h4 (w_not (w_lt w_lit (w_len_list (w_arg rfl))))
    rw [List.length_map] at h5
    refine Nat.le_of_not_lt fun q => ?_
    have q' : (n : Int) < ((ns.length : Nat) : Int) := by omega
    first
      | (rw [decide_eq_true q'] at h5; exact absurd h5 (by decide))
      | (simp at h5; omega)
  cases hwl with
  | cons w1 w2 =>
    cases w2
    cases w1 with
    | list ho hall => exact ⟨_, _, ns, rfl, rfl, ho, ints_of_wellAll ns _ hall, hlen⟩

theorem post_true (l : OpenLaw) (args : List WData) : l.row.toRowW.claim.post args (.bool true) args = true :=
  postW_of (r := l.row.toRowW) (X := (true == true))
    (show WShape.has [] (.bool true) .bool = true by first | rfl | decide | simp [WShape.has, WShape.arms, WShape.armsAll])
    (show (WTm.eq .res (.lit (.bool true))).value [] { args := args, res := some (.bool true), after := args } = some (.bool (true == true)) from w_eq_bool (w_res rfl) w_lit) rfl

section
variable {prog : Program} {w : World} {A : Around} {E : Value → Shared → Prop} {s : Shared} {K : Frag}

def noObjs (h : Heap) : Heap := { h with objs := #[] }
def ledger (h : Heap) (L d : Addr) : List (Addr × Obj) := (List.range h.objs.size).filterMap fun a => if a = L ∨ a = d then none else (h.get? a).map fun o => (a, o)
end
end Att

namespace L2
open PySem PySem.Spec PyProof.Rows

theorem vals_ints : ∀ {vs : List Value} {ns : List Int}, IntsAre vs ns → Vals (ns.map V.int) vs
  | _, _, .nil => .nil
  | _, _, .cons n t h => .cons ⟨t, rfl⟩ (vals_ints h)

def Only (H : Hp) : Prop := ∀ b, H b = none ∨ ∃ o xs, H b = some (.frz o (.lst xs))

theorem law_call {P : Program} {w : World} {K : PySem.W.Frag} {mg mb : Str → Option Value} {CX : CXT} {k : Nat} {fa a : Addr} {fd : FuncData} {x : Str} {sp : Sp} {s₁ : Shared} {vs : List Value} {ns : List Int}
    (KX : K.In s₁.heap) (hns : s₁.heap.Ns mainGlobals mg) (hb : s₁.heap.Ns builtinsNs mb) (hbb : ∀ x : Str, x ≠ "__name__" → mb x = bootBuiltins x) (hlim : s₁.heap.NoLimit) (hsee : s₁.heap.NoSeer) (hg : s₁.gens = #[])
    (ha : s₁.heap.get? a = some { cls := .type "list", data := .seq vs.toArray }) (hi : IntsAre vs ns) (hl : ns.length ≤ sizeLine) (hr : Room k callerA)
    (F : ∀ base : Heap, K.In base → base.Ns mainGlobals mg → FnOk P w K mg base CX k fa fd [x] sp) (hbind : ∀ (s : Shared) (u : Value), BindsTo s fd ⟨[u], []⟩ [(x, u)])
    (hsp : ∀ H : Hp, Only H → SqL K H a (ns.map V.int) → sp [.ref a] H (fun v _ => v = .bl true) fun _ _ _ => False)
    (hCX : ∀ H e s', CX [] H s₁ (fun _ _ _ => False) e s' → False) :
    codeAny (model P w) callerA (.call (.ref fa) ⟨[.ref a], []⟩) (fun r s' => r = .ok (.ret (.bool true)) ∧ OldK s₁.heap s'.heap ∧ s'.os = s₁.os ∧ AllBare s'.gens) s₁ := by
  have rv := vals_ints hi
  have lenV := hi.length
  -- from an abstract heap in which nothing but the script may be tracked
  have core : ∀ H : Hp, Only H → SqL K H a (ns.map V.int) → HOk P w H s₁.heap → (∀ b, H b ≠ none → b = a) → (H a ≠ none → K.lookup a = none) →
      codeAny (model P w) callerA (.call (.ref fa) ⟨[.ref a], []⟩) (fun r s' => r = .ok (.ret (.bool true)) ∧ OldK s₁.heap s'.heap ∧ s'.os = s₁.os ∧ AllBare s'.gens) s₁ := by
    intro H hO hS hok hA hK
    have base_of : ∀ {b : Addr} {o : Obj}, s₁.heap.get? b = some o → H b = none → (hidT s₁.heap H).get? b = some o := fun e n => hidT_get e n
    have noA : ∀ {b : Addr} {o : Obj} {es : Array DictEntry} {ep : Nat}, s₁.heap.get? b = some o → o.data = .dict es ep → H b = none := fun {b o es ep} e d => by
      cases q : H b with
      | none => rfl
      | some u =>
        have e' : b = a := hA b (by rw [q]; simp)
        subst e'
        rw [ha] at e; cases e
        have d' : Data.seq vs.toArray _ = Data.dict es ep := d
        cases d'
    have nsK : ∀ {b : Addr} {m : Str → Option Value}, s₁.heap.Ns b m → (hidT s₁.heap H).Ns b m := fun {b m} ⟨o, es, ep, e, d, r⟩ => ⟨o, es, ep, base_of e (noA e d), d, r⟩
    have hKb : K.In (hidT s₁.heap H) := fun b o e => base_of (KX b o e) (by
      cases q : H b with
      | none => rfl
      | some u =>
        have e' : b = a := hA b (by rw [q]; simp)
        subst e'
        rw [hK (by rw [q]; simp)] at e; cases e)
    have hM : Mod K mg (hidT s₁.heap H) := ⟨hKb, nsK hns, ⟨mb, nsK hb, hbb⟩, let ⟨mc, h1, h2⟩ := hlim; ⟨mc, nsK h1, h2⟩,
      ⟨let ⟨mc, h1, h2⟩ := hsee.statics; ⟨mc, nsK h1, h2⟩, let ⟨mc, h1, h2⟩ := hsee.mods; ⟨mc, nsK h1, h2⟩, let ⟨mc, h1, h2⟩ := hsee.imp; ⟨mc, nsK h1, h2⟩,
        let ⟨mg', bm, ob, h1, h2, h3, h4, h5⟩ := hsee.main; ⟨mg', bm, ob, nsK h1, h2, base_of h3 (by
          cases q : H bm with
          | none => rfl
          | some u =>
            have e' : bm = a := hA bm (by rw [q]; simp)
            subst e'
            rw [ha] at h3
            cases h3
            have h4' : Value.type "list" = Value.type "module" := h4
            injection h4' with e9
            exact absurd e9 (by decide)), h4, h5⟩⟩⟩
    have e0 : Env0 P w K mg (hidT s₁.heap H) callerA [] s₁ H := ⟨rfl, hM, fun b o e => of_hidT e, Nat.le_of_eq (hidT_size _ _), trivial, fun b hb => absurd (show b ∈ ([] : List Addr) from hb) (by simp), hok, .of_eq hg⟩
    refine codeAny_mono ((F _ hKb (nsK hns)).run callerA [] s₁ H ⟨[.ref a], []⟩ [.ref a] [.ref a] _ _ hr e0 (hbind s₁ (.ref a)) (.cons rfl .nil) (hsp H hO hS)) fun r s' h => ?_
    cases r with
    | error e => exact (hCX H e s' h).elim
    | ok fl =>
      cases fl with
      | next => exact False.elim h
      | brk => exact False.elim h
      | cont => exact False.elim h
      | ret u =>
        obtain ⟨v, H', os, bare, un, hok', r', q⟩ := h
        have q' : v = .bl true := q
        subst q'
        obtain rfl : u = Value.bool true := r'
        refine ⟨rfl, OldK.of_keep fun b o e => ?_, os, bare⟩
        cases q : H b with
        | none => exact un.keep b o e q (by intro z; exact absurd (show b ∈ ([] : List Addr) from z) (by simp)) (by simp)
        | some u =>
          rcases hO b with z | ⟨ob, xs, z⟩
          · rw [q] at z; cases z
          · have z2 := un.frzs b ob _ z
            obtain ⟨e1, _⟩ := hok b _ z
            obtain ⟨e2, _⟩ := hok' b _ z2
            rw [e] at e1; cases e1
            exact e2
  cases hk : K.lookup a with
  | some o =>
    -- the script is one of the module's own objects
    have e := KX a o hk
    rw [ha] at e
    cases e
    refine core (fun _ => none) (fun _ => .inl rfl) (.inr ⟨_, vs.toArray, _, hk, rfl, rfl, rfl, by rw [List.size_toArray, lenV]; exact hl, by simpa using rv⟩) (fun b u z => by have z' : (none : Option HO) = some u := z; cases z') (fun b z => absurd rfl z) fun z => absurd rfl z
  | none =>
    refine core (fun b => if b = a then some (.frz { cls := .type "list", data := .seq vs.toArray } (.lst (ns.map V.int))) else none) (fun b => ?_) (.inl (.inr ⟨{ cls := .type "list", data := .seq vs.toArray }, if_pos rfl⟩)) (fun b u z => ?_) (fun b z => ?_) fun _ => hk
    · by_cases hb : b = a
      · exact .inr ⟨_, _, if_pos hb⟩
      · exact .inl (if_neg hb)
    · by_cases hb : b = a
      · have z' := (if_pos hb).symm.trans z
        cases z'
        subst hb
        exact ⟨ha, by rw [List.length_map]; exact hl, vs, _, rv, ha⟩
      · have z' := (if_neg hb).symm.trans z
        cases z'
    · by_cases hb : b = a
      · exact hb
      · exact absurd (if_neg hb) z
end L2

namespace L2
open PySem PySem.Spec PyProof.Rows

abbrev KOf {K : PySem.W.Frag} {h : Heap} (_ : K.In h) : PySem.W.Frag := K


end L2

/- THE LAST THEOREM (shape; LID, My.* are yours):
   My.Adr: a structure of the addresses that your layer names (classes, functions); My.Txt K t: a structure (Prop) of the equations over K;
   My.txt_mk : {K} {implicit addresses ..} (e1 : nsIn K mainGlobals "law" = some (some (.ref f))) (e2 : K.lookup f = some ⟨oc, od, .func (fnOf "law" "law" params body scope dV kV doc pm an cdv ct), sl⟩) (e3 : codeIn K cdv "law" = true) .. : ∃ t, My.Txt K t

set_option maxRecDepth 100000 in
set_option maxHeartbeats 0 in
theorem PySem.Challenge.cw_LID_holds : PySem.Challenge.rw_LID.Holds := by
  w_on; o_law; k_head; (case hw => w_witness2)
  k_fill
  refine L2.walk_of (l := PySem.Challenge.rw_LID) (n := 63) (k := 40) (x := "script") (CX := fun w => ..) (sp := fun _ => My.sp_law) rfl (by decide) rfl ⟨rfl, by decide, by decide⟩ (fun w h Y => PySem.W.kIn_of Y) ?F ?S ?C
  case F =>
    intro w mg fa h KX G hmg
    have T : ∃ t, My.Txt (L2.KOf KX) t := by
      dsimp only [L2.KOf]                          -- K must stand as «<heap const> w.params» for k_is
      refine' My.txt_mk ?e1 ?e2 ?e3 ..
      (case e1 => PySem.W.k_is)                    -- in the order: a name -> its address -> its object -> its parts
      (case e2 => PySem.W.k_is)
      ..
    obtain ⟨t, T⟩ := T
    have e0 := hmg.symm.trans (PySem.W.mg_of KX G T.law)
    cases e0                                       -- fa is the law's own address
    exact ⟨_, fun s u => .of_eq rfl, fun base kb nb => My.law_fn T kb nb⟩     -- if «.of_eq rfl» comes too early: refine' ⟨_, ?b, fun base kb nb => My.law_fn T kb nb⟩; exact fun s u => .of_eq rfl
  case S => exact fun w H a ns hl hO hS => ..
  case C => exact ..
(the tactic k_is has no namespace: write k_is) -/

namespace L2
open PySem PySem.Spec PyProof.Rows

def inClass (s : Stmt) (j : Nat) : Stmt := match s with
  | .ClassDef _ _ _ body _ _ _ _ _ _ _ => body.getD j (.Pass ⟨0, 0, 0, 0⟩)
  | _ => .Pass ⟨0, 0, 0, 0⟩
def defArgs (s : Stmt) : Arguments := match s with
  | .FunctionDef _ a _ _ _ _ _ _ _ _ => a
  | _ => { posonlyargs := [], args := [], vararg := none, kwonlyargs := [], kw_defaults := [], kwarg := none, defaults := [] }
def defBody (s : Stmt) : List Stmt := match s with
  | .FunctionDef _ _ b _ _ _ _ _ _ _ => b
  | _ => []
def defScope (s : Stmt) : Scope := match s with
  | .FunctionDef _ _ _ _ _ _ sc _ _ _ => sc
  | _ => { kind := .function, names := [], isGenerator := false, isCoroutine := false }

abbrev CX0 : CXT := fun _ _ _ _ _ _ => False
abbrev E0 : XK := fun _ _ _ => False
structure Fun (K : PySem.W.Frag) (x qual : Str) (st : Stmt) (f : Addr) (fd : FuncData) : Prop where
  ex : ∃ (oc : Value) (od : Option Addr) (kV doc pm : Value) (an : Option Addr) (cdv ct : Value) (osl : Array (Option Value)),
    fd = PySem.W.fnOf x qual (defArgs st) (defBody st) (defScope st) .none kV doc pm an cdv ct ∧ K.lookup f = some ⟨oc, od, .func fd, osl⟩ ∧ PySem.W.codeIn K cdv qual = true
  kp : PySem.W.keepIn K (.ref f) = true
section
variable {P : Program} {w : World} {K : PySem.W.Frag} {mg : Str → Option Value} {base : Heap}
theorem Fun.ok {x qual : Str} {st : Stmt} {f : Addr} {fd : FuncData} {N ps : List Str} {k : Nat} {sp : Sp} (F : Fun K x qual st f fd) (S : FnScope N ps (defScope st)) (len : ∀ vs H Q E, sp vs H Q E → vs.length = ps.length)
    (hbody : ∀ (cdv : Value) (A : Around) (outer : List Env) (s : Shared) (H : Hp) (vs : List V) (Q : VK) (E : XK), Room k (A.deeper (envOfC qual (defScope st) s.heap.objs.size f cdv)) → sp vs H Q E →
      ∃ t, PSs (cxOf CX0 P w K mg base N qual (defScope st) f cdv A outer s H E).nox (defBody st) t ∧ t { nx := fun _ H' => Q .non H', rt := Q } (start N vs) H) : FnOk P w K mg base CX0 (k + 1) f fd ps sp := by
  obtain ⟨oc, od, kV, doc, pm, an, cdv, ct, osl, rfl, lk, hcd⟩ := F.ex
  refine fn_of lk hcd S len fun A outer s H vs Q E hr hsp => ?_
  obtain ⟨t, h, q⟩ := hbody cdv A outer s H vs Q E hr hsp
  exact ⟨t, h.nox, q⟩
theorem Fun.binds {x qual : Str} {st : Stmt} {f : Addr} {fd : FuncData} {ps : List Str} (F : Fun K x qual st f fd)
    (h : ∀ (kV doc pm : Value) (an : Option Addr) (cdv ct : Value) (us : List Value), us.length = ps.length → bindArgs (PySem.W.fnOf x qual (defArgs st) (defBody st) (defScope st) .none kV doc pm an cdv ct) ⟨us, []⟩ = pure (ps.zip us)) : Binds K fd ps [] := by
  obtain ⟨oc, od, kV, doc, pm, an, cdv, ct, osl, rfl, lk, hcd⟩ := F.ex
  exact .all (h kV doc pm an cdv ct)
theorem fun_mk {x qual : Str} {st : Stmt} {f : Addr} {oc : Value} {od an : Option Addr} {osl : Array (Option Value)} {kV doc pm cdv ct : Value} (l : K.lookup f = some ⟨oc, od, .func (PySem.W.fnOf x qual (defArgs st) (defBody st) (defScope st) .none kV doc pm an cdv ct), osl⟩)
    (c : PySem.W.codeIn K cdv qual = true) (k : PySem.W.keepIn K (.ref f) = true) : Fun K x qual st f (PySem.W.fnOf x qual (defArgs st) (defBody st) (defScope st) .none kV doc pm an cdv ct) := ⟨⟨oc, od, kV, doc, pm, an, cdv, ct, osl, rfl, l, c⟩, k⟩
end
section
variable {X : Cx}
theorem pv (i : Nat) {x : Str} {pos : Pos} (hN : X.N[i]? = some x := by rfl) (hv : Vis X.env.scope x := by first | exact Or.inl rfl | exact Or.inr (Or.inl rfl) | exact Or.inr (Or.inr rfl)) (hd : (x == ("__debug__" : Str)) = false := by decide)
    (hcd : (x == ("__classdict__" : Str)) = false := by decide) : PE X (.Name x pos) (tVar i) := pe_var hN hv hd hcd
end

theorem iteF {A B : Prop} (h : B) : if false = true then A else B := by
  rw [if_neg Bool.false_ne_true]
  exact h
theorem iteT {A B : Prop} (h : A) : if true = true then A else B := by
  rw [if_pos rfl]
  exact h
theorem ite2 {c A B : Prop} [Decidable c] (h1 : c → A) (h2 : ¬ c → B) : if c then A else B := by
  by_cases h : c
  · rw [if_pos h]
    exact h1 h
  · rw [if_neg h]
    exact h2 h
theorem iteNS {c A B : Prop} [Decidable c] (hc : c) (h : B) : if (!decide c) = true then A else B := by
  rw [decide_eq_true hc]
  exact iteF h

def Same (H H' : Hp) : Prop := ∀ b o, H b = some o → H' b = some o
theorem Same.refl (H : Hp) : Same H H := fun _ _ h => h
theorem Same.trans {H H1 H2 : Hp} (a : Same H H1) (b : Same H1 H2) : Same H H2 := fun c o h => b c o (a c o h)
theorem Same.free {H H' : Hp} (e : Same H H') {l : Addr} (h : H' l = Option.none) : H l = Option.none := by
  cases q : H l with
  | none => rfl
  | some o =>
    rw [e l o q] at h
    cases h
theorem Same.seq {K : PySem.W.Frag} {H H' : Hp} {a : Addr} {xs : List V} (e : Same H H') (h : SqL K H a xs) : SqL K H' a xs := by
  rcases h with (h | ⟨o, h⟩) | h
  · exact .inl (.inl (e _ _ h))
  · exact .inl (.inr ⟨o, e _ _ h⟩)
  · exact .inr h

end L2

namespace Ty
def gz (t b : Int) : Int := (Int.gcd t b : Nat)
def sg (t b : Int) : Int := if b < 0 then -gz t b else gz t b
def low (t b : Int) : Int × Int := (t.fdiv (sg t b), b.fdiv (sg t b))

theorem gcd_step (a b : Int) : Int.gcd b (a.fmod b) = Int.gcd a b := by
  rw [Int.fmod_def, Int.gcd_sub_mul_left_right, Int.gcd_comm]
theorem fmod_less {a b : Int} (h : b ≠ 0) : (a.fmod b).natAbs < b.natAbs := by
  rcases Int.lt_trichotomy b 0 with q | q | q
  · have h1 : (-a).fmod (-b) = -(a.fmod b) := by
      rw [Int.fmod_def, Int.fmod_def, Int.neg_fdiv_neg, Int.neg_mul]
      omega
    have h2 := Int.fmod_nonneg_of_pos (-a) (show 0 < -b by omega)
    have h3 := Int.fmod_lt_of_pos (-a) (show 0 < -b by omega)
    omega
  · exact absurd q h
  · have h2 := Int.fmod_nonneg_of_pos a q
    have h3 := Int.fmod_lt_of_pos a q
    omega
theorem gz_pos {t b : Int} (h : b ≠ 0) : 0 < gz t b := by
  have := Int.gcd_pos_iff.mpr (Or.inr h : t ≠ 0 ∨ b ≠ 0)
  show (0 : Int) < ((Int.gcd t b : Nat) : Int)
  omega
theorem gz_le {t b : Int} (h : b ≠ 0) : (gz t b).natAbs ≤ b.natAbs := by
  have h1 : Int.gcd t b ∣ b.natAbs := Int.natAbs_dvd_natAbs.mpr (Int.gcd_dvd_right t b)
  have h2 := Nat.le_of_dvd (by omega) h1
  show ((Int.gcd t b : Nat) : Int).natAbs ≤ _
  omega
theorem sg_ne {t b : Int} (h : b ≠ 0) : sg t b ≠ 0 := by
  have := gz_pos (t := t) h
  unfold sg
  split <;> omega
theorem sg_abs {t b : Int} : (sg t b).natAbs = (gz t b).natAbs := by
  unfold sg
  split
  · exact Int.natAbs_neg _
  · rfl
theorem sg_dvd_left (t b : Int) : sg t b ∣ t := by
  unfold sg gz
  split
  · exact Int.neg_dvd.mpr (Int.gcd_dvd_left t b)
  · exact Int.gcd_dvd_left t b
theorem sg_dvd_right (t b : Int) : sg t b ∣ b := by
  unfold sg gz
  split
  · exact Int.neg_dvd.mpr (Int.gcd_dvd_right t b)
  · exact Int.gcd_dvd_right t b
theorem fdiv_of_dvd {a g : Int} (h : g ≠ 0) (d : g ∣ a) : a = g * a.fdiv g := by
  obtain ⟨c, hc⟩ := d
  have := Int.fdiv_eq_of_eq_mul_right h hc
  rw [this]
  exact hc
theorem low_top {t b : Int} (h : b ≠ 0) : t = sg t b * (low t b).1 := fdiv_of_dvd (sg_ne h) (sg_dvd_left t b)
theorem low_bot {t b : Int} (h : b ≠ 0) : b = sg t b * (low t b).2 := fdiv_of_dvd (sg_ne h) (sg_dvd_right t b)
theorem low_pos {t b : Int} (h : b ≠ 0) : 0 < (low t b).2 := by
  have e := low_bot (t := t) h
  have g := gz_pos (t := t) h
  rcases Int.lt_trichotomy (low t b).2 0 with q | q | q
  · exfalso
    by_cases c : b < 0
    · have s : sg t b = -gz t b := by unfold sg; rw [if_pos c]
      rw [s] at e
      have := Int.mul_pos_of_neg_of_neg (show -gz t b < 0 by omega) q
      omega
    · have s : sg t b = gz t b := by unfold sg; rw [if_neg c]
      rw [s] at e
      have := Int.mul_neg_of_pos_of_neg g q
      omega
  · exfalso
    rw [q, Int.mul_zero] at e
    exact h e
  · exact q
theorem low_gcd {t b : Int} (h : b ≠ 0) : Int.gcd (low t b).1 (low t b).2 = 1 := by
  have e1 := low_top (t := t) h
  have e2 := low_bot (t := t) h
  have k : Int.gcd t b = (sg t b).natAbs * Int.gcd (low t b).1 (low t b).2 := by
    have q := Int.gcd_mul_left (sg t b) (low t b).1 (low t b).2
    rw [← e1, ← e2] at q
    exact q
  have g : (sg t b).natAbs = Int.gcd t b := by
    rw [sg_abs]
    rfl
  have p := Int.gcd_pos_iff.mpr (Or.inr h : t ≠ 0 ∨ b ≠ 0)
  rw [g] at k
  have k' : Int.gcd t b * 1 = Int.gcd t b * Int.gcd (low t b).1 (low t b).2 := by rw [Nat.mul_one]; exact k
  exact (Nat.eq_of_mul_eq_mul_left p k').symm
theorem natAbs_factor {g a : Int} (h : g ≠ 0) : a.natAbs ≤ (g * a).natAbs := by
  rw [Int.natAbs_mul]
  have : 1 ≤ g.natAbs := by omega
  have := Nat.mul_le_mul_right a.natAbs this
  omega
theorem low_top_le {t b : Int} (h : b ≠ 0) : (low t b).1.natAbs ≤ t.natAbs := by
  have e := low_top (t := t) h
  have := natAbs_factor (g := sg t b) (a := (low t b).1) (sg_ne h)
  rw [← e] at this
  exact this
theorem low_bot_le {t b : Int} (h : b ≠ 0) : (low t b).2.natAbs ≤ b.natAbs := by
  have e := low_bot (t := t) h
  have := natAbs_factor (g := sg t b) (a := (low t b).2) (sg_ne h)
  rw [← e] at this
  exact this
theorem low_of {t b g x y : Int} (hg : g ≠ 0) (ht : t = g * x) (hb : b = g * y) (hy : 0 < y) (h1 : Int.gcd x y = 1) : low t b = (x, y) := by
  have hbn : b ≠ 0 := by
    rw [hb]
    exact Int.mul_ne_zero hg (by omega)
  have gg : Int.gcd t b = g.natAbs := by
    rw [ht, hb, Int.gcd_mul_left, h1, Nat.mul_one]
  have s : sg t b = g := by
    unfold sg gz
    rw [gg]
    by_cases c : g < 0
    · have : b < 0 := by rw [hb]; exact Int.mul_neg_of_neg_of_pos c hy
      rw [if_pos this]
      omega
    · have : ¬ b < 0 := by
        have := Int.mul_nonneg (show 0 ≤ g by omega) (show 0 ≤ y by omega)
        omega
      rw [if_neg this]
      omega
  unfold low
  rw [s]
  rw [Int.fdiv_eq_of_eq_mul_right hg ht, Int.fdiv_eq_of_eq_mul_right hg hb]
theorem low_self {x y : Int} (hy : 0 < y) (h : Int.gcd x y = 1) : low x y = (x, y) := low_of (g := 1) (by decide) (by omega) (by omega) hy h
end Ty

set_option maxHeartbeats 4000000
namespace Ty
open PySem PySem.Spec PyProof.Rows L2
open Builtin.Int (intBits)
section
variable {X : Cx}
def CMulB (i j : Int) : Prop := intBits i ≤ 33554432 ∧ intBits j ≤ 33554432
theorem op_mulB : OpR X (binaryOp .Mult) (rI CMulB fun i j => .int (i * j)) :=
  opI fun _ _ _ _ _ _ _ hc q => mul_int q (IntMulOk.of_le hc.1 hc.2 (by decide))
def CDivB (i j : Int) : Prop := j ≠ 0 ∧ intBits j ≤ 9000
theorem noPy {i j : Int} (h : intBits j ≤ 9000) : Builtin.divisionGoesByPylong i j = false := by
  refine PyProof.noPylong_of_log2 ?_
  have h1 := intBits_le_iff.mp h
  by_cases h0 : j.natAbs = 0
  · rw [h0]
    decide +kernel
  · exact (Nat.log2_lt h0).mpr h1
theorem op_fdivB : OpR X (binaryOp .FloorDiv) (rI CDivB fun i j => .int (i.fdiv j)) :=
  opI fun _ _ _ _ _ _ _ hc q => floordiv_int hc.1 q (.inl (noPy hc.2))
end
inductive Da where
  | v (x : V)
  | t (ds : List Da)
  | l (ds : List Da)
mutual
def Is (K : PySem.W.Frag) (H : Hp) : Da → V → Prop
  | .v x, u => u = x ∧ flatV x = true
  | .t ds, u => ∃ p xs, u = .ref p ∧ SqT K H p xs ∧ Iss K H ds xs
  | .l ds, u => ∃ p xs, u = .ref p ∧ SqL K H p xs ∧ Iss K H ds xs
def Iss (K : PySem.W.Frag) (H : Hp) : List Da → List V → Prop
  | [], [] => True
  | d :: ds, x :: xs => Is K H d x ∧ Iss K H ds xs
  | _, _ => False
end
mutual
def eqDa : Da → Da → Bool
  | .v x, .v y => eqV x y
  | .t ds, .t es => eqDas ds es
  | .l ds, .l es => eqDas ds es
  | _, _ => false
def eqDas : List Da → List Da → Bool
  | [], [] => true
  | d :: ds, e :: es => eqDa d e && eqDas ds es
  | _, _ => false
end
mutual
def alike : Da → Da → Bool
  | .v _, .v _ => true
  | .t ds, .t es => alikes ds es
  | .l ds, .l es => alikes ds es
  | _, _ => false
def alikes : List Da → List Da → Bool
  | d :: ds, e :: es => alike d e && alikes ds es
  | _, _ => true
end
mutual
def dep : Da → Nat
  | .v _ => 0
  | .t ds => deps ds + 1
  | .l ds => deps ds + 1
def deps : List Da → Nat
  | [] => 0
  | d :: ds => max (dep d) (deps ds)
end
theorem Iss.length {K : PySem.W.Frag} {H : Hp} : ∀ {ds : List Da} {xs : List V}, Iss K H ds xs → ds.length = xs.length
  | [], [], _ => rfl
  | _ :: _, _ :: _, h => congrArg (· + 1) (Iss.length (by unfold Iss at h; exact h.2))
  | [], _ :: _, h => by unfold Iss at h; exact h.elim
  | _ :: _, [], h => by unfold Iss at h; exact h.elim
def bitDa (ds es : List Da) (j : Nat) : Bool := match ds[j]?, es[j]? with
  | some d, some e => eqDa d e
  | _, _ => true
theorem eqDas_bits : ∀ ds es : List Da, eqDas ds es = ((List.range (min ds.length es.length)).all (bitDa ds es) && ds.length == es.length)
  | [], [] => rfl
  | [], _ :: _ => by simp [eqDas]
  | _ :: _, [] => by simp [eqDas]
  | d :: ds, e :: es => by
    have ih := eqDas_bits ds es
    have r : min (d :: ds).length (e :: es).length = min ds.length es.length + 1 := by simp [Nat.succ_min_succ]
    rw [r, List.range_succ_eq_map, List.all_cons, List.all_map]
    have b0 : bitDa (d :: ds) (e :: es) 0 = eqDa d e := rfl
    have b1 : (bitDa (d :: ds) (e :: es) ∘ Nat.succ) = bitDa ds es := by
      funext j
      rfl
    have l1 : ((d :: ds).length == (e :: es).length) = (ds.length == es.length) := by simp
    rw [b0, b1, l1, Bool.and_assoc, ← ih]
    rfl
section
variable {X : Cx} {pins : List (Addr × Obj)} {σ : L2.St} {H : Hp} {s : Shared}
theorem eqV_refl {x : V} (h : flatV x = true) : eqV x x = true := by
  cases x <;> first | rfl | (simp [eqV]; done) | (cases h; done)
mutual
theorem is_same (I : Inv X pins σ H s) : ∀ (d e : Da) (x : V), Is X.K H d x → Is X.K H e x → alike d e = true → eqDa d e = true
  | .v a, .v b, x, h1, h2, _ => by
    unfold Is at h1 h2
    obtain ⟨rfl, f⟩ := h1
    obtain ⟨rfl, _⟩ := h2
    unfold eqDa
    exact eqV_refl f
  | .t ds, .t es, x, h1, h2, a => by
    unfold Is at h1 h2
    obtain ⟨p, xs, rfl, q1, k1⟩ := h1
    obtain ⟨p', ys, e', q2, k2⟩ := h2
    cases e'
    cases I.tuple_inj q1 q2
    unfold eqDa
    unfold alike at a
    exact iss_same I ds es xs k1 k2 a
  | .l ds, .l es, x, h1, h2, a => by
    unfold Is at h1 h2
    obtain ⟨p, xs, rfl, q1, k1⟩ := h1
    obtain ⟨p', ys, e', q2, k2⟩ := h2
    cases e'
    cases I.list_inj q1 q2
    unfold eqDa
    unfold alike at a
    exact iss_same I ds es xs k1 k2 a
  | .v _, .t _, _, _, _, a => by unfold alike at a; cases a
  | .v _, .l _, _, _, _, a => by unfold alike at a; cases a
  | .t _, .v _, _, _, _, a => by unfold alike at a; cases a
  | .t _, .l _, _, _, _, a => by unfold alike at a; cases a
  | .l _, .v _, _, _, _, a => by unfold alike at a; cases a
  | .l _, .t _, _, _, _, a => by unfold alike at a; cases a
theorem iss_same (I : Inv X pins σ H s) : ∀ (ds es : List Da) (xs : List V), Iss X.K H ds xs → Iss X.K H es xs → alikes ds es = true → eqDas ds es = true
  | [], [], _, _, _, _ => by unfold eqDas; rfl
  | d :: ds, e :: es, x :: xs, h1, h2, a => by
    unfold Iss at h1 h2
    unfold alikes at a
    rw [Bool.and_eq_true] at a
    unfold eqDas
    rw [is_same I d e x h1.1 h2.1 a.1, iss_same I ds es xs h1.2 h2.2 a.2]
    rfl
  | [], _ :: _, [], _, h2, _ => by unfold Iss at h2; exact h2.elim
  | [], _ :: _, _ :: _, h1, _, _ => by unfold Iss at h1; exact h1.elim
  | _ :: _, [], [], h1, _, _ => by unfold Iss at h1; exact h1.elim
  | _ :: _, [], _ :: _, _, h2, _ => by unfold Iss at h2; exact h2.elim
  | _ :: _, _ :: _, [], h1, _, _ => by unfold Iss at h1; exact h1.elim
end
theorem in1_units (A : Around) : A.in1.units = A.units + 1 := rfl
mutual
theorem eqAt_da (I : Inv X pins σ H s) : ∀ (d e : Da) (x y : V) (u w : Value) (A : Around), Is X.K H d x → Is X.K H e y → alike d e = true → RelV x u → RelV y w → A.units + dep d < cLine → SeqAt.EqAt A s u w (eqDa d e)
  | .v a, .v b, x, y, u, w, A, h1, h2, _, r1, r2, _ => by
    unfold Is at h1 h2
    obtain ⟨rfl, f1⟩ := h1
    obtain ⟨rfl, f2⟩ := h2
    unfold eqDa
    exact eqAt_V r1 r2 f1 f2
  | .t ds, .t es, x, y, u, w, A, h1, h2, a, r1, r2, hu => by
    have h1' := h1
    have h2' := h2
    unfold Is at h1 h2
    obtain ⟨p, xs, rfl, q1, k1⟩ := h1
    obtain ⟨p', ys, rfl, q2, k2⟩ := h2
    cases r1
    cases r2
    by_cases e : p = p'
    · subst e
      rw [is_same I _ _ _ h1' h2' a]
      exact .same _
    · refine .of_refs e ?_
      obtain ⟨its, v1, t1, _⟩ := I.tuple q1
      obtain ⟨its2, v2, t2, _⟩ := I.tuple q2
      unfold eqDa
      rw [eqDas_bits, k1.length, k2.length, v1.length, v2.length]
      have z := SeqAt.RcAt.tuples (A := A) (e := bitDa ds es) t1 t2 (by unfold dep at hu; omega) fun j g1 g2 => by
        unfold dep at hu
        unfold alike at a
        exact eqAt_das I ds es xs ys its its2 A.in1 k1 k2 a v1 v2 (by rw [in1_units]; omega) j (by simpa using g1) (by simpa using g2)
      simpa using z
  | .l ds, .l es, x, y, u, w, A, h1, h2, a, r1, r2, hu => by
    have h1' := h1
    have h2' := h2
    unfold Is at h1 h2
    obtain ⟨p, xs, rfl, q1, k1⟩ := h1
    obtain ⟨p', ys, rfl, q2, k2⟩ := h2
    cases r1
    cases r2
    by_cases e : p = p'
    · subst e
      rw [is_same I _ _ _ h1' h2' a]
      exact .same _
    · refine .of_refs e ?_
      obtain ⟨its, v1, t1, _⟩ := I.list q1
      obtain ⟨its2, v2, t2, _⟩ := I.list q2
      unfold eqDa
      unfold dep at hu
      unfold alike at a
      by_cases el : its.length = its2.length
      · rw [eqDas_bits, k1.length, k2.length, v1.length, v2.length]
        have z := SeqAt.RcAt.lists (A := A) (e := bitDa ds es) t1.isList t2.isList (by simpa using el) (by omega) fun j g1 g2 =>
          eqAt_das I ds es xs ys its its2 A.in1 k1 k2 a v1 v2 (by rw [in1_units]; omega) j (by simpa using g1) (by simpa using g2)
        rw [el, Nat.min_self, beq_self_eq_true, Bool.and_true]
        rw [List.size_toArray, el] at z
        exact z
      · have ne : eqDas ds es = false := by
          rw [eqDas_bits, k1.length, k2.length, v1.length, v2.length, beq_eq_false_iff_ne.mpr el, Bool.and_false]
        rw [ne]
        exact SeqAt.RcAt.lists_lengths t1.isList t2.isList (by simpa using el) (by omega)
  | .v _, .t _, _, _, _, _, _, _, _, a, _, _, _ => by unfold alike at a; cases a
  | .v _, .l _, _, _, _, _, _, _, _, a, _, _, _ => by unfold alike at a; cases a
  | .t _, .v _, _, _, _, _, _, _, _, a, _, _, _ => by unfold alike at a; cases a
  | .t _, .l _, _, _, _, _, _, _, _, a, _, _, _ => by unfold alike at a; cases a
  | .l _, .v _, _, _, _, _, _, _, _, a, _, _, _ => by unfold alike at a; cases a
  | .l _, .t _, _, _, _, _, _, _, _, a, _, _, _ => by unfold alike at a; cases a
theorem eqAt_das (I : Inv X pins σ H s) : ∀ (ds es : List Da) (xs ys : List V) (us ws : List Value) (A : Around), Iss X.K H ds xs → Iss X.K H es ys → alikes ds es = true → Vals xs us → Vals ys ws → A.units + deps ds < cLine →
    ∀ (j : Nat) (h1 : j < us.length) (h2 : j < ws.length), SeqAt.EqAt A s us[j] ws[j] (bitDa ds es j)
  | d :: ds, e :: es, x :: xs, y :: ys, u :: us, w :: ws, A, k1, k2, a, .cons r1 v1, .cons r2 v2, hu, 0, _, _ => by
    unfold Iss at k1 k2
    unfold alikes at a
    rw [Bool.and_eq_true] at a
    unfold deps at hu
    exact eqAt_da I d e x y u w A k1.1 k2.1 a.1 r1 r2 (by omega)
  | d :: ds, e :: es, x :: xs, y :: ys, u :: us, w :: ws, A, k1, k2, a, .cons r1 v1, .cons r2 v2, hu, j + 1, h1, h2 => by
    unfold Iss at k1 k2
    unfold alikes at a
    rw [Bool.and_eq_true] at a
    unfold deps at hu
    exact eqAt_das I ds es xs ys us ws A k1.2 k2.2 a.2 v1 v2 (by omega) j (by simpa using h1) (by simpa using h2)
  | [], _, [], _, _, _, _, _, _, _, .nil, _, _, _, h1, _ => absurd h1 (Nat.not_lt_zero _)
  | _, [], _, [], _, _, _, _, _, _, _, .nil, _, _, _, h2 => absurd h2 (Nat.not_lt_zero _)
  | [], _, _ :: _, _, _, _, _, k1, _, _, _, _, _, _, _, _ => by unfold Iss at k1; exact k1.elim
  | _ :: _, _, [], _, _, _, _, k1, _, _, _, _, _, _, _, _ => by unfold Iss at k1; exact k1.elim
  | _, [], _, _ :: _, _, _, _, _, k2, _, _, _, _, _, _, _ => by unfold Iss at k2; exact k2.elim
  | _, _ :: _, _, [], _, _, _, _, k2, _, _, _, _, _, _, _ => by unfold Iss at k2; exact k2.elim
end
end

section
variable {X : Cx}
def rEqDa (K : PySem.W.Frag) : R2 := fun x y H Q => ∃ ds es, ((Is K H (.t ds) x ∧ Is K H (.t es) y) ∨ (Is K H (.l ds) x ∧ Is K H (.l es) y)) ∧ alikes ds es = true ∧ deps ds ≤ 60 ∧ Q (.bl (eqDas ds es)) H
def rNeDa (K : PySem.W.Frag) : R2 := fun x y H Q => ∃ ds es, ((Is K H (.t ds) x ∧ Is K H (.t es) y) ∨ (Is K H (.l ds) x ∧ Is K H (.l es) y)) ∧ alikes ds es = true ∧ deps ds ≤ 60 ∧ Q (.bl (!eqDas ds es)) H
theorem op_eqDa (hu : X.A.units + 64 < cLine) : OpR X (compareOp .Eq) (rEqDa X.K) := by
  intro pins s σ H x y v u Q I rx ry h
  obtain ⟨ds, es, h, a, hd, q⟩ := h
  rcases h with ⟨h1, h2⟩ | ⟨h1, h2⟩
  · unfold Is at h1 h2
    obtain ⟨p, xs, rfl, q1, k1⟩ := h1
    obtain ⟨p', ys, rfl, q2, k2⟩ := h2
    cases rx
    cases ry
    obtain ⟨its, v1, t1, _⟩ := I.tuple q1
    obtain ⟨its2, v2, t2, _⟩ := I.tuple q2
    have z := SeqAt.RcAt.tuples (A := X.A) (e := bitDa ds es) t1 t2 (by omega) fun j g1 g2 =>
      eqAt_das I ds es xs ys its its2 X.A.in1 k1 k2 a v1 v2 (by rw [in1_units]; omega) j (by simpa using g1) (by simpa using g2)
    refine z X.prog X.w X.xe _ ⟨.bl _, H, I, rfl, ?_⟩
    have e := eqDas_bits ds es
    rw [k1.length, k2.length, v1.length, v2.length] at e
    simpa [e] using q
  · unfold Is at h1 h2
    obtain ⟨p, xs, rfl, q1, k1⟩ := h1
    obtain ⟨p', ys, rfl, q2, k2⟩ := h2
    cases rx
    cases ry
    obtain ⟨its, v1, t1, _⟩ := I.list q1
    obtain ⟨its2, v2, t2, _⟩ := I.list q2
    have e := eqDas_bits ds es
    rw [k1.length, k2.length, v1.length, v2.length] at e
    by_cases el : its.length = its2.length
    · have z := SeqAt.RcAt.lists (A := X.A) (e := bitDa ds es) t1.isList t2.isList (by simpa using el) (by omega) fun j g1 g2 =>
        eqAt_das I ds es xs ys its its2 X.A.in1 k1 k2 a v1 v2 (by rw [in1_units]; omega) j (by simpa using g1) (by simpa using g2)
      refine z X.prog X.w X.xe _ ⟨.bl _, H, I, rfl, ?_⟩
      rw [el, Nat.min_self, beq_self_eq_true, Bool.and_true] at e
      simpa [e, el] using q
    · have ne : eqDas ds es = false := by rw [e, beq_eq_false_iff_ne.mpr el, Bool.and_false]
      rw [ne] at q
      exact SeqAt.RcAt.lists_lengths t1.isList t2.isList (by simpa using el) (by omega) X.prog X.w X.xe _ ⟨.bl _, H, I, rfl, q⟩
def clsV : V → Value
  | .ty n => .type n
  | .ref a => .ref a
  | _ => .none
def isCls : V → Bool
  | .ty _ => true
  | .ref _ => true
  | _ => false
theorem cls_rel {c : V} {u : Value} (h : isCls c = true) (r : RelV c u) : u = clsV c := by
  cases c <;> first | exact r | (cases h; done)
def rIsi (K : PySem.W.Frag) : List V → Hp → VK → Prop := fun xs H Q => ∃ x c t b, xs = [x, c] ∧ isCls c = true ∧ TyOf K H x t ∧ PySem.W.kitOne K t (clsV c) = some b ∧ Q (.bl b) H
theorem call_isi : CallR X (.builtin "isinstance") (rIsi X.K) := by
  intro pins s σ H xs us Q I r h
  obtain ⟨x, c, t, b, rfl, hc, ty, e, q⟩ := h
  obtain ⟨u, w, rfl, r1, r2⟩ := vals2 r
  obtain rfl := cls_rel hc r2
  exact isinst_ok I r1 ty e fun tk => ⟨.bl b, H, I.tok tk, rfl, q⟩
end
section
variable {K : PySem.W.Frag}
theorem kind_sub {a b : String} {v : Bool} (h : ((Value.type a == Value.type b) = true → v = true) ∧ ((Value.type a == Value.type b) = false → PySem.W.kitMeta b = true ∧ (fastBuiltinMro a).map (·.contains (Value.type b)) = some v)) : PySem.W.kitOne K (.type a) (.type b) = some v := by
  unfold PySem.W.kitOne
  by_cases e : (Value.type a == Value.type b) = true
  · rw [if_pos e, h.1 e]
  · rw [if_neg e]
    obtain ⟨h1, h2⟩ := h.2 (by simpa using e)
    unfold PySem.W.kitCls
    dsimp only
    rw [if_pos h1]
    exact h2
end
theorem b_len : bootBuiltins "len" = some (.builtin "len") := by decide +kernel
theorem b_abs : bootBuiltins "abs" = some (.builtin "abs") := by decide +kernel
theorem b_isinstance : bootBuiltins "isinstance" = some (.builtin "isinstance") := by decide +kernel
theorem b_all : bootBuiltins "all" = some (.builtin "all") := by decide +kernel
theorem b_int : bootBuiltins "int" = some (.type "int") := by decide +kernel
theorem b_bool : bootBuiltins "bool" = some (.type "bool") := by decide +kernel
theorem b_str : bootBuiltins "str" = some (.type "str") := by decide +kernel
theorem b_tuple : bootBuiltins "tuple" = some (.type "tuple") := by decide +kernel
theorem b_ValueError : bootBuiltins "ValueError" = some (.type "ValueError") := by decide +kernel
theorem pe_ty {X : Cx} {x : Str} {n : String} {pos : Pos} (hg : Gl X x) (hm : X.mg x = none) (hv : bootBuiltins x = some (.type n)) (hn : x ≠ "__name__" := by decide) (hd : (x == ("__debug__" : Str)) = false := by decide) : PE X (.Name x pos) (tC (.ty n)) := pe_bltn (v := .ty n) hg hm hv rfl hn hd
def CMod (_ j : Int) : Prop := j ≠ 0
theorem nz {i j : Int} (h : j ≠ 0) : CMod i j := h
theorem op_modB {X : Cx} : OpR X (binaryOp .Mod) (rI CMod fun i j => .int (i.fmod j)) := op_modN
theorem dep_num {a b : V} : deps [.v a, .v b] ≤ 60 := by simp [deps, dep]
end Ty

set_option maxHeartbeats 4000000
namespace TyAtt
open PySem PySem.W PySem.Calls PyProof.Rows
open Builtin.Int (intBits)
theorem bits_item {ns : List Int} {n : Int} (h : (WData.list (ns.map WData.int)).layable = true) (hn : n ∈ ns) : intBits n ≤ 1048576 := by
  obtain ⟨_, _, hw⟩ := layableW_iff.mp h
  have a : ∀ (l : List Int), n ∈ l → intBits n ≤ WData.weightAll (l.map WData.int) := by
    intro l
    induction l with
    | nil => intro q; cases q
    | cons y r ih =>
      intro q
      rw [List.map_cons]
      unfold WData.weightAll
      rcases List.mem_cons.mp q with z | z
      · subst z
        have : intBits n ≤ WData.weight (.int n) := by
          unfold WData.weight
          exact Nat.le_refl _
        omega
      · have := ih z
        omega
  have b := a ns hn
  unfold WData.weight at hw
  omega
theorem attach_bits {l : OpenLaw} {n : Nat} {q : Program} {loose : List Str} {XP : (Str → Option Value) → Heap → Prop} {YP : World → Heap → Prop} {d : DefRec}
    (hn : l.most = some n) (hdf : d.params.defaults = [])
    (call : ∀ (w : World) (s₀ s₁ : Shared) (mg mb : Str → Option Value) (fa : Addr) (o : Obj) (pm cd doc : Value) (a : Addr) (vs : List Value) (ns : List Int),
      Ground q loose [] XP w s₀ mg mb s₁.heap → YP w s₁.heap →
      s₁.heap.get? fa = some o → o.data = .func (docDef d.name d.params d.body d.scope pm cd doc) → s₁.heap.CodeRec cd d.name → mg d.name = some (.ref fa) →
      s₁.heap.get? a = some { cls := .type "list", data := .seq vs.toArray } → IntsAre vs ns → ns.length ≤ n → (∀ i ∈ ns, intBits i ≤ 1048576) → s₁.gens = #[] →
      codeAny (model l.prog w) callerA (.call (.ref fa) ⟨[.ref a], []⟩) (fun r s' => r = .ok (.ret (.bool true)) ∧ OldK s₁.heap s'.heap ∧ s'.os = s₁.os ∧ AllBare s'.gens) s₁) :
    WalkO q loose XP YP l.row.toRowW d [] (fun f vs => PySem.call f vs) := by
  intro w s₀ s₁ mg mb G Y fa o pm cd doc dV kV ho hd hcd hD hmg hg args vals as hpre hlay hrd hwl hlo
  obtain rfl : dV = .none := Dflts.none hD hdf
  obtain rfl : kV = .none := Dflts.noKw hD
  obtain ⟨a, vs, ns, rfl, rfl, hobj, hints, hlen⟩ := Att.script_of hn hpre hwl
  have hb : ∀ i ∈ ns, intBits i ≤ 1048576 := fun i hi => bits_item (layW_cons hlay).1 hi
  refine enter_call (codeAny_mono (call w s₀ s₁ mg mb fa o pm cd doc a vs ns G Y ho (fd_plain hd) hcd hmg hobj hints hlen hb hg) fun r s' hq => ?_)
  obtain ⟨rfl, h2, h3, h4⟩ := hq
  exact ⟨.inl ⟨.bool true, .bool true, [], rfl, fun _ => rfl, .bool true, Att.post_true l _, fun _ => ⟨List.Pairwise.nil, fun _ hm => (nomatch hm)⟩⟩, h2, h3, h4⟩
end TyAtt
namespace Ty
open PySem PySem.Spec PyProof.Rows L2
open Builtin.Int (intBits)
structure Fn (P : Program) (w : World) (K : PySem.W.Frag) (mg : Str → Option Value) (base : Heap) (CX : CXT) (k : Nat) (x : Str) (ps : List Str) (sp : Sp) : Prop where
  ex : ∃ (f : Addr) (fd : FuncData), FnOk P w K mg base CX k f fd ps sp ∧ Binds K fd ps [] ∧ mg x = some (.ref f) ∧ PySem.W.keepIn K (.ref f) = true
structure Def (K : PySem.W.Frag) (mg : Str → Option Value) (x : Str) (st : Stmt) (ps : List Str) : Prop where
  ex : ∃ (f : Addr) (dV oc : Value) (od : Option Addr) (kV doc pm : Value) (an : Option Addr) (cdv ct : Value) (osl : Array (Option Value)),
    K.lookup f = some ⟨oc, od, .func (PySem.W.fnOf x x (defArgs st) (defBody st) (defScope st) dV kV doc pm an cdv ct), osl⟩ ∧ PySem.W.codeIn K cdv x = true ∧ PySem.W.keepIn K (.ref f) = true ∧
    Binds K (PySem.W.fnOf x x (defArgs st) (defBody st) (defScope st) dV kV doc pm an cdv ct) ps [] ∧ mg x = some (.ref f)
theorem Def.of {K : PySem.W.Frag} {mg : Str → Option Value} {x : Str} {st : Stmt} {ps : List Str} {f : Addr} {fd : FuncData} (F : Fun K x x st f fd) (b : Binds K fd ps []) (m : mg x = some (.ref f)) : Def K mg x st ps := by
  obtain ⟨oc, od, kV, doc, pm, an, cdv, ct, osl, rfl, lk, hcd⟩ := F.ex
  exact ⟨f, .none, oc, od, kV, doc, pm, an, cdv, ct, osl, lk, hcd, F.kp, b, m⟩
structure DefD (K : PySem.W.Frag) (mg : Str → Option Value) (x : Str) (st : Stmt) (ps : List Str) (ds : List Value) : Prop where
  ex : ∃ (f : Addr) (dV oc : Value) (od : Option Addr) (kV doc pm : Value) (an : Option Addr) (cdv ct : Value) (osl : Array (Option Value)),
    K.lookup f = some ⟨oc, od, .func (PySem.W.fnOf x x (defArgs st) (defBody st) (defScope st) dV kV doc pm an cdv ct), osl⟩ ∧ PySem.W.codeIn K cdv x = true ∧ PySem.W.keepIn K (.ref f) = true ∧
    Binds K (PySem.W.fnOf x x (defArgs st) (defBody st) (defScope st) dV kV doc pm an cdv ct) ps [] ∧ Binds K (PySem.W.fnOf x x (defArgs st) (defBody st) (defScope st) dV kV doc pm an cdv ct) ps ds ∧ mg x = some (.ref f)
section
variable {P : Program} {w : World} {K : PySem.W.Frag} {mg : Str → Option Value} {base : Heap} {CX : CXT}
theorem Fn.mono {j k : Nat} {x : Str} {ps : List Str} {sp : Sp} (F : Fn P w K mg base CX j x ps sp) (h : j ≤ k) : Fn P w K mg base CX k x ps sp := by
  obtain ⟨f, fd, a, b⟩ := F.ex
  exact ⟨f, fd, a.mono h, b⟩
theorem Def.ok {x : Str} {st : Stmt} {N ps : List Str} {k : Nat} {sp : Sp} (D : Def K mg x st ps) (S : FnScope N ps (defScope st)) (len : ∀ vs H Q E, sp vs H Q E → vs.length = ps.length)
    (hbody : ∀ (f : Addr) (cdv : Value) (A : Around) (outer : List Env) (s : Shared) (H : Hp) (vs : List V) (Q : VK) (E : XK), Room k (A.deeper (envOfC x (defScope st) s.heap.objs.size f cdv)) → sp vs H Q E →
      ∃ t, PSs (cxOf CX P w K mg base N x (defScope st) f cdv A outer s H E).nox (defBody st) t ∧ t { nx := fun _ H' => Q .non H', rt := Q } (start N vs) H) : Fn P w K mg base CX (k + 1) x ps sp := by
  obtain ⟨f, dV, oc, od, kV, doc, pm, an, cdv, ct, osl, lk, hcd, kp, b, m⟩ := D.ex
  refine ⟨f, _, fn_of lk hcd S len fun A outer s H vs Q E hr hsp => ?_, b, m, kp⟩
  obtain ⟨t, h, q⟩ := hbody f cdv A outer s H vs Q E hr hsp
  exact ⟨t, h.nox, q⟩
theorem _root_.L2.Fun.okG {x : Str} {st : Stmt} {f : Addr} {fd : FuncData} {N ps : List Str} {k : Nat} {sp : Sp} (F : Fun K x x st f fd) (S : FnScope N ps (defScope st)) (len : ∀ vs H Q E, sp vs H Q E → vs.length = ps.length)
    (hbody : ∀ (cdv : Value) (A : Around) (outer : List Env) (s : Shared) (H : Hp) (vs : List V) (Q : VK) (E : XK), Room k (A.deeper (envOfC x (defScope st) s.heap.objs.size f cdv)) → sp vs H Q E →
      ∃ t, PSs (cxOf CX P w K mg base N x (defScope st) f cdv A outer s H E).nox (defBody st) t ∧ t { nx := fun _ H' => Q .non H', rt := Q } (start N vs) H) : FnOk P w K mg base CX (k + 1) f fd ps sp := by
  obtain ⟨oc, od, kV, doc, pm, an, cdv, ct, osl, rfl, lk, hcd⟩ := F.ex
  refine fn_of lk hcd S len fun A outer s H vs Q E hr hsp => ?_
  obtain ⟨t, h, q⟩ := hbody cdv A outer s H vs Q E hr hsp
  exact ⟨t, h.nox, q⟩
def Mute (CX : CXT) : Prop := ∀ outer H s e s', CX outer H s E0 e s' → False
theorem passM {X : Cx} (h : Mute CX) : Passes CX X.nox E0 := fun _ _ _ _ _ _ _ q => (h _ _ _ _ _ q).elim
section
variable {X : Cx} {k : Nat} {ps : List Str} {sp : Sp} {E : XK} {x : Str} {p pos : Pos} {e : Expr} {es : List Expr} {t : TA}
theorem pe_fn (F : Fn X.prog X.w X.K X.mg X.base CX k x ps sp) (hr : Room k X.A) (hx : Passes CX X E) (ha : PA X (e :: es) t) (hg : Gl X x := by rfl) (hdb : (x == ("__debug__" : Str)) = false := by decide)
    (he : starEach (e :: es) X.env = (false, eval e X.env) :: starEach es X.env := by rfl) (hpl : (backTo pos (starEach es X.env)).any (·.1) = false := by rfl) : PE X (.Call (.Name x p) (e :: es) [] pos) (tCall sp [] E t) := by
  obtain ⟨f, fd, G, b, m, kp⟩ := F.ex
  exact pe_call G hr hg m kp b .nil hx ha hdb he hpl
structure FnD (P : Program) (w : World) (K : PySem.W.Frag) (mg : Str → Option Value) (base : Heap) (CX : CXT) (k : Nat) (x : Str) (ps : List Str) (ds : List Value) (sp : Sp) : Prop where
  ex : ∃ (f : Addr) (fd : FuncData), FnOk P w K mg base CX k f fd ps sp ∧ Binds K fd ps ds ∧ mg x = some (.ref f) ∧ PySem.W.keepIn K (.ref f) = true
end
end
def spLaw (K : PySem.W.Frag) : Sp := fun vs H Q _ => ∃ (a : Addr) (ns : List Int), vs = [.ref a] ∧ SqL K H a (ns.map V.int) ∧ ns.length ≤ 63 ∧ (∀ i ∈ ns, intBits i ≤ 1048576) ∧ ∀ H', Q (.bl true) H'
theorem walk {l : PySem.W.OpenLaw} {q : Program} {loose : List Str} {XP : (Str → Option Value) → Heap → Prop} {YP : World → Heap → Prop} {d : DefRec} {K : Params → PySem.W.Frag} {CX : World → CXT} {x : Str} {k : Nat}
    (hn : l.most = some 63) (hdf : d.params.defaults = []) (hi : importsNone q = true) (hr : Room k callerA)
    (hY : ∀ (w : World) (h : Heap), YP w h → (K w.params).In h) (hm : ∀ w, Mute (CX w))
    (F : ∀ (w : World) (mg : Str → Option Value) (fa : Addr) (h : Heap), (K w.params).In h → h.Ns mainGlobals mg → mg d.name = some (.ref fa) →
      ∃ fd : FuncData, (∀ (s : Shared) (u : Value), BindsTo s fd ⟨[u], []⟩ [(x, u)]) ∧
        ∀ base : Heap, (K w.params).In base → base.Ns mainGlobals mg → FnOk l.prog w (K w.params) mg base (CX w) k fa fd [x] (spLaw (K w.params))) :
    PySem.W.WalkO q loose XP YP l.row.toRowW d [] (fun f vs => PySem.call f vs) := by
  refine TyAtt.attach_bits hn hdf fun w s₀ s₁ mg mb fa o pm cd doc a vs ns G Y ho hd hcd hmg hobj hints hlen hb hg => ?_
  have KX := hY w _ Y
  obtain ⟨fd, hbd, hF⟩ := F w mg fa _ KX G.T.g hmg
  exact law_call KX G.T.g G.T.b G.T.builtins G.T.nolimit (G.T.seer hi) hg hobj hints (Nat.le_trans hlen (by decide)) hr hF hbd (fun H hO hS => ⟨a, ns, rfl, hS, hlen, hb, fun _ => rfl⟩) fun H e s' => hm w [] H s₁ e s'
end Ty

set_option maxHeartbeats 4000000
namespace Ty
open PySem PySem.Spec PyProof.Rows L2
theorem Un.shrink {fs fs' ex : List Addr} {H H' : Hp} {h h' : Heap} (u : Un fs' ex H H' h h') (hs : ∀ b o, h.get? b = some o → b ∈ fs' → b ∈ fs) : Un fs ex H H' h h' :=
  ⟨fun b o e n hb hx => u.keep b o e n (fun z => hb (hs b o e z)) hx, fun b o e n hb hx => u.any e n hx, u.free, u.there, u.tups, u.frzs, u.tbls⟩
theorem un_land {l : List Env} {H H' : Hp} {h h1 h2 B : Heap} (u : Un (frs l) [] H H' h h1) (s1 : B.StaysIn h1) (s2 : B.StaysIn h2) (th : ∀ b o, h.get? b = some o → b ∉ frs l → ∃ o', B.get? b = some o')
    (ff : h1.FunFrames B l) (up : h1.UpToSlots h2) : Un (frs l) [] H H' h h2 := by
  have inB : ∀ b o, h.get? b = some o → H b = none → b ∉ frs l → B.get? b = some o := fun b o e n hb => by
    obtain ⟨o', eB⟩ := th b o e hb
    have z := u.keep b o e n hb (by simp)
    rw [s1 b o' eB] at z
    cases z
    exact eB
  refine ⟨fun b o e n hb _ => s2 b o (inB b o e n hb), fun b o e n hb _ => ?_, fun b o e n _ => u.free b o e n (by simp), fun b o e _ => ?_, u.tups, u.frzs, u.tbls⟩
  · obtain ⟨sl, e1⟩ := u.any e n (by simp)
    obtain ⟨_, o', e2, nf⟩ := ff.mem hb
    rw [e1] at e2
    cases e2
    obtain ⟨sl', e3⟩ := up b _ e1 nf
    exact ⟨sl', e3⟩
  · by_cases hb : b ∈ frs l
    · obtain ⟨_, o', e2, nf⟩ := ff.mem hb
      obtain ⟨sl', e3⟩ := up b _ e2 nf
      exact ⟨_, e3⟩
    · obtain ⟨o', eB⟩ := th b o e hb
      exact ⟨o', s2 b o' eB⟩
theorem hok_land {P : Program} {w : World} {H' : Hp} {h1 h2 B : Heap} (ok : HOk P w H' h1) (s1 : B.StaysIn h1) (s2 : B.StaysIn h2) (tr : ∀ b u, H' b = some u → ∃ o, B.get? b = some o) : HOk P w H' h2 := fun b u e =>
  (ok b u e).stay (fun c v hc q => by
    obtain ⟨o, eB⟩ : ∃ o, B.get? c = some o := by
      rcases hc with z | z
      · rw [z]
        exact tr b u e
      · exact tr c _ z
    rw [s1 c o eB] at q
    cases q
    exact s2 c _ eB) (fun _ q => q) fun _ _ q => q
theorem obj_some {P : Program} {w : World} {H : Hp} {h : Heap} {a : Addr} {o : HO} (x : ObjOk P w H h a o) : ∃ ob, h.get? a = some ob := by
  cases o with
  | lst xs => obtain ⟨_, _, _, _, e⟩ := x; exact ⟨_, e⟩
  | tup xs => obtain ⟨_, _, _, ob, e, _⟩ := x; exact ⟨ob, e⟩
  | dK kvs => obtain ⟨_, _, _, _, ob, _, _, e, _⟩ := x; exact ⟨ob, e⟩
  | dT kvs => obtain ⟨_, _, _, _, ob, _, _, e, _⟩ := x; exact ⟨ob, e⟩
  | set S n => obtain ⟨ob, _, _, _, e, _⟩ := x; exact ⟨ob, e⟩
  | ins C dx fs => obtain ⟨_, _, _, e, _⟩ := x; exact ⟨_, e⟩
  | own y => exact (show ∃ o, h.get? a = some o from x)
  | xd fs => obtain ⟨_, ⟨od, _, _, e, _⟩, _⟩ := x; exact ⟨od, e⟩
  | rng lo hi => obtain ⟨_, _, _, e⟩ := x; exact ⟨_, e⟩
  | frz ob u => exact ⟨ob, x.1⟩
  | tbl ps => exact ⟨_, x⟩
  | met f y => exact ⟨_, x⟩
  | ext φ => exact x.2.1
def CXr (P : Program) (w : World) : CXT := fun outer H s E e s' => ∃ (a : Addr) (cls a0 : Value) (H' : Hp) (B : Heap),
  e = .ref a ∧ Heap.FlyingW B outer a cls a0 s'.heap ∧ Un (frs outer) [] H H' s.heap s'.heap ∧ HOk P w H' s'.heap ∧ s'.os = s.os ∧ AllBare s'.gens ∧
  (∀ b o, s.heap.get? b = some o → b ∉ frs outer → ∃ o', B.get? b = some o') ∧ (∀ b u, H' b = some u → ∃ o, B.get? b = some o) ∧ E cls none H'
theorem CXr.mute {P : Program} {w : World} : Mute (CXr P w) := fun _ _ _ _ _ ⟨_, _, _, _, _, _, _, _, _, _, _, _, _, z⟩ => z
section
variable {P : Program} {w : World} {K : PySem.W.Frag} {mg : Str → Option Value} {base : Heap} {N : List Str} {qual : Str} {scope : Scope} {f : Addr} {cdv : Value} {A : Around} {outer : List Env} {s0 : Shared} {H0 : Hp} {E : XK}
abbrev cxr (P : Program) (w : World) (K : PySem.W.Frag) (mg : Str → Option Value) (base : Heap) (N : List Str) (qual : Str) (scope : Scope) (f : Addr) (cdv : Value) (A : Around) (outer : List Env) (s0 : Shared) (H0 : Hp) (E : XK) : Cx := cxOf (CXr P w) P w K mg base N qual scope f cdv A outer s0 H0 E
theorem out_of {pins : List (Addr × Obj)} {σ : L2.St} {H H' : Hp} {s s' : Shared} {a : Addr} {cls a0 : Value} {B h2 : Heap} (I : Inv (cxr P w K mg base N qual scope f cdv A outer s0 H0 E) pins σ H s)
    (fl : Heap.FlyingW B outer a cls a0 h2) (ff : s'.heap.FunFrames B (cxr P w K mg base N qual scope f cdv A outer s0 H0 E).stack) (st : B.StaysIn s'.heap)
    (un : Un (frs (cxr P w K mg base N qual scope f cdv A outer s0 H0 E).stack) [] H H' s.heap s'.heap) (ok : HOk P w H' s'.heap) (os : s'.os = s.os) (bare : AllBare s'.gens)
    (th : ∀ b o, s.heap.get? b = some o → b ∉ frs (cxr P w K mg base N qual scope f cdv A outer s0 H0 E).stack → ∃ o', B.get? b = some o') (tr : ∀ b u, H' b = some u → ∃ o, B.get? b = some o) (up : s'.heap.UpToSlots h2) (hE : E cls none H') :
    CXr P w outer H0 s0 E (.ref a) { s' with heap := h2 } := by
  have sh : ∀ b o, s0.heap.get? b = some o → b ∈ frs (cxr P w K mg base N qual scope f cdv A outer s0 H0 E).stack → b ∈ frs outer := fun b o e hb => by
    rcases List.mem_cons.mp (I.stkSub b hb) with z | z
    · subst z
      exact absurd (Nat.lt_of_lt_of_le (Heap.lt_size e) I.ok.above) (Nat.lt_irrefl _)
    · exact z
  have un2 := un_land un st fl.1 th ff up
  have ub : Un (frs (cxr P w K mg base N qual scope f cdv A outer s0 H0 E).stack) [] H0 H s0.heap s.heap := I.base.mono (fun b hb => by
    obtain ⟨env, he, hf⟩ := List.mem_filterMap.mp hb
    exact List.mem_filterMap.mpr ⟨env, List.mem_cons_of_mem _ he, hf⟩) fun _ z => z
  refine ⟨a, cls, a0, H', B, rfl, fl, Un.shrink (ub.trans un2) sh, hok_land ok st fl.1 tr, os.trans I.os, bare, fun b o e hb => ?_, tr, hE⟩
  obtain ⟨o', e'⟩ := I.base.there b o e (fun z => (nomatch (show b ∈ ([] : List Addr) from z)))
  exact th b o' e' fun z => hb (sh b o e z)
theorem pass_up : Passes (CXr P w) (cxr P w K mg base N qual scope f cdv A outer s0 H0 E) E := fun pins σ H s e s' I q => by
  obtain ⟨a, cls, a0, H', B, rfl, fl, un, ok, os, bare, th, tr, hE⟩ := q
  show wpAny (model P w) (A.deeper (envOfC qual scope s0.heap.objs.size f cdv)) (leaving (envOfC qual scope s0.heap.objs.size f cdv) (.ref a)) _ _ s'
  exact wpAny_leaves_onW (outer := outer) I.ok.frames rfl fl fun h2 fl2 up => out_of I fl2 fl.2.2.1 fl.1 un ok os bare th tr up hE
theorem exc_obj {h : Heap} {C : Addr} {bmB : List Value} {newId : String} (X : K.In h) (q : PySem.W.excIn K C bmB newId = true) :
    ∃ bm N nm q bs hdct sn sub ab col dd k0 k1 k2 k3 k5 mN, h.get? C = some (excClassObj nm q C N bs bm hdct sn sub ab col dd k0 k1 k2 k3 k5 newId) ∧ h.Ns N mN ∧ mN "__init__" = none ∧ OwnTail h bmB bm := by
  unfold PySem.W.excIn at q
  split at q
  · rename_i dd cd sl ho
    split at q
    · rename_i C' bm k0 k1 k2 k3 n k5 hm hs
      simp only [Bool.and_eq_true, beq_iff_eq, Bool.not_eq_true'] at q
      obtain ⟨⟨⟨⟨⟨rfl, rfl⟩, hdel⟩, ht⟩, hok⟩, hni⟩ := q
      obtain ⟨nm, bs, mro, ns, qn, hd, sn, sub, ab, col, del⟩ := cd
      dsimp only at hm hdel hok hni
      subst hm hdel
      have hsl : sl = #[k0, k1, k2, k3, some (.builtin n), k5] := by
        obtain ⟨l⟩ := sl
        simp only at hs
        rw [hs]
      subst hsl
      exact ⟨bm, ns, nm, qn, bs, hd, sn, sub, ab, col, dd, k0, k1, k2, k3, k5, _, X _ _ ho, .of_isNs (PySem.W.isNs_of_in X hok), PySem.W.nsMap_none_of_in X hok hni, PySem.W.tail_of_in X ht⟩
    · cases q
  · cases q
def tRaise (C : Addr) (E : XK) (ta : TA) : TS := fun _ σ H => ta σ H fun vs H1 => vs.length ≤ sizeLine ∧ E (.ref C) none H1
theorem ps_raise {x : Str} {C : Addr} {Bn newId initId : String} {bmB : List Value} {e₀ : Expr} {rest : List Expr} {np cpos pos : Pos} {ta : TA} (FB : ExcBaseFacts Bn newId initId bmB) (hm : mg x = some (.ref C)) (hq : PySem.W.excIn K C bmB newId = true)
    (hh : (A.deeper (envOfC qual scope s0.heap.objs.size f cdv)).handled = none) (ha : PA (cxr P w K mg base N qual scope f cdv A outer s0 H0 E).nox (e₀ :: rest) ta)
    (hg : Gl (cxr P w K mg base N qual scope f cdv A outer s0 H0 E) x := by rfl) (hd : (x == ("__debug__" : Str)) = false := by decide)
    (he : starEach (e₀ :: rest) (cxr P w K mg base N qual scope f cdv A outer s0 H0 E).env = (false, eval e₀ (cxr P w K mg base N qual scope f cdv A outer s0 H0 E).env) :: starEach rest (cxr P w K mg base N qual scope f cdv A outer s0 H0 E).env := by rfl)
    (hp : (backTo cpos (starEach rest (cxr P w K mg base N qual scope f cdv A outer s0 H0 E).env)).any (·.1) = false := by rfl) :
    PS (cxr P w K mg base N qual scope f cdv A outer s0 H0 E) (.Raise (some (.Call (.Name x np) (e₀ :: rest) [] cpos)) none pos) (tRaise C E ta) := by
  intro pins s σ H D I h
  obtain ⟨tl, Na, nm, q, bs, hdct, sn, sub, ab, col, dd, k0, k1, k2, k3, k5, mN, hC, hN, hni, T⟩ := exc_obj (h := base) I.mod.kin hq
  refine wpAny_Raise_call_subT (C := C) (nm := nm) (q := q) (N := Na) (bs := bs) (bm := tl) (hdct := hdct) (sn := sn) (sub := sub) (ab := ab) (col := col) (dd := dd) (k0 := k0) (k1 := k1) (k2 := k2) (k3 := k3) (k5 := k5)
    FB (mN := mN) (T.hasType FB.hasBase) hh (by rw [he]; show (false || (backTo cpos (starEach rest _)).any (·.1)) = false; rw [hp]; rfl) hni (ld_glob I hg hm ⟨rfl, ?_⟩ hd)
  suffices z : wpAny (model P w) (A.deeper (envOfC qual scope s0.heap.objs.size f cdv)) (spliced (backTo cpos (starEach (e₀ :: rest) (cxr P w K mg base N qual scope f cdv A outer s0 H0 E).env))) (fun vs s₂ => vs.length ≤ sizeLine ∧ (∀ b o, base.get? b = some o → s₂.heap.get? b = some o) ∧
      ∀ h' e, Heap.MadeExcOf s₂.heap h' e (.ref C) vs → (cxr P w K mg base N qual scope f cdv A outer s0 H0 E).xe (.ref e) { s₂ with heap := h' }) (cxr P w K mg base N qual scope f cdv A outer s0 H0 E).xe s by
    rw [he] at z ⊢
    exact Calls.evalArgs_plain (wpAny_mono z (fun vs s₂ h₂ => ⟨rfl, h₂.1, h₂.2.1 _ _ hC, hN.keeps h₂.2.1, T.keeps h₂.2.1, h₂.2.2⟩) fun _ _ y => y)
  refine wpAny_mono (ha cpos pins s σ H _ (I.wish _) h) (fun us s2 z => ?_) fun _ _ z => z.elim
  obtain ⟨vs, H1, I1, r, hl, hE⟩ := z
  have I2 : Inv (cxr P w K mg base N qual scope f cdv A outer s0 H0 E) pins σ H1 s2 := I1.unwish
  have bk := I2.bk
  refine ⟨by rw [← r.length]; exact hl, bk, fun h' e hx => ?_⟩
  show wpAny (model P w) (A.deeper (envOfC qual scope s0.heap.objs.size f cdv)) (leaving (envOfC qual scope s0.heap.objs.size f cdv) (.ref e)) _ _ { s2 with heap := h' }
  have hin : ∀ env ∈ (cxr P w K mg base N qual scope f cdv A outer s0 H0 E).stack, ∀ b, env.frame = some b → b ∈ frs (cxr P w K mg base N qual scope f cdv A outer s0 H0 E).stack := fun env he b hb => List.mem_filterMap.mpr ⟨env, he, hb⟩
  have ffB := PySem.W.funFrames_hide I2.stack hin
  have st : (PySem.W.hideAll s2.heap (frs (cxr P w K mg base N qual scope f cdv A outer s0 H0 E).stack)).StaysIn s2.heap := fun b o q => PySem.W.of_hideAll _ q
  refine wpAny_leaves_madeW (outer := outer) I.ok.frames rfl st ffB hx fun h2 t fl _ _ up => ?_
  refine out_of (s' := { s2 with heap := h' }) (H := H1) (s := s2) I2 fl (ffB.of_keeps fun b o e _ => ⟨o, hx.keeps b o e, rfl⟩) (fun b o q => hx.keeps b o (st b o q)) (Un.kept hx.keeps) (I2.hok.kept hx.keeps) rfl I2.bare (fun b o e hb => ⟨o, PySem.W.hideAll_get _ e hb⟩) (fun b u e => ?_) up hE
  obtain ⟨o, ho⟩ : ∃ o, s2.heap.get? b = some o := by
    have := I2.hok b u e
    exact obj_some this
  exact ⟨o, PySem.W.hideAll_get _ ho fun z => by
    have := I2.stkFree b z
    rw [e] at this
    cases this⟩
end
end Ty

set_option maxHeartbeats 4000000
namespace Ty
open PySem PySem.Spec PyProof.Rows L2
section
variable {X : Cx} {pins : List (Addr × Obj)} {σ : L2.St} {H H' : Hp} {s : Shared}
theorem gone_ok {M : Model} {A : Around} {E : Value → Shared → Prop} {i : Nat} {x : Str} {pos : Pos} {Q : Unit → Shared → Prop} (I : Inv X pins σ H s) (hN : X.N.Nodup) (hi : X.N[i]? = some x) (hk : X.env.scope.names.lookup x = some .local)
    (h : ∀ s', Inv X pins (σ.set i none) H s' → Q () s') : wpAny M A (do bindName X.env x .none; unbindBehindTheSuite X.env x pos) Q E s := by
  obtain ⟨m, hn, hl⟩ := id I.loc
  have hcls : (X.env.scope.kind == .class || (X.env.scope.kind == .module && X.env.locals != X.env.globals)) = false := by rw [I.ok.kind]; rfl
  have hiσ : i < σ.length := by rw [I.len]; exact (List.getElem?_eq_some_iff.mp hi).1
  have cne := I.cne
  refine wpAny_nameGoes_keeps hk hn hcls fun h' v0 hn' hs => ?_
  obtain ⟨oL, _, _, hoL, _⟩ := id hn
  have tracked : HOk X.prog X.w H h' := fun b ob e => by
    refine (I.hok b ob e).stay (fun c w' hc q => (hs.2 c ?_).trans q) (fun _ q => q) fun _ _ q => q
    rintro rfl
    have hfree := I.free
    rcases hc with rfl | hc
    · rw [hfree] at e; cases e
    · rw [hfree] at hc; cases hc
  refine h _ ⟨I.ok, I.os, I.bare, ⟨fun b o e n hb hx => ?_, fun b o e n hb hx => ?_, I.base.free, fun b o e hx => ?_, I.base.tups, I.base.frzs, I.base.tbls⟩, ⟨_, hn', fun j y v' e1 e2 e3 => ?_⟩, fun y c e => ?_, I.free, I.freeC, fun p hp => ?_, tracked, by simpa using I.len⟩
  · exact (hs.2 b (Nat.ne_of_lt (Nat.lt_of_lt_of_le (Heap.lt_size e) I.ok.above))).trans (I.base.keep b o e n hb hx)
  · obtain ⟨sl, e1⟩ := I.base.slot b o e n hb hx
    exact ⟨sl, (hs.2 b (Nat.ne_of_lt (Nat.lt_of_lt_of_le (Heap.lt_size e) I.ok.above))).trans e1⟩
  · obtain ⟨o', e1⟩ := I.base.there b o e hx
    exact ⟨o', (hs.2 b (Nat.ne_of_lt (Nat.lt_of_lt_of_le (Heap.lt_size e) I.ok.above))).trans e1⟩
  · by_cases hj : j = i
    · subst hj
      rw [List.getElem?_set_self hiσ] at e2
      cases e2
    · rw [List.getElem?_set_ne (Ne.symm hj)] at e2
      obtain ⟨u', r', q⟩ := hl j y v' e1 e2 e3
      refine ⟨u', r', ?_⟩
      rcases q with ⟨k, e⟩ | ⟨k, c, e, z⟩
      · refine .inl ⟨k, ?_⟩
        have : y ≠ x := fun e => hj (nodup_ix hN e1 (e ▸ hi))
        simp [this, e]
      · exact .inr ⟨k, c, e, z.sameBut hs (cne y c e)⟩
  · obtain ⟨w', z⟩ := I.cell y c e
    exact ⟨w', z.sameBut hs (cne y c e)⟩
  · obtain ⟨e, n, ne, nf, d⟩ := I.pin p hp
    exact ⟨(hs.2 p.1 ne).trans e, n, ne, nf, d⟩
abbrev hnd (X : Cx) (a : Addr) : Cx := { X with A := X.A.mark (some (.ref a)), calm := false, xe := fun _ _ => False }
theorem hnd_ok {a : Addr} (ok : X.Ok) : (hnd X a).Ok :=
  ⟨ok.mod, ok.kind, ok.glob, ok.blt, ok.above, ok.inj, ok.has, ok.cab, fun z => (nomatch z), ok.frames, ok.stk, ok.exf, ok.bs, ok.bsz, ok.noex, ok.exfs, ok.funs, ok.frf⟩
theorem to_hnd {a : Addr} (I : Inv X pins σ H s) : Inv (hnd X a) pins σ H s := ⟨hnd_ok I.ok, I.os, I.bare, I.base, I.loc, I.cell, I.free, I.freeC, I.pin, I.hok, I.len⟩
theorem of_hnd {a : Addr} (ok : X.Ok) (I : Inv (hnd X a) pins σ H s) : Inv X pins σ H s := ⟨ok, I.os, I.bare, I.base, I.loc, I.cell, I.free, I.freeC, I.pin, I.hok, I.len⟩
theorem track {a : Addr} {o : HO} (I : Inv X pins σ H s) (fresh : ∀ ob, X.s₀.heap.get? a ≠ some ob) (hp : ∀ p ∈ X.pn ++ pins, p.1 ≠ a) (hL : a ≠ X.env.locals) (hC : ∀ x c, X.env.cells.lookup x = some c → c ≠ a) (hn : H a = none)
    (new : ObjOk X.prog X.w (upd H a o) s.heap a o) : Inv X pins σ (upd H a o) s := by
  have ne : ∀ b u, H b = some u → b ≠ a := fun b u e z => by rw [z, hn] at e; cases e
  refine ⟨I.ok, I.os, I.bare, ⟨I.base.keep, I.base.slot, fun b ob e n hx => ?_, I.base.there, fun b xs e => ?_, fun b ob u e => ?_, fun b ps e => ?_⟩, I.loc, I.cell, ?_, fun x c e => ?_, fun p h => ?_, fun b u e => ?_, I.len⟩
  · rw [upd_ne (fun z => fresh ob (by rw [← z]; exact e))]
    exact I.base.free b ob e n hx
  · have q := I.base.tups b xs e
    rw [upd_ne (ne _ _ q)]
    exact q
  · have q := I.base.frzs b ob u e
    rw [upd_ne (ne _ _ q)]
    exact q
  · obtain ⟨more, q⟩ := I.base.tbls b ps e
    exact ⟨more, by rw [upd_ne (ne _ _ q)]; exact q⟩
  · rw [upd_ne (Ne.symm hL)]
    exact I.free
  · rw [upd_ne (hC x c e)]
    exact I.freeC x c e
  · obtain ⟨e, n, r⟩ := I.pin p h
    exact ⟨e, by rw [upd_ne (hp p h)]; exact n, r⟩
  · by_cases z : b = a
    · subst z
      rw [upd_same] at e
      cases e
      exact new
    · rw [upd_ne z] at e
      exact (I.hok b u e).stay (fun _ _ _ q => q) (fun c q => by rw [upd_ne (ne _ _ q)]; exact q) fun c xs q => by rw [upd_ne (ne _ _ q)]; exact q
def excO (cls : Value) (a : Addr) : HO := .ext fun h => ∃ o vs, h.get? a = some o ∧ o.cls = cls ∧ o.data = .fields vs
theorem excO_ok {P : Program} {w : World} {cls : Value} {a : Addr} {h : Heap} {o : Obj} {vs : Array Value} (e : h.get? a = some o) (hc : o.cls = cls) (hd : o.data = .fields vs) : ObjOk P w H h a (excO cls a) :=
  ⟨⟨o, vs, e, hc, hd⟩, ⟨o, e⟩, fun _ _ ⟨o', vs', q, c, d⟩ k => ⟨o', vs', k _ q, c, d⟩⟩
structure Ld (X : Cx) (pins : List (Addr × Obj)) (σ : L2.St) (H : Hp) (a : Addr) (cls : Value) (s : Shared) : Prop where
  ex : ∃ (H0 : Hp) (s0 : Shared) (a0 : Value) (B : Heap), Inv X pins σ H0 s0 ∧ Heap.FlyingW B X.stack a cls a0 s.heap ∧ Un (frs X.stack) [] H0 H s0.heap s.heap ∧ HOk X.prog X.w H s.heap ∧ s.os = s0.os ∧ AllBare s.gens ∧
    (∀ b o, s0.heap.get? b = some o → b ∉ frs X.stack → ∃ o', B.get? b = some o') ∧ (∀ b u, H b = some u → ∃ o, B.get? b = some o)
theorem Ld.inv {a : Addr} {cls : Value} (L : Ld X pins σ H a cls s) : Inv X pins σ H s := by
  obtain ⟨H0, s0, a0, B, I, fl, un, ok, os, bare, th, tr⟩ := L.ex
  exact I.call' (ch := []) os un ok bare fun b z => absurd z (by simp)
theorem Ld.free {a : Addr} {cls : Value} (L : Ld X pins σ H a cls s) : H a = none := by
  obtain ⟨H0, s0, a0, B, I, fl, un, ok, os, bare, th, tr⟩ := L.ex
  cases q : H a with
  | none => rfl
  | some u =>
    obtain ⟨o, e⟩ := tr a u q
    rw [fl.2.1] at e
    cases e
abbrev TH := Value → Ends → L2.St → Hp → Prop
def PH (X : Cx) (hs : List ExceptHandler) (t : TH) : Prop :=
  ∀ (pins : List (Addr × Obj)) (s : Shared) (σ : L2.St) (H : Hp) (a : Addr) (cls : Value) (D : Ends), Ld X pins σ H a cls s → t cls D σ H → wpAny (model X.prog X.w) X.A (handleBy (.ref a) X.env hs) (SP X pins D) X.xe s
theorem ph_nil : PH X [] (fun _ _ _ _ => False) := fun _ _ _ _ _ _ _ _ h => h.elim
structure ClsN (X : Cx) (c : Str) (cv : Value) : Prop where
  ld : ∀ (a : Addr) (pins : List (Addr × Obj)) (s : Shared) (σ : L2.St) (H : Hp) (np : Pos) (Q : Value → Shared → Prop) (E : Value → Shared → Prop), Inv (hnd X a) pins σ H s → Q cv s → wpAny (model X.prog X.w) (X.A.mark (some (.ref a))) (eval (.Name c np) X.env) Q E s
theorem ClsN.own {c : Str} {C : Addr} (hm : X.mg c = some (.ref C)) (hg : Gl X c := by rfl) (hd : (c == ("__debug__" : Str)) = false := by decide) : ClsN X c (.ref C) :=
  ⟨fun a pins s σ H np Q E I h => ld_glob (X := hnd X a) I hg hm h hd⟩
def tAs (i : Nat) (cv : Value) (K : PySem.W.Frag) (ts : TS) (tr : TH) : TH := fun cls D σ H => ∃ b, PySem.W.exmOne K cls cv = some b ∧
  if b = true then ∀ a, H a = none → ts { nx := fun σ2 H2 => D.nx (σ2.set i none) H2, rt := D.rt, bk := fun σ2 H2 => D.bk (σ2.set i none) H2, ct := fun σ2 H2 => D.ct (σ2.set i none) H2 } (σ.set i (some (.ref a))) (upd H a (excO cls a)) else tr cls D σ H
theorem ph_as {c n : Str} {cv : Value} {i : Nat} {b₀ : Stmt} {suite : List Stmt} {np pos : Pos} {rest : List ExceptHandler} {ts : TS} {tr : TH} (hc : ClsN X c cv) (hN : X.N.Nodup) (hi : X.N[i]? = some n) (hk : X.env.scope.names.lookup n = some .local)
    (ht : ∀ a, PSs (hnd X a) (b₀ :: suite) ts) (hr : PH X rest tr) (hex : X.ex = [] := by rfl) : PH X (.ExceptHandler (some (.Name c np)) (some n) (b₀ :: suite) pos :: rest) (tAs i cv X.K ts tr) := by
  intro pins s σ H a cls D L h
  obtain ⟨b, hb, h⟩ := h
  have I := L.inv
  refine wpAny_handleBy_cons (codeAny_handlers_test (hc.ld a pins s σ H np _ _ (to_hnd I) ?_)) (by intro q; cases q)
  obtain ⟨H0, s0, a0, B, I0, fl, un, ok, os, bare, th, tr'⟩ := L.ex
  obtain ⟨ob, hob, hcls⟩ := fl.there
  have LT : PySem.W.Looks (model X.prog X.w) s.heap (typeOf (.ref a)) cls := by
    subst hcls
    exact (PySem.W.Looks.ld hob).andThen .now
  refine (PySem.W.exm_one I.kIn LT hb).here ?_
  cases b with
  | false =>
    rw [if_neg Bool.false_ne_true] at h
    exact hr pins s σ H a cls D L h
  | true =>
    rw [if_pos rfl] at h
    refine codeAny_handlers_suite_as ?_
    refine lands_againW fl fun h6 fl6 up => ?_
    have un6 := un_land un fl.1 fl6.1 th fl.2.2.1 up
    have ok6 := hok_land ok fl.1 fl6.1 tr'
    have I6 : Inv X pins σ H { s with heap := h6 } := I0.call' (ch := []) os un6 ok6 bare fun b z => absurd z (by simp)
    have fr := L.free
    obtain ⟨oe, ws, hoe, hoec, hoed, _⟩ := fl6.first
    have ne : ∀ b u, H b = some u → b ≠ a := fun b u e z => by rw [z, fr] at e; cases e
    have new0 : ∀ o, s0.heap.get? a ≠ some o := fun o e => by
      by_cases hb : a ∈ frs X.stack
      · obtain ⟨_, o', e', nf⟩ := fl6.2.2.1.mem hb
        rw [hoe] at e'
        cases e'
        exact nf _ hoed
      · obtain ⟨o', eB⟩ := th a o e hb
        rw [fl.2.1] at eB
        cases eB
    have I7 : Inv X pins σ (upd H a (excO cls a)) { s with heap := h6 } := by
      refine track I6 (fun o e => ?_) (fun p hp z => ?_) (fun z => ?_) (fun x c e z => ?_) fr (excO_ok hoe hoec hoed)
      · obtain ⟨o', e'⟩ := I0.base.there a o e (by rw [hex]; simp)
        exact new0 o' e'
      · have q := (I0.pin p hp).1
        rw [z] at q
        exact new0 _ q
      · obtain ⟨m, ⟨oL, es, ep, ho, hd, _⟩, _⟩ := I6.loc
        rw [← z, show ({ s with heap := h6 } : Shared).heap.get? a = some oe from hoe] at ho
        cases ho
        rw [hoed] at hd
        cases hd
      · obtain ⟨v, ⟨oc, ho, hd⟩⟩ := I6.cell x c e
        rw [z, show ({ s with heap := h6 } : Shared).heap.get? a = some oe from hoe] at ho
        cases ho
        rw [hoed] at hd
        cases hd
    refine store_ok I7 hN hi (.inl hk) (v := .ref a) (u := .ref a) rfl (fun s8 I8 => ?_) (.inr hk)
    refine wpAny_mono (ht a pins s8 _ _ _ (to_hnd I8) (h a fr)) (fun f s9 q => ?_) fun _ _ z => z.elim
    cases f with
    | next =>
      obtain ⟨σ2, H2, J, q⟩ := q
      exact gone_ok (of_hnd I0.ok J) hN hi hk fun s' J' => ⟨_, _, J', q⟩
    | brk =>
      obtain ⟨σ2, H2, J, q⟩ := q
      exact gone_ok (of_hnd I0.ok J) hN hi hk fun s' J' => ⟨_, _, J', q⟩
    | cont =>
      obtain ⟨σ2, H2, J, q⟩ := q
      exact gone_ok (of_hnd I0.ok J) hN hi hk fun s' J' => ⟨_, _, J', q⟩
    | ret u =>
      obtain ⟨v, σ2, H2, J, r, q⟩ := q
      exact gone_ok (of_hnd I0.ok J) hN hi hk fun s' J' => ⟨v, _, _, J', r, q⟩
def XP (X : Cx) (pins : List (Addr × Obj)) (σ : L2.St) (E : XK) (e : Value) (s' : Shared) : Prop := ∃ H s, Inv X pins σ H s ∧ CXr X.prog X.w X.stack H s E e s'
abbrev TEx := L2.St → Hp → VK → XK → Prop
abbrev TSx := Ends → (L2.St → XK) → L2.St → Hp → Prop
def PEx (X : Cx) (e : Expr) (t : TEx) : Prop :=
  ∀ (pins : List (Addr × Obj)) (s : Shared) (σ : L2.St) (H : Hp) (Q : VK) (E : XK), Inv X pins σ H s → t σ H Q E → wpAny (model X.prog X.w) X.A (eval e X.env) (EP X pins σ Q) (XP X pins σ E) s
def PSx (X : Cx) (st : Stmt) (t : TSx) : Prop :=
  ∀ (pins : List (Addr × Obj)) (s : Shared) (σ : L2.St) (H : Hp) (D : Ends) (E : L2.St → XK), Inv X pins σ H s → t D E σ H → wpAny (model X.prog X.w) X.A (exec st X.env) (SP X pins D) (fun e s' => ∃ σ', XP X pins σ' (E σ') e s') s
theorem px_fn {k : Nat} {ps : List Str} {sp : Sp} {x : Str} {p pos : Pos} {e : Expr} {es : List Expr} {t : TA} (F : Fn X.prog X.w X.K X.mg X.base (CXr X.prog X.w) k x ps sp) (hr : Room k X.A) (ha : PA X.nox (e :: es) t) (hg : Gl X x := by rfl) (hdb : (x == ("__debug__" : Str)) = false := by decide)
    (he : starEach (e :: es) X.env = (false, eval e X.env) :: starEach es X.env := by rfl) (hpl : (backTo pos (starEach es X.env)).any (·.1) = false := by rfl) :
    PEx X (.Call (.Name x p) (e :: es) [] pos) (fun σ H Q E => t σ H fun vs H1 => sp vs H1 Q E) := by
  intro pins s σ H Q E I h
  obtain ⟨f, fd, G, b, m, kp⟩ := F.ex
  refine wpAny_Call_Name_kw (ld_glob I hg m ?_ hdb)
  refine PySem.W.callWith_K (h₀ := X.base) I.ok.mod.kin kp (wpAny_mono (ha pos pins s σ H _ (I.wish _) h) (fun us s1 ⟨vs, H1, I1, r, q⟩ => ⟨I1.kIn, ?_⟩) fun _ _ z => z.elim) he hpl
  have I2 : Inv X pins σ H1 s1 := I1.unwish
  have hl : us.length = ps.length := by rw [← r.length]; exact G.len _ _ _ _ q
  have bt := b s1 us I2.kIn (by rw [List.append_nil]; exact hl)
  rw [List.append_nil] at bt
  refine wpAny_call (codeAny_mono (G.run X.A X.stack s1 H1 ⟨us, []⟩ us vs Q E hr I2.env0 bt r q) fun r s' hq => ?_)
  cases r with
  | error e => exact ⟨H1, s1, I2, hq⟩
  | ok fl =>
    cases fl with
    | ret u => exact I2.after hq
    | next => exact False.elim hq
    | brk => exact False.elim hq
    | cont => exact False.elim hq
theorem psx_expr {e : Expr} {te : TEx} {pos : Pos} (he : PEx X e te) (hs : swapsWith e none pos.line X.env = pure false := by rfl) : PSx X (.Expr e pos) (fun D E σ H => te σ H (fun _ H1 => D.nx σ H1) (E σ)) := by
  intro pins s σ H D E I h
  refine wpAny_Expr_any (wpAny_mono (he pins s σ H _ _ I h) (fun v s1 z => ?_) fun e s' z => ⟨σ, z⟩) I.quiet hs
  obtain ⟨y, H1, I1, r1, q1⟩ := z
  exact ⟨σ, H1, I1, q1⟩
theorem ps_try {st : Stmt} {h₀ : ExceptHandler} {hs : List ExceptHandler} {pos : Pos} {tb : TSx} {th : TH} (hstk : X.stack = X.env :: X.outer ∧ X.env.frame = some X.env.locals) (hb : PSx X st tb) (hh : PH X (h₀ :: hs) th) :
    PS X (.Try [st] (h₀ :: hs) [] [] pos) (fun D σ H => tb D (fun σ' cls _ H' => th cls D σ' H') σ H) := by
  intro pins s σ H D I h
  refine wpAny_Try_except (wpAny_execs_cons (wpAny_mono (hb pins s σ H D _ I h) (fun f s1 q => ?_) fun e s1 z => ?_))
  · cases f with
    | next => exact wpAny_execs_nil (wpAny_execs_nil q)
    | ret v => exact q
    | brk => exact q
    | cont => exact q
  · obtain ⟨σ', H0, s0, I0, a, cls, a0, H', B, rfl, fl, un, ok, os, bare, th', tr, hE⟩ := z
    have fl' := fl
    rw [hstk.1] at fl'
    have hfr : X.A.frames = some (X.env :: X.outer) := by rw [← hstk.1]; exact I.ok.frames
    refine wpAny_looks_onW hfr hstk.2 fl' fun h4 hheld up4 => ?_
    refine wpAny_landsW hheld fun h5 fl5 up5 => ?_
    rw [← hstk.1] at fl5
    have up := up4.trans up5
    exact hh pins { s1 with heap := h5 } σ' H' a cls D ⟨H0, s0, a0, B, I0, fl5, un_land un fl.1 fl5.1 th' fl.2.2.1 up, hok_land ok fl.1 fl5.1 tr, os, bare, th', tr⟩ hE
end
end Ty

set_option maxHeartbeats 4000000
namespace TyExc
open PySem PySem.W PySem.Calls PyProof.Rows Builtin Builtin.ObjectAttr Builtin.Getset_descriptor
structure ExcK (K : Frag) (C : Addr) : Prop where
  ga : findIn K (.ref C) "__getattribute__" = some (some (.builtin "BaseException.__getattribute__"))
  gt : findIn K (.ref C) "__getattr__" = some none
  cl : findIn K (.ref C) "__class__" = some (some (.builtin "object.__class__"))
  mo : mroIn K C (.type "object") = some true
  mb : mroIn K C (.type "BaseException") = some true
  is : (clsIn K C).isSome = true
section
variable {prog : Program} {w : World} {A : Around} {E : Value → Shared → Prop} {K : Frag} {h : Heap} {g : Array GenState} {d : Drawn} {t : Nat} {os : OsState} {a C : Addr} {o : Obj}
theorem type_at {M : Model} (hx : h.get? a = some o) (hc : o.cls = .ref C) : Looks M h (typeOf (.ref a)) (.ref C) := by
  subst_vars
  rw [← hc]
  exact (Looks.ld hx).andThen .now
theorem class_get_exc {R : Result → Shared → Prop} {tp : Value} (X : K.In h) (F : ExcK K C) (hx : h.get? a = some o) (hc : o.cls = .ref C)
    (hq : R (.ok (.ret (.ref C))) ⟨h, g, d, t, os⟩) : codeAny (model prog w) A (.call (.builtin "getset_descriptor.__get__") ⟨[.builtin "object.__class__", .ref a, tp], []⟩) R ⟨h, g, d, t, os⟩ := by
  have L0 := type_at (M := model prog w) hx hc
  have L1 := looks_mroIn (M := model prog w) X F.mo
  refine codeAny_call_builtin KF.slot_gs.plain KF.entry_gs (KF.slot_gs.check _ _ _ _ _ _ _ _ KF.type_class (KF.args_gs _ _ _) ?_)
  unfold Builtin.«getset_descriptor.__get__» descrGet
  rw [dga_obj]
  refine wpAny_bind (wpAny_pure ?_)
  unfold descrGetter descrCheckInstance descrNameAndClass isInstance
  simp only [KF.owner_class]
  repeat lk
  refine ⟨Code.quiet_builtin _ (by decide +kernel), codeAny_builtin KF.entry_class ?_⟩
  unfold Builtin.«object.__class__» shownTypeOf
  repeat lk
  exact hq
theorem check_ga_exc {M : Model} {nameV : Value} {Q : Unit → Shared → Prop} (X : K.In h) (F : ExcK K C) (hx : h.get? a = some o) (hc : o.cls = .ref C)
    (hq : Q () ⟨h, g, d, t, os⟩) : wpAny M A (checkBuiltinCall "BaseException.__getattribute__" ⟨[.ref a, nameV], []⟩) Q E ⟨h, g, d, t, os⟩ := by
  have hk : builtinKind "BaseException.__getattribute__" = some .slot := by decide +kernel
  have hsplit : splitId "BaseException.__getattribute__" = some ("BaseException", "__getattribute__") := by decide +kernel
  have ha := PySem.F.args_bexc_ga (.ref a) nameV
  have L0 := type_at (M := M) hx hc
  have L1 := looks_mroIn (M := M) X F.mb
  simp only [checkBuiltinCall, hk, hsplit]
  refine wpAny_bind ?_
  · unfold isInstance
    repeat (first | lk | wp_step)
    exact hq
theorem class_entry_exc {tk : Tok} {Q : Fin → Shared → Prop} (X : K.In h) (F : ExcK K C) (hx : h.get? a = some o) (hc : o.cls = .ref C)
    (hq : Q (.done (.ret (.ref C))) ⟨h, g, d, t, os⟩) : wpAny (model prog w) A (Builtin.«object.__getattribute__» ⟨[.ref a, .str "__class__" tk], []⟩) Q E ⟨h, g, d, t, os⟩ := by
  have L0 := type_at (M := model prog w) hx hc
  have L1 := looks_findIn (M := model prog w) X F.cl
  have hT5 : (⟨h, g, d, t, os⟩ : Shared).TypeIs (.builtin "object.__class__") "getset_descriptor" := PySem.F.typeOf_object_class
  have f5 := PySem.F.typeOf_object_class
  have f6 := PySem.F.slot_gs_get.lookup
  have f7 := PySem.F.slot_gs_set.lookup
  repeat (any_goals (first | assumption | with_reducible refine L1.at ?_ | with_reducible refine L0.at ?_ | (with_reducible refine wpAny_loadPart_at hx ?_; rw [hc]) | wp_step))
  refine class_get_exc X F hx hc ?_
  repeat (any_goals (first | assumption | wp_step))
theorem class_call_exc {tk : Tok} {R : Result → Shared → Prop} (X : K.In h) (F : ExcK K C) (hx : h.get? a = some o) (hc : o.cls = .ref C)
    (hq : R (.ok (.ret (.ref C))) ⟨h, g, d, t, os⟩) : codeAny (model prog w) A (.call (.builtin "BaseException.__getattribute__") ⟨[.ref a, .str "__class__" tk], []⟩) R ⟨h, g, d, t, os⟩ :=
  codeAny_call_builtin PySem.F.attr_ValueError.ga.plain PySem.F.entry_bexc_ga (check_ga_exc X F hx hc (class_entry_exc X F hx hc hq))
theorem class_by_exc {tk : Tok} {Q : Value → Shared → Prop} (X : K.In h) (F : ExcK K C) (hx : h.get? a = some o) (hc : o.cls = .ref C)
    (hq : Q (.ref C) ⟨h, g, d, t, os⟩) : wpAny (model prog w) A (getAttrBy (.ref a) (.str "__class__" tk) false) Q E ⟨h, g, d, t, os⟩ := by
  have L0 := type_at (M := model prog w) hx hc
  have L1 := looks_findIn (M := model prog w) X F.ga
  have L2 := looks_findIn (M := model prog w) X F.gt
  have f3 := PySem.F.attr_ValueError.ga.bind (.ref a)
  have hx2 : (Value.builtin "BaseException.__getattribute__" == Value.builtin "object.__getattribute__") = false := by decide +kernel
  have hx1 : (onTheHeap (Value.ref C) && Value.builtin "BaseException.__getattribute__" == Value.builtin "object.__getattribute__") = false := by rw [hx2]; rfl
  repeat (any_goals (first | assumption | with_reducible refine L1.at ?_ | with_reducible refine L2.at ?_ | with_reducible refine L0.at ?_ | (with_reducible refine wpAny_loadPart_at hx ?_; rw [hc]) | wp_step))
  refine class_call_exc X F hx hc ?_
  repeat (any_goals (first | assumption | wp_step))
theorem class_attr_exc {Q : Option Value → Shared → Prop} (X : K.In h) (F : ExcK K C) (hx : h.get? a = some o) (hc : o.cls = .ref C)
    (hq : Q (some (.ref C)) ⟨h, g, d, t + 1, os⟩) : wpAny (model prog w) A (getAttr? (.ref a) "__class__") Q E ⟨h, g, d, t, os⟩ := by
  unfold getAttr? getAttrBy?
  repeat (any_goals (first | assumption | with_reducible apply class_by_exc X F hx hc | wp_step))
end
def ExcAt (a C : Addr) (h : Heap) : Prop := ∃ o vs, h.get? a = some o ∧ o.cls = .ref C ∧ o.data = .fields vs
theorem kitx_exc {K : Frag} {a C : Addr} (F : ExcK K C) : KitX K (.ref a) (.ref C) (ExcAt a C) where
  ty := fun M h _ ⟨o, vs, hx, hc, _⟩ => type_at hx hc
  it := fun M h X _ => by
    have q := F.is
    unfold clsIn at q
    split at q
    · rename_i c' d' cd' sl' ho
      intro A' Q' E' s' k q
      unfold isType loadHead
      exact wpAny_bind (wpAny_loadPart (k _ _ (X _ _ ho)) (wpAny_pure q))
    · cases q
  ne := fun h tp dd its n sl X htp => by
    have q := F.is
    refine Bool.eq_false_iff.mpr fun z => ?_
    have e : C = tp := Value.ref.inj (beq_iff_eq.mp z)
    subst e
    unfold clsIn at q
    split at q
    · rename_i c' d' cd' sl' ho
      have z := (X _ _ ho).symm.trans htp
      cases z
    · cases q
  ca := fun {prog w A E Q s} X p k => by
    obtain ⟨h, g, d, t, os⟩ := s
    obtain ⟨o, vs, hx, hc, _⟩ := p
    exact class_attr_exc X F hx hc k
end TyExc

set_option maxHeartbeats 4000000
namespace Ty
open PySem PySem.Spec PyProof.Rows L2
section
variable {X : Cx}
def rIsiX (K : PySem.W.Frag) : List V → Hp → VK → Prop := fun xs H Q => ∃ a C c b, xs = [.ref a, c] ∧ isCls c = true ∧ H a = some (excO (.ref C) a) ∧ TyExc.ExcK K C ∧ PySem.W.kitOne K (.ref C) (clsV c) = some b ∧ Q (.bl b) H
theorem call_isiX {K : PySem.W.Frag} (hK : X.K = K) : CallR X (.builtin "isinstance") (rIsiX K) := by
  subst hK
  intro pins s σ H xs us Q I r h
  obtain ⟨a, C, c, b, rfl, hc, ha, F, e, q⟩ := h
  obtain ⟨u, w, rfl, r1, r2⟩ := vals2 r
  obtain rfl := cls_rel hc r2
  cases r1
  obtain ⟨p, _⟩ := (show ObjOk X.prog X.w H s.heap a (excO (.ref C) a) from I.hok a _ ha)
  exact PySem.W.kia_one (TyExc.kitx_exc F) I.kIn p e (fun z => nomatch z) fun tk => ⟨.bl b, H, I.tok tk, rfl, q⟩
theorem pe_cls {x : Str} {C : Addr} {pos : Pos} (hg : Gl X x) (hm : X.mg x = some (.ref C)) (hd : (x == ("__debug__" : Str)) = false := by decide) : PE X (.Name x pos) (tC (.ref C)) := pe_glob (v := .ref C) hg hm rfl hd
theorem countP_eqU {x : V} : ∀ {xs : List V} {us : List Value}, Vals xs us → xs.all flatV = true → us.countP (eqU x) = xs.countP fun y => eqV y x
  | _, _, .nil, _ => rfl
  | y :: xs, u :: us, .cons r t, f => by
    rw [List.all_cons, Bool.and_eq_true] at f
    rw [List.countP_cons, List.countP_cons, eqU_of r f.1, countP_eqU t f.2]
def rCount (K : PySem.W.Frag) : V → List V → Hp → VK → Prop := fun x vs H Q => ∃ l xs y, x = .ref l ∧ vs = [y] ∧ SqL K H l xs ∧ flatV y = true ∧ xs.all flatV = true ∧ Q (.int (xs.countP (fun z => eqV z y) : Nat)) H
theorem mt_count : MtR X "list.count" (rCount X.K) := by
  intro pins s σ H x vs v us Q I rx rv h
  obtain ⟨l, xs, y, rfl, rfl, hq, fy, fx, q⟩ := h
  cases rx
  obtain ⟨u, rfl, ru⟩ := rv.one
  obtain ⟨its, r, pl, hz⟩ := I.list hq
  obtain ⟨⟨cls, dd, data, sl⟩, ho, hc, n, hd⟩ := id pl.isList
  simp only at hc hd
  subst hc hd
  refine call_meets PySem.F.slot_list_count ⟨_, ho, rfl⟩ PySem.F.entry_list_count (PySem.F.args_list_count_2 _ _) (SeqAt.list_countAt l its.toArray n dd sl u (eqU y)) ⟨ho, fun z hz => mem_eqAt ru fy r fx z (by simpa using hz), ?_⟩
  refine ⟨.int (xs.countP (fun z => eqV z y) : Nat), H, I.tok _, ⟨s.toks, ?_⟩, q⟩
  rw [show its.toArray.toList = its from rfl, countP_eqU r fx]
end
structure RoomH (k : Nat) (A : Around) : Prop where
  dp : A.depth + 3 * k + 5 < recursionLimit
  un : A.units + 16 * k + 200 < cLine
theorem RoomH.of {k : Nat} {A : Around} (r : Room k A) : RoomH k A := ⟨r.dp, r.un⟩
theorem RoomH.mono {j k : Nat} {A : Around} (r : RoomH k A) (h : j ≤ k) : RoomH j A := ⟨by have := r.dp; omega, by have := r.un; omega⟩
theorem RoomH.deeper {k : Nat} {A : Around} (r : RoomH (k + 1) A) (env : Env) : RoomH k (A.deeper env) :=
  ⟨by have := r.dp; show A.depth + 1 + 3 * k + 5 < _; omega, by have := r.un; show A.units + 3 + 16 * k + 200 < _; omega⟩
theorem RoomH.mark {k : Nat} {A : Around} (r : Room k A) (e : Option Value) : RoomH k (A.mark e) := ⟨r.dp, r.un⟩
theorem RoomH.units {k : Nat} {A : Around} (r : RoomH k A) : A.units + 64 < cLine := by have := r.un; omega
structure FnOkH (P : Program) (w : World) (K : PySem.W.Frag) (mg : Str → Option Value) (base : Heap) (k : Nat) (f : Addr) (fd : FuncData) (ps : List Str) (sp : Sp) : Prop where
  len : ∀ vs H Q E, sp vs H Q E → vs.length = ps.length
  run : ∀ (A : Around) (outer : List Env) (s : Shared) (H : Hp) (args : Args) (us : List Value) (vs : List V) (Q : VK), RoomH k A → Env0 P w K mg base A outer s H → BindsTo s fd args (ps.zip us) → Vals vs us → sp vs H Q E0 →
    codeAny (model P w) A (.call (.ref f) args) (CR CX0 outer P w H s Q E0) s
def cxh (P : Program) (w : World) (K : PySem.W.Frag) (mg : Str → Option Value) (base : Heap) (N : List Str) (qual : Str) (scope : Scope) (f : Addr) (cdv : Value) (A : Around) (outer : List Env) (s : Shared) (H : Hp) : Cx :=
  { cxOf CX0 P w K mg base N qual scope f cdv A outer s H E0 with calm := false, xe := fun _ _ => False }
theorem fnH_of {P : Program} {w : World} {K : PySem.W.Frag} {mg : Str → Option Value} {base : Heap} {k : Nat} {f : Addr} {name qual : Str} {params : Arguments} {body : List Stmt} {scope : Scope} {dV kV doc pm cdv ct oc : Value} {an od : Option Addr}
    {osl : Array (Option Value)} {N ps : List Str} {sp : Sp} (lk : K.lookup f = some ⟨oc, od, .func (PySem.W.fnOf name qual params body scope dV kV doc pm an cdv ct), osl⟩) (hcd : PySem.W.codeIn K cdv qual = true) (S : FnScope N ps scope)
    (len : ∀ vs H Q E, sp vs H Q E → vs.length = ps.length)
    (hbody : ∀ (A : Around) (outer : List Env) (s : Shared) (H : Hp) (vs : List V) (Q : VK), RoomH k (A.deeper (envOfC qual scope s.heap.objs.size f cdv)) → sp vs H Q E0 →
      ∃ t, PSs (cxh P w K mg base N qual scope f cdv A outer s H) body t ∧ t { nx := fun _ H' => Q .non H', rt := Q } (start N vs) H) :
    FnOkH P w K mg base (k + 1) f (PySem.W.fnOf name qual params body scope dV kV doc pm an cdv ct) ps sp := by
  refine ⟨len, fun A outer s H args us vs Q hr e0 hb r hsp => ?_⟩
  have hl := len _ _ _ _ hsp
  have KX : K.In s.heap := e0.mod.kin.keeps fun b o e => (e0.bs b o e).1
  have lim : s.heap.NoLimit := e0.mod.nolimit.keeps fun b o e => (e0.bs b o e).1
  have hkind : ∀ y ∈ ps.zip us, scope.names.lookup y.1 = some .local ∨ (scope.names.lookup y.1 = some .cell ∧ ((cellsFrom (s.heap.objs.size + 1) scope.names []).lookup y.1).isSome = true) := fun ⟨n, v⟩ hy => by
    rcases S.par n (List.of_mem_zip hy).1 with q | q
    · exact .inl q
    · exact .inr ⟨q, PySem.W.cellsFrom_some _ _ _ (.inl q)⟩
  refine codeAny_call_function (by have := hr.dp; omega) (KX _ _ lk) rfl S.co S.gen rfl (PySem.W.codeRec_of KX hcd) (hb _ _ _ _ ?_)
  refine wpAny_newFunctionEnv_cells S.kind hkind fun env he s1 x => ?_
  subst he
  refine ⟨lim.keeps x.toInCall.keep, codeAny_func ?_⟩
  obtain ⟨t, ht, hq⟩ := hbody A outer s H vs Q (hr.deeper _) hsp
  have e1 : Env0 P w K mg base { A with handled := none } outer s H := ⟨e0.frames, e0.mod, e0.bs, e0.bsz, e0.funs, e0.frf, e0.hok, e0.bare⟩
  have J : Inv (cxOf CX0 P w K mg base N qual scope f cdv { A with handled := none } outer s H E0) [] (start N vs) H s1 := inv_start S rfl e1 hl r x
  have okh : (cxh P w K mg base N qual scope f cdv A outer s H).Ok := ⟨J.ok.mod, J.ok.kind, J.ok.glob, J.ok.blt, J.ok.above, J.ok.inj, J.ok.has, J.ok.cab, fun z => (nomatch z), Around.frames_deeper e0.frames, J.ok.stk, J.ok.exf, J.ok.bs, J.ok.bsz, J.ok.noex, J.ok.exfs, J.ok.funs, J.ok.frf⟩
  have I : Inv (cxh P w K mg base N qual scope f cdv A outer s H) [] (start N vs) H s1 := ⟨okh, J.os, J.bare, J.base, J.loc, J.cell, J.free, J.freeC, J.pin, J.hok, J.len⟩
  refine wpAny_mono (ht [] s1 (start N vs) H _ I hq) (fun fl s' hs => ?_) fun e s' hs => hs.elim
  have fin : ∀ {σ' : L2.St} {H' : Hp} {v : V} {u : Value}, Inv (cxh P w K mg base N qual scope f cdv A outer s H) [] σ' H' s' → RelV v u → Q v H' → CE outer P w H s Q u s' :=
    fun {σ' H' v u} J rv q => ⟨v, H', J.os, J.bare, J.base, J.hok, rv, q⟩
  cases fl with
  | ret u =>
    obtain ⟨v, σ', H', J, rv, q⟩ := hs
    exact fin J rv q
  | next =>
    obtain ⟨σ', H', J, q⟩ := hs
    exact fin (v := V.non) (u := Value.none) J rfl q
  | brk =>
    obtain ⟨_, _, _, q⟩ := hs
    exact False.elim q
  | cont =>
    obtain ⟨_, _, _, q⟩ := hs
    exact False.elim q
structure FnH (P : Program) (w : World) (K : PySem.W.Frag) (mg : Str → Option Value) (base : Heap) (k : Nat) (x : Str) (ps : List Str) (sp : Sp) : Prop where
  ex : ∃ (f : Addr) (fd : FuncData), FnOkH P w K mg base k f fd ps sp ∧ Binds K fd ps [] ∧ mg x = some (.ref f) ∧ PySem.W.keepIn K (.ref f) = true
theorem Def.okH {P : Program} {w : World} {K : PySem.W.Frag} {mg : Str → Option Value} {base : Heap} {x : Str} {st : Stmt} {N ps : List Str} {k : Nat} {sp : Sp} (D : Def K mg x st ps) (S : FnScope N ps (defScope st)) (len : ∀ vs H Q E, sp vs H Q E → vs.length = ps.length)
    (hbody : ∀ (f : Addr) (cdv : Value) (A : Around) (outer : List Env) (s : Shared) (H : Hp) (vs : List V) (Q : VK), RoomH k (A.deeper (envOfC x (defScope st) s.heap.objs.size f cdv)) → sp vs H Q E0 →
      ∃ t, PSs (cxh P w K mg base N x (defScope st) f cdv A outer s H) (defBody st) t ∧ t { nx := fun _ H' => Q .non H', rt := Q } (start N vs) H) : FnH P w K mg base (k + 1) x ps sp := by
  obtain ⟨f, dV, oc, od, kV, doc, pm, an, cdv, ct, osl, lk, hcd, kp, b, m⟩ := D.ex
  exact ⟨f, _, fnH_of lk hcd S len fun A outer s H vs Q hr hsp => hbody f cdv A outer s H vs Q hr hsp, b, m, kp⟩
theorem pe_fnH {X : Cx} {k : Nat} {ps : List Str} {sp : Sp} {x : Str} {p pos : Pos} {e : Expr} {es : List Expr} {t : TA} (F : FnH X.prog X.w X.K X.mg X.base k x ps sp) (hr : RoomH k X.A) (ha : PA X (e :: es) t) (hg : Gl X x := by rfl) (hdb : (x == ("__debug__" : Str)) = false := by decide)
    (he : starEach (e :: es) X.env = (false, eval e X.env) :: starEach es X.env := by rfl) (hpl : (backTo pos (starEach es X.env)).any (·.1) = false := by rfl) :
    PE X (.Call (.Name x p) (e :: es) [] pos) (tCall sp [] E0 t) := by
  intro pins s σ H Q I h
  obtain ⟨f, fd, G, b, m, kp⟩ := F.ex
  refine wpAny_Call_Name_kw (ld_glob I hg m ?_ hdb)
  refine PySem.W.callWith_K (h₀ := X.base) I.ok.mod.kin kp (thn (ha pos pins s σ H _ I h) fun us s1 ⟨vs, H1, I1, r, q⟩ => ⟨I1.kIn, ?_⟩) he hpl
  dsimp only at q
  rw [List.append_nil] at q
  have hl : us.length = ps.length := by rw [← r.length]; exact G.len _ _ _ _ q
  have bt := b s1 us I1.kIn (by rw [List.append_nil]; exact hl)
  rw [List.append_nil] at bt
  refine wpAny_call (codeAny_mono (G.run X.A X.stack s1 H1 ⟨us, []⟩ us vs Q hr I1.env0 bt r q) fun r s' hq => ?_)
  cases r with
  | error e => exact False.elim hq
  | ok fl =>
    cases fl with
    | ret u => exact I1.after hq
    | next => exact False.elim hq
    | brk => exact False.elim hq
    | cont => exact False.elim hq
theorem Def.okX {P : Program} {w : World} {K : PySem.W.Frag} {mg : Str → Option Value} {base : Heap} {x : Str} {st : Stmt} {N ps : List Str} {k : Nat} {sp : Sp} (D : Def K mg x st ps) (S : FnScope N ps (defScope st)) (len : ∀ vs H Q E, sp vs H Q E → vs.length = ps.length)
    (hbody : ∀ (f : Addr) (cdv : Value) (A : Around) (outer : List Env) (s : Shared) (H : Hp) (vs : List V) (Q : VK) (E : XK), Room k (A.deeper (envOfC x (defScope st) s.heap.objs.size f cdv)) → sp vs H Q E →
      ∃ t, PSs (cxr P w K mg base N x (defScope st) f cdv A outer s H E) (defBody st) t ∧ t { nx := fun _ H' => Q .non H', rt := Q } (start N vs) H) : Fn P w K mg base (CXr P w) (k + 1) x ps sp := by
  obtain ⟨f, dV, oc, od, kV, doc, pm, an, cdv, ct, osl, lk, hcd, kp, b, m⟩ := D.ex
  exact ⟨f, _, fn_of lk hcd S len fun A outer s H vs Q E hr hsp => hbody f cdv A outer s H vs Q E hr hsp, b, m, kp⟩
theorem DefD.okX {P : Program} {w : World} {K : PySem.W.Frag} {mg : Str → Option Value} {base : Heap} {x : Str} {st : Stmt} {N ps : List Str} {ds : List Value} {k : Nat} {sp : Sp} (D : DefD K mg x st ps ds) (S : FnScope N ps (defScope st)) (len : ∀ vs H Q E, sp vs H Q E → vs.length = ps.length)
    (hbody : ∀ (f : Addr) (cdv : Value) (A : Around) (outer : List Env) (s : Shared) (H : Hp) (vs : List V) (Q : VK) (E : XK), Room k (A.deeper (envOfC x (defScope st) s.heap.objs.size f cdv)) → sp vs H Q E →
      ∃ t, PSs (cxr P w K mg base N x (defScope st) f cdv A outer s H E) (defBody st) t ∧ t { nx := fun _ H' => Q .non H', rt := Q } (start N vs) H) : Fn P w K mg base (CXr P w) (k + 1) x ps sp ∧ FnD P w K mg base (CXr P w) (k + 1) x ps ds sp := by
  obtain ⟨f, dV, oc, od, kV, doc, pm, an, cdv, ct, osl, lk, hcd, kp, b, b2, m⟩ := D.ex
  have F := fn_of (CX := CXr P w) (P := P) (w := w) (mg := mg) (base := base) lk hcd S len fun A outer s H vs Q E hr hsp => hbody f cdv A outer s H vs Q E hr hsp
  exact ⟨⟨f, _, F, b, m, kp⟩, ⟨f, _, F, b2, m, kp⟩⟩
abbrev bmVE : List Value := [.type "ValueError", .type "Exception", .type "BaseException", .type "object"]
end Ty

set_option maxHeartbeats 4000000
namespace Ty
open PySem PySem.Spec PyProof.Rows L2
section
variable {prog : Program} {w : World} {A : Around} {R : Result → Shared → Prop} {s : Shared}
theorem compLoop_any {elt target iter : Expr} {ifs : List Expr} {scope : Scope} {pos : Pos} {it acc : Value} {env : Env} (I : Nat → Shared → Prop)
    (turn : ∀ n s, I n s → wpAny (model prog w) A (pyNext it) (fun r s₁ => match r with
      | none => R (.ok .next) s₁
      | some v => wpAny (model prog w) A (letOwnedTupleGo target it v) (fun _ s₁' => wpAny (model prog w) A (assign target env v) (fun _ s₂ =>
          wpAny (model prog w) A (forIn ifs true fun c r => if r = true then do let ok ← isTrue c env (eval c env); pure (ForInStep.yield ok) else pure (ForInStep.yield r)) (fun ok s₃ =>
            if ok = true then wpAny (model prog w) A (eval elt env) (fun x s₄ =>
              wpAny (model prog w) A (call (.builtin "list.append") [acc, x]) (fun _ s₅ => ∃ m, m < n ∧ I m s₅) (fun _ _ => False) s₄) (fun _ _ => False) s₃
            else ∃ m, m < n ∧ I m s₃) (fun _ _ => False) s₂) (fun _ _ => False) s₁') (fun _ _ => False) s₁) (fun _ _ => False) s)
    (n : Nat) (h : I n s) :
    codeAny (model prog w) A (.compLoop (.ListComp elt [⟨target, iter, ifs, 0⟩] scope pos) 0 it acc env) R s := by
  refine codeAny_loop rfl I (fun n s hI => ?_) n h
  show wpAny _ A ((compTurn (.ListComp elt [⟨target, iter, ifs, 0⟩] scope pos) 0 it acc env).onRaise (fun x => do noteFrame x env; theTreesLotGoes x)) _ _ s
  refine wpAny_noted ?_
  rw [compTurn_list]
  refine wpAny_bind (wpAny_standAt (wpAny_bind (wpAny_mono (turn n s hI) (fun r s₁ h₁ => ?_) fun _ _ h' => h'.elim)))
  cases r with
  | none => exact wpAny_pure h₁
  | some v =>
    refine wpAny_bind (wpAny_mono h₁ (fun _ s₁' h₁' => ?_) fun _ _ h' => h'.elim)
    refine wpAny_bind (wpAny_mono h₁' (fun _ s₂ h₂ => wpAny_bind (wpAny_mono h₂ (fun ok s₃ h₃ => ?_) fun _ _ h' => h'.elim)) fun _ _ h' => h'.elim)
    cases ok with
    | false => exact wpAny_pure ⟨rfl, h₃⟩
    | true =>
      exact wpAny_bind (wpAny_bind (wpAny_mono h₃ (fun x s₄ h₄ => wpAny_bind (wpAny_mono h₄ (fun _ s₅ h₅ => wpAny_pure (wpAny_pure ⟨rfl, h₅⟩)) fun _ _ h' => h'.elim)) fun _ _ h' => h'.elim))
end
def capCl (env : Env) (fr : List Str) : List (Str × Addr) := fr.filterMap fun n => (env.cells.lookup n).map fun c => (n, c)
theorem lookup_mem {α : Type} {x : Str} {c : α} : ∀ {l : List (Str × α)}, l.lookup x = some c → (x, c) ∈ l
  | [], h => by simp at h
  | (y, d) :: r, h => by
    rw [List.lookup_cons] at h
    cases e : x == y with
    | true =>
      rw [e] at h
      have e1 : x = y := by simpa using e
      cases h
      rw [e1]
      exact List.mem_cons_self
    | false =>
      rw [e] at h
      exact List.mem_cons_of_mem _ (lookup_mem h)
theorem capCl_mem {env : Env} {fr : List Str} {x : Str} {c : Addr} (h : (x, c) ∈ capCl env fr) : env.cells.lookup x = some c := by
  obtain ⟨n, _, e⟩ := List.mem_filterMap.mp h
  cases q : env.cells.lookup n with
  | none => rw [q] at e; cases e
  | some d =>
    rw [q] at e
    have e' : (n, d) = (x, c) := Option.some.inj e
    cases e'
    exact q
theorem capCl_get {env : Env} {fr : List Str} {x : Str} {c : Addr} (h : (capCl env fr).lookup x = some c) : env.cells.lookup x = some c := capCl_mem (lookup_mem h)
theorem capCl_has {env : Env} {x : Str} {c : Addr} (q : env.cells.lookup x = some c) : ∀ {fr : List Str}, x ∈ fr → (capCl env fr).lookup x = some c
  | [], h => nomatch h
  | y :: r, h => by
    unfold capCl
    rw [List.filterMap_cons]
    by_cases e : x = y
    · subst e
      rw [q]
      simp
    · have hr : x ∈ r := by
        rcases List.mem_cons.mp h with z | z
        · exact absurd z e
        · exact z
      have ih := capCl_has q hr
      cases z : env.cells.lookup y with
      | none => exact ih
      | some d =>
        show List.lookup x ((y, d) :: _) = _
        rw [List.lookup_cons]
        have ne : (x == y) = false := by simpa using e
        rw [ne]
        exact ih
def AllCap (env : Env) : List Str → Prop
  | [] => True
  | y :: r => (env.kindOf y = some .cell ∨ env.kindOf y = some .free) ∧ AllCap env r
theorem AllCap.at {env : Env} {x : Str} : ∀ {fr : List Str}, AllCap env fr → x ∈ fr → env.kindOf x = some .cell ∨ env.kindOf x = some .free
  | [], _, h => nomatch h
  | y :: r, a, h => by
    rcases List.mem_cons.mp h with z | z
    · rw [z]
      exact a.1
    · exact AllCap.at a.2 z
section
variable {X : Cx}
def cxB (X : Cx) (NB : List Str) (scope : Scope) (cl : List (Str × Addr)) (C : Addr) (s : Shared) (H : Hp) (fp : List Addr) : Cx :=
  { prog := X.prog, w := X.w, K := X.K, mg := X.mg, base := X.base, A := X.A, N := NB, s₀ := s, H₀ := H, env := compEnvC scope cl C X.env, outer := X.stack, stack := X.stack, ex := fp, fn := fun _ => false, calm := X.calm, pn := [], xe := fun _ _ => False }
structure BlkS (X : Cx) (scope : Scope) (fr : List Str) (caps : List Nat) : Prop where
  clos : closureFor scope X.env = pure (capCl X.env fr)
  cell : ∀ y ∈ scope.names, y.2 ≠ .cell
  kind : scope.kind = .function
  names : ∀ y ∈ scope.names, y.2 = .local → scope.names.lookup y.1 = some .local
  free : ∀ y ∈ scope.names, y.2 = .free → y.1 ∈ fr
  caps : caps.map (fun i => X.N[i]?) = fr.map some
  out : AllCap X.env fr
  inn : AllCap (compEnvC scope [] 0 X.env) fr
def PF (X : Cx) (ifs : List Expr) (t : TT) : Prop :=
  ∀ (pins : List (Addr × Obj)) (s : Shared) (σ : L2.St) (H : Hp) (Q : Bool → Hp → Prop), Inv X pins σ H s → t σ H Q →
    wpAny (model X.prog X.w) X.A (forIn ifs true fun c r => if r = true then do let ok ← isTrue c X.env (eval c X.env); pure (ForInStep.yield ok) else pure (ForInStep.yield r)) (TP X pins σ Q) X.xe s
def tYes : TT := fun _ H Q => Q true H
theorem pf_nil : PF X [] tYes := fun _ _ _ H _ I h => wpAny_tests_nil ⟨H, I, h⟩
def sB (k : Nat) (caps : List Nat) (σ : L2.St) : L2.St := List.replicate k none ++ caps.map fun i => (σ[i]?).getD none
def tBlk (D : Addr) (g : TG) (tt : TT) (te : TE) (J : It) (σ0 : L2.St) (H1 : Hp) (Q : VK) : Prop := ∃ W : Nat → Nat → L2.St → List V → Hp → Prop,
  (∃ m, W 0 m σ0 [] (upd H1 D (.lst []))) ∧ ∀ i m σ2 ys H2, W i m σ2 ys H2 → (J.stop i H2 ∧ Q (.ref D) H2) ∨ (J.go i H2 ∧ ∀ x H3, J.yld i H2 x H3 → g x σ2 H3 fun σ4 H4 => tt σ4 H4 fun b H5 =>
    if b = true then te σ4 H5 fun v H6 => H6 D = some (.lst ys) ∧ ys.length < sizeLine ∧ ∃ m', m' < m ∧ W (i + 1) m' σ4 (ys ++ [v]) (upd H6 D (.lst (ys ++ [v]))) else ∃ m', m' < m ∧ W (i + 1) m' σ4 ys H5)
def tComp (k : Nat) (caps : List Nat) (wi : TI) (g : TG) (tt : TT) (te : TE) : TE := fun σ H Q => wi σ H fun J H1 => ∀ D, H1 D = none → tBlk D g tt te J (sB k caps σ) H1 Q
theorem sB_get {k : Nat} {caps : List Nat} {σ : L2.St} {i : Nat} {v : V} (h : (sB k caps σ)[i]? = some (some v)) : k ≤ i ∧ ∃ j, caps[i - k]? = some j ∧ σ[j]? = some (some v) := by
  unfold sB at h
  by_cases c : i < k
  · rw [List.getElem?_append_left (by simpa using c), List.getElem?_replicate, if_pos c] at h
    cases h
  · rw [List.getElem?_append_right (by simpa using Nat.le_of_not_lt c), List.length_replicate, List.getElem?_map] at h
    refine ⟨Nat.le_of_not_lt c, ?_⟩
    cases e : caps[i - k]? with
    | none => rw [e] at h; cases h
    | some j =>
      rw [e] at h
      refine ⟨j, rfl, ?_⟩
      have h' : (σ[j]?).getD none = some v := Option.some.inj h
      cases z : σ[j]? with
      | none => rw [z] at h'; cases h'
      | some o =>
        rw [z] at h'
        exact congrArg some h'
theorem comp_block {elt target iter : Expr} {ifs : List Expr} {scope : Scope} {pos : Pos} {tn fr : List Str} {caps : List Nat} {g : TG} {tt : TT} {te : TE} {pins : List (Addr × Obj)} {σ : L2.St} {H2 : Hp} {s2 : Shared} {J : It} {fp : List Addr} {it : Addr}
    {tnn : Nat → Heap → Prop} {Q : VK} {RR : Value → Addr → Result → Shared → Prop} {E : Value → Shared → Prop} (hc : X.calm = true) (B : BlkS X scope fr caps)
    (hg : ∀ C s H fp, PG (cxB X (tn ++ fr) scope (capCl X.env fr) C s H fp) target g) (ht : ∀ C s H fp, PF (cxB X (tn ++ fr) scope (capCl X.env fr) C s H fp) ifs tt) (he : ∀ C s H fp, PE (cxB X (tn ++ fr) scope (capCl X.env fr) C s H fp) elt te)
    (I2 : Inv X pins σ H2 s2) (T : Turn X.prog X.w X.K target J fp it tnn) (st2 : tnn 0 s2.heap) (f2 : ∀ b ∈ fp, FpOk X pins H2 b) (q : ∀ D, H2 D = none → tBlk D g tt te J (sB tn.length caps σ) H2 Q)
    (fin : ∀ D C H' s' m, Inv X pins σ H' s' → s'.heap.Ns C m → FpOk X pins H' C → Q (.ref D) H' → RR (.ref D) C (.ok .next) s') :
    wpAny (model X.prog X.w) X.A (newList []) (fun acc s₃ => wpAny (model X.prog X.w) X.A (newFunctionEnv scope X.env.globals (capCl X.env fr) [] X.env.qual none .none (some X.env)) (fun cenv s₄ =>
      codeAny (model X.prog X.w) X.A (.compStart (.ListComp elt [⟨target, iter, ifs, 0⟩] scope pos) 0 (.ref it) acc { cenv with scope := relabel scope X.env }) (RR acc cenv.locals) s₄) E s₃) E s2 := by
  refine wpAny_newObj_type (wpAny_newFunctionEnv B.cell (by intro y hy; simp at hy) (fun h₁ hns₁ hsb₁ => ?_) B.kind)
  have I3 : Inv X pins σ (upd H2 s2.heap.objs.size (.lst [])) { s2 with heap := s2.heap.push { cls := .type "list", data := .seq ([] : List Value).toArray } } := I2.lnew (t' := s2.toks) (its := []) .nil (Nat.zero_le _)
  obtain ⟨W, ⟨m0, w0⟩, turn⟩ := q s2.heap.objs.size (I2.hok.fresh (Nat.le_refl _))
  generalize hH3 : upd H2 s2.heap.objs.size (.lst []) = H3 at I3 w0
  have f3 : ∀ b ∈ fp, FpOk X pins H3 b := fun b hb => by
    obtain ⟨a0, a1⟩ := f2 b hb
    refine ⟨?_, a1⟩
    obtain ⟨o, e, _⟩ := T.obj _ _ st2 b hb
    rw [← hH3, upd_ne (Nat.ne_of_lt (Heap.lt_size e))]
    exact a0
  generalize hD : s2.heap.objs.size = D at *
  generalize hs3 : ({ s2 with heap := s2.heap.push { cls := .type "list", data := .seq ([] : List Value).toArray } } : Shared) = s3 at *
  have e3 : s3.heap = s2.heap.push { cls := .type "list", data := .seq ([] : List Value).toArray } := by rw [← hs3]
  have st3 : tnn 0 s3.heap := T.keep _ _ _ st2 fun b _ o e => by rw [e3]; exact Heap.get?_push_of_some _ e
  have kept : ∀ b o, s3.heap.get? b = some o → h₁.get? b = some o := fun b o e => (hsb₁.2 b (Nat.ne_of_lt (Heap.lt_size e))).trans (Heap.get?_push_of_some _ e)
  generalize hC : s3.heap.objs.size = C at *
  have hCs : s3.heap.objs.size ≤ C := Nat.le_of_eq hC
  have I4 : Inv X pins σ H3 { s3 with heap := h₁, toks := s3.toks + ([] : List (Str × Value)).length } := I3.kept kept
  have fpC : ∀ b ∈ fp, b ≠ C := fun b hb z => by
    obtain ⟨o, e, _⟩ := T.obj _ _ st3 b hb
    exact absurd z (Nat.ne_of_lt (Nat.lt_of_lt_of_le (Heap.lt_size e) hCs))
  have nst : ∀ b ∈ fp, b ∉ frs X.stack := fun b hb z => (List.mem_cons.mp (I3.stkSub b z)).elim (f3 b hb).2.1 (f3 b hb).2.2.1
  have okB : (cxB X (tn ++ fr) scope (capCl X.env fr) C s3 H3 fp).Ok := by
    refine ⟨I3.ok.mod, B.kind, I3.ok.glob, I3.ok.blt, hCs, fun x y c e1 e2 => I3.ok.inj x y c (capCl_get e1) (capCl_get e2), fun x hx => ?_, fun x c z => (nomatch z), I3.ok.hd, I3.ok.frames, .inl rfl,
      fun b hb => ⟨fpC b hb, fun x c e => (f3 b hb).2.2.2.2.1 x c (capCl_get e)⟩, I3.bs, Nat.le_trans I3.ok.bsz I3.sz, fun b o e hb => ?_, nst, I3.stack, I3.stkFree⟩
    · have hm : ∃ k, (x, k) ∈ scope.names ∧ k ≠ .local ∧ (k = .cell ∨ k = .free) := by
        have : ∃ k', (relabel scope X.env).names.lookup x = some k' ∧ (k' = .cell ∨ k' = .free) := by
          rcases hx with z | z
          · exact ⟨_, z, .inl rfl⟩
          · exact ⟨_, z, .inr rfl⟩
        obtain ⟨k', e', h'⟩ := this
        obtain ⟨⟨n, k⟩, hn, en⟩ := List.mem_map.mp (lookup_mem e')
        dsimp only at en
        by_cases cc : (k == NameKind.free && X.env.scope.kind == .function && X.env.kindOf n == some .cell) = true
        · rw [if_pos cc] at en
          cases en
          have kf : k = .free := by
            rw [Bool.and_eq_true, Bool.and_eq_true] at cc
            simpa using cc.1.1
          exact ⟨k, hn, (by intro z; rw [kf] at z; cases z), .inr kf⟩
        · rw [if_neg cc] at en
          cases en
          exact ⟨k', hn, fun z' => by rcases h' with y | y <;> (rw [y] at z'; cases z'), h'⟩
      obtain ⟨k, hk, _, h2⟩ := hm
      rcases h2 with z | z
      · exact absurd z (B.cell _ hk)
      · have hf := B.free _ hk z
        obtain ⟨c, ec⟩ := I3.ok.has x (B.out.at hf)
        exact ⟨c, capCl_has ec hf⟩
    · obtain ⟨_, _, _, h1, _⟩ := f3 b hb
      rcases h1 with z | z
      · exact I3.ok.noex b o e z
      · exact Nat.lt_irrefl _ (Nat.lt_of_lt_of_le (Nat.lt_of_lt_of_le (Heap.lt_size e) I3.ok.bsz) z)
  have IB : Inv (cxB X (tn ++ fr) scope (capCl X.env fr) C s3 H3 fp) [] (sB tn.length caps σ) H3 { s3 with heap := h₁, toks := s3.toks + ([] : List (Str × Value)).length } := by
    refine ⟨okB, rfl, I3.bare, Un.kept kept, ⟨_, hns₁, fun i x v e1 e2 _ => ?_⟩, fun x c e => I4.cell x c (capCl_get e), ?_, fun x c e => I3.freeC x c (capCl_get e), fun p hp => (nomatch hp), I3.hok.kept kept, ?_⟩
    · obtain ⟨hk, j, ej, es⟩ := sB_get e2
      have e1' : fr[i - tn.length]? = some x := by
        have z : (tn ++ fr)[i]? = some x := e1
        rw [List.getElem?_append_right hk] at z
        exact z
      have hx : x ∈ fr := List.mem_of_getElem? e1'
      have eN : X.N[j]? = some x := by
        have z := congrArg (fun l : List (Option Str) => l[i - tn.length]?) B.caps
        simp only [List.getElem?_map, ej, e1', Option.map_some] at z
        exact Option.some.inj z
      have ko := B.out.at hx
      obtain ⟨m, hn, hl⟩ := I4.loc
      obtain ⟨u, r, lk⟩ := hl j x v eN es (by rcases ko with z | z; exact .inr (.inl z); exact .inr (.inr z))
      refine ⟨u, r, ?_⟩
      rcases lk with ⟨k1, _⟩ | ⟨_, c, ec, ic⟩
      · rcases ko with z | z <;> (rw [z] at k1; cases k1)
      · exact .inr ⟨B.inn.at hx, c, capCl_has ec hx, ic⟩
    · exact I3.hok.fresh hCs
    · have := congrArg List.length B.caps
      simp only [List.length_map] at this
      show (sB tn.length caps σ).length = (tn ++ fr).length
      unfold sB
      simp [this]
  have statB : ∀ {H' : Hp}, (∀ b ∈ fp, H' b = none) → ∀ b ∈ fp, FpOk (cxB X (tn ++ fr) scope (capCl X.env fr) C s3 H3 fp) [] H' b := fun hn b hb =>
    ⟨hn b hb, fpC b hb, nst b hb, .inl hb, fun x c e => (f3 b hb).2.2.2.2.1 x c (capCl_get e), fun p hp => (nomatch hp)⟩
  have st4 : tnn 0 h₁ := T.keep _ _ _ st3 fun b _ o e => kept b o e
  have loop : codeAny (model X.prog X.w) X.A (.compLoop (.ListComp elt [⟨target, iter, ifs, 0⟩] scope pos) 0 (.ref it) (.ref D) (compEnvC scope (capCl X.env fr) C X.env)) (RR (.ref D) C) { s3 with heap := h₁, toks := s3.toks + ([] : List (Str × Value)).length } := by
    refine compLoop_any (fun n s' => ∃ i σ' ys H', Inv (cxB X (tn ++ fr) scope (capCl X.env fr) C s3 H3 fp) [] σ' H' s' ∧ tnn i s'.heap ∧ (∀ b ∈ fp, H' b = none) ∧ W i n σ' ys H') ?_ m0 ⟨0, _, [], H3, IB, st4, fun b hb => (f3 b hb).1, w0⟩
    rintro n s5 ⟨i, σ5, ys, H5, I5, st5, fr5, w5⟩
    rcases turn i n σ5 ys H5 w5 with ⟨stop, qn⟩ | ⟨go, step⟩
    · refine wpAny_mono (T.done (cxB X (tn ++ fr) scope (capCl X.env fr) C s3 H3 fp) rfl rfl rfl hc i [] s5 σ5 H5 (fun _ _ => False) I5 (statB fr5) st5 stop) (fun r s6 ⟨hr, I6⟩ => ?_) fun _ _ z => z
      subst hr
      obtain ⟨m, hn, _⟩ := I6.loc
      have J6 : Inv X pins σ H5 s6 := I3.call' (ch := fp) I6.os I6.base I6.hok I6.bare fun b hb => ⟨(f3 b hb).2.2.2.1, (f3 b hb).2.1, (f3 b hb).2.2.2.2.1, (f3 b hb).2.2.2.2.2⟩
      exact fin D C H5 s6 m J6 hn (I3.fpOk hCs I6.free) qn
    · refine wpAny_mono (T.item (cxB X (tn ++ fr) scope (capCl X.env fr) C s3 H3 fp) rfl rfl rfl hc i [] s5 σ5 H5 (fun _ _ => False) I5 (statB fr5) st5 go) (fun r s6 ⟨u, hr, h6⟩ => ?_) fun _ _ z => z
      subst hr
      refine wpAny_mono h6 (fun _ s7 ⟨x, H7, I7, r7, y7, st7, fr7⟩ => ?_) fun _ _ z => z
      have I7' := I7.pinned (statB fr7) (T.obj _ _ st7)
      have held : ∀ {σ' : L2.St} {H' : Hp} {s' : Shared}, Inv (cxB X (tn ++ fr) scope (capCl X.env fr) C s3 H3 fp) ([] ++ pinsAt fp s7.heap) σ' H' s' → tnn (i + 1) s'.heap ∧ ∀ b ∈ fp, H' b = none := fun {σ' H' s'} I' => by
        refine ⟨T.keep _ _ _ st7 fun b hb o e => (I'.pin (b, o) (List.mem_append_right _ (List.mem_append_right _ (mem_pinsAt hb e)))).1, fun b hb => ?_⟩
        obtain ⟨o, e, d⟩ := T.obj _ _ st7 b hb
        exact (I'.pin (b, o) (List.mem_append_right _ (List.mem_append_right _ (mem_pinsAt hb e)))).2.1
      refine wpAny_mono (hg C s3 H3 fp _ s7 σ5 H7 x u _ I7' r7 (step x H7 y7)) (fun _ s8 ⟨σ8, H8, I8, q8⟩ => ?_) fun _ _ z => z
      refine wpAny_mono (ht C s3 H3 fp _ s8 σ8 H8 _ I8 q8) (fun ok s9 ⟨H9, I9, q9⟩ => ?_) fun _ _ z => z
      cases ok with
      | false =>
        rw [if_neg Bool.false_ne_true] at q9
        obtain ⟨m', hm, w9⟩ := q9
        rw [if_neg Bool.false_ne_true]
        obtain ⟨a, b⟩ := held I9
        exact ⟨m', hm, i + 1, σ8, ys, H9, I9.unpinned, a, b, w9⟩
      | true =>
        rw [if_pos rfl] at q9
        rw [if_pos rfl]
        refine wpAny_mono (he C s3 H3 fp _ s9 σ8 H9 _ I9 q9) (fun v s10 ⟨y, H10, I10, r10, hDD, hl, m', hm, w10⟩ => ?_) fun _ _ z => z
        refine wpAny_mono (mt_append (X := cxB X (tn ++ fr) scope (capCl X.env fr) C s3 H3 fp) _ s10 σ8 H10 (.ref D) [y] (.ref D) [v] (fun _ H' => W (i + 1) m' σ8 (ys ++ [y]) H') I10 rfl (.cons r10 .nil) ⟨D, ys, y, rfl, rfl, hDD, hl, w10⟩) (fun _ s11 ⟨z, H11, I11, _, q11⟩ => ?_) fun _ _ z => z
        obtain ⟨a, b⟩ := held I11
        exact ⟨m', hm, i + 1, σ8, ys ++ [y], H11, I11.unpinned, a, b, q11⟩
  exact codeAny_compStart_list loop (T.self X.A 0 _ _ _ st4 loop)
theorem pe_comp {elt target iter : Expr} {ifs : List Expr} {scope : Scope} {pos : Pos} {tn fr : List Str} {caps : List Nat} {wi : TI} {g : TG} {tt : TT} {te : TE} (hc : X.calm = true) (B : BlkS X scope fr caps) (hi : PI X target iter wi)
    (hg : ∀ C s H fp, PG (cxB X (tn ++ fr) scope (capCl X.env fr) C s H fp) target g) (ht : ∀ C s H fp, PF (cxB X (tn ++ fr) scope (capCl X.env fr) C s H fp) ifs tt) (he : ∀ C s H fp, PE (cxB X (tn ++ fr) scope (capCl X.env fr) C s H fp) elt te)
    (hs : ∀ x, foldedSetIterable iter X.env x = pure x := by intro _; rfl) : PE X (.ListComp elt [⟨target, iter, ifs, 0⟩] scope pos) (tComp tn.length caps wi g tt te) := by
  intro pins s σ H Q I h
  rw [eval_ListComp]
  refine wpAny_comprehension_free (use := none) rfl hs B.clos B.kind B.names (thn (hi pins s σ H _ I h) fun v s1 h1 => thn h1 fun itv s2 h2 => ?_)
  obtain ⟨it, fp, tnn, J, H2, rfl, I2, T, st2, f2, q⟩ := h2
  refine comp_block (Q := Q) (RR := fun acc C => compPost (model X.prog X.w) X.A X.xe none (EP X pins σ Q) acc C) hc B hg ht he I2 T st2 f2 q ?_
  intro D C H' s' m I' hn fc qq
  obtain ⟨g0, g1, g2, g3, g4, g5⟩ := fc
  exact ⟨m, hn, fun h' hs' => ⟨.ref D, H', I'.turned (t' := s'.toks) (fun b o hb e => (hs'.2 b hb).trans e) g0 g1 g3 g4 g5, rfl, qq⟩⟩
theorem ps_setC {i : Nat} {y : Str} {py : Pos} {spos : Pos} {elt target iter : Expr} {ifs : List Expr} {scope : Scope} {pos : Pos} {tn fr : List Str} {caps : List Nat} {wi : TI} {g : TG} {tt : TT} {te : TE} (hN : X.N.Nodup) (hiN : X.N[i]? = some y) (hx : Loc X.env.scope y)
    (hc : X.calm = true) (B : BlkS X scope fr caps) (hi : PI X target iter wi)
    (hg : ∀ C s H fp, PG (cxB X (tn ++ fr) scope (capCl X.env fr) C s H fp) target g) (ht : ∀ C s H fp, PF (cxB X (tn ++ fr) scope (capCl X.env fr) C s H fp) ifs tt) (he : ∀ C s H fp, PE (cxB X (tn ++ fr) scope (capCl X.env fr) C s H fp) elt te)
    (hsw : swapsWith (.ListComp elt [⟨target, iter, ifs, 0⟩] scope pos) (some (.Name y py)) spos.line X.env = pure true := by rfl)
    (hs : ∀ x, foldedSetIterable iter X.env x = pure x := by intro _; rfl) (hf : X.fn y = true ∨ X.env.scope.names.lookup y = some .local := by first | exact .inl rfl | exact .inr rfl | assumption) :
    PS X (.Assign [.Name y py] (.ListComp elt [⟨target, iter, ifs, 0⟩] scope pos) spos) (tAsg (tComp tn.length caps wi g tt te) (gName i)) := by
  intro pins s σ H D I h
  rw [exec_Assign_Name_used _ _ _ _ hsw]
  refine wpAny_bind (wpAny_standAt (wpAny_bind ?_))
  show wpAny _ X.A (do let _ ← comprehension (.ListComp elt [⟨target, iter, ifs, 0⟩] scope pos) scope X.env _ (newList []) false (eval iter X.env) (some (assign (.Name y py) X.env))) _ _ s
  refine wpAny_bind (wpAny_mono (wpAny_comprehension_free (use := some (assign (.Name y py) X.env)) (Q := fun _ s' => SP X pins D .next s') rfl hs B.clos B.kind B.names
    (thn (hi pins s σ H _ I h) fun v s1 h1 => thn h1 fun itv s2 h2 => ?_)) (fun _ s' hq => wpAny_pure (wpAny_pure hq)) fun _ _ e => e)
  obtain ⟨it, fp, tnn, J, H2, rfl, I2, T, st2, f2, q⟩ := h2
  refine comp_block (Q := fun v H1 => gName i v σ H1 D.nx) (RR := fun acc C => compPost (model X.prog X.w) X.A X.xe (some (assign (.Name y py) X.env)) (fun _ s' => SP X pins D .next s') acc C) hc B hg ht he I2 T st2 f2 q ?_
  intro DD C H' s' m I' hn fc qq
  obtain ⟨g0, g1, g2, g3, g4, g5⟩ := fc
  show wpAny _ X.A (assign (.Name y py) X.env (.ref DD)) _ _ _
  refine wpAny_assign_Name (store_ok2 I' hN hiN hx (v := .ref DD) (u := .ref DD) rfl (fun s'' I'' ⟨a, sb, ha⟩ => ?_) hf)
  have hCa : C ≠ a := by
    rcases ha with z | z
    · rw [z]
      exact g1
    · exact fun e => g4 y a z e.symm
  exact ⟨m, hn.sameBut sb hCa, fun h' hs' => ⟨_, H', I''.turned (t' := s''.toks) (fun b o hb e => (hs'.2 b hb).trans e) g0 g1 g3 g4 g5, qq⟩⟩
end
section
variable {D : Addr} {te : TE} {cap : L2.St} {H1 : Hp} {Q : VK}
theorem blk_of {J : It} (n : Nat) (xs : Nat → V) (Pv : Nat → List V → Hp → Prop) (h0 : Pv 0 [] (upd H1 D (.lst [])))
    (go : ∀ i ys H, i < n → Pv i ys H → J.go i H ∧ ∀ x H', J.yld i H x H' → H' = H ∧ x = xs i) (stop : ∀ ys H, Pv n ys H → J.stop n H)
    (hs : ∀ i ys H (R : VK), i < n → Pv i ys H → H D = some (.lst ys) → (∀ v H6, H6 D = some (.lst ys) → ys.length < sizeLine → Pv (i + 1) (ys ++ [v]) (upd H6 D (.lst (ys ++ [v]))) → R v H6) → te (some (xs i) :: cap) H R)
    (hd : ∀ ys H, Pv n ys H → H D = some (.lst ys) → Q (.ref D) H) : tBlk D (gName 0) tYes te J (none :: cap) H1 Q := by
  refine ⟨fun i m σ ys H => m = n - i ∧ i ≤ n ∧ (∃ o, σ = o :: cap) ∧ Pv i ys H ∧ H D = some (.lst ys), ⟨n, by simp, Nat.zero_le _, ⟨none, rfl⟩, h0, upd_same⟩, ?_⟩
  rintro i m σ ys H ⟨rfl, hi, ⟨o, rfl⟩, p, hD⟩
  by_cases hlt : i < n
  · obtain ⟨g1, g2⟩ := go i ys H hlt p
    refine .inr ⟨g1, fun x H' y => ?_⟩
    obtain ⟨e1, e2⟩ := g2 x H' y
    subst e1 e2
    unfold gName tYes
    dsimp only
    rw [if_pos rfl]
    exact hs i ys _ _ hlt p hD fun v H6 a b c => ⟨a, b, n - (i + 1), by omega, rfl, by omega, ⟨_, rfl⟩, c, upd_same⟩
  · have e : i = n := by omega
    subst e
    exact .inl ⟨stop ys H p, hd ys H p hD⟩
end
def Its (x : Str) : It := ⟨fun i _ => i < x.cps.size, fun i H v H' => H' = H ∧ ∃ c, x.cps[i]? = some c ∧ v = .str ⟨#[c]⟩, fun i _ => i = x.cps.size⟩
theorem turn_str {P : Program} {w : World} {K : PySem.W.Frag} {tg : Expr} {ty : String} (it : Addr) (x : Str) (t : Tok) (hty : ty = "str_ascii_iterator" ∨ ty = "str_iterator") : Turn P w K tg (Its x) [it] it (fun i h => h.IsStrIter it ty x t i) where
  mem := by simp
  obj := fun i h st b hb => by
    have e : b = it := by simpa using hb
    subst e
    obtain ⟨o, e, c, d⟩ := st
    exact ⟨o, e, fun v z => by rw [d] at z; cases z⟩
  keep := fun i h h' st k => by
    obtain ⟨o, e, r⟩ := st
    exact ⟨o, k it (by simp) o e, r⟩
  item := by
    intro X hP hw hK hc i pins s σ H E I hf st hg
    subst hP hw hK
    obtain ⟨f0, f1, f2, f3, f4, f5⟩ := hf it (by simp)
    have W : Walks X.prog X.w X.A it [it] [it] x.cps.size (SignAt x) (fun i h => h.IsStrIter it ty x t i) := by
      rcases hty with z | z
      · subst z
        exact Walks.strAscii (I.ok.hd hc) it x t
      · subst z
        exact Walks.strWide (I.ok.hd hc) it x t
    refine W.item i s _ _ hg st fun v h' tk hv st' kk => ?_
    obtain ⟨c, u, hx, rfl⟩ := hv
    have I1 : Inv X pins σ H { s with heap := h', toks := tk } := I.turned (fun b o hb e => kk b o (by simpa using hb) e) f0 f1 f3 f4 f5
    obtain ⟨o, e, cc, d⟩ := id st'
    exact ⟨_, rfl, go_of (s := { s with heap := h', toks := tk }) e cc d (by rcases hty with z | z <;> (subst z; decide)) ⟨.str ⟨#[c]⟩, H, I1, ⟨u, rfl⟩, ⟨rfl, c, hx, rfl⟩, st', fun b hb => (hf b hb).1⟩⟩
  done := by
    intro X hP hw hK hc i pins s σ H E I hf st hg
    subst hP hw hK
    obtain ⟨f0, f1, f2, f3, f4, f5⟩ := hf it (by simp)
    have W : Walks X.prog X.w X.A it [it] [it] x.cps.size (SignAt x) (fun i h => h.IsStrIter it ty x t i) := by
      rcases hty with z | z
      · subst z
        exact Walks.strAscii (I.ok.hd hc) it x t
      · subst z
        exact Walks.strWide (I.ok.hd hc) it x t
    have e : i = x.cps.size := hg
    subst e
    exact W.done s _ _ st fun h' tk kk => ⟨rfl, I.turned (fun b o hb e => kk b o (by simpa using hb) e) f0 f1 f3 f4 f5⟩
  self := fun _ _ _ _ _ st h => by
    rcases hty with z | z
    · subst z
      exact wpAny_pyIter_striter_ascii st h
    · subst z
      exact wpAny_pyIter_striter_wide st h
section
variable {X : Cx} {tg : Expr}
def iStr (tl : TE) : TI := fun σ H R => tl σ H fun x H1 => ∃ z, x = .str z ∧ R (Its z) H1
theorem pi_str {l : Expr} {tl : TE} (hl : PE X l tl) : PI X tg l (iStr tl) := by
  intro pins s σ H R I h
  refine thn (hl pins s σ H _ I h) fun v s1 ⟨x, H1, I1, r1, q1⟩ => ?_
  obtain ⟨z, e, q⟩ := q1
  subst e
  obtain ⟨t, rfl⟩ := r1
  have go : ∀ (o : Obj) (ty : String), (ty = "str_ascii_iterator" ∨ ty = "str_iterator") → (s1.heap.push o).IsStrIter s1.heap.objs.size ty z t 0 → PIE X pins σ tg R (.ref s1.heap.objs.size) { s1 with heap := s1.heap.push o } := fun o ty hty st => by
    refine ⟨s1.heap.objs.size, [s1.heap.objs.size], _, _, H1, rfl, I1.kept (t' := s1.toks) fun b o e => Heap.get?_push_of_some _ e, turn_str _ z t hty, st, fun b hb => ?_, q⟩
    have e : b = s1.heap.objs.size := by simpa using hb
    subst e
    exact I1.fpOk (Nat.le_refl _) (I1.hok.fresh (Nat.le_refl _))
  cases ha : z.cps.all (· < 128)
  · exact wpAny_pyIter_wide ha (go _ _ (.inr rfl) ⟨_, Heap.get?_push_size _ rfl, rfl, rfl⟩)
  · exact wpAny_pyIter_ascii ha (go _ _ (.inl rfl) ⟨_, Heap.get?_push_size _ rfl, rfl, rfl⟩)
end
theorem for_str {x : Str} {g : TG} {tb : TS} {D : Ends} {σ : L2.St} {H : Hp} (Pv : Nat → L2.St → Hp → Prop) (h0 : Pv 0 σ H)
    (hs : ∀ i c σ H, x.cps[i]? = some c → Pv i σ H → g (.str ⟨#[c]⟩) σ H fun σ2 H2 => tb { D with nx := Pv (i + 1), ct := Pv (i + 1), bk := D.nx } σ2 H2) (hd : ∀ σ H, Pv x.cps.size σ H → D.nx σ H) :
    ∃ W : Nat → Nat → L2.St → Hp → Prop, (∃ m, W 0 m σ H) ∧ ∀ i m σ H, W i m σ H →
      ((Its x).stop i H ∧ D.nx σ H) ∨ ((Its x).go i H ∧ ∃ N : L2.St → Hp → Prop, (∀ σ' H', N σ' H' → ∃ m', m' < m ∧ W (i + 1) m' σ' H') ∧ ∀ y H', (Its x).yld i H y H' → g y σ H' fun σ2 H2 => tb { D with nx := N, ct := N, bk := D.nx } σ2 H2) := by
  refine ⟨fun i m σ H => m = x.cps.size - i ∧ i ≤ x.cps.size ∧ Pv i σ H, ⟨x.cps.size, by simp, Nat.zero_le _, h0⟩, ?_⟩
  rintro i m σ H ⟨rfl, hi, p⟩
  by_cases hlt : i < x.cps.size
  · refine .inr ⟨hlt, Pv (i + 1), fun σ' H' p' => ⟨x.cps.size - (i + 1), by omega, rfl, hlt, p'⟩, fun y H' yy => ?_⟩
    obtain ⟨e, c, ec, ey⟩ := yy
    subst e ey
    exact hs i c σ _ ec p
  · have e : i = x.cps.size := by omega
    exact .inl ⟨e, hd σ H (e ▸ p)⟩
end Ty

set_option maxHeartbeats 4000000
namespace Ty
open PySem PySem.Spec PyProof.Rows L2
section
variable {prog : Program} {w : World} {A : Around} {E : Value → Shared → Prop}
end
def gLst (K : PySem.W.Frag) (n : Nat) (t : TGs) : TG := fun v σ H Q => ∃ a xs, v = .ref a ∧ SqL K H a xs ∧ xs.length = n ∧ t xs σ H Q
structure Mk0 (K : PySem.W.Frag) (C : Addr) : Prop where
  makes : PySem.W.makesIn K C = true
  init : PySem.W.findIn K (.ref C) "__init__" = some (some (.builtin "object.__init__"))
  kp : PySem.W.keepIn K (.ref C) = true
def tMk0 (C : Addr) : TE := fun _ H Q => ∀ x dx, H x = none → H dx = none → dx ≠ x → Q (.ref x) (upd (upd H dx (.own x)) x (.ins C dx []))
section
variable {X : Cx}
end
structure MtdOk (P : Program) (w : World) (K : PySem.W.Frag) (mg : Str → Option Value) (base : Heap) (CX : CXT) (k : Nat) (C : Addr) (m : Str) (ps : List Str) (sp : Sp) : Prop where
  ex : ∃ (f : Addr) (fd : FuncData), Cls K C ∧ Meth K C m f ∧ FnOk P w K mg base CX k f fd ps sp ∧ Binds K fd ps []
theorem MtdOk.mono {P : Program} {w : World} {K : PySem.W.Frag} {mg : Str → Option Value} {base : Heap} {CX : CXT} {j k : Nat} {C : Addr} {m : Str} {ps : List Str} {sp : Sp} (M : MtdOk P w K mg base CX j C m ps sp) (h : j ≤ k) : MtdOk P w K mg base CX k C m ps sp := by
  obtain ⟨f, fd, a, b, c, d⟩ := M.ex
  exact ⟨f, fd, a, b, c.mono h, d⟩
section
variable {X : Cx} {CX : CXT} {k : Nat} {E : XK} {m : Str} {pos apos : Pos} {e o : Expr} {es : List Expr} {ta : TE} {t : TA}
def tMtd (P : Program) (w : World) (K : PySem.W.Frag) (mg : Str → Option Value) (base : Heap) (CX : CXT) (k : Nat) (m : Str) (E : XK) (ta : TE) (t : TA) : TE := fun σ H Q => ta σ H fun x H1 => ∃ a C dx fs ps sp, x = .ref a ∧ H1 a = some (.ins C dx fs) ∧ fs.lookup m = none ∧
  MtdOk P w K mg base CX k C m ps sp ∧ t σ H1 fun vs H2 => sp (x :: vs) H2 Q E
end
end Ty

set_option maxHeartbeats 4000000
namespace Ty
open PySem PySem.Spec PyProof.Rows L2
section
variable {σ : L2.St} {H : Hp} {Q : VK} {QB : Bool → Hp → Prop} {QA : List V → Hp → Prop} {D : Ends} {t u : TS} {ta tb te : TE} {tc td : TT} {t1 : TA}
theorem rd_itNT {A B : Prop} (h : B) : if (!true) = true then A else B := iteF h
theorem rd_itNF {A B : Prop} (h : A) : if (!false) = true then A else B := iteT h
end
end Ty

set_option maxHeartbeats 4000000
namespace Ty
open PySem PySem.Spec PyProof.Rows L2
theorem joins_mono {M : Model} {A : Around} {E : Value → Shared → Prop} : ∀ {es : List (Sem Value)} {acc : Str} {Q Q' : Str → Shared → Prop} {s : Shared}, Joins M A E es acc Q s → (∀ o s', Q o s' → Q' o s') → Joins M A E es acc Q' s
  | [], _, _, _, _, h, m => m _ _ h
  | _ :: _, _, _, _, _, h, m => wpAny_mono h (fun v s1 ⟨y, t, e, l, r⟩ => ⟨y, t, e, l, joins_mono r m⟩) fun _ _ z => z
section
variable {X : Cx}
def tFmt (te : TE) : TE := fun σ H Q => te σ H fun x H1 => ∃ z, x = .str z ∧ z.length ≤ sizeLine ∧ Q (.str z) H1
theorem pe_fmt {e : Expr} {te : TE} {pos : Pos} (he : PE X e te) : PE X (.FormattedValue e (-1) none pos) (tFmt te) := by
  intro pins s σ H Q I h
  refine wpAny_FormattedValue_plain (thn (he pins s σ H _ I h) fun v s1 ⟨x, H1, I1, r1, q1⟩ => ?_)
  obtain ⟨z, rfl, hz, q⟩ := q1
  obtain ⟨t, rfl⟩ := r1
  exact wpAny_formatField_str ⟨.str z, H1, I1, ⟨_, rfl⟩, q⟩ ⟨.str z, H1, I1.tok _, ⟨_, rfl⟩, q⟩ hz
abbrev TJ := L2.St → Hp → (List Str → Hp → Prop) → Prop
def PJ (X : Cx) (es : List Expr) (t : TJ) : Prop :=
  ∀ (pins : List (Addr × Obj)) (s : Shared) (σ : L2.St) (H : Hp) (acc : Str) (Q : List Str → Hp → Prop), Inv X pins σ H s → acc.length + 5000 * es.length ≤ sizeLine → t σ H Q →
    Joins (model X.prog X.w) X.A X.xe (evalEach es X.env) acc (fun out s1 => ∃ ys H1, Inv X pins σ H1 s1 ∧ out = ys.foldl (· ++ ·) acc ∧ out.length ≤ sizeLine ∧ Q ys H1) s
def jNil : TJ := fun _ H Q => Q [] H
def jCons (te : TE) (t : TJ) : TJ := fun σ H Q => te σ H fun x H1 => ∃ z, x = .str z ∧ z.length ≤ 5000 ∧ t σ H1 fun ys H2 => Q (z :: ys) H2
theorem pj_nil : PJ X [] jNil := fun pins s σ H acc Q I hb h => ⟨[], H, I, rfl, by simpa using hb, h⟩
theorem pj_cons {e : Expr} {es : List Expr} {te : TE} {t : TJ} (he : PE X e te) (hr : PJ X es t) (hs : evalEach (e :: es) X.env = eval e X.env :: evalEach es X.env := by rfl) : PJ X (e :: es) (jCons te t) := by
  intro pins s σ H acc Q I hb h
  rw [hs]
  refine thn (he pins s σ H _ I h) fun v s1 ⟨x, H1, I1, r1, q1⟩ => ?_
  obtain ⟨z, rfl, hz, q⟩ := q1
  obtain ⟨u, rfl⟩ := r1
  have hb' : acc.length + 5000 * (es.length + 1) ≤ sizeLine := hb
  have hl : (acc ++ z).length = acc.length + z.length := strLen_append ..
  refine ⟨z, u, rfl, by rw [hl]; omega, joins_mono (hr pins s1 σ H1 (acc ++ z) _ I1 (by rw [hl]; omega) q) fun o s' ⟨ys, H2, I2, e, l, q2⟩ => ⟨z :: ys, H2, I2, e, l, q2⟩⟩
def tJoin (t : TJ) : TE := fun σ H Q => t σ H fun ys H1 => Q (.str (ys.foldl (· ++ ·) Str.empty)) H1
theorem pe_join {v1 v2 : Expr} {rest : List Expr} {pos : Pos} {t : TJ} (h : PJ X (v1 :: v2 :: rest) t) (hl : 5000 * (v1 :: v2 :: rest).length ≤ sizeLine := by decide) : PE X (.JoinedStr (v1 :: v2 :: rest) pos) (tJoin t) := by
  intro pins s σ H Q I q
  refine wpAny_JoinedStr (joins_mono (h pins s σ H Str.empty _ I (by rw [show Str.empty.length = 0 from rfl]; omega) q) fun o s' ⟨ys, H1, I1, e, l, q1⟩ => ⟨l, .str o, H1, I1.tok _, ⟨_, rfl⟩, ?_⟩)
  rw [e]
  exact q1
def rStarts : V → List V → Hp → VK → Prop := fun x vs H Q => ∃ z y, x = .str z ∧ vs = [.str y] ∧ Q (.bl (Txt.startswith z y)) H
theorem mt_startswith : MtR X "str.startswith" rStarts := by
  intro pins s σ H x vs v us Q I rx rv h
  obtain ⟨z, y, rfl, rfl, q⟩ := h
  obtain ⟨t, rfl⟩ := rx
  obtain ⟨u, rfl, ru⟩ := rv.one
  obtain ⟨t', rfl⟩ := ru
  exact SC.startswith ⟨.bl _, H, I, rfl, q⟩
def rFind : V → List V → Hp → VK → Prop := fun x vs H Q => ∃ z y, x = .str z ∧ vs = [.str y] ∧ Q (.int (Txt.find z y)) H
theorem mt_find : MtR X "str.find" rFind := by
  intro pins s σ H x vs v us Q I rx rv h
  obtain ⟨z, y, rfl, rfl, q⟩ := h
  obtain ⟨t, rfl⟩ := rx
  obtain ⟨u, rfl, ru⟩ := rv.one
  obtain ⟨t', rfl⟩ := ru
  exact SC.find ⟨.int _, H, I.tok _, ⟨_, rfl⟩, q⟩
def rPartition : V → List V → Hp → VK → Prop := fun x vs H Q => ∃ z y, x = .str z ∧ vs = [.str y] ∧ (y.length == 0) = false ∧ z.length ≤ sizeLine ∧
  ∀ p, H p = none → Q (.ref p) (upd H p (.tup [.str (Txt.partition z y).1, .str (Txt.partition z y).2.1, .str (Txt.partition z y).2.2]))
theorem mt_partition : MtR X "str.partition" rPartition := by
  intro pins s σ H x vs v us Q I rx rv h
  obtain ⟨z, y, rfl, rfl, hy, hz, q⟩ := h
  obtain ⟨t, rfl⟩ := rx
  obtain ⟨u, rfl, ru⟩ := rv.one
  obtain ⟨t', rfl⟩ := ru
  refine call_meets F.slot_str_partition (typeIs_str _ _ _) F.entry_str_partition (F.args_str_partition_2 _ _) (meets_str_partition z y t t' hy hz) ?_
  have sz : (3 : Nat) ≤ sizeLine := by decide
  have q' := q s.heap.objs.size (I.hok.fresh (Nat.le_refl _))
  unfold Txt.partition at q'
  revert q'
  cases Builtin.Str.occurrences z y 0 z.length 1 with
  | nil =>
    intro q'
    refine ⟨.ref s.heap.objs.size, _, I.laid (t' := s.toks + 1) (fun b o e => Heap.get?_push_of_some _ e) (Nat.le_refl _) (show ObjOk X.prog X.w _ _ _ (.tup [.str z, .str Str.empty, .str Str.empty]) from ⟨sz, [.str z t, .str Str.empty s.toks, .str Str.empty s.toks], .cons ⟨_, rfl⟩ (.cons ⟨_, rfl⟩ (.cons ⟨_, rfl⟩ .nil)), IsTup.new _ _⟩), rfl, q'⟩
  | cons i r =>
    intro q'
    refine ⟨.ref s.heap.objs.size, _, I.laid (t' := s.toks + 1 + 1) (fun b o e => Heap.get?_push_of_some _ e) (Nat.le_refl _) (show ObjOk X.prog X.w _ _ _ (.tup [.str (Builtin.Str.strSub z 0 i), .str y, .str (Builtin.Str.strSub z (i + y.length) z.length)]) from ⟨sz, [.str (Builtin.Str.strSub z 0 i) s.toks, .str y t', .str (Builtin.Str.strSub z (i + y.length) z.length) (s.toks + 1)], .cons ⟨_, rfl⟩ (.cons ⟨_, rfl⟩ (.cons ⟨_, rfl⟩ .nil)), IsTup.new _ _⟩), rfl, q'⟩
def rSlS : V → Option Int → Option Int → Hp → VK → Prop := fun x lo hi H Q => ∃ z, x = .str z ∧ z.length ≤ sizeLine ∧ Q (.str (Txt.slice z lo hi)) H
theorem sl_str : SlR X rSlS := by
  intro pins s σ H x v vl vu lo hi sl Q I rx hs pl pu h
  obtain ⟨z, rfl, hz, q⟩ := h
  obtain ⟨t, rfl⟩ := rx
  refine ⟨"str", _, F.slot_str_getitem.lookup, typeIs_str _ _ _, ?_⟩
  cases pl <;> cases pu
  · exact wpAny_getItem_str_slice (l := none) (u := none) (st := none) hs rfl (post_val_or_str ⟨Nat.le_trans (Txt.slice_le z _ _) hz, fun t' k => ⟨.str _, H, I.tok k, ⟨t', rfl⟩, q⟩⟩)
  · rename_i j uj
    exact wpAny_getItem_str_slice (l := none) (u := some (j, uj)) (st := none) hs rfl (post_val_or_str ⟨Nat.le_trans (Txt.slice_le z _ _) hz, fun t' k => ⟨.str _, H, I.tok k, ⟨t', rfl⟩, q⟩⟩)
  · rename_i i ui
    exact wpAny_getItem_str_slice (l := some (i, ui)) (u := none) (st := none) hs rfl (post_val_or_str ⟨Nat.le_trans (Txt.slice_le z _ _) hz, fun t' k => ⟨.str _, H, I.tok k, ⟨t', rfl⟩, q⟩⟩)
  · rename_i i ui j uj
    exact wpAny_getItem_str_slice (l := some (i, ui)) (u := some (j, uj)) (st := none) hs rfl (post_val_or_str ⟨Nat.le_trans (Txt.slice_le z _ _) hz, fun t' k => ⟨.str _, H, I.tok k, ⟨t', rfl⟩, q⟩⟩)
def rIntText : List V → Hp → VK → Prop := fun xs H Q => ∃ z n, xs = [.str z] ∧ PySem.intText? z = some n ∧ z.length ≤ 640 ∧ Q (.int n) H
theorem call_int_text : CallR X (.type "int") rIntText := by
  intro pins s σ H xs us Q I r h
  obtain ⟨z, n, rfl, e, hl, q⟩ := h
  obtain ⟨u, rfl, t, rfl⟩ := vals1 r
  exact PySem.W.KIN.call_text e hl ⟨.int n, H, I.tok _, ⟨_, rfl⟩, q⟩
def rMulS : R2 := fun x y H Q => ∃ z n, x = .str z ∧ y = .int n ∧ MulOk z n ∧ Q (.str (Txt.mul z n)) H
theorem op_mulS : OpR X (binaryOp .Mult) rMulS := by
  intro pins s σ H x y v u Q I rx ry h
  obtain ⟨z, n, rfl, rfl, ok, q⟩ := h
  obtain ⟨t, rfl⟩ := rx
  obtain ⟨t', rfl⟩ := ry
  exact SB.mul ok fun t' k => ⟨.str _, H, I.tok k, ⟨t', rfl⟩, q⟩
theorem all_range (bs : List Bool) : (List.range bs.length).all (fun i => (bs[i]?).getD true) = bs.all id := by
  induction bs with
  | nil => rfl
  | cons b r ih =>
    rw [List.length_cons, List.range_succ_eq_map, List.all_cons, List.all_map, List.all_cons, ← ih]
    rfl
def rAll (K : PySem.W.Frag) : List V → Hp → VK → Prop := fun xs H Q => ∃ (p : Addr) (bs : List Bool), xs = [.ref p] ∧ SqL K H p (bs.map V.bl) ∧ Q (.bl (bs.all id)) H
theorem call_allB (hc : X.calm = true) : CallR X (.builtin "all") (rAll X.K) := by
  intro pins s σ H xs us Q I r h
  obtain ⟨p, bs, rfl, hq, q⟩ := h
  obtain ⟨u, rfl, r1⟩ := vals1 r
  cases r1
  obtain ⟨its, rv, pl, hz⟩ := I.list hq
  refine call_all_walk (wpAny_pyIter_list pl.isList ?_)
  have hne : p ≠ s.heap.objs.size := by obtain ⟨o, ho, _⟩ := pl.isList; exact Nat.ne_of_lt (Heap.lt_size ho)
  have I1 : Inv X pins σ H { s with heap := s.heap.push { cls := .type "list_iterator", data := .fields #[.ref p, .int 0 0] } } := I.kept (t' := s.toks) fun b o e => Heap.get?_push_of_some _ e
  obtain ⟨f0, f1, f2, f3, f4, f5⟩ := I.fpOk (H' := H) (Nat.le_refl s.heap.objs.size) (I.hok.fresh (Nat.le_refl _))
  have hl : its.length = bs.length := by rw [← rv.length, List.length_map]
  refine ⟨s.heap.objs.size, _, _, _, _, _, fun i => (bs[i]?).getD true, rfl, Walks.list (A := X.A.in1) (I.ok.hd hc) s.heap.objs.size p hne its.toArray, ⟨⟨_, Heap.get?_push_size _ rfl, rfl, rfl⟩, pl.isList.at fun o e => Heap.get?_push_of_some _ e⟩, ?_, fun h' tk kk => ?_⟩
  · intro i v s' Q' E' hv hq'
    have hv' : its[i]? = some v := by simpa using hv
    have hi : i < bs.length := by rw [← hl]; exact (List.getElem?_eq_some_iff.mp hv').1
    have eb : (bs.map V.bl)[i]? = some (.bl bs[i]) := by rw [List.getElem?_map, List.getElem?_eq_getElem hi]; rfl
    obtain ⟨u, eu, ru⟩ := rv.get eb
    rw [hv'] at eu
    cases eu
    cases ru
    dsimp only at hq'
    rw [List.getElem?_eq_getElem hi] at hq'
    exact wpAny_truthy_bool hq'
  · refine ⟨.bl (bs.all id), H, I1.turned (t' := tk) (it := s.heap.objs.size) (fun b o hb e => kk b o (by simpa using hb) e) f0 f1 f3 f4 f5, ?_, q⟩
    show _ = _
    rw [← all_range bs, List.size_toArray, hl]
end
end Ty

set_option maxHeartbeats 4000000
namespace Ty
open PySem PySem.Spec PyProof.Rows L2 PySem.NumText
theorem str_ext {x y : Str} (h : x.cps.toList = y.cps.toList) : x = y := by
  obtain ⟨a⟩ := x
  obtain ⟨b⟩ := y
  exact congrArg Str.mk (Array.toList_inj.mp h)
theorem cps_append (x y : Str) : (x ++ y).cps.toList = x.cps.toList ++ y.cps.toList := by
  show (x.cps ++ y.cps).toList = _
  simp
theorem len_cps (x : Str) : x.length = x.cps.toList.length := by simp [Str.length]
def dg (m : Nat) : List Nat := (Nat.toDigits 10 m).map Char.toNat
theorem code_digit : ∀ d : Nat, d < 10 → (Nat.digitChar d).toNat = 48 + d := by decide
theorem dg_lt {m : Nat} (h : m < 10) : dg m = [48 + m] := by
  unfold dg
  rw [Nat.toDigits_of_lt_base h]
  show [(Nat.digitChar m).toNat] = _
  rw [code_digit m h]
theorem dg_step {m : Nat} (h : 10 ≤ m) : dg m = dg (m / 10) ++ [48 + m % 10] := by
  have hm : m % 10 < 10 := Nat.mod_lt m (by decide)
  have t : Nat.toDigits 10 (m / 10) ++ Nat.toDigits 10 (m % 10) = Nat.toDigits 10 (10 * (m / 10) + m % 10) := Nat.toDigits_append_toDigits (by decide) (by omega) hm
  rw [Nat.div_add_mod] at t
  unfold dg
  rw [← t, List.map_append, Nat.toDigits_of_lt_base hm]
  show _ ++ [(Nat.digitChar (m % 10)).toNat] = _
  rw [code_digit _ hm]
theorem dg_val (m : Nat) : digitsVal (dg m) = m := PySem.W.KIN.val_back m
theorem dg_all (m : Nat) : AllDigits (dg m) := by
  induction m using Nat.strongRecOn with
  | _ m ih =>
    by_cases h : m < 10
    · rw [dg_lt h]
      intro c hc
      have : c = 48 + m := by simpa using hc
      omega
    · rw [dg_step (by omega)]
      intro c hc
      rcases List.mem_append.mp hc with z | z
      · exact ih (m / 10) (by omega) c z
      · have : c = 48 + m % 10 := by simpa using z
        omega
theorem dg_ne (m : Nat) : dg m ≠ [] := by
  by_cases h : m < 10
  · rw [dg_lt h]; simp
  · rw [dg_step (by omega)]; simp
theorem dg_len {m k : Nat} (hk : 1 ≤ k) (h : m < 10 ^ k) : (dg m).length ≤ k := by
  unfold dg
  rw [List.length_map]
  exact toDigits_len_pow (by decide) hk h
theorem dg_head (m : Nat) : (dg m).head? = some 48 → m = 0 := by
  induction m using Nat.strongRecOn with
  | _ m ih =>
    by_cases h : m < 10
    · rw [dg_lt h]
      intro e
      have : 48 + m = 48 := by simpa using e
      omega
    · rw [dg_step (by omega)]
      intro e
      have e' : (dg (m / 10)).head? = some 48 := by
        cases q : dg (m / 10) with
        | nil => exact absurd q (dg_ne _)
        | cons c r => rw [q] at e; simpa using e
      have := ih (m / 10) (by omega) e'
      omega
def tx (n : Int) : Str := Str.ofString (toString n)
theorem tx_nat (m : Nat) : (tx (m : Int)).cps.toList = dg m := PySem.W.KIN.signs_num m
theorem tx_neg {m : Nat} (h : 0 < m) : (tx (-(m : Int))).cps.toList = 45 :: dg m := by
  obtain ⟨k, rfl⟩ : ∃ k, m = k + 1 := ⟨m - 1, by omega⟩
  unfold tx
  rw [signs_ofString]
  show (Int.repr (Int.negSucc k)).toList.map Char.toNat = _
  show (("-" ++ Nat.repr (k + 1)) : String).toList.map Char.toNat = _
  rw [String.toList_append, List.map_append, Nat.toList_repr]
  rfl
theorem tx_cps (n : Int) : (tx n).cps.toList = if n < 0 then 45 :: dg n.natAbs else dg n.natAbs := by
  by_cases h : n < 0
  · rw [if_pos h]
    have e : n = -((n.natAbs : Nat) : Int) := by omega
    have := tx_neg (m := n.natAbs) (by omega)
    rw [← e] at this
    exact this
  · rw [if_neg h]
    have e : n = ((n.natAbs : Nat) : Int) := by omega
    have := tx_nat n.natAbs
    rw [← e] at this
    exact this
theorem tx_len {n : Int} {k : Nat} (hk : 1 ≤ k) (h : n.natAbs < 10 ^ k) : (tx n).length ≤ k + 1 := by
  rw [len_cps, tx_cps]
  have := dg_len hk h
  split
  · rw [List.length_cons]; omega
  · omega
theorem tx_reads {n : Int} (h : n.natAbs < 10 ^ 4000) : intText? (tx n) = some n := by
  have hl := tx_len (by decide) h
  by_cases c : n < 0
  · have e := tx_cps n
    rw [if_pos c] at e
    rw [intText_neg e (dg_all _) (dg_ne _) (Nat.le_trans hl (by decide)), dg_val]
    congr 1
    omega
  · have e := tx_cps n
    rw [if_neg c] at e
    have a : AllDigits (tx n).cps.toList := by rw [e]; exact dg_all _
    rw [intText_digits a (by rw [e]; exact dg_ne _) (Nat.le_trans hl (by decide)), e, dg_val]
    congr 1
    omega
theorem tx_no {n : Int} {c : Nat} (h : c ≠ 45) (h2 : c < 48 ∨ 57 < c) : c ∉ (tx n).cps.toList := by
  intro m
  rw [tx_cps] at m
  split at m
  · rcases List.mem_cons.mp m with z | z
    · exact h z
    · have := dg_all _ c z
      omega
  · have := dg_all _ c m
    omega
theorem tx_figs (n : Int) : ∀ c ∈ dg n.natAbs, 48 ≤ c ∧ c ≤ 57 := dg_all _
def slash : Str := Str.ofString "/"
theorem slash_cps : slash.cps.toList = [47] := by decide +kernel
def nt (q : Int × Int) : Str := if q.2 = 1 then tx q.1 else tx q.1 ++ slash ++ tx q.2
theorem part_at {a b : Str} (h : 47 ∉ a.cps.toList) : Txt.partition (a ++ (⟨#[47]⟩ : Str) ++ b) ⟨#[47]⟩ = (a, ⟨#[47]⟩, b) := by
  have ec : (a ++ (⟨#[47]⟩ : Str) ++ b).cps.toList = a.cps.toList ++ (47 :: b.cps.toList) := by
    rw [cps_append, cps_append, List.append_assoc]
    rfl
  rcases partition_whole (a ++ (⟨#[47]⟩ : Str) ++ b) ⟨#[47]⟩ with ⟨_, hn⟩ | ⟨i, e, hi, hk⟩
  · exfalso
    have : (47 : Nat) ∈ (a ++ (⟨#[47]⟩ : Str) ++ b).cps.toList := by rw [ec]; simp
    obtain ⟨i, hi⟩ := (mem_iff_at _ 47).mp this
    exact hn i hi
  · have h1 := (StrLaws.subAt_one _ 47 i).mp hi
    have h2 : ¬ i < a.cps.toList.length := fun c => by
      rw [ec, List.getElem?_append_left c] at h1
      exact h (List.mem_of_getElem? h1)
    have h3 : ¬ a.cps.toList.length < i := fun c => by
      refine hk a.cps.toList.length c ((StrLaws.subAt_one _ 47 _).mpr ?_)
      rw [ec, List.getElem?_append_right (Nat.le_refl _), Nat.sub_self]
      rfl
    have ei : i = a.cps.toList.length := by omega
    rw [e]
    have l : (a ++ (⟨#[47]⟩ : Str) ++ b).length = a.cps.toList.length + 1 + b.cps.toList.length := by
      rw [len_cps, ec, List.length_append, List.length_cons]
      omega
    have sub : ∀ (x : Str) (i j : Nat), (Builtin.Str.strSub x i j).cps.toList = (x.cps.toList.take j).drop i := fun x i j => by
      show (x.cps.extract i j).toList = _
      simp [List.extract_eq_drop_take', Array.toList_extract]
    have l1 : (⟨#[47]⟩ : Str).length = 1 := rfl
    have p1 : Builtin.Str.strSub (a ++ (⟨#[47]⟩ : Str) ++ b) 0 i = a := str_ext (by
      rw [sub, ec, ei, List.drop_zero, List.take_left' rfl])
    have p2 : Builtin.Str.strSub (a ++ (⟨#[47]⟩ : Str) ++ b) (i + (⟨#[47]⟩ : Str).length) (a ++ (⟨#[47]⟩ : Str) ++ b).length = b := str_ext (by
      rw [sub, l, l1, ec, ei]
      rw [List.take_of_length_le (by rw [List.length_append, List.length_cons]; omega)]
      rw [show a.cps.toList ++ (47 :: b.cps.toList) = (a.cps.toList ++ [47]) ++ b.cps.toList by simp]
      rw [List.drop_left' (by simp)])
    rw [p1, p2]
theorem one_sign (c : Nat) : (⟨#[c]⟩ : Str).length = 1 := rfl
theorem in_one (x : Str) (c : Nat) : (!(Builtin.Str.occurrences x ⟨#[c]⟩ 0 x.length 1).isEmpty) = decide (c ∈ x.cps.toList) := by
  rcases StrLaws.occ_head x ⟨#[c]⟩ 1 (Nat.le_refl 1) with ⟨h0, hn⟩ | ⟨i, r, h0, hi, _⟩
  · rw [h0, decide_eq_false fun m => by obtain ⟨i, hi⟩ := (mem_iff_at x c).mp m; exact hn i hi]
    rfl
  · rw [h0, decide_eq_true ((mem_iff_at x c).mpr ⟨i, hi⟩)]
    rfl
theorem starts_one {x : Str} {c d : Nat} {cs : List Nat} (h : x.cps.toList = d :: cs) : Txt.startswith x ⟨#[c]⟩ = decide (d = c) := by
  have hl : x.length = cs.length + 1 := by rw [len_cps, h]; rfl
  unfold Txt.startswith
  have e1 : decide (0 + (⟨#[c]⟩ : Str).length ≤ x.length) = true := decide_eq_true (by rw [one_sign, hl]; omega)
  rw [e1, Bool.true_and]
  by_cases e : d = c
  · rw [decide_eq_true e]
    have : StrLaws.At x ⟨#[c]⟩ x.length 0 := (StrLaws.subAt_one x c 0).mpr (by rw [h, e]; rfl)
    exact this.2
  · rw [decide_eq_false e]
    refine Bool.eq_false_iff.mpr fun z => e ?_
    have : StrLaws.At x ⟨#[c]⟩ x.length 0 := ⟨by rw [one_sign, hl]; omega, z⟩
    have := (StrLaws.subAt_one x c 0).mp this
    rw [h] at this
    exact Option.some.inj this
theorem slice_one {x : Str} {d : Nat} {cs : List Nat} (h : x.cps.toList = d :: cs) : (Txt.slice x (some 1) none).cps.toList = cs := by
  have hl : x.length = cs.length + 1 := by rw [len_cps, h]; rfl
  rw [slice_from_eq (i := 1) (b := (x.length : Int)) (by decide) (by rw [hl]; omega) rfl, h]
  show ((cs.take _).toArray).toList = cs
  rw [List.take_of_length_le (by rw [hl]; omega)]
theorem empty_app (x : Str) : Str.empty ++ x = x := str_ext (by rw [cps_append]; rfl)
theorem figs_mem {c : Nat} (h : 48 ≤ c ∧ c ≤ 57) : c ∈ (Str.ofString "0123456789").cps.toList := by
  have e : (Str.ofString "0123456789").cps.toList = [48, 49, 50, 51, 52, 53, 54, 55, 56, 57] := by decide +kernel
  rw [e]
  simp
  omega
end Ty

set_option maxHeartbeats 4000000
namespace Ty
open PySem PySem.Spec PyProof.Rows L2 PySem.NumText
structure Txk (x : Str) : Prop where
  len : x.length ≤ 400
  cod : ∀ c ∈ x.cps.toList, c < 1000
section
variable {X : Cx}
def tRep (te : TE) : TE := fun σ H Q => te σ H fun x H1 => ∃ z, x = .str z ∧ Txk z ∧ ∀ y : Str, y.length ≤ 5000 → Q (.str y) H1
theorem pe_rep {e : Expr} {te : TE} {pos : Pos} (he : PE X e te) : PE X (.FormattedValue e 114 none pos) (tRep te) := by
  intro pins s σ H Q I h
  refine wpAny_FormattedValue_repr (thn (he pins s σ H _ I h) fun v s1 ⟨x, H1, I1, r1, q1⟩ => ?_)
  obtain ⟨z, rfl, hz, q⟩ := q1
  obtain ⟨t, rfl⟩ := r1
  have l1 := StrLaws.reprText_len z (fun c hc => Nat.lt_of_lt_of_le (hz.cod c hc) (by decide))
  have l2 := hz.len
  have l3 : (reprText z).length ≤ 5000 := by omega
  have l4 : (reprText z).length ≤ sizeLine := Nat.le_trans l3 (by decide)
  refine wpAny_pyReprObj_str ?_ l4
  have I2 : Inv X pins σ H1 { s1 with toks := s1.toks + 1 } := I1.tok _
  exact wpAny_formatField_str ⟨.str _, H1, I2, ⟨_, rfl⟩, q _ l3⟩ ⟨.str _, H1, I2.tok _, ⟨_, rfl⟩, q _ l3⟩ l4
theorem strsAre_of : ∀ {ys : List Str} {us : List Value}, Vals (ys.map V.str) us → StrsAre us ys
  | [], [], .nil => .nil
  | _ :: _, _ :: _, .cons ⟨t, e⟩ r => by subst e; exact .cons _ _ (strsAre_of r)
def rJoinL (K : PySem.W.Frag) : V → List V → Hp → VK → Prop := fun x vs H Q => ∃ (z : Str) (p : Addr) (ys : List Str), x = .str z ∧ vs = [.ref p] ∧ SqL K H p (ys.map V.str) ∧ (ys.map (·.length)).sum + ys.length * z.length ≤ 16777216 ∧ Q (.str (Txt.join z ys)) H
theorem mt_join : MtR X "str.join" (rJoinL X.K) := by
  intro pins s σ H x vs v us Q I rx rv h
  obtain ⟨z, p, ys, rfl, rfl, hq, hl, q⟩ := h
  obtain ⟨t, rfl⟩ := rx
  obtain ⟨u, rfl, ru⟩ := rv.one
  cases ru
  obtain ⟨its, r, pl, hz⟩ := I.list hq
  exact join_list pl.isList (strsAre_of (by simpa using r)) hl fun t' k => ⟨.str _, H, I.tok k, ⟨t', rfl⟩, q⟩
end
def isStar : Expr → Bool
  | .Starred .. => true
  | _ => false
theorem star_cons {e : Expr} {es : List Expr} {env : Env} (h : isStar e = false) : starEach (e :: es) env = (false, eval e env) :: starEach es env := by
  cases e <;> first | rfl | (cases h; done)
theorem pac {X : Cx} {e : Expr} {es : List Expr} {te : TE} {t : TA} (ha : PE X e te) (hr : PA X es t) (h : isStar e = false := by rfl) : PA X (e :: es) (tCons te t) := pa_cons ha hr (star_cons h)
def writs : List Expr → Option (List Str)
  | [] => some []
  | .Constant (.str x) _ _ :: r => (writs r).map (x :: ·)
  | _ => none
def tStrs (xs : List Str) : TA := fun _ H Q => Q (xs.map V.str) H
theorem pa_strs {X : Cx} (xs : List Str) {es : List Expr} (h : writs es = some xs) : PA X es (tStrs xs) := by
  induction es generalizing xs with
  | nil => cases h; exact pa_nil
  | cons e es ih =>
    unfold writs at h
    split at h
    · rename_i h0; cases h0
    · rename_i x j pos r h0
      cases h0
      cases hr : writs es with
      | none => rw [hr] at h; cases h
      | some ys =>
        rw [hr] at h
        cases h
        exact pac pe_str (ih ys hr)
    · cases h
end Ty

set_option maxHeartbeats 4000000
namespace Ty
open PySem PySem.Spec PyProof.Rows L2
section
variable {D : Addr} {te : TE} {cap : L2.St} {H1 : Hp} {Q : VK}
def KSame (D : Addr) (H H' : Hp) : Prop := ∀ b o, b ≠ D → H b = some o → H' b = some o
theorem KSame.of {H H' : Hp} (s : Same H H') : KSame D H H' := fun b o _ e => s b o e
theorem KSame.upd {H : Hp} {o : HO} : KSame D H (upd H D o) := fun b o' n e => by rw [upd_ne n]; exact e
theorem comp_gen {J : It} (n : Nat) (xs : Nat → V) (Rel : Nat → V → Hp → Prop) (nD : H1 D = none) (hn : n < sizeLine)
    (go : ∀ i H, i < n → Same H1 H → J.go i H ∧ ∀ x H', J.yld i H x H' → H' = H ∧ x = xs i) (stop : ∀ H, Same H1 H → J.stop n H)
    (hR : ∀ i v H H' ys, H D = some (.lst ys) → KSame D H H' → Rel i v H → Rel i v H')
    (he : ∀ i H (R : VK), i < n → Same H1 H → (∀ v H6, Same H H6 → Rel i v H6 → R v H6) → te (some (xs i) :: cap) H R)
    (hd : ∀ ys H, ys.length = n → (∀ i v, ys[i]? = some v → Rel i v H) → Same H1 H → H D = some (.lst ys) → Q (.ref D) H) :
    tBlk D (gName 0) tYes te J (none :: cap) H1 Q := by
  refine blk_of n xs (fun i ys H => ys.length = i ∧ (∀ i v, ys[i]? = some v → Rel i v H) ∧ Same H1 H) ⟨rfl, fun i v e => by simp at e, fun b o e => by rw [upd_ne (ne_of_none e nD)]; exact e⟩ ?_ ?_ ?_ ?_
  · rintro i ys H hi ⟨_, _, s⟩
    exact go i H hi s
  · rintro ys H ⟨_, _, s⟩
    exact stop H s
  · rintro i ys H R hi ⟨l, r, s⟩ hD k
    refine he i H R hi s fun v H6 s6 rv => k v H6 (s6 _ _ hD) (by omega) ⟨by simp [l], fun j u e => ?_, fun b o e => ?_⟩
    · by_cases c : j < ys.length
      · rw [List.getElem?_append_left c] at e
        have ru := hR j u H H6 ys hD (KSame.of s6) (r j u e)
        exact hR j u H6 _ ys (s6 _ _ hD) KSame.upd ru
      · rw [List.getElem?_append_right (by omega)] at e
        have ej : j = i := by
          by_cases z : j - ys.length = 0
          · omega
          · rw [List.getElem?_eq_none (by simp; omega)] at e
            cases e
        subst ej
        have : v = u := by
          rw [show j - ys.length = 0 by omega] at e
          exact Option.some.inj e
        subst this
        exact hR j v H6 _ ys (s6 _ _ hD) KSame.upd rv
    · rw [upd_ne (ne_of_none e nD)]
      exact s6 _ _ (s _ _ e)
  · rintro ys H ⟨l, r, s⟩ hD
    exact hd ys H l r s hD
theorem comp_list {K : PySem.W.Frag} {a : Addr} {xs : List V} (Rel : Nat → V → Hp → Prop) (nD : H1 D = none) (hn : xs.length < sizeLine) (hS : ∀ H, Same H1 H → SqL K H a xs)
    (hR : ∀ i v H H' ys, H D = some (.lst ys) → KSame D H H' → Rel i v H → Rel i v H')
    (he : ∀ i x H (R : VK), xs[i]? = some x → Same H1 H → (∀ v H6, Same H H6 → Rel i v H6 → R v H6) → te (some x :: cap) H R)
    (hd : ∀ ys H, ys.length = xs.length → (∀ i v, ys[i]? = some v → Rel i v H) → Same H1 H → H D = some (.lst ys) → Q (.ref D) H) :
    tBlk D (gName 0) tYes te (Itl K a) (none :: cap) H1 Q := by
  refine comp_gen xs.length (fun i => (xs[i]?).getD .non) Rel nD hn (fun i H hi s => ⟨⟨xs, xs[i], hS H s, List.getElem?_eq_getElem hi⟩, fun x H' y => ⟨y.1, ?_⟩⟩) (fun H s => ⟨xs, hS H s, Nat.le_refl _⟩) hR (fun i H R hi s k => ?_) hd
  · rw [y.2 xs (hS H s)]; rfl
  · have e : xs[i]? = some xs[i] := List.getElem?_eq_getElem hi
    have k' := he i _ H R e s k
    rw [← (show (xs[i]?).getD .non = xs[i] by rw [e]; rfl)] at k'
    exact k'
end
theorem slice_mem {x : Str} {l u : Option Int} {c : Nat} (h : c ∈ (Txt.slice x l u).cps.toList) : c ∈ x.cps.toList := by
  unfold Txt.slice at h
  split at h
  · exact h
  · rw [List.toList_toArray] at h
    obtain ⟨i, _, e⟩ := List.mem_filterMap.mp h
    exact Array.mem_toList_iff.mpr (Array.mem_of_getElem? e)
theorem mul_sign {c m : Nat} (hc : c < 58) (h48 : 48 ≤ c) (hm : m < 62) : MulOk (⟨#[c]⟩ : Str) (m : Int) ∧ (Txt.mul (⟨#[c]⟩ : Str) (m : Int)).length ≤ 62 ∧ ∀ d ∈ (Txt.mul (⟨#[c]⟩ : Str) (m : Int)).cps.toList, d < 1000 := by
  have key : ∀ k : Nat, k < 10 → ∀ m : Nat, m < 62 → ((Txt.mul (⟨#[48 + k]⟩ : Str) (m : Int)).length ≤ 62 ∧ ∀ d ∈ (Txt.mul (⟨#[48 + k]⟩ : Str) (m : Int)).cps.toList, d < 1000) := by decide +kernel
  have key2 : ∀ m : Nat, m < 62 → MulOk (⟨#[48]⟩ : Str) (m : Int) := by unfold MulOk; decide +kernel
  obtain ⟨k, rfl⟩ : ∃ k, c = 48 + k := ⟨c - 48, by omega⟩
  exact ⟨key2 m hm, key k (by omega) m hm⟩
theorem foldl_join (ys : List Str) (acc : Array Nat) : (List.foldl (fun acc p => acc ++ (Str.empty).cps ++ p.cps) acc ys).toList = acc.toList ++ (ys.map fun y => y.cps.toList).flatten := by
  induction ys generalizing acc with
  | nil => simp
  | cons y r ih =>
    rw [List.foldl_cons, ih]
    simp [Str.empty]
theorem join_cps (ys : List Str) : (Txt.join Str.empty ys).cps.toList = (ys.map fun y => y.cps.toList).flatten := by
  show (Builtin.Str.glued Str.empty ys).cps.toList = _
  unfold Builtin.Str.glued
  cases ys with
  | nil => rfl
  | cons y r =>
    rw [foldl_join]
    simp
end Ty

set_option maxHeartbeats 4000000
namespace T_k05
open PySem PySem.Spec PyProof.Rows L2 Ty
open Builtin.Int (intBits)
seal L2.PE L2.PS L2.PSs L2.PA
def top (i : Nat) : Stmt := PySem.Challenge.pw_trussyard_k05_texts_read.main.body.getD i (.Pass ⟨0, 0, 0, 0⟩)
abbrev s_YardError : Stmt := top 1
abbrev s_NoNumber : Stmt := top 2
abbrev s_NoText : Stmt := top 3
abbrev s_NoWay : Stmt := top 4
abbrev s_PinThere : Stmt := top 5
abbrev s_SpotTaken : Stmt := top 6
abbrev s_NoPin : Stmt := top 7
abbrev s_PinBusy : Stmt := top 8
abbrev s_BarThere : Stmt := top 9
abbrev s_NoBar : Stmt := top 10
abbrev s_NoLength : Stmt := top 11
abbrev s_TooMany : Stmt := top 12
abbrev s_NoGrip : Stmt := top 13
abbrev s_NoBound : Stmt := top 14
abbrev s_NoLine : Stmt := top 15
abbrev s_NoLoad : Stmt := top 16
abbrev s_ratio_of : Stmt := top 18
abbrev s_is_whole : Stmt := top 19
abbrev s_lowest_terms : Stmt := top 20
abbrev s_greatest_shared : Stmt := top 21
abbrev s_show_ratio : Stmt := top 25
abbrev s_read_ratio : Stmt := top 26
abbrev s_read_whole : Stmt := top 27
abbrev s_law_cell_at : Stmt := top 29
abbrev s_law_same : Stmt := top 30
abbrev s_law_shared : Stmt := top 31
abbrev s_law_whole_told : Stmt := top 32
abbrev s_law_told : Stmt := top 33
abbrev s_law_sign_by : Stmt := top 34
abbrev s_law_number_text : Stmt := top 35
abbrev s_law_odd_text : Stmt := top 36
abbrev s_law_long_text : Stmt := top 37
abbrev s_law_text : Stmt := top 38
abbrev s_law_alone : Stmt := top 39
abbrev s_law_refused : Stmt := top 40
abbrev s_law_no_text : Stmt := top 41
abbrev s_law : Stmt := top 42
section
variable {P : Program} {w : World} {K : PySem.W.Frag} {mg : Str → Option Value} {base : Heap} {CX : CXT}
def Nm (H : Hp) (v : V) (q : Int × Int) : Prop := ∃ p, v = .ref p ∧ H p = some (.tup [.int q.1, .int q.2])
theorem Nm.same {H H' : Hp} {v : V} {q : Int × Int} (h : Nm H v q) (s : Same H H') : Nm H' v q := by
  obtain ⟨p, e, k⟩ := h
  exact ⟨p, e, s _ _ k⟩
structure Okn (k : Nat) (q : Int × Int) : Prop where
  pos : 0 < q.2
  top : intBits q.1 ≤ k
  bot : intBits q.2 ≤ k
theorem same_new {H : Hp} {p : Addr} (h : H p = none) (o : HO) : Same H (upd H p o) := fun b u q => by rw [upd_ne (ne_of_none q h)]; exact q
def gives (H : Hp) (Q : VK) (q : Int × Int) : Prop := ∀ (p : Addr) (H' : Hp), Same H H' → H' p = some (.tup [.int q.1, .int q.2]) → Q (.ref p) H'
def spShared : Sp := fun vs H Q _ => ∃ a b : Int, vs = [.int a, .int b] ∧ Q (.int (gz a b)) H
def spLowest : Sp := fun vs H Q _ => ∃ t b : Int, vs = [.int t, .int b] ∧ b ≠ 0 ∧ intBits b ≤ 9000 ∧ gives H Q (low t b)
def spBin (f : Int × Int → Int × Int → Int × Int) : Sp := fun vs H Q _ => ∃ (u v : V) (x y : Int × Int), vs = [u, v] ∧ Nm H u x ∧ Nm H v y ∧ Okn 4000 x ∧ Okn 4000 y ∧ gives H Q (f x y)
def addQ (x y : Int × Int) : Int × Int := low (x.1 * y.2 + y.1 * x.2) (x.2 * y.2)
def subQ (x y : Int × Int) : Int × Int := low (x.1 * y.2 - y.1 * x.2) (x.2 * y.2)
def mulQ (x y : Int × Int) : Int × Int := low (x.1 * y.1) (x.2 * y.2)
theorem at0 {a b : V} : atI [a, b] 0 = some a := rfl
theorem at1 {a b : V} : atI [a, b] 1 = some b := rfl
def spShow : Sp := fun vs H Q _ => ∃ (u : V) (q : Int × Int), vs = [u] ∧ Nm H u q ∧ q.1.natAbs.log2 < 1900 ∧ q.2.natAbs.log2 < 1900 ∧ Q (.str (nt q)) H
theorem nt_one {q : Int × Int} (h : q.2 = 1) : nt q = tx q.1 := if_pos h
theorem nt_two {q : Int × Int} (h : q.2 ≠ 1) : nt q = tx q.1 ++ slash ++ tx q.2 := if_neg h
theorem sc_show_ratio : FnScope ["one", "top", "bottom"] ["one"] (defScope s_show_ratio) := ⟨rfl, rfl, rfl, by decide +kernel, rfl, by decide +kernel, by decide +kernel⟩
theorem ok_show_ratio (D : Def K mg "show_ratio" s_show_ratio ["one"]) (m_str : mg "str" = none) : Fn P w K mg base CX 1 "show_ratio" ["one"] spShow := by
  refine D.ok sc_show_ratio (fun vs H Q E h => ?_) (fun f cdv A outer s H vs Q E hr h => ?_)
  · obtain ⟨u, q, rfl, _⟩ := h
    rfl
  obtain ⟨u, q, rfl, ⟨p, rfl, h⟩, l1, l2, k⟩ := h
  refine ⟨_, (pss_cons (ps_set (i := 1) sc_show_ratio.nd rfl (Or.inl rfl) (pe_callTy call_str_int rfl m_str b_str (pac (pe_ix ix_tup (pv 0) pe_int (fun _ _ => rfl)) pa_nil)))
    (pss_cons (ps_if (pt_cmpR op_eq (pe_ix ix_tup (pv 0) pe_int (fun _ _ => rfl)) pe_int (nomark _)) (pss_one (ps_ret (pv 1))) pss_nil)
    (pss_cons (ps_set (i := 2) sc_show_ratio.nd rfl (Or.inl rfl) (pe_callTy call_str_int rfl m_str b_str (pac (pe_ix ix_tup (pv 0) pe_int (fun _ _ => rfl)) pa_nil)))
    (pss_one (ps_ret (pe_join (pj_cons (pe_fmt (pv 1)) (pj_cons pe_str (pj_cons (pe_fmt (pv 2)) pj_nil))))))))), ?_⟩
  have t1 : (tx q.1).length ≤ 1921 := int_text_len_1921 (by omega)
  have t2 : (tx q.2).length ≤ 1921 := int_text_len_1921 (by omega)
  have sz : (1921 : Nat) ≤ sizeLine := by decide
  refine ⟨_, rfl, p, _, _, _, rfl, rfl, SqT.of h, at0, q.1, rfl, by omega, ?_⟩
  refine ⟨_, rfl, p, _, _, _, rfl, rfl, SqT.of h, at1, rfl, _, rfl, ?_⟩
  refine ite2 (fun c => ?_) (fun c => ?_)
  · have e : q.2 = 1 := by simpa using of_decide_eq_true c
    rw [nt_one e] at k
    exact ⟨_, rfl, k⟩
  · have e : q.2 ≠ 1 := by
      have := of_decide_eq_false (Bool.eq_false_iff.mpr c)
      intro z
      exact this (by rw [z])
    rw [nt_two e] at k
    refine ⟨_, rfl, p, _, _, _, rfl, rfl, SqT.of h, at1, q.2, rfl, by omega, ?_⟩
    refine ⟨_, rfl, tx q.1, rfl, Nat.le_trans t1 sz, tx q.1, rfl, Nat.le_trans t1 (by decide), ?_⟩
    refine ⟨slash, rfl, (by decide +kernel), ?_⟩
    refine ⟨_, rfl, tx q.2, rfl, Nat.le_trans t2 sz, tx q.2, rfl, Nat.le_trans t2 (by decide), ?_⟩
    show Q (.str (((Str.empty ++ tx q.1) ++ slash) ++ tx q.2)) H
    rw [empty_app]
    exact k
theorem k_ss : PySem.W.kitOne K (.type "str") (.type "str") = some true := by unfold PySem.W.kitOne; rw [if_pos (by decide)]
theorem val_bound : ∀ {cs : List Nat}, NumText.AllDigits cs → NumText.digitsVal cs < 10 ^ cs.length := by
  intro cs
  have go : ∀ (cs : List Nat) (acc : Nat), NumText.AllDigits cs → cs.foldl (fun acc c => acc * 10 + (c - 48)) acc < (acc + 1) * 10 ^ cs.length := by
    intro cs
    induction cs with
    | nil => intro acc _; simp
    | cons c r ih =>
      intro acc h
      have hc := h.head
      have := ih (acc * 10 + (c - 48)) h.tail
      rw [List.foldl_cons, List.length_cons, Nat.pow_succ]
      refine Nat.lt_of_lt_of_le this ?_
      have e : (acc + 1) * (10 ^ r.length * 10) = ((acc + 1) * 10) * 10 ^ r.length := by
        rw [Nat.mul_comm (10 ^ r.length) 10, Nat.mul_assoc]
      rw [e]
      exact Nat.mul_le_mul_right _ (by omega)
  intro h
  have := go cs 0 h
  simpa [NumText.digitsVal] using this
def figs (cs : List Nat) : List Nat := match cs with
  | [] => []
  | d :: r => if d = 45 then r else d :: r
def spRW (C : Addr) : Sp := fun vs H Q E => ∃ x : Str, vs = [.str x] ∧ Txk x ∧ (∀ n H', n.natAbs < 10 ^ 60 → Same H H' → (∀ m : Int, m.natAbs < 10 ^ 60 → x = tx m → n = m) → Q (.int n) H') ∧
  ((∀ m : Int, m.natAbs < 10 ^ 60 → x ≠ tx m) → ∀ H', Same H H' → E (.ref C) none H')
theorem starts_nil {x : Str} (h : x.cps.toList = []) : Txt.startswith x ⟨#[45]⟩ = false := by
  have hl : x.length = 0 := by rw [len_cps, h]; rfl
  unfold Txt.startswith
  have e1 : decide (0 + (⟨#[45]⟩ : Str).length ≤ x.length) = false := decide_eq_false (by rw [Ty.one_sign, hl]; omega)
  rw [e1, Bool.false_and]
theorem figs_tx (m : Int) : figs (tx m).cps.toList = dg m.natAbs := by
  rw [tx_cps]
  split
  · rfl
  · cases e : dg m.natAbs with
    | nil => rfl
    | cons d r =>
      have := dg_all m.natAbs d (by rw [e]; exact List.mem_cons_self)
      show (if d = 45 then r else d :: r) = d :: r
      rw [if_neg (by omega)]
theorem map_all (cs : List Nat) : ((cs.map fun c => decide (c ∈ (Str.ofString "0123456789").cps.toList)).all id) = true ↔ NumText.AllDigits cs := by
  rw [List.all_eq_true]
  constructor
  · intro h c hc
    have := h _ (List.mem_map_of_mem hc)
    have m : c ∈ (Str.ofString "0123456789").cps.toList := of_decide_eq_true this
    have e : (Str.ofString "0123456789").cps.toList = [48, 49, 50, 51, 52, 53, 54, 55, 56, 57] := by decide +kernel
    rw [e] at m
    simp at m
    omega
  · intro h b hb
    obtain ⟨c, hc, rfl⟩ := List.mem_map.mp hb
    exact decide_eq_true (figs_mem (h c hc))
theorem sc_read_whole : FnScope ["text", "figures"] ["text"] (defScope s_read_whole) := ⟨rfl, rfl, rfl, by decide +kernel, rfl, by decide +kernel, by decide +kernel⟩
theorem ok_read_whole {C : Addr} {tkF tkM : Tok} (D : Def K mg "read_whole" s_read_whole ["text"]) (m_len : mg "len" = none) (m_all : mg "all" = none) (m_int : mg "int" = none) (m_FIGURES : mg "FIGURES" = some (.str "0123456789" tkF)) (m_MOST_FIGURES : mg "MOST_FIGURES" = some (.int 60 tkM))
    (m_NoText : mg "NoText" = some (.ref C)) (q_NoText : PySem.W.excIn K C bmVE "ValueError.__new__" = true) : Fn P w K mg base (CXr P w) 1 "read_whole" ["text"] (spRW C) := by
  refine D.okX sc_read_whole (fun vs H Q E h => ?_) (fun f cdv A outer s H vs Q E hr h => ?_)
  · obtain ⟨x, rfl, _⟩ := h
    rfl
  obtain ⟨x, rfl, hx, q, qe⟩ := h
  have hl := hx.len
  have hz : x.length ≤ sizeLine := Nat.le_trans hl (by decide)
  have sz : (1 : Nat) ≤ sizeLine := by decide
  have tail : ∃ t, PSs (cxr P w K mg base ["text", "figures"] "read_whole" (defScope s_read_whole) f cdv A outer s H E) ((defBody s_read_whole).drop 1) t ∧ ∀ g : Str, g.cps.toList = figs x.cps.toList → t { nx := fun _ H' => Q .non H', rt := Q } [some (.str x), some (.str g)] H := by
    refine ⟨_, (pss_cons (ps_if (pt_not (pt_chain op_le op_le pe_int (pe_callB call_len_str rfl m_len b_len (pac (pv 1) pa_nil)) (pe_glob (v := .int 60) rfl m_MOST_FIGURES ⟨_, rfl⟩))) (pss_one (ps_raise PySem.F.excBase_ValueError m_NoText q_NoText hr.hd (pac pe_str pa_nil))) pss_nil) (pss_cons (ps_if (pt_not (pt_val (pe_callB (call_allB rfl) rfl m_all b_all (pac (pe_comp (tn := ["sign"]) (fr := []) (caps := []) rfl ⟨rfl, by decide +kernel, rfl, by decide +kernel, by decide +kernel, rfl, trivial, trivial⟩ (pi_str (pv 1)) (fun _ _ _ _ => (pg_name (i := 0) (show (["sign"] : List Str).Nodup from by decide +kernel) rfl (Or.inl rfl))) (fun _ _ _ _ => pf_nil) (fun _ _ _ _ => (pe_cmpR op_in_str (pv 0) (pe_glob (v := .str "0123456789") rfl m_FIGURES ⟨_, rfl⟩) rfl))) pa_nil)))) (pss_one (ps_raise PySem.F.excBase_ValueError m_NoText q_NoText hr.hd (pac (pe_join (pj_cons pe_str (pj_cons (pe_rep (pv 0)) pj_nil))) pa_nil))) pss_nil) (pss_one (ps_ret (pe_callTy call_int_text rfl m_int b_int (pac (pv 0) pa_nil)))))), ?_⟩
    intro g hg
    have gl : g.length = (figs x.cps.toList).length := by rw [len_cps, hg]
    have gx : g.length ≤ 400 := by
      rw [gl]
      rw [len_cps] at hl
      cases e : x.cps.toList with
      | nil => simp [figs]
      | cons d r =>
        rw [e] at hl
        unfold figs
        simp only at hl ⊢
        split <;> (simp at hl ⊢; omega)
    have gz' : g.length ≤ sizeLine := Nat.le_trans gx (by decide)
    have no1 : ¬ ((1 : Int) ≤ (g.length : Int) ∧ (g.length : Int) ≤ 60) → ∀ m : Int, m.natAbs < 10 ^ 60 → x ≠ tx m := fun n m hm e => by
      rw [e, figs_tx] at gl
      have h1 := dg_len (by decide) hm
      have h2 : 1 ≤ (dg m.natAbs).length := by
        cases z : dg m.natAbs with
        | nil => exact absurd z (dg_ne _)
        | cons c r => simp
      exact n (by omega)
    refine ⟨_, rfl, g, rfl, gz', _, _, rfl, rfl, _, rfl, ?_⟩
    refine ite2 (fun c1 => ?_) (fun c1 => ?_)
    · have c1' : (1 : Int) ≤ (g.length : Int) := of_decide_eq_true c1
      refine ⟨_, _, rfl, rfl, _, rfl, ?_⟩
      refine ite2 (fun c2 => ?_) (fun c2 => ?_)
      · have c2' : ¬ (g.length : Int) ≤ 60 := of_decide_eq_false (by simpa using c2)
        exact ⟨sz, qe (no1 fun z => c2' z.2) H (Same.refl H)⟩
      · have c2' : (g.length : Int) ≤ 60 := of_decide_eq_true (by simpa using c2)
        refine ⟨_, rfl, g, rfl, fun D nD => blk_of (cap := []) g.cps.size (fun i => .str ⟨#[g.cps.getD i 0]⟩) (fun i ys H' => ys = ((g.cps.toList.take i).map fun c => decide (c ∈ (Str.ofString "0123456789").cps.toList)).map V.bl ∧ Same H H') ⟨rfl, same_new nD _⟩ ?_ (fun ys H' _ => rfl) ?_ ?_⟩
        · intro i ys H' hi _
          refine ⟨hi, fun x H'' y => ?_⟩
          obtain ⟨e1, c, ec, ex⟩ := y
          refine ⟨e1, ?_⟩
          have : g.cps.getD i 0 = c := by
            rw [Array.getD_eq_getD_getElem?, ec]
            rfl
          rw [this]
          exact ex
        · rintro i ys H' R hi ⟨hy, s1⟩ hD k
          have hi' : i < g.cps.toList.length := by simpa using hi
          have eg : g.cps.getD i 0 = g.cps.toList[i] := by simp [Array.getD, hi]
          refine ⟨_, rfl, _, _, rfl, rfl, ?_⟩
          rw [in_one]
          have yl : ys.length ≤ i := by rw [hy, List.length_map, List.length_map, List.length_take]; omega
          refine k _ _ hD (Nat.lt_of_lt_of_le (show ys.length < 401 by have : g.cps.size = g.length := rfl; omega) (by decide)) ⟨?_, fun b o e => ?_⟩
          · rw [hy, List.take_succ_eq_append_getElem hi', List.map_append, List.map_append, eg]
            rfl
          · rw [upd_ne (ne_of_none e nD)]
            exact s1 _ _ e
        · rintro ys H' ⟨hy, s1⟩ hD
          have ht : g.cps.toList.take g.cps.size = g.cps.toList := List.take_of_length_le (by simp)
          rw [ht] at hy
          refine ⟨D, g.cps.toList.map fun c => decide (c ∈ (Str.ofString "0123456789").cps.toList), rfl, by rw [← hy]; exact SqL.of hD, _, rfl, ?_⟩
          by_cases ad : NumText.AllDigits g.cps.toList
          · rw [(map_all _).mpr ad]
            refine rd_itNT ?_
            rw [hg] at ad
            have ne : figs x.cps.toList ≠ [] := fun z => by rw [z] at gl; simp at gl; omega
            have fl : (figs x.cps.toList).length ≤ 60 := by omega
            have vb := Nat.lt_of_lt_of_le (val_bound ad) (Nat.pow_le_pow_right (show 0 < 10 by decide) fl)
            have x640 : x.length ≤ 640 := Nat.le_trans hl (by decide)
            have x4300 : x.length ≤ 4300 := Nat.le_trans hl (by decide)
            obtain ⟨n, hn, bn⟩ : ∃ n : Int, PySem.intText? x = some n ∧ n.natAbs < 10 ^ 60 := by
              cases e : x.cps.toList with
              | nil => rw [e] at ne; exact absurd rfl ne
              | cons d r =>
                rw [e] at ad ne vb
                by_cases hd : d = 45
                · subst hd
                  exact ⟨_, intText_neg e ad ne x4300, by rw [Int.natAbs_neg]; exact vb⟩
                · have f1 : figs (d :: r) = d :: r := if_neg hd
                  rw [f1] at ad ne vb
                  exact ⟨_, intText_digits (by rw [e]; exact ad) (by rw [e]; exact ne) x4300, by rw [e]; exact vb⟩
            refine ⟨_, rfl, x, n, rfl, hn, x640, q n _ bn s1 fun m hm e => ?_⟩
            rw [e, tx_reads (Nat.lt_of_lt_of_le hm (Nat.pow_le_pow_right (by decide) (by decide)))] at hn
            exact (Option.some.inj hn).symm
          · have : ((g.cps.toList.map fun c => decide (c ∈ (Str.ofString "0123456789").cps.toList)).all id) = false := Bool.eq_false_iff.mpr fun z => ad ((map_all _).mp z)
            rw [this]
            refine rd_itNF ?_
            refine ⟨Str.ofString "not all of these are figures: ", rfl, (by decide +kernel), ?_⟩
            refine ⟨_, rfl, x, rfl, hx, fun y hy => ⟨y, rfl, hy, ?_⟩⟩
            refine ⟨sz, qe (fun m hm e => ad ?_) H' s1⟩
            rw [hg, e, figs_tx]
            exact dg_all _
    · have c1' : ¬ (1 : Int) ≤ (g.length : Int) := of_decide_eq_false (Bool.eq_false_iff.mpr c1)
      refine ⟨_, rfl, ?_⟩
      refine rd_itNF ?_
      exact ⟨sz, qe (no1 fun z => c1' z.1) H (Same.refl H)⟩
  obtain ⟨t1, p1, q1⟩ := tail
  refine ⟨_, pss_cons (ps_set (i := 1) sc_read_whole.nd rfl (Or.inl rfl) (pe_ifExp (pt_val (pe_bm PySem.F.plainAttrs_str PySem.F.slot_str_startswith PySem.F.type_str_startswith mt_startswith (pv 0) (pac pe_str pa_nil))) (pe_slice sl_str (pv 0) (po_some pe_int) po_none) (pv 0))) p1, ?_⟩
  refine ⟨_, rfl, rfl, x, ⟨#[45]⟩, rfl, rfl, _, rfl, ?_⟩
  cases e : x.cps.toList with
  | nil =>
    rw [starts_nil e]
    refine iteF ?_
    exact ⟨_, rfl, q1 x (by rw [e]; rfl)⟩
  | cons d r =>
    rw [starts_one e]
    refine ite2 (fun c => ?_) (fun c => ?_)
    · have hd : d = 45 := of_decide_eq_true c
      refine ⟨_, rfl, 1, rfl, x, rfl, hz, ?_⟩
      refine q1 _ ?_
      rw [slice_one e, e]
      exact (if_pos hd).symm
    · have hd : d ≠ 45 := of_decide_eq_false (Bool.eq_false_iff.mpr c)
      refine ⟨_, rfl, q1 _ ?_⟩
      rw [e]
      exact (if_neg hd).symm
theorem sc_greatest_shared : FnScope ["one", "other", "left"] ["one", "other"] (defScope s_greatest_shared) := ⟨rfl, rfl, rfl, by decide +kernel, rfl, by decide +kernel, by decide +kernel⟩
theorem ok_greatest_shared (D : Def K mg "greatest_shared" s_greatest_shared ["one", "other"]) (m_abs : mg "abs" = none) : Fn P w K mg base CX 1 "greatest_shared" ["one", "other"] spShared := by
  refine D.ok sc_greatest_shared (fun vs H Q E h => ?_) (fun f cdv A outer s H vs Q E hr h => ?_)
  · obtain ⟨a, b, rfl, _⟩ := h
    rfl
  obtain ⟨a, b, rfl, q⟩ := h
  refine ⟨_, (pss_cons (ps_while PassesOwn.never (pt_cmpR op_ne (pv 1) pe_int (nomark _)) (pss_cons (ps_set (i := 2) sc_greatest_shared.nd rfl (Or.inl rfl) (pe_op op_modB (pv 0) (pv 1)))
      (pss_cons (ps_set (i := 0) sc_greatest_shared.nd rfl (Or.inl rfl) (pv 1))
      (pss_one (ps_set (i := 1) sc_greatest_shared.nd rfl (Or.inl rfl) (pv 2))))))
    (pss_one (ps_ret (pe_callB call_abs rfl m_abs b_abs (pac (pv 0) pa_nil))))), ?_⟩
  refine while_by (fun σ H' => ∃ (x y : Int) (l : Option V), σ = [some (.int x), some (.int y), l] ∧ H' = H ∧ Int.gcd x y = Int.gcd a b) (fun σ _ => match σ with | [_, some (.int y), _] => y.natAbs | _ => 0) ⟨a, b, none, rfl, rfl, rfl⟩ ?_ ?_
  · rintro σ H' ⟨x, y, l, rfl, rfl, g⟩
    refine ⟨_, rfl, rfl, _, rfl, ?_⟩
    refine ite2 (fun c => ?_) (fun c => ?_)
    · have hy : y ≠ 0 := by
        intro z
        subst z
        simp at c
      refine ⟨_, rfl, _, rfl, _, _, rfl, rfl, hy, ?_⟩
      refine ⟨_, rfl, _, rfl, ?_⟩
      exact ⟨⟨_, _, _, rfl, rfl, by rw [gcd_step]; exact g⟩, fmod_less hy⟩
    · have hy : y = 0 := by
        have := Bool.eq_false_iff.mpr c
        simp at this
        exact this
      subst hy
      refine ⟨_, rfl, x, rfl, ?_⟩
      have e : (if x < 0 then -x else x) = gz a b := by
        rw [Int.gcd_zero_right] at g
        unfold gz
        rw [← g]
        split <;> omega
      rw [e]
      exact q
  · rintro σ H' Q1 Q2 h ⟨v, e1, e2, k, ek, z⟩
    exact ⟨v, e1, e2, k, ek, h _ _ z⟩
theorem sc_lowest_terms : FnScope ["top", "bottom", "shared"] ["top", "bottom"] (defScope s_lowest_terms) := ⟨rfl, rfl, rfl, by decide +kernel, rfl, by decide +kernel, by decide +kernel⟩
theorem ok_lowest_terms (hM : Mute CX) (D : Def K mg "lowest_terms" s_lowest_terms ["top", "bottom"]) (G_greatest_shared : Fn P w K mg base CX 1 "greatest_shared" ["one", "other"] spShared) : Fn P w K mg base CX 2 "lowest_terms" ["top", "bottom"] spLowest := by
  refine D.ok sc_lowest_terms (fun vs H Q E h => ?_) (fun f cdv A outer s H vs Q E hr h => ?_)
  · obtain ⟨t, b, rfl, _⟩ := h
    rfl
  obtain ⟨t, b, rfl, hb, bb, q⟩ := h
  have px := passM (X := cxOf CX P w K mg base ["top", "bottom", "shared"] "lowest_terms" (defScope s_lowest_terms) f cdv A outer s H E) hM
  refine ⟨_, (pss_cons (ps_set (i := 2) sc_lowest_terms.nd rfl (Or.inl rfl) (pe_fn G_greatest_shared (hr.mono (by decide)) px (pac (pv 0) (pac (pv 1) pa_nil))))
    (pss_cons (ps_if (pt_cmpR op_lt (pv 1) pe_int (nomark _)) (pss_one (ps_set (i := 2) sc_lowest_terms.nd rfl (Or.inl rfl) (pe_un un_neg (pv 2)))) pss_nil)
    (pss_one (ps_ret (pe_tup (pac (pe_op op_fdivB (pv 0) (pv 2)) (pac (pe_op op_fdivB (pv 1) (pv 2)) pa_nil))))))), ?_⟩
  have fin : ∀ g : Int, g = sg t b → tRet (tTup (tCons (tOp (rI CDivB fun i j => .int (i.fdiv j)) (tVar 0) (tVar 2)) (tCons (tOp (rI CDivB fun i j => .int (i.fdiv j)) (tVar 1) (tVar 2)) tNil))) { nx := fun _ H' => Q .non H', rt := Q } [some (.int t), some (.int b), some (.int g)] H := by
    rintro g rfl
    have c : ∀ i, CDivB i (sg t b) := fun i => ⟨sg_ne hb, intBits_le_of_natAbs (by rw [sg_abs]; exact gz_le hb) bb⟩
    refine ⟨_, rfl, _, rfl, _, _, rfl, rfl, c _, _, rfl, _, rfl, _, _, rfl, rfl, c _, (by show 2 ≤ sizeLine; decide), fun p hp => ?_⟩
    exact q p _ (same_new hp _) upd_same
  refine ⟨_, rfl, _, rfl, t, b, rfl, ?_⟩
  refine ⟨_, rfl, _, _, rfl, rfl, _, rfl, ?_⟩
  refine ite2 (fun c => ?_) (fun c => ?_)
  · refine ⟨_, rfl, _, rfl, ?_⟩
    refine fin _ ?_
    have c' : b < 0 := of_decide_eq_true c
    unfold sg
    rw [if_pos c']
  · refine fin _ ?_
    have c' : ¬ b < 0 := of_decide_eq_false (Bool.eq_false_iff.mpr c)
    unfold sg
    rw [if_neg c']
inductive Odd (H : Hp) : V → Prop where
  | non : Odd H .non
  | bl (b : Bool) : Odd H (.bl b)
  | str (x : Str) : Odd H (.str x)
  | lst {a : Addr} {xs : List V} (e : H a = some (.lst xs)) : Odd H (.ref a)
  | tup {a : Addr} {xs : List V} (e : H a = some (.tup xs)) : Odd H (.ref a)
theorem Odd.same {H H' : Hp} {x : V} (h : Odd H x) (s : Same H H') : Odd H' x := by
  cases h with
  | non => exact .non
  | bl b => exact .bl b
  | str x => exact .str x
  | lst e => exact .lst (s _ _ e)
  | tup e => exact .tup (s _ _ e)
theorem k_ii : PySem.W.kitOne K (.type "int") (.type "int") = some true := by unfold PySem.W.kitOne; rw [if_pos (by decide)]
theorem k_bb : PySem.W.kitOne K (.type "bool") (.type "bool") = some true := by unfold PySem.W.kitOne; rw [if_pos (by decide)]
theorem k_tt : PySem.W.kitOne K (.type "tuple") (.type "tuple") = some true := by unfold PySem.W.kitOne; rw [if_pos (by decide)]
theorem k_ib : PySem.W.kitOne K (.type "int") (.type "bool") = some false := kind_sub ⟨by decide, fun _ => ⟨by decide +kernel, by decide +kernel⟩⟩
theorem k_bi : PySem.W.kitOne K (.type "bool") (.type "int") = some true := kind_sub ⟨by decide, fun _ => ⟨by decide +kernel, by decide +kernel⟩⟩
theorem k_ni : PySem.W.kitOne K (.type "NoneType") (.type "int") = some false := kind_sub ⟨by decide, fun _ => ⟨by decide +kernel, by decide +kernel⟩⟩
theorem k_si : PySem.W.kitOne K (.type "str") (.type "int") = some false := kind_sub ⟨by decide, fun _ => ⟨by decide +kernel, by decide +kernel⟩⟩
theorem k_li : PySem.W.kitOne K (.type "list") (.type "int") = some false := kind_sub ⟨by decide, fun _ => ⟨by decide +kernel, by decide +kernel⟩⟩
theorem k_ti : PySem.W.kitOne K (.type "tuple") (.type "int") = some false := kind_sub ⟨by decide, fun _ => ⟨by decide +kernel, by decide +kernel⟩⟩
def spWhole : Sp := fun vs H Q _ => (∃ i, vs = [.int i] ∧ Q (.bl true) H) ∨ (∃ x, vs = [x] ∧ Odd H x ∧ Q (.bl false) H)
theorem sc_is_whole : FnScope ["value"] ["value"] (defScope s_is_whole) := ⟨rfl, rfl, rfl, by decide +kernel, rfl, by decide +kernel, by decide +kernel⟩
theorem ok_is_whole (D : Def K mg "is_whole" s_is_whole ["value"]) (m_isinstance : mg "isinstance" = none) (m_int : mg "int" = none) (m_bool : mg "bool" = none) : Fn P w K mg base CX 1 "is_whole" ["value"] spWhole := by
  refine D.ok sc_is_whole (fun vs H Q E h => ?_) (fun f cdv A outer s H vs Q E hr h => ?_)
  · rcases h with ⟨i, rfl, _⟩ | ⟨x, rfl, _⟩ <;> rfl
  rcases h with ⟨i, rfl, q⟩ | ⟨x, rfl, od, q⟩
  · refine ⟨_, (pss_one (ps_ret (pe_and (pe_callB call_isi rfl m_isinstance b_isinstance (pac (pv 0) (pac (pe_ty rfl m_int b_int) pa_nil))) (pe_one (pe_not (pe_callB call_isi rfl m_isinstance b_isinstance (pac (pv 0) (pac (pe_ty rfl m_bool b_bool) pa_nil)))))))), ?_⟩
    refine ⟨_, rfl, _, _, _, true, rfl, rfl, .int i, k_ii, _, rfl, iteT ?_⟩
    exact ⟨_, rfl, _, _, _, false, rfl, rfl, .int i, k_ib, _, rfl, q⟩
  · refine ⟨_, (pss_one (ps_ret (pe_and (pe_callB call_isi rfl m_isinstance b_isinstance (pac (pv 0) (pac (pe_ty rfl m_int b_int) pa_nil))) (pe_one (pe_not (pe_callB call_isi rfl m_isinstance b_isinstance (pac (pv 0) (pac (pe_ty rfl m_bool b_bool) pa_nil)))))))), ?_⟩
    cases od with
    | non => exact ⟨_, rfl, _, _, _, false, rfl, rfl, .non, k_ni, _, rfl, iteF q⟩
    | str y => exact ⟨_, rfl, _, _, _, false, rfl, rfl, .str y, k_si, _, rfl, iteF q⟩
    | lst e => exact ⟨_, rfl, _, _, _, false, rfl, rfl, .lst e, k_li, _, rfl, iteF q⟩
    | tup e => exact ⟨_, rfl, _, _, _, false, rfl, rfl, .tup e, k_ti, _, rfl, iteF q⟩
    | bl b => exact ⟨_, rfl, _, _, _, true, rfl, rfl, .bl b, k_bi, _, rfl, iteT ⟨_, rfl, _, _, _, true, rfl, rfl, .bl b, k_bb, _, rfl, q⟩⟩
inductive Bad (H : Hp) : V → V → Prop where
  | one {x y : V} (h : Odd H x) : Bad H x y
  | two {i : Int} {y : V} (h : Odd H y) : Bad H (.int i) y
  | nought (i : Int) : Bad H (.int i) (.int 0)
theorem Bad.same {H H' : Hp} {x y : V} (h : Bad H x y) (s : Same H H') : Bad H' x y := by
  cases h with
  | one h => exact .one (h.same s)
  | two h => exact .two (h.same s)
  | nought i => exact .nought i
def spRatio (C : Addr) : Sp := fun vs H Q E => (∃ t b : Int, vs = [.int t, .int b] ∧ b ≠ 0 ∧ intBits b ≤ 9000 ∧ gives H Q (low t b)) ∨ (∃ x y, vs = [x, y] ∧ Bad H x y ∧ E (.ref C) none H)
theorem sc_ratio_of : FnScope ["top", "bottom"] ["top", "bottom"] (defScope s_ratio_of) := ⟨rfl, rfl, rfl, by decide +kernel, rfl, by decide +kernel, by decide +kernel⟩
theorem ok_ratio_of {C : Addr} {ds : List Value} (D : DefD K mg "ratio_of" s_ratio_of ["top", "bottom"] ds) (m_NoNumber : mg "NoNumber" = some (.ref C)) (q_NoNumber : PySem.W.excIn K C bmVE "ValueError.__new__" = true)
    (G_is_whole : Fn P w K mg base (CXr P w) 1 "is_whole" ["value"] spWhole) (G_lowest_terms : Fn P w K mg base (CXr P w) 2 "lowest_terms" ["top", "bottom"] spLowest) : Fn P w K mg base (CXr P w) 3 "ratio_of" ["top", "bottom"] (spRatio C) ∧ FnD P w K mg base (CXr P w) 3 "ratio_of" ["top", "bottom"] ds (spRatio C) := by
  refine D.okX sc_ratio_of (fun vs H Q E h => ?_) (fun f cdv A outer s H vs Q E hr h => ?_)
  · rcases h with ⟨t, b, rfl, _⟩ | ⟨x, y, rfl, _⟩ <;> rfl
  have px := pass_up (P := P) (w := w) (K := K) (mg := mg) (base := base) (N := ["top", "bottom"]) (qual := "ratio_of") (scope := defScope s_ratio_of) (f := f) (cdv := cdv) (A := A) (outer := outer) (s0 := s) (H0 := H) (E := E)
  rcases h with ⟨t, b, rfl, hb, bb, q⟩ | ⟨x, y, rfl, hB, q⟩
  · refine ⟨_, (pss_cons (ps_if (PW.pt (pw_or (pt_not (pt_val (pe_fn G_is_whole (hr.mono (by decide)) px (pac (pv 0) pa_nil)))) (pw_or1 (pt_not (pt_val (pe_fn G_is_whole (hr.mono (by decide)) px (pac (pv 1) pa_nil))))))) (pss_one (ps_raise PySem.F.excBase_ValueError m_NoNumber q_NoNumber hr.hd (pac pe_str pa_nil))) pss_nil)
    (pss_cons (ps_if (pt_cmpR op_eq (pv 1) pe_int (nomark _)) (pss_one (ps_raise PySem.F.excBase_ValueError m_NoNumber q_NoNumber hr.hd (pac pe_str pa_nil))) pss_nil)
    (pss_one (ps_ret (pe_fn G_lowest_terms (hr.mono (by decide)) px (pac (pv 0) (pac (pv 1) pa_nil))))))), ?_⟩
    refine ⟨_, rfl, .inl ⟨t, rfl, _, rfl, ?_⟩⟩
    refine ite2 (fun c => nomatch c) (fun _ => ?_)
    refine ⟨_, rfl, .inl ⟨b, rfl, _, rfl, ?_⟩⟩
    refine ite2 (fun c => nomatch c) (fun _ => ?_)
    refine ⟨_, rfl, rfl, _, rfl, ?_⟩
    refine ite2 (fun z => ?_) (fun _ => ?_)
    · exact absurd (by simpa using of_decide_eq_true z) hb
    · exact ⟨_, rfl, _, rfl, t, b, rfl, hb, bb, q⟩
  · refine ⟨_, (pss_cons (ps_if (PW.pt (pw_or (pt_not (pt_val (pe_fn G_is_whole (hr.mono (by decide)) px (pac (pv 0) pa_nil)))) (pw_or1 (pt_not (pt_val (pe_fn G_is_whole (hr.mono (by decide)) px (pac (pv 1) pa_nil))))))) (pss_one (ps_raise PySem.F.excBase_ValueError m_NoNumber q_NoNumber hr.hd (pac pe_str pa_nil))) pss_nil)
    (pss_cons (ps_if (pt_cmpR op_eq (pv 1) pe_int (nomark _)) (pss_one (ps_raise PySem.F.excBase_ValueError m_NoNumber q_NoNumber hr.hd (pac pe_str pa_nil))) pss_nil)
    (pss_one (ps_ret (pe_fn G_lowest_terms (hr.mono (by decide)) px (pac (pv 0) (pac (pv 1) pa_nil))))))), ?_⟩
    have sz : (1 : Nat) ≤ sizeLine := by decide
    cases hB with
    | one od =>
      refine ⟨_, rfl, .inr ⟨_, rfl, od, _, rfl, ?_⟩⟩
      refine ite2 (fun _ => ?_) (fun c => absurd rfl c)
      exact iteT ⟨sz, q⟩
    | @two i _ od =>
      refine ⟨_, rfl, .inl ⟨i, rfl, _, rfl, ?_⟩⟩
      refine ite2 (fun c => nomatch c) (fun _ => ?_)
      refine ⟨_, rfl, .inr ⟨_, rfl, od, _, rfl, ?_⟩⟩
      exact ite2 (fun _ => ⟨sz, q⟩) (fun c => absurd rfl c)
    | nought i =>
      refine ⟨_, rfl, .inl ⟨i, rfl, _, rfl, ?_⟩⟩
      refine ite2 (fun c => nomatch c) (fun _ => ?_)
      refine ⟨_, rfl, .inl ⟨0, rfl, _, rfl, ?_⟩⟩
      refine ite2 (fun c => nomatch c) (fun _ => ?_)
      refine ⟨_, rfl, rfl, _, rfl, ?_⟩
      exact ite2 (fun _ => ⟨sz, q⟩) (fun c => absurd rfl c)
inductive NoStr (H : Hp) : V → Prop where
  | non : NoStr H .non
  | bl (b : Bool) : NoStr H (.bl b)
  | int (i : Int) : NoStr H (.int i)
  | lst {a : Addr} {xs : List V} (e : H a = some (.lst xs)) : NoStr H (.ref a)
  | tup {a : Addr} {xs : List V} (e : H a = some (.tup xs)) : NoStr H (.ref a)
theorem NoStr.same {H H' : Hp} {x : V} (h : NoStr H x) (s : Same H H') : NoStr H' x := by
  cases h with
  | non => exact .non
  | bl b => exact .bl b
  | int i => exact .int i
  | lst e => exact .lst (s _ _ e)
  | tup e => exact .tup (s _ _ e)
theorem NoStr.ty {K : PySem.W.Frag} {H : Hp} {x : V} (h : NoStr H x) : ∃ t, TyOf K H x t ∧ PySem.W.kitOne K t (clsV (.ty "str")) = some false := by
  cases h with
  | non => exact ⟨_, .non, kind_sub ⟨by decide, fun _ => ⟨by decide +kernel, by decide +kernel⟩⟩⟩
  | bl b => exact ⟨_, .bl b, kind_sub ⟨by decide, fun _ => ⟨by decide +kernel, by decide +kernel⟩⟩⟩
  | int i => exact ⟨_, .int i, kind_sub ⟨by decide, fun _ => ⟨by decide +kernel, by decide +kernel⟩⟩⟩
  | lst e => exact ⟨_, .lst e, kind_sub ⟨by decide, fun _ => ⟨by decide +kernel, by decide +kernel⟩⟩⟩
  | tup e => exact ⟨_, .tup e, kind_sub ⟨by decide, fun _ => ⟨by decide +kernel, by decide +kernel⟩⟩⟩
structure Good (q : Int × Int) : Prop where
  pos : 0 < q.2
  low : Int.gcd q.1 q.2 = 1
  top : q.1.natAbs < 10 ^ 60
  bot : q.2.natAbs < 10 ^ 60
theorem small_log {n : Int} (h : n.natAbs < 10 ^ 60) : n.natAbs.log2 < 1900 := by
  by_cases z : n.natAbs = 0
  · rw [z]; decide
  · exact (Nat.log2_lt z).mpr (Nat.lt_of_lt_of_le h (by decide +kernel))
theorem small_bits {n : Int} (h : n.natAbs < 10 ^ 60) : intBits n ≤ 200 := intBits_le_iff.mpr (Nat.lt_of_lt_of_le h (by decide +kernel))
theorem good_low {t b : Int} (hb : b ≠ 0) (h1 : t.natAbs < 10 ^ 60) (h2 : b.natAbs < 10 ^ 60) : Good (low t b) :=
  ⟨low_pos hb, low_gcd hb, Nat.lt_of_le_of_lt (low_top_le hb) h1, Nat.lt_of_le_of_lt (low_bot_le hb) h2⟩
def spRR (C : Addr) : Sp := fun vs H Q E => (∃ x : Str, vs = [.str x] ∧ Txk x ∧ (∀ q, Good q → x = nt q → gives H Q q) ∧ ((∀ q, Good q → x ≠ nt q) → ∀ H', Same H H' → E (.ref C) none H')) ∨
  (∃ u : V, vs = [u] ∧ NoStr H u ∧ E (.ref C) none H)
theorem txk_sub {x y : Str} (h : Txk x) (l : y.length ≤ x.length) (s : ∀ c ∈ y.cps.toList, c ∈ x.cps.toList) : Txk y := ⟨Nat.le_trans l h.len, fun c hc => h.cod c (s c hc)⟩
theorem nt_inj {q r : Int × Int} (hq : Good q) (hr : Good r) (h : nt q = nt r) : q = r := by
  have key : ∀ {q r : Int × Int}, Good q → Good r → nt q = nt r → q.2 = 1 → q = r := fun {q r} gq gr h e => by
    by_cases e' : r.2 = 1
    · rw [nt_one e, nt_one e'] at h
      have h1 := tx_reads (n := q.1) (Nat.lt_of_lt_of_le gq.top (Nat.pow_le_pow_right (by decide) (by decide)))
      rw [h, tx_reads (Nat.lt_of_lt_of_le gr.top (Nat.pow_le_pow_right (by decide) (by decide)))] at h1
      exact Prod.ext (Option.some.inj h1).symm (e.trans e'.symm)
    · exfalso
      rw [nt_one e, nt_two e'] at h
      have : (47 : Nat) ∈ (tx r.1 ++ slash ++ tx r.2).cps.toList := by
        rw [cps_append, cps_append, slash_cps]
        simp
      rw [← h] at this
      exact tx_no (by decide) (by decide) this
  by_cases e : q.2 = 1
  · exact key hq hr h e
  · by_cases e' : r.2 = 1
    · exact (key hr hq h.symm e').symm
    · have p1 := part_at (a := tx q.1) (b := tx q.2) (tx_no (by decide) (by decide))
      have p2 := part_at (a := tx r.1) (b := tx r.2) (tx_no (by decide) (by decide))
      rw [nt_two e, nt_two e'] at h
      have h' : tx q.1 ++ (⟨#[47]⟩ : Str) ++ tx q.2 = tx r.1 ++ (⟨#[47]⟩ : Str) ++ tx r.2 := h
      rw [h', p2] at p1
      have a : tx r.1 = tx q.1 := congrArg Prod.fst p1
      have b : tx r.2 = tx q.2 := congrArg (fun z => z.2.2) p1
      have up : ∀ {n : Int}, n.natAbs < 10 ^ 60 → n.natAbs < 10 ^ 4000 := fun h => Nat.lt_of_lt_of_le h (Nat.pow_le_pow_right (by decide) (by decide))
      have a1 := tx_reads (up hq.top)
      rw [← a, tx_reads (up hr.top)] at a1
      have b1 := tx_reads (up hq.bot)
      rw [← b, tx_reads (up hr.bot)] at b1
      exact Prod.ext (Option.some.inj a1).symm (Option.some.inj b1).symm
theorem sc_read_ratio : FnScope ["text", "parts", "top", "bottom", "one"] ["text"] (defScope s_read_ratio) := ⟨rfl, rfl, rfl, by decide +kernel, rfl, by decide +kernel, by decide +kernel⟩
theorem ok_read_ratio {C CN : Addr} (D : Def K mg "read_ratio" s_read_ratio ["text"]) (m_isinstance : mg "isinstance" = none) (m_str : mg "str" = none) (m_NoText : mg "NoText" = some (.ref C)) (q_NoText : PySem.W.excIn K C bmVE "ValueError.__new__" = true)
    (G_read_whole : Fn P w K mg base (CXr P w) 1 "read_whole" ["text"] (spRW C))
    (G_ratio_of : Fn P w K mg base (CXr P w) 3 "ratio_of" ["top", "bottom"] (spRatio CN)) (G_show_ratio : Fn P w K mg base (CXr P w) 1 "show_ratio" ["one"] spShow) : Fn P w K mg base (CXr P w) 4 "read_ratio" ["text"] (spRR C) := by
  refine D.okX sc_read_ratio (fun vs H Q E h => ?_) (fun f cdv A outer s H vs Q E hr h => ?_)
  · rcases h with ⟨x, rfl, _⟩ | ⟨u, rfl, _⟩ <;> rfl
  have px := pass_up (P := P) (w := w) (K := K) (mg := mg) (base := base) (N := ["text", "parts", "top", "bottom", "one"]) (qual := "read_ratio") (scope := defScope s_read_ratio) (f := f) (cdv := cdv) (A := A) (outer := outer) (s0 := s) (H0 := H) (E := E)
  have sz : (1 : Nat) ≤ sizeLine := by decide
  rcases h with ⟨x, rfl, hx, q, qe⟩ | ⟨u, rfl, hu, qe⟩
  · have hz : x.length ≤ sizeLine := Nat.le_trans hx.len (by decide)
    have tail : ∃ t, PSs (cxr P w K mg base ["text", "parts", "top", "bottom", "one"] "read_ratio" (defScope s_read_ratio) f cdv A outer s H E) ((defBody s_read_ratio).drop 4) t ∧ ∀ (H1 : Hp) (o : Option V) (n m : Int), Same H H1 → n.natAbs < 10 ^ 60 → m.natAbs < 10 ^ 60 → (∀ r, Good r → x = nt r → r = (n, m)) →
        t { nx := fun _ H' => Q .non H', rt := Q } [some (.str x), o, some (.int n), some (.int m), none] H1 := by
      refine ⟨_, (pss_cons (ps_if (pt_cmpR op_eq (pv 3) pe_int (nomark _)) (pss_one (ps_raise PySem.F.excBase_ValueError m_NoText q_NoText hr.hd (pac pe_str pa_nil))) pss_nil) (pss_cons (ps_set (i := 4) sc_read_ratio.nd rfl (Or.inl rfl) (pe_fn G_ratio_of (hr.mono (by decide)) px (pac (pv 2) (pac (pv 3) pa_nil)))) (pss_cons (ps_if (pt_cmpR op_ne (pe_fn G_show_ratio (hr.mono (by decide)) px (pac (pv 4) pa_nil)) (pv 0) (nomark _)) (pss_one (ps_raise PySem.F.excBase_ValueError m_NoText q_NoText hr.hd (pac (pe_join (pj_cons pe_str (pj_cons (pe_rep (pv 0)) pj_nil))) pa_nil))) pss_nil) (pss_one (ps_ret (pv 4)))))), ?_⟩
      intro H1 o n m s1 hn hm hr'
      refine ⟨_, rfl, rfl, _, rfl, ?_⟩
      refine ite2 (fun c => ?_) (fun c => ?_)
      · have e : m = 0 := by simpa using of_decide_eq_true c
        refine ⟨sz, qe (fun r gr z => ?_) H1 s1⟩
        have e' := hr' r gr z
        have p := gr.pos
        rw [e', e] at p
        exact absurd (show (0 : Int) < 0 from p) (by decide)
      · have e : m ≠ 0 := by
          have := of_decide_eq_false (Bool.eq_false_iff.mpr c)
          intro z
          exact this (by rw [z])
        have gl := good_low e hn hm
        refine ⟨_, rfl, _, rfl, .inl ⟨n, m, rfl, e, Nat.le_trans (small_bits hm) (by decide), fun p H2 s2 e2 => ?_⟩⟩
        refine ⟨_, rfl, _, low n m, rfl, ⟨p, rfl, e2⟩, small_log gl.top, small_log gl.bot, _, rfl, rfl, _, rfl, ?_⟩
        by_cases ez : nt (low n m) = x
        · refine iteNS (congrArg V.str ez) ?_
          exact ⟨_, rfl, q _ gl ez.symm p H2 (s1.trans s2) e2⟩
        · rw [decide_eq_false (fun z => ez (V.str.inj z))]
          refine rd_itNF ?_
          refine ⟨Str.ofString "not as a number is written: ", rfl, (by decide +kernel), ?_⟩
          refine ⟨_, rfl, x, rfl, hx, fun y hy => ⟨y, rfl, hy, ?_⟩⟩
          refine ⟨sz, qe (fun r gr z => ez ?_) H2 (s1.trans s2)⟩
          have e' := hr' r gr z
          have e3 : low n m = r := by
            rw [e']
            have h1 := gr.pos
            have h2 := gr.low
            rw [e'] at h1 h2
            exact low_self h1 h2
          rw [e3]
          exact z.symm
    obtain ⟨t4, p4, q4⟩ := tail
    refine ⟨_, (pss_cons (ps_if (pt_not (pt_val (pe_callB call_isi rfl m_isinstance b_isinstance (pac (pv 0) (pac (pe_ty rfl m_str b_str) pa_nil))))) (pss_one (ps_raise PySem.F.excBase_ValueError m_NoText q_NoText hr.hd (pac pe_str pa_nil))) pss_nil) (pss_cons (ps_set (i := 1) sc_read_ratio.nd rfl (Or.inl rfl) (pe_bm PySem.F.plainAttrs_str PySem.F.slot_str_partition PySem.F.type_str_partition mt_partition (pv 0) (pac pe_str pa_nil))) (pss_cons (ps_set (i := 2) sc_read_ratio.nd rfl (Or.inl rfl) (pe_fn G_read_whole (hr.mono (by decide)) px (pac (pe_ix ix_tup (pv 1) pe_int (fun _ _ => rfl)) pa_nil))) (pss_cons (ps_set (i := 3) sc_read_ratio.nd rfl (Or.inl rfl) (pe_ifExp (pt_cmpR op_eq (pe_ix ix_tup (pv 1) pe_int (fun _ _ => rfl)) pe_str (nomark _)) (pe_fn G_read_whole (hr.mono (by decide)) px (pac (pe_ix ix_tup (pv 1) pe_int (fun _ _ => rfl)) pa_nil)) pe_int)) p4)))), ?_⟩
    refine ⟨_, rfl, _, _, _, true, rfl, rfl, .str x, k_ss, _, rfl, ?_⟩
    refine ite2 (fun c => nomatch c) (fun _ => ?_)
    refine ⟨_, rfl, rfl, x, ⟨#[47]⟩, rfl, rfl, rfl, hz, fun p np => ?_⟩
    rcases partition_whole x ⟨#[47]⟩ with ⟨e1, hn⟩ | ⟨i, e1, hi, hk⟩
    · have no47 : 47 ∉ x.cps.toList := fun m => by obtain ⟨i, hi⟩ := (mem_iff_at x 47).mp m; exact hn i hi
      have one : ∀ r, Good r → x = nt r → r.2 = 1 ∧ x = tx r.1 := fun r gr z => by
        by_cases e : r.2 = 1
        · exact ⟨e, by rw [z, nt_one e]⟩
        · exfalso
          refine no47 ?_
          rw [z, nt_two e, cps_append, cps_append, slash_cps]
          simp
      rw [e1]
      have s1 := same_new np (.tup [.str x, .str Str.empty, .str Str.empty])
      have h1 : upd H p (.tup [.str x, .str Str.empty, .str Str.empty]) p = some (.tup [.str x, .str Str.empty, .str Str.empty]) := upd_same
      refine ⟨_, rfl, p, _, _, _, rfl, rfl, SqT.of h1, rfl, x, rfl, hx, fun n H2 hn2 s2 hm2 => ?_, fun nt' H2 s2 => qe (fun r gr z => nt' r.1 gr.top (one r gr z).2) H2 (s1.trans s2)⟩
      refine ⟨_, rfl, p, _, _, _, rfl, rfl, SqT.of (s2 _ _ h1), rfl, rfl, _, rfl, ?_⟩
      refine ite2 (fun c => absurd (of_decide_eq_true c) (by decide +kernel)) (fun _ => ?_)
      refine q4 H2 (some (.ref p)) n 1 (s1.trans s2) hn2 (by decide +kernel) fun r gr z => ?_
      obtain ⟨a, b⟩ := one r gr z
      exact Prod.ext (hm2 r.1 gr.top b).symm a
    · rw [e1]
      have sub : ∀ (i j : Nat) (c : Nat), c ∈ (Builtin.Str.strSub x i j).cps.toList → c ∈ x.cps.toList := fun i j c hc => by
        have : (Builtin.Str.strSub x i j).cps.toList = (x.cps.toList.take j).drop i := by
          show (x.cps.extract i j).toList = _
          simp [List.extract_eq_drop_take', Array.toList_extract]
        rw [this] at hc
        exact List.mem_of_mem_take (List.mem_of_mem_drop hc)
      have subl : ∀ (i j : Nat), (Builtin.Str.strSub x i j).length ≤ x.length := fun i j => by
        show (x.cps.extract i j).size ≤ x.cps.size
        simp
        omega
      have ka := txk_sub hx (subl 0 i) (sub 0 i)
      have kb := txk_sub hx (subl (i + (⟨#[47]⟩ : Str).length) x.length) (sub (i + (⟨#[47]⟩ : Str).length) x.length)
      have two : ∀ r, Good r → x = nt r → Builtin.Str.strSub x 0 i = tx r.1 ∧ Builtin.Str.strSub x (i + (⟨#[47]⟩ : Str).length) x.length = tx r.2 := fun r gr z => by
        by_cases e : r.2 = 1
        · exfalso
          have : (47 : Nat) ∈ x.cps.toList := (mem_iff_at x 47).mpr ⟨i, hi⟩
          rw [z, nt_one e] at this
          exact tx_no (by decide) (by decide) this
        · have p1 := part_at (a := tx r.1) (b := tx r.2) (tx_no (by decide) (by decide))
          have z' : x = tx r.1 ++ (⟨#[47]⟩ : Str) ++ tx r.2 := by rw [z, nt_two e]; rfl
          rw [← z', e1] at p1
          exact ⟨congrArg Prod.fst p1, congrArg (fun z => z.2.2) p1⟩
      generalize Builtin.Str.strSub x 0 i = sa at ka two ⊢
      generalize Builtin.Str.strSub x (i + (⟨#[47]⟩ : Str).length) x.length = sb at kb two ⊢
      have s1 := same_new np (.tup [.str sa, .str ⟨#[47]⟩, .str sb])
      have h1 : upd H p (.tup [.str sa, .str ⟨#[47]⟩, .str sb]) p = some (.tup [.str sa, .str ⟨#[47]⟩, .str sb]) := upd_same
      refine ⟨_, rfl, p, _, _, _, rfl, rfl, SqT.of h1, rfl, sa, rfl, ka, fun n H2 hn2 s2 hm2 => ?_, fun nt' H2 s2 => qe (fun r gr z => nt' r.1 gr.top (two r gr z).1) H2 (s1.trans s2)⟩
      refine ⟨_, rfl, p, _, _, _, rfl, rfl, SqT.of (s2 _ _ h1), rfl, rfl, _, rfl, ?_⟩
      refine ite2 (fun _ => ?_) (fun c => absurd (decide_eq_true (by decide +kernel)) c)
      refine ⟨_, rfl, p, _, _, _, rfl, rfl, SqT.of (s2 _ _ h1), rfl, sb, rfl, kb, fun m H3 hn3 s3 hm3 => ?_, fun nt' H3 s3 => qe (fun r gr z => nt' r.2 gr.bot (two r gr z).2) H3 ((s1.trans s2).trans s3)⟩
      refine q4 H3 (some (.ref p)) n m ((s1.trans s2).trans s3) hn2 hn3 fun r gr z => ?_
      obtain ⟨a, b⟩ := two r gr z
      exact Prod.ext (hm2 r.1 gr.top a).symm (hm3 r.2 gr.bot b).symm
  · refine ⟨_, (pss_cons (ps_if (pt_not (pt_val (pe_callB call_isi rfl m_isinstance b_isinstance (pac (pv 0) (pac (pe_ty rfl m_str b_str) pa_nil))))) (pss_one (ps_raise PySem.F.excBase_ValueError m_NoText q_NoText hr.hd (pac pe_str pa_nil))) pss_nil)
    (pss_cons (ps_set (i := 1) sc_read_ratio.nd rfl (Or.inl rfl) (pe_bm PySem.F.plainAttrs_str PySem.F.slot_str_partition PySem.F.type_str_partition mt_partition (pv 0) (pac pe_str pa_nil)))
    (pss_cons (ps_set (i := 2) sc_read_ratio.nd rfl (Or.inl rfl) (pe_fn G_read_whole (hr.mono (by decide)) px (pac (pe_ix ix_tup (pv 1) pe_int (fun _ _ => rfl)) pa_nil)))
    (pss_cons (ps_set (i := 3) sc_read_ratio.nd rfl (Or.inl rfl) (pe_ifExp (pt_cmpR op_eq (pe_ix ix_tup (pv 1) pe_int (fun _ _ => rfl)) pe_str (nomark _)) (pe_fn G_read_whole (hr.mono (by decide)) px (pac (pe_ix ix_tup (pv 1) pe_int (fun _ _ => rfl)) pa_nil)) pe_int))
    (pss_cons (ps_if (pt_cmpR op_eq (pv 3) pe_int (nomark _)) (pss_one (ps_raise PySem.F.excBase_ValueError m_NoText q_NoText hr.hd (pac pe_str pa_nil))) pss_nil)
    (pss_cons (ps_set (i := 4) sc_read_ratio.nd rfl (Or.inl rfl) (pe_fn G_ratio_of (hr.mono (by decide)) px (pac (pv 2) (pac (pv 3) pa_nil))))
    (pss_cons (ps_if (pt_cmpR op_ne (pe_fn G_show_ratio (hr.mono (by decide)) px (pac (pv 4) pa_nil)) (pv 0) (nomark _)) (pss_one (ps_raise PySem.F.excBase_ValueError m_NoText q_NoText hr.hd (pac (pe_join (pj_cons pe_str (pj_cons (pe_rep (pv 0)) pj_nil))) pa_nil))) pss_nil)
    (pss_one (ps_ret (pv 4)))))))))), ?_⟩
    obtain ⟨t, ty, kt⟩ := hu.ty (K := K)
    refine ⟨_, rfl, _, _, t, false, rfl, rfl, ty, kt, _, rfl, ?_⟩
    refine ite2 (fun _ => ?_) (fun c => absurd rfl c)
    exact ⟨sz, qe⟩
theorem fmod_in {x m : Int} (h : 0 < m) : 0 ≤ x.fmod m ∧ x.fmod m < m := ⟨Int.fmod_nonneg_of_pos x h, Int.fmod_lt_of_pos x h⟩
def spCell (K : PySem.W.Frag) : Sp := fun vs H Q _ => ∃ (a : Addr) (ns : List Int) (k : Int), vs = [.ref a, .int k] ∧ SqL K H a (ns.map V.int) ∧ (∀ i ∈ ns, intBits i ≤ 1048576) ∧ 0 ≤ k ∧ k ≤ 100 ∧ ∀ v, intBits v ≤ 1048576 → Q (.int v) H
theorem sc_law_cell_at : FnScope ["_law_script", "_law_k"] ["_law_script", "_law_k"] (defScope s_law_cell_at) := ⟨rfl, rfl, rfl, by decide +kernel, rfl, by decide +kernel, by decide +kernel⟩
theorem ok_law_cell_at (D : Def K mg "_law_cell_at" s_law_cell_at ["_law_script", "_law_k"]) (m_len : mg "len" = none) : Fn P w K mg base CX 1 "_law_cell_at" ["_law_script", "_law_k"] (spCell K) := by
  refine D.ok sc_law_cell_at (fun vs H Q E h => ?_) (fun f cdv A outer s H vs Q E hr h => ?_)
  · obtain ⟨a, ns, k, rfl, _⟩ := h
    rfl
  obtain ⟨a, ns, k, rfl, hS, hb, h0, h1, q⟩ := h
  refine ⟨_, (pss_cons (ps_if (pt_cmpR op_lt (pv 1) (pe_callB call_len_seq rfl m_len b_len (pac (pv 0) pa_nil)) (nomark _)) (pss_one (ps_ret (pe_ix ix_list (pv 0) (pv 1) (fun _ _ => rfl)))) pss_nil)
    (pss_one (ps_ret (pe_op op_modB (pe_op op_mulB (pe_op op_modB (pe_op op_mulB (pe_op op_add (pv 1) pe_int) (pe_op op_pow pe_int pe_int)) pe_int) (pe_op op_add (pv 1) pe_int)) pe_int)))), ?_⟩
  have hl : (ns.map V.int).length = ns.length := List.length_map _
  refine ⟨_, rfl, _, rfl, a, _, rfl, .inl hS, _, _, rfl, rfl, _, rfl, ?_⟩
  refine ite2 (fun c => ?_) (fun c => ?_)
  · have c' : k < (((ns.map V.int).length : Nat) : Int) := of_decide_eq_true c
    rw [hl] at c'
    have hk : k.toNat < ns.length := by omega
    have ek : k = ((k.toNat : Nat) : Int) := by omega
    have e : atI (ns.map V.int) k = some (.int ns[k.toNat]) := by
      have z : atI (ns.map V.int) ((k.toNat : Nat) : Int) = some (.int ns[k.toNat]) := atI_nat (by rw [List.getElem?_map, List.getElem?_eq_getElem hk]; rfl)
      rw [← ek] at z
      exact z
    exact ⟨_, rfl, _, rfl, a, _, k, _, rfl, rfl, hS, e, q _ (hb _ (List.getElem_mem hk))⟩
  · have b1 : intBits (k + 7) ≤ 64 := intBits_le_64 (by omega) (by omega)
    have b2 : intBits (k + 3) ≤ 64 := intBits_le_64 (by omega) (by omega)
    have e1 := fmod_in (x := (k + 7) * 48271 ^ (2 : Int).toNat) (m := 2147483647) (by decide)
    have b3 : intBits (((k + 7) * 48271 ^ (2 : Int).toNat).fmod 2147483647) ≤ 64 := intBits_le_64 (by omega) (by omega)
    have e2 := fmod_in (x := ((k + 7) * 48271 ^ (2 : Int).toNat).fmod 2147483647 * (k + 3)) (m := 2147483587) (by decide)
    have b4 : intBits ((((k + 7) * 48271 ^ (2 : Int).toNat).fmod 2147483647 * (k + 3)).fmod 2147483587) ≤ 64 := intBits_le_64 (by omega) (by omega)
    have c : ∀ {i j : Int}, intBits i ≤ 64 → intBits j ≤ 64 → CMulB i j := fun a b => ⟨Nat.le_trans a (by decide), Nat.le_trans b (by decide)⟩
    refine ⟨_, rfl, _, _, rfl, rfl, _, _, rfl, rfl, ⟨by decide, by decide, by decide⟩, _, _, rfl, rfl, c b1 (by decide +kernel), _, _, rfl, rfl, nz (by decide), ?_⟩
    exact ⟨_, rfl, _, _, rfl, rfl, _, _, rfl, rfl, c b3 b2, _, _, rfl, rfl, nz (by decide), q _ (Nat.le_trans b4 (by decide))⟩
theorem find_digit {c : Nat} (h : 48 ≤ c ∧ c ≤ 57) : Txt.find (Str.ofString "0123456789") ⟨#[c]⟩ = ((c - 48 : Nat) : Int) := by
  have key : ∀ c, c < 10 → Txt.find (Str.ofString "0123456789") ⟨#[48 + c]⟩ = ((c : Nat) : Int) := by decide +kernel
  have := key (c - 48) (by omega)
  rw [show 48 + (c - 48) = c by omega] at this
  exact this
theorem find_none {c : Nat} (h : ¬ (48 ≤ c ∧ c ≤ 57)) : Txt.find (Str.ofString "0123456789") ⟨#[c]⟩ = -1 := by
  unfold Txt.find
  rcases StrLaws.occ_head (Str.ofString "0123456789") ⟨#[c]⟩ 1 (Nat.le_refl 1) with ⟨h0, _⟩ | ⟨i, r, h0, hi, _⟩
  · rw [h0]
  · exfalso
    have m := (mem_iff_at _ c).mpr ⟨i, hi⟩
    have e : (Str.ofString "0123456789").cps.toList = [48, 49, 50, 51, 52, 53, 54, 55, 56, 57] := by decide +kernel
    rw [e] at m
    simp at m
    omega
theorem val_snoc (r : List Nat) (c : Nat) : NumText.digitsVal (r ++ [c]) = NumText.digitsVal r * 10 + (c - 48) := by
  unfold NumText.digitsVal
  rw [List.foldl_append]
  rfl
theorem dg_of : ∀ (n : Nat) (cs : List Nat), cs.length = n → NumText.AllDigits cs → cs ≠ [] → (1 < cs.length → cs.head? ≠ some 48) → cs = dg (NumText.digitsVal cs) := by
  intro n
  induction n with
  | zero => intro cs hl _ ne _; exact absurd (List.length_eq_zero_iff.mp hl) ne
  | succ n ih =>
    intro cs hl ad ne hh
    have e := List.dropLast_concat_getLast ne
    generalize hr : cs.dropLast = r at e
    generalize hc : cs.getLast ne = c at e
    have hcd : 48 ≤ c ∧ c ≤ 57 := ad c (by rw [← e]; simp)
    by_cases hrn : r = []
    · subst hrn
      rw [← e]
      have v : NumText.digitsVal ([] ++ [c]) = c - 48 := by rw [val_snoc]; simp [NumText.digitsVal]
      rw [v, dg_lt (by omega)]
      show [c] = [48 + (c - 48)]
      rw [show 48 + (c - 48) = c by omega]
    · have rl : r.length = n := by
        have := congrArg List.length e
        rw [List.length_append, List.length_singleton, hl] at this
        omega
      have rh : r.head? ≠ some 48 := by
        have h1 : cs.head? ≠ some 48 := hh (by
          have : 0 < r.length := List.length_pos_iff.mpr hrn
          rw [hl]
          omega)
        rw [← e, List.head?_append] at h1
        intro z
        rw [z] at h1
        exact h1 rfl
      have ra : NumText.AllDigits r := fun d hd => ad d (by rw [← e]; exact List.mem_append_left _ hd)
      have ri := ih r rl ra hrn (fun _ => rh)
      have pos : NumText.digitsVal r ≠ 0 := fun z => by
        rw [z] at ri
        rw [ri] at rh
        exact rh (by decide +kernel)
      rw [← e, val_snoc, dg_step (by omega)]
      have d1 : (NumText.digitsVal r * 10 + (c - 48)) / 10 = NumText.digitsVal r := by omega
      have d2 : (NumText.digitsVal r * 10 + (c - 48)) % 10 = c - 48 := by omega
      rw [d1, d2, ← ri, show 48 + (c - 48) = c by omega]
def spWT : Sp := fun vs H Q _ => ∃ x : Str, vs = [.str x] ∧ Txk x ∧ (∀ m : Nat, m < 10 ^ 60 → x.cps.toList = dg m → Q (.int m) H) ∧ ((∀ m : Nat, m < 10 ^ 60 → x.cps.toList ≠ dg m) → Q (.int (-1)) H)
theorem sc_law_whole_told : FnScope ["_law_figures", "_law_number", "_law_sign", "_law_at"] ["_law_figures"] (defScope s_law_whole_told) := ⟨rfl, rfl, rfl, by decide +kernel, rfl, by decide +kernel, by decide +kernel⟩
theorem ok_law_whole_told (D : Def K mg "_law_whole_told" s_law_whole_told ["_law_figures"]) (m_len : mg "len" = none) : Fn P w K mg base (CXr P w) 1 "_law_whole_told" ["_law_figures"] spWT := by
  refine D.ok sc_law_whole_told (fun vs H Q E h => ?_) (fun f cdv A outer s H vs Q E hr h => ?_)
  · obtain ⟨x, rfl, _⟩ := h
    rfl
  obtain ⟨x, rfl, hx, q, qe⟩ := h
  have hz : x.length ≤ sizeLine := Nat.le_trans hx.len (by decide)
  have ll := len_cps x
  have tail : ∃ t, PSs (cxOf (CXr P w) P w K mg base ["_law_figures", "_law_number", "_law_sign", "_law_at"] "_law_whole_told" (defScope s_law_whole_told) f cdv A outer s H E).nox ((defBody s_law_whole_told).drop 1) t ∧ (x.cps.toList ≠ [] → ¬ (60 : Int) < (x.length : Int) → (1 < x.cps.toList.length → x.cps.toList.head? ≠ some 48) → t { nx := fun _ H' => Q .non H', rt := Q } [some (.str x), none, none, none] H) := by
    refine ⟨_, (pss_cons (ps_set (i := 1) sc_law_whole_told.nd rfl (Or.inl rfl) pe_int) (pss_cons (ps_for PassesOwn.never rfl (pi_str (pv 0)) (pg_name (i := 2) sc_law_whole_told.nd rfl (Or.inl rfl)) (pss_cons (ps_set (i := 3) sc_law_whole_told.nd rfl (Or.inl rfl) (pe_bm PySem.F.plainAttrs_str PySem.F.slot_str_find PySem.F.type_str_find mt_find pe_str (pac (pv 2) pa_nil)))
      (pss_cons (ps_if (pt_cmpR op_lt (pv 3) pe_int (nomark _)) (pss_one (ps_ret (pe_un un_neg pe_int))) pss_nil)
      (pss_one (ps_set (i := 1) sc_law_whole_told.nd rfl (Or.inl rfl) (pe_op op_add (pe_op op_mulB pe_int (pv 1)) (pv 3))))))) (pss_one (ps_ret (pv 1))))), ?_⟩
    intro ne l60 hh
    refine ⟨_, rfl, x, rfl, for_str (x := x) (fun i σ H' => ∃ o1 o2, σ = [some (.str x), some (.int (NumText.digitsVal (x.cps.toList.take i) : Nat)), o1, o2] ∧ H' = H ∧ NumText.AllDigits (x.cps.toList.take i)) ⟨none, none, rfl, rfl, fun d hd => (nomatch hd)⟩ ?_ ?_⟩
    · rintro i d σ H' hi ⟨o1, o2, rfl, rfl, ad⟩
      have hi' : x.cps.toList[i]? = some d := by simpa using hi
      have hil : i < x.cps.toList.length := (List.getElem?_eq_some_iff.mp hi').1
      have hdi : x.cps.toList[i] = d := (List.getElem?_eq_some_iff.mp hi').2
      have tk : x.cps.toList.take (i + 1) = x.cps.toList.take i ++ [d] := by rw [List.take_succ_eq_append_getElem hil, hdi]
      refine ⟨rfl, _, rfl, _, _, rfl, rfl, ?_⟩
      by_cases hd : 48 ≤ d ∧ d ≤ 57
      · rw [find_digit hd]
        refine ⟨_, rfl, _, _, rfl, rfl, _, rfl, ?_⟩
        refine ite2 (fun c => absurd (of_decide_eq_true c) (by omega)) (fun _ => ?_)
        have vb := val_bound ad
        have tl : (x.cps.toList.take i).length ≤ 60 := by rw [List.length_take]; omega
        have vb' := Nat.lt_of_lt_of_le vb (Nat.pow_le_pow_right (show 0 < 10 by decide) tl)
        have bb : intBits ((NumText.digitsVal (x.cps.toList.take i) : Nat) : Int) ≤ 200 := intBits_le_iff.mpr (Nat.lt_of_lt_of_le vb' (by decide +kernel))
        refine ⟨_, rfl, _, _, rfl, rfl, ⟨by decide +kernel, Nat.le_trans bb (by decide)⟩, _, rfl, _, _, rfl, rfl, ?_⟩
        refine ⟨some (.str ⟨#[d]⟩), some (.int ((d - 48 : Nat) : Int)), ?_, rfl, ?_⟩
        · rw [tk, val_snoc]
          have e : (10 : Int) * ((NumText.digitsVal (x.cps.toList.take i) : Nat) : Int) + ((d - 48 : Nat) : Int) = ((NumText.digitsVal (x.cps.toList.take i) * 10 + (d - 48) : Nat) : Int) := by
            rw [Int.natCast_add, Int.natCast_mul]
            omega
          rw [← e]
          rfl
        · rw [tk]
          intro b hb
          rcases List.mem_append.mp hb with z | z
          · exact ad b z
          · have : b = d := by simpa using z
            rw [this]
            exact hd
      · rw [find_none hd]
        refine ⟨_, rfl, _, _, rfl, rfl, _, rfl, ?_⟩
        refine ite2 (fun _ => ?_) (fun c => absurd (decide_eq_true (show (-1 : Int) < 0 by decide)) c)
        refine ⟨1, rfl, qe fun m hm z => hd ?_⟩
        have := dg_all m d (by rw [← z]; exact List.mem_of_getElem? hi')
        exact this
    · rintro σ H' ⟨o1, o2, rfl, rfl, ad⟩
      have ht : x.cps.toList.take x.cps.size = x.cps.toList := List.take_of_length_le (by simp)
      rw [ht] at ad ⊢
      have e := dg_of _ _ rfl ad ne hh
      refine ⟨_, rfl, q _ ?_ e⟩
      have fl : x.cps.toList.length ≤ 60 := by omega
      exact Nat.lt_of_lt_of_le (val_bound ad) (Nat.pow_le_pow_right (show 0 < 10 by decide) fl)
  obtain ⟨t1, p1, q1⟩ := tail
  refine ⟨_, pss_cons (ps_if (PW.pt (pw_or (pt_cmpR op_eq (pv 0) pe_str (nomark _)) (pw_or (pt_cmpR op_gt (pe_callB call_len_str rfl m_len b_len (pac (pv 0) pa_nil)) pe_int (nomark _)) (pw_or1 (PW.pt (pw_and (pt_cmpR op_gt (pe_callB call_len_str rfl m_len b_len (pac (pv 0) pa_nil)) pe_int (nomark _)) (pw_and1 (pt_cmpR op_eq (pe_ix ix_str (pv 0) pe_int (fun _ _ => rfl)) pe_str (nomark _))))))))) (pss_one (ps_ret (pe_un un_neg pe_int))) pss_nil) p1, ?_⟩
  refine ⟨_, rfl, rfl, _, rfl, ?_⟩
  refine ite2 (fun c => ?_) (fun c => ?_)
  · have e : x = Str.ofString "" := by simpa using of_decide_eq_true c
    refine iteT ?_
    exact ⟨1, rfl, qe fun m _ z => by rw [e] at z; exact dg_ne m z.symm⟩
  have ne : x.cps.toList ≠ [] := fun z => by
    have := of_decide_eq_false (Bool.eq_false_iff.mpr c)
    exact this (congrArg V.str (str_ext (by rw [z]; rfl)))
  refine ⟨_, rfl, x, rfl, hz, _, _, rfl, rfl, _, rfl, ?_⟩
  refine ite2 (fun c => ?_) (fun c => ?_)
  · have c' : (60 : Int) < (x.length : Int) := of_decide_eq_true c
    refine iteT ?_
    refine ⟨1, rfl, qe fun m hm z => ?_⟩
    have := dg_len (by decide) hm
    rw [← z] at this
    omega
  have l60 : ¬ (60 : Int) < (x.length : Int) := of_decide_eq_false (Bool.eq_false_iff.mpr c)
  refine ⟨_, rfl, x, rfl, hz, _, _, rfl, rfl, _, rfl, ?_⟩
  refine ite2 (fun c => ?_) (fun c => ?_)
  · have c' : (1 : Int) < (x.length : Int) := of_decide_eq_true c
    cases e : x.cps.toList with
    | nil => exact absurd e ne
    | cons d r =>
      refine ⟨_, rfl, x, 0, d, rfl, rfl, hz, (by rw [e]; show atI (d :: r) ((0 : Nat) : Int) = some d; exact atI_nat rfl), rfl, _, rfl, ?_⟩
      refine ite2 (fun c2 => ?_) (fun c2 => ?_)
      · have hd : (⟨#[d]⟩ : Str) = ⟨#[48]⟩ := V.str.inj (of_decide_eq_true c2)
        have hd' : d = 48 := by
          have := congrArg (fun s : Str => s.cps.toList) hd
          simpa using this
        refine ⟨1, rfl, qe fun m hm z => ?_⟩
        have h0 := dg_head m (by rw [← z, e, hd']; rfl)
        rw [h0] at z
        have := congrArg List.length z
        rw [show (dg 0).length = 1 by decide +kernel] at this
        omega
      · have hd : ¬ d = 48 := fun z => by
          have := of_decide_eq_false (Bool.eq_false_iff.mpr c2)
          exact this (by rw [z]; rfl)
        refine q1 ne l60 fun _ => ?_
        rw [e]
        intro z
        exact hd (Option.some.inj z)
  · have c' : ¬ (1 : Int) < (x.length : Int) := of_decide_eq_false (Bool.eq_false_iff.mpr c)
    refine iteF ?_
    exact q1 ne l60 fun z => by omega
def spGcd : Sp := fun vs H Q _ => ∃ t b : Int, vs = [.int t, .int b] ∧ 0 ≤ b ∧ Q (.int (gz t b)) H
theorem sc_law_shared : FnScope ["_law_one", "_law_other"] ["_law_one", "_law_other"] (defScope s_law_shared) := ⟨rfl, rfl, rfl, by decide +kernel, rfl, by decide +kernel, by decide +kernel⟩
theorem ok_law_shared (D : Def K mg "_law_shared" s_law_shared ["_law_one", "_law_other"]) (m_abs : mg "abs" = none) : Fn P w K mg base CX 1 "_law_shared" ["_law_one", "_law_other"] spGcd := by
  refine D.ok sc_law_shared (fun vs H Q E h => ?_) (fun f cdv A outer s H vs Q E hr h => ?_)
  · obtain ⟨t, b, rfl, _⟩ := h
    rfl
  obtain ⟨t, b, rfl, hb, q⟩ := h
  refine ⟨_, (pss_cons (ps_set (i := 0) sc_law_shared.nd rfl (Or.inl rfl) (pe_callB call_abs rfl m_abs b_abs (pac (pv 0) pa_nil)))
    (pss_cons (ps_while PassesOwn.never (pt_cmpR op_ne (pv 1) pe_int (nomark _)) (pss_one (ps_par (i := 0) (j := 1) rfl sc_law_shared.nd rfl rfl (by decide) rfl rfl (pac (pv 1) (pac (pe_op op_modB (pv 0) (pv 1)) pa_nil)) rfl)))
    (pss_one (ps_ret (pv 0))))), ?_⟩
  refine ⟨_, rfl, t, rfl, ?_⟩
  refine while_by (fun σ H' => ∃ x y : Int, σ = [some (.int x), some (.int y)] ∧ H' = H ∧ 0 ≤ x ∧ 0 ≤ y ∧ Int.gcd x y = Int.gcd t b) (fun σ _ => match σ with | [_, some (.int y)] => y.natAbs | _ => 0) ⟨_, b, rfl, rfl, ?_, hb, ?_⟩ ?_ ?_
  · split <;> omega
  · split
    · exact Int.neg_gcd
    · rfl
  · rintro σ H' ⟨x, y, rfl, rfl, hx, hy, g⟩
    refine ⟨_, rfl, rfl, _, rfl, ?_⟩
    refine ite2 (fun c => ?_) (fun c => ?_)
    · have hy0 : y ≠ 0 := by
        intro z
        subst z
        simp at c
      refine ⟨_, rfl, _, rfl, _, rfl, _, _, rfl, rfl, hy0, _, _, rfl, ?_⟩
      exact ⟨⟨_, _, rfl, rfl, hy, Int.fmod_nonneg_of_pos _ (by omega), by rw [gcd_step]; exact g⟩, fmod_less hy0⟩
    · have hy0 : y = 0 := by
        have := Bool.eq_false_iff.mpr c
        simp at this
        exact this
      subst hy0
      have e : x = gz t b := by
        rw [Int.gcd_zero_right] at g
        unfold gz
        rw [← g]
        omega
      rw [← e] at q
      exact ⟨_, rfl, q⟩
  · rintro σ H' Q1 Q2 h ⟨v, e1, e2, k, ek, z⟩
    exact ⟨v, e1, e2, k, ek, h _ _ z⟩
def spTold : Sp := fun vs H Q _ => ∃ x : Str, vs = [.str x] ∧ Txk x ∧ (∀ q, Good q → x = nt q → gives H Q q) ∧ ((∀ q, Good q → x ≠ nt q) → ∀ H', Same H H' → Q .non H')
theorem nt_head {q : Int × Int} : ∃ d r, (nt q).cps.toList = d :: r ∧ (d = 45 ↔ q.1 < 0) ∧ (q.1 < 0 → r = (nt (-q.1, q.2)).cps.toList) := by
  have base : ∃ d r, (tx q.1).cps.toList = d :: r ∧ (d = 45 ↔ q.1 < 0) ∧ (q.1 < 0 → r = (tx (-q.1)).cps.toList) := by
    by_cases h : q.1 < 0
    · refine ⟨45, dg q.1.natAbs, by rw [tx_cps, if_pos h], ⟨fun _ => h, fun _ => rfl⟩, fun _ => ?_⟩
      rw [tx_cps, if_neg (by omega), Int.natAbs_neg]
    · cases e : dg q.1.natAbs with
      | nil => exact absurd e (dg_ne _)
      | cons d r =>
        have := dg_all q.1.natAbs d (by rw [e]; exact List.mem_cons_self)
        exact ⟨d, r, by rw [tx_cps, if_neg h, e], ⟨fun z => by omega, fun z => absurd z h⟩, fun z => absurd z h⟩
  obtain ⟨d, r, e1, e2, e3⟩ := base
  by_cases e : q.2 = 1
  · exact ⟨d, r, by rw [nt_one e, e1], e2, fun z => by rw [nt_one (q := (-q.1, q.2)) e]; exact e3 z⟩
  · refine ⟨d, r ++ slash.cps.toList ++ (tx q.2).cps.toList, ?_, e2, fun z => ?_⟩
    · rw [nt_two e, cps_append, cps_append, e1]
      simp
    · rw [nt_two (q := (-q.1, q.2)) e, cps_append, cps_append, e3 z]
theorem tx_dg {n : Int} (h : 0 ≤ n) : (tx n).cps.toList = dg n.natAbs := by rw [tx_cps, if_neg (by omega)]
theorem slice_to1 (x : Str) : (Txt.slice x none (some 1)).cps.toList = x.cps.toList.take 1 := by
  by_cases h : (1 : Int) ≤ (x.length : Int)
  · have e := slice_closes_toL (x := x) (j := 1) (by decide) h
    rw [beq_iff_eq] at e
    rw [e]
    simp
  · have l0 : x.length = 0 := by omega
    have l1 := Txt.slice_le x none (some 1)
    have e0 : x.cps.toList = [] := by rw [len_cps] at l0; exact List.length_eq_zero_iff.mp l0
    have e1 : (Txt.slice x none (some 1)).cps.toList = [] := by
      rw [len_cps, l0] at l1
      exact List.length_eq_zero_iff.mp (Nat.le_zero.mp l1)
    rw [e0, e1]
    rfl
theorem sc_law_told : FnScope ["_law_text_here", "_law_sign", "_law_high", "_law_stroke", "_law_low", "_law_top", "_law_bottom"] ["_law_text_here"] (defScope s_law_told) := ⟨rfl, rfl, rfl, by decide +kernel, rfl, by decide +kernel, by decide +kernel⟩
theorem ok_law_told (D : Def K mg "_law_told" s_law_told ["_law_text_here"]) (G_law_whole_told : Fn P w K mg base (CXr P w) 1 "_law_whole_told" ["_law_figures"] spWT) (G_law_shared : Fn P w K mg base (CXr P w) 1 "_law_shared" ["_law_one", "_law_other"] spGcd) :
    Fn P w K mg base (CXr P w) 2 "_law_told" ["_law_text_here"] spTold := by
  refine D.ok sc_law_told (fun vs H Q E h => ?_) (fun f cdv A outer s H vs Q E hr h => ?_)
  · obtain ⟨x, rfl, _⟩ := h
    rfl
  obtain ⟨x, rfl, hx, q, qe⟩ := h
  have px := passM (X := (cxOf (CXr P w) P w K mg base ["_law_text_here", "_law_sign", "_law_high", "_law_stroke", "_law_low", "_law_top", "_law_bottom"] "_law_told" (defScope s_law_told) f cdv A outer s H E)) (CXr.mute (P := P) (w := w))
  have cm : ∀ {i j : Int}, intBits i ≤ 200 → intBits j ≤ 200 → CMulB i j := fun a b => ⟨Nat.le_trans a (by decide), Nat.le_trans b (by decide)⟩
  have sz2 : (2 : Nat) ≤ sizeLine := by decide
  have tail5 : ∃ t, PSs (cxOf (CXr P w) P w K mg base ["_law_text_here", "_law_sign", "_law_high", "_law_stroke", "_law_low", "_law_top", "_law_bottom"] "_law_told" (defScope s_law_told) f cdv A outer s H E).nox ((defBody s_law_told).drop 5) t ∧ ∀ (y sa st sb : Str) (sg : Int) (m : Nat) (H1 : Hp), Same H H1 → intBits sg ≤ 200 → m < 10 ^ 60 → (st = Str.empty ∨ st = ⟨#[47]⟩) →
      (st = Str.empty → ∀ (p2 : Addr) (H2 : Hp), Same H H2 → H2 p2 = some (.tup [.int (sg * m), .int 1]) → Q (.ref p2) H2) →
      (st ≠ Str.empty → Txk sb ∧ (∀ k : Nat, k < 10 ^ 60 → sb.cps.toList = dg k → 2 ≤ k → gz (m : Int) (k : Int) = 1 → ∀ (p2 : Addr) (H2 : Hp), Same H H2 → H2 p2 = some (.tup [.int (sg * m), .int (k : Int)]) → Q (.ref p2) H2) ∧
        ((∀ k : Nat, k < 10 ^ 60 → sb.cps.toList = dg k → 2 ≤ k → gz (m : Int) (k : Int) ≠ 1) → ∀ H', Same H H' → Q .non H')) →
      t { nx := fun _ H' => Q .non H', rt := Q } [some (.str y), some (.int sg), some (.str sa), some (.str st), some (.str sb), some (.int (m : Int)), none] H1 := by
    refine ⟨_, (pss_cons (ps_if (pt_cmpR op_eq (pv 3) pe_str (nomark _)) (pss_one (ps_ret (pe_tup (pac (pe_op op_mulB (pv 1) (pv 5)) (pac pe_int pa_nil))))) pss_nil) (pss_cons (ps_set (i := 6) sc_law_told.nd rfl (Or.inl rfl) (pe_fn G_law_whole_told (hr.mono (by decide)) px (pac (pv 4) pa_nil))) (pss_cons (ps_if (PW.pt (pw_or (pt_cmpR op_lt (pv 6) pe_int (nomark _)) (pw_or1 (pt_cmpR op_ne (pe_fn G_law_shared (hr.mono (by decide)) px (pac (pv 5) (pac (pv 6) pa_nil))) pe_int (nomark _))))) (pss_one (ps_ret pe_non)) pss_nil) (pss_one (ps_ret (pe_tup (pac (pe_op op_mulB (pv 1) (pv 5)) (pac (pv 6) pa_nil)))))))), ?_⟩
    intro y sa st sb sg m H1 s1 bsg hm hst one two
    have bm : intBits (m : Int) ≤ 200 := small_bits (by simpa using hm)
    refine ⟨_, rfl, rfl, _, rfl, ?_⟩
    refine ite2 (fun c => ?_) (fun c => ?_)
    · have e : st = Str.empty := V.str.inj (of_decide_eq_true c)
      exact ⟨_, rfl, _, rfl, _, _, rfl, rfl, cm bsg bm, sz2, fun p2 n2 => one e p2 _ (s1.trans (same_new n2 _)) upd_same⟩
    · have e : st ≠ Str.empty := fun z => by
        have := of_decide_eq_false (Bool.eq_false_iff.mpr c)
        exact this (congrArg V.str z)
      obtain ⟨kb, yes, no⟩ := two e
      have dginj : ∀ {a b : Nat}, dg a = dg b → a = b := fun {a b} h => by
        have := congrArg NumText.digitsVal h
        rwa [dg_val, dg_val] at this
      refine ⟨_, rfl, sb, rfl, kb, fun k hk' ek => ?_, fun nn => ?_⟩
      · refine ⟨_, rfl, _, _, rfl, rfl, _, rfl, ?_⟩
        refine ite2 (fun c => ?_) (fun c => ?_)
        · have k2 : (k : Int) < 2 := of_decide_eq_true c
          refine iteT ?_
          refine no (fun k' _ e' h2 => ?_) _ s1
          have := dginj (ek.symm.trans e')
          omega
        · have k2 : ¬ (k : Int) < 2 := of_decide_eq_false (Bool.eq_false_iff.mpr c)
          refine ⟨_, rfl, _, rfl, _, _, rfl, by omega, rfl, _, rfl, ?_⟩
          refine ite2 (fun c => ?_) (fun c => ?_)
          · have hg : gz (m : Int) (k : Int) ≠ 1 := fun z => by
              rw [z] at c
              simp at c
            refine no (fun k' _ e' h2 => ?_) _ s1
            have := dginj (ek.symm.trans e')
            rw [← this]
            exact hg
          · have hg : gz (m : Int) (k : Int) = 1 := by
              have := Bool.eq_false_iff.mpr c
              simpa using this
            exact ⟨_, rfl, _, rfl, _, _, rfl, rfl, cm bsg bm, _, rfl, sz2, fun p2 n2 => yes k hk' ek (by omega) hg p2 _ (s1.trans (same_new n2 _)) upd_same⟩
      · refine ⟨_, rfl, _, _, rfl, rfl, _, rfl, ?_⟩
        refine ite2 (fun _ => ?_) (fun c => absurd (decide_eq_true (show (-1 : Int) < 2 by decide)) c)
        refine iteT ?_
        exact no (fun k' hk' e' _ => absurd e' (nn k' hk')) _ s1
  obtain ⟨t5, p5, q5⟩ := tail5
  have tail : ∃ t, PSs (cxOf (CXr P w) P w K mg base ["_law_text_here", "_law_sign", "_law_high", "_law_stroke", "_law_low", "_law_top", "_law_bottom"] "_law_told" (defScope s_law_told) f cdv A outer s H E).nox ((defBody s_law_told).drop 2) t ∧ ∀ (y : Str) (sg : Int), Txk y → (sg = 1 ∨ sg = -1) →
      (∀ q' : Int × Int, Good q' → 0 ≤ q'.1 → y = nt q' → (sg < 0 → q'.1 ≠ 0) → x = nt (sg * q'.1, q'.2)) →
      (∀ r, Good r → x = nt r → ∃ q' : Int × Int, Good q' ∧ 0 ≤ q'.1 ∧ y = nt q' ∧ (sg < 0 → q'.1 ≠ 0) ∧ r = (sg * q'.1, q'.2)) →
      t { nx := fun _ H' => Q .non H', rt := Q } [some (.str y), some (.int sg), none, none, none, none, none] H := by
    refine ⟨_, (pss_cons (ps_asg (pe_bm PySem.F.plainAttrs_str PySem.F.slot_str_partition PySem.F.type_str_partition mt_partition (pv 0) (pac pe_str pa_nil)) (pg_tup rfl (pgs_cons (pg_name (i := 2) sc_law_told.nd rfl (Or.inl rfl)) (pgs_cons (pg_name (i := 3) sc_law_told.nd rfl (Or.inl rfl)) (pgs_cons (pg_name (i := 4) sc_law_told.nd rfl (Or.inl rfl)) pgs_nil))))) (pss_cons (ps_set (i := 5) sc_law_told.nd rfl (Or.inl rfl) (pe_fn G_law_whole_told (hr.mono (by decide)) px (pac (pv 2) pa_nil))) (pss_cons (ps_if (PW.pt (pw_or (pt_cmpR op_lt (pv 5) pe_int (nomark _)) (pw_or1 (PW.pt (pw_and (pt_cmpR op_eq (pv 5) pe_int (nomark _)) (pw_and1 (pt_cmpR op_lt (pv 1) pe_int (nomark _)))))))) (pss_one (ps_ret pe_non)) pss_nil) p5))), ?_⟩
    intro y sg hy hsg fwd bwd
    have bsg : intBits sg ≤ 200 := by rcases hsg with z | z <;> (rw [z]; decide +kernel)
    have hz : y.length ≤ sizeLine := Nat.le_trans hy.len (by decide)
    have good : ∀ q' : Int × Int, Good q' → Good (sg * q'.1, q'.2) := fun q' g => by
      rcases hsg with z | z
      · rw [z, Int.one_mul]; exact g
      · rw [z, Int.neg_one_mul]
        exact ⟨g.pos, by rw [Int.neg_gcd]; exact g.low, by show (-q'.1).natAbs < _; rw [Int.natAbs_neg]; exact g.top, g.bot⟩
    have none_of : (∀ q' : Int × Int, Good q' → 0 ≤ q'.1 → y = nt q' → (sg < 0 → q'.1 ≠ 0) → False) → ∀ H', Same H H' → Q .non H' := fun h => qe fun r gr z => by
      obtain ⟨q', a, b, c, d, _⟩ := bwd r gr z
      exact h q' a b c d
    refine ⟨_, rfl, rfl, y, ⟨#[47]⟩, rfl, rfl, rfl, hz, fun p np => ?_⟩
    have s1 := same_new np (.tup [.str (Txt.partition y ⟨#[47]⟩).1, .str (Txt.partition y ⟨#[47]⟩).2.1, .str (Txt.partition y ⟨#[47]⟩).2.2])
    refine ⟨p, _, rfl, SqT.of upd_same, rfl, _, _, rfl, _, _, rfl, _, _, rfl, rfl, ?_⟩
    rcases partition_whole y ⟨#[47]⟩ with ⟨e1, hn⟩ | ⟨i, e1, hi, hk⟩
    · have no47 : 47 ∉ y.cps.toList := fun m => by obtain ⟨i, hi⟩ := (mem_iff_at y 47).mp m; exact hn i hi
      have one : ∀ q' : Int × Int, 0 ≤ q'.1 → y = nt q' → q'.2 = 1 ∧ y.cps.toList = dg q'.1.natAbs := fun q' h0 z => by
        by_cases e : q'.2 = 1
        · exact ⟨e, by rw [z, nt_one e, tx_dg h0]⟩
        · exfalso
          refine no47 ?_
          rw [z, nt_two e, cps_append, cps_append, slash_cps]
          simp
      rw [e1] at s1 ⊢
      refine ⟨_, rfl, y, rfl, hy, fun m hm em => ?_, fun no => ?_⟩
      · refine ⟨_, rfl, _, _, rfl, rfl, _, rfl, ?_⟩
        refine ite2 (fun c => absurd (of_decide_eq_true c) (by omega)) (fun _ => ?_)
        refine ⟨_, rfl, rfl, _, rfl, ?_⟩
        have g1 : Good ((m : Int), 1) := ⟨(by show (0 : Int) < 1; decide), by simp, by simpa using hm, (by show (1 : Int).natAbs < 10 ^ 60; decide +kernel)⟩
        have y1 : y = nt ((m : Int), 1) := str_ext (by rw [nt_one rfl, tx_nat]; exact em)
        have ret : (sg < 0 → (m : Int) ≠ 0) → ∀ (p2 : Addr) (H2 : Hp), Same H H2 → H2 p2 = some (.tup [.int (sg * m), .int 1]) → Q (.ref p2) H2 := fun hs p2 H2 s2 e2 =>
          q _ (good _ g1) (fwd _ g1 (by show (0 : Int) ≤ (m : Int); omega) y1 hs) p2 H2 s2 e2
        have bm : intBits (m : Int) ≤ 200 := small_bits (by simpa using hm)
        have fin := fun hs : sg < 0 → (m : Int) ≠ 0 => q5 y y Str.empty Str.empty sg m _ s1 bsg hm (.inl rfl) (fun _ => ret hs) (fun z => absurd rfl z)
        refine ite2 (fun c => ?_) (fun c => ?_)
        · have m0 : (m : Int) = 0 := by simpa using of_decide_eq_true c
          refine ⟨_, rfl, _, _, rfl, rfl, _, rfl, ?_⟩
          refine ite2 (fun c2 => ?_) (fun c2 => ?_)
          · have s0 : sg < 0 := of_decide_eq_true c2
            refine none_of (fun q' g h0 z hs => hs s0 ?_) _ s1
            obtain ⟨_, b⟩ := one q' h0 z
            rw [em] at b
            have := congrArg NumText.digitsVal b
            rw [dg_val, dg_val] at this
            omega
          · have s0 : ¬ sg < 0 := of_decide_eq_false (Bool.eq_false_iff.mpr c2)
            exact fin fun z => absurd z s0
        · have m0 : (m : Int) ≠ 0 := by
            have := of_decide_eq_false (Bool.eq_false_iff.mpr c)
            intro z
            exact this (by rw [z])
          refine iteF ?_
          exact fin fun _ => m0
      · refine ⟨_, rfl, _, _, rfl, rfl, _, rfl, ?_⟩
        refine ite2 (fun _ => ?_) (fun c => absurd (decide_eq_true (show (-1 : Int) < 0 by decide)) c)
        refine iteT ?_
        refine none_of (fun q' g h0 z _ => ?_) _ s1
        exact no q'.1.natAbs g.top (one q' h0 z).2
    · have sub : ∀ (i j : Nat) (c : Nat), c ∈ (Builtin.Str.strSub y i j).cps.toList → c ∈ y.cps.toList := fun i j c hc => by
        have : (Builtin.Str.strSub y i j).cps.toList = (y.cps.toList.take j).drop i := by
          show (y.cps.extract i j).toList = _
          simp [List.extract_eq_drop_take', Array.toList_extract]
        rw [this] at hc
        exact List.mem_of_mem_take (List.mem_of_mem_drop hc)
      have subl : ∀ (i j : Nat), (Builtin.Str.strSub y i j).length ≤ y.length := fun i j => by
        show (y.cps.extract i j).size ≤ y.cps.size
        simp
        omega
      have ka := txk_sub hy (subl 0 i) (sub 0 i)
      have kb := txk_sub hy (subl (i + (⟨#[47]⟩ : Str).length) y.length) (sub (i + (⟨#[47]⟩ : Str).length) y.length)
      have two : ∀ r : Int × Int, Good r → 0 ≤ r.1 → y = nt r → r.2 ≠ 1 ∧ (Builtin.Str.strSub y 0 i).cps.toList = dg r.1.natAbs ∧ (Builtin.Str.strSub y (i + (⟨#[47]⟩ : Str).length) y.length).cps.toList = dg r.2.natAbs := fun r g h0 z => by
        by_cases e : r.2 = 1
        · exfalso
          have : (47 : Nat) ∈ y.cps.toList := (mem_iff_at y 47).mpr ⟨i, hi⟩
          rw [z, nt_one e] at this
          exact tx_no (by decide) (by decide) this
        · have p1 := part_at (a := tx r.1) (b := tx r.2) (tx_no (by decide) (by decide))
          have z' : y = tx r.1 ++ (⟨#[47]⟩ : Str) ++ tx r.2 := by rw [z, nt_two e]; rfl
          rw [← z', e1] at p1
          have a1 : Builtin.Str.strSub y 0 i = tx r.1 := congrArg Prod.fst p1
          have b1 : Builtin.Str.strSub y (i + (⟨#[47]⟩ : Str).length) y.length = tx r.2 := congrArg (fun z => z.2.2) p1
          exact ⟨e, by rw [a1, tx_dg h0], by rw [b1, tx_dg (Int.le_of_lt g.pos)]⟩
      have back : ∀ (m k : Nat), (Builtin.Str.strSub y 0 i).cps.toList = dg m → (Builtin.Str.strSub y (i + (⟨#[47]⟩ : Str).length) y.length).cps.toList = dg k → 2 ≤ k → y = nt ((m : Int), (k : Int)) := fun m k h1 h2 hk2 => by
        have a1 : Builtin.Str.strSub y 0 i = tx (m : Int) := str_ext (by rw [h1, tx_nat])
        have b1 : Builtin.Str.strSub y (i + (⟨#[47]⟩ : Str).length) y.length = tx (k : Int) := str_ext (by rw [h2, tx_nat])
        rw [nt_two (show ((k : Int)) ≠ 1 by omega)]
        have s := StrLaws.partition_sum y ⟨#[47]⟩
        rw [e1] at s
        dsimp only at s
        rw [a1, b1] at s
        exact s.symm
      rw [e1] at s1 ⊢
      generalize Builtin.Str.strSub y 0 i = sa at ka two back s1 ⊢
      generalize Builtin.Str.strSub y (i + (⟨#[47]⟩ : Str).length) y.length = sb at kb two back s1 ⊢
      have dginj : ∀ {a b : Nat}, dg a = dg b → a = b := fun {a b} h => by
        have := congrArg NumText.digitsVal h
        rwa [dg_val, dg_val] at this
      refine ⟨_, rfl, sa, rfl, ka, fun m hm em => ?_, fun no => ?_⟩
      · refine ⟨_, rfl, _, _, rfl, rfl, _, rfl, ?_⟩
        refine ite2 (fun c => absurd (of_decide_eq_true c) (by omega)) (fun _ => ?_)
        refine ⟨_, rfl, rfl, _, rfl, ?_⟩
        have bm : intBits (m : Int) ≤ 200 := small_bits (by simpa using hm)
        have fin := fun hs : sg < 0 → (m : Int) ≠ 0 => q5 y sa ⟨#[47]⟩ sb sg m _ s1 bsg hm (.inr rfl) (fun z => absurd z (by decide +kernel)) (fun _ => ⟨kb, fun k hk' ek k2 hg p2 H2 s2 e2 => by
            have gq : Good ((m : Int), (k : Int)) := ⟨by show (0 : Int) < (k : Int); omega, by have z : ((Int.gcd (m : Int) (k : Int) : Nat) : Int) = 1 := hg; show Int.gcd (m : Int) (k : Int) = 1; omega, by simpa using hm, by simpa using hk'⟩
            exact q _ (good _ gq) (fwd _ gq (by show (0 : Int) ≤ (m : Int); omega) (back m k em ek k2) hs) p2 H2 s2 e2, fun nn => none_of fun q' g h0 z _ => by
            obtain ⟨a, b, c⟩ := two q' g h0 z
            have p1 := g.pos
            have l := g.low
            refine nn q'.2.natAbs g.bot c (by omega) ?_
            rw [em] at b
            have e1 := dginj b
            have : q' = ((m : Int), ((q'.2.natAbs : Nat) : Int)) := Prod.ext (by show q'.1 = (m : Int); omega) (by show q'.2 = _; omega)
            rw [this] at l
            unfold gz
            rw [show Int.gcd (m : Int) ((q'.2.natAbs : Nat) : Int) = 1 from l]
            rfl⟩)
        refine ite2 (fun c => ?_) (fun c => ?_)
        · have m0 : (m : Int) = 0 := by simpa using of_decide_eq_true c
          refine ⟨_, rfl, _, _, rfl, rfl, _, rfl, ?_⟩
          refine ite2 (fun c2 => ?_) (fun c2 => ?_)
          · have s0 : sg < 0 := of_decide_eq_true c2
            refine none_of (fun q' g h0 z hs => hs s0 ?_) _ s1
            obtain ⟨_, b, _⟩ := two q' g h0 z
            rw [em] at b
            have := dginj b
            omega
          · have s0 : ¬ sg < 0 := of_decide_eq_false (Bool.eq_false_iff.mpr c2)
            exact fin fun z => absurd z s0
        · have m0 : (m : Int) ≠ 0 := by
            have := of_decide_eq_false (Bool.eq_false_iff.mpr c)
            intro z
            exact this (by rw [z])
          refine iteF ?_
          exact fin fun _ => m0
      · refine ⟨_, rfl, _, _, rfl, rfl, _, rfl, ?_⟩
        refine ite2 (fun _ => ?_) (fun c => absurd (decide_eq_true (show (-1 : Int) < 0 by decide)) c)
        refine iteT ?_
        refine none_of (fun q' g h0 z _ => ?_) _ s1
        exact no q'.1.natAbs g.top (two q' g h0 z).2.1
  obtain ⟨t2, p2, q2⟩ := tail
  refine ⟨_, (pss_cons (ps_set (i := 1) sc_law_told.nd rfl (Or.inl rfl) pe_int) (pss_cons (ps_if (pt_cmpR op_eq (pe_slice sl_str (pv 0) po_none (po_some pe_int)) pe_str (nomark _)) (pss_cons (ps_set (i := 1) sc_law_told.nd rfl (Or.inl rfl) (pe_un un_neg pe_int))
      (pss_one (ps_set (i := 0) sc_law_told.nd rfl (Or.inl rfl) (pe_slice sl_str (pv 0) (po_some pe_int) po_none)))) pss_nil) p2)), ?_⟩
  have hz : x.length ≤ sizeLine := Nat.le_trans hx.len (by decide)
  refine ⟨_, rfl, 1, rfl, x, rfl, hz, rfl, _, rfl, ?_⟩
  have hd1 : (Txt.slice x none (some 1)).cps.toList = x.cps.toList.take 1 := slice_to1 x
  refine ite2 (fun c => ?_) (fun c => ?_)
  · have e : Txt.slice x none (some 1) = Str.ofString "-" := V.str.inj (of_decide_eq_true c)
    rw [e] at hd1
    have hd2 : [45] = x.cps.toList.take 1 := hd1
    obtain ⟨cs, ec⟩ : ∃ cs, x.cps.toList = 45 :: cs := by
      cases ex : x.cps.toList with
      | nil => rw [ex] at hd2; cases hd2
      | cons d r => rw [ex] at hd2; exact ⟨r, by rw [show d = 45 from (by simpa using hd2 : 45 = d).symm]⟩
    refine ⟨1, rfl, _, rfl, 1, rfl, x, rfl, hz, ?_⟩
    have es := slice_one ec
    have ky : Txk (Txt.slice x (some 1) none) := txk_sub hx (Txt.slice_le x _ _) (fun c hc => by rw [es] at hc; rw [ec]; exact List.mem_cons_of_mem _ hc)
    refine q2 _ (-1) ky (.inr rfl) (fun q' g h0 z hs => ?_) (fun r gr z => ?_)
    · have h1 : q'.1 ≠ 0 := hs (by decide)
      obtain ⟨d, r', e1, e2, e3⟩ := nt_head (q := (-1 * q'.1, q'.2))
      have neg : -1 * q'.1 < 0 := by omega
      refine str_ext ?_
      rw [e1, e2.mpr neg, e3 neg, ec, ← es, z]
      show 45 :: (nt q').cps.toList = 45 :: (nt (-(-1 * q'.1), q'.2)).cps.toList
      rw [show -(-1 * q'.1) = q'.1 by omega]
    · obtain ⟨d, r', e1, e2, e3⟩ := nt_head (q := r)
      rw [← z, ec] at e1
      have d45 : d = 45 := (List.cons.inj e1).1.symm
      have neg := e2.mp d45
      refine ⟨(-r.1, r.2), ⟨gr.pos, by show Int.gcd (-r.1) r.2 = 1; rw [Int.neg_gcd]; exact gr.low, by show (-r.1).natAbs < _; rw [Int.natAbs_neg]; exact gr.top, gr.bot⟩, by show 0 ≤ -r.1; omega, ?_, fun _ => by show -r.1 ≠ 0; omega, Prod.ext (by show r.1 = -1 * -r.1; omega) rfl⟩
      refine str_ext ?_
      rw [es, ← e3 neg]
      exact (List.cons.inj e1).2
  · have ne : ¬ ∃ cs, x.cps.toList = 45 :: cs := fun ⟨cs, ec⟩ => by
      have := of_decide_eq_false (Bool.eq_false_iff.mpr c)
      refine this (congrArg V.str (str_ext ?_))
      rw [hd1, ec]
      rfl
    refine q2 x 1 hx (.inl rfl) (fun q' g h0 z _ => ?_) (fun r gr z => ?_)
    · rw [Int.one_mul]
      exact z
    · obtain ⟨d, r', e1, e2, _⟩ := nt_head (q := r)
      rw [← z] at e1
      have nn : ¬ r.1 < 0 := fun h => ne ⟨r', by rw [e1, e2.mpr h]⟩
      exact ⟨r, gr, by omega, z, fun h => absurd h (by decide), Prod.ext (by show r.1 = 1 * r.1; omega) rfl⟩
def spSign : Sp := fun vs H Q _ => ∃ c : Int, vs = [.int c] ∧ ∀ d : Nat, d < 1000 → Q (.str ⟨#[d]⟩) H
theorem sc_law_sign_by : FnScope ["_law_cell", "_law_some"] ["_law_cell"] (defScope s_law_sign_by) := ⟨rfl, rfl, rfl, by decide +kernel, rfl, by decide +kernel, by decide +kernel⟩
theorem ok_law_sign_by (D : Def K mg "_law_sign_by" s_law_sign_by ["_law_cell"]) : Fn P w K mg base CX 1 "_law_sign_by" ["_law_cell"] spSign := by
  refine D.ok sc_law_sign_by (fun vs H Q E h => ?_) (fun f cdv A outer s H vs Q E hr h => ?_)
  · obtain ⟨c, rfl, _⟩ := h
    rfl
  obtain ⟨c, rfl, q⟩ := h
  refine ⟨_, (pss_cons (ps_set (i := 1) sc_law_sign_by.nd rfl (Or.inl rfl) pe_str)
    (pss_cons (ps_set (i := 1) sc_law_sign_by.nd rfl (Or.inl rfl) (pe_op op_add_str (pv 1) pe_str))
    (pss_one (ps_ret (pe_ix ix_str (pv 1) (pe_op op_modB (pv 0) pe_int) (fun _ _ => rfl)))))), ?_⟩
  have e1 := fmod_in (x := c) (m := 96) (by decide)
  refine ⟨_, rfl, _, _, rfl, rfl, (by decide +kernel), ?_⟩
  refine ⟨_, rfl, _, rfl, _, _, rfl, rfl, nz (by decide), ?_⟩
  obtain ⟨m, em⟩ := Int.eq_ofNat_of_zero_le e1.1
  have hm : m < 96 := by omega
  have key : ∀ m : Nat, m < 96 → ∃ d : Nat, d < 1000 ∧ atI (Str.ofString " !\"#$&'()*+,-./0123456789:;<=>?@ABCDEFGHIJKLMNOPQRSTUVWXYZ[\\]^_`" ++ Str.ofString "abcdefghijklmnopqrstuvwxyz{|}~\n\t").cps.toList (m : Int) = some d := by
    intro m hm
    have al : ((Str.ofString " !\"#$&'()*+,-./0123456789:;<=>?@ABCDEFGHIJKLMNOPQRSTUVWXYZ[\\]^_`" ++ Str.ofString "abcdefghijklmnopqrstuvwxyz{|}~\n\t").cps.toList.all (· < 1000)) = true := by decide +kernel
    have ln : (Str.ofString " !\"#$&'()*+,-./0123456789:;<=>?@ABCDEFGHIJKLMNOPQRSTUVWXYZ[\\]^_`" ++ Str.ofString "abcdefghijklmnopqrstuvwxyz{|}~\n\t").cps.toList.length = 96 := by decide +kernel
    generalize (Str.ofString " !\"#$&'()*+,-./0123456789:;<=>?@ABCDEFGHIJKLMNOPQRSTUVWXYZ[\\]^_`" ++ Str.ofString "abcdefghijklmnopqrstuvwxyz{|}~\n\t").cps.toList = l at al ln
    have hl : m < l.length := by omega
    refine ⟨l[m], ?_, atI_nat (List.getElem?_eq_getElem hl)⟩
    have := List.all_eq_true.mp al l[m] (List.getElem_mem hl)
    simpa using this
  obtain ⟨d, hd, ed⟩ := key m hm
  rw [← em] at ed
  exact ⟨_, _, d, rfl, rfl, (by decide +kernel), ed, q d hd⟩
def spSome : Sp := fun vs H Q _ => ∃ c : Int, vs = [.int c] ∧ ∀ (x : Str) (H' : Hp), Txk x → Same H H' → Q (.str x) H'
def odds : List Str := ["", "-", "/", "-/", "0/", "/2", "-0", "00", "01", "+1", "1/", "1/1", "0/1", "0/3", "-0/3", "1/-2", "1//2", "1/2/3", "--1", "1/02", "-0", "-0", "-0", "-0"]
theorem odds_ok : odds.all (fun x => decide (x.length ≤ 400) && x.cps.toList.all (· < 1000)) = true := by decide +kernel
theorem sc_law_odd_text : FnScope ["_law_cell", "_law_some"] ["_law_cell"] (defScope s_law_odd_text) := ⟨rfl, rfl, rfl, by decide +kernel, rfl, by decide +kernel, by decide +kernel⟩
theorem ok_law_odd_text (D : Def K mg "_law_odd_text" s_law_odd_text ["_law_cell"]) : Fn P w K mg base CX 1 "_law_odd_text" ["_law_cell"] spSome := by
  refine D.ok sc_law_odd_text (fun vs H Q E h => ?_) (fun f cdv A outer s H vs Q E hr h => ?_)
  · obtain ⟨c, rfl, _⟩ := h
    rfl
  obtain ⟨c, rfl, q⟩ := h
  refine ⟨_, (pss_cons (ps_set (i := 1) sc_law_odd_text.nd rfl (Or.inl rfl) (pe_lst (pa_strs ["", "-", "/", "-/", "0/", "/2", "-0", "00", "01", "+1", "1/", "1/1", "0/1", "0/3", "-0/3"] (by decide +kernel))))
    (pss_cons (ps_set (i := 1) sc_law_odd_text.nd rfl (Or.inl rfl) (pe_op op_cat (pv 1) (pe_lst (pa_strs ["1/-2", "1//2", "1/2/3", "--1", "1/02", "-0", "-0", "-0", "-0"] (by decide +kernel)))))
    (pss_one (ps_ret (pe_ix ix_list (pv 1) (pe_op op_modB (pv 0) pe_int) (fun _ _ => rfl)))))), ?_⟩
  have sz : ∀ n : Nat, n ≤ 30 → n ≤ sizeLine := fun n h => Nat.le_trans h (by decide)
  refine ⟨sz 15 (by decide), fun l1 n1 => ?_⟩
  have s1 := same_new n1 (.lst ((odds.take 15).map V.str))
  have e1 : upd H l1 (.lst ((odds.take 15).map V.str)) l1 = some (.lst ((odds.take 15).map V.str)) := upd_same
  refine ⟨_, rfl, sz 9 (by decide), fun l2 n2 => ?_⟩
  have s2 := same_new (H := upd H l1 (.lst ((odds.take 15).map V.str))) n2 (.lst ((odds.drop 15).map V.str))
  refine ⟨l1, l2, _, _, rfl, rfl, s2 _ _ e1, upd_same, sz 24 (by decide), fun l3 n3 => ?_⟩
  refine ⟨_, rfl, _, rfl, _, _, rfl, rfl, nz (by decide), ?_⟩
  have m := fmod_in (x := c) (m := 24) (by decide)
  obtain ⟨k, em⟩ := Int.eq_ofNat_of_zero_le m.1
  have hk : k < odds.length := by show k < 24; omega
  have al := List.all_eq_true.mp odds_ok odds[k] (List.getElem_mem hk)
  rw [Bool.and_eq_true] at al
  refine ⟨l3, odds.map V.str, c.fmod 24, .str odds[k], rfl, rfl, SqL.of upd_same, (by rw [em]; exact atI_nat (by rw [List.getElem?_map, List.getElem?_eq_getElem hk]; rfl)), ?_⟩
  exact q _ _ ⟨of_decide_eq_true al.1, fun d hd => by simpa using List.all_eq_true.mp al.2 d hd⟩ (s1.trans (s2.trans (same_new n3 _)))
def spNoStr : Sp := fun vs H Q _ => ∃ c : Int, vs = [.int c] ∧ ∀ x H', Same H H' → NoStr H' x → Q x H'
theorem sc_law_no_text : FnScope ["_law_cell"] ["_law_cell"] (defScope s_law_no_text) := ⟨rfl, rfl, rfl, by decide +kernel, rfl, by decide +kernel, by decide +kernel⟩
theorem ok_law_no_text (D : Def K mg "_law_no_text" s_law_no_text ["_law_cell"]) : Fn P w K mg base CX 1 "_law_no_text" ["_law_cell"] spNoStr := by
  refine D.ok sc_law_no_text (fun vs H Q E h => ?_) (fun f cdv A outer s H vs Q E hr h => ?_)
  · obtain ⟨c, rfl, _⟩ := h
    rfl
  obtain ⟨c, rfl, q⟩ := h
  refine ⟨_, (pss_cons (ps_if (pt_cmpR op_eq (pe_op op_modB (pv 0) pe_int) pe_int (nomark _)) (pss_one (ps_ret pe_non)) pss_nil)
    (pss_cons (ps_if (pt_cmpR op_eq (pe_op op_modB (pv 0) pe_int) pe_int (nomark _)) (pss_one (ps_ret pe_int)) pss_nil)
    (pss_cons (ps_if (pt_cmpR op_eq (pe_op op_modB (pv 0) pe_int) pe_int (nomark _)) (pss_one (ps_ret (pe_tup (pac pe_int (pac pe_int pa_nil))))) pss_nil)
    (pss_cons (ps_if (pt_cmpR op_eq (pe_op op_modB (pv 0) pe_int) pe_int (nomark _)) (pss_one (ps_ret (pe_lst (pac pe_str pa_nil)))) pss_nil)
    (pss_one (ps_ret pe_bl)))))), ?_⟩
  have r := Same.refl H
  refine ⟨_, rfl, _, _, rfl, rfl, nz (by decide), rfl, _, rfl, ?_⟩
  refine ite2 (fun _ => q _ _ r .non) (fun _ => ?_)
  refine ⟨_, rfl, _, _, rfl, rfl, nz (by decide), rfl, _, rfl, ?_⟩
  refine ite2 (fun _ => q _ _ r (.int _)) (fun _ => ?_)
  refine ⟨_, rfl, _, _, rfl, rfl, nz (by decide), rfl, _, rfl, ?_⟩
  refine ite2 (fun _ => ⟨(by show 2 ≤ sizeLine; decide), fun p hp => q _ _ (same_new hp _) (.tup upd_same)⟩) (fun _ => ?_)
  refine ⟨_, rfl, _, _, rfl, rfl, nz (by decide), rfl, _, rfl, ?_⟩
  refine ite2 (fun _ => ⟨(by show 1 ≤ sizeLine; decide), fun p hp => q _ _ (same_new hp _) (.lst upd_same)⟩) (fun _ => ?_)
  exact q _ _ r (.bl _)
def spAlone (C : Addr) : Sp := fun vs H Q _ => ∃ a, vs = [.ref a] ∧ H a = some (excO (.ref C) a) ∧ ∀ H', Same H H' → Q (.bl true) H'
theorem sc_law_alone : FnScope ["_law_e", "_law_found"] ["_law_e"] (defScope s_law_alone) := ⟨rfl, rfl, rfl, by decide +kernel, rfl, by decide +kernel, by decide +kernel⟩
theorem ok_law_alone {C_NoNumber C_NoText C_NoWay C_PinThere C_SpotTaken C_NoPin C_PinBusy C_BarThere C_NoBar C_NoLength C_TooMany C_NoGrip C_NoBound C_NoLine C_NoLoad : Addr} (D : Def K mg "_law_alone" s_law_alone ["_law_e"]) (m_isinstance : mg "isinstance" = none) (ek : TyExc.ExcK K C_NoText) (m_NoNumber : mg "NoNumber" = some (.ref C_NoNumber)) (m_NoText : mg "NoText" = some (.ref C_NoText)) (m_NoWay : mg "NoWay" = some (.ref C_NoWay)) (m_PinThere : mg "PinThere" = some (.ref C_PinThere)) (m_SpotTaken : mg "SpotTaken" = some (.ref C_SpotTaken)) (m_NoPin : mg "NoPin" = some (.ref C_NoPin)) (m_PinBusy : mg "PinBusy" = some (.ref C_PinBusy)) (m_BarThere : mg "BarThere" = some (.ref C_BarThere)) (m_NoBar : mg "NoBar" = some (.ref C_NoBar)) (m_NoLength : mg "NoLength" = some (.ref C_NoLength)) (m_TooMany : mg "TooMany" = some (.ref C_TooMany)) (m_NoGrip : mg "NoGrip" = some (.ref C_NoGrip)) (m_NoBound : mg "NoBound" = some (.ref C_NoBound)) (m_NoLine : mg "NoLine" = some (.ref C_NoLine)) (m_NoLoad : mg "NoLoad" = some (.ref C_NoLoad)) (k_NoNumber : PySem.W.kitOne K (.ref C_NoText) (.ref C_NoNumber) = some false) (k_NoText : PySem.W.kitOne K (.ref C_NoText) (.ref C_NoText) = some true) (k_NoWay : PySem.W.kitOne K (.ref C_NoText) (.ref C_NoWay) = some false) (k_PinThere : PySem.W.kitOne K (.ref C_NoText) (.ref C_PinThere) = some false) (k_SpotTaken : PySem.W.kitOne K (.ref C_NoText) (.ref C_SpotTaken) = some false) (k_NoPin : PySem.W.kitOne K (.ref C_NoText) (.ref C_NoPin) = some false) (k_PinBusy : PySem.W.kitOne K (.ref C_NoText) (.ref C_PinBusy) = some false) (k_BarThere : PySem.W.kitOne K (.ref C_NoText) (.ref C_BarThere) = some false) (k_NoBar : PySem.W.kitOne K (.ref C_NoText) (.ref C_NoBar) = some false) (k_NoLength : PySem.W.kitOne K (.ref C_NoText) (.ref C_NoLength) = some false) (k_TooMany : PySem.W.kitOne K (.ref C_NoText) (.ref C_TooMany) = some false) (k_NoGrip : PySem.W.kitOne K (.ref C_NoText) (.ref C_NoGrip) = some false) (k_NoBound : PySem.W.kitOne K (.ref C_NoText) (.ref C_NoBound) = some false) (k_NoLine : PySem.W.kitOne K (.ref C_NoText) (.ref C_NoLine) = some false) (k_NoLoad : PySem.W.kitOne K (.ref C_NoText) (.ref C_NoLoad) = some false) : FnH P w K mg base 1 "_law_alone" ["_law_e"] (spAlone C_NoText) := by
  refine D.okH sc_law_alone (fun vs H Q E h => ?_) (fun f cdv A outer s H vs Q hr h => ?_)
  · obtain ⟨a, rfl, _⟩ := h
    rfl
  obtain ⟨a, rfl, ha, q⟩ := h
  refine ⟨_, (pss_cons (ps_set (i := 1) sc_law_alone.nd rfl (Or.inl rfl) (pe_lst (pac (pe_callB (call_isiX (K := K) rfl) rfl m_isinstance b_isinstance (pac (pv 0) (pac (pe_cls rfl m_NoNumber) pa_nil))) (pac (pe_callB (call_isiX (K := K) rfl) rfl m_isinstance b_isinstance (pac (pv 0) (pac (pe_cls rfl m_NoText) pa_nil))) (pac (pe_callB (call_isiX (K := K) rfl) rfl m_isinstance b_isinstance (pac (pv 0) (pac (pe_cls rfl m_NoWay) pa_nil))) (pac (pe_callB (call_isiX (K := K) rfl) rfl m_isinstance b_isinstance (pac (pv 0) (pac (pe_cls rfl m_PinThere) pa_nil))) pa_nil))))))
    (pss_cons (ps_set (i := 1) sc_law_alone.nd rfl (Or.inl rfl) (pe_op op_cat (pv 1) (pe_lst (pac (pe_callB (call_isiX (K := K) rfl) rfl m_isinstance b_isinstance (pac (pv 0) (pac (pe_cls rfl m_SpotTaken) pa_nil))) (pac (pe_callB (call_isiX (K := K) rfl) rfl m_isinstance b_isinstance (pac (pv 0) (pac (pe_cls rfl m_NoPin) pa_nil))) (pac (pe_callB (call_isiX (K := K) rfl) rfl m_isinstance b_isinstance (pac (pv 0) (pac (pe_cls rfl m_PinBusy) pa_nil))) pa_nil))))))
    (pss_cons (ps_set (i := 1) sc_law_alone.nd rfl (Or.inl rfl) (pe_op op_cat (pv 1) (pe_lst (pac (pe_callB (call_isiX (K := K) rfl) rfl m_isinstance b_isinstance (pac (pv 0) (pac (pe_cls rfl m_BarThere) pa_nil))) (pac (pe_callB (call_isiX (K := K) rfl) rfl m_isinstance b_isinstance (pac (pv 0) (pac (pe_cls rfl m_NoBar) pa_nil))) (pac (pe_callB (call_isiX (K := K) rfl) rfl m_isinstance b_isinstance (pac (pv 0) (pac (pe_cls rfl m_NoLength) pa_nil))) (pac (pe_callB (call_isiX (K := K) rfl) rfl m_isinstance b_isinstance (pac (pv 0) (pac (pe_cls rfl m_TooMany) pa_nil))) pa_nil)))))))
    (pss_cons (ps_set (i := 1) sc_law_alone.nd rfl (Or.inl rfl) (pe_op op_cat (pv 1) (pe_lst (pac (pe_callB (call_isiX (K := K) rfl) rfl m_isinstance b_isinstance (pac (pv 0) (pac (pe_cls rfl m_NoGrip) pa_nil))) (pac (pe_callB (call_isiX (K := K) rfl) rfl m_isinstance b_isinstance (pac (pv 0) (pac (pe_cls rfl m_NoBound) pa_nil))) (pac (pe_callB (call_isiX (K := K) rfl) rfl m_isinstance b_isinstance (pac (pv 0) (pac (pe_cls rfl m_NoLine) pa_nil))) (pac (pe_callB (call_isiX (K := K) rfl) rfl m_isinstance b_isinstance (pac (pv 0) (pac (pe_cls rfl m_NoLoad) pa_nil))) pa_nil)))))))
    (pss_one (ps_ret (pe_cmpR op_eq (pe_bm PySem.F.plainAttrs_list PySem.F.slot_list_count PySem.F.type_list_count mt_count (pv 1) (pac pe_bl pa_nil)) pe_int (nomark _)))))))), ?_⟩
  have sz : ∀ n : Nat, n ≤ 30 → n ≤ sizeLine := fun n h => Nat.le_trans h (by decide)
  refine ⟨_, rfl, a, _, _, false, rfl, rfl, ha, ek, k_NoNumber, _, rfl, a, _, _, true, rfl, rfl, ha, ek, k_NoText, _, rfl, a, _, _, false, rfl, rfl, ha, ek, k_NoWay, _, rfl, a, _, _, false, rfl, rfl, ha, ek, k_PinThere, sz 4 (by decide), fun l1 n1 => ?_⟩
  have s1 := same_new n1 (.lst [.bl false, .bl true, .bl false, .bl false])
  have ha2 := s1 _ _ ha
  refine ⟨_, rfl, _, rfl, a, _, _, false, rfl, rfl, ha2, ek, k_SpotTaken, _, rfl, a, _, _, false, rfl, rfl, ha2, ek, k_NoPin, _, rfl, a, _, _, false, rfl, rfl, ha2, ek, k_PinBusy, sz 3 (by decide), fun r2 nr2 => ?_⟩
  have t2 := same_new nr2 (.lst [.bl false, .bl false, .bl false])
  refine ⟨l1, r2, _, _, rfl, rfl, t2 _ _ upd_same, upd_same, sz 7 (by decide), fun l2 n2 => ?_⟩
  have s2 := (s1.trans t2).trans (same_new n2 (.lst ([.bl false, .bl true, .bl false, .bl false] ++ [.bl false, .bl false, .bl false])))
  have ha3 := s2 _ _ ha
  refine ⟨_, rfl, _, rfl, a, _, _, false, rfl, rfl, ha3, ek, k_BarThere, _, rfl, a, _, _, false, rfl, rfl, ha3, ek, k_NoBar, _, rfl, a, _, _, false, rfl, rfl, ha3, ek, k_NoLength, _, rfl, a, _, _, false, rfl, rfl, ha3, ek, k_TooMany, sz 4 (by decide), fun r3 nr3 => ?_⟩
  have t3 := same_new nr3 (.lst [.bl false, .bl false, .bl false, .bl false])
  refine ⟨l2, r3, _, _, rfl, rfl, t3 _ _ upd_same, upd_same, sz 11 (by decide), fun l3 n3 => ?_⟩
  have s3 := (s2.trans t3).trans (same_new n3 (.lst (([.bl false, .bl true, .bl false, .bl false] ++ [.bl false, .bl false, .bl false]) ++ [.bl false, .bl false, .bl false, .bl false])))
  have ha4 := s3 _ _ ha
  refine ⟨_, rfl, _, rfl, a, _, _, false, rfl, rfl, ha4, ek, k_NoGrip, _, rfl, a, _, _, false, rfl, rfl, ha4, ek, k_NoBound, _, rfl, a, _, _, false, rfl, rfl, ha4, ek, k_NoLine, _, rfl, a, _, _, false, rfl, rfl, ha4, ek, k_NoLoad, sz 4 (by decide), fun r4 nr4 => ?_⟩
  have t4 := same_new nr4 (.lst [.bl false, .bl false, .bl false, .bl false])
  refine ⟨l3, r4, _, _, rfl, rfl, t4 _ _ upd_same, upd_same, sz 15 (by decide), fun l4 n4 => ?_⟩
  have s4 := (s3.trans t4).trans (same_new n4 (.lst ((([.bl false, .bl true, .bl false, .bl false] ++ [.bl false, .bl false, .bl false]) ++ [.bl false, .bl false, .bl false, .bl false]) ++ [.bl false, .bl false, .bl false, .bl false])))
  refine ⟨_, rfl, .inl ⟨rfl, _, SqL.of upd_same⟩, l4, _, _, rfl, rfl, SqL.of upd_same, rfl, rfl, rfl, ?_⟩
  exact q _ s4
structure Refs (K : PySem.W.Frag) (C CY : Addr) : Prop where
  ek : TyExc.ExcK K C
  e1 : PySem.W.exmOne K (.ref C) (.ref C) = some true
  e2 : PySem.W.exmOne K (.ref C) (.ref CY) = some true
  k2 : PySem.W.kitOne K (.ref C) (.type "ValueError") = some true
inductive Ref (H : Hp) : V → Prop where
  | txt {x : Str} (h : Txk x) (n : ∀ q, Good q → x ≠ nt q) : Ref H (.str x)
  | no {u : V} (h : NoStr H u) : Ref H u
theorem Ref.same {H H' : Hp} {u : V} (h : Ref H u) (s : Same H H') : Ref H' u := by
  cases h with
  | txt h n => exact .txt h n
  | no h => exact .no (h.same s)
theorem Ref.sp {H : Hp} {u : V} {C : Addr} {Q : VK} {E : XK} (h : Ref H u) (e : ∀ H', Same H H' → E (.ref C) none H') : spRR C [u] H Q E := by
  cases h with
  | txt h n => exact .inl ⟨_, rfl, h, fun q g z => absurd z (n q g), fun _ => e⟩
  | no h => exact .inr ⟨_, rfl, h, e H (Same.refl H)⟩
def spRefused : Sp := fun vs H Q _ => ∃ u : V, vs = [u] ∧ Ref H u ∧ ∀ H', Same H H' → Q (.bl true) H'
theorem sc_law_refused : FnScope ["_law_thing", "_law_own", "_law_e", "_law_base"] ["_law_thing"] (defScope s_law_refused) := ⟨rfl, rfl, rfl, by decide +kernel, rfl, by decide +kernel, by decide +kernel⟩
theorem ok_law_refused {C CY : Addr} (D : Def K mg "_law_refused" s_law_refused ["_law_thing"]) (R : Refs K C CY) (m_NoText : mg "NoText" = some (.ref C)) (m_YardError : mg "YardError" = some (.ref CY)) (m_isinstance : mg "isinstance" = none) (m_ValueError : mg "ValueError" = none)
    (G_read_ratio : Fn P w K mg base (CXr P w) 4 "read_ratio" ["text"] (spRR C)) (G_law_alone : FnH P w K mg base 1 "_law_alone" ["_law_e"] (spAlone C)) : Fn P w K mg base (CXr P w) 5 "_law_refused" ["_law_thing"] spRefused := by
  refine D.ok sc_law_refused (fun vs H Q E h => ?_) (fun f cdv A outer s H vs Q E hr h => ?_)
  · obtain ⟨u, rfl, _⟩ := h
    rfl
  obtain ⟨u, rfl, hu, q⟩ := h
  refine ⟨_, (pss_cons (ps_set (i := 1) sc_law_refused.nd rfl (Or.inl rfl) pe_bl)
    (pss_cons (ps_try ⟨rfl, rfl⟩ (psx_expr (px_fn G_read_ratio (hr.mono (by decide)) (pac (pv 0) pa_nil))) (ph_as (i := 2) (ClsN.own m_NoText) sc_law_refused.nd rfl rfl (fun a => (pss_one (ps_set (i := 1) sc_law_refused.nd rfl (Or.inl rfl) (pe_fnH G_law_alone (RoomH.mark (hr.mono (by decide)) _) (pac (pv 2) pa_nil))))) ph_nil))
    (pss_cons (ps_set (i := 3) sc_law_refused.nd rfl (Or.inl rfl) pe_bl)
    (pss_cons (ps_try ⟨rfl, rfl⟩ (psx_expr (px_fn G_read_ratio (hr.mono (by decide)) (pac (pv 0) pa_nil))) (ph_as (i := 2) (ClsN.own m_YardError) sc_law_refused.nd rfl rfl (fun a => (pss_one (ps_set (i := 3) sc_law_refused.nd rfl (Or.inl rfl) (pe_callB (call_isiX (K := K) rfl) rfl m_isinstance b_isinstance (pac (pv 2) (pac (pe_ty rfl m_ValueError b_ValueError) pa_nil)))))) ph_nil))
    (pss_one (ps_ret (pe_and (pv 1) (pe_one (pv 3))))))))), ?_⟩
  refine ⟨_, rfl, ?_⟩
  unfold tNil
  refine hu.sp fun H1 s1 => ?_
  refine ⟨true, R.e1, iteT fun a ha => ?_⟩
  have s1' := s1.trans (same_new ha (excO (.ref C) a))
  refine ⟨_, rfl, a, rfl, upd_same, fun H2 s2 => ?_⟩
  have s12 := s1'.trans s2
  refine ⟨_, rfl, ?_⟩
  dsimp only
  refine (hu.same s12).sp fun H3 s3 => ?_
  refine ⟨true, R.e2, iteT fun b hb => ?_⟩
  refine ⟨_, rfl, b, C, _, true, rfl, rfl, upd_same, R.ek, R.k2, ?_⟩
  refine ⟨_, rfl, true, rfl, iteT ?_⟩
  exact ⟨_, rfl, q _ ((s12.trans s3).trans (same_new hb _))⟩
structure TxN (x : Str) : Prop where
  one : 1 ≤ x.length
  most : x.length ≤ 130
  cod : ∀ c ∈ x.cps.toList, c < 1000
theorem TxN.txk {x : Str} (h : TxN x) : Txk x := ⟨Nat.le_trans h.most (by decide), h.cod⟩
theorem tx_cod (n : Int) : ∀ c ∈ (tx n).cps.toList, c < 1000 := fun c hc => by
  have d := tx_figs n
  rw [tx_cps] at hc
  split at hc
  · rcases List.mem_cons.mp hc with z | z
    · omega
    · have := d c z; omega
  · have := d c hc; omega
theorem tx_one (n : Int) : 1 ≤ (tx n).length := by
  rw [len_cps, tx_cps]
  have := dg_ne n.natAbs
  cases e : dg n.natAbs with
  | nil => exact absurd e this
  | cons d r => split <;> simp
def spNumText (K : PySem.W.Frag) : Sp := fun vs H Q _ => ∃ (a : Addr) (ns : List Int) (k : Int), vs = [.ref a, .int k] ∧ SqL K H a (ns.map V.int) ∧ (∀ i ∈ ns, intBits i ≤ 1048576) ∧ 1 ≤ k ∧ k ≤ 9 ∧ ∀ x, TxN x → Q (.str x) H
theorem sc_law_number_text : FnScope ["_law_script", "_law_share", "_law_top", "_law_bottom", "_law_part"] ["_law_script", "_law_share"] (defScope s_law_number_text) := ⟨rfl, rfl, rfl, by decide +kernel, rfl, by decide +kernel, by decide +kernel⟩
theorem ok_law_number_text (D : Def K mg "_law_number_text" s_law_number_text ["_law_script", "_law_share"]) (m_str : mg "str" = none) (G_law_cell_at : Fn P w K mg base (CXr P w) 1 "_law_cell_at" ["_law_script", "_law_k"] (spCell K)) (G_law_shared : Fn P w K mg base (CXr P w) 1 "_law_shared" ["_law_one", "_law_other"] spGcd) :
    Fn P w K mg base (CXr P w) 2 "_law_number_text" ["_law_script", "_law_share"] (spNumText K) := by
  refine D.ok sc_law_number_text (fun vs H Q E h => ?_) (fun f cdv A outer s H vs Q E hr h => ?_)
  · obtain ⟨a, ns, k, rfl, _⟩ := h
    rfl
  obtain ⟨a, ns, k, rfl, hS, hb, k1, k9, q⟩ := h
  have px := passM (X := (cxOf (CXr P w) P w K mg base ["_law_script", "_law_share", "_law_top", "_law_bottom", "_law_part"] "_law_number_text" (defScope s_law_number_text) f cdv A outer s H E)) (CXr.mute (P := P) (w := w))
  have cm : ∀ {i j : Int}, intBits i ≤ 1048576 → intBits j ≤ 1000 → CMulB i j := fun a b => ⟨Nat.le_trans a (by decide), Nat.le_trans b (by decide)⟩
  have f60 : (10 : Nat) ^ 60 = 1000000000000000000000000000000000000000000000000000000000000 := by decide +kernel
  have f61 : (10 : Nat) ^ 61 = 10000000000000000000000000000000000000000000000000000000000000 := by decide +kernel
  have fi : (10 : Int) ^ (60 : Int).toNat = 1000000000000000000000000000000000000000000000000000000000000 := by decide +kernel
  have bk : intBits k ≤ 1000 := Nat.le_trans (intBits_le_64 (by omega) (by omega)) (by decide)
  have tail4 : ∃ t, PSs (cxOf (CXr P w) P w K mg base ["_law_script", "_law_share", "_law_top", "_law_bottom", "_law_part"] "_law_number_text" (defScope s_law_number_text) f cdv A outer s H E).nox ((defBody s_law_number_text).drop 4) t ∧ ∀ (t0 b0 : Int), t0.natAbs < 10 ^ 60 → 0 < b0 → b0.natAbs < 10 ^ 60 → t { nx := fun _ H' => Q .non H', rt := Q } [some (.ref a), some (.int k), some (.int t0), some (.int b0), none] H := by
    refine ⟨_, (pss_cons (ps_set (i := 4) sc_law_number_text.nd rfl (Or.inl rfl) (pe_fn G_law_shared (hr.mono (by decide)) px (pac (pv 2) (pac (pv 3) pa_nil)))) (pss_cons (ps_set (i := 2) sc_law_number_text.nd rfl (Or.inl rfl) (pe_op op_mulB (pe_op op_fdivB (pv 2) (pv 4)) (pv 1))) (pss_cons (ps_set (i := 3) sc_law_number_text.nd rfl (Or.inl rfl) (pe_op op_mulB (pe_op op_fdivB (pv 3) (pv 4)) (pv 1))) (pss_cons (ps_if (pt_cmpR op_eq (pv 3) pe_int (nomark _)) (pss_one (ps_ret (pe_callTy call_str_int rfl m_str b_str (pac (pv 2) pa_nil)))) pss_nil) (pss_one (ps_ret (pe_op op_add_str (pe_op op_add_str (pe_callTy call_str_int rfl m_str b_str (pac (pv 2) pa_nil)) pe_str) (pe_callTy call_str_int rfl m_str b_str (pac (pv 3) pa_nil))))))))), ?_⟩
    intro t0 b0 h1 h2 h3
    have hb0 : b0 ≠ 0 := by omega
    have es : sg t0 b0 = gz t0 b0 := by unfold sg; rw [if_neg (by omega)]
    have l1 := low_top_le (t := t0) hb0
    have l2 := low_bot_le (t := t0) hb0
    have l3 := low_pos (t := t0) hb0
    unfold low at l1 l2 l3
    rw [es] at l1 l2 l3
    dsimp only at l1 l2 l3
    have gp := gz_pos (t := t0) hb0
    have gb : intBits (gz t0 b0) ≤ 9000 := Nat.le_trans (small_bits (Nat.lt_of_le_of_lt (gz_le hb0) h3)) (by decide)
    refine ⟨_, rfl, _, rfl, _, _, rfl, Int.le_of_lt h2, ?_⟩
    have gn : gz t0 b0 ≠ 0 := by omega
    generalize gz t0 b0 = g at l1 l2 l3 gp gb gn ⊢
    refine ⟨_, rfl, _, rfl, _, _, rfl, rfl, ⟨gn, gb⟩, _, rfl, _, _, rfl, rfl, ?_, ?_⟩
    · exact ⟨Nat.le_trans (small_bits (Nat.lt_of_le_of_lt l1 h1)) (by decide), Nat.le_trans bk (by decide)⟩
    refine ⟨_, rfl, _, rfl, _, _, rfl, rfl, ⟨gn, gb⟩, _, rfl, _, _, rfl, rfl, ?_, ?_⟩
    · exact ⟨Nat.le_trans (small_bits (Nat.lt_of_le_of_lt l2 h3)) (by decide), Nat.le_trans bk (by decide)⟩
    have kk : k.natAbs ≤ 9 := by omega
    have a1 : (t0.fdiv g * k).natAbs < 10 ^ 61 := by
      rw [Int.natAbs_mul]
      have := Nat.mul_le_mul (Nat.le_of_lt (Nat.lt_of_le_of_lt l1 h1)) kk
      rw [f60] at this
      rw [f61]
      omega
    have a2 : (b0.fdiv g * k).natAbs < 10 ^ 61 := by
      rw [Int.natAbs_mul]
      have := Nat.mul_le_mul (Nat.le_of_lt (Nat.lt_of_le_of_lt l2 h3)) kk
      rw [f60] at this
      rw [f61]
      omega
    have lg : ∀ {n : Int}, n.natAbs < 10 ^ 61 → n.natAbs.log2 < 1920 := fun {n} h => by
      by_cases z : n.natAbs = 0
      · rw [z]; decide
      · exact (Nat.log2_lt z).mpr (Nat.lt_of_lt_of_le h (by decide +kernel))
    have t1l := tx_len (k := 61) (by decide) a1
    have t2l := tx_len (k := 61) (by decide) a2
    refine ⟨_, rfl, rfl, _, rfl, ?_⟩
    refine ite2 (fun _ => ?_) (fun _ => ?_)
    · exact ⟨_, rfl, _, rfl, lg a1, q (tx (t0.fdiv g * k)) ⟨tx_one _, by omega, tx_cod _⟩⟩
    · have ls : slash.length = 1 := by decide +kernel
      have la : (tx (t0.fdiv g * k) ++ slash).length = (tx (t0.fdiv g * k)).length + 1 := by rw [strLen_append, ls]
      have lc : (tx (t0.fdiv g * k) ++ slash ++ tx (b0.fdiv g * k)).length = (tx (t0.fdiv g * k)).length + 1 + (tx (b0.fdiv g * k)).length := by rw [strLen_append, la]
      refine ⟨_, rfl, _, rfl, lg a1, tx (t0.fdiv g * k), slash, rfl, rfl, ?_, ?_⟩
      · rw [ls]
        exact Nat.le_trans (show (tx (t0.fdiv g * k)).length + 1 ≤ 70 by omega) (by decide)
      · refine ⟨_, rfl, _, rfl, lg a2, tx (t0.fdiv g * k) ++ slash, tx (b0.fdiv g * k), rfl, rfl, ?_, q _ ⟨by rw [lc]; omega, by rw [lc]; omega, ?_⟩⟩
        · rw [la]
          exact Nat.le_trans (show (tx (t0.fdiv g * k)).length + 1 + (tx (b0.fdiv g * k)).length ≤ 200 by omega) (by decide)
        · intro c hc
          rw [cps_append, cps_append, slash_cps] at hc
          rcases List.mem_append.mp hc with z | z
          · rcases List.mem_append.mp z with y | y
            · exact tx_cod _ c y
            · have := List.mem_singleton.mp y
              omega
          · exact tx_cod _ c z
  obtain ⟨t4, p4, q4⟩ := tail4
  refine ⟨_, (pss_cons (ps_set (i := 2) sc_law_number_text.nd rfl (Or.inl rfl) (pe_op op_sub (pe_op op_modB (pe_op op_mulB (pe_fn G_law_cell_at (hr.mono (by decide)) px (pac (pv 0) (pac pe_int pa_nil))) (pe_op op_pow pe_int pe_int)) (pe_op op_sub (pe_op op_mulB pe_int (pe_op op_pow pe_int pe_int)) pe_int)) (pe_op op_sub (pe_op op_pow pe_int pe_int) pe_int))) (pss_cons (ps_set (i := 3) sc_law_number_text.nd rfl (Or.inl rfl) (pe_op op_add pe_int (pe_op op_modB (pe_op op_mulB (pe_fn G_law_cell_at (hr.mono (by decide)) px (pac (pv 0) (pac pe_int pa_nil))) (pe_op op_pow pe_int pe_int)) (pe_op op_sub (pe_op op_pow pe_int pe_int) pe_int)))) (pss_cons (ps_if (pt_cmpR op_eq (pe_op op_modB (pe_fn G_law_cell_at (hr.mono (by decide)) px (pac (pv 0) (pac pe_int pa_nil))) pe_int) pe_int (nomark _)) (pss_one (ps_set (i := 3) sc_law_number_text.nd rfl (Or.inl rfl) (pe_op op_add pe_int (pe_op op_modB (pe_fn G_law_cell_at (hr.mono (by decide)) px (pac (pv 0) (pac pe_int pa_nil))) pe_int)))) pss_nil) (pss_cons (ps_if (pt_cmpR op_eq (pe_op op_modB (pe_op op_fdivB (pe_fn G_law_cell_at (hr.mono (by decide)) px (pac (pv 0) (pac pe_int pa_nil))) pe_int) pe_int) pe_int (nomark _)) (pss_one (ps_set (i := 2) sc_law_number_text.nd rfl (Or.inl rfl) (pe_op op_sub (pe_op op_modB (pe_fn G_law_cell_at (hr.mono (by decide)) px (pac (pv 0) (pac pe_int pa_nil))) pe_int) pe_int))) pss_nil) p4)))), ?_⟩
  refine ⟨_, rfl, a, ns, 1, rfl, hS, hb, (by decide), (by decide), fun c bc => ?_⟩
  refine ⟨_, _, rfl, rfl, ⟨by decide, by decide, by decide⟩, _, _, rfl, rfl, cm bc (by decide +kernel), ?_⟩
  refine ⟨_, _, rfl, rfl, ⟨by decide, by decide, by decide⟩, _, _, rfl, rfl, ⟨by decide +kernel, by decide +kernel⟩, _, _, rfl, rfl, ?_⟩
  refine ⟨_, _, rfl, rfl, nz (by decide +kernel), _, _, rfl, rfl, ⟨by decide, by decide, by decide⟩, _, _, rfl, rfl, _, _, rfl, rfl, ?_⟩
  refine ⟨_, rfl, a, ns, 2, rfl, hS, hb, (by decide), (by decide), fun o bo => ?_⟩
  refine ⟨_, _, rfl, rfl, ⟨by decide, by decide, by decide⟩, _, _, rfl, rfl, cm bo (by decide +kernel), ?_⟩
  refine ⟨_, _, rfl, rfl, ⟨by decide, by decide, by decide⟩, _, _, rfl, rfl, _, _, rfl, rfl, nz (by decide +kernel), _, _, rfl, rfl, ?_⟩
  have e1 := fmod_in (x := c * 48271 ^ (13 : Int).toNat) (m := 2 * 10 ^ (60 : Int).toNat - 1) (by decide +kernel)
  have e2 := fmod_in (x := o * 1299709 ^ (10 : Int).toNat) (m := 10 ^ (60 : Int).toNat - 1) (by decide +kernel)
  generalize (c * 48271 ^ (13 : Int).toNat).fmod (2 * 10 ^ (60 : Int).toNat - 1) = r1 at e1 ⊢
  generalize (o * 1299709 ^ (10 : Int).toNat).fmod (10 ^ (60 : Int).toNat - 1) = r2 at e2 ⊢
  rw [fi] at e1 e2
  have ht : (r1 - (10 ^ (60 : Int).toNat - 1)).natAbs < 10 ^ 60 := by rw [fi, f60]; omega
  have hb1 : 0 < 1 + r2 := by omega
  have hb2 : (1 + r2).natAbs < 10 ^ 60 := by rw [f60]; omega
  refine ⟨_, rfl, a, ns, 3, rfl, hS, hb, (by decide), (by decide), fun c3 b3 => ?_⟩
  refine ⟨_, _, rfl, rfl, nz (by decide), rfl, _, rfl, ?_⟩
  have top3 : ∀ d : Int, (d.fmod 41 - 20).natAbs < 10 ^ 60 := fun d => by
    have := fmod_in (x := d) (m := 41) (by decide)
    rw [f60]; omega
  have bot2 : ∀ d : Int, 0 < 1 + d.fmod 12 ∧ (1 + d.fmod 12).natAbs < 10 ^ 60 := fun d => by
    have := fmod_in (x := d) (m := 12) (by decide)
    rw [f60]; omega
  refine ite2 (fun _ => ?_) (fun _ => ?_)
  · refine ⟨_, rfl, a, ns, 2, rfl, hS, hb, (by decide), (by decide), fun d bd => ?_⟩
    refine ⟨_, _, rfl, rfl, nz (by decide), _, _, rfl, rfl, ?_⟩
    refine ⟨_, rfl, a, ns, 3, rfl, hS, hb, (by decide), (by decide), fun d3 bd3 => ?_⟩
    refine ⟨_, _, rfl, rfl, ⟨by decide, by decide +kernel⟩, _, _, rfl, rfl, nz (by decide), rfl, _, rfl, ?_⟩
    refine ite2 (fun _ => ?_) (fun _ => q4 _ _ ht (bot2 d).1 (bot2 d).2)
    refine ⟨_, rfl, a, ns, 1, rfl, hS, hb, (by decide), (by decide), fun d1 bd1 => ?_⟩
    exact ⟨_, _, rfl, rfl, nz (by decide), _, _, rfl, rfl, q4 _ _ (top3 d1) (bot2 d).1 (bot2 d).2⟩
  · refine ⟨_, rfl, a, ns, 3, rfl, hS, hb, (by decide), (by decide), fun d3 bd3 => ?_⟩
    refine ⟨_, _, rfl, rfl, ⟨by decide, by decide +kernel⟩, _, _, rfl, rfl, nz (by decide), rfl, _, rfl, ?_⟩
    refine ite2 (fun _ => ?_) (fun _ => q4 _ _ ht hb1 hb2)
    refine ⟨_, rfl, a, ns, 1, rfl, hS, hb, (by decide), (by decide), fun d1 bd1 => ?_⟩
    exact ⟨_, _, rfl, rfl, nz (by decide), _, _, rfl, rfl, q4 _ _ (top3 d1) hb1 hb2⟩
theorem at_sign {l : List Nat} {n : Nat} {lo : Nat} (hl : l.length = n) (ha : l.all (fun d => decide (lo ≤ d) && decide (d < 58)) = true) {c : Int} (h0 : 0 ≤ c) (h1 : c < n) : ∃ d, lo ≤ d ∧ d < 58 ∧ atI l c = some d := by
  obtain ⟨m, rfl⟩ := Int.eq_ofNat_of_zero_le h0
  have hm : m < l.length := by omega
  have := List.all_eq_true.mp ha l[m] (List.getElem_mem hm)
  rw [Bool.and_eq_true] at this
  exact ⟨l[m], of_decide_eq_true this.1, of_decide_eq_true this.2, atI_nat (List.getElem?_eq_getElem hm)⟩
theorem fig_run {d e m : Nat} (hd : d < 58) (he : e < 58) (h48 : 48 ≤ e) (hm : m < 62) : MulOk (⟨#[e]⟩ : Str) (m : Int) ∧ (⟨#[d]⟩ : Str).length + (Txt.mul (⟨#[e]⟩ : Str) (m : Int)).length ≤ sizeLine ∧ ((⟨#[d]⟩ : Str) ++ Txt.mul (⟨#[e]⟩ : Str) (m : Int)).length ≤ 63 ∧ ∀ c ∈ ((⟨#[d]⟩ : Str) ++ Txt.mul (⟨#[e]⟩ : Str) (m : Int)).cps.toList, c < 1000 := by
  obtain ⟨a, b, c⟩ := mul_sign he h48 hm
  refine ⟨a, ?_, ?_, fun x hx => ?_⟩
  · rw [Ty.one_sign]
    exact Nat.le_trans (show 1 + (Txt.mul (⟨#[e]⟩ : Str) (m : Int)).length ≤ 63 by omega) (by decide)
  · rw [strLen_append, Ty.one_sign]
    omega
  · rw [cps_append] at hx
    rcases List.mem_append.mp hx with z | z
    · have := List.mem_singleton.mp (show x ∈ [d] from z)
      omega
    · exact c x z
def spLong : Sp := fun vs H Q _ => ∃ c o : Int, vs = [.int c, .int o] ∧ ∀ x, Txk x → Q (.str x) H
theorem sc_law_long_text : FnScope ["_law_cell", "_law_other", "_law_one", "_law_two"] ["_law_cell", "_law_other"] (defScope s_law_long_text) := ⟨rfl, rfl, rfl, by decide +kernel, rfl, by decide +kernel, by decide +kernel⟩
theorem ok_law_long_text (D : Def K mg "_law_long_text" s_law_long_text ["_law_cell", "_law_other"]) : Fn P w K mg base CX 1 "_law_long_text" ["_law_cell", "_law_other"] spLong := by
  refine D.ok sc_law_long_text (fun vs H Q E h => ?_) (fun f cdv A outer s H vs Q E hr h => ?_)
  · obtain ⟨c, o, rfl, _⟩ := h
    rfl
  obtain ⟨c, o, rfl, q⟩ := h
  refine ⟨_, (pss_cons (ps_set (i := 2) sc_law_long_text.nd rfl (Or.inl rfl) (pe_op op_add_str (pe_ix ix_str pe_str (pe_op op_modB (pv 0) pe_int) (fun _ _ => rfl)) (pe_op op_mulS (pe_ix ix_str pe_str (pe_op op_modB (pe_op op_fdivB (pv 0) pe_int) pe_int) (fun _ _ => rfl)) (pe_op op_modB (pe_op op_fdivB (pv 0) pe_int) pe_int))))
    (pss_cons (ps_set (i := 3) sc_law_long_text.nd rfl (Or.inl rfl) (pe_op op_add_str (pe_ix ix_str pe_str (pe_op op_modB (pv 1) pe_int) (fun _ _ => rfl)) (pe_op op_mulS (pe_ix ix_str pe_str (pe_op op_modB (pe_op op_fdivB (pv 1) pe_int) pe_int) (fun _ _ => rfl)) (pe_op op_modB (pe_op op_fdivB (pv 1) pe_int) pe_int))))
    (pss_cons (ps_if (pt_cmpR op_eq (pe_op op_modB (pe_op op_fdivB (pv 0) pe_int) pe_int) pe_int (nomark _)) (pss_one (ps_ret (pv 2))) pss_nil)
    (pss_cons (ps_if (pt_cmpR op_eq (pe_op op_modB (pe_op op_fdivB (pv 0) pe_int) pe_int) pe_int (nomark _)) (pss_one (ps_ret (pe_op op_add_str (pe_op op_add_str (pv 2) pe_str) (pv 3)))) pss_nil)
    (pss_one (ps_ret (pe_op op_add_str pe_str (pv 3)))))))), ?_⟩
  have z9 : (Str.ofString "123456789").length ≤ sizeLine := by decide +kernel
  have z10 : (Str.ofString "0123456789").length ≤ sizeLine := by decide +kernel
  have s9 : ∀ c : Int, ∃ d, 48 ≤ d ∧ d < 58 ∧ atI (Str.ofString "123456789").cps.toList (c.fmod 9) = some d := fun c => by
    have m := fmod_in (x := c) (m := 9) (by decide)
    exact at_sign (n := 9) (by decide +kernel) (by decide +kernel) m.1 m.2
  have s10 : ∀ c : Int, ∃ d, 48 ≤ d ∧ d < 58 ∧ atI (Str.ofString "0123456789").cps.toList (c.fmod 10) = some d := fun c => by
    have m := fmod_in (x := c) (m := 10) (by decide)
    exact at_sign (n := 10) (by decide +kernel) (by decide +kernel) m.1 m.2
  have s62 : ∀ c : Int, ∃ m : Nat, m < 62 ∧ c.fmod 62 = (m : Int) := fun c => by
    have m := fmod_in (x := c) (m := 62) (by decide)
    obtain ⟨k, e⟩ := Int.eq_ofNat_of_zero_le m.1
    exact ⟨k, by omega, e⟩
  obtain ⟨d1, _, h1, e1⟩ := s9 c
  obtain ⟨d2, l2, h2, e2⟩ := s10 (c.fdiv 9)
  obtain ⟨m1, k1, e3⟩ := s62 (c.fdiv 90)
  obtain ⟨g1, _, h3, e4⟩ := s9 o
  obtain ⟨g2, l4, h4, e5⟩ := s10 (o.fdiv 9)
  obtain ⟨m2, k2, e6⟩ := s62 (o.fdiv 90)
  obtain ⟨a1, a2, a3, a4⟩ := fig_run h1 h2 l2 k1
  obtain ⟨b1, b2, b3, b4⟩ := fig_run h3 h4 l4 k2
  rw [← e3] at a1 a2 a3 a4
  rw [← e6] at b1 b2 b3 b4
  refine ⟨_, rfl, _, _, rfl, rfl, nz (by decide), _, _, d1, rfl, rfl, z9, e1, ?_⟩
  refine ⟨_, rfl, _, _, rfl, rfl, ⟨by decide, by decide +kernel⟩, _, _, rfl, rfl, nz (by decide), _, _, d2, rfl, rfl, z10, e2, ?_⟩
  refine ⟨_, rfl, _, _, rfl, rfl, ⟨by decide, by decide +kernel⟩, _, _, rfl, rfl, nz (by decide), _, _, rfl, rfl, a1, _, _, rfl, rfl, a2, ?_⟩
  refine ⟨_, rfl, _, _, rfl, rfl, nz (by decide), _, _, g1, rfl, rfl, z9, e4, ?_⟩
  refine ⟨_, rfl, _, _, rfl, rfl, ⟨by decide, by decide +kernel⟩, _, _, rfl, rfl, nz (by decide), _, _, g2, rfl, rfl, z10, e5, ?_⟩
  refine ⟨_, rfl, _, _, rfl, rfl, ⟨by decide, by decide +kernel⟩, _, _, rfl, rfl, nz (by decide), _, _, rfl, rfl, b1, _, _, rfl, rfl, b2, ?_⟩
  have fin : ∀ {x y : Str}, x.length ≤ 64 → y.length ≤ 63 → (∀ c ∈ x.cps.toList, c < 1000) → (∀ c ∈ y.cps.toList, c < 1000) → Txk (x ++ y) := fun hx hy cx cy => ⟨by rw [strLen_append]; omega, fun c hc => by
    rw [cps_append] at hc
    rcases List.mem_append.mp hc with z | z
    · exact cx c z
    · exact cy c z⟩
  have ls : (Str.ofString "/").length = 1 := by decide +kernel
  have lt : (Str.ofString "-1/").length = 3 := by decide +kernel
  have cs : ∀ c ∈ (Str.ofString "/").cps.toList, c < 1000 := by decide +kernel
  have ct : ∀ c ∈ (Str.ofString "-1/").cps.toList, c < 1000 := by decide +kernel
  refine ⟨_, rfl, _, _, rfl, rfl, ⟨by decide, by decide +kernel⟩, _, _, rfl, rfl, nz (by decide), rfl, _, rfl, ?_⟩
  refine ite2 (fun _ => ?_) (fun _ => ?_)
  · exact ⟨_, rfl, q _ ⟨Nat.le_trans a3 (by decide), a4⟩⟩
  refine ⟨_, rfl, _, _, rfl, rfl, ⟨by decide, by decide +kernel⟩, _, _, rfl, rfl, nz (by decide), rfl, _, rfl, ?_⟩
  refine ite2 (fun _ => ?_) (fun _ => ?_)
  · have la : ∀ {x : Str}, x.length ≤ 63 → (x ++ Str.ofString "/").length ≤ 64 := fun h => by rw [strLen_append, ls]; omega
    refine ⟨_, rfl, _, _, rfl, rfl, ?_, _, rfl, _, _, rfl, rfl, ?_, q _ (fin (la a3) b3 ?_ b4)⟩
    · rw [ls]
      exact Nat.le_trans (Nat.succ_le_succ a3) (by decide)
    · exact Nat.le_trans (Nat.add_le_add (la a3) b3) (by decide)
    · exact (fun c hc => by
        rw [cps_append] at hc
        rcases List.mem_append.mp hc with z | z
        · exact a4 c z
        · exact cs c z)
  · refine ⟨_, rfl, _, _, rfl, rfl, ?_, q _ (fin (by rw [lt]; decide) b3 ct b4)⟩
    rw [lt]
    exact Nat.le_trans (Nat.add_le_add_left b3 3) (by decide)
theorem txk_app {x y : Str} (h : x.length + y.length ≤ 400) (cx : ∀ c ∈ x.cps.toList, c < 1000) (cy : ∀ c ∈ y.cps.toList, c < 1000) : Txk (x ++ y) := ⟨by rw [strLen_append]; exact h, fun c hc => by
  rw [cps_append] at hc
  rcases List.mem_append.mp hc with z | z
  · exact cx c z
  · exact cy c z⟩
theorem sum_ones : ∀ (ys : List Str), (∀ y ∈ ys, y.length = 1) → (ys.map (·.length)).sum = ys.length
  | [], _ => rfl
  | y :: r, h => by
    rw [List.map_cons, List.sum_cons, sum_ones r (fun z hz => h z (List.mem_cons_of_mem _ hz)), h y List.mem_cons_self, List.length_cons]
    omega
theorem flat_ones : ∀ (ys : List Str), (∀ y ∈ ys, y.length = 1) → ((ys.map fun y => y.cps.toList).flatten).length = ys.length
  | [], _ => rfl
  | y :: r, h => by
    have h1 : y.cps.toList.length = 1 := h y List.mem_cons_self
    rw [List.map_cons, List.flatten_cons, List.length_append, flat_ones r (fun z hz => h z (List.mem_cons_of_mem _ hz)), h1, List.length_cons]
    omega
def spText (K : PySem.W.Frag) : Sp := fun vs H Q _ => ∃ (a : Addr) (ns : List Int), vs = [.ref a] ∧ SqL K H a (ns.map V.int) ∧ ns.length ≤ 63 ∧ (∀ i ∈ ns, intBits i ≤ 1048576) ∧ ∀ x H', Txk x → Same H H' → Q (.str x) H'
theorem sc_law_text : FnScope ["_law_script", "_law_way", "_law_text_here", "_law_at", "_law_signs"] ["_law_script"] (defScope s_law_text) := ⟨rfl, rfl, rfl, by decide +kernel, rfl, by decide +kernel, by decide +kernel⟩
theorem ok_law_text (D : Def K mg "_law_text" s_law_text ["_law_script"]) (m_len : mg "len" = none) (G_law_cell_at : Fn P w K mg base (CXr P w) 1 "_law_cell_at" ["_law_script", "_law_k"] (spCell K)) (G_law_number_text : Fn P w K mg base (CXr P w) 2 "_law_number_text" ["_law_script", "_law_share"] (spNumText K))
    (G_law_sign_by : Fn P w K mg base (CXr P w) 1 "_law_sign_by" ["_law_cell"] spSign) (G_law_odd_text : Fn P w K mg base (CXr P w) 1 "_law_odd_text" ["_law_cell"] spSome) (G_law_long_text : Fn P w K mg base (CXr P w) 1 "_law_long_text" ["_law_cell", "_law_other"] spLong) :
    Fn P w K mg base (CXr P w) 3 "_law_text" ["_law_script"] (spText K) := by
  refine D.ok sc_law_text (fun vs H Q E h => ?_) (fun f cdv A outer s H vs Q E hr h => ?_)
  · obtain ⟨a, ns, rfl, _⟩ := h
    rfl
  obtain ⟨a, ns, rfl, hS, h63, hb, q⟩ := h
  have px := passM (X := (cxOf (CXr P w) P w K mg base ["_law_script", "_law_way", "_law_text_here", "_law_at", "_law_signs"] "_law_text" (defScope s_law_text) f cdv A outer s H E)) (CXr.mute (P := P) (w := w))
  have sr := Same.refl H
  refine ⟨_, (pss_cons (ps_set (i := 1) sc_law_text.nd rfl (Or.inl rfl) (pe_op op_modB (pe_fn G_law_cell_at (hr.mono (by decide)) px (pac (pv 0) (pac pe_int pa_nil))) pe_int))
    (pss_cons (ps_if (pt_cmpR op_lt (pv 1) pe_int (nomark _)) (pss_one (ps_ret (pe_fn G_law_number_text (hr.mono (by decide)) px (pac (pv 0) (pac pe_int pa_nil))))) pss_nil)
    (pss_cons (ps_if (pt_cmpR op_eq (pv 1) pe_int (nomark _)) (pss_one (ps_ret (pe_fn G_law_number_text (hr.mono (by decide)) px (pac (pv 0) (pac (pe_op op_add pe_int (pe_op op_modB (pe_fn G_law_cell_at (hr.mono (by decide)) px (pac (pv 0) (pac pe_int pa_nil))) pe_int)) pa_nil))))) pss_nil)
    (pss_cons (ps_if (PW.pt (pw_or (pt_cmpR op_eq (pv 1) pe_int (nomark _)) (pw_or1 (pt_cmpR op_eq (pv 1) pe_int (nomark _))))) (pss_cons (ps_set (i := 2) sc_law_text.nd rfl (Or.inl rfl) (pe_fn G_law_number_text (hr.mono (by decide)) px (pac (pv 0) (pac pe_int pa_nil))))
      (pss_cons (ps_set (i := 3) sc_law_text.nd rfl (Or.inl rfl) (pe_op op_modB (pe_fn G_law_cell_at (hr.mono (by decide)) px (pac (pv 0) (pac pe_int pa_nil))) (pe_op op_add (pe_callB call_len_str rfl m_len b_len (pac (pv 2) pa_nil)) pe_int)))
      (pss_one (ps_ret (pe_op op_add_str (pe_op op_add_str (pe_slice sl_str (pv 2) po_none (po_some (pv 3))) (pe_fn G_law_sign_by (hr.mono (by decide)) px (pac (pe_fn G_law_cell_at (hr.mono (by decide)) px (pac (pv 0) (pac pe_int pa_nil))) pa_nil))) (pe_slice sl_str (pv 2) (po_some (pv 3)) po_none)))))) pss_nil)
    (pss_cons (ps_if (pt_cmpR op_eq (pv 1) pe_int (nomark _)) (pss_cons (ps_set (i := 2) sc_law_text.nd rfl (Or.inl rfl) (pe_fn G_law_number_text (hr.mono (by decide)) px (pac (pv 0) (pac pe_int pa_nil))))
      (pss_cons (ps_set (i := 3) sc_law_text.nd rfl (Or.inl rfl) (pe_op op_modB (pe_fn G_law_cell_at (hr.mono (by decide)) px (pac (pv 0) (pac pe_int pa_nil))) (pe_callB call_len_str rfl m_len b_len (pac (pv 2) pa_nil))))
      (pss_one (ps_ret (pe_op op_add_str (pe_slice sl_str (pv 2) po_none (po_some (pv 3))) (pe_slice sl_str (pv 2) (po_some (pe_op op_add (pv 3) pe_int)) po_none)))))) pss_nil)
    (pss_cons (ps_if (pt_cmpR op_eq (pv 1) pe_int (nomark _)) (pss_one (ps_ret (pe_fn G_law_odd_text (hr.mono (by decide)) px (pac (pe_fn G_law_cell_at (hr.mono (by decide)) px (pac (pv 0) (pac pe_int pa_nil))) pa_nil)))) pss_nil)
    (pss_cons (ps_if (pt_cmpR op_eq (pv 1) pe_int (nomark _)) (pss_one (ps_ret (pe_fn G_law_long_text (hr.mono (by decide)) px (pac (pe_fn G_law_cell_at (hr.mono (by decide)) px (pac (pv 0) (pac pe_int pa_nil))) (pac (pe_fn G_law_cell_at (hr.mono (by decide)) px (pac (pv 0) (pac pe_int pa_nil))) pa_nil))))) pss_nil)
    (pss_cons (ps_setC (i := 4) sc_law_text.nd rfl (Or.inl rfl) (tn := ["_law_cell"]) (fr := []) (caps := []) rfl ⟨rfl, by decide +kernel, rfl, by decide +kernel, by decide +kernel, rfl, trivial, trivial⟩ (pi_list (pe_slice sl_list (pv 0) (po_some pe_int) (po_some (pe_op op_add pe_int (pe_op op_modB (pe_fn G_law_cell_at (hr.mono (by decide)) px (pac (pv 0) (pac pe_int pa_nil))) pe_int))))) (fun _ _ _ _ => (pg_name (i := 0) (show (["_law_cell"] : List Str).Nodup from by decide +kernel) rfl (Or.inl rfl))) (fun _ _ _ _ => pf_nil) (fun _ _ _ _ => (pe_ix ix_str pe_str (pe_op op_modB (pv 0) pe_int) (fun _ _ => rfl))))
    (pss_one (ps_ret (pe_bm PySem.F.plainAttrs_str PySem.F.slot_str_join PySem.F.type_str_join mt_join pe_str (pac (pv 4) pa_nil)))))))))))), ?_⟩
  have cut : ∀ {x : Str} {l u : Option Int}, TxN x → (Txt.slice x l u).length ≤ 130 ∧ ∀ c ∈ (Txt.slice x l u).cps.toList, c < 1000 := fun {x l u} h => ⟨Nat.le_trans (Txt.slice_le x l u) h.most, fun c hc => h.cod c (slice_mem hc)⟩
  have szl : ∀ {x : Str}, TxN x → x.length ≤ sizeLine := fun h => Nat.le_trans h.most (by decide)
  refine ⟨_, rfl, a, ns, 0, rfl, hS, hb, (by decide), (by decide), fun c0 _ => ?_⟩
  refine ⟨_, _, rfl, rfl, nz (by decide), ?_⟩
  refine ⟨_, rfl, _, _, rfl, rfl, _, rfl, ?_⟩
  refine ite2 (fun _ => ?_) (fun _ => ?_)
  · exact ⟨_, rfl, a, ns, 1, rfl, hS, hb, (by decide), (by decide), fun x hx => q x H hx.txk sr⟩
  refine ⟨_, rfl, rfl, _, rfl, ?_⟩
  refine ite2 (fun _ => ?_) (fun _ => ?_)
  · refine ⟨_, rfl, _, rfl, a, ns, 4, rfl, hS, hb, (by decide), (by decide), fun c4 _ => ?_⟩
    have m := fmod_in (x := c4) (m := 9) (by decide)
    exact ⟨_, _, rfl, rfl, nz (by decide), _, _, rfl, rfl, a, ns, _, rfl, hS, hb, (by omega), (by omega), fun x hx => q x H hx.txk sr⟩
  have ins : ∀ (x : Str) (d : Nat) (i : Int), TxN x → d < 1000 → (Txt.slice x none (some i)).length + (⟨#[d]⟩ : Str).length ≤ sizeLine ∧ (Txt.slice x none (some i) ++ (⟨#[d]⟩ : Str)).length ≤ 131 ∧ ∀ c ∈ (Txt.slice x none (some i) ++ (⟨#[d]⟩ : Str)).cps.toList, c < 1000 := fun x d i hx hd => by
    obtain ⟨l1, c1⟩ := cut (l := none) (u := some i) hx
    refine ⟨?_, ?_, fun c hc => ?_⟩
    · rw [Ty.one_sign]
      exact Nat.le_trans (Nat.succ_le_succ l1) (by decide)
    · rw [strLen_append, Ty.one_sign]
      omega
    · rw [cps_append] at hc
      rcases List.mem_append.mp hc with z | z
      · exact c1 c z
      · have := List.mem_singleton.mp (show c ∈ [d] from z)
        omega
  refine ⟨_, rfl, rfl, _, rfl, ?_⟩
  refine ite2 (fun _ => ?_) (fun _ => ?_)
  · refine iteT ?_
    refine ⟨_, rfl, a, ns, 1, rfl, hS, hb, (by decide), (by decide), fun x hx => ?_⟩
    refine ⟨_, rfl, a, ns, 4, rfl, hS, hb, (by decide), (by decide), fun c4 _ => ?_⟩
    refine ⟨_, rfl, x, rfl, szl hx, _, _, rfl, rfl, _, _, rfl, rfl, nz (by omega), ?_⟩
    refine ⟨_, rfl, _, rfl, _, rfl, x, rfl, szl hx, ?_⟩
    refine ⟨_, rfl, a, ns, 5, rfl, hS, hb, (by decide), (by decide), fun c5 _ => ⟨c5, rfl, fun d hd => ?_⟩⟩
    obtain ⟨l1, l2, l3⟩ := ins x d (c4.fmod ((x.length : Int) + 1)) hx hd
    obtain ⟨l4, l5⟩ := cut (l := some (c4.fmod ((x.length : Int) + 1))) (u := none) hx
    exact ⟨_, _, rfl, rfl, l1, _, rfl, _, rfl, _, rfl, x, rfl, szl hx, _, _, rfl, rfl, Nat.le_trans (Nat.add_le_add l2 l4) (by decide), q _ H (txk_app (Nat.le_trans (Nat.add_le_add l2 l4) (by decide)) l3 l5) sr⟩
  refine ⟨_, rfl, rfl, _, rfl, ?_⟩
  refine ite2 (fun _ => ?_) (fun _ => ?_)
  · refine ⟨_, rfl, a, ns, 1, rfl, hS, hb, (by decide), (by decide), fun x hx => ?_⟩
    refine ⟨_, rfl, a, ns, 4, rfl, hS, hb, (by decide), (by decide), fun c4 _ => ?_⟩
    refine ⟨_, rfl, x, rfl, szl hx, _, _, rfl, rfl, _, _, rfl, rfl, nz (by omega), ?_⟩
    refine ⟨_, rfl, _, rfl, _, rfl, x, rfl, szl hx, ?_⟩
    refine ⟨_, rfl, a, ns, 5, rfl, hS, hb, (by decide), (by decide), fun c5 _ => ⟨c5, rfl, fun d hd => ?_⟩⟩
    obtain ⟨l1, l2, l3⟩ := ins x d (c4.fmod ((x.length : Int) + 1)) hx hd
    obtain ⟨l4, l5⟩ := cut (l := some (c4.fmod ((x.length : Int) + 1))) (u := none) hx
    exact ⟨_, _, rfl, rfl, l1, _, rfl, _, rfl, _, rfl, x, rfl, szl hx, _, _, rfl, rfl, Nat.le_trans (Nat.add_le_add l2 l4) (by decide), q _ H (txk_app (Nat.le_trans (Nat.add_le_add l2 l4) (by decide)) l3 l5) sr⟩
  refine ⟨_, rfl, rfl, _, rfl, ?_⟩
  refine ite2 (fun _ => ?_) (fun _ => ?_)
  · refine ⟨_, rfl, a, ns, 1, rfl, hS, hb, (by decide), (by decide), fun x hx => ?_⟩
    refine ⟨_, rfl, a, ns, 4, rfl, hS, hb, (by decide), (by decide), fun c4 _ => ?_⟩
    have h1 := hx.one
    refine ⟨_, rfl, x, rfl, szl hx, _, _, rfl, rfl, nz (by omega), ?_⟩
    refine ⟨_, rfl, _, rfl, _, rfl, x, rfl, szl hx, ?_⟩
    obtain ⟨l1, l2⟩ := cut (l := none) (u := some (c4.fmod (x.length : Int))) hx
    obtain ⟨l4, l5⟩ := cut (l := some (c4.fmod (x.length : Int) + 1)) (u := none) hx
    exact ⟨_, rfl, _, rfl, _, _, rfl, rfl, _, rfl, x, rfl, szl hx, _, _, rfl, rfl, Nat.le_trans (Nat.add_le_add l1 l4) (by decide), q _ H (txk_app (Nat.le_trans (Nat.add_le_add l1 l4) (by decide)) l2 l5) sr⟩
  refine ⟨_, rfl, rfl, _, rfl, ?_⟩
  refine ite2 (fun _ => ?_) (fun _ => ?_)
  · exact ⟨_, rfl, a, ns, 1, rfl, hS, hb, (by decide), (by decide), fun c1 _ => ⟨c1, rfl, fun x H' hx s' => q x H' hx s'⟩⟩
  refine ⟨_, rfl, rfl, _, rfl, ?_⟩
  refine ite2 (fun _ => ?_) (fun _ => ?_)
  · exact ⟨_, rfl, a, ns, 1, rfl, hS, hb, (by decide), (by decide), fun c1 _ => ⟨_, rfl, a, ns, 2, rfl, hS, hb, (by decide), (by decide), fun c2 _ => ⟨c1, c2, rfl, fun x hx => q x H hx sr⟩⟩⟩
  refine ⟨_, rfl, 2, rfl, _, rfl, a, ns, 1, rfl, hS, hb, (by decide), (by decide), fun c1 _ => ?_⟩
  refine ⟨_, _, rfl, rfl, nz (by decide), _, _, rfl, rfl, _, rfl, a, _, rfl, hS, fun p np => ?_⟩
  refine ⟨p, rfl, ⟨_, SqL.of upd_same⟩, fun D nD => ?_⟩
  have sub : ∀ x ∈ cutV (ns.map V.int) (some 2) (some (2 + c1.fmod 8)), ∃ i : Int, x = .int i := fun x hx => by
    have m := List.mem_of_mem_drop (List.mem_of_mem_take hx)
    obtain ⟨i, _, e⟩ := List.mem_map.mp m
    exact ⟨i, e.symm⟩
  have len : (cutV (ns.map V.int) (some 2) (some (2 + c1.fmod 8))).length ≤ 63 := by
    unfold cutV
    rw [List.length_take, List.length_drop, List.length_map]
    omega
  have s1 := same_new np (.lst (cutV (ns.map V.int) (some 2) (some (2 + c1.fmod 8))))
  have z12 : (Str.ofString "0123456789-/").length ≤ sizeLine := by decide +kernel
  have s12 : ∀ c : Int, ∃ d, 45 ≤ d ∧ d < 58 ∧ atI (Str.ofString "0123456789-/").cps.toList (c.fmod 12) = some d := fun c => by
    have m := fmod_in (x := c) (m := 12) (by decide)
    exact at_sign (n := 12) (by decide +kernel) (by decide +kernel) m.1 m.2
  refine comp_list (cap := []) (xs := cutV (ns.map V.int) (some 2) (some (2 + c1.fmod 8))) (fun _ v _ => ∃ d : Nat, d < 1000 ∧ v = .str ⟨#[d]⟩) nD (Nat.lt_of_le_of_lt len (by decide)) (fun H' s' => SqL.of (s' _ _ upd_same)) (fun _ _ _ _ _ _ _ h => h) ?_ ?_
  · intro i x H' R hx s' k
    obtain ⟨j, rfl⟩ := sub x (List.mem_of_getElem? hx)
    obtain ⟨d, _, hd, e⟩ := s12 j
    exact ⟨_, rfl, _, _, rfl, rfl, nz (by decide), _, _, d, rfl, rfl, z12, e, k _ _ (Same.refl _) ⟨d, by omega, rfl⟩⟩
  · intro ys H' hl hr' s' hD
    obtain ⟨zs, hz, h1, hc⟩ : ∃ zs : List Str, ys = zs.map V.str ∧ (∀ z ∈ zs, z.length = 1) ∧ ∀ z ∈ zs, ∀ c ∈ z.cps.toList, c < 1000 := by
      clear hl hD
      induction ys with
      | nil => exact ⟨[], rfl, (fun z h => nomatch h), (fun z h => nomatch h)⟩
      | cons y r ih =>
        obtain ⟨d, hd, rfl⟩ := hr' 0 y rfl
        obtain ⟨zs, e, h1, hc⟩ := ih (fun i v e => hr' (i + 1) v e)
        refine ⟨⟨#[d]⟩ :: zs, by rw [e]; rfl, fun z hz => ?_, fun z hz => ?_⟩
        · rcases List.mem_cons.mp hz with w | w
          · rw [w]; rfl
          · exact h1 z w
        · rcases List.mem_cons.mp hz with w | w
          · rw [w]
            intro c hc'
            have := List.mem_singleton.mp (show c ∈ [d] from hc')
            omega
          · exact hc z w
    subst hz
    rw [List.length_map] at hl
    refine ⟨rfl, _, rfl, Str.empty, D, zs, rfl, rfl, SqL.of hD, ?_, q _ _ ⟨?_, ?_⟩ (s1.trans s')⟩
    · rw [sum_ones zs h1, show Str.empty.length = 0 from rfl]
      omega
    · rw [len_cps, join_cps, flat_ones zs h1]
      omega
    · intro c hc'
      rw [join_cps] at hc'
      obtain ⟨l, hl', m⟩ := List.mem_flatten.mp hc'
      obtain ⟨z, hz, rfl⟩ := List.mem_map.mp hl'
      exact hc z hz c m
theorem is_num {K : PySem.W.Frag} {H : Hp} {v : V} {q : Int × Int} (h : Nm H v q) : Is K H (.t [.v (.int q.1), .v (.int q.2)]) v := by
  obtain ⟨p, rfl, e⟩ := h
  unfold Is
  refine ⟨p, _, rfl, SqT.of e, ?_⟩
  unfold Iss
  refine ⟨by unfold Is; exact ⟨rfl, rfl⟩, ?_⟩
  unfold Iss
  refine ⟨by unfold Is; exact ⟨rfl, rfl⟩, ?_⟩
  unfold Iss
  trivial
theorem eq_nums (x y : Int × Int) : eqDas [.v (.int x.1), .v (.int x.2)] [.v (.int y.1), .v (.int y.2)] = decide (x = y) := by
  have e : eqDas [.v (.int x.1), .v (.int x.2)] [.v (.int y.1), .v (.int y.2)] = (x.1 == y.1 && (x.2 == y.2 && true)) := by
    simp only [eqDas, eqDa, eqV]
  rw [e, Bool.and_true]
  obtain ⟨a, b⟩ := x
  obtain ⟨c, d⟩ := y
  by_cases h : a = c <;> by_cases h' : b = d <;> simp [h, h', Prod.mk.injEq]
def spSame : Sp := fun vs H Q _ => ∃ (u v : V) (x : Int × Int), vs = [u, v] ∧ Nm H u x ∧ Nm H v x ∧ Q (.bl true) H
theorem sc_law_same : FnScope ["_law_found", "_law_due", "_law_one"] ["_law_found", "_law_due"] (defScope s_law_same) := ⟨rfl, rfl, rfl, by decide +kernel, rfl, by decide +kernel, by decide +kernel⟩
theorem ok_law_same (D : Def K mg "_law_same" s_law_same ["_law_found", "_law_due"]) (m_len : mg "len" = none) (m_isinstance : mg "isinstance" = none) (m_int : mg "int" = none) (m_bool : mg "bool" = none) (m_tuple : mg "tuple" = none) :
    Fn P w K mg base CX 1 "_law_same" ["_law_found", "_law_due"] spSame := by
  refine D.ok sc_law_same (fun vs H Q E h => ?_) (fun f cdv A outer s H vs Q E hr h => ?_)
  · obtain ⟨u, v, x, rfl, _⟩ := h
    rfl
  obtain ⟨u, v, x, rfl, ⟨p1, rfl, h1⟩, ⟨p2, rfl, h2⟩, q⟩ := h
  refine ⟨_, (pss_cons (ps_if (PW.pt (pw_or (pt_not (pt_val (pe_callB call_isi rfl m_isinstance b_isinstance (pac (pv 0) (pac (pe_ty rfl m_tuple b_tuple) pa_nil))))) (pw_or1 (pt_cmpR op_ne (pe_callB call_len_seq rfl m_len b_len (pac (pv 0) pa_nil)) pe_int (nomark _))))) (pss_one (ps_ret pe_bl)) pss_nil)
    (pss_cons (ps_for PassesOwn.never rfl (pi_tup (pv 0)) (pg_name (i := 2) sc_law_same.nd rfl (Or.inl rfl)) (pss_one (ps_if (PW.pt (pw_or (pt_not (pt_val (pe_callB call_isi rfl m_isinstance b_isinstance (pac (pv 2) (pac (pe_ty rfl m_int b_int) pa_nil))))) (pw_or1 (pt_val (pe_callB call_isi rfl m_isinstance b_isinstance (pac (pv 2) (pac (pe_ty rfl m_bool b_bool) pa_nil))))))) (pss_one (ps_ret pe_bl)) pss_nil)))
    (pss_one (ps_ret (pe_cmpR (op_eqDa hr.units) (pv 0) (pv 1) (nomark _)))))), ?_⟩
  refine ⟨_, rfl, _, _, _, true, rfl, rfl, .tup h1, k_tt, _, rfl, ?_⟩
  refine ite2 (fun c => nomatch c) (fun _ => ?_)
  refine ⟨_, rfl, p1, _, rfl, .inr (SqT.of h1), rfl, _, rfl, ?_⟩
  refine iteNS rfl ?_
  refine ⟨_, rfl, p1, rfl, ⟨_, SqT.of h1⟩, for_tup (K := K) (a := p1) (xs := [.int x.1, .int x.2]) (fun i σ H' => ∃ o, σ = [some (.ref p1), some (.ref p2), o] ∧ H' = H) ⟨none, rfl, rfl⟩ (fun i σ H' _ ⟨o, _, e⟩ => by rw [e]; exact SqT.of h1) ?_ ?_⟩
  · rintro i z σ H' hi ⟨o, rfl, rfl⟩
    obtain ⟨n, rfl⟩ : ∃ n, z = V.int n := by
      match i, hi with
      | 0, hi => exact ⟨_, (Option.some.inj hi).symm⟩
      | 1, hi => exact ⟨_, (Option.some.inj hi).symm⟩
    refine ⟨_, rfl, _, _, _, true, rfl, rfl, .int n, k_ii, _, rfl, ?_⟩
    refine ite2 (fun c => nomatch c) (fun _ => ?_)
    refine ⟨_, rfl, _, _, _, false, rfl, rfl, .int n, k_ib, _, rfl, ?_⟩
    refine ite2 (fun c => nomatch c) (fun _ => ?_)
    exact ⟨_, rfl, rfl⟩
  · rintro σ H' ⟨o, rfl, rfl⟩
    refine ⟨_, rfl, _, rfl, _, _, .inl ⟨is_num ⟨p1, rfl, h1⟩, is_num ⟨p2, rfl, h2⟩⟩, rfl, dep_num, ?_⟩
    rw [eq_nums, decide_eq_true rfl]
    exact q
theorem sc_law : FnScope ["_law_script", "_law_text_here", "_law_due"] ["_law_script"] (defScope s_law) := ⟨rfl, rfl, rfl, by decide +kernel, rfl, by decide +kernel, by decide +kernel⟩
theorem ok_law {f : Addr} {fd : FuncData} {C : Addr} (F : Fun K "law" "law" s_law f fd)
    (G_law_cell_at : Fn P w K mg base (CXr P w) 1 "_law_cell_at" ["_law_script", "_law_k"] (spCell K)) (G_law_no_text : Fn P w K mg base (CXr P w) 1 "_law_no_text" ["_law_cell"] spNoStr)
    (G_law_refused : Fn P w K mg base (CXr P w) 5 "_law_refused" ["_law_thing"] spRefused) (G_law_text : Fn P w K mg base (CXr P w) 3 "_law_text" ["_law_script"] (spText K))
    (G_law_told : Fn P w K mg base (CXr P w) 2 "_law_told" ["_law_text_here"] spTold) (G_law_same : Fn P w K mg base (CXr P w) 1 "_law_same" ["_law_found", "_law_due"] spSame)
    (G_read_ratio : Fn P w K mg base (CXr P w) 4 "read_ratio" ["text"] (spRR C)) :
    FnOk P w K mg base (CXr P w) 10 f fd ["_law_script"] (spLaw K) := by
  refine F.okG sc_law (fun vs H Q E h => ?_) (fun cdv A outer s H vs Q E hr h => ?_)
  · obtain ⟨a, ns, rfl, _⟩ := h
    rfl
  obtain ⟨a, ns, rfl, hS, h63, hb, q⟩ := h
  have px := passM (X := (cxOf (CXr P w) P w K mg base ["_law_script", "_law_text_here", "_law_due"] "law" (defScope s_law) f cdv A outer s H E)) (CXr.mute (P := P) (w := w))
  refine ⟨_, (pss_cons (ps_if (pt_not (pt_val (pe_fn G_law_refused (hr.mono (by decide)) px (pac (pe_fn G_law_no_text (hr.mono (by decide)) px (pac (pe_fn G_law_cell_at (hr.mono (by decide)) px (pac (pv 0) (pac pe_int pa_nil))) pa_nil)) pa_nil)))) (pss_one (ps_ret pe_bl)) pss_nil)
    (pss_cons (ps_set (i := 1) sc_law.nd rfl (Or.inl rfl) (pe_fn G_law_text (hr.mono (by decide)) px (pac (pv 0) pa_nil)))
    (pss_cons (ps_set (i := 2) sc_law.nd rfl (Or.inl rfl) (pe_fn G_law_told (hr.mono (by decide)) px (pac (pv 1) pa_nil)))
    (pss_cons (ps_if (pt_cmpR op_isN (pv 2) pe_non (nomark _)) (pss_one (ps_ret (pe_fn G_law_refused (hr.mono (by decide)) px (pac (pv 1) pa_nil)))) pss_nil)
    (pss_one (ps_ret (pe_and (pe_fn G_law_same (hr.mono (by decide)) px (pac (pe_fn G_read_ratio (hr.mono (by decide)) px (pac (pv 1) pa_nil)) (pac (pv 2) pa_nil))) (pe_one (pe_fn G_law_same (hr.mono (by decide)) px (pac (pe_fn G_read_ratio (hr.mono (by decide)) px (pac (pv 1) pa_nil)) (pac (pv 2) pa_nil))))))))))), ?_⟩
  refine ⟨_, rfl, a, ns, 6, rfl, hS, hb, (by decide), (by decide), fun c _ => ⟨c, rfl, fun u H1 s1 hu => ⟨u, rfl, .no hu, fun H2 s2 => ⟨_, rfl, ?_⟩⟩⟩⟩
  refine ite2 (fun c => nomatch c) (fun _ => ?_)
  have s12 := s1.trans s2
  refine ⟨_, rfl, a, ns, rfl, s12.seq hS, h63, hb, fun x H3 hx s3 => ?_⟩
  refine ⟨_, rfl, x, rfl, hx, fun n g e p4 H4 s4 e4 => ?_, fun no H4 s4 => ?_⟩
  · refine ⟨_, rfl, rfl, _, rfl, ?_⟩
    refine ite2 (fun c => absurd (of_decide_eq_true c) (by intro z; cases z)) (fun _ => ?_)
    refine ⟨_, rfl, .inl ⟨x, rfl, hx, fun n' g' e' p5 H5 s5 e5 => ?_, fun no => absurd e (no n g)⟩⟩
    cases nt_inj g g' (e.symm.trans e')
    refine ⟨_, rfl, _, _, n, rfl, ⟨p5, rfl, e5⟩, ⟨p4, rfl, s5 _ _ e4⟩, true, rfl, iteT ?_⟩
    refine ⟨_, rfl, .inl ⟨x, rfl, hx, fun n' g' e' p6 H6 s6 e6 => ?_, fun no => absurd e (no n g)⟩⟩
    cases nt_inj g g' (e.symm.trans e')
    exact ⟨_, rfl, _, _, n, rfl, ⟨p6, rfl, e6⟩, ⟨p4, rfl, s6 _ _ (s5 _ _ e4)⟩, q _⟩
  · refine ⟨_, rfl, rfl, _, rfl, ?_⟩
    refine ite2 (fun _ => ?_) (fun c => absurd (decide_eq_true rfl) c)
    exact ⟨_, rfl, .str x, rfl, .txt hx no, fun H' _ => q H'⟩
end
theorem all_mk {l : PySem.W.OpenLaw} {w : World} {K : PySem.W.Frag} {h : Heap} {mg : Str → Option Value} {fa : Addr} (X : K.In h) (G : h.Ns mainGlobals mg) (hfa : mg "law" = some (.ref fa))
    {td_ratio_of : Addr} {tc_ratio_of : Value} {tdd_ratio_of : Option Addr} {tk_ratio_of : Tok} {tn_ratio_of : Nat} {tsl_ratio_of : Array (Option Value)} {f_ratio_of : Addr} {od_ratio_of an_ratio_of : Option Addr} {sl_ratio_of : Array (Option Value)} {oc_ratio_of kV_ratio_of dc_ratio_of pm_ratio_of cd_ratio_of ct_ratio_of : Value} {f_is_whole : Addr} {od_is_whole an_is_whole : Option Addr} {sl_is_whole : Array (Option Value)} {oc_is_whole kV_is_whole dc_is_whole pm_is_whole cd_is_whole ct_is_whole : Value} {f_lowest_terms : Addr} {od_lowest_terms an_lowest_terms : Option Addr} {sl_lowest_terms : Array (Option Value)} {oc_lowest_terms kV_lowest_terms dc_lowest_terms pm_lowest_terms cd_lowest_terms ct_lowest_terms : Value} {f_greatest_shared : Addr} {od_greatest_shared an_greatest_shared : Option Addr} {sl_greatest_shared : Array (Option Value)} {oc_greatest_shared kV_greatest_shared dc_greatest_shared pm_greatest_shared cd_greatest_shared ct_greatest_shared : Value} {f_show_ratio : Addr} {od_show_ratio an_show_ratio : Option Addr} {sl_show_ratio : Array (Option Value)} {oc_show_ratio kV_show_ratio dc_show_ratio pm_show_ratio cd_show_ratio ct_show_ratio : Value} {f_read_ratio : Addr} {od_read_ratio an_read_ratio : Option Addr} {sl_read_ratio : Array (Option Value)} {oc_read_ratio kV_read_ratio dc_read_ratio pm_read_ratio cd_read_ratio ct_read_ratio : Value} {f_read_whole : Addr} {od_read_whole an_read_whole : Option Addr} {sl_read_whole : Array (Option Value)} {oc_read_whole kV_read_whole dc_read_whole pm_read_whole cd_read_whole ct_read_whole : Value} {f_law_cell_at : Addr} {od_law_cell_at an_law_cell_at : Option Addr} {sl_law_cell_at : Array (Option Value)} {oc_law_cell_at kV_law_cell_at dc_law_cell_at pm_law_cell_at cd_law_cell_at ct_law_cell_at : Value} {f_law_same : Addr} {od_law_same an_law_same : Option Addr} {sl_law_same : Array (Option Value)} {oc_law_same kV_law_same dc_law_same pm_law_same cd_law_same ct_law_same : Value} {f_law_shared : Addr} {od_law_shared an_law_shared : Option Addr} {sl_law_shared : Array (Option Value)} {oc_law_shared kV_law_shared dc_law_shared pm_law_shared cd_law_shared ct_law_shared : Value} {f_law_whole_told : Addr} {od_law_whole_told an_law_whole_told : Option Addr} {sl_law_whole_told : Array (Option Value)} {oc_law_whole_told kV_law_whole_told dc_law_whole_told pm_law_whole_told cd_law_whole_told ct_law_whole_told : Value} {f_law_told : Addr} {od_law_told an_law_told : Option Addr} {sl_law_told : Array (Option Value)} {oc_law_told kV_law_told dc_law_told pm_law_told cd_law_told ct_law_told : Value} {f_law_sign_by : Addr} {od_law_sign_by an_law_sign_by : Option Addr} {sl_law_sign_by : Array (Option Value)} {oc_law_sign_by kV_law_sign_by dc_law_sign_by pm_law_sign_by cd_law_sign_by ct_law_sign_by : Value} {f_law_number_text : Addr} {od_law_number_text an_law_number_text : Option Addr} {sl_law_number_text : Array (Option Value)} {oc_law_number_text kV_law_number_text dc_law_number_text pm_law_number_text cd_law_number_text ct_law_number_text : Value} {f_law_odd_text : Addr} {od_law_odd_text an_law_odd_text : Option Addr} {sl_law_odd_text : Array (Option Value)} {oc_law_odd_text kV_law_odd_text dc_law_odd_text pm_law_odd_text cd_law_odd_text ct_law_odd_text : Value} {f_law_long_text : Addr} {od_law_long_text an_law_long_text : Option Addr} {sl_law_long_text : Array (Option Value)} {oc_law_long_text kV_law_long_text dc_law_long_text pm_law_long_text cd_law_long_text ct_law_long_text : Value} {f_law_text : Addr} {od_law_text an_law_text : Option Addr} {sl_law_text : Array (Option Value)} {oc_law_text kV_law_text dc_law_text pm_law_text cd_law_text ct_law_text : Value} {f_law_alone : Addr} {od_law_alone an_law_alone : Option Addr} {sl_law_alone : Array (Option Value)} {oc_law_alone kV_law_alone dc_law_alone pm_law_alone cd_law_alone ct_law_alone : Value} {f_law_refused : Addr} {od_law_refused an_law_refused : Option Addr} {sl_law_refused : Array (Option Value)} {oc_law_refused kV_law_refused dc_law_refused pm_law_refused cd_law_refused ct_law_refused : Value} {f_law_no_text : Addr} {od_law_no_text an_law_no_text : Option Addr} {sl_law_no_text : Array (Option Value)} {oc_law_no_text kV_law_no_text dc_law_no_text pm_law_no_text cd_law_no_text ct_law_no_text : Value} {f_law : Addr} {od_law an_law : Option Addr} {sl_law : Array (Option Value)} {oc_law kV_law dc_law pm_law cd_law ct_law : Value} {tk_FIGURES : Tok} {tk_MOST_FIGURES : Tok} {C_YardError : Addr} {C_NoNumber : Addr} {C_NoText : Addr} {C_NoWay : Addr} {C_PinThere : Addr} {C_SpotTaken : Addr} {C_NoPin : Addr} {C_PinBusy : Addr} {C_BarThere : Addr} {C_NoBar : Addr} {C_NoLength : Addr} {C_TooMany : Addr} {C_NoGrip : Addr} {C_NoBound : Addr} {C_NoLine : Addr} {C_NoLoad : Addr}
    (a_ratio_of : PySem.W.nsIn K mainGlobals "ratio_of" = some (some (.ref f_ratio_of))) (l_ratio_of : K.lookup f_ratio_of = some ⟨oc_ratio_of, od_ratio_of, .func (PySem.W.fnOf "ratio_of" "ratio_of" (defArgs s_ratio_of) (defBody s_ratio_of) (defScope s_ratio_of) (.ref td_ratio_of) kV_ratio_of dc_ratio_of pm_ratio_of an_ratio_of cd_ratio_of ct_ratio_of), sl_ratio_of⟩) (c_ratio_of : PySem.W.codeIn K cd_ratio_of "ratio_of" = true) (k_ratio_of : PySem.W.keepIn K (.ref f_ratio_of) = true) (t_ratio_of : K.lookup td_ratio_of = some ⟨tc_ratio_of, tdd_ratio_of, .seq #[.int 1 tk_ratio_of] tn_ratio_of, tsl_ratio_of⟩) (a_is_whole : PySem.W.nsIn K mainGlobals "is_whole" = some (some (.ref f_is_whole))) (l_is_whole : K.lookup f_is_whole = some ⟨oc_is_whole, od_is_whole, .func (PySem.W.fnOf "is_whole" "is_whole" (defArgs s_is_whole) (defBody s_is_whole) (defScope s_is_whole) .none kV_is_whole dc_is_whole pm_is_whole an_is_whole cd_is_whole ct_is_whole), sl_is_whole⟩) (c_is_whole : PySem.W.codeIn K cd_is_whole "is_whole" = true) (k_is_whole : PySem.W.keepIn K (.ref f_is_whole) = true) (a_lowest_terms : PySem.W.nsIn K mainGlobals "lowest_terms" = some (some (.ref f_lowest_terms))) (l_lowest_terms : K.lookup f_lowest_terms = some ⟨oc_lowest_terms, od_lowest_terms, .func (PySem.W.fnOf "lowest_terms" "lowest_terms" (defArgs s_lowest_terms) (defBody s_lowest_terms) (defScope s_lowest_terms) .none kV_lowest_terms dc_lowest_terms pm_lowest_terms an_lowest_terms cd_lowest_terms ct_lowest_terms), sl_lowest_terms⟩) (c_lowest_terms : PySem.W.codeIn K cd_lowest_terms "lowest_terms" = true) (k_lowest_terms : PySem.W.keepIn K (.ref f_lowest_terms) = true) (a_greatest_shared : PySem.W.nsIn K mainGlobals "greatest_shared" = some (some (.ref f_greatest_shared))) (l_greatest_shared : K.lookup f_greatest_shared = some ⟨oc_greatest_shared, od_greatest_shared, .func (PySem.W.fnOf "greatest_shared" "greatest_shared" (defArgs s_greatest_shared) (defBody s_greatest_shared) (defScope s_greatest_shared) .none kV_greatest_shared dc_greatest_shared pm_greatest_shared an_greatest_shared cd_greatest_shared ct_greatest_shared), sl_greatest_shared⟩) (c_greatest_shared : PySem.W.codeIn K cd_greatest_shared "greatest_shared" = true) (k_greatest_shared : PySem.W.keepIn K (.ref f_greatest_shared) = true) (a_show_ratio : PySem.W.nsIn K mainGlobals "show_ratio" = some (some (.ref f_show_ratio))) (l_show_ratio : K.lookup f_show_ratio = some ⟨oc_show_ratio, od_show_ratio, .func (PySem.W.fnOf "show_ratio" "show_ratio" (defArgs s_show_ratio) (defBody s_show_ratio) (defScope s_show_ratio) .none kV_show_ratio dc_show_ratio pm_show_ratio an_show_ratio cd_show_ratio ct_show_ratio), sl_show_ratio⟩) (c_show_ratio : PySem.W.codeIn K cd_show_ratio "show_ratio" = true) (k_show_ratio : PySem.W.keepIn K (.ref f_show_ratio) = true) (a_read_ratio : PySem.W.nsIn K mainGlobals "read_ratio" = some (some (.ref f_read_ratio))) (l_read_ratio : K.lookup f_read_ratio = some ⟨oc_read_ratio, od_read_ratio, .func (PySem.W.fnOf "read_ratio" "read_ratio" (defArgs s_read_ratio) (defBody s_read_ratio) (defScope s_read_ratio) .none kV_read_ratio dc_read_ratio pm_read_ratio an_read_ratio cd_read_ratio ct_read_ratio), sl_read_ratio⟩) (c_read_ratio : PySem.W.codeIn K cd_read_ratio "read_ratio" = true) (k_read_ratio : PySem.W.keepIn K (.ref f_read_ratio) = true) (a_read_whole : PySem.W.nsIn K mainGlobals "read_whole" = some (some (.ref f_read_whole))) (l_read_whole : K.lookup f_read_whole = some ⟨oc_read_whole, od_read_whole, .func (PySem.W.fnOf "read_whole" "read_whole" (defArgs s_read_whole) (defBody s_read_whole) (defScope s_read_whole) .none kV_read_whole dc_read_whole pm_read_whole an_read_whole cd_read_whole ct_read_whole), sl_read_whole⟩) (c_read_whole : PySem.W.codeIn K cd_read_whole "read_whole" = true) (k_read_whole : PySem.W.keepIn K (.ref f_read_whole) = true) (a_law_cell_at : PySem.W.nsIn K mainGlobals "_law_cell_at" = some (some (.ref f_law_cell_at))) (l_law_cell_at : K.lookup f_law_cell_at = some ⟨oc_law_cell_at, od_law_cell_at, .func (PySem.W.fnOf "_law_cell_at" "_law_cell_at" (defArgs s_law_cell_at) (defBody s_law_cell_at) (defScope s_law_cell_at) .none kV_law_cell_at dc_law_cell_at pm_law_cell_at an_law_cell_at cd_law_cell_at ct_law_cell_at), sl_law_cell_at⟩) (c_law_cell_at : PySem.W.codeIn K cd_law_cell_at "_law_cell_at" = true) (k_law_cell_at : PySem.W.keepIn K (.ref f_law_cell_at) = true) (a_law_same : PySem.W.nsIn K mainGlobals "_law_same" = some (some (.ref f_law_same))) (l_law_same : K.lookup f_law_same = some ⟨oc_law_same, od_law_same, .func (PySem.W.fnOf "_law_same" "_law_same" (defArgs s_law_same) (defBody s_law_same) (defScope s_law_same) .none kV_law_same dc_law_same pm_law_same an_law_same cd_law_same ct_law_same), sl_law_same⟩) (c_law_same : PySem.W.codeIn K cd_law_same "_law_same" = true) (k_law_same : PySem.W.keepIn K (.ref f_law_same) = true) (a_law_shared : PySem.W.nsIn K mainGlobals "_law_shared" = some (some (.ref f_law_shared))) (l_law_shared : K.lookup f_law_shared = some ⟨oc_law_shared, od_law_shared, .func (PySem.W.fnOf "_law_shared" "_law_shared" (defArgs s_law_shared) (defBody s_law_shared) (defScope s_law_shared) .none kV_law_shared dc_law_shared pm_law_shared an_law_shared cd_law_shared ct_law_shared), sl_law_shared⟩) (c_law_shared : PySem.W.codeIn K cd_law_shared "_law_shared" = true) (k_law_shared : PySem.W.keepIn K (.ref f_law_shared) = true) (a_law_whole_told : PySem.W.nsIn K mainGlobals "_law_whole_told" = some (some (.ref f_law_whole_told))) (l_law_whole_told : K.lookup f_law_whole_told = some ⟨oc_law_whole_told, od_law_whole_told, .func (PySem.W.fnOf "_law_whole_told" "_law_whole_told" (defArgs s_law_whole_told) (defBody s_law_whole_told) (defScope s_law_whole_told) .none kV_law_whole_told dc_law_whole_told pm_law_whole_told an_law_whole_told cd_law_whole_told ct_law_whole_told), sl_law_whole_told⟩) (c_law_whole_told : PySem.W.codeIn K cd_law_whole_told "_law_whole_told" = true) (k_law_whole_told : PySem.W.keepIn K (.ref f_law_whole_told) = true) (a_law_told : PySem.W.nsIn K mainGlobals "_law_told" = some (some (.ref f_law_told))) (l_law_told : K.lookup f_law_told = some ⟨oc_law_told, od_law_told, .func (PySem.W.fnOf "_law_told" "_law_told" (defArgs s_law_told) (defBody s_law_told) (defScope s_law_told) .none kV_law_told dc_law_told pm_law_told an_law_told cd_law_told ct_law_told), sl_law_told⟩) (c_law_told : PySem.W.codeIn K cd_law_told "_law_told" = true) (k_law_told : PySem.W.keepIn K (.ref f_law_told) = true) (a_law_sign_by : PySem.W.nsIn K mainGlobals "_law_sign_by" = some (some (.ref f_law_sign_by))) (l_law_sign_by : K.lookup f_law_sign_by = some ⟨oc_law_sign_by, od_law_sign_by, .func (PySem.W.fnOf "_law_sign_by" "_law_sign_by" (defArgs s_law_sign_by) (defBody s_law_sign_by) (defScope s_law_sign_by) .none kV_law_sign_by dc_law_sign_by pm_law_sign_by an_law_sign_by cd_law_sign_by ct_law_sign_by), sl_law_sign_by⟩) (c_law_sign_by : PySem.W.codeIn K cd_law_sign_by "_law_sign_by" = true) (k_law_sign_by : PySem.W.keepIn K (.ref f_law_sign_by) = true) (a_law_number_text : PySem.W.nsIn K mainGlobals "_law_number_text" = some (some (.ref f_law_number_text))) (l_law_number_text : K.lookup f_law_number_text = some ⟨oc_law_number_text, od_law_number_text, .func (PySem.W.fnOf "_law_number_text" "_law_number_text" (defArgs s_law_number_text) (defBody s_law_number_text) (defScope s_law_number_text) .none kV_law_number_text dc_law_number_text pm_law_number_text an_law_number_text cd_law_number_text ct_law_number_text), sl_law_number_text⟩) (c_law_number_text : PySem.W.codeIn K cd_law_number_text "_law_number_text" = true) (k_law_number_text : PySem.W.keepIn K (.ref f_law_number_text) = true) (a_law_odd_text : PySem.W.nsIn K mainGlobals "_law_odd_text" = some (some (.ref f_law_odd_text))) (l_law_odd_text : K.lookup f_law_odd_text = some ⟨oc_law_odd_text, od_law_odd_text, .func (PySem.W.fnOf "_law_odd_text" "_law_odd_text" (defArgs s_law_odd_text) (defBody s_law_odd_text) (defScope s_law_odd_text) .none kV_law_odd_text dc_law_odd_text pm_law_odd_text an_law_odd_text cd_law_odd_text ct_law_odd_text), sl_law_odd_text⟩) (c_law_odd_text : PySem.W.codeIn K cd_law_odd_text "_law_odd_text" = true) (k_law_odd_text : PySem.W.keepIn K (.ref f_law_odd_text) = true) (a_law_long_text : PySem.W.nsIn K mainGlobals "_law_long_text" = some (some (.ref f_law_long_text))) (l_law_long_text : K.lookup f_law_long_text = some ⟨oc_law_long_text, od_law_long_text, .func (PySem.W.fnOf "_law_long_text" "_law_long_text" (defArgs s_law_long_text) (defBody s_law_long_text) (defScope s_law_long_text) .none kV_law_long_text dc_law_long_text pm_law_long_text an_law_long_text cd_law_long_text ct_law_long_text), sl_law_long_text⟩) (c_law_long_text : PySem.W.codeIn K cd_law_long_text "_law_long_text" = true) (k_law_long_text : PySem.W.keepIn K (.ref f_law_long_text) = true) (a_law_text : PySem.W.nsIn K mainGlobals "_law_text" = some (some (.ref f_law_text))) (l_law_text : K.lookup f_law_text = some ⟨oc_law_text, od_law_text, .func (PySem.W.fnOf "_law_text" "_law_text" (defArgs s_law_text) (defBody s_law_text) (defScope s_law_text) .none kV_law_text dc_law_text pm_law_text an_law_text cd_law_text ct_law_text), sl_law_text⟩) (c_law_text : PySem.W.codeIn K cd_law_text "_law_text" = true) (k_law_text : PySem.W.keepIn K (.ref f_law_text) = true) (a_law_alone : PySem.W.nsIn K mainGlobals "_law_alone" = some (some (.ref f_law_alone))) (l_law_alone : K.lookup f_law_alone = some ⟨oc_law_alone, od_law_alone, .func (PySem.W.fnOf "_law_alone" "_law_alone" (defArgs s_law_alone) (defBody s_law_alone) (defScope s_law_alone) .none kV_law_alone dc_law_alone pm_law_alone an_law_alone cd_law_alone ct_law_alone), sl_law_alone⟩) (c_law_alone : PySem.W.codeIn K cd_law_alone "_law_alone" = true) (k_law_alone : PySem.W.keepIn K (.ref f_law_alone) = true) (a_law_refused : PySem.W.nsIn K mainGlobals "_law_refused" = some (some (.ref f_law_refused))) (l_law_refused : K.lookup f_law_refused = some ⟨oc_law_refused, od_law_refused, .func (PySem.W.fnOf "_law_refused" "_law_refused" (defArgs s_law_refused) (defBody s_law_refused) (defScope s_law_refused) .none kV_law_refused dc_law_refused pm_law_refused an_law_refused cd_law_refused ct_law_refused), sl_law_refused⟩) (c_law_refused : PySem.W.codeIn K cd_law_refused "_law_refused" = true) (k_law_refused : PySem.W.keepIn K (.ref f_law_refused) = true) (a_law_no_text : PySem.W.nsIn K mainGlobals "_law_no_text" = some (some (.ref f_law_no_text))) (l_law_no_text : K.lookup f_law_no_text = some ⟨oc_law_no_text, od_law_no_text, .func (PySem.W.fnOf "_law_no_text" "_law_no_text" (defArgs s_law_no_text) (defBody s_law_no_text) (defScope s_law_no_text) .none kV_law_no_text dc_law_no_text pm_law_no_text an_law_no_text cd_law_no_text ct_law_no_text), sl_law_no_text⟩) (c_law_no_text : PySem.W.codeIn K cd_law_no_text "_law_no_text" = true) (k_law_no_text : PySem.W.keepIn K (.ref f_law_no_text) = true) (a_law : PySem.W.nsIn K mainGlobals "law" = some (some (.ref f_law))) (l_law : K.lookup f_law = some ⟨oc_law, od_law, .func (PySem.W.fnOf "law" "law" (defArgs s_law) (defBody s_law) (defScope s_law) .none kV_law dc_law pm_law an_law cd_law ct_law), sl_law⟩) (c_law : PySem.W.codeIn K cd_law "law" = true) (k_law : PySem.W.keepIn K (.ref f_law) = true) (a_FIGURES : PySem.W.nsIn K mainGlobals "FIGURES" = some (some (.str "0123456789" tk_FIGURES))) (a_MOST_FIGURES : PySem.W.nsIn K mainGlobals "MOST_FIGURES" = some (some (.int 60 tk_MOST_FIGURES))) (z_ValueError : PySem.W.nsIn K mainGlobals "ValueError" = some none) (z_abs : PySem.W.nsIn K mainGlobals "abs" = some none) (z_all : PySem.W.nsIn K mainGlobals "all" = some none) (z_bool : PySem.W.nsIn K mainGlobals "bool" = some none) (z_int : PySem.W.nsIn K mainGlobals "int" = some none) (z_isinstance : PySem.W.nsIn K mainGlobals "isinstance" = some none) (z_len : PySem.W.nsIn K mainGlobals "len" = some none) (z_str : PySem.W.nsIn K mainGlobals "str" = some none) (z_tuple : PySem.W.nsIn K mainGlobals "tuple" = some none) (a_YardError : PySem.W.nsIn K mainGlobals "YardError" = some (some (.ref C_YardError))) (a_NoNumber : PySem.W.nsIn K mainGlobals "NoNumber" = some (some (.ref C_NoNumber))) (a_NoText : PySem.W.nsIn K mainGlobals "NoText" = some (some (.ref C_NoText))) (a_NoWay : PySem.W.nsIn K mainGlobals "NoWay" = some (some (.ref C_NoWay))) (a_PinThere : PySem.W.nsIn K mainGlobals "PinThere" = some (some (.ref C_PinThere))) (a_SpotTaken : PySem.W.nsIn K mainGlobals "SpotTaken" = some (some (.ref C_SpotTaken))) (a_NoPin : PySem.W.nsIn K mainGlobals "NoPin" = some (some (.ref C_NoPin))) (a_PinBusy : PySem.W.nsIn K mainGlobals "PinBusy" = some (some (.ref C_PinBusy))) (a_BarThere : PySem.W.nsIn K mainGlobals "BarThere" = some (some (.ref C_BarThere))) (a_NoBar : PySem.W.nsIn K mainGlobals "NoBar" = some (some (.ref C_NoBar))) (a_NoLength : PySem.W.nsIn K mainGlobals "NoLength" = some (some (.ref C_NoLength))) (a_TooMany : PySem.W.nsIn K mainGlobals "TooMany" = some (some (.ref C_TooMany))) (a_NoGrip : PySem.W.nsIn K mainGlobals "NoGrip" = some (some (.ref C_NoGrip))) (a_NoBound : PySem.W.nsIn K mainGlobals "NoBound" = some (some (.ref C_NoBound))) (a_NoLine : PySem.W.nsIn K mainGlobals "NoLine" = some (some (.ref C_NoLine))) (a_NoLoad : PySem.W.nsIn K mainGlobals "NoLoad" = some (some (.ref C_NoLoad))) (q_NoText : PySem.W.excIn K C_NoText bmVE "ValueError.__new__" = true) (ga_NoText : PySem.W.findIn K (.ref C_NoText) "__getattribute__" = some (some (.builtin "BaseException.__getattribute__"))) (gt_NoText : PySem.W.findIn K (.ref C_NoText) "__getattr__" = some none) (cl_NoText : PySem.W.findIn K (.ref C_NoText) "__class__" = some (some (.builtin "object.__class__"))) (mo_NoText : PySem.W.mroIn K C_NoText (.type "object") = some true) (mb_NoText : PySem.W.mroIn K C_NoText (.type "BaseException") = some true) (is_NoText : (PySem.W.clsIn K C_NoText).isSome = true) (e1 : PySem.W.exmOne K (.ref C_NoText) (.ref C_NoText) = some true) (e2 : PySem.W.exmOne K (.ref C_NoText) (.ref C_YardError) = some true) (kt2 : PySem.W.kitOne K (.ref C_NoText) (.type "ValueError") = some true) (kn_NoNumber : PySem.W.kitOne K (.ref C_NoText) (.ref C_NoNumber) = some false) (kn_NoText : PySem.W.kitOne K (.ref C_NoText) (.ref C_NoText) = some true) (kn_NoWay : PySem.W.kitOne K (.ref C_NoText) (.ref C_NoWay) = some false) (kn_PinThere : PySem.W.kitOne K (.ref C_NoText) (.ref C_PinThere) = some false) (kn_SpotTaken : PySem.W.kitOne K (.ref C_NoText) (.ref C_SpotTaken) = some false) (kn_NoPin : PySem.W.kitOne K (.ref C_NoText) (.ref C_NoPin) = some false) (kn_PinBusy : PySem.W.kitOne K (.ref C_NoText) (.ref C_PinBusy) = some false) (kn_BarThere : PySem.W.kitOne K (.ref C_NoText) (.ref C_BarThere) = some false) (kn_NoBar : PySem.W.kitOne K (.ref C_NoText) (.ref C_NoBar) = some false) (kn_NoLength : PySem.W.kitOne K (.ref C_NoText) (.ref C_NoLength) = some false) (kn_TooMany : PySem.W.kitOne K (.ref C_NoText) (.ref C_TooMany) = some false) (kn_NoGrip : PySem.W.kitOne K (.ref C_NoText) (.ref C_NoGrip) = some false) (kn_NoBound : PySem.W.kitOne K (.ref C_NoText) (.ref C_NoBound) = some false) (kn_NoLine : PySem.W.kitOne K (.ref C_NoText) (.ref C_NoLine) = some false) (kn_NoLoad : PySem.W.kitOne K (.ref C_NoText) (.ref C_NoLoad) = some false) (q_NoNumber : PySem.W.excIn K C_NoNumber bmVE "ValueError.__new__" = true) :
    ∃ fd : FuncData, (∀ (s : Shared) (v : Value), BindsTo s fd ⟨[v], []⟩ [("_law_script", v)]) ∧ ∀ base : Heap, K.In base → base.Ns mainGlobals mg → FnOk l.prog w K mg base (CXr l.prog w) 10 fa fd ["_law_script"] (spLaw K) := by
  have e := hfa.symm.trans (PySem.W.mg_of X G a_law)
  cases e
  have B1_ratio_of : Binds K (PySem.W.fnOf "ratio_of" "ratio_of" (defArgs s_ratio_of) (defBody s_ratio_of) (defScope s_ratio_of) (.ref td_ratio_of) kV_ratio_of dc_ratio_of pm_ratio_of an_ratio_of cd_ratio_of ct_ratio_of) ["top", "bottom"] [] := fun s us X hl => match us, hl with | [_, _], _ => BindsTo.of_defaults rfl (X _ _ t_ratio_of) rfl rfl rfl
  have B2_ratio_of : Binds K (PySem.W.fnOf "ratio_of" "ratio_of" (defArgs s_ratio_of) (defBody s_ratio_of) (defScope s_ratio_of) (.ref td_ratio_of) kV_ratio_of dc_ratio_of pm_ratio_of an_ratio_of cd_ratio_of ct_ratio_of) ["top", "bottom"] [.int 1 tk_ratio_of] := fun s us X hl => match us, (show us.length = 1 by simpa using hl) with | [_], _ => BindsTo.of_defaults rfl (X _ _ t_ratio_of) rfl rfl rfl
  have D_ratio_of : DefD K mg "ratio_of" s_ratio_of ["top", "bottom"] [.int 1 tk_ratio_of] := ⟨f_ratio_of, _, _, _, _, _, _, _, _, _, _, l_ratio_of, c_ratio_of, k_ratio_of, B1_ratio_of, B2_ratio_of, PySem.W.mg_of X G a_ratio_of⟩
  have D_is_whole : Def K mg "is_whole" s_is_whole ["value"] := Def.of (fun_mk (st := s_is_whole) l_is_whole c_is_whole k_is_whole) ((fun_mk (st := s_is_whole) l_is_whole c_is_whole k_is_whole).binds (ps := ["value"]) (fun _ _ _ _ _ _ us hl => match us, hl with | [_], _ => rfl)) (PySem.W.mg_of X G a_is_whole)
  have D_lowest_terms : Def K mg "lowest_terms" s_lowest_terms ["top", "bottom"] := Def.of (fun_mk (st := s_lowest_terms) l_lowest_terms c_lowest_terms k_lowest_terms) ((fun_mk (st := s_lowest_terms) l_lowest_terms c_lowest_terms k_lowest_terms).binds (ps := ["top", "bottom"]) (fun _ _ _ _ _ _ us hl => match us, hl with | [_, _], _ => rfl)) (PySem.W.mg_of X G a_lowest_terms)
  have D_greatest_shared : Def K mg "greatest_shared" s_greatest_shared ["one", "other"] := Def.of (fun_mk (st := s_greatest_shared) l_greatest_shared c_greatest_shared k_greatest_shared) ((fun_mk (st := s_greatest_shared) l_greatest_shared c_greatest_shared k_greatest_shared).binds (ps := ["one", "other"]) (fun _ _ _ _ _ _ us hl => match us, hl with | [_, _], _ => rfl)) (PySem.W.mg_of X G a_greatest_shared)
  have D_show_ratio : Def K mg "show_ratio" s_show_ratio ["one"] := Def.of (fun_mk (st := s_show_ratio) l_show_ratio c_show_ratio k_show_ratio) ((fun_mk (st := s_show_ratio) l_show_ratio c_show_ratio k_show_ratio).binds (ps := ["one"]) (fun _ _ _ _ _ _ us hl => match us, hl with | [_], _ => rfl)) (PySem.W.mg_of X G a_show_ratio)
  have D_read_ratio : Def K mg "read_ratio" s_read_ratio ["text"] := Def.of (fun_mk (st := s_read_ratio) l_read_ratio c_read_ratio k_read_ratio) ((fun_mk (st := s_read_ratio) l_read_ratio c_read_ratio k_read_ratio).binds (ps := ["text"]) (fun _ _ _ _ _ _ us hl => match us, hl with | [_], _ => rfl)) (PySem.W.mg_of X G a_read_ratio)
  have D_read_whole : Def K mg "read_whole" s_read_whole ["text"] := Def.of (fun_mk (st := s_read_whole) l_read_whole c_read_whole k_read_whole) ((fun_mk (st := s_read_whole) l_read_whole c_read_whole k_read_whole).binds (ps := ["text"]) (fun _ _ _ _ _ _ us hl => match us, hl with | [_], _ => rfl)) (PySem.W.mg_of X G a_read_whole)
  have D_law_cell_at : Def K mg "_law_cell_at" s_law_cell_at ["_law_script", "_law_k"] := Def.of (fun_mk (st := s_law_cell_at) l_law_cell_at c_law_cell_at k_law_cell_at) ((fun_mk (st := s_law_cell_at) l_law_cell_at c_law_cell_at k_law_cell_at).binds (ps := ["_law_script", "_law_k"]) (fun _ _ _ _ _ _ us hl => match us, hl with | [_, _], _ => rfl)) (PySem.W.mg_of X G a_law_cell_at)
  have D_law_same : Def K mg "_law_same" s_law_same ["_law_found", "_law_due"] := Def.of (fun_mk (st := s_law_same) l_law_same c_law_same k_law_same) ((fun_mk (st := s_law_same) l_law_same c_law_same k_law_same).binds (ps := ["_law_found", "_law_due"]) (fun _ _ _ _ _ _ us hl => match us, hl with | [_, _], _ => rfl)) (PySem.W.mg_of X G a_law_same)
  have D_law_shared : Def K mg "_law_shared" s_law_shared ["_law_one", "_law_other"] := Def.of (fun_mk (st := s_law_shared) l_law_shared c_law_shared k_law_shared) ((fun_mk (st := s_law_shared) l_law_shared c_law_shared k_law_shared).binds (ps := ["_law_one", "_law_other"]) (fun _ _ _ _ _ _ us hl => match us, hl with | [_, _], _ => rfl)) (PySem.W.mg_of X G a_law_shared)
  have D_law_whole_told : Def K mg "_law_whole_told" s_law_whole_told ["_law_figures"] := Def.of (fun_mk (st := s_law_whole_told) l_law_whole_told c_law_whole_told k_law_whole_told) ((fun_mk (st := s_law_whole_told) l_law_whole_told c_law_whole_told k_law_whole_told).binds (ps := ["_law_figures"]) (fun _ _ _ _ _ _ us hl => match us, hl with | [_], _ => rfl)) (PySem.W.mg_of X G a_law_whole_told)
  have D_law_told : Def K mg "_law_told" s_law_told ["_law_text_here"] := Def.of (fun_mk (st := s_law_told) l_law_told c_law_told k_law_told) ((fun_mk (st := s_law_told) l_law_told c_law_told k_law_told).binds (ps := ["_law_text_here"]) (fun _ _ _ _ _ _ us hl => match us, hl with | [_], _ => rfl)) (PySem.W.mg_of X G a_law_told)
  have D_law_sign_by : Def K mg "_law_sign_by" s_law_sign_by ["_law_cell"] := Def.of (fun_mk (st := s_law_sign_by) l_law_sign_by c_law_sign_by k_law_sign_by) ((fun_mk (st := s_law_sign_by) l_law_sign_by c_law_sign_by k_law_sign_by).binds (ps := ["_law_cell"]) (fun _ _ _ _ _ _ us hl => match us, hl with | [_], _ => rfl)) (PySem.W.mg_of X G a_law_sign_by)
  have D_law_number_text : Def K mg "_law_number_text" s_law_number_text ["_law_script", "_law_share"] := Def.of (fun_mk (st := s_law_number_text) l_law_number_text c_law_number_text k_law_number_text) ((fun_mk (st := s_law_number_text) l_law_number_text c_law_number_text k_law_number_text).binds (ps := ["_law_script", "_law_share"]) (fun _ _ _ _ _ _ us hl => match us, hl with | [_, _], _ => rfl)) (PySem.W.mg_of X G a_law_number_text)
  have D_law_odd_text : Def K mg "_law_odd_text" s_law_odd_text ["_law_cell"] := Def.of (fun_mk (st := s_law_odd_text) l_law_odd_text c_law_odd_text k_law_odd_text) ((fun_mk (st := s_law_odd_text) l_law_odd_text c_law_odd_text k_law_odd_text).binds (ps := ["_law_cell"]) (fun _ _ _ _ _ _ us hl => match us, hl with | [_], _ => rfl)) (PySem.W.mg_of X G a_law_odd_text)
  have D_law_long_text : Def K mg "_law_long_text" s_law_long_text ["_law_cell", "_law_other"] := Def.of (fun_mk (st := s_law_long_text) l_law_long_text c_law_long_text k_law_long_text) ((fun_mk (st := s_law_long_text) l_law_long_text c_law_long_text k_law_long_text).binds (ps := ["_law_cell", "_law_other"]) (fun _ _ _ _ _ _ us hl => match us, hl with | [_, _], _ => rfl)) (PySem.W.mg_of X G a_law_long_text)
  have D_law_text : Def K mg "_law_text" s_law_text ["_law_script"] := Def.of (fun_mk (st := s_law_text) l_law_text c_law_text k_law_text) ((fun_mk (st := s_law_text) l_law_text c_law_text k_law_text).binds (ps := ["_law_script"]) (fun _ _ _ _ _ _ us hl => match us, hl with | [_], _ => rfl)) (PySem.W.mg_of X G a_law_text)
  have D_law_alone : Def K mg "_law_alone" s_law_alone ["_law_e"] := Def.of (fun_mk (st := s_law_alone) l_law_alone c_law_alone k_law_alone) ((fun_mk (st := s_law_alone) l_law_alone c_law_alone k_law_alone).binds (ps := ["_law_e"]) (fun _ _ _ _ _ _ us hl => match us, hl with | [_], _ => rfl)) (PySem.W.mg_of X G a_law_alone)
  have D_law_refused : Def K mg "_law_refused" s_law_refused ["_law_thing"] := Def.of (fun_mk (st := s_law_refused) l_law_refused c_law_refused k_law_refused) ((fun_mk (st := s_law_refused) l_law_refused c_law_refused k_law_refused).binds (ps := ["_law_thing"]) (fun _ _ _ _ _ _ us hl => match us, hl with | [_], _ => rfl)) (PySem.W.mg_of X G a_law_refused)
  have D_law_no_text : Def K mg "_law_no_text" s_law_no_text ["_law_cell"] := Def.of (fun_mk (st := s_law_no_text) l_law_no_text c_law_no_text k_law_no_text) ((fun_mk (st := s_law_no_text) l_law_no_text c_law_no_text k_law_no_text).binds (ps := ["_law_cell"]) (fun _ _ _ _ _ _ us hl => match us, hl with | [_], _ => rfl)) (PySem.W.mg_of X G a_law_no_text)
  have m_FIGURES := PySem.W.mg_of X G a_FIGURES
  have m_MOST_FIGURES := PySem.W.mg_of X G a_MOST_FIGURES
  have m_YardError : mg "YardError" = some (.ref C_YardError) := PySem.W.mg_of X G a_YardError
  have m_NoNumber : mg "NoNumber" = some (.ref C_NoNumber) := PySem.W.mg_of X G a_NoNumber
  have m_NoText : mg "NoText" = some (.ref C_NoText) := PySem.W.mg_of X G a_NoText
  have m_NoWay : mg "NoWay" = some (.ref C_NoWay) := PySem.W.mg_of X G a_NoWay
  have m_PinThere : mg "PinThere" = some (.ref C_PinThere) := PySem.W.mg_of X G a_PinThere
  have m_SpotTaken : mg "SpotTaken" = some (.ref C_SpotTaken) := PySem.W.mg_of X G a_SpotTaken
  have m_NoPin : mg "NoPin" = some (.ref C_NoPin) := PySem.W.mg_of X G a_NoPin
  have m_PinBusy : mg "PinBusy" = some (.ref C_PinBusy) := PySem.W.mg_of X G a_PinBusy
  have m_BarThere : mg "BarThere" = some (.ref C_BarThere) := PySem.W.mg_of X G a_BarThere
  have m_NoBar : mg "NoBar" = some (.ref C_NoBar) := PySem.W.mg_of X G a_NoBar
  have m_NoLength : mg "NoLength" = some (.ref C_NoLength) := PySem.W.mg_of X G a_NoLength
  have m_TooMany : mg "TooMany" = some (.ref C_TooMany) := PySem.W.mg_of X G a_TooMany
  have m_NoGrip : mg "NoGrip" = some (.ref C_NoGrip) := PySem.W.mg_of X G a_NoGrip
  have m_NoBound : mg "NoBound" = some (.ref C_NoBound) := PySem.W.mg_of X G a_NoBound
  have m_NoLine : mg "NoLine" = some (.ref C_NoLine) := PySem.W.mg_of X G a_NoLine
  have m_NoLoad : mg "NoLoad" = some (.ref C_NoLoad) := PySem.W.mg_of X G a_NoLoad
  have m_ValueError : mg "ValueError" = none := PySem.W.mg_none_of X G z_ValueError
  have m_abs : mg "abs" = none := PySem.W.mg_none_of X G z_abs
  have m_all : mg "all" = none := PySem.W.mg_none_of X G z_all
  have m_bool : mg "bool" = none := PySem.W.mg_none_of X G z_bool
  have m_int : mg "int" = none := PySem.W.mg_none_of X G z_int
  have m_isinstance : mg "isinstance" = none := PySem.W.mg_none_of X G z_isinstance
  have m_len : mg "len" = none := PySem.W.mg_none_of X G z_len
  have m_str : mg "str" = none := PySem.W.mg_none_of X G z_str
  have m_tuple : mg "tuple" = none := PySem.W.mg_none_of X G z_tuple
  have F := fun_mk (st := s_law) l_law c_law k_law
  refine ⟨PySem.W.fnOf "law" "law" (defArgs s_law) (defBody s_law) (defScope s_law) .none kV_law dc_law pm_law an_law cd_law ct_law, fun s v => .of_eq rfl, fun base _ _ => ?_⟩
  have hM : Mute (CXr l.prog w) := CXr.mute
  have G1 := ok_greatest_shared (P := l.prog) (w := w) (base := base) (CX := CXr l.prog w) D_greatest_shared m_abs
  have G2 := ok_lowest_terms hM D_lowest_terms G1
  have ek : TyExc.ExcK K C_NoText := ⟨ga_NoText, gt_NoText, cl_NoText, mo_NoText, mb_NoText, is_NoText⟩
  have R : Refs K C_NoText C_YardError := ⟨ek, e1, e2, kt2⟩
  have GR := ok_ratio_of D_ratio_of m_NoNumber q_NoNumber (ok_is_whole D_is_whole m_isinstance m_int m_bool) G2
  have GS := ok_show_ratio (P := l.prog) (w := w) (base := base) (CX := CXr l.prog w) D_show_ratio m_str
  have GW := ok_read_whole (P := l.prog) (w := w) (base := base) D_read_whole m_len m_all m_int m_FIGURES m_MOST_FIGURES m_NoText q_NoText
  have GRR := ok_read_ratio D_read_ratio m_isinstance m_str m_NoText q_NoText GW GR.1 GS
  have GC := ok_law_cell_at (P := l.prog) (w := w) (base := base) (CX := CXr l.prog w) D_law_cell_at m_len
  have GH := ok_law_shared (P := l.prog) (w := w) (base := base) (CX := CXr l.prog w) D_law_shared m_abs
  have GA := ok_law_alone (P := l.prog) (w := w) (base := base) D_law_alone m_isinstance ek m_NoNumber m_NoText m_NoWay m_PinThere m_SpotTaken m_NoPin m_PinBusy m_BarThere m_NoBar m_NoLength m_TooMany m_NoGrip m_NoBound m_NoLine m_NoLoad kn_NoNumber kn_NoText kn_NoWay kn_PinThere kn_SpotTaken kn_NoPin kn_PinBusy kn_BarThere kn_NoBar kn_NoLength kn_TooMany kn_NoGrip kn_NoBound kn_NoLine kn_NoLoad
  exact ok_law F GC (ok_law_no_text D_law_no_text) (ok_law_refused D_law_refused R m_NoText m_YardError m_isinstance m_ValueError GRR GA)
    (ok_law_text D_law_text m_len GC (ok_law_number_text D_law_number_text m_str GC GH) (ok_law_sign_by D_law_sign_by) (ok_law_odd_text D_law_odd_text) (ok_law_long_text D_law_long_text))
    (ok_law_told D_law_told (ok_law_whole_told D_law_whole_told m_len) GH) (ok_law_same D_law_same m_len m_isinstance m_int m_bool m_tuple) GRR
end T_k05
open PySem PySem.W PyProof.Rows
set_option maxRecDepth 100000 in
set_option maxHeartbeats 0 in
theorem PySem.Challenge.cw_trussyard_k05_texts_read_holds : PySem.Challenge.rw_trussyard_k05_texts_read.Holds := by
  w_on; o_law; k_head; (case hw => w_witness2)
  k_fill
  refine Ty.walk (l := PySem.Challenge.rw_trussyard_k05_texts_read) (x := "_law_script") (k := 10) (CX := fun w => Ty.CXr (PySem.Challenge.rw_trussyard_k05_texts_read).prog w) rfl rfl (by first | rfl | decide +kernel) ⟨rfl, by decide, by decide⟩ (fun w h Y => PySem.W.kIn_of Y) (fun w => Ty.CXr.mute) ?F
  case F =>
    intro w mg fa h KX G hmg
    refine' T_k05.all_mk KX G hmg ?a_ratio_of ?l_ratio_of ?c_ratio_of ?k_ratio_of ?t_ratio_of ?a_is_whole ?l_is_whole ?c_is_whole ?k_is_whole ?a_lowest_terms ?l_lowest_terms ?c_lowest_terms ?k_lowest_terms ?a_greatest_shared ?l_greatest_shared ?c_greatest_shared ?k_greatest_shared ?a_show_ratio ?l_show_ratio ?c_show_ratio ?k_show_ratio ?a_read_ratio ?l_read_ratio ?c_read_ratio ?k_read_ratio ?a_read_whole ?l_read_whole ?c_read_whole ?k_read_whole ?a_law_cell_at ?l_law_cell_at ?c_law_cell_at ?k_law_cell_at ?a_law_same ?l_law_same ?c_law_same ?k_law_same ?a_law_shared ?l_law_shared ?c_law_shared ?k_law_shared ?a_law_whole_told ?l_law_whole_told ?c_law_whole_told ?k_law_whole_told ?a_law_told ?l_law_told ?c_law_told ?k_law_told ?a_law_sign_by ?l_law_sign_by ?c_law_sign_by ?k_law_sign_by ?a_law_number_text ?l_law_number_text ?c_law_number_text ?k_law_number_text ?a_law_odd_text ?l_law_odd_text ?c_law_odd_text ?k_law_odd_text ?a_law_long_text ?l_law_long_text ?c_law_long_text ?k_law_long_text ?a_law_text ?l_law_text ?c_law_text ?k_law_text ?a_law_alone ?l_law_alone ?c_law_alone ?k_law_alone ?a_law_refused ?l_law_refused ?c_law_refused ?k_law_refused ?a_law_no_text ?l_law_no_text ?c_law_no_text ?k_law_no_text ?a_law ?l_law ?c_law ?k_law ?a_FIGURES ?a_MOST_FIGURES ?z_ValueError ?z_abs ?z_all ?z_bool ?z_int ?z_isinstance ?z_len ?z_str ?z_tuple ?a_YardError ?a_NoNumber ?a_NoText ?a_NoWay ?a_PinThere ?a_SpotTaken ?a_NoPin ?a_PinBusy ?a_BarThere ?a_NoBar ?a_NoLength ?a_TooMany ?a_NoGrip ?a_NoBound ?a_NoLine ?a_NoLoad ?q_NoText ?ga_NoText ?gt_NoText ?cl_NoText ?mo_NoText ?mb_NoText ?is_NoText ?e1 ?e2 ?kt2 ?kn_NoNumber ?kn_NoText ?kn_NoWay ?kn_PinThere ?kn_SpotTaken ?kn_NoPin ?kn_PinBusy ?kn_BarThere ?kn_NoBar ?kn_NoLength ?kn_TooMany ?kn_NoGrip ?kn_NoBound ?kn_NoLine ?kn_NoLoad ?q_NoNumber
    (case a_ratio_of => k_is); (case l_ratio_of => k_is); (case c_ratio_of => k_is); (case k_ratio_of => k_is); (case t_ratio_of => k_is); (case a_is_whole => k_is); (case l_is_whole => k_is); (case c_is_whole => k_is); (case k_is_whole => k_is); (case a_lowest_terms => k_is); (case l_lowest_terms => k_is); (case c_lowest_terms => k_is); (case k_lowest_terms => k_is); (case a_greatest_shared => k_is); (case l_greatest_shared => k_is); (case c_greatest_shared => k_is); (case k_greatest_shared => k_is); (case a_show_ratio => k_is); (case l_show_ratio => k_is); (case c_show_ratio => k_is); (case k_show_ratio => k_is); (case a_read_ratio => k_is); (case l_read_ratio => k_is); (case c_read_ratio => k_is); (case k_read_ratio => k_is); (case a_read_whole => k_is); (case l_read_whole => k_is); (case c_read_whole => k_is); (case k_read_whole => k_is); (case a_law_cell_at => k_is); (case l_law_cell_at => k_is); (case c_law_cell_at => k_is); (case k_law_cell_at => k_is); (case a_law_same => k_is); (case l_law_same => k_is); (case c_law_same => k_is); (case k_law_same => k_is); (case a_law_shared => k_is); (case l_law_shared => k_is); (case c_law_shared => k_is); (case k_law_shared => k_is); (case a_law_whole_told => k_is); (case l_law_whole_told => k_is); (case c_law_whole_told => k_is); (case k_law_whole_told => k_is); (case a_law_told => k_is); (case l_law_told => k_is); (case c_law_told => k_is); (case k_law_told => k_is); (case a_law_sign_by => k_is); (case l_law_sign_by => k_is); (case c_law_sign_by => k_is); (case k_law_sign_by => k_is); (case a_law_number_text => k_is); (case l_law_number_text => k_is); (case c_law_number_text => k_is); (case k_law_number_text => k_is); (case a_law_odd_text => k_is); (case l_law_odd_text => k_is); (case c_law_odd_text => k_is); (case k_law_odd_text => k_is); (case a_law_long_text => k_is); (case l_law_long_text => k_is); (case c_law_long_text => k_is); (case k_law_long_text => k_is); (case a_law_text => k_is); (case l_law_text => k_is); (case c_law_text => k_is); (case k_law_text => k_is); (case a_law_alone => k_is); (case l_law_alone => k_is); (case c_law_alone => k_is); (case k_law_alone => k_is); (case a_law_refused => k_is); (case l_law_refused => k_is); (case c_law_refused => k_is); (case k_law_refused => k_is); (case a_law_no_text => k_is); (case l_law_no_text => k_is); (case c_law_no_text => k_is); (case k_law_no_text => k_is); (case a_law => k_is); (case l_law => k_is); (case c_law => k_is); (case k_law => k_is); (case a_FIGURES => k_is); (case a_MOST_FIGURES => k_is); (case z_ValueError => k_is); (case z_abs => k_is); (case z_all => k_is); (case z_bool => k_is); (case z_int => k_is); (case z_isinstance => k_is); (case z_len => k_is); (case z_str => k_is); (case z_tuple => k_is); (case a_YardError => k_is); (case a_NoNumber => k_is); (case a_NoText => k_is); (case a_NoWay => k_is); (case a_PinThere => k_is); (case a_SpotTaken => k_is); (case a_NoPin => k_is); (case a_PinBusy => k_is); (case a_BarThere => k_is); (case a_NoBar => k_is); (case a_NoLength => k_is); (case a_TooMany => k_is); (case a_NoGrip => k_is); (case a_NoBound => k_is); (case a_NoLine => k_is); (case a_NoLoad => k_is); (case q_NoText => kernel_rfl); (case ga_NoText => k_is); (case gt_NoText => k_is); (case cl_NoText => k_is); (case mo_NoText => kernel_rfl); (case mb_NoText => kernel_rfl); (case is_NoText => kernel_rfl); (case e1 => kernel_rfl); (case e2 => kernel_rfl); (case kt2 => kernel_rfl); (case kn_NoNumber => kernel_rfl); (case kn_NoText => kernel_rfl); (case kn_NoWay => kernel_rfl); (case kn_PinThere => kernel_rfl); (case kn_SpotTaken => kernel_rfl); (case kn_NoPin => kernel_rfl); (case kn_PinBusy => kernel_rfl); (case kn_BarThere => kernel_rfl); (case kn_NoBar => kernel_rfl); (case kn_NoLength => kernel_rfl); (case kn_TooMany => kernel_rfl); (case kn_NoGrip => kernel_rfl); (case kn_NoBound => kernel_rfl); (case kn_NoLine => kernel_rfl); (case kn_NoLoad => kernel_rfl); (case q_NoNumber => kernel_rfl)
#print axioms PySem.Challenge.cw_trussyard_k05_texts_read_holds


