import PyProof.Rows.All
import Wide.All
import OpenK.AllK
import Wide.FinOn
import Lean
import PyProof.EqAt
import PyProof.EqKinds
import PyProof.TupleCall
import PyProof.ZipIter
import PyProof.SumWalkG
import PyProof.ListCopy
import PyProof.ListStr
import PyProof.DictItems
import PyProof.DictWalks
import PyProof.DictTruth
import PyProof.EnumMake
import PyProof.InstStoreFacts
import PyProof.Rows.SortWalk
import PyProof.ListRange
import PyProof.DictValues
import KE.KRevSl
import KE.KDictOf
import PyProof.DictIter
import PyProof.FactsAll.dict_1
import PySem.Challenge.RW_trussyard_k12_pins_put_and_taken
set_option Elab.async false
set_option linter.all false
set_option maxRecDepth 100000
def PySem.W.Fast.tw11633419051644950440 : Unit := ()
def PySem.W.Fast.tw16844273711928378799 : Unit := ()
def PySem.W.Fast.tw2690561412282367858 : Unit := ()
def PySem.W.Fast.tw9180264533877745051 : Unit := ()
def PySem.W.Fast.tw6296864455060095097 : Unit := ()
def PySem.W.Fast.tw2792761173422181540 : Unit := ()
def PySem.W.Fast.tw5218975594926525540 : Unit := ()
def PySem.W.Fast.tw11069333671169053270 : Unit := ()
def PySem.W.Fast.tw8515534485421650418 : Unit := ()
def PySem.W.Fast.tw8200597170881009380 : Unit := ()
def PySem.W.Fast.tw16907435004645192972 : Unit := ()
def PySem.W.Fast.tw523750212805812497 : Unit := ()
def PySem.W.Fast.tw2921154310096791154 : Unit := ()
def PySem.W.Fast.tw13986380819047877490 : Unit := ()
def PySem.W.Fast.tw10510827521227111884 : Unit := ()
def PySem.W.Fast.tw4939317888325600679 : Unit := ()
def PySem.W.Fast.tw4466344122636483612 : Unit := ()
def PySem.W.Fast.tw9599171285500212995 : Unit := ()
def PySem.W.Fast.tw2169089610462233599 : Unit := ()

namespace L2
open PySem PySem.Spec PyProof.Rows

abbrev Key := Sum Int Str
def keyIs : Key → Value → Bool
  | .inl k, v => Value.isInt k v
  | .inr x, v => Value.isStrOf x v
def keyH (w : World) : Key → Int
  | .inl k => hashInt k
  | .inr x => hashStr w x
theorem keyIs_shape : ∀ {k : Key} {v : Value}, keyIs k v = true → (∃ i t, k = Sum.inl i ∧ v = Value.int i t) ∨ (∃ x t, k = Sum.inr x ∧ v = Value.str x t)
  | .inl i, v, h => by
    obtain ⟨t, e⟩ := Value.isInt_shape (k := i) (v := v) h
    exact .inl ⟨i, t, rfl, e⟩
  | .inr x, v, h => by
    obtain ⟨t, e⟩ := Value.isStrOf_shape (x := x) (v := v) h
    exact .inr ⟨x, t, rfl, e⟩
theorem keyIs_int (i : Int) (t : Tok) : keyIs (.inl i) (.int i t) = true := by simp [keyIs, Value.isInt]
theorem keyIs_str (x : Str) (t : Tok) : keyIs (.inr x) (.str x t) = true := by simp [keyIs, Value.isStrOf]
theorem key_ll (a b : Int) : decide ((Sum.inl a : Key) = Sum.inl b) = (a == b) := by
  by_cases e : a = b
  · subst e; simp
  · have h : ¬ (Sum.inl a : Key) = Sum.inl b := fun q => e (Sum.inl.inj q)
    rw [decide_eq_false h]
    exact (beq_eq_false_iff_ne.mpr e).symm
theorem key_rr (a b : Str) : decide ((Sum.inr a : Key) = Sum.inr b) = decide (a = b) := by
  by_cases e : a = b
  · subst e; simp
  · have h : ¬ (Sum.inr a : Key) = Sum.inr b := fun q => e (Sum.inr.inj q)
    rw [decide_eq_false h, decide_eq_false e]
theorem key_lr (a : Int) (b : Str) : decide ((Sum.inl a : Key) = Sum.inr b) = false := decide_eq_false (fun q => nomatch q)
theorem key_rl (a : Str) (b : Int) : decide ((Sum.inr a : Key) = Sum.inl b) = false := decide_eq_false (fun q => nomatch q)

def mixKind (prog : Program) (w : World) : PySem.KeyKind prog w Key where
  is := keyIs
  hash := keyH w
  inj := fun v a b ha hb => by
    rcases keyIs_shape ha with ⟨i, t, rfl, rfl⟩ | ⟨x, t, rfl, rfl⟩
    · rcases keyIs_shape hb with ⟨j, u, rfl, e⟩ | ⟨y, u, rfl, e⟩
      · injection e with e1 _; rw [e1]
      · exact nomatch e
    · rcases keyIs_shape hb with ⟨j, u, rfl, e⟩ | ⟨y, u, rfl, e⟩
      · exact nomatch e
      · injection e with e1 _; rw [e1]
  byValue := fun k v h => by
    rcases keyIs_shape h with ⟨i, t, rfl, rfl⟩ | ⟨x, t, rfl, rfl⟩ <;> rfl
  pyHash := fun hv h => by
    rcases keyIs_shape hv with ⟨i, t, rfl, rfl⟩ | ⟨x, t, rfl, rfl⟩
    · exact wpAny_pyHash_int h
    · exact wpAny_pyHash_str h
  eqBool := fun hu hv h => by
    rcases keyIs_shape hu with ⟨i, t, rfl, rfl⟩ | ⟨x, t, rfl, rfl⟩
    · rcases keyIs_shape hv with ⟨j, u, rfl, rfl⟩ | ⟨y, u, rfl, rfl⟩
      · rw [key_ll] at h; exact wpAny_eqBool_int h
      · rw [key_lr] at h; exact SeqAt.EqAt.int_str i t y u _ _ _ _ h
    · rcases keyIs_shape hv with ⟨j, u, rfl, rfl⟩ | ⟨y, u, rfl, rfl⟩
      · rw [key_rl] at h; exact SeqAt.EqAt.str_int x t j u _ _ _ _ h
      · rw [key_rr] at h; exact wpAny_eqBool_str h
  «strs» := fun k x t v h => by
    rcases keyIs_shape h with ⟨i, u, rfl, e⟩ | ⟨y, u, rfl, e⟩
    · exact nomatch e
    · injection e with e1 _
      subst e1
      cases v <;> rfl

theorem mixKind_int (prog : Program) (w : World) (i : Int) (t : Tok) : (mixKind prog w).is (.inl i) (.int i t) = true := keyIs_int i t
theorem mixKind_str (prog : Program) (w : World) (x : Str) (t : Tok) : (mixKind prog w).is (.inr x) (.str x t) = true := keyIs_str x t
end L2

namespace L2
open PySem PySem.Spec PyProof.Rows

inductive V where
  | non | bl (b : Bool) | int (i : Int) | str (x : Str) | byt (b : Array UInt8) | flt (b : UInt64) | ref (a : Addr) | ty (n : String)
  deriving DecidableEq

def RelV : V → Value → Prop
  | .non, u => u = Value.none
  | .bl b, u => u = Value.bool b
  | .int i, u => ∃ t, u = Value.int i t
  | .str x, u => ∃ t, u = Value.str x t
  | .byt b, u => ∃ t, u = Value.bytes b t
  | .flt b, u => ∃ t, u = Value.float b t
  | .ref a, u => u = Value.ref a
  | .ty n, u => u = Value.type n

abbrev Vals : List V → List Value → Prop := Paired RelV
theorem Vals.length {xs : List V} {us : List Value} (r : Vals xs us) : xs.length = us.length := Paired.length r
theorem Vals.get : ∀ {xs : List V} {us : List Value} {i : Nat} {x : V}, Vals xs us → xs[i]? = some x → ∃ u, us[i]? = some u ∧ RelV x u
  | _, _, _, _, .nil, e => by simp at e
  | _, _, 0, _, .cons r _, e => by simp at e; subst e; exact ⟨_, rfl, r⟩
  | _, _, i + 1, x, .cons _ t, e => by
    obtain ⟨u, h1, h2⟩ := Vals.get (i := i) (x := x) t (by simpa using e)
    exact ⟨u, by simpa using h1, h2⟩
theorem Vals.set {x : V} {u : Value} (r : RelV x u) : ∀ {xs : List V} {us : List Value} (i : Nat), Vals xs us → Vals (xs.set i x) (us.set i u)
  | _, _, _, .nil => .nil
  | _, _, 0, .cons _ t => .cons r t
  | _, _, i + 1, .cons q t => .cons q (Vals.set r i t)
theorem Vals.append : ∀ {xs ys : List V} {us ws : List Value}, Vals xs us → Vals ys ws → Vals (xs ++ ys) (us ++ ws)
  | _, _, _, _, .nil, s => s
  | _, _, _, _, .cons r t, s => .cons r (Vals.append t s)
theorem Vals.take : ∀ {xs : List V} {us : List Value} (n : Nat), Vals xs us → Vals (xs.take n) (us.take n)
  | _, _, 0, _ => .nil
  | _, _, _ + 1, .nil => .nil
  | _, _, n + 1, .cons r t => .cons r (Vals.take n t)
theorem Vals.drop : ∀ {xs : List V} {us : List Value} (n : Nat), Vals xs us → Vals (xs.drop n) (us.drop n)
  | _, _, 0, r => r
  | _, _, _ + 1, .nil => .nil
  | _, _, n + 1, .cons _ t => Vals.drop n t
theorem Vals.none_of : ∀ {xs : List V} {us : List Value} {i : Nat}, Vals xs us → xs[i]? = none → us[i]? = none := fun {xs us i} r e => by
  have h1 := r.length
  have h2 : xs.length ≤ i := List.getElem?_eq_none_iff.mp e
  exact List.getElem?_eq_none_iff.mpr (by omega)

def RelO : Option V → Option Value → Prop
  | some v, some u => RelV v u
  | none, none => True
  | _, _ => False
def KV {κ : Type} : List (κ × V) → List (κ × Value) → Prop := Paired fun (p : κ × V) (q : κ × Value) => p.1 = q.1 ∧ RelV p.2 q.2

def kV : Key → V
  | .inl i => .int i
  | .inr x => .str x

inductive HO where
  /-- a list -/
  | lst (xs : List V)
  /-- a tuple (never changes) -/
  | tup (xs : List V)
  /-- a dict whose keys are ints and texts; one whose keys are tuples of ints and texts (the empty one is both) -/
  | dK (kvs : List (Key × V)) | dT (kvs : List (List Key × V))
  /-- a set of ints: its members, its size -/
  | set (S : Int → Bool) (n : Nat)
  /-- an instance of the class at C, its dict at dx, its attributes -/
  | ins (C dx : Addr) (fs : List (Str × V))
  /-- the dict of the instance at x -/
  | own (x : Addr)
  /-- the dict of an exception -/
  | xd (fs : List (Str × V))
  /-- a bound method, f of x -/
  | met (f x : Addr)
  /-- a range object lo, lo + 1, .. below hi -/
  | rng (lo hi : Int)
  /-- a thing that is known to the object (the script; a dict while a loop walks it): read, never written while it is so -/
  | frz (o : Obj) (u : HO)
  /-- a code object's table -/
  | tbl (ps : Array Value)
  /-- any other thing, by what is true of its one object (a def of one's own: SetO a S n := HO.ext fun h => ..) -/
  | ext (φ : Heap → Prop)

abbrev Hp := Addr → Option HO
def upd (H : Hp) (a : Addr) (o : HO) : Hp := fun b => if b = a then some o else H b
theorem upd_same {H : Hp} {a : Addr} {o : HO} : upd H a o a = some o := by unfold upd; rw [if_pos rfl]
theorem upd_ne {H : Hp} {a b : Addr} {o : HO} (h : b ≠ a) : upd H a o b = H b := by unfold upd; rw [if_neg h]
theorem ne_of {H : Hp} {a b : Addr} {o u : HO} (h : H a = some o) (h' : H b = some u) (d : o ≠ u) : a ≠ b := by
  intro e; subst e; rw [h] at h'; exact d (Option.some.inj h')
theorem ne_of_none {H : Hp} {a b : Addr} {o : HO} (h : H a = some o) (h' : H b = none) : a ≠ b := by
  intro e; subst e; rw [h] at h'; cases h'

section
variable (P : Program) (w : World)
def ObjOk (H : Hp) (h : Heap) (a : Addr) : HO → Prop
  | .lst xs => xs.length ≤ sizeLine ∧ ∃ (its : List Value) (n : Nat), Vals xs its ∧ h.get? a = some { cls := .type "list", data := .seq its.toArray n }
  | .tup xs => xs.length ≤ sizeLine ∧ ∃ its : List Value, Vals xs its ∧ IsTup h a its.toArray
  | .dK kvs => kvs.length ≤ sizeLine ∧ (a == sysModules) = false ∧ ∃ vs, KV kvs vs ∧ h.DictOf (mixKind P w) a vs
  | .dT kvs => kvs.length ≤ sizeLine ∧ (a == sysModules) = false ∧ ∃ xs : List (List Key × Addr × Value),
      Paired (fun (p : List Key × V) (q : List Key × Addr × Value) => p.1 = q.1 ∧ H q.2.1 = some (.tup (p.1.map kV)) ∧ RelV p.2 q.2.2) kvs xs ∧
      ∃ o es ep, h.get? a = some o ∧ o.ExactDict ∧ o.data = .dict es ep ∧ es.toList = xs.map (entryOfKey (tupleKind (mixKind P w))) ∧ (xs.map (·.1)).Nodup
  | .set S n => h.SetOf (intKind P w) a S n
  | .ins C dx fs => H dx = some (.own a) ∧ fs.length ≤ 1000 ∧ dx ≠ a ∧ h.get? a = some (PySem.W.instObj C dx) ∧
      ∃ mA, h.Ns1 dx mA ∧ (∀ f, RelO (fs.lookup f) (mA f)) ∧ PySem.Within mA (fs.map (·.1))
  | .own _ => ∃ o, h.get? a = some o
  | .xd fs => ∃ mA, h.Ns1 a mA ∧ ∀ f, RelO (fs.lookup f) (mA f)
  | .rng lo hi => ∃ t u v, h.get? a = some { cls := .type "range", data := .fields #[.int lo t, .int hi u, .int 1 v] }
  | .frz o u => h.get? a = some o ∧ ObjOk H h a u
  | .tbl ps => h.get? a = some { cls := .none, data := .fields ps }
  | .met f x => h.get? a = some (PySem.W.methodObj (.ref f) (.ref x))
  | .ext φ => φ h ∧ (∃ o, h.get? a = some o) ∧ ∀ h1 h2 : Heap, φ h1 → (∀ o, h1.get? a = some o → h2.get? a = some o) → φ h2
def HOk (H : Hp) (h : Heap) : Prop := ∀ a o, H a = some o → ObjOk P w H h a o
end

section
variable {P : Program} {w : World} {H H' : Hp} {h h' : Heap} {a : Addr} {o : HO}
theorem ObjOk.lt (x : ObjOk P w H h a o) : a < h.objs.size := by
  cases o with
  | lst xs => obtain ⟨_, _, _, _, e⟩ := x; exact Heap.lt_size e
  | tup xs => obtain ⟨_, _, _, p⟩ := x; exact p.lt
  | dK kvs => obtain ⟨_, _, _, _, o, _, _, e, _⟩ := x; exact Heap.lt_size e
  | dT kvs => obtain ⟨_, _, _, _, o, _, _, e, _⟩ := x; exact Heap.lt_size e
  | set S n => obtain ⟨o, _, _, _, e, _⟩ := x; exact Heap.lt_size e
  | ins C dx fs => obtain ⟨_, _, _, e, _⟩ := x; exact Heap.lt_size e
  | own y => obtain ⟨_, e⟩ := x; exact Heap.lt_size e
  | xd fs => obtain ⟨_, ⟨_, _, _, e, _⟩, _⟩ := x; exact Heap.lt_size e
  | rng lo hi => obtain ⟨_, _, _, e⟩ := x; exact Heap.lt_size e
  | frz ob u => obtain ⟨e, _⟩ := x; exact Heap.lt_size e
  | tbl ps => exact Heap.lt_size (show h.get? a = some _ from x)
  | met f y => exact Heap.lt_size (show h.get? a = some _ from x)
  | ext φ => obtain ⟨_, ⟨_, e⟩, _⟩ := x; exact Heap.lt_size e
theorem Paired.mapP {α β : Type} {F G : α → β → Prop} : ∀ {l₁ : List α} {l₂ : List β}, Paired F l₁ l₂ → (∀ a b, F a b → G a b) → Paired G l₁ l₂
  | _, _, .nil, _ => .nil
  | _, _, .cons r t, f => .cons (f _ _ r) (Paired.mapP t f)
theorem ObjOk.stay (x : ObjOk P w H h a o) (k : ∀ b u, (b = a ∨ H b = some (.own a)) → h.get? b = some u → h'.get? b = some u)
    (ho : ∀ b, H b = some (.own a) → H' b = some (.own a)) (ht : ∀ b xs, H b = some (.tup xs) → H' b = some (.tup xs)) : ObjOk P w H' h' a o := by
  induction o with
  | lst xs => obtain ⟨z, its, n, r, e⟩ := x; exact ⟨z, its, n, r, k _ _ (.inl rfl) e⟩
  | tup xs => obtain ⟨z, its, r, ob, e, c⟩ := x; exact ⟨z, its, r, ob, k _ _ (.inl rfl) e, c⟩
  | dK kvs => obtain ⟨z, y, vs, r, ob, es, ep, e, c⟩ := x; exact ⟨z, y, vs, r, ob, es, ep, k _ _ (.inl rfl) e, c⟩
  | dT kvs =>
    obtain ⟨z, y, xs, r, ob, es, ep, e, c⟩ := x
    exact ⟨z, y, xs, Paired.mapP r fun p q z => ⟨z.1, ht _ _ z.2.1, z.2.2⟩, ob, es, ep, k _ _ (.inl rfl) e, c⟩
  | set S n => obtain ⟨ob, es, ep, t, e, c⟩ := x; exact ⟨ob, es, ep, t, k _ _ (.inl rfl) e, c⟩
  | ins C dx fs =>
    obtain ⟨d, z, ne, e, mA, ⟨od, es, ep, e2, c⟩, r⟩ := x
    exact ⟨ho _ d, z, ne, k _ _ (.inl rfl) e, mA, ⟨od, es, ep, k _ _ (.inr d) e2, c⟩, r⟩
  | own y => obtain ⟨ob, e⟩ := x; exact ⟨ob, k _ _ (.inl rfl) e⟩
  | xd fs => obtain ⟨mA, ⟨od, es, ep, e, c⟩, r⟩ := x; exact ⟨mA, ⟨od, es, ep, k _ _ (.inl rfl) e, c⟩, r⟩
  | rng lo hi => obtain ⟨t, u, v, e⟩ := x; exact ⟨t, u, v, k _ _ (.inl rfl) e⟩
  | frz ob u ih => obtain ⟨e, q⟩ := x; exact ⟨k _ _ (.inl rfl) e, ih q⟩
  | tbl ps =>
    have e : h.get? a = some { cls := .none, data := .fields ps } := x
    show h'.get? a = some { cls := .none, data := .fields ps }
    exact k a _ (.inl rfl) e
  | met f y =>
    have e : h.get? a = some (PySem.W.methodObj (.ref f) (.ref y)) := x
    show h'.get? a = some (PySem.W.methodObj (.ref f) (.ref y))
    exact k a _ (.inl rfl) e
  | ext φ => obtain ⟨p, ⟨o, e⟩, st⟩ := x; exact ⟨st _ _ p fun o q => k _ _ (.inl rfl) q, ⟨o, k _ _ (.inl rfl) e⟩, st⟩
theorem HOk.lt (x : HOk P w H h) (e : H a = some o) : a < h.objs.size := (x a o e).lt
theorem HOk.fresh (x : HOk P w H h) (e : h.objs.size ≤ a) : H a = none := by
  cases q : H a with
  | none => rfl
  | some u => exact absurd (Nat.lt_of_lt_of_le (x.lt q) e) (Nat.lt_irrefl _)
theorem HOk.kept (x : HOk P w H h) (k : ∀ b u, h.get? b = some u → h'.get? b = some u) : HOk P w H h' := fun a o e =>
  (x a o e).stay (fun b u _ q => k b u q) (fun _ q => q) fun _ _ q => q
theorem HOk.laid (x : HOk P w H h) (k : ∀ b u, h.get? b = some u → h'.get? b = some u) (hp : h.objs.size ≤ a) (new : ObjOk P w (upd H a o) h' a o) : HOk P w (upd H a o) h' := fun b u e => by
  have hn := x.fresh hp
  by_cases hb : b = a
  · subst hb; rw [upd_same] at e; cases e; exact new
  · rw [upd_ne hb] at e
    exact (x b u e).stay (fun c v _ q => k c v q) (fun c q => by rw [upd_ne (ne_of_none q hn)]; exact q) fun c xs q => by rw [upd_ne (ne_of_none q hn)]; exact q
end

def Rd (H : Hp) (a : Addr) (u : HO) : Prop := H a = some u ∨ ∃ o, H a = some (.frz o u)
theorem Rd.of {H : Hp} {a : Addr} {u : HO} (h : H a = some u) : Rd H a u := .inl h
theorem Rd.ok {P : Program} {w : World} {H : Hp} {h : Heap} {a : Addr} {u : HO} (r : Rd H a u) (x : HOk P w H h) : ObjOk P w H h a u := by
  rcases r with r | ⟨o, r⟩
  · exact x a u r
  · obtain ⟨_, q⟩ := x a _ r
    exact q
def Mut : Option HO → Prop
  | some (.lst _) => True
  | some (.dK _) => True
  | some (.dT _) => True
  | some (.set _ _) => True
  | some (.ins _ _ _) => True
  | some (.ext _) => True
  | _ => False
section
variable {P : Program} {w : World} {H : Hp} {h h' : Heap} {x e : Addr} {o' : HO}
theorem HOk.write (ok : HOk P w H h) (mu : Mut (H x)) (he : e = x ∨ H e = some (.own x)) (k : ∀ b u, b ≠ e → h.get? b = some u → h'.get? b = some u) (heo : ∃ u, h'.get? e = some u)
    (new : ObjOk P w (upd H x o') h' x o') : HOk P w (upd H x o') h' := fun b u q => by
  have nown : ∀ c y, H c = some (.own y) → c ≠ x := fun c y r z => by subst z; rw [r] at mu; exact mu
  have ntup : ∀ c xs, H c = some (.tup xs) → c ≠ x := fun c xs r z => by subst z; rw [r] at mu; exact mu
  by_cases hb : b = x
  · subst hb; rw [upd_same] at q; cases q; exact new
  · rw [upd_ne hb] at q
    by_cases hbe : b = e
    · have q' : H b = some (.own x) := by
        rcases he with z | z
        · exact absurd (hbe.trans z) hb
        · rw [hbe]; exact z
      rw [q] at q'; cases q'
      obtain ⟨v, hv⟩ := heo
      exact ⟨v, by rw [hbe]; exact hv⟩
    · refine (ok b u q).stay (fun c v hc r => k c v ?_ r) (fun c r => by rw [upd_ne (nown c b r)]; exact r) fun c xs r => by rw [upd_ne (ntup c xs r)]; exact r
      rcases hc with rfl | hc
      · exact hbe
      · rintro rfl
        rcases he with z | z
        · exact nown c b hc z
        · rw [hc] at z; cases z; exact hb rfl
end

structure Un (fs ex : List Addr) (H H' : Hp) (h h' : Heap) : Prop where
  keep : ∀ b o, h.get? b = some o → H b = none → b ∉ fs → b ∉ ex → h'.get? b = some o
  slot : ∀ b o, h.get? b = some o → H b = none → b ∈ fs → b ∉ ex → ∃ sl, h'.get? b = some { o with slots := sl }
  free : ∀ b o, h.get? b = some o → H b = none → b ∉ ex → H' b = none
  there : ∀ b o, h.get? b = some o → b ∉ ex → ∃ o', h'.get? b = some o'
  tups : ∀ b xs, H b = some (.tup xs) → H' b = some (.tup xs)
  frzs : ∀ b o u, H b = some (.frz o u) → H' b = some (.frz o u)
  tbls : ∀ b ps, H b = some (.tbl ps) → ∃ more, H' b = some (.tbl (ps ++ more))
section
variable {fs fs' ex ex' : List Addr} {H H1 H2 : Hp} {h h1 h2 h' : Heap} {a x e : Addr} {o : HO}
theorem Un.any (u : Un fs ex H H1 h h1) {b : Addr} {ob : Obj} (q : h.get? b = some ob) (n : H b = none) (hx : b ∉ ex) : ∃ sl, h1.get? b = some { ob with slots := sl } := by
  by_cases hb : b ∈ fs
  · exact u.slot b ob q n hb hx
  · exact ⟨ob.slots, u.keep b ob q n hb hx⟩
theorem Un.trans (a : Un fs ex H H1 h h1) (b : Un fs ex H1 H2 h1 h2) : Un fs ex H H2 h h2 where
  keep := fun c ob q n hc hx => b.keep c ob (a.keep c ob q n hc hx) (a.free c ob q n hx) hc hx
  slot := fun c ob q n hc hx => by
    obtain ⟨sl, e1⟩ := a.slot c ob q n hc hx
    obtain ⟨sl', e2⟩ := b.slot c _ e1 (a.free c ob q n hx) hc hx
    exact ⟨sl', e2⟩
  free := fun c ob q n hx => by
    obtain ⟨o', e1⟩ := a.there c ob q hx
    exact b.free c o' e1 (a.free c ob q n hx) hx
  there := fun c ob q hx => by
    obtain ⟨o', e1⟩ := a.there c ob q hx
    exact b.there c o' e1 hx
  tups := fun c xs q => b.tups c xs (a.tups c xs q)
  frzs := fun c ob xs q => b.frzs c ob xs (a.frzs c ob xs q)
  tbls := fun c ps q => by
    obtain ⟨m1, e1⟩ := a.tbls c ps q
    obtain ⟨m2, e2⟩ := b.tbls c _ e1
    exact ⟨m1 ++ m2, by rw [e2, Array.append_assoc]⟩
theorem Un.kept (k : ∀ b u, h.get? b = some u → h'.get? b = some u) : Un fs ex H H h h' :=
  ⟨fun b ob q _ _ _ => k b ob q, fun b ob q _ _ _ => ⟨ob.slots, k b ob q⟩, fun _ _ _ n _ => n, fun b ob q _ => ⟨ob, k b ob q⟩, fun _ _ q => q, fun _ _ _ q => q, fun _ ps q => ⟨#[], by rw [q]; simp⟩⟩
theorem Un.refl : Un fs ex H H h h := Un.kept fun _ _ q => q
theorem Un.laid (k : ∀ b u, h.get? b = some u → h'.get? b = some u) (hp : h.objs.size ≤ a) (hn : H a = none) : Un fs ex H (upd H a o) h h' where
  keep := fun b u q _ _ _ => k b u q
  slot := fun b u q _ _ _ => ⟨u.slots, k b u q⟩
  free := fun b u q n _ => by rw [upd_ne (Nat.ne_of_lt (Nat.lt_of_lt_of_le (Heap.lt_size q) hp))]; exact n
  there := fun b u q _ => ⟨u, k b u q⟩
  tups := fun b xs q => by rw [upd_ne (ne_of_none q hn)]; exact q
  frzs := fun b u xs q => by rw [upd_ne (ne_of_none q hn)]; exact q
  tbls := fun b ps q => ⟨#[], by rw [upd_ne (ne_of_none q hn), q]; simp⟩
theorem Un.write (mu : Mut (H x)) (he : e = x ∨ H e = some (.own x)) (k : ∀ b u, b ≠ e → h.get? b = some u → h'.get? b = some u) (heo : ∃ u, h'.get? e = some u) : Un fs ex H (upd H x o) h h' := by
  have hx : ∀ b, H b = none → b ≠ x := fun b n z => by subst z; rw [n] at mu; exact mu
  have hb : ∀ b, H b = none → b ≠ e := fun b n z => by
    subst z
    rcases he with r | r
    · exact hx b n r
    · rw [n] at r; cases r
  have hm : ∀ b u, H b = some u → ¬ Mut (some u) → b ≠ x := fun b u q nm z => by subst z; rw [q] at mu; exact nm mu
  refine ⟨fun b u q n _ _ => k b u (hb b n) q, fun b u q n _ _ => ⟨u.slots, k b u (hb b n) q⟩, fun b u q n _ => by rw [upd_ne (hx b n)]; exact n, fun b u q _ => ?_,
    fun b xs q => by rw [upd_ne (hm b _ q fun z => z)]; exact q, fun b u xs q => by rw [upd_ne (hm b _ q fun z => z)]; exact q, fun b ps q => ⟨#[], by rw [upd_ne (hm b _ q fun z => z), q]; simp⟩⟩
  by_cases hbe : b = e
  · subst hbe; exact heo
  · exact ⟨u, k b u hbe q⟩
theorem Un.mono (u : Un fs ex H H1 h h1) (hs : ∀ b ∈ fs, b ∈ fs') (hx : ∀ b ∈ ex, b ∈ ex') : Un fs' ex' H H1 h h1 :=
  ⟨fun b ob q n hb he => u.keep b ob q n (fun z => hb (hs b z)) fun z => he (hx b z), fun _ _ q n _ he => u.any q n fun z => he (hx _ z), fun b ob q n he => u.free b ob q n fun z => he (hx b z), fun b ob q he => u.there b ob q fun z => he (hx b z), u.tups, u.frzs, u.tbls⟩
end

def trk (h : Heap) (H : Hp) : List Addr := (List.range h.objs.size).filter fun a => (H a).isSome
def hidT (h : Heap) (H : Hp) : Heap := PySem.W.hideAll h (trk h H)
theorem hidT_size (h : Heap) (H : Hp) : (hidT h H).objs.size = h.objs.size := PySem.W.hideAll_size _ _
theorem hidT_get {h : Heap} {H : Hp} {b : Addr} {o : Obj} (e : h.get? b = some o) (n : H b = none) : (hidT h H).get? b = some o :=
  PySem.W.hideAll_get _ e fun hm => by
    have q : (H b).isSome = true := (List.mem_filter.mp hm).2
    rw [n] at q; simp at q
theorem of_hidT {h : Heap} {H : Hp} {b : Addr} {o : Obj} (e : (hidT h H).get? b = some o) : h.get? b = some o ∧ H b = none := by
  have e' : h.get? b = some o := PySem.W.of_hideAll (trk h H) e
  refine ⟨e', ?_⟩
  cases q : H b with
  | none => rfl
  | some x =>
    have hm : b ∈ trk h H := List.mem_filter.mpr ⟨List.mem_range.mpr (Heap.lt_size e'), by simp [q]⟩
    have z : (hidT h H).get? b = none := PySem.W.hideAll_none (trk h H) hm
    rw [z] at e; cases e

def allNews (g h : Heap) (L : Addr) : List (Addr × Obj) := (List.range h.objs.size).filterMap fun a => if a = L ∨ (g.get? a).isSome = true then none else (h.get? a).map fun o => (a, o)
def rest (g h : Heap) (L d : Addr) : List (Addr × Obj) := (allNews g h L).filter fun p => decide (p.1 ≠ d)
end L2

namespace L2
open PySem PySem.Spec PyProof.Rows

structure Mod (K : PySem.W.Frag) (mg : Str → Option Value) (base : Heap) : Prop where
  kin : K.In base
  glob : base.Ns mainGlobals mg
  blt : ∃ mb, base.Ns builtinsNs mb ∧ ∀ x : Str, x ≠ "__name__" → mb x = bootBuiltins x
  nolimit : base.NoLimit
  seer : base.NoSeer

structure Cx where
  prog : Program
  w : World
  K : PySem.W.Frag
  mg : Str → Option Value
  base : Heap
  A : Around
  N : List Str
  s₀ : Shared
  H₀ : Hp
  env : Env
  outer : List Env
  stack : List Env
  ex : List Addr
  fn : Str → Bool
  calm : Bool
  pn : List (Addr × Obj)
  xe : Value → Shared → Prop
def frs (l : List Env) : List Addr := l.filterMap (·.frame)
abbrev Cx.fs (X : Cx) : List Addr := frs X.outer

def Vis (sc : Scope) (x : Str) : Prop := sc.names.lookup x = some .local ∨ sc.names.lookup x = some .cell ∨ sc.names.lookup x = some .free
def Loc (sc : Scope) (x : Str) : Prop := sc.names.lookup x = some .local ∨ sc.names.lookup x = some .cell
def Look (env : Env) (h : Heap) (m : Str → Option Value) (x : Str) (u : Value) : Prop :=
  (env.kindOf x = some .local ∧ m x = some u) ∨ ((env.kindOf x = some .cell ∨ env.kindOf x = some .free) ∧ ∃ c, env.cells.lookup x = some c ∧ h.IsCell c (some u))

structure Cx.Ok (X : Cx) : Prop where
  mod : Mod X.K X.mg X.base
  kind : X.env.scope.kind = .function
  glob : X.env.globals = mainGlobals
  blt : X.env.builtins = builtinsNs
  above : X.s₀.heap.objs.size ≤ X.env.locals
  inj : ∀ x y c, X.env.cells.lookup x = some c → X.env.cells.lookup y = some c → x = y
  has : ∀ x, (X.env.kindOf x = some .cell ∨ X.env.kindOf x = some .free) → ∃ c, X.env.cells.lookup x = some c
  cab : ∀ x c, X.fn x = true → X.env.cells.lookup x = some c → X.s₀.heap.objs.size ≤ c
  hd : X.calm = true → X.A.handled = none
  frames : X.A.frames = some X.stack
  stk : X.stack = X.outer ∨ (X.stack = X.env :: X.outer ∧ X.env.frame = some X.env.locals)
  exf : ∀ b ∈ X.ex, b ≠ X.env.locals ∧ ∀ x c, X.env.cells.lookup x = some c → c ≠ b
  bs : ∀ b o, X.base.get? b = some o → X.s₀.heap.get? b = some o ∧ X.H₀ b = none
  bsz : X.base.objs.size ≤ X.s₀.heap.objs.size
  noex : ∀ b o, X.base.get? b = some o → b ∉ X.ex
  exfs : ∀ b ∈ X.ex, b ∉ X.fs
  funs : X.s₀.heap.FunFrames X.base X.outer
  frf : ∀ b ∈ X.fs, X.H₀ b = none

structure Inv (X : Cx) (pins : List (Addr × Obj)) (σ : List (Option V)) (H : Hp) (s : Shared) : Prop where
  ok : X.Ok
  os : s.os = X.s₀.os
  bare : AllBare s.gens
  base : Un X.fs X.ex X.H₀ H X.s₀.heap s.heap
  loc : ∃ m, s.heap.Ns X.env.locals m ∧ ∀ (i : Nat) (x : Str) (v : V), X.N[i]? = some x → σ[i]? = some (some v) → Vis X.env.scope x → ∃ u, RelV v u ∧ Look X.env s.heap m x u
  cell : ∀ x c, X.env.cells.lookup x = some c → ∃ v, s.heap.IsCell c v
  free : H X.env.locals = none
  freeC : ∀ x c, X.env.cells.lookup x = some c → H c = none
  pin : ∀ p ∈ X.pn ++ pins, s.heap.get? p.1 = some p.2 ∧ H p.1 = none ∧ p.1 ≠ X.env.locals ∧ p.1 ∉ X.fs ∧ ∀ v, p.2.data ≠ .cell v
  hok : HOk X.prog X.w H s.heap
  len : σ.length = X.N.length

section
variable {X : Cx} {pins : List (Addr × Obj)} {σ : List (Option V)} {H H' : Hp} {s : Shared} {h' : Heap}

theorem Cx.Ok.nofr (ok : X.Ok) {b : Addr} {o : Obj} (e : X.base.get? b = some o) : b ∉ X.fs := fun hb => by
  have := (ok.funs.mem hb).1
  rw [e] at this; cases this
theorem Inv.bs (I : Inv X pins σ H s) : ∀ b o, X.base.get? b = some o → s.heap.get? b = some o ∧ H b = none := fun b o e =>
  ⟨I.base.keep b o (I.ok.bs b o e).1 (I.ok.bs b o e).2 (I.ok.nofr e) (I.ok.noex b o e), I.base.free b o (I.ok.bs b o e).1 (I.ok.bs b o e).2 (I.ok.noex b o e)⟩
theorem Inv.bk (I : Inv X pins σ H s) : ∀ b o, X.base.get? b = some o → s.heap.get? b = some o := fun b o e => (I.bs b o e).1
theorem Inv.mod (I : Inv X pins σ H s) : Mod X.K X.mg X.base := I.ok.mod
theorem Inv.kIn (I : Inv X pins σ H s) : X.K.In s.heap := I.ok.mod.kin.keeps I.bk
theorem Inv.nolimit (I : Inv X pins σ H s) : s.heap.NoLimit := I.ok.mod.nolimit.keeps I.bk
theorem Inv.fr (I : Inv X pins σ H s) : ∃ m, Fr X.base X.env.locals s.heap m :=
  let ⟨m, hn, _⟩ := I.loc
  ⟨m, hn, I.bk, Nat.le_trans I.ok.bsz I.ok.above⟩
theorem Inv.lt (I : Inv X pins σ H s) : X.env.locals < s.heap.objs.size := let ⟨_, hn, _⟩ := I.loc; hn.lt
theorem Inv.sz (I : Inv X pins σ H s) : X.s₀.heap.objs.size ≤ s.heap.objs.size := Nat.le_trans I.ok.above (Nat.le_of_lt I.lt)
theorem Inv.nofs (I : Inv X pins σ H s) {a : Addr} (h : s.heap.objs.size ≤ a) : a ∉ X.fs := fun hb => by
  obtain ⟨_, o, ho, _⟩ := I.ok.funs.mem hb
  exact absurd (Nat.lt_of_lt_of_le (Heap.lt_size ho) (Nat.le_trans I.sz h)) (Nat.lt_irrefl _)
theorem Inv.cne (I : Inv X pins σ H s) : ∀ x c, X.env.cells.lookup x = some c → c ≠ X.env.locals := fun x c e z => by
  obtain ⟨v, o, ho, hd⟩ := I.cell x c e
  obtain ⟨m, ⟨o', es, ep, ho', hd', _⟩, _⟩ := I.loc
  rw [z, ho'] at ho; cases ho; rw [hd'] at hd; cases hd
theorem Inv.funs (I : Inv X pins σ H s) : s.heap.FunFrames X.base X.outer := by
  have all : ∀ (l : List Env), (∀ b ∈ frs l, b ∈ X.fs) → X.s₀.heap.FunFrames X.base l → s.heap.FunFrames X.base l := by
    intro l
    induction l with
    | nil => intro _ _; trivial
    | cons env r ih =>
      intro hs hl
      obtain ⟨hk, ⟨L, o, hf, hn, ho, hd⟩, hr⟩ := hl
      have hL : L ∈ X.fs := hs L (by unfold frs; rw [List.filterMap_cons, hf]; exact List.mem_cons_self)
      obtain ⟨sl, e⟩ := I.base.slot L o ho (I.ok.frf L hL) hL fun z => I.ok.exfs L z hL
      exact ⟨hk, ⟨L, _, hf, hn, e, hd⟩, ih (fun b hb => hs b (by unfold frs; rw [List.filterMap_cons, hf]; exact List.mem_cons_of_mem _ hb)) hr⟩
  exact all X.outer (fun _ hb => hb) I.ok.funs

theorem Inv.stack (I : Inv X pins σ H s) : s.heap.FunFrames X.base X.stack := by
  rcases I.ok.stk with e | ⟨e, hf⟩
  · rw [e]; exact I.funs
  · rw [e]
    obtain ⟨m, hn, _⟩ := I.loc
    refine .cons (by rw [I.ok.kind]; decide) hf hn ?_ I.funs
    exact Heap.get?_none_of_le (Nat.le_trans I.ok.bsz I.ok.above)
theorem Inv.stkSub (I : Inv X pins σ H s) : ∀ b ∈ frs X.stack, b ∈ X.env.locals :: X.fs := fun b hb => by
  rcases I.ok.stk with e | ⟨e, hf⟩
  · rw [e] at hb; exact List.mem_cons_of_mem _ hb
  · rw [e] at hb
    unfold frs at hb
    rw [List.filterMap_cons, hf] at hb
    exact hb
theorem Inv.stkFree (I : Inv X pins σ H s) : ∀ b ∈ frs X.stack, H b = none := fun b hb => by
  rcases List.mem_cons.mp (I.stkSub b hb) with e | hb
  · rw [e]; exact I.free
  · obtain ⟨_, o, ho, _⟩ := I.ok.funs.mem hb
    exact I.base.free b o ho (I.ok.frf b hb) fun z => I.ok.exfs b z hb

theorem Inv.step {g' : Array GenState} {t' : Nat} {d' : Drawn} {ch : List Addr} (I : Inv X pins σ H s)
    (hch : ∀ b ∈ ch, (b ∈ X.ex ∨ X.s₀.heap.objs.size ≤ b) ∧ b ≠ X.env.locals ∧ (∀ x c, X.env.cells.lookup x = some c → c ≠ b) ∧ ∀ p ∈ X.pn ++ pins, p.1 ≠ b)
    (keep : ∀ b o, b ≠ X.env.locals → b ∉ X.fs → b ∉ ch → s.heap.get? b = some o → H b = none → h'.get? b = some o)
    (slot : ∀ b o, b ≠ X.env.locals → b ∈ X.fs → b ∉ ch → s.heap.get? b = some o → H b = none → ∃ sl, h'.get? b = some { o with slots := sl }) (free : ∀ b o, b ∉ ch → s.heap.get? b = some o → H b = none → H' b = none)
    (there : ∀ b o, b ∉ ch → s.heap.get? b = some o → ∃ o', h'.get? b = some o')
    (tups : ∀ b xs, H b = some (.tup xs) → H' b = some (.tup xs)) (frzs : ∀ b o u, H b = some (.frz o u) → H' b = some (.frz o u)) (tbls : ∀ b ps, H b = some (.tbl ps) → ∃ more, H' b = some (.tbl (ps ++ more)))
    (ns : ∀ m, s.heap.Ns X.env.locals m → h'.Ns X.env.locals m) (hok : HOk X.prog X.w H' h') (hg : AllBare g') :
    Inv X pins σ H' { s with heap := h', gens := g', drawn := d', toks := t' } := by
  have neL : ∀ b o, X.s₀.heap.get? b = some o → b ≠ X.env.locals := fun b o e => Nat.ne_of_lt (Nat.lt_of_lt_of_le (Heap.lt_size e) I.ok.above)
  have neC : ∀ b o, X.s₀.heap.get? b = some o → b ∉ X.ex → b ∉ ch := fun b o e hx hb => by
    rcases (hch b hb).1 with z | z
    · exact hx z
    · exact absurd (Nat.lt_of_lt_of_le (Heap.lt_size e) z) (Nat.lt_irrefl _)
  have cellK : ∀ x c, X.env.cells.lookup x = some c → ∀ v, s.heap.IsCell c v → h'.IsCell c v := fun x c e v ⟨o, ho, hd⟩ => by
    have nch : c ∉ ch := fun z => (hch c z).2.2.1 x c e rfl
    by_cases hc : c ∈ X.fs
    · obtain ⟨sl, q⟩ := slot c o (I.cne x c e) hc nch ho (I.freeC x c e)
      exact ⟨_, q, hd⟩
    · exact ⟨o, keep c o (I.cne x c e) hc nch ho (I.freeC x c e), hd⟩
  refine ⟨I.ok, I.os, hg, ⟨fun b o e n hb hx => ?_, fun b o e n hb hx => ?_, fun b o e n hx => ?_, fun b o e hx => ?_, fun b xs e => tups b xs (I.base.tups b xs e), fun b o xs e => frzs b o xs (I.base.frzs b o xs e), fun b ps e => ?_⟩, ?_, fun x c e => ?_, ?_, fun x c e => ?_, fun p hp => ?_, hok, I.len⟩
  · exact keep b o (neL b o e) hb (neC b o e hx) (I.base.keep b o e n hb hx) (I.base.free b o e n hx)
  · obtain ⟨sl, e1⟩ := I.base.slot b o e n hb hx
    obtain ⟨sl', e2⟩ := slot b _ (neL b o e) hb (neC b o e hx) e1 (I.base.free b o e n hx)
    exact ⟨sl', e2⟩
  · obtain ⟨o', e1⟩ := I.base.there b o e hx
    exact free b o' (neC b o e hx) e1 (I.base.free b o e n hx)
  · obtain ⟨o', e1⟩ := I.base.there b o e hx
    exact there b o' (neC b o e hx) e1
  · obtain ⟨m1, e1⟩ := I.base.tbls b ps e
    obtain ⟨m2, e2⟩ := tbls b _ e1
    exact ⟨m1 ++ m2, by rw [e2, Array.append_assoc]⟩
  · obtain ⟨m, hn, hl⟩ := I.loc
    refine ⟨m, ns m hn, fun i x v e1 e2 e3 => ?_⟩
    obtain ⟨u, r, l⟩ := hl i x v e1 e2 e3
    refine ⟨u, r, ?_⟩
    rcases l with l | ⟨k, c, e, z⟩
    · exact .inl l
    · exact .inr ⟨k, c, e, cellK x c e _ z⟩
  · obtain ⟨v, z⟩ := I.cell x c e
    exact ⟨v, cellK x c e v z⟩
  · obtain ⟨m, ⟨o, _, _, ho, _⟩, _⟩ := I.loc
    exact free _ o (fun z => (hch _ z).2.1 rfl) ho I.free
  · obtain ⟨v, o, ho, hd⟩ := I.cell x c e
    exact free c o (fun z => (hch c z).2.2.1 x c e rfl) ho (I.freeC x c e)
  · obtain ⟨e, n, ne, nf, d⟩ := I.pin p hp
    have nch : p.1 ∉ ch := fun z => (hch p.1 z).2.2.2 p hp rfl
    exact ⟨keep p.1 p.2 ne nf nch e n, free p.1 p.2 nch e n, ne, nf, d⟩
theorem Inv.un {t' : Nat} (I : Inv X pins σ H s) (u : Un X.fs [] H H' s.heap h') (hok : HOk X.prog X.w H' h') : Inv X pins σ H' { s with heap := h', toks := t' } := by
  obtain ⟨m, ⟨o, es, ep, ho, r⟩, _⟩ := id I.loc
  obtain ⟨sl, hL⟩ := u.any ho I.free (by simp)
  exact I.step (g' := s.gens) (d' := s.drawn) (ch := []) (fun _ z => nomatch z) (fun b o _ hb _ e n => u.keep b o e n hb (by simp)) (fun b o _ hb _ e n => u.slot b o e n hb (by simp)) (fun b o _ e n => u.free b o e n (by simp)) (fun b o _ e => u.there b o e (by simp)) u.tups u.frzs u.tbls (fun m' hm => by
    obtain ⟨o', es', ep', ho', r'⟩ := hm
    rw [ho] at ho'; cases ho'
    exact ⟨_, es', ep', hL, r'⟩) hok I.bare
theorem Inv.call {g' : Array GenState} {t' : Nat} {d' : Drawn} {ch : List Addr} (I : Inv X pins σ H s) (u : Un (frs X.stack) ch H H' s.heap h') (hok : HOk X.prog X.w H' h') (hg : AllBare g')
    (hch : ∀ b ∈ ch, (b ∈ X.ex ∨ X.s₀.heap.objs.size ≤ b) ∧ b ≠ X.env.locals ∧ (∀ x c, X.env.cells.lookup x = some c → c ≠ b) ∧ ∀ p ∈ X.pn ++ pins, p.1 ≠ b) :
    Inv X pins σ H' { s with heap := h', gens := g', drawn := d', toks := t' } := by
  obtain ⟨m, ⟨o, es, ep, ho, r⟩, _⟩ := id I.loc
  obtain ⟨sl, hL⟩ := u.any ho I.free fun z => (hch _ z).2.1 rfl
  exact I.step (ch := ch) hch (fun b o hL hb hc e n => u.keep b o e n (fun z => (List.mem_cons.mp (I.stkSub b z)).elim hL hb) hc) (fun b o _ _ hc e n => u.any e n hc) (fun b o hc e n => u.free b o e n hc) (fun b o hc e => u.there b o e hc) u.tups u.frzs u.tbls (fun m' hm => by
    obtain ⟨o', es', ep', ho', r'⟩ := hm
    rw [ho] at ho'; cases ho'
    exact ⟨_, es', ep', hL, r'⟩) hok hg
theorem Inv.turned {t' : Nat} {it : Addr} (I : Inv X pins σ H s) (k : ∀ b o, b ≠ it → s.heap.get? b = some o → h'.get? b = some o) (hn : H it = none) (hL : it ≠ X.env.locals)
    (h1 : it ∈ X.ex ∨ X.s₀.heap.objs.size ≤ it) (h2 : ∀ x c, X.env.cells.lookup x = some c → c ≠ it) (h3 : ∀ p ∈ X.pn ++ pins, p.1 ≠ it) : Inv X pins σ H { s with heap := h', toks := t' } := by
  have nit : ∀ b u, H b = some u → b ≠ it := fun b u e z => by rw [z, hn] at e; cases e
  refine I.step (g' := s.gens) (d' := s.drawn) (ch := [it]) (fun b hb => ?_) (fun b o _ _ hc e _ => k b o (fun z => hc (by simp [z])) e) (fun b o _ _ hc e _ => ⟨o.slots, k b o (fun z => hc (by simp [z])) e⟩) (fun _ _ _ _ n => n)
    (fun b o hc e => ⟨o, k b o (fun z => hc (by simp [z])) e⟩) (fun _ _ e => e) (fun _ _ _ e => e) (fun b ps e => ⟨#[], by rw [e]; simp⟩) (fun m hm => ?_) (fun b u e => ?_) I.bare
  · have e : b = it := by simpa using hb
    subst e
    exact ⟨h1, hL, h2, h3⟩
  · obtain ⟨o, es, ep, ho, r⟩ := hm
    exact ⟨o, es, ep, k _ o (Ne.symm hL) ho, r⟩
  · refine (I.hok b u e).stay (fun c v hc q => k c v ?_ q) (fun _ q => q) fun _ _ q => q
    rcases hc with z | z
    · rw [z]; exact nit b u e
    · exact nit c _ z
theorem Inv.tok (I : Inv X pins σ H s) (t : Nat) : Inv X pins σ H { s with toks := t } := I.un (h' := s.heap) (t' := t) Un.refl I.hok
theorem Inv.kept {t' : Nat} (I : Inv X pins σ H s) (k : ∀ b u, s.heap.get? b = some u → h'.get? b = some u) : Inv X pins σ H { s with heap := h', toks := t' } := I.un (Un.kept k) (I.hok.kept k)
theorem Inv.laid {a : Addr} {o : HO} {t' : Nat} (I : Inv X pins σ H s) (k : ∀ b u, s.heap.get? b = some u → h'.get? b = some u) (hp : s.heap.objs.size ≤ a) (new : ObjOk X.prog X.w (upd H a o) h' a o) :
    Inv X pins σ (upd H a o) { s with heap := h', toks := t' } := I.un (Un.laid k hp (I.hok.fresh hp)) (I.hok.laid k hp new)
theorem Inv.write {x e : Addr} {o : HO} {t' : Nat} (I : Inv X pins σ H s) (mu : Mut (H x)) (he : e = x ∨ H e = some (.own x)) (k : ∀ b u, b ≠ e → s.heap.get? b = some u → h'.get? b = some u) (heo : ∃ u, h'.get? e = some u)
    (new : ObjOk X.prog X.w (upd H x o) h' x o) : Inv X pins σ (upd H x o) { s with heap := h', toks := t' } := I.un (Un.write mu he k heo) (I.hok.write mu he k heo new)
theorem Inv.pins_of {pins' : List (Addr × Obj)} (I : Inv X pins σ H s) (h : ∀ p ∈ pins', s.heap.get? p.1 = some p.2 ∧ H p.1 = none ∧ p.1 ≠ X.env.locals ∧ p.1 ∉ X.fs ∧ ∀ v, p.2.data ≠ .cell v) : Inv X pins' σ H s :=
  ⟨I.ok, I.os, I.bare, I.base, I.loc, I.cell, I.free, I.freeC, fun p hp => (List.mem_append.mp hp).elim (fun z => I.pin p (List.mem_append_left _ z)) (h p), I.hok, I.len⟩

theorem nodup_ix {N : List Str} (hN : N.Nodup) {i j : Nat} {x : Str} (a : N[i]? = some x) (b : N[j]? = some x) : i = j := by
  obtain ⟨h1, e1⟩ := List.getElem?_eq_some_iff.mp a
  obtain ⟨h2, e2⟩ := List.getElem?_eq_some_iff.mp b
  exact (List.getElem_inj hN).mp (e1.trans e2.symm)

theorem store_ok2 {M : Model} {A : Around} {E : Value → Shared → Prop} {i : Nat} {x : Str} {v : V} {u : Value} {Q : Unit → Shared → Prop} (I : Inv X pins σ H s) (hN : X.N.Nodup) (hi : X.N[i]? = some x) (hx : Loc X.env.scope x) (r : RelV v u)
    (h : ∀ s', Inv X pins (σ.set i (some v)) H s' → (∃ a, Heap.SameBut a s.heap s'.heap ∧ (a = X.env.locals ∨ X.env.cells.lookup x = some a)) → Q () s') (hf : X.fn x = true ∨ X.env.scope.names.lookup x = some .local := by first | exact .inl rfl | exact .inr rfl | assumption) : wpAny M A (storeName X.env x u) Q E s := by
  obtain ⟨m, hn, hl⟩ := id I.loc
  have hcls : (X.env.scope.kind == .class || (X.env.scope.kind == .module && X.env.locals != X.env.globals)) = false := by rw [I.ok.kind]; rfl
  have hiσ : i < σ.length := by rw [I.len]; exact (List.getElem?_eq_some_iff.mp hi).1
  have cne := I.cne
  have tracked : ∀ {a : Addr} {h' : Heap}, (∃ o, s.heap.get? a = some o ∧ H a = none) → Heap.SameBut a s.heap h' → HOk X.prog X.w H h' := fun {a h'} ha hs b ob e => by
    obtain ⟨_, _, hfree⟩ := ha
    refine (I.hok b ob e).stay (fun c w' hc q => (hs.2 c ?_).trans q) (fun _ q => q) fun _ _ q => q
    rintro rfl
    rcases hc with rfl | hc
    · rw [hfree] at e; cases e
    · rw [hfree] at hc; cases hc
  rcases hx with hk | hk
  · refine wpAny_storeName_local hk hn (fun h' hn' hs => ?_) hcls
    obtain ⟨oL, _, _, hoL, _⟩ := id hn
    refine h _ ⟨I.ok, I.os, I.bare, ⟨fun b o e n hb hx => ?_, fun b o e n hb hx => ?_, I.base.free, fun b o e hx => ?_, I.base.tups, I.base.frzs, I.base.tbls⟩, ⟨_, hn', fun j y v' e1 e2 e3 => ?_⟩, fun y c e => ?_, I.free, I.freeC, fun p hp => ?_, tracked ⟨oL, hoL, I.free⟩ hs, by simpa using I.len⟩ ⟨_, hs, .inl rfl⟩
    · exact (hs.2 b (Nat.ne_of_lt (Nat.lt_of_lt_of_le (Heap.lt_size e) I.ok.above))).trans (I.base.keep b o e n hb hx)
    · obtain ⟨sl, e1⟩ := I.base.slot b o e n hb hx
      exact ⟨sl, (hs.2 b (Nat.ne_of_lt (Nat.lt_of_lt_of_le (Heap.lt_size e) I.ok.above))).trans e1⟩
    · obtain ⟨o', e1⟩ := I.base.there b o e hx
      exact ⟨o', (hs.2 b (Nat.ne_of_lt (Nat.lt_of_lt_of_le (Heap.lt_size e) I.ok.above))).trans e1⟩
    · by_cases hj : j = i
      · subst hj
        rw [hi] at e1; cases e1
        rw [List.getElem?_set_self hiσ] at e2
        cases e2
        exact ⟨u, r, .inl ⟨hk, by simp⟩⟩
      · rw [List.getElem?_set_ne (Ne.symm hj)] at e2
        obtain ⟨u', r', q⟩ := hl j y v' e1 e2 e3
        refine ⟨u', r', ?_⟩
        rcases q with ⟨k, e⟩ | ⟨k, c, e, z⟩
        · refine .inl ⟨k, ?_⟩
          have : y ≠ x := fun e => hj (nodup_ix hN e1 (e ▸ hi))
          simp [this, e]
        · exact .inr ⟨k, c, e, z.sameBut hs (cne y c e)⟩
    · obtain ⟨w', z⟩ := I.cell y c e
      exact ⟨w', z.sameBut hs (cne y c e)⟩
    · obtain ⟨e, n, ne, nf, d⟩ := I.pin p hp
      exact ⟨(hs.2 p.1 ne).trans e, n, ne, nf, d⟩
  · have hfn : X.fn x = true := by
      rcases hf with z | z
      · exact z
      · rw [z] at hk; cases hk
    obtain ⟨c, hc⟩ := I.ok.has x (.inl hk)
    obtain ⟨w', z⟩ := I.cell x c hc
    refine wpAny_storeName_cell I.ok.kind hk hc z (fun h' hc' hs => ?_)
    obtain ⟨oc, hoc, hocd⟩ := id z
    refine h { s with heap := h' } ⟨I.ok, I.os, I.bare, ⟨fun b o e n hb hx => ?_, fun b o e n hb hx => ?_, I.base.free, fun b o e hx => ?_, I.base.tups, I.base.frzs, I.base.tbls⟩, ⟨m, hn.sameBut hs (Ne.symm (cne x c hc)), fun j y v' e1 e2 e3 => ?_⟩, fun y c' e => ?_, I.free, I.freeC, fun p hp => ?_, tracked ⟨oc, hoc, I.freeC x c hc⟩ hs, by simpa using I.len⟩ ⟨c, hs, .inr hc⟩
    · exact (hs.2 b (Nat.ne_of_lt (Nat.lt_of_lt_of_le (Heap.lt_size e) (I.ok.cab x c hfn hc)))).trans (I.base.keep b o e n hb hx)
    · obtain ⟨sl, e1⟩ := I.base.slot b o e n hb hx
      exact ⟨sl, (hs.2 b (Nat.ne_of_lt (Nat.lt_of_lt_of_le (Heap.lt_size e) (I.ok.cab x c hfn hc)))).trans e1⟩
    · obtain ⟨o', e1⟩ := I.base.there b o e hx
      exact ⟨o', (hs.2 b (Nat.ne_of_lt (Nat.lt_of_lt_of_le (Heap.lt_size e) (I.ok.cab x c hfn hc)))).trans e1⟩
    · by_cases hj : j = i
      · subst hj
        rw [hi] at e1; cases e1
        rw [List.getElem?_set_self hiσ] at e2
        cases e2
        exact ⟨u, r, .inr ⟨.inl hk, c, hc, hc'⟩⟩
      · rw [List.getElem?_set_ne (Ne.symm hj)] at e2
        obtain ⟨u', r', q⟩ := hl j y v' e1 e2 e3
        refine ⟨u', r', ?_⟩
        rcases q with q | ⟨k, c', e, z'⟩
        · exact .inl q
        · refine .inr ⟨k, c', e, z'.sameBut hs ?_⟩
          rintro rfl
          exact hj (nodup_ix hN e1 (I.ok.inj _ _ _ e hc ▸ hi))
    · by_cases hcc : c' = c
      · subst hcc; exact ⟨_, hc'⟩
      · obtain ⟨w2, z2⟩ := I.cell y c' e
        exact ⟨w2, z2.sameBut hs hcc⟩
    · obtain ⟨e, n, ne, nf, d⟩ := I.pin p hp
      refine ⟨(hs.2 p.1 ?_).trans e, n, ne, nf, d⟩
      intro q
      rw [q, hoc] at e
      have q' : oc = p.2 := Option.some.inj e
      exact d w' (by rw [← q']; exact hocd)
theorem store_ok {M : Model} {A : Around} {E : Value → Shared → Prop} {i : Nat} {x : Str} {v : V} {u : Value} {Q : Unit → Shared → Prop} (I : Inv X pins σ H s) (hN : X.N.Nodup) (hi : X.N[i]? = some x) (hx : Loc X.env.scope x) (r : RelV v u)
    (h : ∀ s', Inv X pins (σ.set i (some v)) H s' → Q () s') (hf : X.fn x = true ∨ X.env.scope.names.lookup x = some .local := by first | exact .inl rfl | exact .inr rfl | assumption) : wpAny M A (storeName X.env x u) Q E s :=
  store_ok2 I hN hi hx r (fun s' I' _ => h s' I') hf
theorem Inv.call' {s' : Shared} {ch : List Addr} (I : Inv X pins σ H s) (ho : s'.os = s.os) (u : Un (frs X.stack) ch H H' s.heap s'.heap) (hok : HOk X.prog X.w H' s'.heap) (hg : AllBare s'.gens)
    (hch : ∀ b ∈ ch, (b ∈ X.ex ∨ X.s₀.heap.objs.size ≤ b) ∧ b ≠ X.env.locals ∧ (∀ x c, X.env.cells.lookup x = some c → c ≠ b) ∧ ∀ p ∈ X.pn ++ pins, p.1 ≠ b) : Inv X pins σ H' s' := by
  obtain ⟨h', g', d', t', o'⟩ := s'
  have e : o' = s.os := ho
  subst e
  exact I.call (g' := g') (t' := t') (d' := d') u hok hg hch
end

abbrev XK := Value → Option Addr → Hp → Prop
abbrev St := List (Option V)
abbrev VK := V → Hp → Prop
abbrev TE := St → Hp → VK → Prop
abbrev TT := St → Hp → (Bool → Hp → Prop) → Prop
abbrev TA := St → Hp → (List V → Hp → Prop) → Prop
structure Ends where
  nx : St → Hp → Prop
  rt : VK
  bk : St → Hp → Prop := fun _ _ => False
  ct : St → Hp → Prop := fun _ _ => False
abbrev TS := Ends → St → Hp → Prop

def EP (X : Cx) (pins : List (Addr × Obj)) (σ : St) (Q : VK) (u : Value) (s' : Shared) : Prop := ∃ v H', Inv X pins σ H' s' ∧ RelV v u ∧ Q v H'
def TP (X : Cx) (pins : List (Addr × Obj)) (σ : St) (Q : Bool → Hp → Prop) (b : Bool) (s' : Shared) : Prop := ∃ H', Inv X pins σ H' s' ∧ Q b H'
def AP (X : Cx) (pins : List (Addr × Obj)) (σ : St) (Q : List V → Hp → Prop) (us : List Value) (s' : Shared) : Prop := ∃ vs H', Inv X pins σ H' s' ∧ Vals vs us ∧ Q vs H'
def SP (X : Cx) (pins : List (Addr × Obj)) (D : Ends) (f : Flow) (s' : Shared) : Prop :=
  match f with
  | .next => ∃ σ' H', Inv X pins σ' H' s' ∧ D.nx σ' H'
  | .brk => ∃ σ' H', Inv X pins σ' H' s' ∧ D.bk σ' H'
  | .cont => ∃ σ' H', Inv X pins σ' H' s' ∧ D.ct σ' H'
  | .ret u => ∃ v σ' H', Inv X pins σ' H' s' ∧ RelV v u ∧ D.rt v H'

def PE (X : Cx) (e : Expr) (t : TE) : Prop :=
  ∀ (pins : List (Addr × Obj)) (s : Shared) (σ : St) (H : Hp) (Q : VK), Inv X pins σ H s → t σ H Q → wpAny (model X.prog X.w) X.A (eval e X.env) (EP X pins σ Q) X.xe s
def PT (X : Cx) (e : Expr) (t : TT) : Prop :=
  ∀ (pins : List (Addr × Obj)) (s : Shared) (σ : St) (H : Hp) (Q : Bool → Hp → Prop), Inv X pins σ H s → t σ H Q → wpAny (model X.prog X.w) X.A (isTrue e X.env (eval e X.env)) (TP X pins σ Q) X.xe s
def PW (X : Cx) (e : Expr) (t : TT) : Prop :=
  ∀ (whole : Sem Value) (pins : List (Addr × Obj)) (s : Shared) (σ : St) (H : Hp) (Q : Bool → Hp → Prop), Inv X pins σ H s → t σ H Q → wpAny (model X.prog X.w) X.A (isTrue e X.env whole) (TP X pins σ Q) X.xe s
theorem PW.pt {X : Cx} {e : Expr} {t : TT} (h : PW X e t) : PT X e t := h _
def PA (X : Cx) (es : List Expr) (t : TA) : Prop :=
  ∀ (pos : Pos) (pins : List (Addr × Obj)) (s : Shared) (σ : St) (H : Hp) (Q : List V → Hp → Prop), Inv X pins σ H s → t σ H Q → wpAny (model X.prog X.w) X.A (spliced (backTo pos (starEach es X.env))) (AP X pins σ Q) X.xe s
def PS (X : Cx) (st : Stmt) (t : TS) : Prop :=
  ∀ (pins : List (Addr × Obj)) (s : Shared) (σ : St) (H : Hp) (D : Ends), Inv X pins σ H s → t D σ H → wpAny (model X.prog X.w) X.A (exec st X.env) (SP X pins D) X.xe s
def PSs (X : Cx) (st : List Stmt) (t : TS) : Prop :=
  ∀ (pins : List (Addr × Obj)) (s : Shared) (σ : St) (H : Hp) (D : Ends), Inv X pins σ H s → t D σ H → wpAny (model X.prog X.w) X.A (execs st X.env) (SP X pins D) X.xe s
theorem thn {α : Type} {t : Sem α} {Q Q' : α → Shared → Prop} {M : Model} {A : Around} {E : Value → Shared → Prop} {s : Shared} (h : wpAny M A t Q E s) (hQ : ∀ a s, Q a s → Q' a s) : wpAny M A t Q' E s := wpAny_mono h hQ fun _ _ x => x
end L2

namespace L2
open PySem PySem.Spec PyProof.Rows
section
variable {X : Cx}

def tVar (i : Nat) : TE := fun σ H Q => ∃ v, σ[i]? = some (some v) ∧ Q v H
def tC (v : V) : TE := fun _ H Q => Q v H
theorem pe_var {i : Nat} {x : Str} {pos : Pos} (hN : X.N[i]? = some x) (hv : Vis X.env.scope x) (hd : (x == ("__debug__" : Str)) = false := by decide) (hcd : (x == ("__classdict__" : Str)) = false := by decide) : PE X (.Name x pos) (tVar i) := by
  intro pins s σ H Q I h
  obtain ⟨v, e, h⟩ := h
  obtain ⟨m, hn, hl⟩ := I.loc
  obtain ⟨u, r, l⟩ := hl i x v hN e hv
  have fin : EP X pins σ Q u s := ⟨v, H, I, r, h⟩
  rcases l with ⟨hk, hm⟩ | ⟨hk, c, hc, hcell⟩
  · exact wpAny_Name (wpAny_loadName_local I.ok.kind hk hn hm fin) hd
  · rcases hk with hk | hk
    · exact wpAny_Name (wpAny_loadName_cell I.ok.kind hk hc hcell fin) hd
    · exact wpAny_Name (wpAny_loadName_free I.ok.kind hk hc hcell fin hcd) hd
theorem pe_int {i j pos} : PE X (.Constant (.int i) j pos) (tC (.int i)) := fun _ _ _ H _ I h => wpAny_Constant_int ⟨.int i, H, I.tok _, ⟨_, rfl⟩, h⟩
theorem pe_bl {b j pos} : PE X (.Constant (.bool b) j pos) (tC (.bl b)) := fun _ _ _ H _ I h => Constant_bool ⟨.bl b, H, I, rfl, h⟩
theorem pe_non {j pos} : PE X (.Constant .none j pos) (tC .non) := fun _ _ _ H _ I h => Constant_none ⟨.non, H, I, rfl, h⟩
theorem pe_str {x j pos} : PE X (.Constant (.str x) j pos) (tC (.str x)) := fun _ _ _ H _ I h => Calls.Constant_str ⟨.str x, H, I.tok _, ⟨_, rfl⟩, h⟩

def Gl (X : Cx) (x : Str) : Prop := X.env.kindOf x = some .globalImplicit
theorem ld_glob {E : Value → Shared → Prop} {pins : List (Addr × Obj)} {s : Shared} {σ : St} {H : Hp} {x : Str} {u : Value} {pos : Pos} {Q : Value → Shared → Prop} (I : Inv X pins σ H s) (hg : Gl X x) (hm : X.mg x = some u) (h : Q u s)
    (hd : (x == ("__debug__" : Str)) = false := by decide) : wpAny (model X.prog X.w) X.A (eval (.Name x pos) X.env) Q E s :=
  Calls.Name_function_global I.ok.kind hg (Calls.loadGlobal_global (by rw [I.ok.glob]; exact I.mod.glob.keeps I.bk) hm h) hd
theorem ld_blt {E : Value → Shared → Prop} {pins : List (Addr × Obj)} {s : Shared} {σ : St} {H : Hp} {x : Str} {u : Value} {pos : Pos} {Q : Value → Shared → Prop} (I : Inv X pins σ H s) (hg : Gl X x) (hm : X.mg x = none) (hv : bootBuiltins x = some u) (h : Q u s)
    (hn : x ≠ "__name__" := by decide) (hd : (x == ("__debug__" : Str)) = false := by decide) : wpAny (model X.prog X.w) X.A (eval (.Name x pos) X.env) Q E s := by
  obtain ⟨mb, h1, h2⟩ := I.mod.blt
  exact Calls.Name_function_global I.ok.kind hg (Calls.loadGlobal_builtin (by rw [I.ok.glob]; exact I.mod.glob.keeps I.bk) hm (by rw [I.ok.blt]; exact h1.keeps I.bk) ((h2 x hn).trans hv) h) hd
theorem pe_glob {x : Str} {v : V} {u : Value} {pos : Pos} (hg : Gl X x) (hm : X.mg x = some u) (r : RelV v u) (hd : (x == ("__debug__" : Str)) = false := by decide) : PE X (.Name x pos) (tC v) :=
  fun _ _ _ H _ I h => ld_glob I hg hm ⟨v, H, I, r, h⟩ hd
theorem pe_bltn {x : Str} {v : V} {u : Value} {pos : Pos} (hg : Gl X x) (hm : X.mg x = none) (hv : bootBuiltins x = some u) (r : RelV v u) (hn : x ≠ "__name__" := by decide) (hd : (x == ("__debug__" : Str)) = false := by decide) : PE X (.Name x pos) (tC v) :=
  fun _ _ _ H _ I h => ld_blt I hg hm hv ⟨v, H, I, r, h⟩ hn hd

def t2I (ta tb : TE) (k : Int → Int → Hp → Prop) : St → Hp → Prop := fun σ H => ta σ H fun x H1 => tb σ H1 fun y H2 => ∃ i j, x = .int i ∧ y = .int j ∧ k i j H2
def tAdd (ta tb : TE) : TE := fun σ H Q => t2I ta tb (fun i j H2 => Q (.int (i + j)) H2) σ H
def tSub (ta tb : TE) : TE := fun σ H Q => t2I ta tb (fun i j H2 => Q (.int (i - j)) H2) σ H
def tMul (ta tb : TE) : TE := fun σ H Q => t2I ta tb (fun i j H2 => (-(2 ^ 64) < i ∧ i < 2 ^ 64) ∧ Q (.int (i * j)) H2) σ H
variable {a b : Expr} {ta tb : TE} {pos : Pos}
def PC (X : Cx) (op : CmpOp) (a b : Expr) (t : TE) : Prop :=
  ∀ (pins : List (Addr × Obj)) (s : Shared) (σ : St) (H : Hp) (Q : VK), Inv X pins σ H s → t σ H Q →
    wpAny (model X.prog X.w) X.A (eval a X.env) (fun v s₁ => wpAny (model X.prog X.w) X.A (eval b X.env) (fun u s₂ => wpAny (model X.prog X.w) X.A (compareOp op v u) (EP X pins σ Q) X.xe s₂) X.xe s₁) X.xe s
theorem nobehind (b : Expr) {op : CmpOp} (h : op ≠ .In) (h2 : op ≠ .NotIn) : behindInMarks op b = false := by
  have e1 : (op == CmpOp.In) = false := by cases op <;> first | rfl | exact absurd rfl h
  have e2 : (op == CmpOp.NotIn) = false := by cases op <;> first | rfl | exact absurd rfl h2
  cases b <;> simp [behindInMarks, e1, e2]
def tCmp (p : Int → Int → Bool) (ta tb : TE) : TE := fun σ H Q => t2I ta tb (fun i j H2 => Q (.bl (p i j)) H2) σ H
abbrev tLt : TE → TE → TE := tCmp fun i j => decide (i < j)
abbrev tLe : TE → TE → TE := tCmp fun i j => decide (i ≤ j)
abbrev tGt : TE → TE → TE := tCmp fun i j => decide (j < i)
abbrev tGe : TE → TE → TE := tCmp fun i j => decide (j ≤ i)
abbrev tEqI : TE → TE → TE := tCmp fun i j => decide (i = j)
abbrev tNeI : TE → TE → TE := tCmp fun i j => !decide (i = j)
def tIsN (ta : TE) : TE := fun σ H Q => ta σ H fun x H1 => Q (.bl (decide (x = .non))) H1
def tNotN (ta : TE) : TE := fun σ H Q => ta σ H fun x H1 => Q (.bl (!decide (x = .non))) H1
def tB (t : TE) : TT := fun σ H Q => t σ H fun x H1 => ∃ c, x = .bl c ∧ Q c H1
theorem pt_cmp {op : CmpOp} {t : TE} (h : PC X op a b t) (h1 : behindInMarks op b = false := by first | exact nobehind _ (by decide) (by decide) | rfl) : PT X (.Compare a [op] [b] pos) (tB t) := by
  intro pins s σ H Q I hw
  refine wpAny_isTrue_Compare1 (thn (h pins s σ H _ I hw) fun v s1 h1 => thn h1 fun u s2 h2 => thn h2 fun c s3 ⟨x, H1, I1, r1, q1⟩ => ?_) h1
  obtain ⟨d, rfl, q⟩ := q1
  cases r1
  exact wpAny_truthy_bool ⟨H1, I1, q⟩
theorem pt_val {e : Expr} {t : TE} (h : PE X e t) (he : ∀ whole, isTrue e X.env whole = (do let v ← whole; standAt e.pos; holding [v] (truthy v)) := by intro _; rfl) : PT X e (tB t) := by
  intro pins s σ H Q I hw
  refine isTrue_plain (thn (h pins s σ H _ I hw) fun v s1 ⟨x, H1, I1, r1, q1⟩ => ?_) (he _)
  obtain ⟨d, rfl, q⟩ := q1
  cases r1
  exact wpAny_truthy_bool ⟨H1, I1, q⟩

variable {tA tB' : TT} {rest : List Expr}
def tAnd (t u : TT) : TT := fun σ H Q => t σ H fun c H1 => if c = true then u σ H1 Q else Q false H1
def tOr (t u : TT) : TT := fun σ H Q => t σ H fun c H1 => if c = true then Q true H1 else u σ H1 Q
def tNot (t : TT) : TT := fun σ H Q => t σ H fun c H1 => Q (!c) H1
theorem pw_and1 (ha : PT X a tA) : PW X (.BoolOp .And [a] pos) tA := by
  intro wh pins s σ H Q I h
  refine isTrue_and (thn (ha pins s σ H Q I h) fun c s1 e => ?_)
  cases c with
  | true => exact isTrue_and_nil e
  | false => exact e
theorem pw_or1 (ha : PT X a tA) : PW X (.BoolOp .Or [a] pos) tA := by
  intro wh pins s σ H Q I h
  refine isTrue_or (thn (ha pins s σ H Q I h) fun c s1 e => ?_)
  cases c with
  | false => exact isTrue_or_nil e
  | true => exact e
theorem pw_and (ha : PT X a tA) (hb : PW X (.BoolOp .And (b :: rest) pos) tB') : PW X (.BoolOp .And (a :: b :: rest) pos) (tAnd tA tB') := by
  intro wh pins s σ H Q I h
  refine isTrue_and (thn (ha pins s σ H _ I h) fun c s1 ⟨H1, I1, q1⟩ => ?_)
  cases c with
  | true => exact hb wh pins s1 σ H1 Q I1 q1
  | false => exact ⟨H1, I1, q1⟩
theorem pw_or (ha : PT X a tA) (hb : PW X (.BoolOp .Or (b :: rest) pos) tB') : PW X (.BoolOp .Or (a :: b :: rest) pos) (tOr tA tB') := by
  intro wh pins s σ H Q I h
  refine isTrue_or (thn (ha pins s σ H _ I h) fun c s1 ⟨H1, I1, q1⟩ => ?_)
  cases c with
  | true => exact ⟨H1, I1, q1⟩
  | false => exact hb wh pins s1 σ H1 Q I1 q1
theorem pt_not (ha : PT X a tA) : PT X (.UnaryOp .Not a pos) (tNot tA) := by
  intro pins s σ H Q I h
  exact isTrue_not (ha pins s σ H (fun c H1 => Q (!c) H1) I h)
def tAndV (ta tb : TE) : TE := fun σ H Q => ta σ H fun x H1 => ∃ c, x = .bl c ∧ if c = true then tb σ H1 Q else Q (.bl false) H1
def tOrV (ta tb : TE) : TE := fun σ H Q => ta σ H fun x H1 => ∃ c, x = .bl c ∧ if c = true then Q (.bl true) H1 else tb σ H1 Q
def tNotV (ta : TE) : TE := fun σ H Q => ta σ H fun x H1 => ∃ c, x = .bl c ∧ Q (.bl (!c)) H1
theorem pe_one {op} {t : TE} (h : PE X a t) : PE X (.BoolOp op [a] pos) t := fun pins s σ H Q I hw => BoolOp_one (h pins s σ H Q I hw)
theorem pe_and (ha : PE X a ta) (hb : PE X (.BoolOp .And (b :: rest) pos) tb) : PE X (.BoolOp .And (a :: b :: rest) pos) (tAndV ta tb) := by
  intro pins s σ H Q I h
  refine BoolOp_and (thn (ha pins s σ H _ I h) fun v s1 ⟨x, H1, I1, r1, q1⟩ => ?_)
  obtain ⟨c, rfl, q1⟩ := q1
  cases r1
  refine wpAny_truthy_bool ?_
  cases c with
  | true => exact hb pins s1 σ H1 Q I1 q1
  | false => exact ⟨.bl false, H1, I1, rfl, q1⟩
def tIf (t : TT) (ta tb : TE) : TE := fun σ H Q => t σ H fun c H1 => if c = true then ta σ H1 Q else tb σ H1 Q
theorem pe_ifExp {c : Expr} (hc : PT X c tA) (ha : PE X a ta) (hb : PE X b tb) : PE X (.IfExp c a b pos) (tIf tA ta tb) := by
  intro pins s σ H Q I h
  refine wpAny_IfExp (thn (hc pins s σ H _ I h) fun d s1 ⟨H1, I1, q1⟩ => ?_)
  cases d with
  | true => exact ha pins s1 σ H1 Q I1 q1
  | false => exact hb pins s1 σ H1 Q I1 q1
end
end L2

namespace L2
open PySem PySem.Spec PyProof.Rows

def SqL (K : PySem.W.Frag) (H : Hp) (a : Addr) (xs : List V) : Prop :=
  Rd H a (.lst xs) ∨
    ∃ (o : Obj) (its : Array Value) (n : Nat), K.lookup a = some o ∧ o.cls = .type "list" ∧ o.dict = none ∧ o.data = .seq its n ∧ its.size ≤ sizeLine ∧ Vals xs its.toList
def SqT (K : PySem.W.Frag) (H : Hp) (a : Addr) (xs : List V) : Prop :=
  Rd H a (.tup xs) ∨
    ∃ (o : Obj) (its : Array Value) (n : Nat), K.lookup a = some o ∧ o.cls = .type "tuple" ∧ o.data = .seq its n ∧ its.size ≤ sizeLine ∧ Vals xs its.toList
def absV : Value → Option V
  | .none => some .non
  | .bool b => some (.bl b)
  | .int i _ => some (.int i)
  | .str x _ => some (.str x)
  | .bytes b _ => some (.byt b)
  | .float b _ => some (.flt b)
  | .ref a => some (.ref a)
  | .type n => some (.ty n)
  | _ => none
theorem RelV.abs {x : V} {u : Value} (r : RelV x u) : absV u = some x := by
  cases x with
  | non => cases r; rfl
  | bl _ => cases r; rfl
  | int _ => obtain ⟨t, rfl⟩ := r; rfl
  | str _ => obtain ⟨t, rfl⟩ := r; rfl
  | byt _ => obtain ⟨t, rfl⟩ := r; rfl
  | flt _ => obtain ⟨t, rfl⟩ := r; rfl
  | ref _ => cases r; rfl
  | ty _ => cases r; rfl
theorem RelV.inj {x y : V} {u : Value} (r : RelV x u) (q : RelV y u) : x = y := Option.some.inj (r.abs.symm.trans q.abs)
theorem Vals.inj : ∀ {xs ys : List V} {us : List Value}, Vals xs us → Vals ys us → xs = ys
  | _, _, _, .nil, .nil => rfl
  | _, _, _, .cons r t, .cons r' t' => by rw [r.inj r', Vals.inj t t']
section
variable {X : Cx} {pins : List (Addr × Obj)} {σ : St} {H : Hp} {s : Shared} {a : Addr} {xs ys : List V}
theorem SqL.of {K : PySem.W.Frag} (h : H a = some (.lst xs)) : SqL K H a xs := .inl (.inl h)
theorem SqT.of {K : PySem.W.Frag} (h : H a = some (.tup xs)) : SqT K H a xs := .inl (.inl h)
theorem Inv.list (I : Inv X pins σ H s) (h : SqL X.K H a xs) : ∃ its : List Value, Vals xs its ∧ PlainL s.heap a its.toArray ∧ xs.length ≤ sizeLine := by
  rcases h with h | ⟨o, its, n, hk, hc, hd, hs, hz, r⟩
  · obtain ⟨z, its, n, r, e⟩ := h.ok I.hok
    exact ⟨its, r, ⟨_, n, e, rfl, rfl, rfl⟩, z⟩
  · refine ⟨its.toList, r, ⟨o, n, I.kIn a o hk, hc, hd, by simpa using hs⟩, ?_⟩
    have e := r.length
    simp only [Array.length_toList] at e
    omega
theorem Inv.tuple (I : Inv X pins σ H s) (h : SqT X.K H a xs) : ∃ its : List Value, Vals xs its ∧ IsTup s.heap a its.toArray ∧ xs.length ≤ sizeLine := by
  rcases h with h | ⟨o, its, n, hk, hc, hs, hz, r⟩
  · obtain ⟨z, its, r, p⟩ := h.ok I.hok
    exact ⟨its, r, p, z⟩
  · refine ⟨its.toList, r, ⟨o, I.kIn a o hk, hc, n, by simpa using hs⟩, ?_⟩
    have e := r.length
    simp only [Array.length_toList] at e
    omega
theorem Inv.list_inj (I : Inv X pins σ H s) (h : SqL X.K H a xs) (h' : SqL X.K H a ys) : xs = ys := by
  obtain ⟨its, r, ⟨o, n, e, _, _, d⟩, _⟩ := I.list h
  obtain ⟨its', r', ⟨o', n', e', _, _, d'⟩, _⟩ := I.list h'
  rw [e] at e'; cases e'
  rw [d] at d'
  injection d' with d1 _
  have : its = its' := by simpa using congrArg Array.toList d1
  subst this
  exact r.inj r'
theorem Inv.tuple_inj (I : Inv X pins σ H s) (h : SqT X.K H a xs) (h' : SqT X.K H a ys) : xs = ys := by
  obtain ⟨its, r, ⟨o, e, _, n, d⟩, _⟩ := I.tuple h
  obtain ⟨its', r', ⟨o', e', _, n', d'⟩, _⟩ := I.tuple h'
  rw [e] at e'; cases e'
  rw [d] at d'
  injection d' with d1 _
  have : its = its' := by simpa using congrArg Array.toList d1
  subst this
  exact r.inj r'
end

abbrev Cx.wish (X : Cx) (E : Value → Shared → Prop) : Cx := { X with xe := E }
abbrev Cx.nox (X : Cx) : Cx := X.wish fun _ _ => False
theorem Cx.Ok.wish {X : Cx} (ok : X.Ok) (E : Value → Shared → Prop) : (X.wish E).Ok :=
  ⟨ok.mod, ok.kind, ok.glob, ok.blt, ok.above, ok.inj, ok.has, ok.cab, ok.hd, ok.frames, ok.stk, ok.exf, ok.bs, ok.bsz, ok.noex, ok.exfs, ok.funs, ok.frf⟩
theorem Cx.Ok.unwish {X : Cx} {E : Value → Shared → Prop} (ok : (X.wish E).Ok) : X.Ok :=
  ⟨ok.mod, ok.kind, ok.glob, ok.blt, ok.above, ok.inj, ok.has, ok.cab, ok.hd, ok.frames, ok.stk, ok.exf, ok.bs, ok.bsz, ok.noex, ok.exfs, ok.funs, ok.frf⟩
section
variable {X : Cx} {pins : List (Addr × Obj)} {σ : St} {H : Hp} {s : Shared} {E : Value → Shared → Prop}
theorem Inv.wish (I : Inv X pins σ H s) (E : Value → Shared → Prop) : Inv (X.wish E) pins σ H s := ⟨I.ok.wish E, I.os, I.bare, I.base, I.loc, I.cell, I.free, I.freeC, I.pin, I.hok, I.len⟩
theorem Inv.unwish (I : Inv (X.wish E) pins σ H s) : Inv X pins σ H s := ⟨I.ok.unwish, I.os, I.bare, I.base, I.loc, I.cell, I.free, I.freeC, I.pin, I.hok, I.len⟩
theorem SP.unwish {D : Ends} {f : Flow} {s' : Shared} (h : SP (X.wish E) pins D f s') : SP X pins D f s' := by
  cases f with
  | next => obtain ⟨σ', H', I, q⟩ := h; exact ⟨σ', H', I.unwish, q⟩
  | brk => obtain ⟨σ', H', I, q⟩ := h; exact ⟨σ', H', I.unwish, q⟩
  | cont => obtain ⟨σ', H', I, q⟩ := h; exact ⟨σ', H', I.unwish, q⟩
  | ret u => obtain ⟨v, σ', H', I, r, q⟩ := h; exact ⟨v, σ', H', I.unwish, r, q⟩
theorem PE.nox {e : Expr} {t : TE} (h : PE X.nox e t) : PE X e t := fun pins s σ H Q I hw =>
  wpAny_mono (h pins s σ H Q (I.wish _) hw) (fun _ _ ⟨v, H', I', r, q⟩ => ⟨v, H', I'.unwish, r, q⟩) fun _ _ z => False.elim z
theorem PT.nox {e : Expr} {t : TT} (h : PT X.nox e t) : PT X e t := fun pins s σ H Q I hw =>
  wpAny_mono (h pins s σ H Q (I.wish _) hw) (fun _ _ ⟨H', I', q⟩ => ⟨H', I'.unwish, q⟩) fun _ _ z => False.elim z
theorem PSs.nox {st : List Stmt} {t : TS} (h : PSs X.nox st t) : PSs X st t := fun pins s σ H D I hw =>
  wpAny_mono (h pins s σ H D (I.wish _) hw) (fun _ _ q => q.unwish) fun _ _ z => False.elim z
end

section
variable {X : Cx} {st : Stmt} {rest : List Stmt} {t u : TS} {e : Expr} {te : TE} {pos : Pos}
def tNext : TS := fun D σ H => D.nx σ H
def tSeq (t u : TS) : TS := fun D σ H => t { D with nx := u D } σ H
theorem pss_nil : PSs X [] tNext := fun _ _ σ H _ I h => wpAny_execs_nil ⟨σ, H, I, h⟩
theorem pss_cons (h1 : PS X st t) (h2 : PSs X rest u) : PSs X (st :: rest) (tSeq t u) := by
  intro pins s σ H D I h
  refine wpAny_execs_cons (thn (h1 pins s σ H { D with nx := u D } I h) fun f s1 q => ?_)
  cases f with
  | next =>
    obtain ⟨σ', H', I', q⟩ := q
    exact h2 pins s1 σ' H' D I' q
  | ret v => exact q
  | brk => exact q
  | cont => exact q
theorem pss_one (h1 : PS X st t) : PSs X [st] t := by
  intro pins s σ H D I h
  refine wpAny_execs_cons (thn (h1 pins s σ H D I h) fun f s1 q => ?_)
  cases f with
  | next => exact wpAny_execs_nil q
  | ret v => exact q
  | brk => exact q
  | cont => exact q
def tBreak : TS := fun D σ H => D.bk σ H
def tCont : TS := fun D σ H => D.ct σ H
theorem Inv.quiet {pins : List (Addr × Obj)} {σ : St} {H : Hp} {s : Shared} (I : Inv X pins σ H s) : interactive X.env = false := by simp [interactive, I.ok.kind]
def tDrop (te : TE) : TS := fun D σ H => te σ H fun _ H1 => D.nx σ H1
theorem ps_expr (he : PE X e te) (hs : swapsWith e none pos.line X.env = pure false := by rfl) : PS X (.Expr e pos) (tDrop te) := by
  intro pins s σ H D I h
  exact wpAny_Expr_any (thn (he pins s σ H _ I h) fun v s1 ⟨x, H1, I1, r1, q1⟩ => ⟨σ, H1, I1, q1⟩) I.quiet hs
def tRet (te : TE) : TS := fun D σ H => te σ H D.rt
theorem ps_ret (he : PE X e te) : PS X (.Return (some e) pos) (tRet te) := by
  intro pins s σ H D I h
  exact wpAny_Return_some (thn (he pins s σ H _ I h) fun v s1 ⟨x, H1, I1, r1, q1⟩ => ⟨x, σ, H1, I1, r1, q1⟩)
def tRetN : TS := fun D _ H => D.rt .non H
def tIfS (c : TT) (t u : TS) : TS := fun D σ H => c σ H fun b H1 => if b = true then t D σ H1 else u D σ H1
theorem ps_if {c : Expr} {a b : List Stmt} {tc : TT} (hc : PT X c tc) (ha : PSs X a t) (hb : PSs X b u) : PS X (.If c a b pos) (tIfS tc t u) := by
  intro pins s σ H D I h
  refine wpAny_If (thn (hc pins s σ H _ I h) fun d s1 ⟨H1, I1, q1⟩ => ?_)
  cases d with
  | true => exact ha pins s1 σ H1 D I1 q1
  | false => exact hb pins s1 σ H1 D I1 q1
def tNever : TS := fun _ _ _ => False
theorem ps_never : PS X st tNever := fun _ _ _ _ _ _ h => h.elim
end

abbrev TG := V → St → Hp → (St → Hp → Prop) → Prop
abbrev TGs := List V → St → Hp → (St → Hp → Prop) → Prop
def PG (X : Cx) (target : Expr) (t : TG) : Prop :=
  ∀ (pins : List (Addr × Obj)) (s : Shared) (σ : St) (H : Hp) (v : V) (u : Value) (Q : St → Hp → Prop), Inv X pins σ H s → RelV v u → t v σ H Q →
    wpAny (model X.prog X.w) X.A (assign target X.env u) (fun _ s' => ∃ σ' H', Inv X pins σ' H' s' ∧ Q σ' H') X.xe s
def PGs (X : Cx) (ts : List Expr) (t : TGs) : Prop :=
  ∀ (pins : List (Addr × Obj)) (s : Shared) (σ : St) (H : Hp) (vs : List V) (us : List Value) (Q : St → Hp → Prop), Inv X pins σ H s → Vals vs us → t vs σ H Q →
    wpAny (model X.prog X.w) X.A (assignInOrder ((assignEach ts X.env).map (·.2)) us) (fun _ s' => ∃ σ' H', Inv X pins σ' H' s' ∧ Q σ' H') X.xe s
abbrev TSet := V → V → V → Hp → (Hp → Prop) → Prop
def PSet (X : Cx) (t : TSet) : Prop :=
  ∀ (pins : List (Addr × Obj)) (s : Shared) (σ : St) (H : Hp) (o i v : V) (ov iv u : Value) (Q : Hp → Prop), Inv X pins σ H s → RelV o ov → RelV i iv → RelV v u → t o i v H Q →
    wpAny (model X.prog X.w) X.A (setItem ov iv u) (fun _ s' => ∃ H', Inv X pins σ H' s' ∧ Q H') X.xe s
abbrev TIp := V → V → Hp → VK → Prop
def PIp (X : Cx) (op : Operator) (t : TIp) : Prop :=
  ∀ (pins : List (Addr × Obj)) (s : Shared) (σ : St) (H : Hp) (x y : V) (v u : Value) (Q : VK), Inv X pins σ H s → RelV x v → RelV y u → t x y H Q →
    wpAny (model X.prog X.w) X.A (inplaceOp op v u) (EP X pins σ Q) X.xe s
section
variable {X : Cx} {pos : Pos}
def gName (i : Nat) : TG := fun v σ H Q => Q (σ.set i (some v)) H
theorem pg_name {i : Nat} {x : Str} (hN : X.N.Nodup) (hi : X.N[i]? = some x) (hx : Loc X.env.scope x) (hf : X.fn x = true ∨ X.env.scope.names.lookup x = some .local := by first | exact .inl rfl | exact .inr rfl | assumption) : PG X (.Name x pos) (gName i) := by
  intro pins s σ H v u Q I r h
  exact wpAny_assign_Name (store_ok I hN hi hx r (fun s' I' => ⟨_, H, I', h⟩) hf)
def gNil : TGs := fun vs σ H Q => vs = [] ∧ Q σ H
def gCons (t : TG) (u : TGs) : TGs := fun vs σ H Q => ∃ v r, vs = v :: r ∧ t v σ H fun σ' H' => u r σ' H' Q
theorem pgs_nil : PGs X [] gNil := by
  intro pins s σ H vs us Q I r h
  obtain ⟨e, h⟩ := h
  subst e
  cases r
  exact assignInOrder_nil ⟨σ, H, I, h⟩
theorem pgs_cons {e : Expr} {es : List Expr} {t : TG} {u : TGs} (h1 : PG X e t) (h2 : PGs X es u)
    (hs : (assignEach (e :: es) X.env).map (·.2) = assign e X.env :: (assignEach es X.env).map (·.2) := by rfl) : PGs X (e :: es) (gCons t u) := by
  intro pins s σ H vs us Q I r h
  obtain ⟨v, vr, e1, h⟩ := h
  subst e1
  cases r with
  | cons r rr =>
    rw [hs]
    refine assignInOrder_cons (thn (h1 pins s σ H _ _ _ I r h) fun _ s1 ⟨σ1, H1, I1, q1⟩ => ?_)
    exact h2 pins s1 σ1 H1 _ _ Q I1 rr q1
def gTup (K : PySem.W.Frag) (n : Nat) (t : TGs) : TG := fun v σ H Q => ∃ a xs, v = .ref a ∧ SqT K H a xs ∧ xs.length = n ∧ t xs σ H Q
theorem pg_tup {es : List Expr} {k : Nat} {t : TGs} {n : Nat} (hc : X.calm = true) (h : PGs X es t)
    (hn : (assignEach es X.env).length = n := by rfl) (hst : (assignEach es X.env).findIdx? (·.1) = none := by rfl) : PG X (.Tuple es k pos) (gTup X.K n t) := by
  intro pins s σ H v u Q I r hw
  obtain ⟨a, xs, e1, hq, hl, hw⟩ := hw
  subst e1
  cases r
  obtain ⟨its, rv, ht, hz⟩ := I.tuple hq
  refine assign_Tuple_tuple (I.ok.hd hc) ht (by simp [hn, ← hl, rv.length]) hst fun h' hx => ?_
  have I1 : Inv X pins σ H { s with heap := h' } := I.kept (t' := s.toks) fun b o e => hx b o (Nat.ne_of_lt (Heap.lt_size e)) e
  exact h pins _ σ H xs _ Q I1 (by simpa using rv) hw
def gSub (to ti : TE) (t : TSet) : TG := fun v σ H Q => to σ H fun o H1 => ti σ H1 fun i H2 => t o i v H2 fun H3 => Q σ H3
theorem pg_sub {o i : Expr} {to ti : TE} {t : TSet} (ho : PE X o to) (hi : PE X i ti) (hs : PSet X t)
    (ha : ∀ v, assign (.Subscript o i pos) X.env v = (do
      let ov ← holding [v] (eval o X.env)
      let iv ← holding [v, ov] (eval i X.env)
      standAt pos
      holding [v, ov, iv] (setItem ov iv v)
      release [v, ov, iv] []) := by intro _; rfl) : PG X (.Subscript o i pos) (gSub to ti t) := by
  intro pins s σ H v u Q I r h
  rw [ha]
  refine wpAny_bind (wpAny_holding (thn (ho pins s σ H _ I h) fun ov s1 ⟨x, H1, I1, r1, q1⟩ => ?_))
  refine wpAny_bind (wpAny_holding (thn (hi pins s1 σ H1 _ I1 q1) fun iv s2 ⟨y, H2, I2, r2, q2⟩ => ?_))
  refine wpAny_bind (wpAny_standAt (wpAny_bind (wpAny_holding (thn (hs pins s2 σ H2 x y v ov iv u _ I2 r1 r2 r q2) fun _ s3 ⟨H3, I3, q3⟩ => ?_))))
  exact wpAny_release ⟨σ, H3, I3, q3⟩
def tAsg (te : TE) (g : TG) : TS := fun D σ H => te σ H fun x H1 => g x σ H1 D.nx
theorem ps_asg {tg e : Expr} {te : TE} {g : TG} (he : PE X e te) (hg : PG X tg g) (hs : swapsWithSole [tg] e pos.line X.env = pure false := by rfl) (hw : swappedStores [tg] e X.env = pure none := by rfl)
    (h1 : (assignEach [tg] X.env).map (·.2) = [assign tg X.env] := by rfl) : PS X (.Assign [tg] e pos) (tAsg te g) := by
  intro pins s σ H D I h
  refine wpAny_Assign_stores (thn (he pins s σ H _ I h) fun v s1 ⟨x, H1, I1, r1, q1⟩ => ?_) hs hw
  rw [h1]
  exact thn (hg pins s1 σ H1 x v _ I1 r1 q1) fun _ s2 q => q
theorem ps_set {i : Nat} {x : Str} {e : Expr} {te : TE} {pos' : Pos} (hN : X.N.Nodup) (hi : X.N[i]? = some x) (hx : Loc X.env.scope x) (he : PE X e te) (hs : swapsWith e (some (.Name x pos')) pos.line X.env = pure false := by rfl) (hf : X.fn x = true ∨ X.env.scope.names.lookup x = some .local := by first | exact .inl rfl | exact .inr rfl | assumption) :
    PS X (.Assign [.Name x pos'] e pos) (tAsg te (gName i)) := by
  intro pins s σ H D I h
  refine wpAny_Assign_Name (thn (he pins s σ H _ I h) fun v s1 ⟨y, H1, I1, r1, q1⟩ => ?_) hs
  exact store_ok I1 hN hi hx r1 (fun s2 I2 => ⟨_, H1, I2, q1⟩) hf
def tPar (i j : Nat) (ta : TA) : TS := fun D σ H => ta σ H fun vs H1 => ∃ v w, vs = [v, w] ∧ D.nx ((σ.set i (some v)).set j (some w)) H1
theorem ps_par {i j : Nat} {x y : Str} {a b : Expr} {ta : TA} {px py pt : Pos} {kt k2 pt2} (hc : X.calm = true) (hN : X.N.Nodup) (hi : X.N[i]? = some x) (hj : X.N[j]? = some y) (hij : i ≠ j)
    (hx : X.env.scope.names.lookup x = some .local) (hy : X.env.scope.names.lookup y = some .local) (ha : PA X [a, b] ta)
    (hw : swappedStores [.Tuple [.Name x px, .Name y py] kt pt] (.Tuple [a, b] k2 pt2) X.env = pure (some [x, y]))
    (hs : swapsWithSole [.Tuple [.Name x px, .Name y py] kt pt] (.Tuple [a, b] k2 pt2) pos.line X.env = pure false := by rfl) :
    PS X (.Assign [.Tuple [.Name x px, .Name y py] kt pt] (.Tuple [a, b] k2 pt2) pos) (tPar i j ta) := by
  intro pins s σ H D I h
  rw [exec_Assign_arm]
  refine wpAny_bind (wpAny_standAt ?_)
  rw [hs]
  refine wpAny_bind (wpAny_pure ?_)
  rw [if_neg (by decide)]
  refine wpAny_bind (Tuple_ (thn (ha _ pins s σ H _ I h) fun us s1 ⟨vs, H1, I1, r1, q1⟩ => ?_))
  obtain ⟨v, w, e1, q1⟩ := q1
  subst e1
  obtain ⟨u1, u2, rfl, rv, rw'⟩ : ∃ u1 u2, us = [u1, u2] ∧ RelV v u1 ∧ RelV w u2 := by
    cases r1 with
    | cons p q =>
      cases q with
      | cons p' q' =>
        cases q'
        exact ⟨_, _, rfl, p, p'⟩
  refine wpAny_newObj_type ?_ (by show 2 ≤ sizeLine; decide)
  have I2 : Inv X pins σ H1 { s1 with heap := s1.heap.push { cls := .type "tuple", data := .seq [u1, u2].toArray } } := I1.kept (t' := s1.toks) fun b o e => Heap.get?_push_of_some _ e
  rw [hw]
  refine wpAny_bind (wpAny_pure ?_)
  show wpAny (model X.prog X.w) X.A (do rule "assign.swapped-stores"; let items ← unpackItems (.ref s1.heap.objs.size) 2 none; assignInOrder [fun v => bindName X.env y v, fun v => bindName X.env x v] items.reverse; pure Flow.next) _ _ _
  refine wpAny_bind (wpAny_rule (wpAny_bind (unpackItems_tuple (items := #[u1, u2]) (I.ok.hd hc) (IsTup.new s1.heap _) fun h' hx' => ?_)))
  have I3 := I2.kept (h' := h') (t' := s1.toks) fun b o e => hx' b o (Nat.ne_of_lt (Heap.lt_size e)) e
  show wpAny _ _ (assignInOrder [fun v => bindName X.env y v, fun v => bindName X.env x v] [u2, u1] >>= fun _ => pure Flow.next) _ _ _
  refine wpAny_bind (assignInOrder_cons (wpAny_bindName (store_ok I3 hN hj (.inl hy) rw' (fun s2 I4 => ?_) (.inr hy))))
  refine assignInOrder_cons (wpAny_bindName (store_ok I4 hN hi (.inl hx) rv (fun s3 I5 => assignInOrder_nil (wpAny_pure ?_)) (.inr hx)))
  rw [List.set_comm _ _ (Ne.symm hij)] at I5
  exact ⟨_, H1, I5, q1⟩
def tAug (i : Nat) (te : TE) (ti : TIp) : TS := fun D σ H => ∃ x, σ[i]? = some (some x) ∧ te σ H fun y H1 => ti x y H1 fun z H2 => D.nx (σ.set i (some z)) H2
def tAugS (to ti te : TE) (tget : V → V → Hp → VK → Prop) (tip : TIp) (tset : TSet) : TS := fun D σ H => to σ H fun o H1 => ti σ H1 fun i H2 => tget o i H2 fun x H3 => te σ H3 fun y H4 => tip x y H4 fun z H5 => tset o i z H5 fun H6 => D.nx σ H6
def PGet (X : Cx) (t : V → V → Hp → VK → Prop) : Prop :=
  ∀ (pins : List (Addr × Obj)) (s : Shared) (σ : St) (H : Hp) (o i : V) (ov iv : Value) (Q : VK), Inv X pins σ H s → RelV o ov → RelV i iv → t o i H Q →
    wpAny (model X.prog X.w) X.A (getItem ov iv) (EP X pins σ Q) X.xe s
def ipI (f : Int → Int → Int) : TIp := fun x y H Q => ∃ i j, x = .int i ∧ y = .int j ∧ Q (.int (f i j)) H
end

section
variable {X : Cx} {pos : Pos}
def tWhile (c : TT) (tb : TS) : TS := fun D σ H => ∃ W : Nat → St → Hp → Prop, (∃ m, W m σ H) ∧ ∀ m σ H, W m σ H →
  c σ H fun b H1 => if b = true then ∃ N : St → Hp → Prop, (∀ σ' H', N σ' H' → ∃ m', m' < m ∧ W m' σ' H') ∧ tb { D with nx := N, ct := N, bk := D.nx } σ H1 else D.nx σ H1
theorem ps_while {c : Expr} {body : List Stmt} {tc : TT} {tb : TS} (hp : PassesOwn (model X.prog X.w) X.A X.env X.xe) (hc : PT X c tc) (hb : PSs X body tb) : PS X (.While c body [] pos) (tWhile tc tb) := by
  intro pins s σ H D I h
  obtain ⟨W, ⟨m0, w0⟩, turn⟩ := h
  refine wpAny_While (codeAny_whileLoop (fun n s' => ∃ σ' H', Inv X pins σ' H' s' ∧ W n σ' H') ?_ m0 ⟨σ, H, I, w0⟩)
  rintro n s1 ⟨σ1, H1, I1, w1⟩
  refine wpAny_passesOwn hp (thn (hc pins s1 σ1 H1 _ I1 (turn n σ1 H1 w1)) fun b s2 ⟨H2, I2, q2⟩ => ?_)
  cases b with
  | true =>
    obtain ⟨N, hN, q2⟩ := q2
    rw [if_pos rfl]
    refine wpAny_passesOwn hp (thn (hb pins s2 σ1 H2 _ I2 q2) fun f s3 q3 => ?_)
    cases f with
    | next =>
      obtain ⟨σ3, H3, I3, n3⟩ := q3
      obtain ⟨m', hm, w3⟩ := hN σ3 H3 n3
      exact ⟨m', hm, σ3, H3, I3, w3⟩
    | cont =>
      obtain ⟨σ3, H3, I3, n3⟩ := q3
      obtain ⟨m', hm, w3⟩ := hN σ3 H3 n3
      exact ⟨m', hm, σ3, H3, I3, w3⟩
    | brk => exact q3
    | ret v => exact q3
  | false =>
    rw [if_neg Bool.false_ne_true]
    exact wpAny_execs_nil ⟨σ1, H2, I2, q2⟩
end

structure It where
  go : Nat → Hp → Prop
  yld : Nat → Hp → V → Hp → Prop
  stop : Nat → Hp → Prop
def FpOk (X : Cx) (pins : List (Addr × Obj)) (H : Hp) (b : Addr) : Prop :=
  H b = none ∧ b ≠ X.env.locals ∧ b ∉ X.fs ∧ (b ∈ X.ex ∨ X.s₀.heap.objs.size ≤ b) ∧ (∀ x c, X.env.cells.lookup x = some c → c ≠ b) ∧ ∀ p ∈ X.pn ++ pins, p.1 ≠ b
theorem Inv.fpOk {X : Cx} {pins : List (Addr × Obj)} {σ : St} {H H' : Hp} {s : Shared} {b : Addr} (I : Inv X pins σ H s) (hb : s.heap.objs.size ≤ b) (hn : H' b = none) : FpOk X pins H' b := by
  refine ⟨hn, Nat.ne_of_gt (Nat.lt_of_lt_of_le I.lt hb), I.nofs hb, .inr (Nat.le_trans I.sz hb), fun x c e z => ?_, fun p hp z => ?_⟩
  · obtain ⟨v, q⟩ := I.cell x c e
    exact absurd (Nat.lt_of_lt_of_le q.lt (by rw [z]; exact hb)) (Nat.lt_irrefl _)
  · exact absurd (Nat.lt_of_lt_of_le (Heap.lt_size (I.pin p hp).1) (by rw [z]; exact hb)) (Nat.lt_irrefl _)
structure Turn (P : Program) (w : World) (K : PySem.W.Frag) (tg : Expr) (J : It) (fp : List Addr) (it : Addr) (tn : Nat → Heap → Prop) : Prop where
  mem : it ∈ fp
  obj : ∀ i h, tn i h → ∀ b ∈ fp, ∃ o, h.get? b = some o ∧ ∀ v, o.data ≠ .cell v
  keep : ∀ i h h', tn i h → (∀ b ∈ fp, ∀ o, h.get? b = some o → h'.get? b = some o) → tn i h'
  item : ∀ (X : Cx), X.prog = P → X.w = w → X.K = K → X.calm = true → ∀ (i : Nat) (pins : List (Addr × Obj)) (s : Shared) (σ : St) (H : Hp) (E : Value → Shared → Prop), Inv X pins σ H s → (∀ b ∈ fp, FpOk X pins H b) → tn i s.heap → J.go i H →
    wpAny (model P w) X.A (pyNext (.ref it)) (fun r s1 => ∃ u, r = some u ∧
      wpAny (model P w) X.A (letOwnedTupleGo tg (.ref it) u) (fun _ s2 => ∃ x H', Inv X pins σ H' s2 ∧ RelV x u ∧ J.yld i H x H' ∧ tn (i + 1) s2.heap ∧ ∀ b ∈ fp, H' b = none) E s1) E s
  done : ∀ (X : Cx), X.prog = P → X.w = w → X.K = K → X.calm = true → ∀ (i : Nat) (pins : List (Addr × Obj)) (s : Shared) (σ : St) (H : Hp) (E : Value → Shared → Prop), Inv X pins σ H s → (∀ b ∈ fp, FpOk X pins H b) → tn i s.heap → J.stop i H →
    wpAny (model P w) X.A (pyNext (.ref it)) (fun r s1 => r = none ∧ Inv X pins σ H s1) E s
  self : ∀ (A : Around) (i : Nat) (s : Shared) (Q : Value → Shared → Prop) (E : Value → Shared → Prop), tn i s.heap → Q (.ref it) s → wpAny (model P w) A (pyIter (.ref it)) Q E s
abbrev TI := St → Hp → (It → Hp → Prop) → Prop
def PIE (X : Cx) (pins : List (Addr × Obj)) (σ : St) (tg : Expr) (R : It → Hp → Prop) (itv : Value) (s2 : Shared) : Prop :=
  ∃ (it : Addr) (fp : List Addr) (tn : Nat → Heap → Prop) (J : It) (H' : Hp), itv = .ref it ∧ Inv X pins σ H' s2 ∧ Turn X.prog X.w X.K tg J fp it tn ∧ tn 0 s2.heap ∧ (∀ b ∈ fp, FpOk X pins H' b) ∧ R J H'
def PI (X : Cx) (tg iter : Expr) (wi : TI) : Prop :=
  ∀ (pins : List (Addr × Obj)) (s : Shared) (σ : St) (H : Hp) (R : It → Hp → Prop), Inv X pins σ H s → wi σ H R →
    wpAny (model X.prog X.w) X.A (eval iter X.env) (fun v s1 => wpAny (model X.prog X.w) X.A (pyIter v) (PIE X pins σ tg R) X.xe s1) X.xe s

theorem go_of {M : Model} {A : Around} {E : Value → Shared → Prop} {s : Shared} {tg : Expr} {it : Addr} {u : Value} {o : Obj} {n : String} {vs : Array Value} {Q : Unit → Shared → Prop} (ho : s.heap.get? it = some o) (hc : o.cls = .type n) (hd : o.data = .fields vs)
    (hn : ["enumerate", "zip", "dict_itemiterator", "dict_reverseitemiterator", "odict_iterator", "itertools.zip_longest", "itertools.pairwise"].contains n = false) (hQ : Q () s) : wpAny M A (letOwnedTupleGo tg (.ref it) u) Q E s := by
  unfold letOwnedTupleGo
  cases tg <;> first
    | exact wpAny_pure hQ
    | (cases u <;> first
        | exact wpAny_pure hQ
        | (refine wpAny_bind (wpAny_load ho ?_)
           rw [hc, hd]
           show wpAny M A (if (["enumerate", "zip", "dict_itemiterator", "dict_reverseitemiterator", "odict_iterator", "itertools.zip_longest", "itertools.pairwise"].contains n && vs[0]? == some (rawInt _)) = true then _ else _) Q E s
           rw [if_neg (by intro h; rw [hn, Bool.false_and] at h; cases h)]
           exact wpAny_pure hQ))

def Itl (K : PySem.W.Frag) (a : Addr) : It :=
  ⟨fun i H => ∃ xs x, SqL K H a xs ∧ xs[i]? = some x, fun i H x H' => H' = H ∧ ∀ xs, SqL K H a xs → xs[i]? = some x, fun i H => ∃ xs, SqL K H a xs ∧ xs.length ≤ i⟩
def Itt (K : PySem.W.Frag) (a : Addr) : It :=
  ⟨fun i H => ∃ xs x, SqT K H a xs ∧ xs[i]? = some x, fun i H x H' => H' = H ∧ ∀ xs, SqT K H a xs → xs[i]? = some x, fun i H => ∃ xs, SqT K H a xs ∧ xs.length ≤ i⟩
def Itr (lo : Int) (n : Nat) : It := ⟨fun i _ => i < n, fun i H x H' => H' = H ∧ x = .int (lo + i), fun i _ => n ≤ i⟩
theorem turn_list {P : Program} {w : World} {K : PySem.W.Frag} {tg : Expr} (a it : Addr) : Turn P w K tg (Itl K a) [it] it (fun i h => h.IsListIter it a i) where
  mem := by simp
  obj := fun i h st b hb => by
    have e : b = it := by simpa using hb
    subst e
    obtain ⟨o, e, c, d⟩ := st
    exact ⟨o, e, fun v z => by rw [d] at z; cases z⟩
  keep := fun i h h' st k => st.at fun o e => k it (by simp) o e
  item := by
    intro X hP hw hK hc i pins s σ H E I hf st hg
    subst hP hw hK
    obtain ⟨xs, x, hq, hx⟩ := hg
    obtain ⟨its, rv, p, hz⟩ := I.list hq
    obtain ⟨u, hu, ru⟩ := rv.get hx
    obtain ⟨f0, f1, f2, f3, f4, f5⟩ := hf it (by simp)
    refine wpAny_pyNext_list_item st p.isList (x := u) (by simpa using hu) fun h' st' sb => ?_
    have I1 : Inv X pins σ H { s with heap := h' } := I.turned (t' := s.toks) (fun b o hb e => (sb.2 b hb).trans e) f0 f1 f3 f4 f5
    obtain ⟨o, e, c, d⟩ := id st'
    exact ⟨u, rfl, go_of (s := { s with heap := h' }) e c d (by decide) ⟨x, H, I1, ru, ⟨rfl, fun ys hy => by rw [I.list_inj hy hq]; exact hx⟩, st', fun b hb => (hf b hb).1⟩⟩
  done := by
    intro X hP hw hK hc i pins s σ H E I hf st hg
    subst hP hw hK
    obtain ⟨xs, hq, hx⟩ := hg
    obtain ⟨its, rv, p, hz⟩ := I.list hq
    obtain ⟨f0, f1, f2, f3, f4, f5⟩ := hf it (by simp)
    have hl := rv.length
    exact wpAny_pyNext_list_end (I.ok.hd hc) st p.isList (by simp; omega) fun h' eb => ⟨rfl, I.turned (t' := s.toks) (fun b o hb e => eb b o hb e) f0 f1 f3 f4 f5⟩
  self := fun _ _ _ _ _ st h => wpAny_pyIter_listiter st h
theorem turn_range {P : Program} {w : World} {K : PySem.W.Frag} {tg : Expr} (it : Addr) (lo : Int) (n : Nat) : Turn P w K tg (Itr lo n) [it] it (fun i h => IsRangeIter h it (lo + (i : Nat) * 1) ((n : Int) - (i : Nat)) 1) where
  mem := by simp
  obj := fun i h st b hb => by
    have e : b = it := by simpa using hb
    subst e
    exact ⟨_, st, fun v z => by
      have z' : Data.fields _ = Data.cell v := z
      cases z'⟩
  keep := fun i h h' st k => k it (by simp) _ st
  item := by
    intro X hP hw hK hc i pins s σ H E I hf st hg
    subst hP hw hK
    obtain ⟨f0, f1, f2, f3, f4, f5⟩ := hf it (by simp)
    have W := Walks.range (prog := X.prog) (w := X.w) (I.ok.hd hc) it lo 1 n
    refine W.item i s _ _ hg st fun v h' tk hv st' kk => ?_
    obtain ⟨t, rfl⟩ := hv
    have I1 : Inv X pins σ H { s with heap := h', toks := tk } := I.turned (fun b o hb e => kk b o (by simpa using hb) e) f0 f1 f3 f4 f5
    refine ⟨_, rfl, go_of (s := { s with heap := h', toks := tk }) (n := "range_iterator") st' rfl rfl (by decide) ⟨.int (lo + i), H, I1, ⟨t, ?_⟩, ⟨rfl, rfl⟩, st', fun b hb => (hf b hb).1⟩⟩
    rw [Int.mul_one]
  done := by
    intro X hP hw hK hc i pins s σ H E I hf st hg
    subst hP hw hK
    obtain ⟨f0, f1, f2, f3, f4, f5⟩ := hf it (by simp)
    exact wpAny_pyNext_range_end (I.ok.hd hc) st (by have : n ≤ i := hg; omega) fun h' eb => ⟨rfl, I.turned (t' := s.toks) (fun b o hb e => eb b o hb e) f0 f1 f3 f4 f5⟩
  self := fun _ _ _ _ _ st h => wpAny_pyIter_rangeiter st h
end L2

namespace L2
open PySem PySem.Spec PyProof.Rows
section
variable {X : Cx} {tg : Expr}
def iList (K : PySem.W.Frag) (tl : TE) : TI := fun σ H R => tl σ H fun x H1 => ∃ a, x = .ref a ∧ (∃ xs, SqL K H1 a xs) ∧ R (Itl K a) H1
def iTup (K : PySem.W.Frag) (tl : TE) : TI := fun σ H R => tl σ H fun x H1 => ∃ a, x = .ref a ∧ (∃ xs, SqT K H1 a xs) ∧ R (Itt K a) H1
theorem pi_list {l : Expr} {tl : TE} (hl : PE X l tl) : PI X tg l (iList X.K tl) := by
  intro pins s σ H R I h
  refine thn (hl pins s σ H _ I h) fun v s1 ⟨x, H1, I1, r1, q1⟩ => ?_
  obtain ⟨a, e, ⟨xs, hq⟩, q⟩ := q1
  subst e
  cases r1
  obtain ⟨its, rv, p, hz⟩ := I1.list hq
  refine wpAny_pyIter_list p.isList ?_
  refine ⟨s1.heap.objs.size, [s1.heap.objs.size], _, _, H1, rfl, I1.kept (t' := s1.toks) fun b o e => Heap.get?_push_of_some _ e, turn_list a _, ⟨_, Heap.get?_push_size _ rfl, rfl, rfl⟩, fun b hb => ?_, q⟩
  have e : b = s1.heap.objs.size := by simpa using hb
  subst e
  exact I1.fpOk (Nat.le_refl _) (I1.hok.fresh (Nat.le_refl _))
theorem range_it {pins : List (Addr × Obj)} {σ : St} {H : Hp} {s : Shared} {R : It → Hp → Prop} {E : Value → Shared → Prop} {lo hi : Int} {t u v : Tok} {tk : Nat} (I : Inv X pins σ H s) (h1 : -(2 ^ 62) ≤ lo) (h2 : lo < 2 ^ 62) (h3 : -(2 ^ 62) ≤ hi) (h4 : hi < 2 ^ 62)
    (q : R (Itr lo (hi - lo).toNat) H) : wpAny (model X.prog X.w) X.A (pyIter (.ref s.heap.objs.size)) (PIE X pins σ tg R) E { s with heap := s.heap.push { cls := .type "range", data := .fields #[.int lo t, .int hi u, .int 1 v] }, toks := tk } := by
  refine wpAny_pyIter_range (IsRange.new ..) (small_one h1 h2 h3 h4) ?_
  have I1 : Inv X pins σ H { s with heap := s.heap.push { cls := .type "range", data := .fields #[.int lo t, .int hi u, .int 1 v] }, toks := tk } := I.kept fun b o e => Heap.get?_push_of_some _ e
  refine ⟨(s.heap.push { cls := .type "range", data := .fields #[.int lo t, .int hi u, .int 1 v] }).objs.size, [(s.heap.push { cls := .type "range", data := .fields #[.int lo t, .int hi u, .int 1 v] }).objs.size], _, _, H, rfl,
    I1.kept (t' := tk) fun b o e => Heap.get?_push_of_some _ e, turn_range _ lo (hi - lo).toNat, ?_, fun b hb => ?_, q⟩
  · have e1 : lo + ((0 : Nat) : Int) * 1 = lo := by simp
    have e2 : (((hi - lo).toNat : Nat) : Int) - ((0 : Nat) : Int) = Builtin.Range.rangeSize lo hi 1 := by rw [rangeSize_one]; split <;> omega
    show IsRangeIter _ _ (lo + ((0 : Nat) : Int) * 1) ((((hi - lo).toNat : Nat) : Int) - ((0 : Nat) : Int)) 1
    rw [e1, e2]
    exact Heap.get?_push_size _ rfl
  · have e : b = (s.heap.push { cls := .type "range", data := .fields #[.int lo t, .int hi u, .int 1 v] }).objs.size := by simpa using hb
    subst e
    exact I1.fpOk (Nat.le_refl _) (I1.hok.fresh (Nat.le_refl _))
def iRng1 (ta : TA) : TI := fun σ H R => ta σ H fun vs H1 => ∃ j : Int, vs = [.int j] ∧ -(2 ^ 62) ≤ j ∧ j < 2 ^ 62 ∧ R (Itr 0 j.toNat) H1
def iRng2 (ta : TA) : TI := fun σ H R => ta σ H fun vs H1 => ∃ i j : Int, vs = [.int i, .int j] ∧ (-(2 ^ 62) ≤ i ∧ i < 2 ^ 62 ∧ -(2 ^ 62) ≤ j ∧ j < 2 ^ 62) ∧ R (Itr i (j - i).toNat) H1
theorem pi_range1 {a : Expr} {ta : TA} {p pos : Pos} (hg : Gl X "range") (hm : X.mg "range" = none) (ha : PA X [a] ta) (hs : starEach [a] X.env = [(false, eval a X.env)] := by rfl) : PI X tg (.Call (.Name "range" p) [a] [] pos) (iRng1 ta) := by
  intro pins s σ H R I h
  refine Call_ (ld_blt I hg hm boot_range (PyProof.Rows.callWith_type1 (thn (ha pos pins s σ H _ I h) fun us s1 ⟨vs, H1, I1, r1, q1⟩ => ?_) hs rfl))
  obtain ⟨j, e, q1, q2, q⟩ := q1
  subst e
  cases r1 with
  | cons r rr =>
    cases rr
    obtain ⟨t, rfl⟩ := r
    exact call_range_1 (range_it I1 (by omega) (by omega) q1 q2 (by simpa using q))
def tFor (wi : TI) (g : TG) (tb : TS) : TS := fun D σ H => wi σ H fun J H1 => ∃ W : Nat → Nat → St → Hp → Prop, (∃ m, W 0 m σ H1) ∧ ∀ i m σ H, W i m σ H →
  (J.stop i H ∧ D.nx σ H) ∨ (J.go i H ∧ ∃ N : St → Hp → Prop, (∀ σ' H', N σ' H' → ∃ m', m' < m ∧ W (i + 1) m' σ' H') ∧ ∀ x H', J.yld i H x H' → g x σ H' fun σ2 H2 => tb { D with nx := N, ct := N, bk := D.nx } σ2 H2)
def pinsAt (fp : List Addr) (h : Heap) : List (Addr × Obj) := fp.filterMap fun b => (h.get? b).map fun o => (b, o)
theorem mem_pinsAt {fp : List Addr} {h : Heap} {b : Addr} {o : Obj} (hb : b ∈ fp) (e : h.get? b = some o) : (b, o) ∈ pinsAt fp h := List.mem_filterMap.mpr ⟨b, hb, by rw [e]; rfl⟩
theorem of_pinsAt {fp : List Addr} {h : Heap} {p : Addr × Obj} (hp : p ∈ pinsAt fp h) : p.1 ∈ fp ∧ h.get? p.1 = some p.2 := by
  obtain ⟨b, hb, e⟩ := List.mem_filterMap.mp hp
  cases q : h.get? b with
  | none => rw [q] at e; cases e
  | some o =>
    rw [q] at e
    have e' : (b, o) = p := Option.some.inj e
    subst e'
    exact ⟨hb, q⟩
theorem Inv.pinned {pins : List (Addr × Obj)} {σ : St} {H : Hp} {s : Shared} {fp : List Addr} (I : Inv X pins σ H s) (hf : ∀ b ∈ fp, FpOk X pins H b) (ho : ∀ b ∈ fp, ∃ o, s.heap.get? b = some o ∧ ∀ v, o.data ≠ .cell v) : Inv X (pins ++ pinsAt fp s.heap) σ H s :=
  I.pins_of fun p hp => (List.mem_append.mp hp).elim (fun z => I.pin p (List.mem_append_right _ z)) fun z => by
    obtain ⟨hb, e⟩ := of_pinsAt z
    obtain ⟨f0, f1, f2, _⟩ := hf p.1 hb
    obtain ⟨o, e', d⟩ := ho p.1 hb
    rw [e] at e'; cases e'
    exact ⟨e, f0, f1, f2, d⟩
theorem Inv.unpinned {pins pl : List (Addr × Obj)} {σ : St} {H : Hp} {s : Shared} (I : Inv X (pins ++ pl) σ H s) : Inv X pins σ H s := I.pins_of fun p hp => I.pin p (List.mem_append_right _ (List.mem_append_left _ hp))
theorem ps_for {iter : Expr} {body : List Stmt} {wi : TI} {g : TG} {tb : TS} {pos : Pos} (hp : PassesOwn (model X.prog X.w) X.A X.env X.xe) (hc : X.calm = true) (hi : PI X tg iter wi) (hg : PG X tg g) (hb : PSs X body tb)
    (hs : ∀ x, foldedSetIterable iter X.env x = pure x := by intro _; rfl) : PS X (.For tg iter body [] pos) (tFor wi g tb) := by
  intro pins s σ H D I h
  refine wpAny_For (thn (hi pins s σ H _ I h) fun v s1 h1 => thn h1 fun itv s2 h2 => ?_) hs
  obtain ⟨it, fp, tn, J, H2, e, I2, T, st2, f2, W, ⟨m0, w0⟩, turn⟩ := h2
  subst e
  -- what stays true of the iterator's objects through the loop
  have stat : ∀ {H' : Hp}, (∀ b ∈ fp, H' b = none) → ∀ b ∈ fp, FpOk X pins H' b := fun hn b hb => ⟨hn b hb, (f2 b hb).2⟩
  refine codeAny_forLoop_any (fun n s' => ∃ i σ' H', Inv X pins σ' H' s' ∧ tn i s'.heap ∧ (∀ b ∈ fp, H' b = none) ∧ W i n σ' H') ?_ m0 ⟨0, σ, H2, I2, st2, fun b hb => (f2 b hb).1, w0⟩
  rintro n s3 ⟨i, σ3, H3, I3, st3, fr3, w3⟩
  rcases turn i n σ3 H3 w3 with ⟨stop, qn⟩ | ⟨go, N, hN, step⟩
  · refine wpAny_passesOwn hp (thn (T.done X rfl rfl rfl hc i pins s3 σ3 H3 X.xe I3 (stat fr3) st3 stop) fun r s4 ⟨hr, I4⟩ => ?_)
    subst hr
    exact wpAny_execs_nil ⟨σ3, H3, I4, qn⟩
  · refine wpAny_passesOwn hp (thn (T.item X rfl rfl rfl hc i pins s3 σ3 H3 X.xe I3 (stat fr3) st3 go) fun r s4 ⟨u, hr, h4⟩ => ?_)
    subst hr
    refine wpAny_passesOwn hp (thn h4 fun _ s5 ⟨x, H5, I5, r5, y5, st5, fr5⟩ => ?_)
    have I5' := I5.pinned (stat fr5) (T.obj _ _ st5)
    refine wpAny_passesOwn hp (thn (hg _ s5 σ3 H5 x u _ I5' r5 (step x H5 y5)) fun _ s6 ⟨σ6, H6, I6, q6⟩ => ?_)
    refine wpAny_passesOwn hp (thn (hb _ s6 σ6 H6 _ I6 q6) fun f s7 q7 => ?_)
    have again : ∀ {σ7 : St} {H7 : Hp}, Inv X (pins ++ pinsAt fp s5.heap) σ7 H7 s7 → N σ7 H7 → ∃ m, m < n ∧ ∃ i σ' H', Inv X pins σ' H' s7 ∧ tn i s7.heap ∧ (∀ b ∈ fp, H' b = none) ∧ W i m σ' H' := fun {σ7 H7} I7 n7 => by
      obtain ⟨m', hm, w7⟩ := hN σ7 H7 n7
      refine ⟨m', hm, i + 1, σ7, H7, I7.unpinned, T.keep _ _ _ st5 fun b hb o e => (I7.pin (b, o) (List.mem_append_right _ (List.mem_append_right _ (mem_pinsAt hb e)))).1, fun b hb => ?_, w7⟩
      obtain ⟨o, e, d⟩ := T.obj _ _ st5 b hb
      exact (I7.pin (b, o) (List.mem_append_right _ (List.mem_append_right _ (mem_pinsAt hb e)))).2.1
    cases f with
    | next => obtain ⟨σ7, H7, I7, n7⟩ := q7; exact again I7 n7
    | cont => obtain ⟨σ7, H7, I7, n7⟩ := q7; exact again I7 n7
    | brk => obtain ⟨σ7, H7, I7, q7⟩ := q7; exact ⟨σ7, H7, I7.unpinned, q7⟩
    | ret v => obtain ⟨x7, σ7, H7, I7, r7, q7⟩ := q7; exact ⟨x7, σ7, H7, I7.unpinned, r7, q7⟩
end

theorem for_list {K : PySem.W.Frag} {a : Addr} {xs : List V} {g : TG} {tb : TS} {D : Ends} {σ : St} {H : Hp} (Pv : Nat → St → Hp → Prop) (h0 : Pv 0 σ H) (hl : ∀ i σ H, i ≤ xs.length → Pv i σ H → SqL K H a xs)
    (hs : ∀ i x σ H, xs[i]? = some x → Pv i σ H → g x σ H fun σ2 H2 => tb { D with nx := Pv (i + 1), ct := Pv (i + 1), bk := D.nx } σ2 H2) (hd : ∀ σ H, Pv xs.length σ H → D.nx σ H) :
    ∃ W : Nat → Nat → St → Hp → Prop, (∃ m, W 0 m σ H) ∧ ∀ i m σ H, W i m σ H →
      ((Itl K a).stop i H ∧ D.nx σ H) ∨ ((Itl K a).go i H ∧ ∃ N : St → Hp → Prop, (∀ σ' H', N σ' H' → ∃ m', m' < m ∧ W (i + 1) m' σ' H') ∧ ∀ x H', (Itl K a).yld i H x H' → g x σ H' fun σ2 H2 => tb { D with nx := N, ct := N, bk := D.nx } σ2 H2) := by
  refine ⟨fun i m σ H => m = xs.length - i ∧ i ≤ xs.length ∧ Pv i σ H, ⟨xs.length, by simp, Nat.zero_le _, h0⟩, ?_⟩
  rintro i m σ H ⟨rfl, hi, p⟩
  have q := hl i σ H hi p
  by_cases hlt : i < xs.length
  · refine .inr ⟨⟨xs, xs[i], q, by simp [hlt]⟩, Pv (i + 1), fun σ' H' p' => ⟨xs.length - (i + 1), by omega, rfl, hlt, p'⟩, fun x H' y => ?_⟩
    obtain ⟨e, y⟩ := y
    subst e
    exact hs i x σ _ (y xs q) p
  · have e : i = xs.length := by omega
    subst e
    exact .inl ⟨⟨xs, q, Nat.le_refl _⟩, hd σ H p⟩
theorem for_range {lo : Int} {n : Nat} {g : TG} {tb : TS} {D : Ends} {σ : St} {H : Hp} (Pv : Nat → St → Hp → Prop) (h0 : Pv 0 σ H)
    (hs : ∀ i σ H, i < n → Pv i σ H → g (.int (lo + i)) σ H fun σ2 H2 => tb { D with nx := Pv (i + 1), ct := Pv (i + 1), bk := D.nx } σ2 H2) (hd : ∀ σ H, Pv n σ H → D.nx σ H) :
    ∃ W : Nat → Nat → St → Hp → Prop, (∃ m, W 0 m σ H) ∧ ∀ i m σ H, W i m σ H →
      ((Itr lo n).stop i H ∧ D.nx σ H) ∨ ((Itr lo n).go i H ∧ ∃ N : St → Hp → Prop, (∀ σ' H', N σ' H' → ∃ m', m' < m ∧ W (i + 1) m' σ' H') ∧ ∀ x H', (Itr lo n).yld i H x H' → g x σ H' fun σ2 H2 => tb { D with nx := N, ct := N, bk := D.nx } σ2 H2) := by
  refine ⟨fun i m σ H => m = n - i ∧ i ≤ n ∧ Pv i σ H, ⟨n, by simp, Nat.zero_le _, h0⟩, ?_⟩
  rintro i m σ H ⟨rfl, hi, p⟩
  by_cases hlt : i < n
  · refine .inr ⟨hlt, Pv (i + 1), fun σ' H' p' => ⟨n - (i + 1), by omega, rfl, hlt, p'⟩, fun x H' y => ?_⟩
    obtain ⟨e, y⟩ := y
    subst e y
    exact hs i σ _ hlt p
  · have e : i = n := by omega
    subst e
    exact .inl ⟨Nat.le_refl _, hd σ H p⟩
theorem while_by {c : TT} {tb : TS} {D : Ends} {σ : St} {H : Hp} (Pv : St → Hp → Prop) (μ : St → Hp → Nat) (h0 : Pv σ H)
    (hs : ∀ σ H, Pv σ H → c σ H fun b H1 => if b = true then tb { D with nx := fun σ' H' => Pv σ' H' ∧ μ σ' H' < μ σ H, ct := fun σ' H' => Pv σ' H' ∧ μ σ' H' < μ σ H, bk := D.nx } σ H1 else D.nx σ H1)
    (mono : ∀ σ H Q Q', (∀ b H1, Q b H1 → Q' b H1) → c σ H Q → c σ H Q') : tWhile c tb D σ H := by
  refine ⟨fun m σ H => m = μ σ H ∧ Pv σ H, ⟨_, rfl, h0⟩, ?_⟩
  rintro m σ H ⟨rfl, p⟩
  refine mono σ H _ _ (fun b H1 q => ?_) (hs σ H p)
  cases b with
  | true => exact ⟨_, fun σ' H' ⟨p', l⟩ => ⟨_, l, rfl, p'⟩, q⟩
  | false => exact q
end L2

namespace L2
open PySem PySem.Spec PyProof.Rows

abbrev R2 := V → V → Hp → VK → Prop
def OpR (X : Cx) (f : Value → Value → Sem Value) (r : R2) : Prop :=
  ∀ (pins : List (Addr × Obj)) (s : Shared) (σ : St) (H : Hp) (x y : V) (v u : Value) (Q : VK), Inv X pins σ H s → RelV x v → RelV y u → r x y H Q →
    wpAny (model X.prog X.w) X.A (f v u) (EP X pins σ Q) X.xe s
def UnR (X : Cx) (f : Value → Sem Value) (r : V → Hp → VK → Prop) : Prop :=
  ∀ (pins : List (Addr × Obj)) (s : Shared) (σ : St) (H : Hp) (x : V) (v : Value) (Q : VK), Inv X pins σ H s → RelV x v → r x H Q →
    wpAny (model X.prog X.w) X.A (f v) (EP X pins σ Q) X.xe s
def CallR (X : Cx) (f : Value) (r : List V → Hp → VK → Prop) : Prop :=
  ∀ (pins : List (Addr × Obj)) (s : Shared) (σ : St) (H : Hp) (xs : List V) (us : List Value) (Q : VK), Inv X pins σ H s → Vals xs us → r xs H Q →
    wpAny (model X.prog X.w) X.A (call f us) (EP X pins σ Q) X.xe s
def TruR (X : Cx) (r : V → Hp → (Bool → Hp → Prop) → Prop) : Prop :=
  ∀ (pins : List (Addr × Obj)) (s : Shared) (σ : St) (H : Hp) (x : V) (v : Value) (Q : Bool → Hp → Prop), Inv X pins σ H s → RelV x v → r x H Q →
    wpAny (model X.prog X.w) X.A (truthy v) (TP X pins σ Q) X.xe s

def tOp (r : R2) (ta tb : TE) : TE := fun σ H Q => ta σ H fun x H1 => tb σ H1 fun y H2 => r x y H2 Q
def tUn (r : V → Hp → VK → Prop) (ta : TE) : TE := fun σ H Q => ta σ H fun x H1 => r x H1 Q
def rI (C : Int → Int → Prop) (g : Int → Int → V) : R2 := fun x y H Q => ∃ i j, x = .int i ∧ y = .int j ∧ C i j ∧ Q (g i j) H
def rI0 (g : Int → Int → V) : R2 := fun x y H Q => ∃ i j, x = .int i ∧ y = .int j ∧ Q (g i j) H
def rU (g : Int → V) : V → Hp → VK → Prop := fun x H Q => ∃ i, x = .int i ∧ Q (g i) H

section
variable {X : Cx} {a b c : Expr} {ta tb tc : TE} {pos : Pos}

theorem binT (ha : PE X a ta) (hb : PE X b tb) {pins : List (Addr × Obj)} {s : Shared} {σ : St} {H : Hp} {R : V → V → Hp → Prop} (I : Inv X pins σ H s)
    (h : ta σ H fun x H1 => tb σ H1 fun y H2 => R x y H2) {Q : Value → Shared → Prop} {f : Value → Value → Sem Value}
    (hf : ∀ v u s2 x y H2, Inv X pins σ H2 s2 → RelV x v → RelV y u → R x y H2 → wpAny (model X.prog X.w) X.A (f v u) Q X.xe s2) :
    wpAny (model X.prog X.w) X.A (eval a X.env) (fun v s₁ => wpAny (model X.prog X.w) X.A (eval b X.env) (fun u s₂ => wpAny (model X.prog X.w) X.A (f v u) Q X.xe s₂) X.xe s₁) X.xe s := by
  refine thn (ha pins s σ H _ I h) fun v s1 ⟨x, H1, I1, r1, q1⟩ => ?_
  refine thn (hb pins s1 σ H1 _ I1 q1) fun u s2 ⟨y, H2, I2, r2, q2⟩ => ?_
  exact hf v u s2 x y H2 I2 r1 r2 q2

theorem pe_op {op : Operator} {r : R2} (ho : OpR X (binaryOp op) r) (ha : PE X a ta) (hb : PE X b tb) : PE X (.BinOp a op b pos) (tOp r ta tb) := by
  intro pins s σ H Q I h
  exact wpAny_BinOp (binT ha hb I h fun v u s2 x y H2 I2 rx ry q => ho pins s2 σ H2 x y v u Q I2 rx ry q)
theorem opI {f : Value → Value → Sem Value} {C : Int → Int → Prop} {g : Int → Int → Int}
    (rule : ∀ (i j : Int) (t u : Tok) (s : Shared) (Q : Value → Shared → Prop) (E : Value → Shared → Prop), C i j → Q (.int (g i j) s.toks) { s with toks := s.toks + 1 } → wpAny (model X.prog X.w) X.A (f (.int i t) (.int j u)) Q E s) :
    OpR X f (rI C fun i j => .int (g i j)) := by
  intro pins s σ H x y v u Q I rx ry h
  obtain ⟨i, j, rfl, rfl, hc, q⟩ := h
  obtain ⟨t, rfl⟩ := rx
  obtain ⟨t', rfl⟩ := ry
  exact rule i j t t' s _ _ hc ⟨.int (g i j), H, I.tok _, ⟨_, rfl⟩, q⟩
theorem opI0 {f : Value → Value → Sem Value} {g : Int → Int → Int}
    (rule : ∀ (i j : Int) (t u : Tok) (s : Shared) (Q : Value → Shared → Prop) (E : Value → Shared → Prop), Q (.int (g i j) s.toks) { s with toks := s.toks + 1 } → wpAny (model X.prog X.w) X.A (f (.int i t) (.int j u)) Q E s) :
    OpR X f (rI0 fun i j => .int (g i j)) := by
  intro pins s σ H x y v u Q I rx ry h
  obtain ⟨i, j, rfl, rfl, q⟩ := h
  obtain ⟨t, rfl⟩ := rx
  obtain ⟨t', rfl⟩ := ry
  exact rule i j t t' s _ _ ⟨.int (g i j), H, I.tok _, ⟨_, rfl⟩, q⟩
theorem opB0 {f : Value → Value → Sem Value} {g : Int → Int → Bool}
    (rule : ∀ (i j : Int) (t u : Tok) (s : Shared) (Q : Value → Shared → Prop) (E : Value → Shared → Prop), Q (.bool (g i j)) s → wpAny (model X.prog X.w) X.A (f (.int i t) (.int j u)) Q E s) :
    OpR X f (rI0 fun i j => .bl (g i j)) := by
  intro pins s σ H x y v u Q I rx ry h
  obtain ⟨i, j, rfl, rfl, q⟩ := h
  obtain ⟨t, rfl⟩ := rx
  obtain ⟨t', rfl⟩ := ry
  exact rule i j t t' s _ _ ⟨.bl (g i j), H, I, rfl, q⟩

def CDiv (i j : Int) : Prop := 0 < j ∧ j < 1073741824
def CDivN (i j : Int) : Prop := j ≠ 0 ∧ j.natAbs < 1073741824
def CPow (i j : Int) : Prop := 0 ≤ j ∧ j ≤ 1000000 ∧ i.natAbs < 2 ^ 64
def CMul (i j : Int) : Prop := (-(2 ^ 64) < i ∧ i < 2 ^ 64) ∨ (-(2 ^ 64) < j ∧ j < 2 ^ 64)
theorem CMul.ok {i j : Int} (h : CMul i j) : IntMulOk i j := by
  rcases h with ⟨h1, h2⟩ | ⟨h1, h2⟩
  · exact .of_left (intBits_le_64 h1 h2)
  · exact .of_right (intBits_le_64 h1 h2)
theorem op_add : OpR X (binaryOp .Add) (rI0 fun i j => .int (i + j)) := opI0 fun _ _ _ _ _ _ _ q => add_int q
theorem op_sub : OpR X (binaryOp .Sub) (rI0 fun i j => .int (i - j)) := opI0 fun _ _ _ _ _ _ _ q => sub_int q
theorem op_modN : OpR X (binaryOp .Mod) (rI (fun _ j => j ≠ 0) fun i j => .int (i.fmod j)) := opI fun _ _ _ _ _ _ _ hc q => mod_int' hc q
theorem op_pow : OpR X (binaryOp .Pow) (rI CPow fun i j => .int (i ^ j.toNat)) := opI fun _ _ _ _ _ _ _ hc q => pow_int_small hc.1 hc.2.1 hc.2.2 q
end

def scal : V → V → Bool
  | .non, .non => true | .non, .int _ => true | .int _, .non => true | .non, .bl _ => true | .bl _, .non => true | .non, .str _ => true | .str _, .non => true
  | .int _, .int _ => true | .bl _, .bl _ => true | .str _, .str _ => true | .byt _, .byt _ => true
  | .int _, .str _ => true | .str _, .int _ => true | .bl _, .str _ => true | .str _, .bl _ => true
  | _, _ => false
def rEq : R2 := fun x y H Q => scal x y = true ∧ Q (.bl (decide (x = y))) H
def rNe : R2 := fun x y H Q => scal x y = true ∧ Q (.bl (!decide (x = y))) H

theorem dec_int {i j : Int} : decide (V.int i = V.int j) = (i == j) := by
  rw [Bool.eq_iff_iff]
  simp
theorem dec_bl {i j : Bool} : decide (V.bl i = V.bl j) = (i == j) := by
  rw [Bool.eq_iff_iff]
  simp
theorem dec_str {i j : Str} : decide (V.str i = V.str j) = (i == j) := by
  rw [Bool.eq_iff_iff]
  simp
theorem dec_byt {i j : Array UInt8} : decide (V.byt i = V.byt j) = (i.toList == j.toList) := by
  rw [Bool.eq_iff_iff]
  cases i
  cases j
  simp

section
variable {X : Cx} {a b c : Expr} {ta tb tc : TE} {pos : Pos}
theorem fin_bl {pins : List (Addr × Obj)} {σ : St} {H : Hp} {s : Shared} {Q : VK} {k k' : Bool} (I : Inv X pins σ H s) (q : Q (.bl k) H) (e : k = k') : EP X pins σ Q (.bool k') s := by
  subst e
  exact ⟨.bl k, H, I, rfl, q⟩
theorem op_eq : OpR X (compareOp .Eq) rEq := by
  intro pins s σ H x y v u Q I rx ry h
  obtain ⟨hs, q⟩ := h
  cases x with
  | non =>
    cases rx
    cases y with
    | non => cases ry; exact PySem.EqNone.eq_none_none (fin_bl I q (by simp))
    | bl j => cases ry; exact PySem.EqNone.eq_none_bool (fin_bl I q (by simp))
    | int j => obtain ⟨t', rfl⟩ := ry; exact PySem.EqNone.eq_none_int (fin_bl I q (by simp))
    | str j => obtain ⟨t', rfl⟩ := ry; exact PySem.EqNone.eq_none_str (fin_bl I q (by simp))
    | _ => exact absurd (show false = true from hs) Bool.false_ne_true
  | bl i =>
    cases rx
    cases y with
    | non => cases ry; exact PySem.EqNone.eq_bool_none (fin_bl I q (by simp))
    | bl j => cases ry; exact eq_bool (fin_bl I q dec_bl)
    | str j => obtain ⟨t', rfl⟩ := ry; exact PySem.EqMixed.eq_bool_str (fin_bl I q (by simp))
    | _ => exact absurd (show false = true from hs) Bool.false_ne_true
  | int i =>
    obtain ⟨t, rfl⟩ := rx
    cases y with
    | non => cases ry; exact PySem.EqNone.eq_int_none (fin_bl I q (by simp))
    | int j => obtain ⟨t', rfl⟩ := ry; exact eq_int (fin_bl I q dec_int)
    | str j => obtain ⟨t', rfl⟩ := ry; exact PySem.EqMixed.eq_int_str (fin_bl I q (by simp))
    | _ => exact absurd (show false = true from hs) Bool.false_ne_true
  | str i =>
    obtain ⟨t, rfl⟩ := rx
    cases y with
    | non => cases ry; exact PySem.EqNone.eq_str_none (fin_bl I q (by simp))
    | bl j => cases ry; exact PySem.EqMixed.eq_str_bool (fin_bl I q (by simp))
    | int j => obtain ⟨t', rfl⟩ := ry; exact PySem.EqMixed.eq_str_int (fin_bl I q (by simp))
    | str j => obtain ⟨t', rfl⟩ := ry; exact eq_str (fin_bl I q dec_str)
    | _ => exact absurd (show false = true from hs) Bool.false_ne_true
  | byt i =>
    obtain ⟨t, rfl⟩ := rx
    cases y with
    | byt j => obtain ⟨t', rfl⟩ := ry; exact PySem.W.eq_bytes (fin_bl I q dec_byt)
    | _ => exact absurd (show false = true from hs) Bool.false_ne_true
  | _ => cases y <;> exact absurd (show false = true from hs) Bool.false_ne_true
theorem op_ne : OpR X (compareOp .NotEq) rNe := by
  intro pins s σ H x y v u Q I rx ry h
  obtain ⟨hs, q⟩ := h
  cases x with
  | non =>
    cases rx
    cases y with
    | non => cases ry; exact PySem.EqNone.ne_none_none (fin_bl I q (by simp))
    | bl j => cases ry; exact PySem.EqNone.ne_none_bool (fin_bl I q (by simp))
    | int j => obtain ⟨t', rfl⟩ := ry; exact PySem.EqNone.ne_none_int (fin_bl I q (by simp))
    | str j => obtain ⟨t', rfl⟩ := ry; exact PySem.EqNone.ne_none_str (fin_bl I q (by simp))
    | _ => exact absurd (show false = true from hs) Bool.false_ne_true
  | bl i =>
    cases rx
    cases y with
    | non => cases ry; exact PySem.EqNone.ne_bool_none (fin_bl I q (by simp))
    | bl j => cases ry; exact ne_bool (fin_bl I q (congrArg not dec_bl))
    | str j => obtain ⟨t', rfl⟩ := ry; exact PySem.EqMixed.ne_bool_str (fin_bl I q (by simp))
    | _ => exact absurd (show false = true from hs) Bool.false_ne_true
  | int i =>
    obtain ⟨t, rfl⟩ := rx
    cases y with
    | non => cases ry; exact PySem.EqNone.ne_int_none (fin_bl I q (by simp))
    | int j => obtain ⟨t', rfl⟩ := ry; exact ne_int (fin_bl I q (congrArg not dec_int))
    | str j => obtain ⟨t', rfl⟩ := ry; exact PySem.EqMixed.ne_int_str (fin_bl I q (by simp))
    | _ => exact absurd (show false = true from hs) Bool.false_ne_true
  | str i =>
    obtain ⟨t, rfl⟩ := rx
    cases y with
    | non => cases ry; exact PySem.EqNone.ne_str_none (fin_bl I q (by simp))
    | bl j => cases ry; exact PySem.EqMixed.ne_str_bool (fin_bl I q (by simp))
    | int j => obtain ⟨t', rfl⟩ := ry; exact PySem.EqMixed.ne_str_int (fin_bl I q (by simp))
    | str j => obtain ⟨t', rfl⟩ := ry; exact ne_str (fin_bl I q (congrArg not dec_str))
    | _ => exact absurd (show false = true from hs) Bool.false_ne_true
  | byt i =>
    obtain ⟨t, rfl⟩ := rx
    cases y with
    | byt j => obtain ⟨t', rfl⟩ := ry; exact PySem.W.ne_bytes (fin_bl I q (congrArg not dec_byt))
    | _ => exact absurd (show false = true from hs) Bool.false_ne_true
  | _ => cases y <;> exact absurd (show false = true from hs) Bool.false_ne_true

theorem op_lt : OpR X (compareOp .Lt) (rI0 fun i j => .bl (decide (i < j))) := opB0 fun _ _ _ _ _ _ _ q => lt_int q
theorem op_ge : OpR X (compareOp .GtE) (rI0 fun i j => .bl (decide (j ≤ i))) := opB0 fun _ _ _ _ _ _ _ q => ge_int q
theorem op_isN : OpR X (compareOp .Is) (fun x y H Q => y = .non ∧ Q (.bl (decide (x = .non))) H) := by
  intro pins s σ H x y v u Q I rx ry h
  obtain ⟨rfl, q⟩ := h
  cases ry
  refine is_none_gen (fin_bl I q ?_)
  cases x <;> first
    | (cases rx; rfl)
    | (obtain ⟨t, rfl⟩ := rx; rfl)
def isObj : HO → Bool
  | .lst _ => true
  | .ins _ _ _ => true
  | _ => false
theorem OpR.or {f : Value → Value → Sem Value} {r r' : R2} (h : OpR X f r) (h' : OpR X f r') : OpR X f (fun x y H Q => r x y H Q ∨ r' x y H Q) := by
  intro pins s σ H x y v u Q I rx ry q
  rcases q with q | q
  · exact h pins s σ H x y v u Q I rx ry q
  · exact h' pins s σ H x y v u Q I rx ry q

theorem nomark (b : Expr) {op : CmpOp} (h : op ≠ .In := by decide) (h2 : op ≠ .NotIn := by decide) : behindInMarks op b = false := by
  have e1 : (op == CmpOp.In) = false := by cases op <;> first | rfl | exact absurd rfl h
  have e2 : (op == CmpOp.NotIn) = false := by cases op <;> first | rfl | exact absurd rfl h2
  cases b <;> simp [behindInMarks, e1, e2]
theorem pe_cmpR {op : CmpOp} {r : R2} (ho : OpR X (compareOp op) r) (ha : PE X a ta) (hb : PE X b tb) (hm : behindInMarks op b = false) : PE X (.Compare a [op] [b] pos) (tOp r ta tb) := by
  intro pins s σ H Q I h
  exact wpAny_Compare1 (binT ha hb I h fun v u s2 x y H2 I2 rx ry q => ho pins s2 σ H2 x y v u Q I2 rx ry q) hm
def tTest (t : TE) : TT := fun σ H Q => t σ H fun x H' => ∃ k, x = .bl k ∧ Q k H'
theorem pt_cmpR {op : CmpOp} {r : R2} (ho : OpR X (compareOp op) r) (ha : PE X a ta) (hb : PE X b tb) (hm : behindInMarks op b = false) : PT X (.Compare a [op] [b] pos) (tTest (tOp r ta tb)) := by
  intro pins s σ H Q I h
  refine wpAny_isTrue_Compare1 (thn (ha pins s σ H _ I h) fun v s1 ⟨x, H1, I1, r1, q1⟩ => thn (hb pins s1 σ H1 _ I1 q1) fun u s2 ⟨y, H2, I2, r2, q2⟩ =>
    thn (ho pins s2 σ H2 x y v u _ I2 r1 r2 q2) fun c s3 ⟨z, H3, I3, r3, k, e, q3⟩ => ?_) hm
  subst e
  cases r3
  exact wpAny_truthy_bool ⟨H3, I3, q3⟩
def tChain (r r' : R2) (ta tb tc : TE) : TE := fun σ H Q => ta σ H fun x H1 => tb σ H1 fun y H2 => r x y H2 fun z H3 => ∃ k, z = .bl k ∧
  (if k = true then tc σ H3 fun w' H4 => r' y w' H4 Q else Q (.bl false) H3)
def TruV (K : PySem.W.Frag) (x : V) (H : Hp) (k : Bool) : Prop :=
  match x with
  | .non => k = false
  | .bl b => k = b
  | .int i => k = (i != 0)
  | .str y => y.length ≤ sizeLine ∧ k = ((y.length : Int) != 0)
  | .byt y => y.size ≤ sizeLine ∧ k = ((y.size : Int) != 0)
  | .ref p => (∃ xs, SqL K H p xs ∧ k = !xs.isEmpty) ∨ (∃ xs, SqT K H p xs ∧ k = !xs.isEmpty) ∨ ∃ kvs, H p = some (.dK kvs) ∧ k = !kvs.isEmpty
  | _ => False
theorem line63 : (sizeLine : Nat) < 2 ^ 63 := by rw [sizeLine_eq]; decide
theorem op_add_str : OpR X (binaryOp .Add) (fun x y H Q => ∃ i j, x = .str i ∧ y = .str j ∧ i.length + j.length ≤ sizeLine ∧ Q (.str (i ++ j)) H) := by
  intro pins s σ H x y v u Q I rx ry h
  obtain ⟨i, j, rfl, rfl, hz, q⟩ := h
  obtain ⟨t, rfl⟩ := rx
  obtain ⟨t', rfl⟩ := ry
  exact add_str (fun t' tk => ⟨.str (i ++ j), H, I.tok _, ⟨_, rfl⟩, q⟩) hz
def PlainIxT (b : Expr) : Prop := ∀ o i, subscripted b false o i = operate [o, i] (getItem o i)
theorem vals1 {x : V} {us : List Value} (r : Vals [x] us) : ∃ u, us = [u] ∧ RelV x u := by
  cases r with
  | cons r1 r2 => cases r2; exact ⟨_, rfl, r1⟩
theorem vals2 {x y : V} {us : List Value} (r : Vals [x, y] us) : ∃ u w', us = [u, w'] ∧ RelV x u ∧ RelV y w' := by
  cases r with
  | cons r1 r2 =>
    cases r2 with
    | cons r3 r4 => cases r4; exact ⟨_, _, rfl, r1, r3⟩
theorem call_abs : CallR X (.builtin "abs") (fun xs H Q => ∃ i, xs = [.int i] ∧ Q (.int (if i < 0 then -i else i)) H) := by
  intro pins s σ H xs us Q I r h
  obtain ⟨i, rfl, q⟩ := h
  obtain ⟨u, rfl, t, rfl⟩ := vals1 r
  exact call_abs_int fun u tk => ⟨.int (if i < 0 then -i else i), H, I.tok _, ⟨_, rfl⟩, q⟩
def LenV (K : PySem.W.Frag) (x : V) (H : Hp) (n : Nat) : Prop :=
  match x with
  | .str y => y.length ≤ sizeLine ∧ n = y.length
  | .byt y => y.size ≤ sizeLine ∧ n = y.size
  | .ref p => (∃ xs, SqL K H p xs ∧ n = xs.length) ∨ ∃ xs, SqT K H p xs ∧ n = xs.length
  | _ => False
end
end L2

namespace L2
open PySem PySem.Spec PyProof.Rows

structure ObjM (h : Heap) (x dx C : Addr) (mA : Str → Option Value) : Prop where
  obj : h.get? x = some (PySem.W.instObj C dx)
  ns : h.Ns1 dx mA
  ne : dx ≠ x

theorem lookIn_ns {h : Heap} {dx : Addr} {mA : Str → Option Value} (n : h.Ns1 dx mA) : ∃ od, h.get? dx = some od ∧ ∀ name, PySem.W.lookIn name od = some (mA name) := by
  obtain ⟨o, es, ep, ho, hd, hk, _, hm⟩ := n
  refine ⟨o, ho, fun name => ?_⟩
  have e := hm name
  unfold nsFind findBy at e
  rw [← Array.find?_toList] at e
  unfold PySem.W.lookIn
  rw [hd]
  dsimp only
  split
  · rename_i y q
    rw [q] at e
    exact congrArg some e
  · rename_i q
    rw [q] at e
    have a : es.toList.any (·.refKey) = false := by
      rw [List.any_eq_false]
      intro y hy
      obtain ⟨z, t, hkey⟩ := hk y (Array.mem_toList_iff.mp hy)
      simp [DictEntry.refKey, hkey]
    have a' : ¬ es.toList.any (·.refKey) = true := by rw [a]; exact Bool.false_ne_true
    rw [if_neg a']
    exact congrArg some e

theorem ObjM.look {h : Heap} {x dx C : Addr} {mA : Str → Option Value} (I : ObjM h x dx C mA) : ∃ od, PySem.W.InstAt h x (PySem.W.instObj C dx) C (some od) ∧ ∀ name, PySem.W.lookIn name od = some (mA name) :=
  let ⟨od, ho, hl⟩ := lookIn_ns I.ns
  ⟨od, ⟨I.obj, rfl, rfl, ho⟩, hl⟩

section
variable {prog : Program} {w : World} {A : Around} {E : Value → Shared → Prop} {s : Shared} {K : PySem.W.Frag} {x dx C f : Addr} {mA : Str → Option Value} {name : Str} {v : Value}

theorem get_map {expr : Bool} {Q : Value → Shared → Prop} (X : K.In s.heap) (I : ObjM s.heap x dx C mA) (hg : PySem.W.plainGet K C name = true) (hh : PySem.W.hasDictIn K C = true)
    (ha : PySem.W.findIn K (.ref C) name = some none) (hv : mA name = some v) (hv' : PySem.W.handedIn v = true) (h : Q v { s with toks := s.toks + 1 }) :
    wpAny (model prog w) A (getAttr (.ref x) name expr) Q E s := by
  obtain ⟨od, J, hl⟩ := I.look
  exact PySem.W.get_value X J (PySem.W.plainGet_of hg).1 (PySem.W.findObj_own hh ha rfl (by rw [hl, hv])) hv' h

theorem get_meth {pl : Sem Bool} {Q : Value × List Value → Shared → Prop} (X : K.In s.heap) (I : ObjM s.heap x dx C mA) (hg : PySem.W.plainGet K C name = true)
    (hf : PySem.W.findIn K (.ref C) name = some (some (.ref f))) (ht : PySem.W.isFn K (.ref f) = true) (hv : mA name = none) (h : Q (.ref f, [.ref x]) s) :
    wpAny (model prog w) A (getMethod (.ref x) name pl) Q E s := by
  obtain ⟨od, J, hl⟩ := I.look
  exact PySem.W.method_fn X J (PySem.W.plainGet_of hg).1 (PySem.W.plainGet_of hg).2 hf (beq_iff_eq.mp ht) (by show (PySem.W.lookIn name od).map (·.isSome) = some false; rw [hl, hv]; rfl) h

theorem set_map {ns : List Str} {Q : Unit → Shared → Prop} (X : K.In s.heap) (I : ObjM s.heap x dx C mA)
    (hs : PySem.W.findIn K (.ref C) "__setattr__" = some (some (.builtin "object.__setattr__"))) (hp : PySem.W.plainOver K C = true) (ht : PySem.W.takerIn K C name = some none) (hh : PySem.W.hasDictIn K C = true)
    (hw : PySem.Within mA ns) (hsz : ns.length ≤ sizeLine)
    (h : ∀ h', ObjM h' x dx C (fun y => if y = name then some v else mA y) → Heap.SameBut dx s.heap h' → Q () { s with heap := h', toks := s.toks + 2 }) :
    wpAny (model prog w) A (setAttr (.ref x) name v) Q E s := by
  obtain ⟨od, J, hl⟩ := I.look
  refine PySem.W.set_plain X J hs (PySem.W.osa_open (s := { s with toks := s.toks + 1 }) (r := none) X J hp ht fun b => ?_)
  obtain ⟨cd, hc, hd'⟩ := PySem.W.any_some hh
  have hx : s.heap.get? x = some ⟨.ref C, some dx, .plain, #[]⟩ := I.obj
  refine wpAny_bind (wpAny_pure (wpAny_bind (wpAny_bind (wpAny_loadPart hx (wpAny_bind (PySem.W.Looks.here (s := { s with toks := s.toks + 1 }) (PySem.W.looks_clsIn X hc) ?_))))))
  rw [hd']
  refine wpAny_pure (a := some dx) (wpAny_bind (wpAny_pure (wpAny_bind ?_)))
  refine wpAny_nsSet1 (s := { s with toks := s.toks + 1 }) I.ns fun h' hn2 hs2 => ?_
  obtain ⟨oD, esD, epD, hoD, hdD, hcD⟩ := hn2.count (PySem.Within.cons name v hw)
  refine wpAny_bind (wpAny_lookBehind hoD (by rw [hdD]; exact pastItsLine_dict (Nat.le_trans hcD (by rw [List.length_cons]; omega))) ?_)
  exact wpAny_pure (h _ ⟨(hs2.2 _ (Ne.symm I.ne)).trans I.obj, hn2, I.ne⟩ hs2)

theorem make_map {R : Result → Shared → Prop} {vs : List Value} {kw : List (Str × Value)} (X : K.In s.heap) (hm : PySem.W.makesIn K C = true)
    (hi : PySem.W.findIn K (.ref C) "__init__" = some (some (.ref f))) (hf : PySem.W.typeIn K (.ref f) = some (.type "function"))
    (h : codeAny (model prog w) (A.under (.builtin "type.__call__" ⟨.ref C :: vs, kw⟩)) (.call (.ref f) ⟨.ref (s.heap.objs.size + 1) :: vs, kw⟩) (PySem.W.InitBack (s.heap.objs.size + 1) R)
      { s with heap := (s.heap.push PySem.W.emptyDict).push (PySem.W.instObj C s.heap.objs.size) }) :
    codeAny (model prog w) A (.call (.ref C) ⟨vs, kw⟩) R s := by
  obtain ⟨hh, g, d, t, os⟩ := s
  exact PySem.W.make_core (PySem.W.makes_of X hm) (PySem.W.looks_findIn X hi) (fun self => PySem.W.bind_fn X self hf) (.inl rfl) h
theorem make_map0 {R : Result → Shared → Prop} (X : K.In s.heap) (hm : PySem.W.makesIn K C = true)
    (hi : PySem.W.findIn K (.ref C) "__init__" = some (some (.builtin "object.__init__")))
    (hb : ∀ self, PySem.W.Looks (model prog w) s.heap (bindSpecial (.builtin "object.__init__") self) (.builtin "object.__init__", [self]))
    (h : codeAny (model prog w) (A.under (.builtin "type.__call__" ⟨[.ref C], []⟩)) (.call (.builtin "object.__init__") ⟨[.ref (s.heap.objs.size + 1)], []⟩) (PySem.W.InitBack (s.heap.objs.size + 1) R)
      { s with heap := (s.heap.push PySem.W.emptyDict).push (PySem.W.instObj C s.heap.objs.size) }) :
    codeAny (model prog w) A (.call (.ref C) ⟨[], []⟩) R s := by
  obtain ⟨hh, g, d, t, os⟩ := s
  exact PySem.W.make_core (PySem.W.makes_of X hm) (PySem.W.looks_findIn X hi) hb (.inr ⟨rfl, rfl⟩) h
end

def putF (f : Str) (v : V) : List (Str × V) → List (Str × V)
  | [] => [(f, v)]
  | (g, x) :: r => if g = f then (g, v) :: r else (g, x) :: putF f v r
theorem lookup_putF (f g : Str) (v : V) : ∀ fs : List (Str × V), (putF f v fs).lookup g = if g = f then some v else fs.lookup g
  | [] => by
    show List.lookup g [(f, v)] = _
    by_cases h : g = f
    · have hb : (g == f) = true := beq_iff_eq.mpr h
      simp only [List.lookup, hb, if_pos h]
    · have hb : (g == f) = false := beq_eq_false_iff_ne.mpr h
      simp only [List.lookup, hb, if_neg h]
  | (k, x) :: r => by
    have ih := lookup_putF f g v r
    rw [show putF f v ((k, x) :: r) = (if k = f then (k, v) :: r else (k, x) :: putF f v r) from rfl]
    by_cases hk : k = f
    · rw [if_pos hk]
      by_cases h : g = k
      · have hb : (g == k) = true := beq_iff_eq.mpr h
        simp only [List.lookup, hb, if_pos (h.trans hk)]
      · have hb : (g == k) = false := beq_eq_false_iff_ne.mpr h
        simp only [List.lookup, hb, if_neg (fun e : g = f => h (e.trans hk.symm))]
    · rw [if_neg hk]
      by_cases h : g = k
      · have hb : (g == k) = true := beq_iff_eq.mpr h
        simp only [List.lookup, hb, if_neg (fun e : g = f => hk (h.symm.trans e))]
      · have hb : (g == k) = false := beq_eq_false_iff_ne.mpr h
        simp only [List.lookup, hb]
        exact ih
theorem keys_putF (f : Str) (v : V) : ∀ fs : List (Str × V), f ∈ (putF f v fs).map (·.1) ∧ ∀ g, g ∈ fs.map (·.1) → g ∈ (putF f v fs).map (·.1)
  | [] => ⟨by simp [putF], fun g h => by simp at h⟩
  | (k, x) :: r => by
    obtain ⟨i1, i2⟩ := keys_putF f v r
    rw [show putF f v ((k, x) :: r) = (if k = f then (k, v) :: r else (k, x) :: putF f v r) from rfl]
    by_cases hk : k = f
    · rw [if_pos hk]
      subst hk
      exact ⟨by simp, fun g h => by simpa using h⟩
    · rw [if_neg hk]
      refine ⟨?_, fun g h => ?_⟩
      · rw [List.map_cons]
        exact List.mem_cons_of_mem _ i1
      · rw [List.map_cons] at h ⊢
        rcases List.mem_cons.mp h with e | e
        · exact List.mem_cons.mpr (.inl e)
        · exact List.mem_cons_of_mem _ (i2 g e)
theorem length_putF (f : Str) (v : V) : ∀ fs : List (Str × V), (putF f v fs).length ≤ fs.length + 1
  | [] => by simp [putF]
  | (k, x) :: r => by
    have ih := length_putF f v r
    rw [show putF f v ((k, x) :: r) = (if k = f then (k, v) :: r else (k, x) :: putF f v r) from rfl]
    by_cases hk : k = f
    · rw [if_pos hk, List.length_cons, List.length_cons]; omega
    · rw [if_neg hk, List.length_cons, List.length_cons]; omega

theorem RelO.some_of {v : V} {o : Option Value} (r : RelO (some v) o) : ∃ u, o = some u ∧ RelV v u := by
  cases o with
  | none => exact (show False from r).elim
  | some u => exact ⟨u, rfl, r⟩
theorem RelO.none_of {o : Option Value} (r : RelO none o) : o = none := by
  cases o with
  | none => rfl
  | some u => exact (show False from r).elim
theorem handed_of {v : V} {u : Value} (r : RelV v u) : PySem.W.handedIn u = true := by
  cases v with
  | non => cases (show u = Value.none from r); rfl
  | bl b => cases (show u = Value.bool b from r); rfl
  | int i => obtain ⟨t, e⟩ := (show ∃ t, u = Value.int i t from r); cases e; rfl
  | str x => obtain ⟨t, e⟩ := (show ∃ t, u = Value.str x t from r); cases e; rfl
  | byt b => obtain ⟨t, e⟩ := (show ∃ t, u = Value.bytes b t from r); cases e; rfl
  | flt b => obtain ⟨t, e⟩ := (show ∃ t, u = Value.float b t from r); cases e; rfl
  | ref a => cases (show u = Value.ref a from r); rfl
  | ty n => cases (show u = Value.type n from r); rfl

section
variable {P : Program} {w : World} {H H' : Hp} {h h' : Heap} {a C dx : Addr} {fs fs' : List (Str × V)}
theorem ins_get (hok : HOk P w H h) (e : H a = some (.ins C dx fs)) : ∃ mA, ObjM h a dx C mA ∧ (∀ f, RelO (fs.lookup f) (mA f)) ∧ PySem.Within mA (fs.map (·.1)) ∧ fs.length ≤ 1000 ∧ H dx = some (.own a) := by
  obtain ⟨d, z, ne, ob, mA, n, r, q⟩ := (show ObjOk P w H h a (.ins C dx fs) from hok a _ e)
  exact ⟨mA, ⟨ob, n, ne⟩, r, q, z, d⟩
end

structure Cls (K : PySem.W.Frag) (C : Addr) : Prop where
  pg : PySem.W.plainGet K C Str.empty = true
  hd : PySem.W.hasDictIn K C = true
  po : PySem.W.plainOver K C = true
  sa : PySem.W.findIn K (.ref C) "__setattr__" = some (some (.builtin "object.__setattr__"))
theorem Cls.get {K : PySem.W.Frag} {C : Addr} (c : Cls K C) (f : Str) : PySem.W.plainGet K C f = true := c.pg
def NoAttr (K : PySem.W.Frag) (C : Addr) (f : Str) : Prop := PySem.W.findIn K (.ref C) f = some none
theorem NoAttr.taker {K : PySem.W.Frag} {C : Addr} {f : Str} (n : NoAttr K C f) : PySem.W.takerIn K C f = some none := by
  unfold PySem.W.takerIn
  rw [show PySem.W.findIn K (.ref C) f = some none from n]
  rfl
structure Con (K : PySem.W.Frag) (C : Addr) (f : Str) (v : V) (u : Value) : Prop where
  at_ : PySem.W.findIn K (.ref C) f = some (some u)
  rel : RelV v u
  get : PySem.W.specialIn K u "__get__" = some none
  cp : PySem.W.copiedNames.contains f = false
structure Meth (K : PySem.W.Frag) (C : Addr) (m : Str) (f : Addr) : Prop where
  at_ : PySem.W.findIn K (.ref C) m = some (some (.ref f))
  fn : PySem.W.isFn K (.ref f) = true
  kp : PySem.W.keepIn K (.ref f) = true

section
variable {X : Cx} {pins : List (Addr × Obj)} {σ : St} {H : Hp} {s : Shared} {a C dx : Addr} {fs : List (Str × V)} {f : Str} {v : V} {A : Around} {E : Value → Shared → Prop}

theorem getattr_ok {b : Bool} {Q : Value → Shared → Prop} (I : Inv X pins σ H s) (e : H a = some (.ins C dx fs)) (c : Cls X.K C) (n : NoAttr X.K C f) (l : fs.lookup f = some v)
    (h : ∀ u s', Inv X pins σ H s' → RelV v u → Q u s') : wpAny (model X.prog X.w) A (getAttr (.ref a) f b) Q E s := by
  obtain ⟨mA, O, r, _, _, _⟩ := ins_get I.hok e
  obtain ⟨u, hu, ru⟩ := RelO.some_of (v := v) (o := mA f) (by rw [← l]; exact r f)
  exact get_map I.kIn O (c.get f) c.hd n hu (handed_of ru) (h u _ (I.tok _) ru)

theorem getmeth_ok {m : Str} {g : Addr} {pl : Sem Bool} {Q : Value × List Value → Shared → Prop} (I : Inv X pins σ H s) (e : H a = some (.ins C dx fs)) (c : Cls X.K C) (k : Meth X.K C m g) (l : fs.lookup m = none)
    (h : Q (.ref g, [.ref a]) s) : wpAny (model X.prog X.w) A (getMethod (.ref a) m pl) Q E s := by
  obtain ⟨mA, O, r, _, _, _⟩ := ins_get I.hok e
  have hn : mA m = none := RelO.none_of (by rw [← l]; exact r m)
  exact get_meth I.kIn O (c.get m) k.at_ k.fn hn h

theorem setattr_ok {y : V} {u : Value} {Q : Unit → Shared → Prop} (I : Inv X pins σ H s) (e : H a = some (.ins C dx fs)) (c : Cls X.K C) (n : NoAttr X.K C f) (hl : fs.length < 1000) (ry : RelV y u)
    (h : ∀ s', Inv X pins σ (upd H a (.ins C dx (putF f y fs))) s' → Q () s') : wpAny (model X.prog X.w) A (setAttr (.ref a) f u) Q E s := by
  obtain ⟨mA, O, r, wi, _, ho⟩ := ins_get I.hok e
  have hz : (fs.map (·.1)).length ≤ sizeLine := by rw [List.length_map, sizeLine_eq]; omega
  refine set_map I.kIn O c.sa c.po n.taker c.hd wi hz fun h' O' sb => h _ ?_
  have hd : ∃ o, h'.get? dx = some o := let ⟨o, _, _, e', _⟩ := O'.ns; ⟨o, e'⟩
  refine I.write (x := a) (e := dx) (by rw [e]; exact True.intro) (.inr ho) (fun b q hb z => (sb.2 b hb).trans z) hd ?_
  refine ⟨by rw [upd_ne O.ne]; exact ho, ?_, O.ne, O'.obj, _, O'.ns, fun g => ?_, fun g hg => ?_⟩
  · have := length_putF f y fs; omega
  · show RelO ((putF f y fs).lookup g) (if g = f then some u else mA g)
    rw [lookup_putF]
    by_cases q : g = f
    · rw [if_pos q, if_pos q]; exact ry
    · rw [if_neg q, if_neg q]; exact r g
  · by_cases q : g = f
    · rw [q]; exact (keys_putF f y fs).1
    · refine (keys_putF f y fs).2 g (wi g fun z => hg ?_)
      show (if g = f then some u else mA g) = none
      rw [if_neg q]; exact z

theorem Inv.made (I : Inv X pins σ H s) : Inv X pins σ (upd (upd H s.heap.objs.size (.own (s.heap.objs.size + 1))) (s.heap.objs.size + 1) (.ins C s.heap.objs.size []))
    { s with heap := (s.heap.push PySem.W.emptyDict).push (PySem.W.instObj C s.heap.objs.size) } := by
  have e1 : (s.heap.push PySem.W.emptyDict).get? s.heap.objs.size = some PySem.W.emptyDict := Heap.get?_push_size s.heap rfl
  have e2 : ((s.heap.push PySem.W.emptyDict).push (PySem.W.instObj C s.heap.objs.size)).get? (s.heap.objs.size + 1) = some (PySem.W.instObj C s.heap.objs.size) := by
    have := Heap.get?_push_size (s.heap.push PySem.W.emptyDict) (o := PySem.W.instObj C s.heap.objs.size) rfl
    rwa [Heap.size_push] at this
  have e3 : (s.heap.push PySem.W.emptyDict).Ns s.heap.objs.size (fun _ => none) := ⟨PySem.W.emptyDict, #[], _, e1, rfl, (fun e he => absurd he (by simp)), fun _ => rfl⟩
  have I1 := I.laid (a := s.heap.objs.size) (o := .own (s.heap.objs.size + 1)) (h' := s.heap.push PySem.W.emptyDict) (t' := s.toks) (fun b u q => Heap.get?_push_of_some _ q) (Nat.le_refl _) ⟨_, e1⟩
  refine I1.laid (a := s.heap.objs.size + 1) (o := .ins C s.heap.objs.size []) (t' := s.toks) (fun b u q => Heap.get?_push_of_some _ q) (Nat.le_of_eq (Heap.size_push _ _)) ?_
  have ne : s.heap.objs.size ≠ s.heap.objs.size + 1 := Nat.ne_of_lt (Nat.lt_succ_self _)
  refine ⟨by rw [upd_ne ne, upd_same], Nat.zero_le _, ne, e2, fun _ => none, (Heap.Ns1.of_empty e3).at fun o q => Heap.get?_push_of_some _ q, fun _ => True.intro, fun y hy => absurd rfl hy⟩

theorem attr_of {prog : Program} {w : World} {env : Env} {e : Expr} {f : Str} {pos : Pos} {s : Shared} {Q : Value → Shared → Prop} (hb : attributeBase e f env (eval e env) = eval e env)
    (h : wpAny (model prog w) A (eval e env) (fun o s₁ => wpAny (model prog w) A (getAttr o f true) Q E s₁) E s) : wpAny (model prog w) A (eval (.Attribute e f pos) env) Q E s :=
  Attribute_any_ h (by rw [arm_eval_Attribute, hb])
end

def tFld (K : PySem.W.Frag) (ta : TE) (f : Str) : TE := fun σ H Q => ta σ H fun x H1 => ∃ a C dx fs v, x = .ref a ∧ H1 a = some (.ins C dx fs) ∧ Cls K C ∧ NoAttr K C f ∧ fs.lookup f = some v ∧ Q v H1
def tCon (K : PySem.W.Frag) (ta : TE) (f : Str) : TE := fun σ H Q => ta σ H fun x H1 => ∃ a C dx fs v u, x = .ref a ∧ H1 a = some (.ins C dx fs) ∧ Cls K C ∧ Con K C f v u ∧ fs.lookup f = none ∧ Q v H1
def sFld (K : PySem.W.Frag) (ta tv : TE) (f : Str) : TS := fun D σ H => tv σ H fun y H1 => ta σ H1 fun x H2 => ∃ a C dx fs, x = .ref a ∧ H2 a = some (.ins C dx fs) ∧ Cls K C ∧ NoAttr K C f ∧ fs.length < 1000 ∧
  D.nx σ (upd H2 a (.ins C dx (putF f y fs)))
def InOp (X : Cx) (op : Operator) (rd : V → V → Hp → VK → Prop) : Prop :=
  ∀ (pins : List (Addr × Obj)) (s : Shared) (σ : St) (H : Hp) (x y : V) (u v : Value) (Q : VK), Inv X pins σ H s → RelV x u → RelV y v → rd x y H Q → wpAny (model X.prog X.w) X.A (inplaceOp op u v) (EP X pins σ Q) X.xe s
def sFldAug (K : PySem.W.Frag) (ta tv : TE) (rd : V → V → Hp → VK → Prop) (f : Str) : TS := fun D σ H => ta σ H fun x H1 => ∃ a C dx fs v, x = .ref a ∧ H1 a = some (.ins C dx fs) ∧ Cls K C ∧ NoAttr K C f ∧ fs.lookup f = some v ∧
  tv σ H1 fun y H2 => rd v y H2 fun z H3 => ∃ dx' fs', H3 a = some (.ins C dx' fs') ∧ fs'.length < 1000 ∧ D.nx σ (upd H3 a (.ins C dx' (putF f z fs')))

section
variable {X : Cx} {o e value : Expr} {f : Str} {pos pos' tpos : Pos} {ta tv : TE}
theorem pe_fld (he : PE X e ta) (hb : attributeBase e f X.env (eval e X.env) = eval e X.env) : PE X (.Attribute e f pos) (tFld X.K ta f) := by
  intro pins s σ H Q I h
  refine attr_of hb (thn (he pins s σ H _ I h) fun u s1 ⟨x, H1, I1, rx, a, C, dx, fs, v, ex, ea, c, n, l, q⟩ => ?_)
  subst ex
  obtain rfl : u = Value.ref a := rx
  exact getattr_ok I1 ea c n l fun u' s2 I2 ru => ⟨v, H1, I2, ru, q⟩
theorem ps_fld (ha : PE X o ta) (hv : PE X value tv) (hs : swapsWith value (some (.Attribute o f pos')) pos.line X.env = pure false) : PS X (.Assign [.Attribute o f pos'] value pos) (sFld X.K ta tv f) := by
  intro pins s σ H D I h
  refine plainObj_wpAny_Assign_Attribute (thn (hv pins s σ H _ I h) fun u s1 ⟨y, H1, I1, ry, q⟩ => thn (ha pins s1 σ H1 _ I1 q) fun ov s2 ⟨x, H2, I2, rx, a, C, dx, fs, ex, ea, c, n, l, q2⟩ => ?_) hs
  subst ex
  obtain rfl : ov = Value.ref a := rx
  exact setattr_ok I2 ea c n l ry fun s3 I3 => ⟨σ, _, I3, q2⟩
def rAdd : V → V → Hp → VK → Prop := fun x y H Q => ∃ i j, x = .int i ∧ y = .int j ∧ Q (.int (i + j)) H
def rSub : V → V → Hp → VK → Prop := fun x y H Q => ∃ i j, x = .int i ∧ y = .int j ∧ Q (.int (i - j)) H
end

section
variable {X : Cx} {pins : List (Addr × Obj)} {σ : St} {H : Hp} {s : Shared} {A : Around} {E : Value → Shared → Prop} {Q : Value → Shared → Prop} {c : Value} {b : Bool}
inductive TyOf (K : PySem.W.Frag) (H : Hp) : V → Value → Prop where
  | non : TyOf K H .non (.type "NoneType")
  | bl (x : Bool) : TyOf K H (.bl x) (.type "bool")
  | int (i : Int) : TyOf K H (.int i) (.type "int")
  | str (x : Str) : TyOf K H (.str x) (.type "str")
  | flt (x : UInt64) : TyOf K H (.flt x) (.type "float")
  | lst {a : Addr} {xs : List V} (e : H a = some (.lst xs)) : TyOf K H (.ref a) (.type "list")
  | frz {a : Addr} {o : Obj} {xs : List V} (e : H a = some (.frz o (.lst xs))) : TyOf K H (.ref a) (.type "list")
  | tup {a : Addr} {xs : List V} (e : H a = some (.tup xs)) : TyOf K H (.ref a) (.type "tuple")
  | dK {a : Addr} {kvs : List (Key × V)} (e : H a = some (.dK kvs)) : TyOf K H (.ref a) (.type "dict")
  | dT {a : Addr} {kvs : List (List Key × V)} (e : H a = some (.dT kvs)) : TyOf K H (.ref a) (.type "dict")
  | ins {a C dx : Addr} {fs : List (Str × V)} (e : H a = some (.ins C dx fs)) (cl : Cls K C) (ha : PySem.W.findIn K (.ref C) "__class__" = some (some (.builtin "object.__class__")))
      (hn : PySem.W.specialIn K (.builtin "object.__class__") "__get__" = some (some (.builtin "getset_descriptor.__get__"))) (htk : PySem.W.takesIn K (.builtin "object.__class__") = some true)
      (hm : PySem.W.mroIn K C (.type "object") = some true) : TyOf K H (.ref a) (.ref C)
theorem isinst_ok {x : V} {u t : Value} (I : Inv X pins σ H s) (rx : RelV x u) (ty : TyOf X.K H x t) (e : PySem.W.kitOne X.K t c = some b) (h : ∀ tk, Q (.bool b) { s with toks := tk }) :
    wpAny (model X.prog X.w) A (call (.builtin "isinstance") [u, c]) Q E s := by
  cases ty with
  | non => cases (show u = Value.none from rx); exact PySem.W.kia_one PySem.W.kitx_none I.kIn True.intro e (fun z => nomatch z) h
  | bl y => cases (show u = Value.bool y from rx); exact PySem.W.kia_one PySem.W.kitx_bool I.kIn True.intro e (fun z => nomatch z) h
  | int i => obtain ⟨t, q⟩ := (show ∃ t, u = Value.int i t from rx); cases q; exact PySem.W.kia_one PySem.W.kitx_int I.kIn True.intro e (fun z => nomatch z) h
  | str y => obtain ⟨t, q⟩ := (show ∃ t, u = Value.str y t from rx); cases q; exact PySem.W.kia_one PySem.W.kitx_str I.kIn True.intro e (fun z => nomatch z) h
  | flt y => obtain ⟨t, q⟩ := (show ∃ t, u = Value.float y t from rx); cases q; exact PySem.W.kia_one PySem.W.kitx_float I.kIn True.intro e (fun z => nomatch z) h
  | @lst a xs ea =>
    cases (show u = Value.ref a from rx)
    obtain ⟨_, _, n, _, h1⟩ := (show ObjOk X.prog X.w H s.heap a (.lst xs) from I.hok a _ ea)
    exact PySem.W.kia_one PySem.W.kitx_list I.kIn ⟨_, h1, rfl⟩ e (fun z => nomatch z) h
  | @frz a ob xs ea =>
    cases (show u = Value.ref a from rx)
    obtain ⟨_, _, _, n, _, h1⟩ := (show ObjOk X.prog X.w H s.heap a (.frz ob (.lst xs)) from I.hok a _ ea)
    exact PySem.W.kia_one PySem.W.kitx_list I.kIn ⟨_, h1, rfl⟩ e (fun z => nomatch z) h
  | @tup a xs ea =>
    cases (show u = Value.ref a from rx)
    obtain ⟨_, _, _, p⟩ := (show ObjOk X.prog X.w H s.heap a (.tup xs) from I.hok a _ ea)
    obtain ⟨o, h1, h2, _⟩ := p
    exact PySem.W.kia_one PySem.W.kitx_tuple I.kIn ⟨o, h1, h2⟩ e (fun z => nomatch z) h
  | @dK a kvs ea =>
    cases (show u = Value.ref a from rx)
    obtain ⟨_, _, vs, _, p⟩ := (show ObjOk X.prog X.w H s.heap a (.dK kvs) from I.hok a _ ea)
    obtain ⟨o, es, ep, h1, h2, _⟩ := p
    exact PySem.W.kia_one PySem.W.kitx_dict I.kIn ⟨o, h1, h2.1⟩ e (fun z => nomatch z) h
  | @dT a kvs ea =>
    cases (show u = Value.ref a from rx)
    obtain ⟨_, _, xs, _, o, es, ep, h1, h2, _⟩ := (show ObjOk X.prog X.w H s.heap a (.dT kvs) from I.hok a _ ea)
    exact PySem.W.kia_one PySem.W.kitx_dict I.kIn ⟨o, h1, h2.1⟩ e (fun z => nomatch z) h
  | @ins a C dx fs ea cl ha hn htk hm =>
    cases (show u = Value.ref a from rx)
    obtain ⟨mA, O, _⟩ := ins_get I.hok ea
    obtain ⟨od, J, _⟩ := O.look
    exact PySem.W.kia_one (PySem.W.kitx_own (cl.get _) cl.hd ha hn htk hm) I.kIn J e (fun z => nomatch z) h
end
end L2

namespace L2
open PySem PySem.Spec PyProof.Rows

structure Room (k : Nat) (A : Around) : Prop where
  hd : A.handled = none
  dp : A.depth + 3 * k + 5 < recursionLimit
  un : A.units + 16 * k + 200 < cLine
theorem Room.mono {j k : Nat} {A : Around} (r : Room k A) (h : j ≤ k) : Room j A := ⟨r.hd, by have := r.dp; omega, by have := r.un; omega⟩
theorem Room.deeper {k : Nat} {A : Around} (r : Room (k + 1) A) (env : Env) : Room k (A.deeper env) :=
  ⟨r.hd, by have := r.dp; show A.depth + 1 + 3 * k + 5 < _; omega, by have := r.un; show A.units + 3 + 16 * k + 200 < _; omega⟩
theorem Room.in1 {k : Nat} {A : Around} (r : Room (k + 1) A) : Room k A.in1 :=
  ⟨r.hd, by have := r.dp; show A.depth + 3 * k + 5 < _; omega, by have := r.un; show A.units + 1 + 16 * k + 200 < _; omega⟩
theorem make_depth {A : Around} {C : Addr} {us : List Value} {kw : List (Str × Value)} : (A.under (.builtin "type.__call__" ⟨.ref C :: us, kw⟩)).depth = A.depth + 1 := by
  first | rfl | simp [Around.under, Code.weight, Code.isCreation, Code.isGuard, Code.isCaller, Code.frames, Code.isFrame, guardIds]
theorem make_units {A : Around} {C : Addr} {us : List Value} {kw : List (Str × Value)} : (A.under (.builtin "type.__call__" ⟨.ref C :: us, kw⟩)).units = A.units + 1 := by
  first | rfl | simp [Around.under, Code.cUnits, Code.frames, Code.isFrame]
theorem Room.make {k : Nat} {A : Around} (r : Room (k + 1) A) (C : Addr) (us : List Value) (kw : List (Str × Value)) : Room k (A.under (.builtin "type.__call__" ⟨.ref C :: us, kw⟩)) :=
  ⟨r.hd, by have := r.dp; rw [make_depth]; omega, by have := r.un; rw [make_units]; omega⟩
theorem Room.depth {k : Nat} {A : Around} (r : Room k A) : A.depth < recursionLimit := by have := r.dp; omega
theorem Room.units {k : Nat} {A : Around} (r : Room k A) : A.units + 64 < cLine := by have := r.un; omega
def tNil : TA := fun _ H Q => Q [] H
def tCons (ta : TE) (tr : TA) : TA := fun σ H Q => ta σ H fun x H1 => tr σ H1 fun xs H2 => Q (x :: xs) H2
section
variable {X : Cx} {e : Expr} {es : List Expr} {te : TE} {t : TA} {pos : Pos}
theorem pa_nil : PA X [] tNil := fun _ _ _ _ H Q I h => Calls.spliced_nil ⟨[], H, I, .nil, h⟩
theorem pa_cons (ha : PE X e te) (hr : PA X es t) (hs : starEach (e :: es) X.env = (false, eval e X.env) :: starEach es X.env := by rfl) : PA X (e :: es) (tCons te t) := by
  intro pos pins s σ H Q I h
  rw [hs]
  show wpAny _ _ (spliced ((false, eval e X.env) :: backTo pos (starEach es X.env))) _ _ s
  refine Calls.spliced_cons (thn (ha pins s σ H _ I h) fun u s1 ⟨x, H1, I1, r1, q1⟩ => ?_)
  exact thn (hr pos pins s1 σ H1 _ I1 q1) fun us s2 ⟨xs, H2, I2, r2, q2⟩ => ⟨x :: xs, H2, I2, .cons r1 r2, q2⟩

def tTup (t : TA) : TE := fun σ H Q => t σ H fun xs H1 => xs.length ≤ sizeLine ∧ ∀ p, H1 p = none → Q (.ref p) (upd H1 p (.tup xs))
def tLst (t : TA) : TE := fun σ H Q => t σ H fun xs H1 => xs.length ≤ sizeLine ∧ ∀ p, H1 p = none → Q (.ref p) (upd H1 p (.lst xs))
theorem pe_tup {x1} (h : PA X es t) : PE X (.Tuple es x1 pos) (tTup t) := by
  intro pins s σ H Q I hq
  refine wpAny_Tuple_spliced (thn (h pos pins s σ H _ I hq) fun us s1 ⟨xs, H1, I1, r, z, q⟩ => ⟨by rw [← r.length]; exact z, ?_⟩)
  have hf : H1 s1.heap.objs.size = none := I1.hok.fresh (Nat.le_refl _)
  refine ⟨.ref s1.heap.objs.size, upd H1 s1.heap.objs.size (.tup xs), I1.laid (t' := s1.toks) (fun b u e => Heap.get?_push_of_some _ e) (Nat.le_refl _) ?_, rfl, q _ hf⟩
  exact ⟨z, us, r, ⟨_, Heap.get?_push_size _ rfl, rfl, _, rfl⟩⟩
theorem pe_lst (h : PA X es t) : PE X (.List es pos) (tLst t) := by
  intro pins s σ H Q I hq
  refine wpAny_List_spliced (thn (h pos pins s σ H _ I hq) fun us s1 ⟨xs, H1, I1, r, z, q⟩ => ⟨by rw [← r.length]; exact z, ?_⟩)
  have hf : H1 s1.heap.objs.size = none := I1.hok.fresh (Nat.le_refl _)
  refine ⟨.ref s1.heap.objs.size, upd H1 s1.heap.objs.size (.lst xs), I1.laid (t' := s1.toks) (fun b u e => Heap.get?_push_of_some _ e) (Nat.le_refl _) ?_, rfl, q _ hf⟩
  exact ⟨z, us, 0, r, Heap.get?_push_size _ rfl⟩
end

abbrev Sp := List V → Hp → VK → XK → Prop
abbrev CXT := List Env → Hp → Shared → XK → Value → Shared → Prop

structure Env0 (P : Program) (w : World) (K : PySem.W.Frag) (mg : Str → Option Value) (base : Heap) (A : Around) (outer : List Env) (s : Shared) (H : Hp) : Prop where
  frames : A.frames = some outer
  mod : Mod K mg base
  bs : ∀ b o, base.get? b = some o → s.heap.get? b = some o ∧ H b = none
  bsz : base.objs.size ≤ s.heap.objs.size
  funs : s.heap.FunFrames base outer
  frf : ∀ b ∈ frs outer, H b = none
  hok : HOk P w H s.heap
  bare : AllBare s.gens
def CE (outer : List Env) (P : Program) (w : World) (H : Hp) (s : Shared) (Q : VK) (u : Value) (s' : Shared) : Prop :=
  ∃ v H', s'.os = s.os ∧ AllBare s'.gens ∧ Un (frs outer) [] H H' s.heap s'.heap ∧ HOk P w H' s'.heap ∧ RelV v u ∧ Q v H'
def CR (CX : CXT) (outer : List Env) (P : Program) (w : World) (H : Hp) (s : Shared) (Q : VK) (E : XK) (r : Result) (s' : Shared) : Prop :=
  match r with
  | .ok (.ret u) => CE outer P w H s Q u s'
  | .ok _ => False
  | .error e => CX outer H s E e s'
structure FnOk (P : Program) (w : World) (K : PySem.W.Frag) (mg : Str → Option Value) (base : Heap) (CX : CXT) (k : Nat) (f : Addr) (fd : FuncData) (ps : List Str) (sp : Sp) : Prop where
  len : ∀ vs H Q E, sp vs H Q E → vs.length = ps.length
  run : ∀ (A : Around) (outer : List Env) (s : Shared) (H : Hp) (args : Args) (us : List Value) (vs : List V) (Q : VK) (E : XK), Room k A → Env0 P w K mg base A outer s H → BindsTo s fd args (ps.zip us) → Vals vs us → sp vs H Q E →
    codeAny (model P w) A (.call (.ref f) args) (CR CX outer P w H s Q E) s
theorem FnOk.mono {P : Program} {w : World} {K : PySem.W.Frag} {mg : Str → Option Value} {base : Heap} {CX : CXT} {j k : Nat} {f : Addr} {fd : FuncData} {ps : List Str} {sp : Sp} (F : FnOk P w K mg base CX j f fd ps sp) (h : j ≤ k) :
    FnOk P w K mg base CX k f fd ps sp := ⟨F.len, fun A outer s H args us vs Q E hr => F.run A outer s H args us vs Q E (hr.mono h)⟩
theorem FnOk.imp {P : Program} {w : World} {K : PySem.W.Frag} {mg : Str → Option Value} {base : Heap} {CX : CXT} {k : Nat} {f : Addr} {fd : FuncData} {ps : List Str} {sp sp' : Sp} (F : FnOk P w K mg base CX k f fd ps sp)
    (h : ∀ vs H Q E, sp' vs H Q E → sp vs H Q E) : FnOk P w K mg base CX k f fd ps sp' :=
  ⟨fun vs H Q E q => F.len vs H Q E (h _ _ _ _ q), fun A outer s H args us vs Q E hr he hb hv hs => F.run A outer s H args us vs Q E hr he hb hv (h _ _ _ _ hs)⟩

theorem Env0.make {P : Program} {w : World} {K : PySem.W.Frag} {mg : Str → Option Value} {base : Heap} {A : Around} {outer : List Env} {s : Shared} {H : Hp} (e : Env0 P w K mg base A outer s H) (C : Addr) (us : List Value) (kw : List (Str × Value)) :
    Env0 P w K mg base (A.under (.builtin "type.__call__" ⟨.ref C :: us, kw⟩)) outer s H := ⟨by first | exact e.frames | (simpa [Around.under, Code.envs, Code.isFrame, pushEnvs] using e.frames), e.mod, e.bs, e.bsz, e.funs, e.frf, e.hok, e.bare⟩
theorem Env0.in1 {P : Program} {w : World} {K : PySem.W.Frag} {mg : Str → Option Value} {base : Heap} {A : Around} {outer : List Env} {s : Shared} {H : Hp} (e : Env0 P w K mg base A outer s H) :
    Env0 P w K mg base A.in1 outer s H := ⟨e.frames, e.mod, e.bs, e.bsz, e.funs, e.frf, e.hok, e.bare⟩

section
variable {X : Cx} {pins : List (Addr × Obj)} {σ : St} {H : Hp} {s s' : Shared}
theorem Inv.env0 (I : Inv X pins σ H s) : Env0 X.prog X.w X.K X.mg X.base X.A X.stack s H :=
  ⟨I.ok.frames, I.ok.mod, I.bs, Nat.le_trans I.ok.bsz I.sz, I.stack, I.stkFree, I.hok, I.bare⟩
theorem Inv.after {Q : VK} {u : Value} (I : Inv X pins σ H s) (h : CE X.stack X.prog X.w H s Q u s') : EP X pins σ Q u s' := by
  obtain ⟨v, H', os, bare, un, hok, r, q⟩ := h
  obtain ⟨hh, g, d, t, os'⟩ := s'
  obtain rfl : os' = s.os := os
  exact ⟨v, H', I.call (h' := hh) (g' := g) (d' := d) (t' := t) (ch := []) un hok bare (fun b z => absurd z (by simp)), r, q⟩
end

def tCall (sp : Sp) (dvs : List V) (E : XK) (t : TA) : TE := fun σ H Q => t σ H fun vs H1 => sp (vs ++ dvs) H1 Q E
def tMeth (C : Addr) (m : Str) (sp : Sp) (dvs : List V) (E : XK) (ta : TE) (t : TA) : TE := fun σ H Q => ta σ H fun x H1 => ∃ a dx fs, x = .ref a ∧ H1 a = some (.ins C dx fs) ∧ fs.lookup m = none ∧
  t σ H1 fun vs H2 => sp (x :: (vs ++ dvs)) H2 Q E
def tMake (C : Addr) (sp : Sp) (dvs : List V) (E : XK) (t : TA) : TE := fun σ H Q => t σ H fun vs H1 => ∀ x dx, H1 x = none → H1 dx = none → dx ≠ x →
  sp (.ref x :: (vs ++ dvs)) (upd (upd H1 dx (.own x)) x (.ins C dx [])) (fun v H2 => v = .non ∧ Q (.ref x) H2) E

def Binds (K : PySem.W.Frag) (fd : FuncData) (ps : List Str) (ds : List Value) : Prop :=
  ∀ (s : Shared) (us : List Value), K.In s.heap → (us ++ ds).length = ps.length → BindsTo s fd ⟨us, []⟩ (ps.zip (us ++ ds))
theorem Binds.all {K : PySem.W.Frag} {fd : FuncData} {ps : List Str} (h : ∀ us : List Value, us.length = ps.length → bindArgs fd ⟨us, []⟩ = pure (ps.zip us)) : Binds K fd ps [] := fun s us _ hl => by
  rw [List.append_nil] at hl ⊢
  exact .of_eq (h us hl)

def Passes (CX : CXT) (X : Cx) (E : XK) : Prop := ∀ (pins : List (Addr × Obj)) (σ : St) (H : Hp) (s : Shared) (e : Value) (s' : Shared), Inv X pins σ H s → CX X.stack H s E e s' → X.xe e s'

section
variable {X : Cx} {CX : CXT} {k : Nat} {f C : Addr} {fd : FuncData} {ps : List Str} {sp : Sp} {dvs : List V} {ds : List Value} {E : XK} {x m : Str} {p pos apos : Pos} {e o : Expr} {es : List Expr} {ta : TE} {t : TA}

theorem run_fn {pins : List (Addr × Obj)} {σ : St} {H : Hp} {s : Shared} {Q : VK} {us : List Value} {vs : List V} (F : FnOk X.prog X.w X.K X.mg X.base CX k f fd ps sp) (hr : Room k X.A) (hb : Binds X.K fd ps ds) (hd : Vals dvs ds) (hx : Passes CX X E)
    (I : Inv X pins σ H s) (r : Vals vs us) (h : sp (vs ++ dvs) H Q E) : wpAny (model X.prog X.w) X.A (call (.ref f) us) (EP X pins σ Q) X.xe s := by
  have r2 : Vals (vs ++ dvs) (us ++ ds) := r.append hd
  have hl : (us ++ ds).length = ps.length := by rw [← r2.length]; exact F.len _ _ _ _ h
  refine wpAny_call (codeAny_mono (F.run X.A X.stack s H ⟨us, []⟩ (us ++ ds) (vs ++ dvs) Q E hr I.env0 (hb s us I.kIn hl) r2 h) fun r s' hq => ?_)
  cases r with
  | error e => exact hx pins σ H s e s' I hq
  | ok fl =>
    cases fl with
    | ret u => exact I.after hq
    | next => exact False.elim hq
    | brk => exact False.elim hq
    | cont => exact False.elim hq

theorem pe_call (F : FnOk X.prog X.w X.K X.mg X.base CX k f fd ps sp) (hr : Room k X.A) (hg : Gl X x) (hm : X.mg x = some (.ref f)) (hk : PySem.W.keepIn X.K (.ref f) = true) (hb : Binds X.K fd ps ds) (hd : Vals dvs ds) (hx : Passes CX X E)
    (ha : PA X (e :: es) t) (hdb : (x == ("__debug__" : Str)) = false := by decide) (he : starEach (e :: es) X.env = (false, eval e X.env) :: starEach es X.env := by rfl) (hpl : (backTo pos (starEach es X.env)).any (·.1) = false := by rfl) :
    PE X (.Call (.Name x p) (e :: es) [] pos) (tCall sp dvs E t) := by
  intro pins s σ H Q I h
  refine wpAny_Call_Name_kw (ld_glob I hg hm ?_ hdb)
  refine PySem.W.callWith_K (h₀ := X.base) I.ok.mod.kin hk (thn (ha pos pins s σ H _ I h) fun us s1 ⟨vs, H1, I1, r, q⟩ => ⟨I1.kIn, ?_⟩) he hpl
  exact run_fn F hr hb hd hx I1 r q
structure Mk (K : PySem.W.Frag) (C f : Addr) : Prop where
  makes : PySem.W.makesIn K C = true
  init : PySem.W.findIn K (.ref C) "__init__" = some (some (.ref f))
  fn : PySem.W.isFn K (.ref f) = true
  kp : PySem.W.keepIn K (.ref C) = true

theorem run_make {pins : List (Addr × Obj)} {σ : St} {H : Hp} {s : Shared} {Q : VK} {us : List Value} {vs : List V} (M : Mk X.K C f) (F : FnOk X.prog X.w X.K X.mg X.base CX k f fd ps sp) (hr : Room (k + 1) X.A) (hb : Binds X.K fd ps ds) (hd : Vals dvs ds)
    (hx : Passes CX X E) (I : Inv X pins σ H s) (r : Vals vs us)
    (h : ∀ x dx, H x = none → H dx = none → dx ≠ x → sp (.ref x :: (vs ++ dvs)) (upd (upd H dx (.own x)) x (.ins C dx [])) (fun v H2 => v = .non ∧ Q (.ref x) H2) E) :
    wpAny (model X.prog X.w) X.A (call (.ref C) us) (EP X pins σ Q) X.xe s := by
  have hq := h (s.heap.objs.size + 1) s.heap.objs.size (I.hok.fresh (Nat.le_succ _)) (I.hok.fresh (Nat.le_refl _)) (Nat.ne_of_lt (Nat.lt_succ_self _))
  have I2 := Inv.made (C := C) I
  have r2 : Vals (V.ref (s.heap.objs.size + 1) :: (vs ++ dvs)) (Value.ref (s.heap.objs.size + 1) :: (us ++ ds)) := .cons rfl (r.append hd)
  have hl : (Value.ref (s.heap.objs.size + 1) :: us ++ ds).length = ps.length := by
    have e := r2.length
    rw [F.len _ _ _ _ hq] at e
    exact e.symm
  refine wpAny_call (make_map (f := f) I.kIn M.makes M.init (beq_iff_eq.mp M.fn) (codeAny_mono (F.run _ X.stack _ _ ⟨Value.ref (s.heap.objs.size + 1) :: us, []⟩ (Value.ref (s.heap.objs.size + 1) :: (us ++ ds)) _ _ E (hr.make C us [])
    (I2.env0.make C us []) (hb _ (Value.ref (s.heap.objs.size + 1) :: us) I2.kIn hl) r2 hq) fun r s' hq' => ?_))
  cases r with
  | error e => exact hx pins σ _ _ e s' I2 hq'
  | ok fl =>
    cases fl with
    | ret u =>
      obtain ⟨v, H', I3, rv, ev, q3⟩ := I2.after hq'
      subst ev
      exact ⟨rv, ⟨V.ref (s.heap.objs.size + 1), H', I3, rfl, q3⟩⟩
    | next => exact False.elim hq'
    | brk => exact False.elim hq'
    | cont => exact False.elim hq'
theorem pe_make (M : Mk X.K C f) (F : FnOk X.prog X.w X.K X.mg X.base CX k f fd ps sp) (hr : Room (k + 1) X.A) (hg : Gl X x) (hm : X.mg x = some (.ref C)) (hb : Binds X.K fd ps ds) (hd : Vals dvs ds) (hx : Passes CX X E)
    (ha : PA X (e :: es) t) (hdb : (x == ("__debug__" : Str)) = false := by decide) (he : starEach (e :: es) X.env = (false, eval e X.env) :: starEach es X.env := by rfl) (hpl : (backTo pos (starEach es X.env)).any (·.1) = false := by rfl) :
    PE X (.Call (.Name x p) (e :: es) [] pos) (tMake C sp dvs E t) := by
  intro pins s σ H Q I h
  refine wpAny_Call_Name_kw (ld_glob I hg hm ?_ hdb)
  refine PySem.W.callWith_K (h₀ := X.base) I.ok.mod.kin M.kp (thn (ha pos pins s σ H _ I h) fun us s1 ⟨vs, H1, I1, r, q⟩ => ⟨I1.kIn, ?_⟩) he hpl
  exact run_make M F hr hb hd hx I1 r q
theorem pe_make0 (M : Mk X.K C f) (F : FnOk X.prog X.w X.K X.mg X.base CX k f fd ps sp) (hr : Room (k + 1) X.A) (hg : Gl X x) (hm : X.mg x = some (.ref C)) (hb : Binds X.K fd ps ds) (hd : Vals dvs ds) (hx : Passes CX X E)
    (hdb : (x == ("__debug__" : Str)) = false := by decide) : PE X (.Call (.Name x p) [] [] pos) (tMake C sp dvs E tNil) := by
  intro pins s σ H Q I h
  refine wpAny_Call_Name_kw (ld_glob I hg hm ?_ hdb)
  exact PySem.W.callWith_K0 I.kIn M.kp (run_make (us := []) M F hr hb hd hx I .nil h)
end

def PK (X : Cx) (kws : List Keyword) (t : TA) : Prop :=
  ∀ (pos : Pos) (pins : List (Addr × Obj)) (s : Shared) (σ : St) (H : Hp) (Q : List V → Hp → Prop), Inv X pins σ H s → t σ H Q → wpAny (model X.prog X.w) X.A (evalAll ((backToKw pos (keywordEach kws X.env)).map (·.2))) (AP X pins σ Q) X.xe s
section
variable {X : Cx} {CX : CXT} {k : Nat} {f C : Addr} {fd : FuncData} {ps ks : List Str} {sp : Sp} {E : XK} {x m : Str} {p pos apos kpos : Pos} {e o : Expr} {es : List Expr} {kws : List Keyword} {te ta : TE} {t tk : TA} {nm : Option Str}
structure KBinds (K : PySem.W.Frag) (fd : FuncData) (ps ks : List Str) (g : List Value → List Value → List Value) (gV : List V → List V → List V) : Prop where
  to : ∀ (s : Shared) (us ws : List Value), K.In s.heap → (g us ws).length = ps.length → BindsTo s fd ⟨us, ks.zip ws⟩ (ps.zip (g us ws))
  rel : ∀ {vs : List V} {us : List Value} {zs : List V} {ws : List Value}, Vals vs us → Vals zs ws → Vals (gV vs zs) (g us ws)
def tCallK (sp : Sp) (gV : List V → List V → List V) (E : XK) (t tk : TA) : TE := fun σ H Q => t σ H fun vs H1 => tk σ H1 fun zs H2 => sp (gV vs zs) H2 Q E
variable {g : List Value → List Value → List Value} {gV : List V → List V → List V}
end

structure FnScope (N P : List Str) (sc : Scope) : Prop where
  kind : sc.kind = .function
  co : sc.isCoroutine = false
  gen : sc.isGenerator = false
  nd : N.Nodup
  pre : N.take P.length = P
  par : ∀ x ∈ P, sc.names.lookup x = some .local ∨ sc.names.lookup x = some .cell
  nofree : ∀ y ∈ sc.names, y.2 ≠ .free

theorem bindL_out {kindOf : Str → Option NameKind} {x : Str} : ∀ {binds : List (Str × Value)} {m : Str → Option Value}, (∀ v, (x, v) ∉ binds) → bindL kindOf binds m x = m x
  | [], _, _ => rfl
  | (n, v) :: r, m, h => by
    unfold bindL
    rw [bindL_out fun w hw => h w (List.mem_cons_of_mem _ hw)]
    split
    · have : x ≠ n := by rintro rfl; exact h v List.mem_cons_self
      simp [this]
    · rfl
theorem bindC_out {kindOf : Str → Option NameKind} {x : Str} : ∀ {binds : List (Str × Value)} {m : Str → Option Value}, (∀ v, (x, v) ∉ binds) → bindC kindOf binds m x = m x
  | [], _, _ => rfl
  | (n, v) :: r, m, h => by
    unfold bindC
    rw [bindC_out fun w hw => h w (List.mem_cons_of_mem _ hw)]
    split
    · rfl
    · have : x ≠ n := by rintro rfl; exact h v List.mem_cons_self
      simp [this]
theorem bindL_get {kindOf : Str → Option NameKind} {x : Str} {v : Value} : ∀ {P : List Str} {vs : List Value} {i : Nat} {m : Str → Option Value}, P.Nodup → P[i]? = some x → vs[i]? = some v → kindOf x = some .local →
    bindL kindOf (P.zip vs) m x = some v
  | [], _, _, _, _, h, _, _ => by simp at h
  | _ :: _, [], _, _, _, _, h, _ => by simp at h
  | p :: P, w :: vs, 0, m, nd, h1, h2, hk => by
    simp at h1 h2; subst h1; subst h2
    show bindL kindOf ((p, w) :: P.zip vs) m p = _
    unfold bindL
    rw [bindL_out fun v hv => (List.nodup_cons.mp nd).1 (List.of_mem_zip hv).1, if_pos hk]
    simp
  | p :: P, w :: vs, i + 1, m, nd, h1, h2, hk => by
    show bindL kindOf ((p, w) :: P.zip vs) m x = _
    unfold bindL
    exact bindL_get (i := i) (List.nodup_cons.mp nd).2 (by simpa using h1) (by simpa using h2) hk
theorem bindC_get {kindOf : Str → Option NameKind} {x : Str} {v : Value} : ∀ {P : List Str} {vs : List Value} {i : Nat} {m : Str → Option Value}, P.Nodup → P[i]? = some x → vs[i]? = some v → kindOf x ≠ some .local →
    bindC kindOf (P.zip vs) m x = some v
  | [], _, _, _, _, h, _, _ => by simp at h
  | _ :: _, [], _, _, _, _, h, _ => by simp at h
  | p :: P, w :: vs, 0, m, nd, h1, h2, hk => by
    simp at h1 h2; subst h1; subst h2
    show bindC kindOf ((p, w) :: P.zip vs) m p = _
    unfold bindC
    rw [bindC_out fun v hv => (List.nodup_cons.mp nd).1 (List.of_mem_zip hv).1, if_neg hk]
    simp
  | p :: P, w :: vs, i + 1, m, nd, h1, h2, hk => by
    show bindC kindOf ((p, w) :: P.zip vs) m x = _
    unfold bindC
    exact bindC_get (i := i) (List.nodup_cons.mp nd).2 (by simpa using h1) (by simpa using h2) hk

def start (N : List Str) (vs : List V) : St := vs.map some ++ List.replicate (N.length - vs.length) none

def cxOf (CX : CXT) (P : Program) (w : World) (K : PySem.W.Frag) (mg : Str → Option Value) (base : Heap) (N : List Str) (qual : Str) (scope : Scope) (f : Addr) (cd : Value) (A : Around) (outer : List Env) (s : Shared) (H : Hp) (E : XK) : Cx where
  prog := P
  w := w
  K := K
  mg := mg
  base := base
  A := A.deeper (envOfC qual scope s.heap.objs.size f cd)
  N := N
  s₀ := s
  H₀ := H
  env := envOfC qual scope s.heap.objs.size f cd
  outer := outer
  stack := envOfC qual scope s.heap.objs.size f cd :: outer
  ex := []
  calm := true
  fn := fun _ => true
  pn := []
  xe := fun e s' => wpAny (model P w) (A.deeper (envOfC qual scope s.heap.objs.size f cd)) (leaving (envOfC qual scope s.heap.objs.size f cd) e) (fun _ s'' => CX outer H s E e s'') (fun e' s'' => CX outer H s E e' s'') s'

theorem cell_has {sc : Scope} {n : Nat} {x : Str} (h : sc.names.lookup x = some .cell) : ∃ c, (cellsFrom n sc.names []).lookup x = some c := by
  have q := PySem.W.cellsFrom_some sc.names n [] (.inl h)
  exact Option.isSome_iff_exists.mp q

theorem inv_start {CX : CXT} {P : Program} {w : World} {K : PySem.W.Frag} {mg : Str → Option Value} {base : Heap} {N ps : List Str} {qual : Str} {scope : Scope} {f : Addr} {cd : Value} {A : Around} {outer : List Env} {s s1 : Shared} {H : Hp} {E : XK} {us : List Value} {vs : List V}
    (S : FnScope N ps scope) (hd : A.handled = none) (e0 : Env0 P w K mg base A outer s H) (hl : vs.length = ps.length) (r : Vals vs us)
    (x : InCallC s s.heap.objs.size (bindL (envOfC qual scope s.heap.objs.size f cd).kindOf (ps.zip us) fun _ => none) (cellsFrom (s.heap.objs.size + 1) scope.names []) (bindC (envOfC qual scope s.heap.objs.size f cd).kindOf (ps.zip us) fun _ => none) s1) :
    Inv (cxOf CX P w K mg base N qual scope f cd A outer s H E) [] (start N vs) H s1 := by
  have hpl : ps.length ≤ N.length := by have := congrArg List.length S.pre; rw [List.length_take] at this; omega
  obtain ⟨h1, tk, rfl, hk⟩ := x.done
  have noA : ∀ b : Addr, b ∉ (cxOf CX P w K mg base N qual scope f cd A outer s H E).ex := fun b z => absurd (show b ∈ ([] : List Addr) from z) (by simp)
  refine ⟨⟨e0.mod, S.kind, rfl, rfl, Nat.le_refl _, fun y z c h1 h2 => ?_, fun y hy => ?_, fun y c _ h => ?_, fun _ => hd, Around.frames_deeper e0.frames, .inr ⟨rfl, rfl⟩, fun b z => absurd z (noA b), e0.bs, e0.bsz, fun b _ _ => noA b, fun b z => absurd z (noA b), e0.funs, e0.frf⟩,
    rfl, e0.bare, Un.kept hk, ⟨_, x.toInCall.ns, fun i y v h1 h2 h3 => ?_⟩, fun y c h => ⟨_, x.cell y c h⟩, e0.hok.fresh (Nat.le_refl _), fun y c h => ?_, fun p hp => absurd (show p ∈ ([] : List (Addr × Obj)) from hp) (by simp), e0.hok.kept hk, ?_⟩
  · exact name_of_addr x.apart (PySem.mem_of_lookup h1) (PySem.mem_of_lookup h2)
  · have hy : scope.names.lookup y = some .cell ∨ scope.names.lookup y = some .free := hy
    rcases hy with hy | hy
    · exact cell_has hy
    · exact absurd rfl (S.nofree _ (PySem.mem_of_lookup hy))
  · exact Nat.le_of_lt (x.above y c (PySem.mem_of_lookup h))
  · have hi : i < vs.length := by
      unfold start at h2
      by_cases hi : i < vs.length
      · exact hi
      · rw [List.getElem?_append_right (by simpa using hi)] at h2
        rw [List.getElem?_replicate] at h2
        split at h2 <;> cases h2
    have ha : vs[i]? = some v := by
      unfold start at h2
      rw [List.getElem?_append_left (by simpa using hi), List.getElem?_map] at h2
      cases e : vs[i]? with
      | none => rw [e] at h2; cases h2
      | some a => rw [e] at h2; cases h2; rfl
    obtain ⟨u, hu, rv⟩ := r.get ha
    have hp : ps[i]? = some y := by
      rw [← S.pre, List.getElem?_take_of_lt (by omega)]; exact h1
    have ndP : ps.Nodup := by rw [← S.pre]; exact S.nd.sublist (List.take_sublist _ _)
    refine ⟨u, rv, ?_⟩
    rcases S.par y (List.mem_of_getElem? hp) with k | k
    · exact .inl ⟨k, bindL_get ndP hp hu k⟩
    · obtain ⟨c, e⟩ := cell_has (n := s.heap.objs.size + 1) k
      refine .inr ⟨.inl k, c, e, ?_⟩
      have q := x.cell y c e
      rw [bindC_get ndP hp hu (by show scope.names.lookup y ≠ _; rw [k]; decide)] at q
      exact q
  · exact e0.hok.fresh (Nat.le_of_lt (x.above y c (PySem.mem_of_lookup h)))
  · unfold start
    show _ = N.length
    rw [List.length_append, List.length_map, List.length_replicate]
    omega

theorem fn_of {CX : CXT} {P : Program} {w : World} {K : PySem.W.Frag} {mg : Str → Option Value} {base : Heap} {k : Nat} {f : Addr} {name qual : Str} {params : Arguments} {body : List Stmt} {scope : Scope} {dV kV doc pm cdv ct oc : Value} {an od : Option Addr}
    {osl : Array (Option Value)} {N ps : List Str} {sp : Sp} (lk : K.lookup f = some ⟨oc, od, .func (PySem.W.fnOf name qual params body scope dV kV doc pm an cdv ct), osl⟩) (hcd : PySem.W.codeIn K cdv qual = true) (S : FnScope N ps scope)
    (len : ∀ vs H Q E, sp vs H Q E → vs.length = ps.length)
    (hbody : ∀ (A : Around) (outer : List Env) (s : Shared) (H : Hp) (vs : List V) (Q : VK) (E : XK), Room k (A.deeper (envOfC qual scope s.heap.objs.size f cdv)) → sp vs H Q E →
      ∃ t, PSs (cxOf CX P w K mg base N qual scope f cdv A outer s H E) body t ∧ t { nx := fun _ H' => Q .non H', rt := Q } (start N vs) H) :
    FnOk P w K mg base CX (k + 1) f (PySem.W.fnOf name qual params body scope dV kV doc pm an cdv ct) ps sp := by
  refine ⟨len, fun A outer s H args us vs Q E hr e0 hb r hsp => ?_⟩
  have hl := len _ _ _ _ hsp
  have KX : K.In s.heap := e0.mod.kin.keeps fun b o e => (e0.bs b o e).1
  have lim : s.heap.NoLimit := e0.mod.nolimit.keeps fun b o e => (e0.bs b o e).1
  have hkind : ∀ y ∈ ps.zip us, scope.names.lookup y.1 = some .local ∨ (scope.names.lookup y.1 = some .cell ∧ ((cellsFrom (s.heap.objs.size + 1) scope.names []).lookup y.1).isSome = true) := fun ⟨n, v⟩ hy => by
    rcases S.par n (List.of_mem_zip hy).1 with q | q
    · exact .inl q
    · exact .inr ⟨q, PySem.W.cellsFrom_some _ _ _ (.inl q)⟩
  refine codeAny_call_function hr.depth (KX _ _ lk) rfl S.co S.gen rfl (PySem.W.codeRec_of KX hcd) (hb _ _ _ _ ?_)
  refine wpAny_newFunctionEnv_cells S.kind hkind fun env he s1 x => ?_
  subst he
  refine ⟨lim.keeps x.toInCall.keep, codeAny_func ?_⟩
  obtain ⟨t, ht, hq⟩ := hbody A outer s H vs Q E (hr.deeper _) hsp
  have I : Inv (cxOf CX P w K mg base N qual scope f cdv A outer s H E) [] (start N vs) H s1 := inv_start S hr.hd e0 hl r x
  refine wpAny_mono (ht [] s1 (start N vs) H _ I hq) (fun fl s' hs => ?_) fun e s' hs => hs
  have fin : ∀ {σ' : St} {H' : Hp} {v : V} {u : Value}, Inv (cxOf CX P w K mg base N qual scope f cdv A outer s H E) [] σ' H' s' → RelV v u → Q v H' → CE outer P w H s Q u s' :=
    fun {σ' H' v u} J rv q => ⟨v, H', J.os, J.bare, J.base, J.hok, rv, q⟩
  cases fl with
  | ret u =>
    obtain ⟨v, σ', H', J, rv, q⟩ := hs
    exact fin J rv q
  | next =>
    obtain ⟨σ', H', J, q⟩ := hs
    exact fin (v := V.non) (u := Value.none) J rfl q
  | brk =>
    obtain ⟨_, _, _, q⟩ := hs
    exact False.elim q
  | cont =>
    obtain ⟨_, _, _, q⟩ := hs
    exact False.elim q
end L2

namespace L2
open PySem PySem.Spec PyProof.Rows
section
variable {X : Cx} {x : Str} {p pos : Pos} {e : Expr} {es : List Expr} {t : TA} {id T : String} {r : List V → Hp → VK → Prop}

def tCB (r : List V → Hp → VK → Prop) (t : TA) : TE := fun σ H Q => t σ H fun vs H1 => r vs H1 Q
theorem pe_callB (hc : CallR X (.builtin id) r) (hg : Gl X x) (hm : X.mg x = none) (hv : bootBuiltins x = some (.builtin id)) (ha : PA X (e :: es) t) (hn : x ≠ "__name__" := by decide) (hdb : (x == ("__debug__" : Str)) = false := by decide)
    (he : starEach (e :: es) X.env = (false, eval e X.env) :: starEach es X.env := by rfl) (hpl : (backTo pos (starEach es X.env)).any (·.1) = false := by rfl) : PE X (.Call (.Name x p) (e :: es) [] pos) (tCB r t) := by
  intro pins s σ H Q I h
  refine wpAny_Call_Name_kw (ld_blt I hg hm hv ?_ hn hdb)
  exact PyProof.Rows.callWith_builtin1 (thn (ha pos pins s σ H _ I h) fun us s1 ⟨vs, H1, I1, r1, q1⟩ => hc pins s1 σ H1 vs us Q I1 r1 q1) he hpl
theorem pe_callTy (hc : CallR X (.type T) r) (hg : Gl X x) (hm : X.mg x = none) (hv : bootBuiltins x = some (.type T)) (ha : PA X (e :: es) t) (hn : x ≠ "__name__" := by decide) (hdb : (x == ("__debug__" : Str)) = false := by decide)
    (he : starEach (e :: es) X.env = (false, eval e X.env) :: starEach es X.env := by rfl) (hpl : (backTo pos (starEach es X.env)).any (·.1) = false := by rfl) : PE X (.Call (.Name x p) (e :: es) [] pos) (tCB r t) := by
  intro pins s σ H Q I h
  refine wpAny_Call_Name_kw (ld_blt I hg hm hv ?_ hn hdb)
  exact PyProof.Rows.callWith_type1 (thn (ha pos pins s σ H _ I h) fun us s1 ⟨vs, H1, I1, r1, q1⟩ => hc pins s1 σ H1 vs us Q I1 r1 q1) he hpl
end
end L2

namespace HT
open PySem PyProof.Rows

def lexLt : List Int → List Int → Bool
  | [], [] => false
  | [], _ :: _ => true
  | _ :: _, [] => false
  | x :: xs, y :: ys => if x = y then lexLt xs ys else decide (x < y)
section
open PySem.SeqAt
open PySem.AutoSeq1 (wpAny_loadPart')
open PySem.MeetsSeq PySem.MeetsSeq2 PySem.MeetsSeq3

end

section
variable {prog : Program} {w : World} {A : Around} {E : Value → Shared → Prop} {s : Shared}

def sIx (n d : Nat) : Option Int → Nat
  | none => d
  | some v => if v < 0 then (v + (n : Int)).toNat else min v.toNat n
end
end HT

namespace L2
open PySem PySem.Spec PyProof.Rows

abbrev TO := St → Hp → (Option Int → Hp → Prop) → Prop
def PO (X : Cx) (e : Option Expr) (t : TO) : Prop :=
  ∀ (pins : List (Addr × Obj)) (s : Shared) (σ : St) (H : Hp) (Q : Option Int → Hp → Prop), Inv X pins σ H s → t σ H Q →
    wpAny (model X.prog X.w) X.A (evalPart e X.env) (fun u s' => ∃ o H', Inv X pins σ H' s' ∧ IsPart u o ∧ Q o H') X.xe s
def tNoPart : TO := fun _ H Q => Q none H
def tPart (t : TE) : TO := fun σ H Q => t σ H fun x H1 => ∃ i, x = .int i ∧ Q (some i) H1

section
variable {X : Cx} {e : Expr} {te : TE} {lo hi : Option Expr} {tl th : TO} {pos p2 : Pos}

theorem po_none : PO X none tNoPart := by
  intro pins s σ H Q I h
  rw [evalPart_none]
  exact wpAny_pure ⟨none, H, I, .none, h⟩
theorem po_some (h : PE X e te) : PO X (some e) (tPart te) := by
  intro pins s σ H Q I hw
  rw [evalPart_some]
  refine thn (h pins s σ H _ I hw) fun u s1 ⟨x, H1, I1, r1, q1⟩ => ?_
  obtain ⟨i, rfl, q⟩ := q1
  obtain ⟨t, rfl⟩ := r1
  exact ⟨some i, H1, I1, .int i t, q⟩

def SlR (X : Cx) (r : V → Option Int → Option Int → Hp → VK → Prop) : Prop :=
  ∀ (pins : List (Addr × Obj)) (s : Shared) (σ : St) (H : Hp) (x : V) (v vl vu : Value) (lo hi : Option Int) (sl : Addr) (Q : VK), Inv X pins σ H s → RelV x v → s.heap.IsSliceOf sl vl vu .none → IsPart vl lo → IsPart vu hi → r x lo hi H Q →
    ∃ T id, typeLookup (.type T) "__getitem__" = pure (some (.builtin id)) ∧ s.TypeIs v T ∧ wpAny (model X.prog X.w) X.A (getItem v (.ref sl)) (EP X pins σ Q) X.xe s
theorem SlR.or {r r' : V → Option Int → Option Int → Hp → VK → Prop} (h : SlR X r) (h' : SlR X r') : SlR X (fun x lo hi H Q => r x lo hi H Q ∨ r' x lo hi H Q) := by
  intro pins s σ H x v vl vu lo hi sl Q I rx hs pl pu q
  rcases q with q | q
  · exact h pins s σ H x v vl vu lo hi sl Q I rx hs pl pu q
  · exact h' pins s σ H x v vl vu lo hi sl Q I rx hs pl pu q
def tSl (r : V → Option Int → Option Int → Hp → VK → Prop) (te : TE) (tl th : TO) : TE := fun σ H Q => te σ H fun x H1 => tl σ H1 fun l H2 => th σ H2 fun u H3 => r x l u H3 Q
theorem pe_slice {r : V → Option Int → Option Int → Hp → VK → Prop} (hr : SlR X r) (he : PE X e te) (hl : PO X lo tl) (hu : PO X hi th) : PE X (.Subscript e (.Slice lo hi none p2) pos) (tSl r te tl th) := by
  intro pins s σ H Q I h
  refine Subscript_ (thn (he pins s σ H _ I h) fun v s1 ⟨x, H1, I1, r1, q1⟩ => ?_)
  refine wpAny_Slice (thn (hl pins s1 σ H1 _ I1 q1) fun vl s2 ⟨l, H2, I2, pl, q2⟩ => thn (hu pins s2 σ H2 _ I2 q2) fun vu s3 ⟨u, H3, I3, pu, q3⟩ => ?_)
  rw [evalPart_none]
  refine wpAny_pure ?_
  have I4 : Inv X pins σ H3 { s3 with heap := s3.heap.push { cls := .type "slice", data := .fields #[vl, vu, .none] } } := I3.kept (t' := s3.toks) fun b ob q => Heap.get?_push_of_some _ q
  obtain ⟨T, id, hT, ht, hg⟩ := hr pins { s3 with heap := s3.heap.push { cls := .type "slice", data := .fields #[vl, vu, .none] } } σ H3 x v vl vu l u s3.heap.objs.size Q I4 r1 (Heap.IsSliceOf.new ..) pl pu q3
  show wpAny (model X.prog X.w) X.A (subscriptTail e (.Slice lo hi none p2) v (.ref s3.heap.objs.size)) (EP X pins σ Q) X.xe { s3 with heap := s3.heap.push { cls := .type "slice", data := .fields #[vl, vu, .none] } }
  exact tail_any (ops := [.ref s3.heap.objs.size, v]) ht hT hg (by with_unfolding_all rfl)

def cutV (xs : List V) (lo hi : Option Int) : List V := (xs.drop (HT.sIx xs.length 0 lo)).take (HT.sIx xs.length xs.length hi - HT.sIx xs.length 0 lo)
theorem cutV_length (xs : List V) (lo hi : Option Int) : (cutV xs lo hi).length ≤ xs.length := by
  unfold cutV
  rw [List.length_take, List.length_drop]
  omega
def rSlT (K : PySem.W.Frag) : V → Option Int → Option Int → Hp → VK → Prop := fun x lo hi H Q => ∃ a xs, x = .ref a ∧ SqT K H a xs ∧
  ¬ (HT.sIx xs.length 0 lo = 0 ∧ HT.sIx xs.length xs.length hi = xs.length) ∧ ∀ p, H p = none → Q (.ref p) (upd H p (.tup (cutV xs lo hi)))
def rLtT (K : PySem.W.Frag) : R2 := fun x y H Q => ∃ a b ns ms, x = .ref a ∧ y = .ref b ∧ SqT K H a (ns.map V.int) ∧ SqT K H b (ms.map V.int) ∧ Q (.bl (HT.lexLt ns ms)) H
def rCatT (K : PySem.W.Frag) : R2 := fun x y H Q => ∃ a b xs ys, x = .ref a ∧ y = .ref b ∧ SqT K H a xs ∧ SqT K H b ys ∧ xs ≠ [] ∧ xs.length + ys.length ≤ sizeLine ∧
  (ys = [] → Q (.ref a) H) ∧ (ys ≠ [] → ∀ p, H p = none → Q (.ref p) (upd H p (.tup (xs ++ ys))))
end
end L2

namespace L2
open PySem PySem.Spec PyProof.Rows

def ixN (n : Nat) (i : Int) : Option Nat := if 0 ≤ i then (if i < n then some i.toNat else none) else if -(n : Int) ≤ i then some (i + n).toNat else none
def atI {α : Type} (xs : List α) (i : Int) : Option α := (ixN xs.length i).bind fun j => xs[j]?
theorem ixN_seq {n : Nat} {i : Int} {j : Nat} (h : ixN n i = some j) : seqIndex? i n = some j ∧ j < n ∧ -(n : Int) ≤ i ∧ i < n := by
  unfold ixN at h
  by_cases h0 : 0 ≤ i
  · rw [if_pos h0] at h
    by_cases h1 : i < n
    · rw [if_pos h1] at h
      have e : i.toNat = j := Option.some.inj h
      exact ⟨by rw [seqIndex_of h0 h1, e], by omega, by omega, h1⟩
    · rw [if_neg h1] at h; cases h
  · rw [if_neg h0] at h
    by_cases h1 : -(n : Int) ≤ i
    · rw [if_pos h1] at h
      have e : (i + n).toNat = j := Option.some.inj h
      exact ⟨by rw [seqIndex_neg (by omega) h1, e], by omega, h1, by omega⟩
    · rw [if_neg h1] at h; cases h
theorem atI_get {α : Type} {xs : List α} {i : Int} {v : α} (h : atI xs i = some v) : ∃ j, seqIndex? i xs.length = some j ∧ xs[j]? = some v ∧ j < xs.length ∧ -(xs.length : Int) ≤ i ∧ i < xs.length := by
  unfold atI at h
  cases e : ixN xs.length i with
  | none => rw [e] at h; cases h
  | some j =>
    rw [e] at h
    obtain ⟨h1, h2, h3, h4⟩ := ixN_seq e
    exact ⟨j, h1, h, h2, h3, h4⟩
theorem atI_nat {α : Type} {xs : List α} {j : Nat} {v : α} (h : xs[j]? = some v) : atI xs (j : Int) = some v := by
  have hj : j < xs.length := (List.getElem?_eq_some_iff.mp h).1
  have e : ixN xs.length (j : Int) = some j := by
    unfold ixN
    rw [if_pos (by omega), if_pos (by omega)]; simp
  unfold atI; rw [e]; exact h
def PlainIx (b : Expr) : Prop := ∀ o i, subscripted b false o i = operate [o, i] (getItem o i)
def IxR (X : Cx) (r : R2) : Prop :=
  ∀ (value slice : Expr) (pins : List (Addr × Obj)) (s : Shared) (σ : St) (H : Hp) (x y : V) (v u : Value) (Q : VK), Inv X pins σ H s → RelV x v → RelV y u → r x y H Q →
    subscripted slice false v u = operate [v, u] (getItem v u) → wpAny (model X.prog X.w) X.A (subscriptTail value slice v u) (EP X pins σ Q) X.xe s
def MtR (X : Cx) (id : String) (r : V → List V → Hp → VK → Prop) : Prop :=
  ∀ (pins : List (Addr × Obj)) (s : Shared) (σ : St) (H : Hp) (x : V) (xs : List V) (v : Value) (us : List Value) (Q : VK), Inv X pins σ H s → RelV x v → Vals xs us → r x xs H Q →
    wpAny (model X.prog X.w) X.A (call (.builtin id) (v :: us)) (EP X pins σ Q) X.xe s
section
variable {X : Cx} {a b : Expr} {ta tb : TE} {pos : Pos}
theorem IxR.or {r r' : R2} (h : IxR X r) (h' : IxR X r') : IxR X (fun x y H Q => r x y H Q ∨ r' x y H Q) := by
  intro value slice pins s σ H x y v u Q I rx ry q hs
  rcases q with q | q
  · exact h value slice pins s σ H x y v u Q I rx ry q hs
  · exact h' value slice pins s σ H x y v u Q I rx ry q hs
theorem MtR.or {id : String} {r r' : V → List V → Hp → VK → Prop} (h : MtR X id r) (h' : MtR X id r') : MtR X id (fun x xs H Q => r x xs H Q ∨ r' x xs H Q) := by
  intro pins s σ H x xs v us Q I rx rs q
  rcases q with q | q
  · exact h pins s σ H x xs v us Q I rx rs q
  · exact h' pins s σ H x xs v us Q I rx rs q
theorem pe_ix {r : R2} (hr : IxR X r) (ha : PE X a ta) (hb : PE X b tb) (hs : PlainIx b) : PE X (.Subscript a b pos) (tOp r ta tb) := by
  intro pins s σ H Q I h
  exact Subscript_ (binT ha hb I h fun v u s2 x y H2 I2 rx ry q => hr a b pins s2 σ H2 x y v u Q I2 rx ry q (hs _ _))

def rIxL (K : PySem.W.Frag) : R2 := fun x y H Q => ∃ p xs i v, x = .ref p ∧ y = .int i ∧ SqL K H p xs ∧ atI xs i = some v ∧ Q v H
def rIxT (K : PySem.W.Frag) : R2 := fun x y H Q => ∃ p xs i v, x = .ref p ∧ y = .int i ∧ SqT K H p xs ∧ atI xs i = some v ∧ Q v H
def rIxS : R2 := fun x y H Q => ∃ z i c, x = .str z ∧ y = .int i ∧ z.length ≤ sizeLine ∧ atI z.cps.toList i = some c ∧ Q (.str ⟨#[c]⟩) H
theorem ix_list : IxR X (rIxL X.K) := by
  intro value slice pins s σ H x y v u Q I rx ry h hs
  obtain ⟨p, xs, i, z, rfl, rfl, hq, he, q⟩ := h
  cases rx
  obtain ⟨t, rfl⟩ := ry
  obtain ⟨its, r, pl, hz⟩ := I.list hq
  obtain ⟨j, h1, h2, h3, h4, h5⟩ := atI_get he
  obtain ⟨w, ew, rw'⟩ := r.get h2
  have hl := r.length
  have hn := line63
  have fin : EP X pins σ Q w s := ⟨z, H, I, rw', q⟩
  by_cases h0 : 0 ≤ i
  · have hj : i.toNat = j := by
      rw [seqIndex_of h0 h5] at h1
      exact Option.some.inj h1
    exact item_listR pl.isList h0 (by omega) (by rw [hj]; simpa using ew) fin hs
  · have hj : (i + (its.toArray.size : Int)).toNat = j := by
      rw [seqIndex_neg (by omega) h4] at h1
      rw [List.size_toArray, ← hl]
      exact Option.some.inj h1
    exact subscriptTail_builtinR (x := w) pl.isList.typeIs slot_list_getitem.lookup
      (wpAny_getItem_list_neg (Q := fun r s' => r = w ∧ EP X pins σ Q r s') pl.isList (by omega) (by rw [List.size_toArray] <;> omega) (by omega) (by rw [hj]; simpa using ew) ⟨rfl, fin⟩) hs
theorem ix_tup : IxR X (rIxT X.K) := by
  intro value slice pins s σ H x y v u Q I rx ry h hs
  obtain ⟨p, xs, i, z, rfl, rfl, hq, he, q⟩ := h
  cases rx
  obtain ⟨t, rfl⟩ := ry
  obtain ⟨its, r, pl, hz⟩ := I.tuple hq
  obtain ⟨j, h1, h2, h3, h4, h5⟩ := atI_get he
  obtain ⟨w, ew, rw'⟩ := r.get h2
  have hl := r.length
  have hn := line63
  have fin : EP X pins σ Q w s := ⟨z, H, I, rw', q⟩
  exact subscriptTail_builtinR (x := w) pl.typeIs slot_tuple_getitem.lookup
    (getItem_tuple (j := j) (Q := fun r s' => r = w ∧ EP X pins σ Q r s') pl (by omega) (by omega) (by rw [List.size_toArray, ← hl]; exact h1) (by simpa using ew) ⟨rfl, fin⟩) hs
theorem ix_str : IxR X rIxS := by
  intro value slice pins s σ H x y v u Q I rx ry h hs
  obtain ⟨z, i, c, rfl, rfl, hz, he, q⟩ := h
  obtain ⟨t, rfl⟩ := rx
  obtain ⟨t', rfl⟩ := ry
  obtain ⟨j, h1, h2, h3, h4, h5⟩ := atI_get he
  have hl : z.cps.toList.length = z.length := by simp [Str.length]
  rw [hl] at h1 h4 h5
  have hn := line63
  exact tail_any (typeIs_str s z t) slot_str_getitem.lookup (getItem_str (c := c) (by
    have e1 : decide (i < -(2 ^ 63 : Int)) = false := decide_eq_false (by omega)
    have e2 : decide (i ≥ 2 ^ 63) = false := decide_eq_false (by omega)
    rw [e1, e2, Bool.or_false]) (by rw [h1]; simpa using h2) ⟨.str ⟨#[c]⟩, H, I.tok _, ⟨_, rfl⟩, q⟩) hs
def rIx (K : PySem.W.Frag) : R2 := fun x y H Q => rIxL K x y H Q ∨ rIxT K x y H Q ∨ rIxS x y H Q
theorem mapSeq_set (its : List Value) (n j : Nat) (u : Value) : Obj.mapSeq (·.setIfInBounds j u) { cls := .type "list", data := .seq its.toArray n } = { cls := .type "list", data := .seq (its.set j u).toArray n } := by
  simp [Obj.mapSeq]
theorem Inv.lst {pins : List (Addr × Obj)} {σ : St} {H : Hp} {s : Shared} {p : Addr} {xs : List V} (I : Inv X pins σ H s) (h : H p = some (.lst xs)) :
    ∃ (its : List Value) (n : Nat), Vals xs its ∧ s.heap.get? p = some { cls := .type "list", data := .seq its.toArray n } ∧ xs.length ≤ sizeLine := by
  obtain ⟨z, its, n, r, e⟩ := I.hok p _ h
  exact ⟨its, n, r, e, z⟩
theorem Inv.lstUpd {pins : List (Addr × Obj)} {σ : St} {H : Hp} {s : Shared} {p : Addr} {xs ys : List V} {its its' : List Value} {n n' : Nat} {f : Obj → Obj} (I : Inv X pins σ H s) (h : H p = some (.lst xs))
    (ho : s.heap.get? p = some { cls := .type "list", data := .seq its.toArray n }) (hf : f { cls := .type "list", data := .seq its.toArray n } = { cls := .type "list", data := .seq its'.toArray n' }) (r : Vals ys its') (hz : ys.length ≤ sizeLine) (t : Nat) :
    Inv X pins σ (upd H p (.lst ys)) { s with heap := s.heap.update p f, toks := t } := by
  have e : (s.heap.update p f).get? p = some { cls := .type "list", data := .seq its'.toArray n' } := by
    rw [Heap.get?_update_self f ho (by rw [hf] <;> rfl), hf]
  refine I.write (x := p) (e := p) (by rw [h]; trivial) (.inl rfl) (fun b u hb q => (Heap.get?_update_other _ _ (Ne.symm hb)).trans q) ⟨_, e⟩ ?_
  exact ⟨hz, its', n', r, e⟩
def rSetL : V → V → V → Hp → (Hp → Prop) → Prop := fun o i v H Q => ∃ p xs k j, o = .ref p ∧ i = .int k ∧ H p = some (.lst xs) ∧ ixN xs.length k = some j ∧ Q (upd H p (.lst (xs.set j v)))
theorem set_list : PSet X rSetL := by
  intro pins s σ H o i v ov iv u Q I ro ri rv h
  obtain ⟨p, xs, k, j, rfl, rfl, hp, hj, q⟩ := h
  cases ro
  obtain ⟨t, rfl⟩ := ri
  obtain ⟨its, n, r, ho, hz⟩ := I.lst hp
  obtain ⟨h1, h2, h3, h4⟩ := ixN_seq hj
  have hl := r.length
  have hn := line63
  have I' : Inv X pins σ (upd H p (.lst (xs.set j v))) { s with heap := s.heap.update p (Obj.mapSeq (·.setIfInBounds j u)) } :=
    I.lstUpd hp ho (mapSeq_set its n j u) (r.set rv j) (by rw [List.length_set]; exact hz) s.toks
  by_cases h0 : 0 ≤ k
  · have hk : k.toNat = j := by
      rw [seqIndex_of h0 h4] at h1
      exact Option.some.inj h1
    exact PySem.W.ki_setAt ho h0 (by omega) (by rw [List.size_toArray, ← hl]; exact h4) (by rw [hk]; exact ⟨_, I', q⟩)
  · have hk : (k + (its.toArray.size : Int)).toNat = j := by
      rw [seqIndex_neg (by omega) h3] at h1
      rw [List.size_toArray, ← hl]
      exact Option.some.inj h1
    exact PySem.W.ki_setBack ho (by omega) (by rw [List.size_toArray, ← hl]; exact h3) (by omega) (by rw [hk]; exact ⟨_, I', q⟩)

theorem slice_bounds (lo hi : Option Int) (n : Nat) : (sliceBounds lo hi none n).1 = ((HT.sIx n 0 lo : Nat) : Int) ∧ (sliceBounds lo hi none n).2.1 = ((HT.sIx n n hi : Nat) : Int) ∧ (sliceBounds lo hi none n).2.2 = 1 := by
  refine ⟨?_, ?_, rfl⟩
  · cases lo with
    | none => simp [sliceBounds, HT.sIx]
    | some i =>
      simp only [sliceBounds, HT.sIx, Option.getD_none, show (1 : Int) > 0 by decide, if_true]
      by_cases h : i < 0
      · simp only [h, if_true] <;> omega
      · simp only [h, if_false] <;> omega
  · cases hi with
    | none => simp [sliceBounds, HT.sIx]
    | some i =>
      simp only [sliceBounds, HT.sIx, Option.getD_none, show (1 : Int) > 0 by decide, if_true]
      by_cases h : i < 0
      · simp only [h, if_true] <;> omega
      · simp only [h, if_false] <;> omega
theorem slicePick_cut (its : List Value) (lo hi : Option Int) : slicePick its.toArray lo hi none = ((its.drop (HT.sIx its.length 0 lo)).take (HT.sIx its.length its.length hi - HT.sIx its.length 0 lo)).toArray := by
  obtain ⟨h1, h2, h3⟩ := slice_bounds lo hi its.toArray.size
  unfold slicePick
  rw [h1, h2, h3]
  simp only [sliceRange_one, pick_run, List.size_toArray] <;> rfl
def rSlL (K : PySem.W.Frag) : V → Option Int → Option Int → Hp → VK → Prop := fun x lo hi H Q => ∃ a xs, x = .ref a ∧ SqL K H a xs ∧ ∀ p, H p = none → Q (.ref p) (upd H p (.lst (cutV xs lo hi)))
theorem sl_list : SlR X (rSlL X.K) := by
  intro pins s σ H x v vl vu lo hi sl Q I rx hs pl pu h
  obtain ⟨a, xs, rfl, hx, q⟩ := h
  cases rx
  obtain ⟨its, r, ht, hz⟩ := I.list hx
  have hlen := r.length
  refine ⟨"list", _, slot_list_getitem.lookup, ht.isList.typeIs, ?_⟩
  refine wpAny_getItem_list_slice ht.isList hs pl pu .none (by simp) ?_ (by rw [List.size_toArray] <;> omega)
  rw [slicePick_cut, ← hlen]
  refine ⟨.ref s.heap.objs.size, _, I.laid (t' := s.toks) (o := .lst (cutV xs lo hi)) (fun b ob q => Heap.get?_push_of_some _ q) (Nat.le_refl _) ?_, rfl, q _ (I.hok.fresh (Nat.le_refl _))⟩
  exact ⟨Nat.le_trans (cutV_length xs lo hi) hz, _, 0, (r.drop (HT.sIx xs.length 0 lo)).take (HT.sIx xs.length xs.length hi - HT.sIx xs.length 0 lo), Heap.get?_push_size _ rfl⟩

def flatV : V → Bool
  | .non => true
  | .bl _ => true
  | .int _ => true
  | .str _ => true
  | _ => false
def eqV : V → V → Bool
  | .non, .non => true
  | .bl a, .bl b => a == b
  | .bl a, .int b => (if a then 1 else 0) == b
  | .int a, .bl b => a == (if b then 1 else 0)
  | .int a, .int b => a == b
  | .str a, .str b => a == b
  | _, _ => false
theorem eqAt_V {A : Around} {s : Shared} {y x : V} {u v : Value} (ry : RelV y u) (rx : RelV x v) (fy : flatV y = true) (fx : flatV x = true) : SeqAt.EqAt A s u v (eqV y x) := by
  cases y with
  | non =>
    cases ry
    cases x with
    | non => cases rx; exact SeqAt.EqAt.same _
    | bl b => cases rx; exact SeqAt.EqAt.none_bool b
    | int b => obtain ⟨t, rfl⟩ := rx; exact SeqAt.EqAt.none_int b t
    | str b => obtain ⟨t, rfl⟩ := rx; exact SeqAt.EqAt.none_str b t
    | _ => exact absurd (show false = true from fx) Bool.false_ne_true
  | bl a =>
    cases ry
    cases x with
    | non => cases rx; exact SeqAt.EqAt.bool_none a
    | bl b => cases rx; exact SeqAt.EqAt.bool_bool a b
    | int b => obtain ⟨t, rfl⟩ := rx; exact SeqAt.EqAt.bool_int a b t
    | str b => obtain ⟨t, rfl⟩ := rx; exact SeqAt.EqAt.bool_str a b t
    | _ => exact absurd (show false = true from fx) Bool.false_ne_true
  | int a =>
    obtain ⟨t', rfl⟩ := ry
    cases x with
    | non => cases rx; exact SeqAt.EqAt.int_none a t'
    | bl b => cases rx; exact SeqAt.EqAt.int_bool a t' b
    | int b => obtain ⟨t, rfl⟩ := rx; exact SeqAt.EqAt.int_int a t' b t
    | str b => obtain ⟨t, rfl⟩ := rx; exact SeqAt.EqAt.int_str a t' b t
    | _ => exact absurd (show false = true from fx) Bool.false_ne_true
  | str a =>
    obtain ⟨t', rfl⟩ := ry
    cases x with
    | non => cases rx; exact SeqAt.EqAt.str_none a t'
    | bl b => cases rx; exact SeqAt.EqAt.str_bool a t' b
    | int b => obtain ⟨t, rfl⟩ := rx; exact SeqAt.EqAt.str_int a t' b t
    | str b => obtain ⟨t, rfl⟩ := rx; exact SeqAt.EqAt.str_str a t' b t
    | _ => exact absurd (show false = true from fx) Bool.false_ne_true
  | _ => exact absurd (show false = true from fy) Bool.false_ne_true
def eqU (x : V) (u : Value) : Bool := match u with
  | .none => eqV .non x
  | .bool b => eqV (.bl b) x
  | .int i _ => eqV (.int i) x
  | .str z _ => eqV (.str z) x
  | _ => false
theorem eqU_of {x y : V} {u : Value} (r : RelV y u) (f : flatV y = true) : eqU x u = eqV y x := by
  cases y with
  | non => cases r; rfl
  | bl b => cases r; rfl
  | int i => obtain ⟨t, rfl⟩ := r; rfl
  | str z => obtain ⟨t, rfl⟩ := r; rfl
  | _ => exact absurd (show false = true from f) Bool.false_ne_true
theorem any_eqU {x : V} : ∀ {xs : List V} {us : List Value}, Vals xs us → xs.all flatV = true → us.any (eqU x) = xs.any fun y => eqV y x
  | _, _, .nil, _ => rfl
  | y :: xs, u :: us, .cons r t, f => by
    rw [List.all_cons, Bool.and_eq_true] at f
    rw [List.any_cons, List.any_cons, eqU_of r f.1, any_eqU t f.2]
theorem mem_eqAt {A : Around} {s : Shared} {x : V} {v : Value} (rx : RelV x v) (fx : flatV x = true) : ∀ {xs : List V} {us : List Value}, Vals xs us → xs.all flatV = true → ∀ u ∈ us, SeqAt.EqAt A s u v (eqU x u)
  | _, _, .nil, _ => fun u hu => by cases hu
  | y :: xs, u :: us, .cons r t, f => fun u' hu => by
    rw [List.all_cons, Bool.and_eq_true] at f
    rcases List.mem_cons.mp hu with rfl | hu
    · rw [eqU_of r f.1]; exact eqAt_V r rx f.1 fx
    · exact mem_eqAt rx fx t f.2 u' hu
def inV (x : V) (xs : List V) : Bool := xs.any fun y => eqV y x
def rIn (K : PySem.W.Frag) (neg : Bool) : R2 := fun x y H Q => ∃ p xs, y = .ref p ∧ (SqL K H p xs ∨ SqT K H p xs) ∧ flatV x = true ∧ xs.all flatV = true ∧ Q (.bl (if neg then !inV x xs else inV x xs)) H
theorem op_in_seq : OpR X (compareOp .In) (rIn X.K false) := by
  intro pins s σ H x y v u Q I rx ry h
  obtain ⟨p, xs, rfl, hq, fx, fs, q⟩ := h
  cases ry
  rcases hq with hq | hq
  · obtain ⟨its, r, pl, hz⟩ := I.list hq
    refine SeqAt.in_listAt (eqU x) pl.isList (fun w hw => mem_eqAt rx fx r fs w (by simpa using hw)) ⟨.bl _, H, I, rfl, ?_⟩
    rw [show its.toArray.any (eqU x) = its.any (eqU x) by simp, any_eqU r fs]
    exact q
  · obtain ⟨its, r, pl, hz⟩ := I.tuple hq
    refine SeqAt.in_tupleAt (eqU x) pl (fun w hw => mem_eqAt rx fx r fs w (by simpa using hw)) ⟨.bl _, H, I, rfl, ?_⟩
    rw [show its.toArray.any (eqU x) = its.any (eqU x) by simp, any_eqU r fs]
    exact q
theorem call_len_seq : CallR X (.builtin "len") (fun xs H Q => ∃ p ys, xs = [.ref p] ∧ (SqL X.K H p ys ∨ SqT X.K H p ys) ∧ Q (.int ys.length) H) := by
  intro pins s σ H xs us Q I r h
  obtain ⟨p, ys, rfl, hq, q⟩ := h
  obtain ⟨u, rfl, rx⟩ := vals1 r
  cases rx
  have hn := line63
  rcases hq with hq | hq
  · obtain ⟨its, r', pl, hz⟩ := I.list hq
    have hlen := r'.length
    exact Calls.call_len_list pl.isList (by simp only [List.size_toArray] <;> omega) ⟨.int ys.length, H, I.tok _, ⟨s.toks + 1, by rw [List.size_toArray, hlen]⟩, q⟩
  · obtain ⟨its, r', pl, hz⟩ := I.tuple hq
    have hlen := r'.length
    exact len_tuple pl (by simp only [List.size_toArray] <;> omega) ⟨.int ys.length, H, I.tok _, ⟨s.toks + 1, by rw [List.size_toArray, hlen]⟩, q⟩
theorem call_len_str : CallR X (.builtin "len") (fun xs H Q => ∃ z, xs = [.str z] ∧ z.length ≤ sizeLine ∧ Q (.int z.length) H) := by
  intro pins s σ H xs us Q I r h
  obtain ⟨z, rfl, hz, q⟩ := h
  obtain ⟨u, rfl, t, rfl⟩ := vals1 r
  have hn := line63
  exact len_str (by omega) ⟨.int z.length, H, I.tok _, ⟨_, rfl⟩, q⟩
theorem CallR.or {f : Value} {r r' : List V → Hp → VK → Prop} (h : CallR X f r) (h' : CallR X f r') : CallR X f (fun xs H Q => r xs H Q ∨ r' xs H Q) := by
  intro pins s σ H xs us Q I rs q
  rcases q with q | q
  · exact h pins s σ H xs us Q I rs q
  · exact h' pins s σ H xs us Q I rs q
def tyV (K : PySem.W.Frag) (T : String) (x : V) (H : Hp) : Prop := match x with
  | .str _ => T = "str"
  | .int _ => T = "int"
  | .ref p => (T = "list" ∧ ∃ xs, SqL K H p xs) ∨ (T = "tuple" ∧ ∃ o, K.lookup p = some o ∧ o.cls = .type "tuple" ∧ o.dict = none) ∨
      (T = "dict" ∧ ((∃ kvs, H p = some (.dK kvs)) ∨ ∃ kvs, H p = some (.dT kvs))) ∨ (T = "set" ∧ ∃ S n, H p = some (.set S n))
  | _ => False
theorem tyV_is {pins : List (Addr × Obj)} {σ : St} {H : Hp} {s : Shared} {T : String} {x : V} {v : Value} (I : Inv X pins σ H s) (r : RelV x v) (ty : tyV X.K T x H) :
    s.TypeIs v T ∧ ∀ a, v = .ref a → ∃ ob, s.heap.get? a = some ob ∧ ob.dict = none := by
  cases x with
  | str z =>
    obtain ⟨t, rfl⟩ := r
    cases (show T = "str" from ty)
    exact ⟨typeIs_str s z t, fun _ e => nomatch e⟩
  | int i =>
    obtain ⟨t, rfl⟩ := r
    cases (show T = "int" from ty)
    exact ⟨typeIs_int s i t, fun _ e => nomatch e⟩
  | ref p =>
    cases r
    rcases ty with ⟨rfl, xs, hq⟩ | ⟨rfl, o, hk, hc, hd⟩ | ⟨rfl, hk⟩ | ⟨rfl, S, n, hk⟩
    · obtain ⟨its, _, pl, _⟩ := I.list hq
      refine ⟨pl.isList.typeIs, fun a e => ?_⟩
      cases e
      obtain ⟨o, n, e, c, hd, _⟩ := pl
      exact ⟨o, e, hd⟩
    · refine ⟨⟨o, I.kIn p o hk, hc⟩, fun a e => ?_⟩
      cases e
      exact ⟨o, I.kIn _ o hk, hd⟩
    · have z : ∃ o, s.heap.get? p = some o ∧ o.ExactDict := by
        rcases hk with ⟨kvs, hk⟩ | ⟨kvs, hk⟩
        · obtain ⟨_, _, _, _, o, _, _, e, ex, _⟩ := I.hok p _ hk
          exact ⟨o, e, ex⟩
        · obtain ⟨_, _, _, _, o, _, _, e, ex, _⟩ := I.hok p _ hk
          exact ⟨o, e, ex⟩
      obtain ⟨o, e, ex⟩ := z
      refine ⟨⟨o, e, ex.1⟩, fun a e2 => ?_⟩
      cases e2
      exact ⟨o, e, ex.2.1⟩
    · obtain ⟨o, _, _, _, e, ex, _⟩ := I.hok p _ hk
      refine ⟨⟨o, e, ex.1⟩, fun a e2 => ?_⟩
      cases e2
      exact ⟨o, e, ex.2.1⟩
  | _ => exact False.elim ty
def tBM0 (K : PySem.W.Frag) (T : String) (r : V → List V → Hp → VK → Prop) (to : TE) : TE := fun σ H Q => to σ H fun x H1 => tyV K T x H1 ∧ r x [] H1 Q
def tBM (K : PySem.W.Frag) (T : String) (r : V → List V → Hp → VK → Prop) (to : TE) (t : TA) : TE := fun σ H Q => to σ H fun x H1 => tyV K T x H1 ∧ t σ H1 fun xs H2 => r x xs H2 Q
variable {o e : Expr} {es : List Expr} {to : TE} {t : TA} {name : Str} {apos cpos : Pos} {T id : String} {r : V → List V → Hp → VK → Prop}
theorem pe_bm (pa : PlainAttrs T) (slot : Slot T name id) (hty : typeOf (.builtin id) = pure (.type "method_descriptor")) (hm : MtR X id r) (ho : PE X o to) (ha : PA X (e :: es) t)
    (hbase : attributeBase o name X.env (eval o X.env) = eval o X.env := by rfl)
    (hfew : ((backTo cpos (starEach (e :: es) X.env)).all (fun x => !x.1) && (backToKw cpos (keywordEach [] X.env)).all (fun x => x.1.isSome)
      && decide ((e :: es).length + ([] : List Keyword).length + (if ([] : List Keyword).isEmpty then 0 else 1) < 30)) = true := by rfl)
    (hline : (apos.endLine == cpos.line) = true := by rfl) (hs : starEach (e :: es) X.env = (false, eval e X.env) :: starEach es X.env := by rfl) (hplain : (backTo cpos (starEach es X.env)).any (·.1) = false := by rfl) :
    PE X (.Call (.Attribute o name apos) (e :: es) [] cpos) (tBM X.K T r to t) := by
  intro pins s σ H Q I h
  refine wpAny_Call_method_late hbase hfew hline rfl (thn (ho pins s σ H _ I h) fun v s1 ⟨x, H1, I1, r1, ty, q1⟩ => ?_)
  obtain ⟨h1, h2⟩ := tyV_is I1 r1 ty
  refine ⟨T, id, pa, slot, hty, h1, h2, ?_⟩
  have hA := ha cpos pins s1 σ H1 _ I1 q1
  rw [hs] at hA ⊢
  refine Calls.callWith_builtin (by show (false || (backTo cpos (starEach es X.env)).any (·.1)) = false; rw [hplain] <;> rfl) (Calls.evalArgs_plain ?_)
  exact thn hA fun us s2 ⟨vs, H2, I2, r2, q2⟩ => hm pins s2 σ H2 x vs v us Q I2 r1 r2 q2
end
end L2

namespace L2
open PySem PySem.Spec PyProof.Rows

def MtM (X : Cx) (id : String) (r : V → List V → Hp → VK → Prop) : Prop :=
  ∀ (pins : List (Addr × Obj)) (s : Shared) (σ : St) (H : Hp) (x : V) (xs : List V) (v : Value) (us : List Value) (Q : VK), Inv X pins σ H s → RelV x v → Vals xs us → r x xs H Q →
    wpAny (model X.prog X.w) X.A (call (.builtin id) (v :: us)) (EP X pins σ Q) X.xe s

theorem Vals.one : ∀ {x : V} {us : List Value}, Vals [x] us → ∃ u, us = [u] ∧ RelV x u
  | _, _, .cons r .nil => ⟨_, rfl, r⟩
theorem Vals.two : ∀ {x y : V} {us : List Value}, Vals [x, y] us → ∃ u v, us = [u, v] ∧ RelV x u ∧ RelV y v
  | _, _, _, .cons r (.cons q .nil) => ⟨_, _, rfl, r, q⟩
theorem Vals.zero : ∀ {us : List Value}, Vals [] us → us = []
  | _, .nil => rfl
theorem Vals.dropLast {xs : List V} {us : List Value} (h : Vals xs us) : Vals xs.dropLast us.dropLast := by
  induction h with
  | nil => exact .nil
  | cons r t ih =>
    cases t with
    | nil => exact .nil
    | cons q t' => exact .cons r ih
theorem Vals.eraseIdx : ∀ {xs : List V} {us : List Value} (i : Nat), Vals xs us → Vals (xs.eraseIdx i) (us.eraseIdx i)
  | _, _, _, .nil => .nil
  | _, _, 0, .cons _ t => t
  | _, _, i + 1, .cons r t => .cons r (Vals.eraseIdx i t)
theorem Vals.reverse {xs : List V} {us : List Value} (h : Vals xs us) : Vals xs.reverse us.reverse := by
  induction h with
  | nil => exact .nil
  | cons r t ih => rw [List.reverse_cons, List.reverse_cons]; exact Vals.append ih (.cons r .nil)
section
variable {X : Cx} {pins : List (Addr × Obj)} {σ : St} {H : Hp} {s : Shared} {l b : Addr} {xs ys zs : List V}

theorem Inv.lset {its its' : List Value} {n : Nat} {f : Array Value → Array Value} {t' : Nat} (I : Inv X pins σ H s) (hH : H l = some (.lst xs))
    (e : s.heap.get? l = some { cls := .type "list", data := .seq its.toArray n }) (hf : f its.toArray = its'.toArray) (hv : Vals ys its') (hz : ys.length ≤ sizeLine) :
    Inv X pins σ (upd H l (.lst ys)) { s with heap := s.heap.update l (Obj.mapSeq f), toks := t' } := by
  have q := PySem.IsL.update e f
  rw [hf] at q
  refine I.write (x := l) (e := l) (by rw [hH]; exact trivial) (.inl rfl) (fun b' u hb hu => (Heap.get?_update_other s.heap (Obj.mapSeq f) (Ne.symm hb)).trans hu) ⟨_, q⟩ ?_
  exact ⟨hz, its', _, hv, q⟩
theorem Inv.lnew {its : List Value} {t' : Nat} (I : Inv X pins σ H s) (hv : Vals ys its) (hz : ys.length ≤ sizeLine) :
    Inv X pins σ (upd H s.heap.objs.size (.lst ys)) { s with heap := s.heap.push { cls := .type "list", data := .seq its.toArray }, toks := t' } :=
  I.laid (fun _ _ q => Heap.get?_push_of_some _ q) (Nat.le_refl _) ⟨hz, its, 0, hv, Heap.get?_push_size _ rfl⟩
theorem Inv.fresh (I : Inv X pins σ H s) : H s.heap.objs.size = none := I.hok.fresh (Nat.le_refl _)
theorem Inv.lstM (I : Inv X pins σ H s) (hH : H l = some (.lst xs)) : xs.length ≤ sizeLine ∧ ∃ (its : List Value) (n : Nat), Vals xs its ∧ xs.length = its.length ∧ s.heap.get? l = some { cls := .type "list", data := .seq its.toArray n } := by
  obtain ⟨z, its, n, r, e⟩ := I.hok l _ hH
  exact ⟨z, its, n, r, r.length, e⟩

end

section
variable {X : Cx}

def rAppend : V → List V → Hp → VK → Prop := fun x vs H Q => ∃ l xs y, x = .ref l ∧ vs = [y] ∧ H l = some (.lst xs) ∧ xs.length < sizeLine ∧ Q .non (upd H l (.lst (xs ++ [y])))
theorem mt_append : MtM X "list.append" rAppend := by
  intro pins s σ H x vs v us Q I rx rv h
  obtain ⟨l, xs, y, rfl, rfl, hH, hz, q⟩ := h
  cases rx
  obtain ⟨u, rfl, ru⟩ := rv.one
  obtain ⟨z, its, n, r, hl, e⟩ := I.lstM hH
  refine call_meets F.slot_list_append ⟨_, e, rfl⟩ F.entry_list_append (F.args_list_append_2 _ _) (PySem.list_append l its.toArray n u (by rw [List.size_toArray]; omega)) ⟨e, ?_⟩
  refine ⟨.non, _, I.lset (its' := its ++ [u]) hH e (by simp) (r.append (.cons ru .nil)) ?_, rfl, q⟩
  rw [List.length_append, List.length_singleton]
  omega

def rExtend : V → List V → Hp → VK → Prop := fun x vs H Q => ∃ l b xs zs, x = .ref l ∧ vs = [.ref b] ∧ H l = some (.lst xs) ∧ H b = some (.lst zs) ∧ xs.length + zs.length ≤ sizeLine ∧ Q .non (upd H l (.lst (xs ++ zs)))
def rPop : V → List V → Hp → VK → Prop := fun x vs H Q => ∃ l xs y, x = .ref l ∧ vs = [] ∧ H l = some (.lst xs) ∧ xs[xs.length - 1]? = some y ∧ Q y (upd H l (.lst xs.dropLast))
def rPopAt : V → List V → Hp → VK → Prop := fun x vs H Q => ∃ l xs i k y, x = .ref l ∧ vs = [.int i] ∧ H l = some (.lst xs) ∧ -(2 ^ 63) ≤ i ∧ i < 2 ^ 63 ∧ seqIndex? i xs.length = some k ∧ xs[k]? = some y ∧ Q y (upd H l (.lst (xs.eraseIdx k)))
def rReverse : V → List V → Hp → VK → Prop := fun x vs H Q => ∃ l xs, x = .ref l ∧ vs = [] ∧ H l = some (.lst xs) ∧ Q .non (upd H l (.lst xs.reverse))
def rClear : V → List V → Hp → VK → Prop := fun x vs H Q => ∃ l xs, x = .ref l ∧ vs = [] ∧ H l = some (.lst xs) ∧ Q .non (upd H l (.lst []))
def rCat : R2 := fun x y H Q => ∃ l b xs zs, x = .ref l ∧ y = .ref b ∧ H l = some (.lst xs) ∧ H b = some (.lst zs) ∧ xs.length + zs.length ≤ sizeLine ∧ ∀ p, H p = none → Q (.ref p) (upd H p (.lst (xs ++ zs)))
theorem op_cat : OpR X (binaryOp .Add) rCat := by
  intro pins s σ H x y v u Q I rx ry h
  obtain ⟨l, b, xs, zs, rfl, rfl, hH, hB, hz, q⟩ := h
  cases rx
  cases ry
  obtain ⟨z, its, n, r, hl, e⟩ := I.lstM hH
  obtain ⟨z2, its2, n2, r2, hl2, e2⟩ := I.lstM hB
  refine PySem.P.add_list e e2 ?_ (by rw [List.size_toArray, List.size_toArray]; omega)
  have ea : its.toArray ++ its2.toArray = (its ++ its2).toArray := by simp
  rw [ea]
  exact ⟨.ref _, _, I.lnew (t' := s.toks) (r.append r2) (by rw [List.length_append]; omega), rfl, q _ I.fresh⟩
def rRep : R2 := fun x y H Q => ∃ l k xs, x = .ref l ∧ y = .int k ∧ H l = some (.lst xs) ∧ -(2 ^ 63) ≤ k ∧ k < 2 ^ 63 ∧ xs.length * k.toNat ≤ sizeLine ∧
  ∀ p, H p = none → Q (.ref p) (upd H p (.lst (List.replicate k.toNat xs).flatten))
end

section
variable {prog : Program} {w : World} {A : Around} {E : Value → Shared → Prop} {s : Shared}
set_option maxRecDepth 100000 in
end

section
variable {X : Cx}
end
end L2

namespace Att
open PySem PySem.W PySem.Calls PyProof.Rows

theorem ints_of_wellAll {P : Params} {h : Heap} : ∀ (ns : List Int) (vs : List Value), WellAll P h vs (ns.map WData.int) → IntsAre vs ns := by
  intro ns
  induction ns with
  | nil =>
    intro vs w
    rw [List.map_nil] at w
    cases w
    exact .nil
  | cons n ns ih =>
    intro vs w
    rw [List.map_cons] at w
    cases w with
    | cons a b =>
      cases a
      exact .cons _ _ (ih _ b)

theorem script_of {l : OpenLaw} {n : Nat} (hn : l.most = some n) {P : Params} {h : Heap} {args : List WData} {vals : List Value}
    (hpre : l.row.toRowW.claim.pre args = true) (hwl : WellAll P h vals args) :
    ∃ a vs ns, vals = [Value.ref a] ∧ args = [WData.list (ns.map WData.int)] ∧ h.get? a = some { cls := .type "list", data := .seq vs.toArray } ∧ IntsAre vs ns ∧ ns.length ≤ n := by
  have hsh : WShape.hasAll [] args [.list .int] = true := (pre_splitW hpre).1
  have hc : l.pre.holds [] { args := args } = true := (pre_splitW hpre).2
  obtain ⟨d, r, rfl, h1, h2⟩ := hasAllW_cons hsh
  obtain rfl := hasAllW_nil h2
  obtain ⟨xs, rfl, h3⟩ := hasW_list h1
  obtain ⟨ns, rfl⟩ := items_int h3
  have hlen : ns.length ≤ n := by
    unfold OpenLaw.pre at hc
    have h4 : (WTm.not (.lt (.lit (.int (n : Int))) (.len (.arg 0)))).holds [] { args := [.list (ns.map .int)] } = true := by
      have h4 := (holds_andW hc).1
      rw [hn] at h4
      exact h4
    have h5 := condW_of h4 (w_not (w_lt w_lit (w_len_list (w_arg rfl))))
    rw [List.length_map] at h5
    refine Nat.le_of_not_lt fun q => ?_
    have q' : (n : Int) < ((ns.length : Nat) : Int) := by omega
    first
      | (rw [decide_eq_true q'] at h5; exact absurd h5 (by decide))
      | (simp at h5; omega)
  cases hwl with
  | cons w1 w2 =>
    cases w2
    cases w1 with
    | list ho hall => exact ⟨_, _, ns, rfl, rfl, ho, ints_of_wellAll ns _ hall, hlen⟩

theorem post_true (l : OpenLaw) (args : List WData) : l.row.toRowW.claim.post args (.bool true) args = true :=
  postW_of (r := l.row.toRowW) (X := (true == true))
    (show WShape.has [] (.bool true) .bool = true by first | rfl | decide | simp [WShape.has, WShape.arms, WShape.armsAll])
    (show (WTm.eq .res (.lit (.bool true))).value [] { args := args, res := some (.bool true), after := args } = some (.bool (true == true)) from w_eq_bool (w_res rfl) w_lit) rfl

section
variable {prog : Program} {w : World} {A : Around} {E : Value → Shared → Prop} {s : Shared} {K : Frag}

def noObjs (h : Heap) : Heap := { h with objs := #[] }
def ledger (h : Heap) (L d : Addr) : List (Addr × Obj) := (List.range h.objs.size).filterMap fun a => if a = L ∨ a = d then none else (h.get? a).map fun o => (a, o)
end
end Att

namespace L2
open PySem PySem.Spec PyProof.Rows

theorem vals_ints : ∀ {vs : List Value} {ns : List Int}, IntsAre vs ns → Vals (ns.map V.int) vs
  | _, _, .nil => .nil
  | _, _, .cons n t h => .cons ⟨t, rfl⟩ (vals_ints h)

def Only (H : Hp) : Prop := ∀ b, H b = none ∨ ∃ o xs, H b = some (.frz o (.lst xs))

theorem law_call {P : Program} {w : World} {K : PySem.W.Frag} {mg mb : Str → Option Value} {CX : CXT} {k : Nat} {fa a : Addr} {fd : FuncData} {x : Str} {sp : Sp} {s₁ : Shared} {vs : List Value} {ns : List Int}
    (KX : K.In s₁.heap) (hns : s₁.heap.Ns mainGlobals mg) (hb : s₁.heap.Ns builtinsNs mb) (hbb : ∀ x : Str, x ≠ "__name__" → mb x = bootBuiltins x) (hlim : s₁.heap.NoLimit) (hsee : s₁.heap.NoSeer) (hg : s₁.gens = #[])
    (ha : s₁.heap.get? a = some { cls := .type "list", data := .seq vs.toArray }) (hi : IntsAre vs ns) (hl : ns.length ≤ sizeLine) (hr : Room k callerA)
    (F : ∀ base : Heap, K.In base → base.Ns mainGlobals mg → FnOk P w K mg base CX k fa fd [x] sp) (hbind : ∀ (s : Shared) (u : Value), BindsTo s fd ⟨[u], []⟩ [(x, u)])
    (hsp : ∀ H : Hp, Only H → SqL K H a (ns.map V.int) → sp [.ref a] H (fun v _ => v = .bl true) fun _ _ _ => False)
    (hCX : ∀ H e s', CX [] H s₁ (fun _ _ _ => False) e s' → False) :
    codeAny (model P w) callerA (.call (.ref fa) ⟨[.ref a], []⟩) (fun r s' => r = .ok (.ret (.bool true)) ∧ OldK s₁.heap s'.heap ∧ s'.os = s₁.os ∧ AllBare s'.gens) s₁ := by
  have rv := vals_ints hi
  have lenV := hi.length
  -- from an abstract heap in which nothing but the script may be tracked
  have core : ∀ H : Hp, Only H → SqL K H a (ns.map V.int) → HOk P w H s₁.heap → (∀ b, H b ≠ none → b = a) → (H a ≠ none → K.lookup a = none) →
      codeAny (model P w) callerA (.call (.ref fa) ⟨[.ref a], []⟩) (fun r s' => r = .ok (.ret (.bool true)) ∧ OldK s₁.heap s'.heap ∧ s'.os = s₁.os ∧ AllBare s'.gens) s₁ := by
    intro H hO hS hok hA hK
    have base_of : ∀ {b : Addr} {o : Obj}, s₁.heap.get? b = some o → H b = none → (hidT s₁.heap H).get? b = some o := fun e n => hidT_get e n
    have noA : ∀ {b : Addr} {o : Obj} {es : Array DictEntry} {ep : Nat}, s₁.heap.get? b = some o → o.data = .dict es ep → H b = none := fun {b o es ep} e d => by
      cases q : H b with
      | none => rfl
      | some u =>
        have e' : b = a := hA b (by rw [q]; simp)
        subst e'
        rw [ha] at e; cases e
        have d' : Data.seq vs.toArray _ = Data.dict es ep := d
        cases d'
    have nsK : ∀ {b : Addr} {m : Str → Option Value}, s₁.heap.Ns b m → (hidT s₁.heap H).Ns b m := fun {b m} ⟨o, es, ep, e, d, r⟩ => ⟨o, es, ep, base_of e (noA e d), d, r⟩
    have hKb : K.In (hidT s₁.heap H) := fun b o e => base_of (KX b o e) (by
      cases q : H b with
      | none => rfl
      | some u =>
        have e' : b = a := hA b (by rw [q]; simp)
        subst e'
        rw [hK (by rw [q]; simp)] at e; cases e)
    have hM : Mod K mg (hidT s₁.heap H) := ⟨hKb, nsK hns, ⟨mb, nsK hb, hbb⟩, let ⟨mc, h1, h2⟩ := hlim; ⟨mc, nsK h1, h2⟩,
      ⟨let ⟨mc, h1, h2⟩ := hsee.statics; ⟨mc, nsK h1, h2⟩, let ⟨mc, h1, h2⟩ := hsee.mods; ⟨mc, nsK h1, h2⟩, let ⟨mc, h1, h2⟩ := hsee.imp; ⟨mc, nsK h1, h2⟩,
        let ⟨mg', bm, ob, h1, h2, h3, h4, h5⟩ := hsee.main; ⟨mg', bm, ob, nsK h1, h2, base_of h3 (by
          cases q : H bm with
          | none => rfl
          | some u =>
            have e' : bm = a := hA bm (by rw [q]; simp)
            subst e'
            rw [ha] at h3
            cases h3
            have h4' : Value.type "list" = Value.type "module" := h4
            injection h4' with e9
            exact absurd e9 (by decide)), h4, h5⟩⟩⟩
    have e0 : Env0 P w K mg (hidT s₁.heap H) callerA [] s₁ H := ⟨rfl, hM, fun b o e => of_hidT e, Nat.le_of_eq (hidT_size _ _), trivial, fun b hb => absurd (show b ∈ ([] : List Addr) from hb) (by simp), hok, .of_eq hg⟩
    refine codeAny_mono ((F _ hKb (nsK hns)).run callerA [] s₁ H ⟨[.ref a], []⟩ [.ref a] [.ref a] _ _ hr e0 (hbind s₁ (.ref a)) (.cons rfl .nil) (hsp H hO hS)) fun r s' h => ?_
    cases r with
    | error e => exact (hCX H e s' h).elim
    | ok fl =>
      cases fl with
      | next => exact False.elim h
      | brk => exact False.elim h
      | cont => exact False.elim h
      | ret u =>
        obtain ⟨v, H', os, bare, un, hok', r', q⟩ := h
        have q' : v = .bl true := q
        subst q'
        obtain rfl : u = Value.bool true := r'
        refine ⟨rfl, OldK.of_keep fun b o e => ?_, os, bare⟩
        cases q : H b with
        | none => exact un.keep b o e q (by intro z; exact absurd (show b ∈ ([] : List Addr) from z) (by simp)) (by simp)
        | some u =>
          rcases hO b with z | ⟨ob, xs, z⟩
          · rw [q] at z; cases z
          · have z2 := un.frzs b ob _ z
            obtain ⟨e1, _⟩ := hok b _ z
            obtain ⟨e2, _⟩ := hok' b _ z2
            rw [e] at e1; cases e1
            exact e2
  cases hk : K.lookup a with
  | some o =>
    -- the script is one of the module's own objects
    have e := KX a o hk
    rw [ha] at e
    cases e
    refine core (fun _ => none) (fun _ => .inl rfl) (.inr ⟨_, vs.toArray, _, hk, rfl, rfl, rfl, by rw [List.size_toArray, lenV]; exact hl, by simpa using rv⟩) (fun b u z => by have z' : (none : Option HO) = some u := z; cases z') (fun b z => absurd rfl z) fun z => absurd rfl z
  | none =>
    refine core (fun b => if b = a then some (.frz { cls := .type "list", data := .seq vs.toArray } (.lst (ns.map V.int))) else none) (fun b => ?_) (.inl (.inr ⟨{ cls := .type "list", data := .seq vs.toArray }, if_pos rfl⟩)) (fun b u z => ?_) (fun b z => ?_) fun _ => hk
    · by_cases hb : b = a
      · exact .inr ⟨_, _, if_pos hb⟩
      · exact .inl (if_neg hb)
    · by_cases hb : b = a
      · have z' := (if_pos hb).symm.trans z
        cases z'
        subst hb
        exact ⟨ha, by rw [List.length_map]; exact hl, vs, _, rv, ha⟩
      · have z' := (if_neg hb).symm.trans z
        cases z'
    · by_cases hb : b = a
      · exact hb
      · exact absurd (if_neg hb) z
end L2

namespace L2
open PySem PySem.Spec PyProof.Rows

abbrev KOf {K : PySem.W.Frag} {h : Heap} (_ : K.In h) : PySem.W.Frag := K


end L2

/- THE LAST THEOREM (shape; LID, My.* are yours):
   My.Adr: a structure of the addresses that your layer names (classes, functions); My.Txt K t: a structure (Prop) of the equations over K;
   My.txt_mk : {K} {implicit addresses ..} (e1 : nsIn K mainGlobals "law" = some (some (.ref f))) (e2 : K.lookup f = some ⟨oc, od, .func (fnOf "law" "law" params body scope dV kV doc pm an cdv ct), sl⟩) (e3 : codeIn K cdv "law" = true) .. : ∃ t, My.Txt K t

set_option maxRecDepth 100000 in
set_option maxHeartbeats 0 in
theorem PySem.Challenge.cw_LID_holds : PySem.Challenge.rw_LID.Holds := by
  w_on; o_law; k_head; (case hw => w_witness2)
  k_fill
  refine L2.walk_of (l := PySem.Challenge.rw_LID) (n := 63) (k := 40) (x := "script") (CX := fun w => ..) (sp := fun _ => My.sp_law) rfl (by decide) rfl ⟨rfl, by decide, by decide⟩ (fun w h Y => PySem.W.kIn_of Y) ?F ?S ?C
  case F =>
    intro w mg fa h KX G hmg
    have T : ∃ t, My.Txt (L2.KOf KX) t := by
      dsimp only [L2.KOf]                          -- K must stand as «<heap const> w.params» for k_is
      refine' My.txt_mk ?e1 ?e2 ?e3 ..
      (case e1 => PySem.W.k_is)                    -- in the order: a name -> its address -> its object -> its parts
      (case e2 => PySem.W.k_is)
      ..
    obtain ⟨t, T⟩ := T
    have e0 := hmg.symm.trans (PySem.W.mg_of KX G T.law)
    cases e0                                       -- fa is the law's own address
    exact ⟨_, fun s u => .of_eq rfl, fun base kb nb => My.law_fn T kb nb⟩     -- if «.of_eq rfl» comes too early: refine' ⟨_, ?b, fun base kb nb => My.law_fn T kb nb⟩; exact fun s u => .of_eq rfl
  case S => exact fun w H a ns hl hO hS => ..
  case C => exact ..
(the tactic k_is has no namespace: write k_is) -/

namespace L2
open PySem PySem.Spec PyProof.Rows

def inClass (s : Stmt) (j : Nat) : Stmt := match s with
  | .ClassDef _ _ _ body _ _ _ _ _ _ _ => body.getD j (.Pass ⟨0, 0, 0, 0⟩)
  | _ => .Pass ⟨0, 0, 0, 0⟩
def defArgs (s : Stmt) : Arguments := match s with
  | .FunctionDef _ a _ _ _ _ _ _ _ _ => a
  | _ => { posonlyargs := [], args := [], vararg := none, kwonlyargs := [], kw_defaults := [], kwarg := none, defaults := [] }
def defBody (s : Stmt) : List Stmt := match s with
  | .FunctionDef _ _ b _ _ _ _ _ _ _ => b
  | _ => []
def defScope (s : Stmt) : Scope := match s with
  | .FunctionDef _ _ _ _ _ _ sc _ _ _ => sc
  | _ => { kind := .function, names := [], isGenerator := false, isCoroutine := false }

abbrev CX0 : CXT := fun _ _ _ _ _ _ => False
abbrev E0 : XK := fun _ _ _ => False
structure Fun (K : PySem.W.Frag) (x qual : Str) (st : Stmt) (f : Addr) (fd : FuncData) : Prop where
  ex : ∃ (oc : Value) (od : Option Addr) (kV doc pm : Value) (an : Option Addr) (cdv ct : Value) (osl : Array (Option Value)),
    fd = PySem.W.fnOf x qual (defArgs st) (defBody st) (defScope st) .none kV doc pm an cdv ct ∧ K.lookup f = some ⟨oc, od, .func fd, osl⟩ ∧ PySem.W.codeIn K cdv qual = true
  kp : PySem.W.keepIn K (.ref f) = true
section
variable {P : Program} {w : World} {K : PySem.W.Frag} {mg : Str → Option Value} {base : Heap}
theorem Fun.ok {x qual : Str} {st : Stmt} {f : Addr} {fd : FuncData} {N ps : List Str} {k : Nat} {sp : Sp} (F : Fun K x qual st f fd) (S : FnScope N ps (defScope st)) (len : ∀ vs H Q E, sp vs H Q E → vs.length = ps.length)
    (hbody : ∀ (cdv : Value) (A : Around) (outer : List Env) (s : Shared) (H : Hp) (vs : List V) (Q : VK) (E : XK), Room k (A.deeper (envOfC qual (defScope st) s.heap.objs.size f cdv)) → sp vs H Q E →
      ∃ t, PSs (cxOf CX0 P w K mg base N qual (defScope st) f cdv A outer s H E).nox (defBody st) t ∧ t { nx := fun _ H' => Q .non H', rt := Q } (start N vs) H) : FnOk P w K mg base CX0 (k + 1) f fd ps sp := by
  obtain ⟨oc, od, kV, doc, pm, an, cdv, ct, osl, rfl, lk, hcd⟩ := F.ex
  refine fn_of lk hcd S len fun A outer s H vs Q E hr hsp => ?_
  obtain ⟨t, h, q⟩ := hbody cdv A outer s H vs Q E hr hsp
  exact ⟨t, h.nox, q⟩
theorem Fun.binds {x qual : Str} {st : Stmt} {f : Addr} {fd : FuncData} {ps : List Str} (F : Fun K x qual st f fd)
    (h : ∀ (kV doc pm : Value) (an : Option Addr) (cdv ct : Value) (us : List Value), us.length = ps.length → bindArgs (PySem.W.fnOf x qual (defArgs st) (defBody st) (defScope st) .none kV doc pm an cdv ct) ⟨us, []⟩ = pure (ps.zip us)) : Binds K fd ps [] := by
  obtain ⟨oc, od, kV, doc, pm, an, cdv, ct, osl, rfl, lk, hcd⟩ := F.ex
  exact .all (h kV doc pm an cdv ct)
theorem fun_mk {x qual : Str} {st : Stmt} {f : Addr} {oc : Value} {od an : Option Addr} {osl : Array (Option Value)} {kV doc pm cdv ct : Value} (l : K.lookup f = some ⟨oc, od, .func (PySem.W.fnOf x qual (defArgs st) (defBody st) (defScope st) .none kV doc pm an cdv ct), osl⟩)
    (c : PySem.W.codeIn K cdv qual = true) (k : PySem.W.keepIn K (.ref f) = true) : Fun K x qual st f (PySem.W.fnOf x qual (defArgs st) (defBody st) (defScope st) .none kV doc pm an cdv ct) := ⟨⟨oc, od, kV, doc, pm, an, cdv, ct, osl, rfl, l, c⟩, k⟩
end
theorem hu_of {A : Around} {k : Nat} (hr : Room k A) : A.units + 1 < cLine := Nat.lt_of_le_of_lt (Nat.add_le_add_left (by decide : 1 ≤ 64) _) hr.units
section
variable {X : Cx}
theorem pv (i : Nat) {x : Str} {pos : Pos} (hN : X.N[i]? = some x := by rfl) (hv : Vis X.env.scope x := by first | exact Or.inl rfl | exact Or.inr (Or.inl rfl) | exact Or.inr (Or.inr rfl)) (hd : (x == ("__debug__" : Str)) = false := by decide)
    (hcd : (x == ("__classdict__" : Str)) = false := by decide) : PE X (.Name x pos) (tVar i) := pe_var hN hv hd hcd
end

theorem iteF {A B : Prop} (h : B) : if false = true then A else B := by
  rw [if_neg Bool.false_ne_true]
  exact h
theorem iteT {A B : Prop} (h : A) : if true = true then A else B := by
  rw [if_pos rfl]
  exact h
theorem ite2 {c A B : Prop} [Decidable c] (h1 : c → A) (h2 : ¬ c → B) : if c then A else B := by
  by_cases h : c
  · rw [if_pos h]
    exact h1 h
  · rw [if_neg h]
    exact h2 h
def Same (H H' : Hp) : Prop := ∀ b o, H b = some o → H' b = some o
theorem Same.refl (H : Hp) : Same H H := fun _ _ h => h
theorem Same.trans {H H1 H2 : Hp} (a : Same H H1) (b : Same H1 H2) : Same H H2 := fun c o h => b c o (a c o h)
theorem Same.free {H H' : Hp} (e : Same H H') {l : Addr} (h : H' l = Option.none) : H l = Option.none := by
  cases q : H l with
  | none => rfl
  | some o =>
    rw [e l o q] at h
    cases h
theorem Same.seq {K : PySem.W.Frag} {H H' : Hp} {a : Addr} {xs : List V} (e : Same H H') (h : SqL K H a xs) : SqL K H' a xs := by
  rcases h with (h | ⟨o, h⟩) | h
  · exact .inl (.inl (e _ _ h))
  · exact .inl (.inr ⟨o, e _ _ h⟩)
  · exact .inr h

end L2

namespace Ty
def gz (t b : Int) : Int := (Int.gcd t b : Nat)
def sg (t b : Int) : Int := if b < 0 then -gz t b else gz t b
def low (t b : Int) : Int × Int := (t.fdiv (sg t b), b.fdiv (sg t b))

theorem gcd_step (a b : Int) : Int.gcd b (a.fmod b) = Int.gcd a b := by
  rw [Int.fmod_def, Int.gcd_sub_mul_left_right, Int.gcd_comm]
theorem fmod_less {a b : Int} (h : b ≠ 0) : (a.fmod b).natAbs < b.natAbs := by
  rcases Int.lt_trichotomy b 0 with q | q | q
  · have h1 : (-a).fmod (-b) = -(a.fmod b) := by
      rw [Int.fmod_def, Int.fmod_def, Int.neg_fdiv_neg, Int.neg_mul]
      omega
    have h2 := Int.fmod_nonneg_of_pos (-a) (show 0 < -b by omega)
    have h3 := Int.fmod_lt_of_pos (-a) (show 0 < -b by omega)
    omega
  · exact absurd q h
  · have h2 := Int.fmod_nonneg_of_pos a q
    have h3 := Int.fmod_lt_of_pos a q
    omega
theorem gz_pos {t b : Int} (h : b ≠ 0) : 0 < gz t b := by
  have := Int.gcd_pos_iff.mpr (Or.inr h : t ≠ 0 ∨ b ≠ 0)
  show (0 : Int) < ((Int.gcd t b : Nat) : Int)
  omega
theorem gz_le {t b : Int} (h : b ≠ 0) : (gz t b).natAbs ≤ b.natAbs := by
  have h1 : Int.gcd t b ∣ b.natAbs := Int.natAbs_dvd_natAbs.mpr (Int.gcd_dvd_right t b)
  have h2 := Nat.le_of_dvd (by omega) h1
  show ((Int.gcd t b : Nat) : Int).natAbs ≤ _
  omega
theorem sg_ne {t b : Int} (h : b ≠ 0) : sg t b ≠ 0 := by
  have := gz_pos (t := t) h
  unfold sg
  split <;> omega
theorem sg_abs {t b : Int} : (sg t b).natAbs = (gz t b).natAbs := by
  unfold sg
  split
  · exact Int.natAbs_neg _
  · rfl
theorem sg_dvd_left (t b : Int) : sg t b ∣ t := by
  unfold sg gz
  split
  · exact Int.neg_dvd.mpr (Int.gcd_dvd_left t b)
  · exact Int.gcd_dvd_left t b
theorem sg_dvd_right (t b : Int) : sg t b ∣ b := by
  unfold sg gz
  split
  · exact Int.neg_dvd.mpr (Int.gcd_dvd_right t b)
  · exact Int.gcd_dvd_right t b
theorem fdiv_of_dvd {a g : Int} (h : g ≠ 0) (d : g ∣ a) : a = g * a.fdiv g := by
  obtain ⟨c, hc⟩ := d
  have := Int.fdiv_eq_of_eq_mul_right h hc
  rw [this]
  exact hc
theorem low_top {t b : Int} (h : b ≠ 0) : t = sg t b * (low t b).1 := fdiv_of_dvd (sg_ne h) (sg_dvd_left t b)
theorem low_bot {t b : Int} (h : b ≠ 0) : b = sg t b * (low t b).2 := fdiv_of_dvd (sg_ne h) (sg_dvd_right t b)
theorem low_pos {t b : Int} (h : b ≠ 0) : 0 < (low t b).2 := by
  have e := low_bot (t := t) h
  have g := gz_pos (t := t) h
  rcases Int.lt_trichotomy (low t b).2 0 with q | q | q
  · exfalso
    by_cases c : b < 0
    · have s : sg t b = -gz t b := by unfold sg; rw [if_pos c]
      rw [s] at e
      have := Int.mul_pos_of_neg_of_neg (show -gz t b < 0 by omega) q
      omega
    · have s : sg t b = gz t b := by unfold sg; rw [if_neg c]
      rw [s] at e
      have := Int.mul_neg_of_pos_of_neg g q
      omega
  · exfalso
    rw [q, Int.mul_zero] at e
    exact h e
  · exact q
theorem low_cross {t b : Int} (h : b ≠ 0) : (low t b).1 * b = t * (low t b).2 := by
  have e1 := low_top (t := t) h
  have e2 := low_bot (t := t) h
  calc (low t b).1 * b = (low t b).1 * (sg t b * (low t b).2) := by rw [← e2]
    _ = sg t b * (low t b).1 * (low t b).2 := by rw [← Int.mul_assoc, Int.mul_comm (low t b).1]
    _ = t * (low t b).2 := by rw [← e1]
theorem low_gcd {t b : Int} (h : b ≠ 0) : Int.gcd (low t b).1 (low t b).2 = 1 := by
  have e1 := low_top (t := t) h
  have e2 := low_bot (t := t) h
  have k : Int.gcd t b = (sg t b).natAbs * Int.gcd (low t b).1 (low t b).2 := by
    have q := Int.gcd_mul_left (sg t b) (low t b).1 (low t b).2
    rw [← e1, ← e2] at q
    exact q
  have g : (sg t b).natAbs = Int.gcd t b := by
    rw [sg_abs]
    rfl
  have p := Int.gcd_pos_iff.mpr (Or.inr h : t ≠ 0 ∨ b ≠ 0)
  rw [g] at k
  have k' : Int.gcd t b * 1 = Int.gcd t b * Int.gcd (low t b).1 (low t b).2 := by rw [Nat.mul_one]; exact k
  exact (Nat.eq_of_mul_eq_mul_left p k').symm
theorem natAbs_factor {g a : Int} (h : g ≠ 0) : a.natAbs ≤ (g * a).natAbs := by
  rw [Int.natAbs_mul]
  have : 1 ≤ g.natAbs := by omega
  have := Nat.mul_le_mul_right a.natAbs this
  omega
theorem low_top_le {t b : Int} (h : b ≠ 0) : (low t b).1.natAbs ≤ t.natAbs := by
  have e := low_top (t := t) h
  have := natAbs_factor (g := sg t b) (a := (low t b).1) (sg_ne h)
  rw [← e] at this
  exact this
theorem low_bot_le {t b : Int} (h : b ≠ 0) : (low t b).2.natAbs ≤ b.natAbs := by
  have e := low_bot (t := t) h
  have := natAbs_factor (g := sg t b) (a := (low t b).2) (sg_ne h)
  rw [← e] at this
  exact this
theorem low_of {t b g x y : Int} (hg : g ≠ 0) (ht : t = g * x) (hb : b = g * y) (hy : 0 < y) (h1 : Int.gcd x y = 1) : low t b = (x, y) := by
  have hbn : b ≠ 0 := by
    rw [hb]
    exact Int.mul_ne_zero hg (by omega)
  have gg : Int.gcd t b = g.natAbs := by
    rw [ht, hb, Int.gcd_mul_left, h1, Nat.mul_one]
  have s : sg t b = g := by
    unfold sg gz
    rw [gg]
    by_cases c : g < 0
    · have : b < 0 := by rw [hb]; exact Int.mul_neg_of_neg_of_pos c hy
      rw [if_pos this]
      omega
    · have : ¬ b < 0 := by
        have := Int.mul_nonneg (show 0 ≤ g by omega) (show 0 ≤ y by omega)
        omega
      rw [if_neg this]
      omega
  unfold low
  rw [s]
  rw [Int.fdiv_eq_of_eq_mul_right hg ht, Int.fdiv_eq_of_eq_mul_right hg hb]
theorem low_self {x y : Int} (hy : 0 < y) (h : Int.gcd x y = 1) : low x y = (x, y) := low_of (g := 1) (by decide) (by omega) (by omega) hy h
theorem low_scale {t b k : Int} (hk : k ≠ 0) (h : b ≠ 0) : low (k * t) (k * b) = low t b := by
  refine low_of (g := k * sg t b) (Int.mul_ne_zero hk (sg_ne h)) ?_ ?_ (low_pos h) (low_gcd h)
  · rw [Int.mul_assoc]
    exact congrArg (k * ·) (low_top h)
  · rw [Int.mul_assoc]
    exact congrArg (k * ·) (low_bot h)
theorem low_cross_iff {t b u c : Int} (hb : b ≠ 0) (hc : c ≠ 0) (h : t * c = u * b) : low t b = low u c := by
  rw [← low_scale (t := t) (b := b) hc hb, ← low_scale (t := u) (b := c) hb hc]
  rw [Int.mul_comm c t, h, Int.mul_comm u b, Int.mul_comm c b]
end Ty

set_option maxHeartbeats 4000000
namespace Ty
open PySem PySem.Spec PyProof.Rows L2
open Builtin.Int (intBits)
section
variable {X : Cx}
def CMulB (i j : Int) : Prop := intBits i ≤ 33554432 ∧ intBits j ≤ 33554432
theorem op_mulB : OpR X (binaryOp .Mult) (rI CMulB fun i j => .int (i * j)) :=
  opI fun _ _ _ _ _ _ _ hc q => mul_int q (IntMulOk.of_le hc.1 hc.2 (by decide))
def CDivB (i j : Int) : Prop := j ≠ 0 ∧ intBits j ≤ 9000
theorem noPy {i j : Int} (h : intBits j ≤ 9000) : Builtin.divisionGoesByPylong i j = false := by
  refine PyProof.noPylong_of_log2 ?_
  have h1 := intBits_le_iff.mp h
  by_cases h0 : j.natAbs = 0
  · rw [h0]
    decide +kernel
  · exact (Nat.log2_lt h0).mpr h1
theorem op_fdivB : OpR X (binaryOp .FloorDiv) (rI CDivB fun i j => .int (i.fdiv j)) :=
  opI fun _ _ _ _ _ _ _ hc q => floordiv_int hc.1 q (.inl (noPy hc.2))
end
inductive Da where
  | v (x : V)
  | t (ds : List Da)
  | l (ds : List Da)
mutual
def Is (K : PySem.W.Frag) (H : Hp) : Da → V → Prop
  | .v x, u => u = x ∧ flatV x = true
  | .t ds, u => ∃ p xs, u = .ref p ∧ SqT K H p xs ∧ Iss K H ds xs
  | .l ds, u => ∃ p xs, u = .ref p ∧ SqL K H p xs ∧ Iss K H ds xs
def Iss (K : PySem.W.Frag) (H : Hp) : List Da → List V → Prop
  | [], [] => True
  | d :: ds, x :: xs => Is K H d x ∧ Iss K H ds xs
  | _, _ => False
end
mutual
def eqDa : Da → Da → Bool
  | .v x, .v y => eqV x y
  | .t ds, .t es => eqDas ds es
  | .l ds, .l es => eqDas ds es
  | _, _ => false
def eqDas : List Da → List Da → Bool
  | [], [] => true
  | d :: ds, e :: es => eqDa d e && eqDas ds es
  | _, _ => false
end
mutual
def alike : Da → Da → Bool
  | .v _, .v _ => true
  | .t ds, .t es => alikes ds es
  | .l ds, .l es => alikes ds es
  | _, _ => false
def alikes : List Da → List Da → Bool
  | d :: ds, e :: es => alike d e && alikes ds es
  | _, _ => true
end
mutual
def dep : Da → Nat
  | .v _ => 0
  | .t ds => deps ds + 1
  | .l ds => deps ds + 1
def deps : List Da → Nat
  | [] => 0
  | d :: ds => max (dep d) (deps ds)
end
theorem Iss.length {K : PySem.W.Frag} {H : Hp} : ∀ {ds : List Da} {xs : List V}, Iss K H ds xs → ds.length = xs.length
  | [], [], _ => rfl
  | _ :: _, _ :: _, h => congrArg (· + 1) (Iss.length (by unfold Iss at h; exact h.2))
  | [], _ :: _, h => by unfold Iss at h; exact h.elim
  | _ :: _, [], h => by unfold Iss at h; exact h.elim
def bitDa (ds es : List Da) (j : Nat) : Bool := match ds[j]?, es[j]? with
  | some d, some e => eqDa d e
  | _, _ => true
theorem eqDas_bits : ∀ ds es : List Da, eqDas ds es = ((List.range (min ds.length es.length)).all (bitDa ds es) && ds.length == es.length)
  | [], [] => rfl
  | [], _ :: _ => by simp [eqDas]
  | _ :: _, [] => by simp [eqDas]
  | d :: ds, e :: es => by
    have ih := eqDas_bits ds es
    have r : min (d :: ds).length (e :: es).length = min ds.length es.length + 1 := by simp [Nat.succ_min_succ]
    rw [r, List.range_succ_eq_map, List.all_cons, List.all_map]
    have b0 : bitDa (d :: ds) (e :: es) 0 = eqDa d e := rfl
    have b1 : (bitDa (d :: ds) (e :: es) ∘ Nat.succ) = bitDa ds es := by
      funext j
      rfl
    have l1 : ((d :: ds).length == (e :: es).length) = (ds.length == es.length) := by simp
    rw [b0, b1, l1, Bool.and_assoc, ← ih]
    rfl
section
variable {X : Cx} {pins : List (Addr × Obj)} {σ : L2.St} {H : Hp} {s : Shared}
theorem eqV_refl {x : V} (h : flatV x = true) : eqV x x = true := by
  cases x <;> first | rfl | (simp [eqV]; done) | (cases h; done)
mutual
theorem is_same (I : Inv X pins σ H s) : ∀ (d e : Da) (x : V), Is X.K H d x → Is X.K H e x → alike d e = true → eqDa d e = true
  | .v a, .v b, x, h1, h2, _ => by
    unfold Is at h1 h2
    obtain ⟨rfl, f⟩ := h1
    obtain ⟨rfl, _⟩ := h2
    unfold eqDa
    exact eqV_refl f
  | .t ds, .t es, x, h1, h2, a => by
    unfold Is at h1 h2
    obtain ⟨p, xs, rfl, q1, k1⟩ := h1
    obtain ⟨p', ys, e', q2, k2⟩ := h2
    cases e'
    cases I.tuple_inj q1 q2
    unfold eqDa
    unfold alike at a
    exact iss_same I ds es xs k1 k2 a
  | .l ds, .l es, x, h1, h2, a => by
    unfold Is at h1 h2
    obtain ⟨p, xs, rfl, q1, k1⟩ := h1
    obtain ⟨p', ys, e', q2, k2⟩ := h2
    cases e'
    cases I.list_inj q1 q2
    unfold eqDa
    unfold alike at a
    exact iss_same I ds es xs k1 k2 a
  | .v _, .t _, _, _, _, a => by unfold alike at a; cases a
  | .v _, .l _, _, _, _, a => by unfold alike at a; cases a
  | .t _, .v _, _, _, _, a => by unfold alike at a; cases a
  | .t _, .l _, _, _, _, a => by unfold alike at a; cases a
  | .l _, .v _, _, _, _, a => by unfold alike at a; cases a
  | .l _, .t _, _, _, _, a => by unfold alike at a; cases a
theorem iss_same (I : Inv X pins σ H s) : ∀ (ds es : List Da) (xs : List V), Iss X.K H ds xs → Iss X.K H es xs → alikes ds es = true → eqDas ds es = true
  | [], [], _, _, _, _ => by unfold eqDas; rfl
  | d :: ds, e :: es, x :: xs, h1, h2, a => by
    unfold Iss at h1 h2
    unfold alikes at a
    rw [Bool.and_eq_true] at a
    unfold eqDas
    rw [is_same I d e x h1.1 h2.1 a.1, iss_same I ds es xs h1.2 h2.2 a.2]
    rfl
  | [], _ :: _, [], _, h2, _ => by unfold Iss at h2; exact h2.elim
  | [], _ :: _, _ :: _, h1, _, _ => by unfold Iss at h1; exact h1.elim
  | _ :: _, [], [], h1, _, _ => by unfold Iss at h1; exact h1.elim
  | _ :: _, [], _ :: _, _, h2, _ => by unfold Iss at h2; exact h2.elim
  | _ :: _, _ :: _, [], h1, _, _ => by unfold Iss at h1; exact h1.elim
end
theorem in1_units (A : Around) : A.in1.units = A.units + 1 := rfl
mutual
theorem eqAt_da (I : Inv X pins σ H s) : ∀ (d e : Da) (x y : V) (u w : Value) (A : Around), Is X.K H d x → Is X.K H e y → alike d e = true → RelV x u → RelV y w → A.units + dep d < cLine → SeqAt.EqAt A s u w (eqDa d e)
  | .v a, .v b, x, y, u, w, A, h1, h2, _, r1, r2, _ => by
    unfold Is at h1 h2
    obtain ⟨rfl, f1⟩ := h1
    obtain ⟨rfl, f2⟩ := h2
    unfold eqDa
    exact eqAt_V r1 r2 f1 f2
  | .t ds, .t es, x, y, u, w, A, h1, h2, a, r1, r2, hu => by
    have h1' := h1
    have h2' := h2
    unfold Is at h1 h2
    obtain ⟨p, xs, rfl, q1, k1⟩ := h1
    obtain ⟨p', ys, rfl, q2, k2⟩ := h2
    cases r1
    cases r2
    by_cases e : p = p'
    · subst e
      rw [is_same I _ _ _ h1' h2' a]
      exact .same _
    · refine .of_refs e ?_
      obtain ⟨its, v1, t1, _⟩ := I.tuple q1
      obtain ⟨its2, v2, t2, _⟩ := I.tuple q2
      unfold eqDa
      rw [eqDas_bits, k1.length, k2.length, v1.length, v2.length]
      have z := SeqAt.RcAt.tuples (A := A) (e := bitDa ds es) t1 t2 (by unfold dep at hu; omega) fun j g1 g2 => by
        unfold dep at hu
        unfold alike at a
        exact eqAt_das I ds es xs ys its its2 A.in1 k1 k2 a v1 v2 (by rw [in1_units]; omega) j (by simpa using g1) (by simpa using g2)
      simpa using z
  | .l ds, .l es, x, y, u, w, A, h1, h2, a, r1, r2, hu => by
    have h1' := h1
    have h2' := h2
    unfold Is at h1 h2
    obtain ⟨p, xs, rfl, q1, k1⟩ := h1
    obtain ⟨p', ys, rfl, q2, k2⟩ := h2
    cases r1
    cases r2
    by_cases e : p = p'
    · subst e
      rw [is_same I _ _ _ h1' h2' a]
      exact .same _
    · refine .of_refs e ?_
      obtain ⟨its, v1, t1, _⟩ := I.list q1
      obtain ⟨its2, v2, t2, _⟩ := I.list q2
      unfold eqDa
      unfold dep at hu
      unfold alike at a
      by_cases el : its.length = its2.length
      · rw [eqDas_bits, k1.length, k2.length, v1.length, v2.length]
        have z := SeqAt.RcAt.lists (A := A) (e := bitDa ds es) t1.isList t2.isList (by simpa using el) (by omega) fun j g1 g2 =>
          eqAt_das I ds es xs ys its its2 A.in1 k1 k2 a v1 v2 (by rw [in1_units]; omega) j (by simpa using g1) (by simpa using g2)
        rw [el, Nat.min_self, beq_self_eq_true, Bool.and_true]
        rw [List.size_toArray, el] at z
        exact z
      · have ne : eqDas ds es = false := by
          rw [eqDas_bits, k1.length, k2.length, v1.length, v2.length, beq_eq_false_iff_ne.mpr el, Bool.and_false]
        rw [ne]
        exact SeqAt.RcAt.lists_lengths t1.isList t2.isList (by simpa using el) (by omega)
  | .v _, .t _, _, _, _, _, _, _, _, a, _, _, _ => by unfold alike at a; cases a
  | .v _, .l _, _, _, _, _, _, _, _, a, _, _, _ => by unfold alike at a; cases a
  | .t _, .v _, _, _, _, _, _, _, _, a, _, _, _ => by unfold alike at a; cases a
  | .t _, .l _, _, _, _, _, _, _, _, a, _, _, _ => by unfold alike at a; cases a
  | .l _, .v _, _, _, _, _, _, _, _, a, _, _, _ => by unfold alike at a; cases a
  | .l _, .t _, _, _, _, _, _, _, _, a, _, _, _ => by unfold alike at a; cases a
theorem eqAt_das (I : Inv X pins σ H s) : ∀ (ds es : List Da) (xs ys : List V) (us ws : List Value) (A : Around), Iss X.K H ds xs → Iss X.K H es ys → alikes ds es = true → Vals xs us → Vals ys ws → A.units + deps ds < cLine →
    ∀ (j : Nat) (h1 : j < us.length) (h2 : j < ws.length), SeqAt.EqAt A s us[j] ws[j] (bitDa ds es j)
  | d :: ds, e :: es, x :: xs, y :: ys, u :: us, w :: ws, A, k1, k2, a, .cons r1 v1, .cons r2 v2, hu, 0, _, _ => by
    unfold Iss at k1 k2
    unfold alikes at a
    rw [Bool.and_eq_true] at a
    unfold deps at hu
    exact eqAt_da I d e x y u w A k1.1 k2.1 a.1 r1 r2 (by omega)
  | d :: ds, e :: es, x :: xs, y :: ys, u :: us, w :: ws, A, k1, k2, a, .cons r1 v1, .cons r2 v2, hu, j + 1, h1, h2 => by
    unfold Iss at k1 k2
    unfold alikes at a
    rw [Bool.and_eq_true] at a
    unfold deps at hu
    exact eqAt_das I ds es xs ys us ws A k1.2 k2.2 a.2 v1 v2 (by omega) j (by simpa using h1) (by simpa using h2)
  | [], _, [], _, _, _, _, _, _, _, .nil, _, _, _, h1, _ => absurd h1 (Nat.not_lt_zero _)
  | _, [], _, [], _, _, _, _, _, _, _, .nil, _, _, _, h2 => absurd h2 (Nat.not_lt_zero _)
  | [], _, _ :: _, _, _, _, _, k1, _, _, _, _, _, _, _, _ => by unfold Iss at k1; exact k1.elim
  | _ :: _, _, [], _, _, _, _, k1, _, _, _, _, _, _, _, _ => by unfold Iss at k1; exact k1.elim
  | _, [], _, _ :: _, _, _, _, _, k2, _, _, _, _, _, _, _ => by unfold Iss at k2; exact k2.elim
  | _, _ :: _, _, [], _, _, _, _, k2, _, _, _, _, _, _, _ => by unfold Iss at k2; exact k2.elim
end
end

section
variable {X : Cx}
def rEqDa (K : PySem.W.Frag) : R2 := fun x y H Q => ∃ ds es, ((Is K H (.t ds) x ∧ Is K H (.t es) y) ∨ (Is K H (.l ds) x ∧ Is K H (.l es) y)) ∧ alikes ds es = true ∧ deps ds ≤ 60 ∧ Q (.bl (eqDas ds es)) H
def rNeDa (K : PySem.W.Frag) : R2 := fun x y H Q => ∃ ds es, ((Is K H (.t ds) x ∧ Is K H (.t es) y) ∨ (Is K H (.l ds) x ∧ Is K H (.l es) y)) ∧ alikes ds es = true ∧ deps ds ≤ 60 ∧ Q (.bl (!eqDas ds es)) H
theorem op_eqDa (hu : X.A.units + 64 < cLine) : OpR X (compareOp .Eq) (rEqDa X.K) := by
  intro pins s σ H x y v u Q I rx ry h
  obtain ⟨ds, es, h, a, hd, q⟩ := h
  rcases h with ⟨h1, h2⟩ | ⟨h1, h2⟩
  · unfold Is at h1 h2
    obtain ⟨p, xs, rfl, q1, k1⟩ := h1
    obtain ⟨p', ys, rfl, q2, k2⟩ := h2
    cases rx
    cases ry
    obtain ⟨its, v1, t1, _⟩ := I.tuple q1
    obtain ⟨its2, v2, t2, _⟩ := I.tuple q2
    have z := SeqAt.RcAt.tuples (A := X.A) (e := bitDa ds es) t1 t2 (by omega) fun j g1 g2 =>
      eqAt_das I ds es xs ys its its2 X.A.in1 k1 k2 a v1 v2 (by rw [in1_units]; omega) j (by simpa using g1) (by simpa using g2)
    refine z X.prog X.w X.xe _ ⟨.bl _, H, I, rfl, ?_⟩
    have e := eqDas_bits ds es
    rw [k1.length, k2.length, v1.length, v2.length] at e
    simpa [e] using q
  · unfold Is at h1 h2
    obtain ⟨p, xs, rfl, q1, k1⟩ := h1
    obtain ⟨p', ys, rfl, q2, k2⟩ := h2
    cases rx
    cases ry
    obtain ⟨its, v1, t1, _⟩ := I.list q1
    obtain ⟨its2, v2, t2, _⟩ := I.list q2
    have e := eqDas_bits ds es
    rw [k1.length, k2.length, v1.length, v2.length] at e
    by_cases el : its.length = its2.length
    · have z := SeqAt.RcAt.lists (A := X.A) (e := bitDa ds es) t1.isList t2.isList (by simpa using el) (by omega) fun j g1 g2 =>
        eqAt_das I ds es xs ys its its2 X.A.in1 k1 k2 a v1 v2 (by rw [in1_units]; omega) j (by simpa using g1) (by simpa using g2)
      refine z X.prog X.w X.xe _ ⟨.bl _, H, I, rfl, ?_⟩
      rw [el, Nat.min_self, beq_self_eq_true, Bool.and_true] at e
      simpa [e, el] using q
    · have ne : eqDas ds es = false := by rw [e, beq_eq_false_iff_ne.mpr el, Bool.and_false]
      rw [ne] at q
      exact SeqAt.RcAt.lists_lengths t1.isList t2.isList (by simpa using el) (by omega) X.prog X.w X.xe _ ⟨.bl _, H, I, rfl, q⟩
theorem op_neDa (hu : X.A.units + 64 < cLine) : OpR X (compareOp .NotEq) (rNeDa X.K) := by
  intro pins s σ H x y v u Q I rx ry h
  obtain ⟨ds, es, h, a, hd, q⟩ := h
  rcases h with ⟨h1, h2⟩ | ⟨h1, h2⟩
  · unfold Is at h1 h2
    obtain ⟨p, xs, rfl, q1, k1⟩ := h1
    obtain ⟨p', ys, rfl, q2, k2⟩ := h2
    cases rx
    cases ry
    obtain ⟨its, v1, t1, _⟩ := I.tuple q1
    obtain ⟨its2, v2, t2, _⟩ := I.tuple q2
    have z := SeqAt.RcNeAt.tuples (A := X.A) (e := bitDa ds es) t1 t2 (by omega) fun j g1 g2 =>
      eqAt_das I ds es xs ys its its2 X.A.in1 k1 k2 a v1 v2 (by rw [in1_units]; omega) j (by simpa using g1) (by simpa using g2)
    refine z X.prog X.w X.xe _ ⟨.bl _, H, I, rfl, ?_⟩
    have e := eqDas_bits ds es
    rw [k1.length, k2.length, v1.length, v2.length] at e
    simpa [e] using q
  · unfold Is at h1 h2
    obtain ⟨p, xs, rfl, q1, k1⟩ := h1
    obtain ⟨p', ys, rfl, q2, k2⟩ := h2
    cases rx
    cases ry
    obtain ⟨its, v1, t1, _⟩ := I.list q1
    obtain ⟨its2, v2, t2, _⟩ := I.list q2
    have e := eqDas_bits ds es
    rw [k1.length, k2.length, v1.length, v2.length] at e
    by_cases el : its.length = its2.length
    · have z := SeqAt.RcNeAt.lists (A := X.A) (e := bitDa ds es) t1.isList t2.isList (by simpa using el) (by omega) fun j g1 g2 =>
        eqAt_das I ds es xs ys its its2 X.A.in1 k1 k2 a v1 v2 (by rw [in1_units]; omega) j (by simpa using g1) (by simpa using g2)
      refine z X.prog X.w X.xe _ ⟨.bl _, H, I, rfl, ?_⟩
      rw [el, Nat.min_self, beq_self_eq_true, Bool.and_true] at e
      simpa [e, el] using q
    · have ne : eqDas ds es = false := by rw [e, beq_eq_false_iff_ne.mpr el, Bool.and_false]
      rw [ne] at q
      exact SeqAt.RcNeAt.lists_lengths t1.isList t2.isList (by simpa using el) (by omega) X.prog X.w X.xe _ ⟨.bl _, H, I, rfl, q⟩
def clsV : V → Value
  | .ty n => .type n
  | .ref a => .ref a
  | _ => .none
def isCls : V → Bool
  | .ty _ => true
  | .ref _ => true
  | _ => false
theorem cls_rel {c : V} {u : Value} (h : isCls c = true) (r : RelV c u) : u = clsV c := by
  cases c <;> first | exact r | (cases h; done)
def rIsi (K : PySem.W.Frag) : List V → Hp → VK → Prop := fun xs H Q => ∃ x c t b, xs = [x, c] ∧ isCls c = true ∧ TyOf K H x t ∧ PySem.W.kitOne K t (clsV c) = some b ∧ Q (.bl b) H
theorem call_isi : CallR X (.builtin "isinstance") (rIsi X.K) := by
  intro pins s σ H xs us Q I r h
  obtain ⟨x, c, t, b, rfl, hc, ty, e, q⟩ := h
  obtain ⟨u, w, rfl, r1, r2⟩ := vals2 r
  obtain rfl := cls_rel hc r2
  exact isinst_ok I r1 ty e fun tk => ⟨.bl b, H, I.tok tk, rfl, q⟩
end
section
variable {K : PySem.W.Frag}
end
theorem b_len : bootBuiltins "len" = some (.builtin "len") := by decide +kernel
theorem b_abs : bootBuiltins "abs" = some (.builtin "abs") := by decide +kernel
theorem b_isinstance : bootBuiltins "isinstance" = some (.builtin "isinstance") := by decide +kernel
theorem b_all : bootBuiltins "all" = some (.builtin "all") := by decide +kernel
theorem b_list : bootBuiltins "list" = some (.type "list") := by decide +kernel
theorem b_ValueError : bootBuiltins "ValueError" = some (.type "ValueError") := by decide +kernel
theorem pe_ty {X : Cx} {x : Str} {n : String} {pos : Pos} (hg : Gl X x) (hm : X.mg x = none) (hv : bootBuiltins x = some (.type n)) (hn : x ≠ "__name__" := by decide) (hd : (x == ("__debug__" : Str)) = false := by decide) : PE X (.Name x pos) (tC (.ty n)) := pe_bltn (v := .ty n) hg hm hv rfl hn hd
def CMod (_ j : Int) : Prop := j ≠ 0
theorem nz {i j : Int} (h : j ≠ 0) : CMod i j := h
theorem op_modB {X : Cx} : OpR X (binaryOp .Mod) (rI CMod fun i j => .int (i.fmod j)) := op_modN
end Ty

set_option maxHeartbeats 4000000
namespace TyAtt
open PySem PySem.W PySem.Calls PyProof.Rows
open Builtin.Int (intBits)
theorem bits_item {ns : List Int} {n : Int} (h : (WData.list (ns.map WData.int)).layable = true) (hn : n ∈ ns) : intBits n ≤ 1048576 := by
  obtain ⟨_, _, hw⟩ := layableW_iff.mp h
  have a : ∀ (l : List Int), n ∈ l → intBits n ≤ WData.weightAll (l.map WData.int) := by
    intro l
    induction l with
    | nil => intro q; cases q
    | cons y r ih =>
      intro q
      rw [List.map_cons]
      unfold WData.weightAll
      rcases List.mem_cons.mp q with z | z
      · subst z
        have : intBits n ≤ WData.weight (.int n) := by
          unfold WData.weight
          exact Nat.le_refl _
        omega
      · have := ih z
        omega
  have b := a ns hn
  unfold WData.weight at hw
  omega
theorem attach_bits {l : OpenLaw} {n : Nat} {q : Program} {loose : List Str} {XP : (Str → Option Value) → Heap → Prop} {YP : World → Heap → Prop} {d : DefRec}
    (hn : l.most = some n) (hdf : d.params.defaults = [])
    (call : ∀ (w : World) (s₀ s₁ : Shared) (mg mb : Str → Option Value) (fa : Addr) (o : Obj) (pm cd doc : Value) (a : Addr) (vs : List Value) (ns : List Int),
      Ground q loose [] XP w s₀ mg mb s₁.heap → YP w s₁.heap →
      s₁.heap.get? fa = some o → o.data = .func (docDef d.name d.params d.body d.scope pm cd doc) → s₁.heap.CodeRec cd d.name → mg d.name = some (.ref fa) →
      s₁.heap.get? a = some { cls := .type "list", data := .seq vs.toArray } → IntsAre vs ns → ns.length ≤ n → (∀ i ∈ ns, intBits i ≤ 1048576) → s₁.gens = #[] →
      codeAny (model l.prog w) callerA (.call (.ref fa) ⟨[.ref a], []⟩) (fun r s' => r = .ok (.ret (.bool true)) ∧ OldK s₁.heap s'.heap ∧ s'.os = s₁.os ∧ AllBare s'.gens) s₁) :
    WalkO q loose XP YP l.row.toRowW d [] (fun f vs => PySem.call f vs) := by
  intro w s₀ s₁ mg mb G Y fa o pm cd doc dV kV ho hd hcd hD hmg hg args vals as hpre hlay hrd hwl hlo
  obtain rfl : dV = .none := Dflts.none hD hdf
  obtain rfl : kV = .none := Dflts.noKw hD
  obtain ⟨a, vs, ns, rfl, rfl, hobj, hints, hlen⟩ := Att.script_of hn hpre hwl
  have hb : ∀ i ∈ ns, intBits i ≤ 1048576 := fun i hi => bits_item (layW_cons hlay).1 hi
  refine enter_call (codeAny_mono (call w s₀ s₁ mg mb fa o pm cd doc a vs ns G Y ho (fd_plain hd) hcd hmg hobj hints hlen hb hg) fun r s' hq => ?_)
  obtain ⟨rfl, h2, h3, h4⟩ := hq
  exact ⟨.inl ⟨.bool true, .bool true, [], rfl, fun _ => rfl, .bool true, Att.post_true l _, fun _ => ⟨List.Pairwise.nil, fun _ hm => (nomatch hm)⟩⟩, h2, h3, h4⟩
end TyAtt
namespace Ty
open PySem PySem.Spec PyProof.Rows L2
open Builtin.Int (intBits)
structure Fn (P : Program) (w : World) (K : PySem.W.Frag) (mg : Str → Option Value) (base : Heap) (CX : CXT) (k : Nat) (x : Str) (ps : List Str) (sp : Sp) : Prop where
  ex : ∃ (f : Addr) (fd : FuncData), FnOk P w K mg base CX k f fd ps sp ∧ Binds K fd ps [] ∧ mg x = some (.ref f) ∧ PySem.W.keepIn K (.ref f) = true
structure Def (K : PySem.W.Frag) (mg : Str → Option Value) (x : Str) (st : Stmt) (ps : List Str) : Prop where
  ex : ∃ (f : Addr) (dV oc : Value) (od : Option Addr) (kV doc pm : Value) (an : Option Addr) (cdv ct : Value) (osl : Array (Option Value)),
    K.lookup f = some ⟨oc, od, .func (PySem.W.fnOf x x (defArgs st) (defBody st) (defScope st) dV kV doc pm an cdv ct), osl⟩ ∧ PySem.W.codeIn K cdv x = true ∧ PySem.W.keepIn K (.ref f) = true ∧
    Binds K (PySem.W.fnOf x x (defArgs st) (defBody st) (defScope st) dV kV doc pm an cdv ct) ps [] ∧ mg x = some (.ref f)
theorem Def.of {K : PySem.W.Frag} {mg : Str → Option Value} {x : Str} {st : Stmt} {ps : List Str} {f : Addr} {fd : FuncData} (F : Fun K x x st f fd) (b : Binds K fd ps []) (m : mg x = some (.ref f)) : Def K mg x st ps := by
  obtain ⟨oc, od, kV, doc, pm, an, cdv, ct, osl, rfl, lk, hcd⟩ := F.ex
  exact ⟨f, .none, oc, od, kV, doc, pm, an, cdv, ct, osl, lk, hcd, F.kp, b, m⟩
structure DefD (K : PySem.W.Frag) (mg : Str → Option Value) (x : Str) (st : Stmt) (ps : List Str) (ds : List Value) : Prop where
  ex : ∃ (f : Addr) (dV oc : Value) (od : Option Addr) (kV doc pm : Value) (an : Option Addr) (cdv ct : Value) (osl : Array (Option Value)),
    K.lookup f = some ⟨oc, od, .func (PySem.W.fnOf x x (defArgs st) (defBody st) (defScope st) dV kV doc pm an cdv ct), osl⟩ ∧ PySem.W.codeIn K cdv x = true ∧ PySem.W.keepIn K (.ref f) = true ∧
    Binds K (PySem.W.fnOf x x (defArgs st) (defBody st) (defScope st) dV kV doc pm an cdv ct) ps [] ∧ Binds K (PySem.W.fnOf x x (defArgs st) (defBody st) (defScope st) dV kV doc pm an cdv ct) ps ds ∧ mg x = some (.ref f)
section
variable {P : Program} {w : World} {K : PySem.W.Frag} {mg : Str → Option Value} {base : Heap} {CX : CXT}
theorem Fn.mono {j k : Nat} {x : Str} {ps : List Str} {sp : Sp} (F : Fn P w K mg base CX j x ps sp) (h : j ≤ k) : Fn P w K mg base CX k x ps sp := by
  obtain ⟨f, fd, a, b⟩ := F.ex
  exact ⟨f, fd, a.mono h, b⟩
theorem Def.ok {x : Str} {st : Stmt} {N ps : List Str} {k : Nat} {sp : Sp} (D : Def K mg x st ps) (S : FnScope N ps (defScope st)) (len : ∀ vs H Q E, sp vs H Q E → vs.length = ps.length)
    (hbody : ∀ (f : Addr) (cdv : Value) (A : Around) (outer : List Env) (s : Shared) (H : Hp) (vs : List V) (Q : VK) (E : XK), Room k (A.deeper (envOfC x (defScope st) s.heap.objs.size f cdv)) → sp vs H Q E →
      ∃ t, PSs (cxOf CX P w K mg base N x (defScope st) f cdv A outer s H E).nox (defBody st) t ∧ t { nx := fun _ H' => Q .non H', rt := Q } (start N vs) H) : Fn P w K mg base CX (k + 1) x ps sp := by
  obtain ⟨f, dV, oc, od, kV, doc, pm, an, cdv, ct, osl, lk, hcd, kp, b, m⟩ := D.ex
  refine ⟨f, _, fn_of lk hcd S len fun A outer s H vs Q E hr hsp => ?_, b, m, kp⟩
  obtain ⟨t, h, q⟩ := hbody f cdv A outer s H vs Q E hr hsp
  exact ⟨t, h.nox, q⟩
theorem _root_.L2.Fun.okG {x : Str} {st : Stmt} {f : Addr} {fd : FuncData} {N ps : List Str} {k : Nat} {sp : Sp} (F : Fun K x x st f fd) (S : FnScope N ps (defScope st)) (len : ∀ vs H Q E, sp vs H Q E → vs.length = ps.length)
    (hbody : ∀ (cdv : Value) (A : Around) (outer : List Env) (s : Shared) (H : Hp) (vs : List V) (Q : VK) (E : XK), Room k (A.deeper (envOfC x (defScope st) s.heap.objs.size f cdv)) → sp vs H Q E →
      ∃ t, PSs (cxOf CX P w K mg base N x (defScope st) f cdv A outer s H E).nox (defBody st) t ∧ t { nx := fun _ H' => Q .non H', rt := Q } (start N vs) H) : FnOk P w K mg base CX (k + 1) f fd ps sp := by
  obtain ⟨oc, od, kV, doc, pm, an, cdv, ct, osl, rfl, lk, hcd⟩ := F.ex
  refine fn_of lk hcd S len fun A outer s H vs Q E hr hsp => ?_
  obtain ⟨t, h, q⟩ := hbody cdv A outer s H vs Q E hr hsp
  exact ⟨t, h.nox, q⟩
def Mute (CX : CXT) : Prop := ∀ outer H s e s', CX outer H s E0 e s' → False
theorem passM {X : Cx} (h : Mute CX) : Passes CX X.nox E0 := fun _ _ _ _ _ _ _ q => (h _ _ _ _ _ q).elim
section
variable {X : Cx} {k : Nat} {ps : List Str} {sp : Sp} {E : XK} {x : Str} {p pos : Pos} {e : Expr} {es : List Expr} {t : TA}
theorem pe_fn (F : Fn X.prog X.w X.K X.mg X.base CX k x ps sp) (hr : Room k X.A) (hx : Passes CX X E) (ha : PA X (e :: es) t) (hg : Gl X x := by rfl) (hdb : (x == ("__debug__" : Str)) = false := by decide)
    (he : starEach (e :: es) X.env = (false, eval e X.env) :: starEach es X.env := by rfl) (hpl : (backTo pos (starEach es X.env)).any (·.1) = false := by rfl) : PE X (.Call (.Name x p) (e :: es) [] pos) (tCall sp [] E t) := by
  obtain ⟨f, fd, G, b, m, kp⟩ := F.ex
  exact pe_call G hr hg m kp b .nil hx ha hdb he hpl
structure FnD (P : Program) (w : World) (K : PySem.W.Frag) (mg : Str → Option Value) (base : Heap) (CX : CXT) (k : Nat) (x : Str) (ps : List Str) (ds : List Value) (sp : Sp) : Prop where
  ex : ∃ (f : Addr) (fd : FuncData), FnOk P w K mg base CX k f fd ps sp ∧ Binds K fd ps ds ∧ mg x = some (.ref f) ∧ PySem.W.keepIn K (.ref f) = true
end
end
def spLaw (K : PySem.W.Frag) : Sp := fun vs H Q _ => ∃ (a : Addr) (ns : List Int), vs = [.ref a] ∧ SqL K H a (ns.map V.int) ∧ ns.length ≤ 63 ∧ (∀ i ∈ ns, intBits i ≤ 1048576) ∧ ∀ H', Q (.bl true) H'
theorem walk {l : PySem.W.OpenLaw} {q : Program} {loose : List Str} {XP : (Str → Option Value) → Heap → Prop} {YP : World → Heap → Prop} {d : DefRec} {K : Params → PySem.W.Frag} {CX : World → CXT} {x : Str} {k : Nat}
    (hn : l.most = some 63) (hdf : d.params.defaults = []) (hi : importsNone q = true) (hr : Room k callerA)
    (hY : ∀ (w : World) (h : Heap), YP w h → (K w.params).In h) (hm : ∀ w, Mute (CX w))
    (F : ∀ (w : World) (mg : Str → Option Value) (fa : Addr) (h : Heap), (K w.params).In h → h.Ns mainGlobals mg → mg d.name = some (.ref fa) →
      ∃ fd : FuncData, (∀ (s : Shared) (u : Value), BindsTo s fd ⟨[u], []⟩ [(x, u)]) ∧
        ∀ base : Heap, (K w.params).In base → base.Ns mainGlobals mg → FnOk l.prog w (K w.params) mg base (CX w) k fa fd [x] (spLaw (K w.params))) :
    PySem.W.WalkO q loose XP YP l.row.toRowW d [] (fun f vs => PySem.call f vs) := by
  refine TyAtt.attach_bits hn hdf fun w s₀ s₁ mg mb fa o pm cd doc a vs ns G Y ho hd hcd hmg hobj hints hlen hb hg => ?_
  have KX := hY w _ Y
  obtain ⟨fd, hbd, hF⟩ := F w mg fa _ KX G.T.g hmg
  exact law_call KX G.T.g G.T.b G.T.builtins G.T.nolimit (G.T.seer hi) hg hobj hints (Nat.le_trans hlen (by decide)) hr hF hbd (fun H hO hS => ⟨a, ns, rfl, hS, hlen, hb, fun _ => rfl⟩) fun H e s' => hm w [] H s₁ e s'
end Ty

set_option maxHeartbeats 4000000
namespace Ty
open PySem PySem.Spec PyProof.Rows
def KD (h h' : Heap) : Prop := ∀ b o, h.get? b = some o → ∃ o', h'.get? b = some o' ∧ o'.dict = o.dict
theorem KD.refl {h : Heap} : KD h h := fun b o e => ⟨o, e, rfl⟩
theorem KD.trans {h1 h2 h3 : Heap} (a : KD h1 h2) (b : KD h2 h3) : KD h1 h3 := fun c o e => by
  obtain ⟨o1, e1, d1⟩ := a c o e
  obtain ⟨o2, e2, d2⟩ := b c o1 e1
  exact ⟨o2, e2, d2.trans d1⟩
theorem KD.keeps {h h' : Heap} (k : ∀ b o, h.get? b = some o → h'.get? b = some o) : KD h h' := fun b o e => ⟨o, k b o e, rfl⟩
theorem not_freed {h : Heap} {a : Addr} {o : Obj} (e : h.get? a = some o) : o.isFreed = false := by
  unfold Heap.get? at e
  split at e
  · cases e
  · rename_i o' hn
    unfold Obj.isFreed
    split
    · rename_i c d sl
      exact absurd e (hn c d sl)
    · rfl
theorem KD.update {h : Heap} {a : Addr} {f : Obj → Obj} (hf : ∀ o, (f o).dict = o.dict ∧ (f o).isFreed = o.isFreed) : KD h (h.update a f) := fun b o e => by
  by_cases c : b = a
  · subst c
    exact ⟨f o, Heap.get?_update_self f e ((hf o).2.trans (not_freed e)), (hf o).1⟩
  · exact ⟨o, (Heap.get?_update_other h f (fun z => c z.symm)).trans e, rfl⟩
def Kp {α : Type} : Sem α → Prop
  | .pure _ => True
  | .raise _ => True
  | .unsupported _ => True
  | .finish _ => True
  | .rule _ k => Kp (k ())
  | .at _ k => Kp (k ())
  | .load _ _ k => ∀ o, Kp (k o)
  | .update _ _ f k => (∀ o, (f o).dict = o.dict ∧ (f o).isFreed = o.isFreed) ∧ Kp (k ())
  | .alloc _ k => ∀ a, Kp (k a)
  | .loadIfAlive _ k => ∀ o, Kp (k o)
  | .point _ k => Kp (k ())
  | .fresh k => ∀ t, Kp (k t)
  | .ask k => ∀ t, Kp (k t)
  | .handled _ k => ∀ t, Kp (k t)
  | .stack k => ∀ t, Kp (k t)
  | .thread k => ∀ t, Kp (k t)
  | _ => False
theorem Kp.bind {α β : Type} : ∀ {m : Sem α} {f : α → Sem β}, Kp m → (∀ a, Kp (f a)) → Kp (m.bind f) := by
  intro m f
  induction m with
  | pure a => exact fun _ h => h a
  | raise e => exact fun _ _ => trivial
  | unsupported w => exact fun _ _ => trivial
  | finish e => exact fun _ _ => trivial
  | rule t k ih => exact fun h hf => ih () h hf
  | «at» p k ih => exact fun h hf => ih () h hf
  | load a p k ih => exact fun h hf o => ih o (h o) hf
  | update a p g k ih => exact fun h hf => ⟨h.1, ih () h.2 hf⟩
  | alloc o k ih => exact fun h hf a => ih a (h a) hf
  | loadIfAlive a k ih => exact fun h hf o => ih o (h o) hf
  | point l k ih => exact fun h hf => ih () h hf
  | fresh k ih => exact fun h hf o => ih o (h o) hf
  | ask k ih => exact fun h hf o => ih o (h o) hf
  | handled o k ih => exact fun h hf o => ih o (h o) hf
  | stack k ih => exact fun h hf o => ih o (h o) hf
  | thread k ih => exact fun h hf o => ih o (h o) hf
  | _ => exact fun h => h.elim
theorem Kp.wp {α : Type} {M : Model} {Γ : PySem.Ctx} : ∀ {t : Sem α} {P : α → Pos → Shared → Prop} {E : Value → Pos → Shared → Prop} {p : Pos} {s : Shared} {h0 : Heap}, Kp t → KD h0 s.heap → Sem.wp M Γ t P E p s → Sem.wp M Γ t (fun a p' s' => P a p' s' ∧ KD h0 s'.heap) E p s := by
  intro t
  induction t with
  | pure a => exact fun _ kd h => ⟨h, kd⟩
  | raise e => exact fun _ _ h => h
  | unsupported w => exact fun _ _ h => h
  | finish e => exact fun _ _ h => h
  | rule t k ih => exact fun hk kd h => ih () hk kd h
  | «at» p k ih => exact fun hk kd h => ih () hk kd h
  | load a p k ih => exact fun hk kd h => by obtain ⟨o, e, h⟩ := h; exact ⟨o, e, ih o (hk o) kd h⟩
  | update a p g k ih => exact fun hk kd h => ⟨h.1, ih () hk.2 (kd.trans (KD.update hk.1)) h.2⟩
  | alloc o k ih => exact fun hk kd h => ih _ (hk _) (kd.trans (KD.keeps fun b o e => Heap.get?_push_of_some _ e)) h
  | loadIfAlive a k ih => exact fun hk kd h => ih _ (hk _) kd h
  | point l k ih => exact fun hk kd h => ih () hk kd h
  | fresh k ih => exact fun hk kd h => ih _ (hk _) kd h
  | ask k ih => exact fun hk kd h => ih _ (hk _) kd h
  | handled o k ih => exact fun hk kd h => ih _ (hk _) kd h
  | stack k ih => exact fun hk kd h => ih _ (hk _) kd h
  | thread k ih => exact fun hk kd h => ih _ (hk _) kd h
  | _ => exact fun hk => hk.elim
theorem Kp.any {α : Type} {M : Model} {A : Around} {t : Sem α} {Q : α → Shared → Prop} {E : Value → Shared → Prop} {s : Shared} (k : Kp t) (h : wpAny M A t Q E s) : wpAny M A t (fun a s' => Q a s' ∧ KD s.heap s'.heap) E s :=
  fun Γ p hΓ => Kp.wp k KD.refl (h Γ p hΓ)
theorem kp_pure {α : Type} {a : α} : Kp (pure a : Sem α) := trivial
theorem kp_un {α : Type} {w : String} : Kp (unsupported w : Sem α) := trivial
theorem kp_bind {α β : Type} {m : Sem α} {f : α → Sem β} (h : Kp m) (hf : ∀ a, Kp (f a)) : Kp (m >>= f) := Kp.bind h hf
theorem kp_ite {α : Type} {c : Prop} [Decidable c] {a b : Sem α} (h1 : Kp a) (h2 : Kp b) : Kp (if c then a else b) := by
  split
  · exact h1
  · exact h2
theorem kp_load {a : Addr} : Kp (load a) := fun _ => trivial
theorem kp_stack : Kp stack := fun _ => trivial
theorem kp_setField {e x : Value} {i : Nat} : Kp (setField e i x) := by
  unfold setField
  split
  · unfold updateField
    refine kp_bind kp_load fun o => ?_
    split
    · refine kp_ite ⟨fun o => ?_, trivial⟩ kp_un
      unfold Obj.mapFields
      split <;> exact ⟨rfl, rfl⟩
    · exact kp_un
  · exact kp_un
theorem kp_field {e : Value} {i : Nat} : Kp (field e i) := by
  unfold field
  refine kp_bind ?_ fun vs => ?_
  · unfold fieldsOf
    split
    · refine kp_bind kp_load fun o => ?_
      split
      · exact kp_pure
      · exact kp_un
    · exact kp_un
  · split
    · exact kp_pure
    · exact kp_un
theorem kp_setFlight {e : Value} {f : Option Addr} : Kp (setFlight e f) := by
  unfold setFlight
  exact kp_bind kp_field fun tb => kp_ite kp_setField kp_pure
theorem kp_behind {env : Env} {outer : List Env} : Kp (behindIsImport env outer) := by
  unfold behindIsImport
  exact kp_ite kp_pure (kp_ite kp_pure (kp_bind kp_field fun _ => kp_pure))
theorem kp_keptBack {env : Env} {b : Bool} {outer : List Env} : Kp (keptBack env b outer) := by
  unfold keptBack
  split
  · refine kp_ite kp_pure (kp_bind ?_ fun _ => kp_pure)
    unfold underTheClaimsCaller
    exact kp_bind kp_stack fun _ => kp_pure
  · exact kp_pure
theorem kp_readyFrames : ∀ l : List Env, Kp (readyFrames l)
  | [] => trivial
  | env :: outer => by
    rw [readyFrames.eq_2]
    split
    · refine kp_bind kp_load fun o => kp_ite kp_pure (kp_bind kp_behind fun _ => kp_bind kp_keptBack fun _ => kp_bind ⟨fun o => ⟨rfl, ?_⟩, trivial⟩ fun _ => kp_readyFrames outer)
      obtain ⟨c, d, dt, sl⟩ := o
      cases dt <;> rfl
    · exact kp_un
theorem kp_frameOf {env : Env} : Kp (PySem.frameOf env) := by
  unfold PySem.frameOf
  refine kp_bind ?_ fun l => kp_bind ?_ fun o => ?_
  · unfold frameEnvs
    exact kp_bind kp_stack fun _ => kp_pure
  · unfold frameObject
    split
    · exact kp_pure
    · exact kp_bind (kp_readyFrames _) fun _ => kp_pure
  · split
    · exact kp_pure
    · exact kp_un
theorem kp_entryPlaceOf {f : Addr} {b : Bool} : Kp (entryPlaceOf f b) := by
  unfold entryPlaceOf
  refine kp_bind kp_stack fun a => ?_
  dsimp only
  split <;> exact kp_pure
theorem kp_newEntry {a b c d e : Value} {l : List Value} : Kp (EntryCells.newEntry a b c d e l) := by
  unfold EntryCells.newEntry newFields newObj
  dsimp only
  refine kp_ite (kp_bind kp_un fun _ => ?_) ?_
  · exact fun _ => trivial
  · exact fun _ => trivial
theorem kp_noteFrame {e : Value} {env : Env} : Kp (noteFrame e env) := by
  unfold noteFrame
  split
  · refine kp_bind kp_field fun head => kp_ite (kp_bind kp_field fun x => kp_ite kp_pure (kp_bind kp_setField fun _ => ?_)) ?_
    · exact kp_bind kp_frameOf fun _ => kp_bind kp_entryPlaceOf fun _ => kp_bind kp_newEntry fun _ => kp_setField
    · exact kp_bind kp_frameOf fun _ => kp_bind kp_entryPlaceOf fun _ => kp_bind kp_newEntry fun _ => kp_setField
  · exact kp_un
theorem kp_leaving {e : Value} {env : Env} : Kp (leaving env e) := by
  unfold leaving
  exact kp_bind kp_noteFrame fun _ => kp_setFlight
end Ty

set_option maxHeartbeats 4000000
namespace Ty
open PySem PySem.Spec PyProof.Rows L2
theorem Un.shrink {fs fs' ex : List Addr} {H H' : Hp} {h h' : Heap} (u : Un fs' ex H H' h h') (hs : ∀ b o, h.get? b = some o → b ∈ fs' → b ∈ fs) : Un fs ex H H' h h' :=
  ⟨fun b o e n hb hx => u.keep b o e n (fun z => hb (hs b o e z)) hx, fun b o e n hb hx => u.any e n hx, u.free, u.there, u.tups, u.frzs, u.tbls⟩
theorem un_land {l : List Env} {H H' : Hp} {h h1 h2 B : Heap} (u : Un (frs l) [] H H' h h1) (s1 : B.StaysIn h1) (s2 : B.StaysIn h2) (th : ∀ b o, h.get? b = some o → b ∉ frs l → ∃ o', B.get? b = some o')
    (ff : h1.FunFrames B l) (up : h1.UpToSlots h2) : Un (frs l) [] H H' h h2 := by
  have inB : ∀ b o, h.get? b = some o → H b = none → b ∉ frs l → B.get? b = some o := fun b o e n hb => by
    obtain ⟨o', eB⟩ := th b o e hb
    have z := u.keep b o e n hb (by simp)
    rw [s1 b o' eB] at z
    cases z
    exact eB
  refine ⟨fun b o e n hb _ => s2 b o (inB b o e n hb), fun b o e n hb _ => ?_, fun b o e n _ => u.free b o e n (by simp), fun b o e _ => ?_, u.tups, u.frzs, u.tbls⟩
  · obtain ⟨sl, e1⟩ := u.any e n (by simp)
    obtain ⟨_, o', e2, nf⟩ := ff.mem hb
    rw [e1] at e2
    cases e2
    obtain ⟨sl', e3⟩ := up b _ e1 nf
    exact ⟨sl', e3⟩
  · by_cases hb : b ∈ frs l
    · obtain ⟨_, o', e2, nf⟩ := ff.mem hb
      obtain ⟨sl', e3⟩ := up b _ e2 nf
      exact ⟨_, e3⟩
    · obtain ⟨o', eB⟩ := th b o e hb
      exact ⟨o', s2 b o' eB⟩
theorem hok_land {P : Program} {w : World} {H' : Hp} {h1 h2 B : Heap} (ok : HOk P w H' h1) (s1 : B.StaysIn h1) (s2 : B.StaysIn h2) (tr : ∀ b u, H' b = some u → ∃ o, B.get? b = some o) : HOk P w H' h2 := fun b u e =>
  (ok b u e).stay (fun c v hc q => by
    obtain ⟨o, eB⟩ : ∃ o, B.get? c = some o := by
      rcases hc with z | z
      · rw [z]
        exact tr b u e
      · exact tr c _ z
    rw [s1 c o eB] at q
    cases q
    exact s2 c _ eB) (fun _ q => q) fun _ _ q => q
theorem obj_some {P : Program} {w : World} {H : Hp} {h : Heap} {a : Addr} {o : HO} (x : ObjOk P w H h a o) : ∃ ob, h.get? a = some ob := by
  cases o with
  | lst xs => obtain ⟨_, _, _, _, e⟩ := x; exact ⟨_, e⟩
  | tup xs => obtain ⟨_, _, _, ob, e, _⟩ := x; exact ⟨ob, e⟩
  | dK kvs => obtain ⟨_, _, _, _, ob, _, _, e, _⟩ := x; exact ⟨ob, e⟩
  | dT kvs => obtain ⟨_, _, _, _, ob, _, _, e, _⟩ := x; exact ⟨ob, e⟩
  | set S n => obtain ⟨ob, _, _, _, e, _⟩ := x; exact ⟨ob, e⟩
  | ins C dx fs => obtain ⟨_, _, _, e, _⟩ := x; exact ⟨_, e⟩
  | own y => exact (show ∃ o, h.get? a = some o from x)
  | xd fs => obtain ⟨_, ⟨od, _, _, e, _⟩, _⟩ := x; exact ⟨od, e⟩
  | rng lo hi => obtain ⟨_, _, _, e⟩ := x; exact ⟨_, e⟩
  | frz ob u => exact ⟨ob, x.1⟩
  | tbl ps => exact ⟨_, x⟩
  | met f y => exact ⟨_, x⟩
  | ext φ => exact x.2.1
def DictAt (h : Heap) (a : Addr) (dx : Option Addr) : Prop := ∃ o, h.get? a = some o ∧ o.dict = dx
theorem DictAt.kd {h h' : Heap} {a : Addr} {dx : Option Addr} (d : DictAt h a dx) (k : KD h h') : DictAt h' a dx := by
  obtain ⟨o, e, d⟩ := d
  obtain ⟨o', e', d'⟩ := k a o e
  exact ⟨o', e', d'.trans d⟩
def CXr (P : Program) (w : World) : CXT := fun outer H s E e s' => ∃ (a : Addr) (cls a0 : Value) (dx : Option Addr) (H' : Hp) (B : Heap),
  e = .ref a ∧ Heap.FlyingW B outer a cls a0 s'.heap ∧ DictAt s'.heap a dx ∧ Un (frs outer) [] H H' s.heap s'.heap ∧ HOk P w H' s'.heap ∧ s'.os = s.os ∧ AllBare s'.gens ∧
  (∀ b o, s.heap.get? b = some o → b ∉ frs outer → ∃ o', B.get? b = some o') ∧ (∀ b u, H' b = some u → ∃ o, B.get? b = some o) ∧ E cls dx H'
theorem CXr.mute {P : Program} {w : World} : Mute (CXr P w) := fun _ _ _ _ _ ⟨_, _, _, _, _, _, _, _, _, _, _, _, _, _, _, z⟩ => z
section
variable {P : Program} {w : World} {K : PySem.W.Frag} {mg : Str → Option Value} {base : Heap} {N : List Str} {qual : Str} {scope : Scope} {f : Addr} {cdv : Value} {A : Around} {outer : List Env} {s0 : Shared} {H0 : Hp} {E : XK}
abbrev cxr (P : Program) (w : World) (K : PySem.W.Frag) (mg : Str → Option Value) (base : Heap) (N : List Str) (qual : Str) (scope : Scope) (f : Addr) (cdv : Value) (A : Around) (outer : List Env) (s0 : Shared) (H0 : Hp) (E : XK) : Cx := cxOf (CXr P w) P w K mg base N qual scope f cdv A outer s0 H0 E
theorem out_of {pins : List (Addr × Obj)} {σ : L2.St} {H H' : Hp} {s s' : Shared} {a : Addr} {cls a0 : Value} {dx : Option Addr} {B h2 : Heap} (I : Inv (cxr P w K mg base N qual scope f cdv A outer s0 H0 E) pins σ H s)
    (fl : Heap.FlyingW B outer a cls a0 h2) (da : DictAt h2 a dx) (ff : s'.heap.FunFrames B (cxr P w K mg base N qual scope f cdv A outer s0 H0 E).stack) (st : B.StaysIn s'.heap)
    (un : Un (frs (cxr P w K mg base N qual scope f cdv A outer s0 H0 E).stack) [] H H' s.heap s'.heap) (ok : HOk P w H' s'.heap) (os : s'.os = s.os) (bare : AllBare s'.gens)
    (th : ∀ b o, s.heap.get? b = some o → b ∉ frs (cxr P w K mg base N qual scope f cdv A outer s0 H0 E).stack → ∃ o', B.get? b = some o') (tr : ∀ b u, H' b = some u → ∃ o, B.get? b = some o) (up : s'.heap.UpToSlots h2) (hE : E cls dx H') :
    CXr P w outer H0 s0 E (.ref a) { s' with heap := h2 } := by
  have sh : ∀ b o, s0.heap.get? b = some o → b ∈ frs (cxr P w K mg base N qual scope f cdv A outer s0 H0 E).stack → b ∈ frs outer := fun b o e hb => by
    rcases List.mem_cons.mp (I.stkSub b hb) with z | z
    · subst z
      exact absurd (Nat.lt_of_lt_of_le (Heap.lt_size e) I.ok.above) (Nat.lt_irrefl _)
    · exact z
  have un2 := un_land un st fl.1 th ff up
  have ub : Un (frs (cxr P w K mg base N qual scope f cdv A outer s0 H0 E).stack) [] H0 H s0.heap s.heap := I.base.mono (fun b hb => by
    obtain ⟨env, he, hf⟩ := List.mem_filterMap.mp hb
    exact List.mem_filterMap.mpr ⟨env, List.mem_cons_of_mem _ he, hf⟩) fun _ z => z
  refine ⟨a, cls, a0, dx, H', B, rfl, fl, da, Un.shrink (ub.trans un2) sh, hok_land ok st fl.1 tr, os.trans I.os, bare, fun b o e hb => ?_, tr, hE⟩
  obtain ⟨o', e'⟩ := I.base.there b o e (fun z => (nomatch (show b ∈ ([] : List Addr) from z)))
  exact th b o' e' fun z => hb (sh b o e z)
theorem pass_up : Passes (CXr P w) (cxr P w K mg base N qual scope f cdv A outer s0 H0 E) E := fun pins σ H s e s' I q => by
  obtain ⟨a, cls, a0, dx, H', B, rfl, fl, da, un, ok, os, bare, th, tr, hE⟩ := q
  show wpAny (model P w) (A.deeper (envOfC qual scope s0.heap.objs.size f cdv)) (leaving (envOfC qual scope s0.heap.objs.size f cdv) (.ref a)) _ _ s'
  refine wpAny_mono (Kp.any kp_leaving (wpAny_leaves_onW (outer := outer) (Q := fun _ s2 => ∃ h2, s2 = { s' with heap := h2 } ∧ B.FlyingW outer a cls a0 h2 ∧ s'.heap.UpToSlots h2) (E := fun _ _ => False) I.ok.frames rfl fl fun h2 fl2 up => ⟨h2, rfl, fl2, up⟩)) (fun _ s2 z => ?_) fun _ _ z => z.elim
  obtain ⟨⟨h2, rfl, fl2, up⟩, kd⟩ := z
  exact out_of I fl2 (da.kd kd) fl.2.2.1 fl.1 un ok os bare th tr up hE
theorem exc_obj {h : Heap} {C : Addr} {bmB : List Value} {newId : String} (X : K.In h) (q : PySem.W.excIn K C bmB newId = true) :
    ∃ bm N nm q bs hdct sn sub ab col dd k0 k1 k2 k3 k5 mN, h.get? C = some (excClassObj nm q C N bs bm hdct sn sub ab col dd k0 k1 k2 k3 k5 newId) ∧ h.Ns N mN ∧ mN "__init__" = none ∧ OwnTail h bmB bm := by
  unfold PySem.W.excIn at q
  split at q
  · rename_i dd cd sl ho
    split at q
    · rename_i C' bm k0 k1 k2 k3 n k5 hm hs
      simp only [Bool.and_eq_true, beq_iff_eq, Bool.not_eq_true'] at q
      obtain ⟨⟨⟨⟨⟨rfl, rfl⟩, hdel⟩, ht⟩, hok⟩, hni⟩ := q
      obtain ⟨nm, bs, mro, ns, qn, hd, sn, sub, ab, col, del⟩ := cd
      dsimp only at hm hdel hok hni
      subst hm hdel
      have hsl : sl = #[k0, k1, k2, k3, some (.builtin n), k5] := by
        obtain ⟨l⟩ := sl
        simp only at hs
        rw [hs]
      subst hsl
      exact ⟨bm, ns, nm, qn, bs, hd, sn, sub, ab, col, dd, k0, k1, k2, k3, k5, _, X _ _ ho, .of_isNs (PySem.W.isNs_of_in X hok), PySem.W.nsMap_none_of_in X hok hni, PySem.W.tail_of_in X ht⟩
    · cases q
  · cases q
def tRaise (C : Addr) (E : XK) (ta : TA) : TS := fun _ σ H => ta σ H fun vs H1 => vs.length ≤ sizeLine ∧ E (.ref C) none H1
theorem ps_raise {x : Str} {C : Addr} {Bn newId initId : String} {bmB : List Value} {e₀ : Expr} {rest : List Expr} {np cpos pos : Pos} {ta : TA} (FB : ExcBaseFacts Bn newId initId bmB) (hm : mg x = some (.ref C)) (hq : PySem.W.excIn K C bmB newId = true)
    (hh : (A.deeper (envOfC qual scope s0.heap.objs.size f cdv)).handled = none) (ha : PA (cxr P w K mg base N qual scope f cdv A outer s0 H0 E).nox (e₀ :: rest) ta)
    (hg : Gl (cxr P w K mg base N qual scope f cdv A outer s0 H0 E) x := by rfl) (hd : (x == ("__debug__" : Str)) = false := by decide)
    (he : starEach (e₀ :: rest) (cxr P w K mg base N qual scope f cdv A outer s0 H0 E).env = (false, eval e₀ (cxr P w K mg base N qual scope f cdv A outer s0 H0 E).env) :: starEach rest (cxr P w K mg base N qual scope f cdv A outer s0 H0 E).env := by rfl)
    (hp : (backTo cpos (starEach rest (cxr P w K mg base N qual scope f cdv A outer s0 H0 E).env)).any (·.1) = false := by rfl) :
    PS (cxr P w K mg base N qual scope f cdv A outer s0 H0 E) (.Raise (some (.Call (.Name x np) (e₀ :: rest) [] cpos)) none pos) (tRaise C E ta) := by
  intro pins s σ H D I h
  obtain ⟨tl, Na, nm, q, bs, hdct, sn, sub, ab, col, dd, k0, k1, k2, k3, k5, mN, hC, hN, hni, T⟩ := exc_obj (h := base) I.mod.kin hq
  refine wpAny_Raise_call_subT (C := C) (nm := nm) (q := q) (N := Na) (bs := bs) (bm := tl) (hdct := hdct) (sn := sn) (sub := sub) (ab := ab) (col := col) (dd := dd) (k0 := k0) (k1 := k1) (k2 := k2) (k3 := k3) (k5 := k5)
    FB (mN := mN) (T.hasType FB.hasBase) hh (by rw [he]; show (false || (backTo cpos (starEach rest _)).any (·.1)) = false; rw [hp]; rfl) hni (ld_glob I hg hm ⟨rfl, ?_⟩ hd)
  suffices z : wpAny (model P w) (A.deeper (envOfC qual scope s0.heap.objs.size f cdv)) (spliced (backTo cpos (starEach (e₀ :: rest) (cxr P w K mg base N qual scope f cdv A outer s0 H0 E).env))) (fun vs s₂ => vs.length ≤ sizeLine ∧ (∀ b o, base.get? b = some o → s₂.heap.get? b = some o) ∧
      ∀ h' e, Heap.MadeExcOf s₂.heap h' e (.ref C) vs → (cxr P w K mg base N qual scope f cdv A outer s0 H0 E).xe (.ref e) { s₂ with heap := h' }) (cxr P w K mg base N qual scope f cdv A outer s0 H0 E).xe s by
    rw [he] at z ⊢
    exact Calls.evalArgs_plain (wpAny_mono z (fun vs s₂ h₂ => ⟨rfl, h₂.1, h₂.2.1 _ _ hC, hN.keeps h₂.2.1, T.keeps h₂.2.1, h₂.2.2⟩) fun _ _ y => y)
  refine wpAny_mono (ha cpos pins s σ H _ (I.wish _) h) (fun us s2 z => ?_) fun _ _ z => z.elim
  obtain ⟨vs, H1, I1, r, hl, hE⟩ := z
  have I2 : Inv (cxr P w K mg base N qual scope f cdv A outer s0 H0 E) pins σ H1 s2 := I1.unwish
  have bk := I2.bk
  refine ⟨by rw [← r.length]; exact hl, bk, fun h' e hx => ?_⟩
  show wpAny (model P w) (A.deeper (envOfC qual scope s0.heap.objs.size f cdv)) (leaving (envOfC qual scope s0.heap.objs.size f cdv) (.ref e)) _ _ { s2 with heap := h' }
  have hin : ∀ env ∈ (cxr P w K mg base N qual scope f cdv A outer s0 H0 E).stack, ∀ b, env.frame = some b → b ∈ frs (cxr P w K mg base N qual scope f cdv A outer s0 H0 E).stack := fun env he b hb => List.mem_filterMap.mpr ⟨env, he, hb⟩
  have ffB := PySem.W.funFrames_hide I2.stack hin
  have st : (PySem.W.hideAll s2.heap (frs (cxr P w K mg base N qual scope f cdv A outer s0 H0 E).stack)).StaysIn s2.heap := fun b o q => PySem.W.of_hideAll _ q
  have da : DictAt h' e none := by
    obtain ⟨t, ht, _⟩ := hx.there
    exact ⟨_, ht, rfl⟩
  refine wpAny_mono (Kp.any kp_leaving (wpAny_leaves_madeW (outer := outer) (s := { s2 with heap := h' }) (Q := fun _ s3 => ∃ h2 t, s3 = { s2 with heap := h2 } ∧ (PySem.W.hideAll s2.heap (frs (cxr P w K mg base N qual scope f cdv A outer s0 H0 E).stack)).FlyingW outer e (.ref C) (.ref t) h2 ∧ h'.UpToSlots h2) (E := fun _ _ => False) I.ok.frames rfl st ffB hx fun h2 t fl _ _ up => ⟨h2, t, rfl, fl, up⟩)) (fun _ s3 z => ?_) fun _ _ z => z.elim
  obtain ⟨⟨h2, t, rfl, fl, up⟩, kd⟩ := z
  refine out_of (s' := { s2 with heap := h' }) (H := H1) (s := s2) I2 fl (da.kd kd) (ffB.of_keeps fun b o e _ => ⟨o, hx.keeps b o e, rfl⟩) (fun b o q => hx.keeps b o (st b o q)) (Un.kept hx.keeps) (I2.hok.kept hx.keeps) rfl I2.bare (fun b o e hb => ⟨o, PySem.W.hideAll_get _ e hb⟩) (fun b u e => ?_) up hE
  obtain ⟨o, ho⟩ : ∃ o, s2.heap.get? b = some o := by
    have := I2.hok b u e
    exact obj_some this
  exact ⟨o, PySem.W.hideAll_get _ ho fun z => by
    have := I2.stkFree b z
    rw [e] at this
    cases this⟩
end
end Ty

set_option maxHeartbeats 4000000
namespace Ty
open PySem PySem.Spec PyProof.Rows L2
section
variable {X : Cx} {pins : List (Addr × Obj)} {σ : L2.St} {H H' : Hp} {s : Shared}
theorem gone_ok {M : Model} {A : Around} {E : Value → Shared → Prop} {i : Nat} {x : Str} {pos : Pos} {Q : Unit → Shared → Prop} (I : Inv X pins σ H s) (hN : X.N.Nodup) (hi : X.N[i]? = some x) (hk : X.env.scope.names.lookup x = some .local)
    (h : ∀ s', Inv X pins (σ.set i none) H s' → Q () s') : wpAny M A (do bindName X.env x .none; unbindBehindTheSuite X.env x pos) Q E s := by
  obtain ⟨m, hn, hl⟩ := id I.loc
  have hcls : (X.env.scope.kind == .class || (X.env.scope.kind == .module && X.env.locals != X.env.globals)) = false := by rw [I.ok.kind]; rfl
  have hiσ : i < σ.length := by rw [I.len]; exact (List.getElem?_eq_some_iff.mp hi).1
  have cne := I.cne
  refine wpAny_nameGoes_keeps hk hn hcls fun h' v0 hn' hs => ?_
  obtain ⟨oL, _, _, hoL, _⟩ := id hn
  have tracked : HOk X.prog X.w H h' := fun b ob e => by
    refine (I.hok b ob e).stay (fun c w' hc q => (hs.2 c ?_).trans q) (fun _ q => q) fun _ _ q => q
    rintro rfl
    have hfree := I.free
    rcases hc with rfl | hc
    · rw [hfree] at e; cases e
    · rw [hfree] at hc; cases hc
  refine h _ ⟨I.ok, I.os, I.bare, ⟨fun b o e n hb hx => ?_, fun b o e n hb hx => ?_, I.base.free, fun b o e hx => ?_, I.base.tups, I.base.frzs, I.base.tbls⟩, ⟨_, hn', fun j y v' e1 e2 e3 => ?_⟩, fun y c e => ?_, I.free, I.freeC, fun p hp => ?_, tracked, by simpa using I.len⟩
  · exact (hs.2 b (Nat.ne_of_lt (Nat.lt_of_lt_of_le (Heap.lt_size e) I.ok.above))).trans (I.base.keep b o e n hb hx)
  · obtain ⟨sl, e1⟩ := I.base.slot b o e n hb hx
    exact ⟨sl, (hs.2 b (Nat.ne_of_lt (Nat.lt_of_lt_of_le (Heap.lt_size e) I.ok.above))).trans e1⟩
  · obtain ⟨o', e1⟩ := I.base.there b o e hx
    exact ⟨o', (hs.2 b (Nat.ne_of_lt (Nat.lt_of_lt_of_le (Heap.lt_size e) I.ok.above))).trans e1⟩
  · by_cases hj : j = i
    · subst hj
      rw [List.getElem?_set_self hiσ] at e2
      cases e2
    · rw [List.getElem?_set_ne (Ne.symm hj)] at e2
      obtain ⟨u', r', q⟩ := hl j y v' e1 e2 e3
      refine ⟨u', r', ?_⟩
      rcases q with ⟨k, e⟩ | ⟨k, c, e, z⟩
      · refine .inl ⟨k, ?_⟩
        have : y ≠ x := fun e => hj (nodup_ix hN e1 (e ▸ hi))
        simp [this, e]
      · exact .inr ⟨k, c, e, z.sameBut hs (cne y c e)⟩
  · obtain ⟨w', z⟩ := I.cell y c e
    exact ⟨w', z.sameBut hs (cne y c e)⟩
  · obtain ⟨e, n, ne, nf, d⟩ := I.pin p hp
    exact ⟨(hs.2 p.1 ne).trans e, n, ne, nf, d⟩
abbrev hnd (X : Cx) (a : Addr) : Cx := { X with A := X.A.mark (some (.ref a)), calm := false, xe := fun _ _ => False }
theorem hnd_ok {a : Addr} (ok : X.Ok) : (hnd X a).Ok :=
  ⟨ok.mod, ok.kind, ok.glob, ok.blt, ok.above, ok.inj, ok.has, ok.cab, fun z => (nomatch z), ok.frames, ok.stk, ok.exf, ok.bs, ok.bsz, ok.noex, ok.exfs, ok.funs, ok.frf⟩
theorem to_hnd {a : Addr} (I : Inv X pins σ H s) : Inv (hnd X a) pins σ H s := ⟨hnd_ok I.ok, I.os, I.bare, I.base, I.loc, I.cell, I.free, I.freeC, I.pin, I.hok, I.len⟩
theorem of_hnd {a : Addr} (ok : X.Ok) (I : Inv (hnd X a) pins σ H s) : Inv X pins σ H s := ⟨ok, I.os, I.bare, I.base, I.loc, I.cell, I.free, I.freeC, I.pin, I.hok, I.len⟩
theorem track {a : Addr} {o : HO} (I : Inv X pins σ H s) (fresh : ∀ ob, X.s₀.heap.get? a ≠ some ob) (hp : ∀ p ∈ X.pn ++ pins, p.1 ≠ a) (hL : a ≠ X.env.locals) (hC : ∀ x c, X.env.cells.lookup x = some c → c ≠ a) (hn : H a = none)
    (new : ObjOk X.prog X.w (upd H a o) s.heap a o) : Inv X pins σ (upd H a o) s := by
  have ne : ∀ b u, H b = some u → b ≠ a := fun b u e z => by rw [z, hn] at e; cases e
  refine ⟨I.ok, I.os, I.bare, ⟨I.base.keep, I.base.slot, fun b ob e n hx => ?_, I.base.there, fun b xs e => ?_, fun b ob u e => ?_, fun b ps e => ?_⟩, I.loc, I.cell, ?_, fun x c e => ?_, fun p h => ?_, fun b u e => ?_, I.len⟩
  · rw [upd_ne (fun z => fresh ob (by rw [← z]; exact e))]
    exact I.base.free b ob e n hx
  · have q := I.base.tups b xs e
    rw [upd_ne (ne _ _ q)]
    exact q
  · have q := I.base.frzs b ob u e
    rw [upd_ne (ne _ _ q)]
    exact q
  · obtain ⟨more, q⟩ := I.base.tbls b ps e
    exact ⟨more, by rw [upd_ne (ne _ _ q)]; exact q⟩
  · rw [upd_ne (Ne.symm hL)]
    exact I.free
  · rw [upd_ne (hC x c e)]
    exact I.freeC x c e
  · obtain ⟨e, n, r⟩ := I.pin p h
    exact ⟨e, by rw [upd_ne (hp p h)]; exact n, r⟩
  · by_cases z : b = a
    · subst z
      rw [upd_same] at e
      cases e
      exact new
    · rw [upd_ne z] at e
      exact (I.hok b u e).stay (fun _ _ _ q => q) (fun c q => by rw [upd_ne (ne _ _ q)]; exact q) fun c xs q => by rw [upd_ne (ne _ _ q)]; exact q
def excO (cls : Value) (a : Addr) (dx : Option Addr) : HO := .ext fun h => ∃ o vs, h.get? a = some o ∧ o.cls = cls ∧ o.data = .fields vs ∧ o.dict = dx
theorem excO_ok {P : Program} {w : World} {cls : Value} {a : Addr} {dx : Option Addr} {h : Heap} {o : Obj} {vs : Array Value} (e : h.get? a = some o) (hc : o.cls = cls) (hd : o.data = .fields vs) (hx : o.dict = dx) : ObjOk P w H h a (excO cls a dx) :=
  ⟨⟨o, vs, e, hc, hd, hx⟩, ⟨o, e⟩, fun _ _ ⟨o', vs', q, c, d, x⟩ k => ⟨o', vs', k _ q, c, d, x⟩⟩
structure Ld (X : Cx) (pins : List (Addr × Obj)) (σ : L2.St) (H : Hp) (a : Addr) (cls : Value) (dx : Option Addr) (s : Shared) : Prop where
  ex : ∃ (H0 : Hp) (s0 : Shared) (a0 : Value) (B : Heap), Inv X pins σ H0 s0 ∧ Heap.FlyingW B X.stack a cls a0 s.heap ∧ DictAt s.heap a dx ∧ Un (frs X.stack) [] H0 H s0.heap s.heap ∧ HOk X.prog X.w H s.heap ∧ s.os = s0.os ∧ AllBare s.gens ∧
    (∀ b o, s0.heap.get? b = some o → b ∉ frs X.stack → ∃ o', B.get? b = some o') ∧ (∀ b u, H b = some u → ∃ o, B.get? b = some o)
theorem Ld.inv {a : Addr} {cls : Value} {dx : Option Addr} (L : Ld X pins σ H a cls dx s) : Inv X pins σ H s := by
  obtain ⟨H0, s0, a0, B, I, fl, da, un, ok, os, bare, th, tr⟩ := L.ex
  exact I.call' (ch := []) os un ok bare fun b z => absurd z (by simp)
theorem Ld.free {a : Addr} {cls : Value} {dx : Option Addr} (L : Ld X pins σ H a cls dx s) : H a = none := by
  obtain ⟨H0, s0, a0, B, I, fl, da, un, ok, os, bare, th, tr⟩ := L.ex
  cases q : H a with
  | none => rfl
  | some u =>
    obtain ⟨o, e⟩ := tr a u q
    rw [fl.2.1] at e
    cases e
abbrev TH := Value → Option Addr → Ends → L2.St → Hp → Prop
def PH (X : Cx) (hs : List ExceptHandler) (t : TH) : Prop :=
  ∀ (pins : List (Addr × Obj)) (s : Shared) (σ : L2.St) (H : Hp) (a : Addr) (cls : Value) (dx : Option Addr) (D : Ends), Ld X pins σ H a cls dx s → t cls dx D σ H → wpAny (model X.prog X.w) X.A (handleBy (.ref a) X.env hs) (SP X pins D) X.xe s
theorem ph_nil : PH X [] (fun _ _ _ _ _ => False) := fun _ _ _ _ _ _ _ _ _ h => h.elim
structure ClsN (X : Cx) (c : Str) (cv : Value) : Prop where
  ld : ∀ (a : Addr) (pins : List (Addr × Obj)) (s : Shared) (σ : L2.St) (H : Hp) (np : Pos) (Q : Value → Shared → Prop) (E : Value → Shared → Prop), Inv (hnd X a) pins σ H s → Q cv s → wpAny (model X.prog X.w) (X.A.mark (some (.ref a))) (eval (.Name c np) X.env) Q E s
theorem ClsN.own {c : Str} {C : Addr} (hm : X.mg c = some (.ref C)) (hg : Gl X c := by rfl) (hd : (c == ("__debug__" : Str)) = false := by decide) : ClsN X c (.ref C) :=
  ⟨fun a pins s σ H np Q E I h => ld_glob (X := hnd X a) I hg hm h hd⟩
def tAs (i : Nat) (cv : Value) (K : PySem.W.Frag) (ts : TS) (tr : TH) : TH := fun cls dx D σ H => ∃ b, PySem.W.exmOne K cls cv = some b ∧
  if b = true then ∀ a, H a = none → ts { nx := fun σ2 H2 => D.nx (σ2.set i none) H2, rt := D.rt, bk := fun σ2 H2 => D.bk (σ2.set i none) H2, ct := fun σ2 H2 => D.ct (σ2.set i none) H2 } (σ.set i (some (.ref a))) (upd H a (excO cls a dx)) else tr cls dx D σ H
theorem ph_as {c n : Str} {cv : Value} {i : Nat} {b₀ : Stmt} {suite : List Stmt} {np pos : Pos} {rest : List ExceptHandler} {ts : TS} {tr : TH} (hc : ClsN X c cv) (hN : X.N.Nodup) (hi : X.N[i]? = some n) (hk : X.env.scope.names.lookup n = some .local)
    (ht : ∀ a, PSs (hnd X a) (b₀ :: suite) ts) (hr : PH X rest tr) (hex : X.ex = [] := by rfl) : PH X (.ExceptHandler (some (.Name c np)) (some n) (b₀ :: suite) pos :: rest) (tAs i cv X.K ts tr) := by
  intro pins s σ H a cls dx D L h
  obtain ⟨b, hb, h⟩ := h
  have I := L.inv
  refine wpAny_handleBy_cons (codeAny_handlers_test (hc.ld a pins s σ H np _ _ (to_hnd I) ?_)) (by intro q; cases q)
  obtain ⟨H0, s0, a0, B, I0, fl, da, un, ok, os, bare, th, tr'⟩ := L.ex
  obtain ⟨ob, hob, hcls⟩ := fl.there
  have LT : PySem.W.Looks (model X.prog X.w) s.heap (typeOf (.ref a)) cls := by
    subst hcls
    exact (PySem.W.Looks.ld hob).andThen .now
  refine (PySem.W.exm_one I.kIn LT hb).here ?_
  cases b with
  | false =>
    rw [if_neg Bool.false_ne_true] at h
    exact hr pins s σ H a cls dx D L h
  | true =>
    rw [if_pos rfl] at h
    refine codeAny_handlers_suite_as ?_
    refine wpAny_mono (Kp.any kp_setFlight (lands_againW (Q := fun _ s6 => ∃ h6, s6 = { s with heap := h6 } ∧ B.FlyingW X.stack a cls a0 h6 ∧ s.heap.UpToSlots h6) (E := fun _ _ => False) fl fun h6 fl6 up => ⟨h6, rfl, fl6, up⟩)) (fun _ s6 z => ?_) fun _ _ z => z.elim
    obtain ⟨⟨h6, rfl, fl6, up⟩, kd⟩ := z
    have da6 : DictAt h6 a dx := da.kd kd
    have un6 := un_land un fl.1 fl6.1 th fl.2.2.1 up
    have ok6 := hok_land ok fl.1 fl6.1 tr'
    have I6 : Inv X pins σ H { s with heap := h6 } := I0.call' (ch := []) os un6 ok6 bare fun b z => absurd z (by simp)
    have fr := L.free
    obtain ⟨oe, ws, hoe, hoec, hoed, _⟩ := fl6.first
    have hoex : oe.dict = dx := by
      obtain ⟨o', e', d'⟩ := da6
      rw [hoe] at e'
      cases e'
      exact d'
    have ne : ∀ b u, H b = some u → b ≠ a := fun b u e z => by rw [z, fr] at e; cases e
    have new0 : ∀ o, s0.heap.get? a ≠ some o := fun o e => by
      by_cases hb : a ∈ frs X.stack
      · obtain ⟨_, o', e', nf⟩ := fl6.2.2.1.mem hb
        rw [hoe] at e'
        cases e'
        exact nf _ hoed
      · obtain ⟨o', eB⟩ := th a o e hb
        rw [fl.2.1] at eB
        cases eB
    have I7 : Inv X pins σ (upd H a (excO cls a dx)) { s with heap := h6 } := by
      refine track I6 (fun o e => ?_) (fun p hp z => ?_) (fun z => ?_) (fun x c e z => ?_) fr (excO_ok hoe hoec hoed hoex)
      · obtain ⟨o', e'⟩ := I0.base.there a o e (by rw [hex]; simp)
        exact new0 o' e'
      · have q := (I0.pin p hp).1
        rw [z] at q
        exact new0 _ q
      · obtain ⟨m, ⟨oL, es, ep, ho, hd, _⟩, _⟩ := I6.loc
        rw [← z, show ({ s with heap := h6 } : Shared).heap.get? a = some oe from hoe] at ho
        cases ho
        rw [hoed] at hd
        cases hd
      · obtain ⟨v, ⟨oc, ho, hd⟩⟩ := I6.cell x c e
        rw [z, show ({ s with heap := h6 } : Shared).heap.get? a = some oe from hoe] at ho
        cases ho
        rw [hoed] at hd
        cases hd
    refine store_ok I7 hN hi (.inl hk) (v := .ref a) (u := .ref a) rfl (fun s8 I8 => ?_) (.inr hk)
    refine wpAny_mono (ht a pins s8 _ _ _ (to_hnd I8) (h a fr)) (fun f s9 q => ?_) fun _ _ z => z.elim
    cases f with
    | next =>
      obtain ⟨σ2, H2, J, q⟩ := q
      exact gone_ok (of_hnd I0.ok J) hN hi hk fun s' J' => ⟨_, _, J', q⟩
    | brk =>
      obtain ⟨σ2, H2, J, q⟩ := q
      exact gone_ok (of_hnd I0.ok J) hN hi hk fun s' J' => ⟨_, _, J', q⟩
    | cont =>
      obtain ⟨σ2, H2, J, q⟩ := q
      exact gone_ok (of_hnd I0.ok J) hN hi hk fun s' J' => ⟨_, _, J', q⟩
    | ret u =>
      obtain ⟨v, σ2, H2, J, r, q⟩ := q
      exact gone_ok (of_hnd I0.ok J) hN hi hk fun s' J' => ⟨v, _, _, J', r, q⟩
def XP (X : Cx) (pins : List (Addr × Obj)) (σ : L2.St) (E : XK) (e : Value) (s' : Shared) : Prop := ∃ H s, Inv X pins σ H s ∧ CXr X.prog X.w X.stack H s E e s'
abbrev TEx := L2.St → Hp → VK → XK → Prop
abbrev TSx := Ends → (L2.St → XK) → L2.St → Hp → Prop
def PEx (X : Cx) (e : Expr) (t : TEx) : Prop :=
  ∀ (pins : List (Addr × Obj)) (s : Shared) (σ : L2.St) (H : Hp) (Q : VK) (E : XK), Inv X pins σ H s → t σ H Q E → wpAny (model X.prog X.w) X.A (eval e X.env) (EP X pins σ Q) (XP X pins σ E) s
def PSx (X : Cx) (st : Stmt) (t : TSx) : Prop :=
  ∀ (pins : List (Addr × Obj)) (s : Shared) (σ : L2.St) (H : Hp) (D : Ends) (E : L2.St → XK), Inv X pins σ H s → t D E σ H → wpAny (model X.prog X.w) X.A (exec st X.env) (SP X pins D) (fun e s' => ∃ σ', XP X pins σ' (E σ') e s') s
theorem psx_set {i : Nat} {x : Str} {e : Expr} {te : TEx} {pos pos' : Pos} (hN : X.N.Nodup) (hi : X.N[i]? = some x) (hx : Loc X.env.scope x) (he : PEx X e te) (hs : swapsWith e (some (.Name x pos')) pos.line X.env = pure false := by rfl) (hf : X.fn x = true ∨ X.env.scope.names.lookup x = some .local := by first | exact .inl rfl | exact .inr rfl | assumption) :
    PSx X (.Assign [.Name x pos'] e pos) (fun D E σ H => te σ H (fun v H1 => D.nx (σ.set i (some v)) H1) (E σ)) := by
  intro pins s σ H D E I h
  refine wpAny_Assign_Name (wpAny_mono (he pins s σ H _ _ I h) (fun v s1 z => ?_) fun e s' z => ⟨σ, z⟩) hs
  obtain ⟨y, H1, I1, r1, q1⟩ := z
  exact store_ok I1 hN hi hx r1 (fun s2 I2 => ⟨_, H1, I2, q1⟩) hf
theorem ps_try {st : Stmt} {h₀ : ExceptHandler} {hs : List ExceptHandler} {pos : Pos} {tb : TSx} {th : TH} (hstk : X.stack = X.env :: X.outer ∧ X.env.frame = some X.env.locals) (hb : PSx X st tb) (hh : PH X (h₀ :: hs) th) :
    PS X (.Try [st] (h₀ :: hs) [] [] pos) (fun D σ H => tb D (fun σ' cls dx H' => th cls dx D σ' H') σ H) := by
  intro pins s σ H D I h
  refine wpAny_Try_except (wpAny_execs_cons (wpAny_mono (hb pins s σ H D _ I h) (fun f s1 q => ?_) fun e s1 z => ?_))
  · cases f with
    | next => exact wpAny_execs_nil (wpAny_execs_nil q)
    | ret v => exact q
    | brk => exact q
    | cont => exact q
  · obtain ⟨σ', H0, s0, I0, a, cls, a0, dx, H', B, rfl, fl, da, un, ok, os, bare, th', tr, hE⟩ := z
    have fl' := fl
    rw [hstk.1] at fl'
    have hfr : X.A.frames = some (X.env :: X.outer) := by rw [← hstk.1]; exact I.ok.frames
    refine wpAny_mono (Kp.any kp_noteFrame (wpAny_looks_onW (Q := fun _ s4 => ∃ h4, s4 = { s1 with heap := h4 } ∧ B.HeldW (X.env :: X.outer) a cls a0 X.env.locals h4 ∧ s1.heap.UpToSlots h4) (E := fun _ _ => False) hfr hstk.2 fl' fun h4 hheld up4 => ⟨h4, rfl, hheld, up4⟩)) (fun _ s4 z => ?_) fun _ _ z => z.elim
    obtain ⟨⟨h4, rfl, hheld, up4⟩, kd4⟩ := z
    refine wpAny_mono (Kp.any kp_setFlight (wpAny_landsW (s := { s1 with heap := h4 }) (Q := fun _ s5 => ∃ h5, s5 = { s1 with heap := h5 } ∧ B.FlyingW (X.env :: X.outer) a cls a0 h5 ∧ h4.UpToSlots h5) (E := fun _ _ => False) hheld fun h5 fl5 up5 => ⟨h5, rfl, fl5, up5⟩)) (fun _ s5 z => ?_) fun _ _ z => z.elim
    obtain ⟨⟨h5, rfl, fl5, up5⟩, kd5⟩ := z
    have da5 : DictAt h5 a dx := (da.kd kd4).kd kd5
    rw [← hstk.1] at fl5
    have up := up4.trans up5
    exact hh pins { s1 with heap := h5 } σ' H' a cls dx D ⟨H0, s0, a0, B, I0, fl5, da5, un_land un fl.1 fl5.1 th' fl.2.2.1 up, hok_land ok fl.1 fl5.1 tr, os, bare, th', tr⟩ hE
end
end Ty

set_option maxHeartbeats 4000000
namespace TyExc
open PySem PySem.W PySem.Calls PyProof.Rows Builtin Builtin.ObjectAttr Builtin.Getset_descriptor
structure ExcK (K : Frag) (C : Addr) : Prop where
  ga : findIn K (.ref C) "__getattribute__" = some (some (.builtin "BaseException.__getattribute__"))
  gt : findIn K (.ref C) "__getattr__" = some none
  cl : findIn K (.ref C) "__class__" = some (some (.builtin "object.__class__"))
  mo : mroIn K C (.type "object") = some true
  mb : mroIn K C (.type "BaseException") = some true
  is : (clsIn K C).isSome = true
section
variable {prog : Program} {w : World} {A : Around} {E : Value → Shared → Prop} {K : Frag} {h : Heap} {g : Array GenState} {d : Drawn} {t : Nat} {os : OsState} {a C : Addr} {o : Obj}
theorem type_at {M : Model} (hx : h.get? a = some o) (hc : o.cls = .ref C) : Looks M h (typeOf (.ref a)) (.ref C) := by
  subst_vars
  rw [← hc]
  exact (Looks.ld hx).andThen .now
theorem class_get_exc {R : Result → Shared → Prop} {tp : Value} (X : K.In h) (F : ExcK K C) (hx : h.get? a = some o) (hc : o.cls = .ref C)
    (hq : R (.ok (.ret (.ref C))) ⟨h, g, d, t, os⟩) : codeAny (model prog w) A (.call (.builtin "getset_descriptor.__get__") ⟨[.builtin "object.__class__", .ref a, tp], []⟩) R ⟨h, g, d, t, os⟩ := by
  have L0 := type_at (M := model prog w) hx hc
  have L1 := looks_mroIn (M := model prog w) X F.mo
  refine codeAny_call_builtin KF.slot_gs.plain KF.entry_gs (KF.slot_gs.check _ _ _ _ _ _ _ _ KF.type_class (KF.args_gs _ _ _) ?_)
  unfold Builtin.«getset_descriptor.__get__» descrGet
  rw [dga_obj]
  refine wpAny_bind (wpAny_pure ?_)
  unfold descrGetter descrCheckInstance descrNameAndClass isInstance
  simp only [KF.owner_class]
  repeat lk
  refine ⟨Code.quiet_builtin _ (by decide +kernel), codeAny_builtin KF.entry_class ?_⟩
  unfold Builtin.«object.__class__» shownTypeOf
  repeat lk
  exact hq
theorem check_ga_exc {M : Model} {nameV : Value} {Q : Unit → Shared → Prop} (X : K.In h) (F : ExcK K C) (hx : h.get? a = some o) (hc : o.cls = .ref C)
    (hq : Q () ⟨h, g, d, t, os⟩) : wpAny M A (checkBuiltinCall "BaseException.__getattribute__" ⟨[.ref a, nameV], []⟩) Q E ⟨h, g, d, t, os⟩ := by
  have hk : builtinKind "BaseException.__getattribute__" = some .slot := by decide +kernel
  have hsplit : splitId "BaseException.__getattribute__" = some ("BaseException", "__getattribute__") := by decide +kernel
  have ha := PySem.F.args_bexc_ga (.ref a) nameV
  have L0 := type_at (M := M) hx hc
  have L1 := looks_mroIn (M := M) X F.mb
  simp only [checkBuiltinCall, hk, hsplit]
  refine wpAny_bind ?_
  · unfold isInstance
    repeat (first | lk | wp_step)
    exact hq
theorem class_entry_exc {tk : Tok} {Q : Fin → Shared → Prop} (X : K.In h) (F : ExcK K C) (hx : h.get? a = some o) (hc : o.cls = .ref C)
    (hq : Q (.done (.ret (.ref C))) ⟨h, g, d, t, os⟩) : wpAny (model prog w) A (Builtin.«object.__getattribute__» ⟨[.ref a, .str "__class__" tk], []⟩) Q E ⟨h, g, d, t, os⟩ := by
  have L0 := type_at (M := model prog w) hx hc
  have L1 := looks_findIn (M := model prog w) X F.cl
  have hT5 : (⟨h, g, d, t, os⟩ : Shared).TypeIs (.builtin "object.__class__") "getset_descriptor" := PySem.F.typeOf_object_class
  have f5 := PySem.F.typeOf_object_class
  have f6 := PySem.F.slot_gs_get.lookup
  have f7 := PySem.F.slot_gs_set.lookup
  repeat (any_goals (first | assumption | with_reducible refine L1.at ?_ | with_reducible refine L0.at ?_ | (with_reducible refine wpAny_loadPart_at hx ?_; rw [hc]) | wp_step))
  refine class_get_exc X F hx hc ?_
  repeat (any_goals (first | assumption | wp_step))
theorem class_call_exc {tk : Tok} {R : Result → Shared → Prop} (X : K.In h) (F : ExcK K C) (hx : h.get? a = some o) (hc : o.cls = .ref C)
    (hq : R (.ok (.ret (.ref C))) ⟨h, g, d, t, os⟩) : codeAny (model prog w) A (.call (.builtin "BaseException.__getattribute__") ⟨[.ref a, .str "__class__" tk], []⟩) R ⟨h, g, d, t, os⟩ :=
  codeAny_call_builtin PySem.F.attr_ValueError.ga.plain PySem.F.entry_bexc_ga (check_ga_exc X F hx hc (class_entry_exc X F hx hc hq))
theorem class_by_exc {tk : Tok} {Q : Value → Shared → Prop} (X : K.In h) (F : ExcK K C) (hx : h.get? a = some o) (hc : o.cls = .ref C)
    (hq : Q (.ref C) ⟨h, g, d, t, os⟩) : wpAny (model prog w) A (getAttrBy (.ref a) (.str "__class__" tk) false) Q E ⟨h, g, d, t, os⟩ := by
  have L0 := type_at (M := model prog w) hx hc
  have L1 := looks_findIn (M := model prog w) X F.ga
  have L2 := looks_findIn (M := model prog w) X F.gt
  have f3 := PySem.F.attr_ValueError.ga.bind (.ref a)
  have hx2 : (Value.builtin "BaseException.__getattribute__" == Value.builtin "object.__getattribute__") = false := by decide +kernel
  have hx1 : (onTheHeap (Value.ref C) && Value.builtin "BaseException.__getattribute__" == Value.builtin "object.__getattribute__") = false := by rw [hx2]; rfl
  repeat (any_goals (first | assumption | with_reducible refine L1.at ?_ | with_reducible refine L2.at ?_ | with_reducible refine L0.at ?_ | (with_reducible refine wpAny_loadPart_at hx ?_; rw [hc]) | wp_step))
  refine class_call_exc X F hx hc ?_
  repeat (any_goals (first | assumption | wp_step))
theorem class_attr_exc {Q : Option Value → Shared → Prop} (X : K.In h) (F : ExcK K C) (hx : h.get? a = some o) (hc : o.cls = .ref C)
    (hq : Q (some (.ref C)) ⟨h, g, d, t + 1, os⟩) : wpAny (model prog w) A (getAttr? (.ref a) "__class__") Q E ⟨h, g, d, t, os⟩ := by
  unfold getAttr? getAttrBy?
  repeat (any_goals (first | assumption | with_reducible apply class_by_exc X F hx hc | wp_step))
end
def ExcAt (a C : Addr) (h : Heap) : Prop := ∃ o vs, h.get? a = some o ∧ o.cls = .ref C ∧ o.data = .fields vs
theorem kitx_exc {K : Frag} {a C : Addr} (F : ExcK K C) : KitX K (.ref a) (.ref C) (ExcAt a C) where
  ty := fun M h _ ⟨o, vs, hx, hc, _⟩ => type_at hx hc
  it := fun M h X _ => by
    have q := F.is
    unfold clsIn at q
    split at q
    · rename_i c' d' cd' sl' ho
      intro A' Q' E' s' k q
      unfold isType loadHead
      exact wpAny_bind (wpAny_loadPart (k _ _ (X _ _ ho)) (wpAny_pure q))
    · cases q
  ne := fun h tp dd its n sl X htp => by
    have q := F.is
    refine Bool.eq_false_iff.mpr fun z => ?_
    have e : C = tp := Value.ref.inj (beq_iff_eq.mp z)
    subst e
    unfold clsIn at q
    split at q
    · rename_i c' d' cd' sl' ho
      have z := (X _ _ ho).symm.trans htp
      cases z
    · cases q
  ca := fun {prog w A E Q s} X p k => by
    obtain ⟨h, g, d, t, os⟩ := s
    obtain ⟨o, vs, hx, hc, _⟩ := p
    exact class_attr_exc X F hx hc k
end TyExc

set_option maxHeartbeats 4000000
namespace Ty
open PySem PySem.Spec PyProof.Rows L2
section
variable {X : Cx}
def rIsiX (K : PySem.W.Frag) : List V → Hp → VK → Prop := fun xs H Q => ∃ a C c b dx, xs = [.ref a, c] ∧ isCls c = true ∧ H a = some (excO (.ref C) a dx) ∧ TyExc.ExcK K C ∧ PySem.W.kitOne K (.ref C) (clsV c) = some b ∧ Q (.bl b) H
theorem call_isiX {K : PySem.W.Frag} (hK : X.K = K) : CallR X (.builtin "isinstance") (rIsiX K) := by
  subst hK
  intro pins s σ H xs us Q I r h
  obtain ⟨a, C, c, b, dx, rfl, hc, ha, F, e, q⟩ := h
  obtain ⟨u, w, rfl, r1, r2⟩ := vals2 r
  obtain rfl := cls_rel hc r2
  cases r1
  obtain ⟨⟨o, vs, p1, p2, p3, _⟩, _⟩ := (show ObjOk X.prog X.w H s.heap a (excO (.ref C) a dx) from I.hok a _ ha)
  exact PySem.W.kia_one (TyExc.kitx_exc F) I.kIn ⟨o, vs, p1, p2, p3⟩ e (fun z => nomatch z) fun tk => ⟨.bl b, H, I.tok tk, rfl, q⟩
theorem pe_cls {x : Str} {C : Addr} {pos : Pos} (hg : Gl X x) (hm : X.mg x = some (.ref C)) (hd : (x == ("__debug__" : Str)) = false := by decide) : PE X (.Name x pos) (tC (.ref C)) := pe_glob (v := .ref C) hg hm rfl hd
theorem countP_eqU {x : V} : ∀ {xs : List V} {us : List Value}, Vals xs us → xs.all flatV = true → us.countP (eqU x) = xs.countP fun y => eqV y x
  | _, _, .nil, _ => rfl
  | y :: xs, u :: us, .cons r t, f => by
    rw [List.all_cons, Bool.and_eq_true] at f
    rw [List.countP_cons, List.countP_cons, eqU_of r f.1, countP_eqU t f.2]
def rCount (K : PySem.W.Frag) : V → List V → Hp → VK → Prop := fun x vs H Q => ∃ l xs y, x = .ref l ∧ vs = [y] ∧ SqL K H l xs ∧ flatV y = true ∧ xs.all flatV = true ∧ Q (.int (xs.countP (fun z => eqV z y) : Nat)) H
theorem mt_count : MtR X "list.count" (rCount X.K) := by
  intro pins s σ H x vs v us Q I rx rv h
  obtain ⟨l, xs, y, rfl, rfl, hq, fy, fx, q⟩ := h
  cases rx
  obtain ⟨u, rfl, ru⟩ := rv.one
  obtain ⟨its, r, pl, hz⟩ := I.list hq
  obtain ⟨⟨cls, dd, data, sl⟩, ho, hc, n, hd⟩ := id pl.isList
  simp only at hc hd
  subst hc hd
  refine call_meets PySem.F.slot_list_count ⟨_, ho, rfl⟩ PySem.F.entry_list_count (PySem.F.args_list_count_2 _ _) (SeqAt.list_countAt l its.toArray n dd sl u (eqU y)) ⟨ho, fun z hz => mem_eqAt ru fy r fx z (by simpa using hz), ?_⟩
  refine ⟨.int (xs.countP (fun z => eqV z y) : Nat), H, I.tok _, ⟨s.toks, ?_⟩, q⟩
  rw [show its.toArray.toList = its from rfl, countP_eqU r fx]
end
structure RoomH (k : Nat) (A : Around) : Prop where
  dp : A.depth + 3 * k + 5 < recursionLimit
  un : A.units + 16 * k + 200 < cLine
theorem RoomH.of {k : Nat} {A : Around} (r : Room k A) : RoomH k A := ⟨r.dp, r.un⟩
theorem RoomH.mono {j k : Nat} {A : Around} (r : RoomH k A) (h : j ≤ k) : RoomH j A := ⟨by have := r.dp; omega, by have := r.un; omega⟩
theorem RoomH.deeper {k : Nat} {A : Around} (r : RoomH (k + 1) A) (env : Env) : RoomH k (A.deeper env) :=
  ⟨by have := r.dp; show A.depth + 1 + 3 * k + 5 < _; omega, by have := r.un; show A.units + 3 + 16 * k + 200 < _; omega⟩
theorem RoomH.mark {k : Nat} {A : Around} (r : Room k A) (e : Option Value) : RoomH k (A.mark e) := ⟨r.dp, r.un⟩
theorem RoomH.units {k : Nat} {A : Around} (r : RoomH k A) : A.units + 64 < cLine := by have := r.un; omega
structure FnOkH (P : Program) (w : World) (K : PySem.W.Frag) (mg : Str → Option Value) (base : Heap) (k : Nat) (f : Addr) (fd : FuncData) (ps : List Str) (sp : Sp) : Prop where
  len : ∀ vs H Q E, sp vs H Q E → vs.length = ps.length
  run : ∀ (A : Around) (outer : List Env) (s : Shared) (H : Hp) (args : Args) (us : List Value) (vs : List V) (Q : VK), RoomH k A → Env0 P w K mg base A outer s H → BindsTo s fd args (ps.zip us) → Vals vs us → sp vs H Q E0 →
    codeAny (model P w) A (.call (.ref f) args) (CR CX0 outer P w H s Q E0) s
def cxh (P : Program) (w : World) (K : PySem.W.Frag) (mg : Str → Option Value) (base : Heap) (N : List Str) (qual : Str) (scope : Scope) (f : Addr) (cdv : Value) (A : Around) (outer : List Env) (s : Shared) (H : Hp) : Cx :=
  { cxOf CX0 P w K mg base N qual scope f cdv A outer s H E0 with calm := false, xe := fun _ _ => False }
theorem fnH_of {P : Program} {w : World} {K : PySem.W.Frag} {mg : Str → Option Value} {base : Heap} {k : Nat} {f : Addr} {name qual : Str} {params : Arguments} {body : List Stmt} {scope : Scope} {dV kV doc pm cdv ct oc : Value} {an od : Option Addr}
    {osl : Array (Option Value)} {N ps : List Str} {sp : Sp} (lk : K.lookup f = some ⟨oc, od, .func (PySem.W.fnOf name qual params body scope dV kV doc pm an cdv ct), osl⟩) (hcd : PySem.W.codeIn K cdv qual = true) (S : FnScope N ps scope)
    (len : ∀ vs H Q E, sp vs H Q E → vs.length = ps.length)
    (hbody : ∀ (A : Around) (outer : List Env) (s : Shared) (H : Hp) (vs : List V) (Q : VK), RoomH k (A.deeper (envOfC qual scope s.heap.objs.size f cdv)) → sp vs H Q E0 →
      ∃ t, PSs (cxh P w K mg base N qual scope f cdv A outer s H) body t ∧ t { nx := fun _ H' => Q .non H', rt := Q } (start N vs) H) :
    FnOkH P w K mg base (k + 1) f (PySem.W.fnOf name qual params body scope dV kV doc pm an cdv ct) ps sp := by
  refine ⟨len, fun A outer s H args us vs Q hr e0 hb r hsp => ?_⟩
  have hl := len _ _ _ _ hsp
  have KX : K.In s.heap := e0.mod.kin.keeps fun b o e => (e0.bs b o e).1
  have lim : s.heap.NoLimit := e0.mod.nolimit.keeps fun b o e => (e0.bs b o e).1
  have hkind : ∀ y ∈ ps.zip us, scope.names.lookup y.1 = some .local ∨ (scope.names.lookup y.1 = some .cell ∧ ((cellsFrom (s.heap.objs.size + 1) scope.names []).lookup y.1).isSome = true) := fun ⟨n, v⟩ hy => by
    rcases S.par n (List.of_mem_zip hy).1 with q | q
    · exact .inl q
    · exact .inr ⟨q, PySem.W.cellsFrom_some _ _ _ (.inl q)⟩
  refine codeAny_call_function (by have := hr.dp; omega) (KX _ _ lk) rfl S.co S.gen rfl (PySem.W.codeRec_of KX hcd) (hb _ _ _ _ ?_)
  refine wpAny_newFunctionEnv_cells S.kind hkind fun env he s1 x => ?_
  subst he
  refine ⟨lim.keeps x.toInCall.keep, codeAny_func ?_⟩
  obtain ⟨t, ht, hq⟩ := hbody A outer s H vs Q (hr.deeper _) hsp
  have e1 : Env0 P w K mg base { A with handled := none } outer s H := ⟨e0.frames, e0.mod, e0.bs, e0.bsz, e0.funs, e0.frf, e0.hok, e0.bare⟩
  have J : Inv (cxOf CX0 P w K mg base N qual scope f cdv { A with handled := none } outer s H E0) [] (start N vs) H s1 := inv_start S rfl e1 hl r x
  have okh : (cxh P w K mg base N qual scope f cdv A outer s H).Ok := ⟨J.ok.mod, J.ok.kind, J.ok.glob, J.ok.blt, J.ok.above, J.ok.inj, J.ok.has, J.ok.cab, fun z => (nomatch z), Around.frames_deeper e0.frames, J.ok.stk, J.ok.exf, J.ok.bs, J.ok.bsz, J.ok.noex, J.ok.exfs, J.ok.funs, J.ok.frf⟩
  have I : Inv (cxh P w K mg base N qual scope f cdv A outer s H) [] (start N vs) H s1 := ⟨okh, J.os, J.bare, J.base, J.loc, J.cell, J.free, J.freeC, J.pin, J.hok, J.len⟩
  refine wpAny_mono (ht [] s1 (start N vs) H _ I hq) (fun fl s' hs => ?_) fun e s' hs => hs.elim
  have fin : ∀ {σ' : L2.St} {H' : Hp} {v : V} {u : Value}, Inv (cxh P w K mg base N qual scope f cdv A outer s H) [] σ' H' s' → RelV v u → Q v H' → CE outer P w H s Q u s' :=
    fun {σ' H' v u} J rv q => ⟨v, H', J.os, J.bare, J.base, J.hok, rv, q⟩
  cases fl with
  | ret u =>
    obtain ⟨v, σ', H', J, rv, q⟩ := hs
    exact fin J rv q
  | next =>
    obtain ⟨σ', H', J, q⟩ := hs
    exact fin (v := V.non) (u := Value.none) J rfl q
  | brk =>
    obtain ⟨_, _, _, q⟩ := hs
    exact False.elim q
  | cont =>
    obtain ⟨_, _, _, q⟩ := hs
    exact False.elim q
structure FnH (P : Program) (w : World) (K : PySem.W.Frag) (mg : Str → Option Value) (base : Heap) (k : Nat) (x : Str) (ps : List Str) (sp : Sp) : Prop where
  ex : ∃ (f : Addr) (fd : FuncData), FnOkH P w K mg base k f fd ps sp ∧ Binds K fd ps [] ∧ mg x = some (.ref f) ∧ PySem.W.keepIn K (.ref f) = true
theorem Def.okH {P : Program} {w : World} {K : PySem.W.Frag} {mg : Str → Option Value} {base : Heap} {x : Str} {st : Stmt} {N ps : List Str} {k : Nat} {sp : Sp} (D : Def K mg x st ps) (S : FnScope N ps (defScope st)) (len : ∀ vs H Q E, sp vs H Q E → vs.length = ps.length)
    (hbody : ∀ (f : Addr) (cdv : Value) (A : Around) (outer : List Env) (s : Shared) (H : Hp) (vs : List V) (Q : VK), RoomH k (A.deeper (envOfC x (defScope st) s.heap.objs.size f cdv)) → sp vs H Q E0 →
      ∃ t, PSs (cxh P w K mg base N x (defScope st) f cdv A outer s H) (defBody st) t ∧ t { nx := fun _ H' => Q .non H', rt := Q } (start N vs) H) : FnH P w K mg base (k + 1) x ps sp := by
  obtain ⟨f, dV, oc, od, kV, doc, pm, an, cdv, ct, osl, lk, hcd, kp, b, m⟩ := D.ex
  exact ⟨f, _, fnH_of lk hcd S len fun A outer s H vs Q hr hsp => hbody f cdv A outer s H vs Q hr hsp, b, m, kp⟩
theorem pe_fnH {X : Cx} {k : Nat} {ps : List Str} {sp : Sp} {x : Str} {p pos : Pos} {e : Expr} {es : List Expr} {t : TA} (F : FnH X.prog X.w X.K X.mg X.base k x ps sp) (hr : RoomH k X.A) (ha : PA X (e :: es) t) (hg : Gl X x := by rfl) (hdb : (x == ("__debug__" : Str)) = false := by decide)
    (he : starEach (e :: es) X.env = (false, eval e X.env) :: starEach es X.env := by rfl) (hpl : (backTo pos (starEach es X.env)).any (·.1) = false := by rfl) :
    PE X (.Call (.Name x p) (e :: es) [] pos) (tCall sp [] E0 t) := by
  intro pins s σ H Q I h
  obtain ⟨f, fd, G, b, m, kp⟩ := F.ex
  refine wpAny_Call_Name_kw (ld_glob I hg m ?_ hdb)
  refine PySem.W.callWith_K (h₀ := X.base) I.ok.mod.kin kp (thn (ha pos pins s σ H _ I h) fun us s1 ⟨vs, H1, I1, r, q⟩ => ⟨I1.kIn, ?_⟩) he hpl
  dsimp only at q
  rw [List.append_nil] at q
  have hl : us.length = ps.length := by rw [← r.length]; exact G.len _ _ _ _ q
  have bt := b s1 us I1.kIn (by rw [List.append_nil]; exact hl)
  rw [List.append_nil] at bt
  refine wpAny_call (codeAny_mono (G.run X.A X.stack s1 H1 ⟨us, []⟩ us vs Q hr I1.env0 bt r q) fun r s' hq => ?_)
  cases r with
  | error e => exact False.elim hq
  | ok fl =>
    cases fl with
    | ret u => exact I1.after hq
    | next => exact False.elim hq
    | brk => exact False.elim hq
    | cont => exact False.elim hq
theorem Def.okX {P : Program} {w : World} {K : PySem.W.Frag} {mg : Str → Option Value} {base : Heap} {x : Str} {st : Stmt} {N ps : List Str} {k : Nat} {sp : Sp} (D : Def K mg x st ps) (S : FnScope N ps (defScope st)) (len : ∀ vs H Q E, sp vs H Q E → vs.length = ps.length)
    (hbody : ∀ (f : Addr) (cdv : Value) (A : Around) (outer : List Env) (s : Shared) (H : Hp) (vs : List V) (Q : VK) (E : XK), Room k (A.deeper (envOfC x (defScope st) s.heap.objs.size f cdv)) → sp vs H Q E →
      ∃ t, PSs (cxr P w K mg base N x (defScope st) f cdv A outer s H E) (defBody st) t ∧ t { nx := fun _ H' => Q .non H', rt := Q } (start N vs) H) : Fn P w K mg base (CXr P w) (k + 1) x ps sp := by
  obtain ⟨f, dV, oc, od, kV, doc, pm, an, cdv, ct, osl, lk, hcd, kp, b, m⟩ := D.ex
  exact ⟨f, _, fn_of lk hcd S len fun A outer s H vs Q E hr hsp => hbody f cdv A outer s H vs Q E hr hsp, b, m, kp⟩
theorem DefD.okX {P : Program} {w : World} {K : PySem.W.Frag} {mg : Str → Option Value} {base : Heap} {x : Str} {st : Stmt} {N ps : List Str} {ds : List Value} {k : Nat} {sp : Sp} (D : DefD K mg x st ps ds) (S : FnScope N ps (defScope st)) (len : ∀ vs H Q E, sp vs H Q E → vs.length = ps.length)
    (hbody : ∀ (f : Addr) (cdv : Value) (A : Around) (outer : List Env) (s : Shared) (H : Hp) (vs : List V) (Q : VK) (E : XK), Room k (A.deeper (envOfC x (defScope st) s.heap.objs.size f cdv)) → sp vs H Q E →
      ∃ t, PSs (cxr P w K mg base N x (defScope st) f cdv A outer s H E) (defBody st) t ∧ t { nx := fun _ H' => Q .non H', rt := Q } (start N vs) H) : Fn P w K mg base (CXr P w) (k + 1) x ps sp ∧ FnD P w K mg base (CXr P w) (k + 1) x ps ds sp := by
  obtain ⟨f, dV, oc, od, kV, doc, pm, an, cdv, ct, osl, lk, hcd, kp, b, b2, m⟩ := D.ex
  have F := fn_of (CX := CXr P w) (P := P) (w := w) (mg := mg) (base := base) lk hcd S len fun A outer s H vs Q E hr hsp => hbody f cdv A outer s H vs Q E hr hsp
  exact ⟨⟨f, _, F, b, m, kp⟩, ⟨f, _, F, b2, m, kp⟩⟩
abbrev bmVE : List Value := [.type "ValueError", .type "Exception", .type "BaseException", .type "object"]
end Ty

set_option maxHeartbeats 4000000
namespace TyExc
open PySem PySem.W PySem.Calls PyProof.Rows Builtin Builtin.ObjectAttr Builtin.Getset_descriptor
section
variable {prog : Program} {w : World} {A : Around} {E : Value → Shared → Prop} {K : Frag} {h : Heap} {g : Array GenState} {d : Drawn} {t : Nat} {os : OsState} {a C : Addr} {o : Obj} {od : Option Obj} {name : Str} {v : Value}
theorem fld_entry {tk : Tok} {Q : Fin → Shared → Prop} (X : K.In h) (I : InstAt h a o C od) (hf : findObj K C od name = some (.value v))
    (hq : Q (.done (.ret v)) ⟨h, g, d, t, os⟩) : wpAny (model prog w) A (Builtin.«object.__getattribute__» ⟨[.ref a, .str name tk], []⟩) Q E ⟨h, g, d, t, os⟩ := by
  have L0 := InstAt.type (M := model prog w) I
  have L1 := looks_find (M := model prog w) X I hf
  repeat (any_goals (first | assumption | with_reducible refine L1.at ?_ | with_reducible refine L0.at ?_ | wp_step))
theorem fld_call {tk : Tok} {R : Result → Shared → Prop} (X : K.In h) (F : ExcK K C) (I : InstAt h a o C od) (hf : findObj K C od name = some (.value v))
    (hq : R (.ok (.ret v)) ⟨h, g, d, t, os⟩) : codeAny (model prog w) A (.call (.builtin "BaseException.__getattribute__") ⟨[.ref a, .str name tk], []⟩) R ⟨h, g, d, t, os⟩ :=
  codeAny_call_builtin PySem.F.attr_ValueError.ga.plain PySem.F.entry_bexc_ga (check_ga_exc X F I.at_ I.cls (fld_entry X I hf hq))
theorem fld_by {tk : Tok} {fill expr : Bool} {Q : Value → Shared → Prop} (X : K.In h) (F : ExcK K C) (I : InstAt h a o C od) (hf : findObj K C od name = some (.value v)) (hh : handedIn v = true)
    (hq : Q v ⟨h, g, d, t, os⟩) : wpAny (model prog w) A (getAttrBy (.ref a) (.str name tk) fill expr) Q E ⟨h, g, d, t, os⟩ := by
  have hx := I.at_
  have hc := I.cls
  have L0 := type_at (M := model prog w) hx hc
  have L1 := looks_findIn (M := model prog w) X F.ga
  have L2 := looks_findIn (M := model prog w) X F.gt
  have f3 := PySem.F.attr_ValueError.ga.bind (.ref a)
  have hx2 : (Value.builtin "BaseException.__getattribute__" == Value.builtin "object.__getattribute__") = false := by decide +kernel
  have hx1 : (onTheHeap (Value.ref C) && Value.builtin "BaseException.__getattribute__" == Value.builtin "object.__getattribute__") = false := by rw [hx2]; rfl
  have ho := handedOut_of hh
  repeat (any_goals (first | assumption | with_reducible refine L1.at ?_ | with_reducible refine L2.at ?_ | with_reducible refine L0.at ?_ | (with_reducible refine wpAny_loadPart_at hx ?_; rw [hc]) | wp_step))
  have hx3 : (expr && onTheHeap (Value.builtin "BaseException.__getattribute__")) = false := by cases expr <;> rfl
  rw [hx3]
  repeat (any_goals (first | assumption | wp_step))
  refine fld_call X F I hf ?_
  repeat (any_goals (first | assumption | (rw [ho]; refine wpAny_pure ?_) | wp_step))
theorem getattr_exc {b : Bool} {s : Shared} {Q : Value → Shared → Prop} (X : K.In s.heap) (F : ExcK K C) (I : InstAt s.heap a o C od) (hf : findObj K C od name = some (.value v)) (hh : handedIn v = true)
    (hq : Q v { s with toks := s.toks + 1 }) : wpAny (model prog w) A (getAttr (.ref a) name b) Q E s := by
  obtain ⟨h, g, d, t, os⟩ := s
  unfold getAttr
  refine wpAny_bind (wpAny_mkText ?_)
  exact fld_by X F I hf hh hq
end
end TyExc

set_option maxHeartbeats 4000000
namespace TyExc
open PySem PySem.W PySem.Calls PyProof.Rows Builtin Builtin.ObjectAttr
def isRf : Value → Bool
  | .ref _ => true
  | _ => false
def exOnly (l : List Value) : Bool := l.dropWhile isRf == [.type "ValueError", .type "Exception", .type "BaseException", .type "object"]
theorem refuse_drop {self : Value} {what : Str} : ∀ l : List Value, refuseLoop self what l = refuseLoop self what (l.dropWhile isRf)
  | [] => rfl
  | v :: l => by
    cases v with
    | ref a =>
      rw [refuseLoop_ref, refuse_drop l]
      rfl
    | _ => rfl
theorem exOnly_refuse {self : Value} {l : List Value} (h : exOnly l = true) : refuseLoop self "__setattr__" l = pure () := by
  rw [refuse_drop, beq_iff_eq.mp h]
  exact PySem.F.store_ValueError.passes self
section
variable {prog : Program} {w : World} {A : Around} {E : Value → Shared → Prop} {K : Frag} {s : Shared} {x C : Addr} {ox : Obj} {od : Option Obj} {name : Str} {v : Value} {cd : ClassData}
theorem osa_exc {tk : Tok} {R : Result → Shared → Prop} (X : K.In s.heap) (I : InstAt s.heap x ox C od) (F : ExcK K C) (hc : clsIn K C = some cd) (ho : exOnly cd.mro = true) (hn : findIn K (.ref C) name = some none)
    (h : wpAny (model prog w) A.in1 (storeInOwnDict (.ref x) (.ref C) (.str name tk) name v false) (fun fin s' => match fin with | .done f => R (.ok f) s' | .again c' => c'.quiet = true ∧ codeAny (model prog w) A c' R s') (fun e s' => R (.error e) s') s) :
    codeAny (model prog w) A (.call (.builtin "object.__setattr__") ⟨[.ref x, .str name tk, v], []⟩) R s := by
  have SF := PySem.F.store_object
  have L0 := InstAt.type (M := model prog w) I
  have sub := L0.andThen (f := fun tp => isSubtype tp (.type "object")) (looks_mroIn (M := model prog w) X F.mo)
  refine codeAny_call_builtin SF.slot.plain SF.entry (check_slot SF.kind SF.split sub (SF.args _ _ _) ?_)
  have hm : Looks (model prog w) s.heap (mroOf (.ref C)) cd.mro := (looks_clsIn X hc).andThen .now
  have L1 := looks_findIn (M := model prog w) X hn
  unfold Builtin.«object.__setattr__»
  dsimp only
  rw [refuse_eq]
  have e := exOnly_refuse (self := .ref x) ho
  refine wpAny_ite_false rfl ?_
  refine wpAny_bind (wpAny_bind (L0.here (wpAny_bind (hm.here ?_))))
  rw [e]
  refine wpAny_pure ?_
  repeat (any_goals (first | assumption | with_reducible refine L1.at ?_ | with_reducible refine L0.at ?_ | wp_step))
theorem setattr_exc0 {vs : Array Value} {Q : Unit → Shared → Prop} (X : K.In s.heap) (hx : s.heap.get? x = some ox) (hcl : ox.cls = .ref C) (hdt : ox.data = .fields vs) (hdi : ox.dict = none) (F : ExcK K C)
    (hs : findIn K (.ref C) "__setattr__" = some (some (.builtin "object.__setattr__"))) (hc : clsIn K C = some cd) (hh : cd.hasDict = true) (ho : exOnly cd.mro = true) (hn : findIn K (.ref C) name = some none)
    (h : ∀ h' tk, h'.get? x = some { ox with dict := some s.heap.objs.size } → h'.Ns1 s.heap.objs.size (fun y => if y = name then some v else none) → (∀ b o, b ≠ x → s.heap.get? b = some o → h'.get? b = some o) → Q () { s with heap := h', toks := tk }) :
    wpAny (model prog w) A (setAttr (.ref x) name v) Q E s := by
  have I : InstAt s.heap x ox C none := ⟨hx, hcl, by unfold notCls; rw [hdt], by rw [hdi]; trivial⟩
  refine set_plain X I hs (osa_exc (s := { s with toks := s.toks + 1 }) X I F hc ho hn ?_)
  have L2 := looks_clsIn (M := model prog w) X hc
  obtain ⟨oc, odi, odt, osl⟩ := ox
  dsimp only at hcl hdt hdi
  subst hcl hdt hdi
  unfold storeInOwnDict
  refine wpAny_bind (wpAny_pure ?_)
  dsimp only
  refine wpAny_ite_false rfl ?_
  refine wpAny_bind ?_
  unfold ownDictForStores instanceDict
  dsimp only
  refine wpAny_bind (wpAny_loadPart hx ?_)
  dsimp only
  refine wpAny_bind (L2.here (s := { s with toks := s.toks + 1 }) ?_)
  rw [hh]
  refine wpAny_ite_false rfl ?_
  refine wpAny_ite_false rfl ?_
  refine wpAny_bind (wpAny_alloc ?_)
  have hx2 : (s.heap.push { cls := Value.type "dict", data := Data.dict #[] }).get? x = some ⟨.ref C, none, .fields vs, osl⟩ := Heap.get?_push_of_some _ hx
  refine wpAny_bind (wpAny_update hx2 ?_)
  refine wpAny_pure ?_
  have ne : s.heap.objs.size ≠ x := fun z => by have := Heap.lt_size hx; rw [← z] at this; exact Nat.lt_irrefl _ this
  have e1 : (s.heap.push { cls := Value.type "dict", data := Data.dict #[] }).get? s.heap.objs.size = some { cls := Value.type "dict", data := Data.dict #[] } := Heap.get?_push_size s.heap rfl
  generalize hH : (s.heap.push { cls := Value.type "dict", data := Data.dict #[] }).update x (fun o => { cls := o.cls, dict := some s.heap.objs.size, data := o.data, slots := o.slots }) = h2
  have e2 : h2.get? s.heap.objs.size = some { cls := Value.type "dict", data := Data.dict #[] } := by rw [← hH]; exact (Heap.get?_update_other _ _ (Ne.symm ne)).trans e1
  have x2 : h2.get? x = some ⟨.ref C, some s.heap.objs.size, .fields vs, osl⟩ := by rw [← hH]; exact Heap.get?_update_self _ hx2 rfl
  have k2 : ∀ b o, b ≠ x → s.heap.get? b = some o → h2.get? b = some o := fun b o n e => by rw [← hH]; exact (Heap.get?_update_other _ _ (Ne.symm n)).trans (Heap.get?_push_of_some _ e)
  have n2 : h2.Ns s.heap.objs.size (fun _ => none) := ⟨_, #[], _, e2, rfl, (fun e he => absurd he (by simp)), fun _ => rfl⟩
  have n3 := Heap.Ns1.of_empty n2
  dsimp only
  unfold storeInDict
  refine wpAny_bind (wpAny_pure (wpAny_bind ?_))
  refine wpAny_nsSet1 (s := { s with heap := h2, toks := s.toks + 1 }) n3 fun h' hn2 hs2 => ?_
  obtain ⟨oD, esD, epD, hoD, hdD, hcD⟩ := hn2.count (PySem.Within.cons name v (ns := []) (fun y hy => absurd rfl hy))
  refine wpAny_bind (wpAny_lookBehind hoD (by rw [hdD]; exact pastItsLine_dict (Nat.le_trans hcD (Nat.le_add_left 1 _))) ?_)
  refine wpAny_pure (h h' _ ((hs2.2 _ (Ne.symm ne)).trans x2) hn2 fun b o n e => ?_)
  exact (hs2.2 b (fun z => by have := Heap.lt_size e; rw [z] at this; exact Nat.lt_irrefl _ this)).trans (k2 b o n e)
theorem setattr_exc1 {vs : Array Value} {dx : Addr} {mA : Str → Option Value} {ns : List Str} {Q : Unit → Shared → Prop} (X : K.In s.heap) (hx : s.heap.get? x = some ox) (hcl : ox.cls = .ref C) (hdt : ox.data = .fields vs) (hdi : ox.dict = some dx) (hne : dx ≠ x) (hns : s.heap.Ns1 dx mA) (hwi : PySem.Within mA ns) (hsz : ns.length ≤ sizeLine) (F : ExcK K C)
    (hs : findIn K (.ref C) "__setattr__" = some (some (.builtin "object.__setattr__"))) (hc : clsIn K C = some cd) (hh : cd.hasDict = true) (ho : exOnly cd.mro = true) (hn : findIn K (.ref C) name = some none)
    (h : ∀ h' tk, h'.Ns1 dx (fun y => if y = name then some v else mA y) → Heap.SameBut dx s.heap h' → Q () { s with heap := h', toks := tk }) :
    wpAny (model prog w) A (setAttr (.ref x) name v) Q E s := by
  obtain ⟨od, eod⟩ : ∃ od, s.heap.get? dx = some od := by obtain ⟨o, _, _, e, _⟩ := hns; exact ⟨o, e⟩
  have I : InstAt s.heap x ox C (some od) := ⟨hx, hcl, by unfold notCls; rw [hdt], by rw [hdi]; exact eod⟩
  refine set_plain X I hs (osa_exc (s := { s with toks := s.toks + 1 }) X I F hc ho hn ?_)
  have L2 := looks_clsIn (M := model prog w) X hc
  obtain ⟨oc, odi, odt, osl⟩ := ox
  dsimp only at hcl hdt hdi
  subst hcl hdt hdi
  unfold storeInOwnDict
  refine wpAny_bind (wpAny_pure ?_)
  dsimp only
  refine wpAny_ite_false rfl ?_
  refine wpAny_bind ?_
  unfold ownDictForStores instanceDict
  dsimp only
  refine wpAny_bind (wpAny_loadPart hx ?_)
  dsimp only
  refine wpAny_bind (L2.here (s := { s with toks := s.toks + 1 }) ?_)
  rw [hh]
  refine wpAny_ite_false rfl ?_
  refine wpAny_pure ?_
  dsimp only
  unfold storeInDict
  refine wpAny_bind (wpAny_pure (wpAny_bind ?_))
  refine wpAny_nsSet1 (s := { s with toks := s.toks + 1 }) hns fun h' hn2 hs2 => ?_
  obtain ⟨oD, esD, epD, hoD, hdD, hcD⟩ := hn2.count (PySem.Within.cons name v hwi)
  refine wpAny_bind (wpAny_lookBehind hoD (by rw [hdD]; exact pastItsLine_dict (Nat.le_trans hcD (by rw [List.length_cons]; omega))) ?_)
  exact wpAny_pure (h h' _ hn2 hs2)
end
end TyExc

set_option maxHeartbeats 400000
namespace TyExc
open PySem PySem.W PySem.Calls PyProof.Rows Builtin
section
variable {prog : Program} {w : World} {A : Around} {K : Frag} {h : Heap} {g : Array GenState} {d : Drawn} {t : Nat} {os : OsState} {e C : Addr} {oe : Obj} {vs : Array Value} {args : List Value} {E : Value → Shared → Prop}
theorem check_init {Q : Unit → Shared → Prop} (X : K.In h) (hx : h.get? e = some oe) (hcl : oe.cls = .ref C) (hm : mroIn K C (.type "ValueError") = some true) (hi : (clsIn K C).isSome = true)
    (hq : Q () ⟨h, g, d, t, os⟩) : wpAny (model prog w) A (checkBuiltinCall "ValueError.__init__" ⟨.ref e :: args, []⟩) Q E ⟨h, g, d, t, os⟩ := by
  have FB := PySem.F.excBase_ValueError
  have L0 := type_at (M := model prog w) hx hcl
  have L1 := looks_mroIn (M := model prog w) X hm
  obtain ⟨cd, hc⟩ := Option.isSome_iff_exists.mp hi
  have L2 := looks_clsIn (M := model prog w) X hc
  have fk := FB.initKind
  have fs := FB.initSplit
  have fr := FB.initRow
  have hshort := FB.noStar
  simp only [checkBuiltinCall, fk, fs, fr]
  refine wpAny_bind ?_
  unfold isInstance
  refine wpAny_bind (L0.here (L1.here ?_))
  refine wpAny_ite_false rfl ?_
  unfold Bind.checkArgs
  dsimp only
  refine wpAny_bind ?_
  unfold Bind.printed
  refine wpAny_ite_false (by decide +kernel) ?_
  unfold Bind.receiverType
  refine wpAny_bind (wpAny_ite_false rfl (L0.here ?_))
  unfold typeNameWhole
  refine wpAny_bind (wpAny_bind (L2.here (wpAny_pure (wpAny_pure ?_))))
  refine wpAny_bind (wpAny_ite_true hshort (wpAny_pure ?_))
  refine wpAny_onRaise ?_
  rw [List.map_nil, check_star_args]
  exact wpAny_pure hq
theorem init_exc {R : Result → Shared → Prop} (X : K.In h) (hx : h.get? e = some oe) (hcl : oe.cls = .ref C) (hdt : oe.data = .fields vs) (h0 : 0 < vs.size) (hm : mroIn K C (.type "ValueError") = some true) (hi : (clsIn K C).isSome = true) (hl : args.length ≤ sizeLine)
    (hq : ∀ h' vs', h'.get? e = some { oe with data := .fields vs' } → vs'.size = vs.size → vs'[1]? = vs[1]? → (∃ tp, vs'[0]? = some (.ref tp)) → (∀ b o, b ≠ e → h.get? b = some o → h'.get? b = some o) → R (.ok (.ret .none)) ⟨h', g, d, t, os⟩) :
    codeAny (model prog w) A (.call (.builtin "ValueError.__init__") ⟨.ref e :: args, []⟩) R ⟨h, g, d, t, os⟩ := by
  have FB := PySem.F.excBase_ValueError
  refine codeAny_call_builtin FB.init.plain FB.initEntry (check_init X hx hcl hm hi ?_)
  obtain ⟨c0, d0, dt, sl⟩ := oe
  dsimp only at hcl hdt
  subst hcl hdt
  obtain ⟨v0, ev0⟩ : ∃ v0, vs[0]? = some v0 := ⟨_, Array.getElem?_eq_getElem h0⟩
  unfold Builtin.«BaseException.__init__»
  dsimp only
  refine wpAny_ite_false rfl ?_
  refine wpAny_bind (wpAny_newTuple ?_ hl)
  have hx1 : (h.push { cls := Value.type "tuple", data := Data.seq args.toArray }).get? e = some ⟨.ref C, d0, .fields vs, sl⟩ := Heap.get?_push_of_some _ hx
  unfold Builtin.BaseException.bexcPut
  refine wpAny_bind (wpAny_bind (wpAny_field hx1 rfl ev0 (wpAny_bind (wpAny_setField hx1 rfl h0 ?_))))
  have hx2 := Heap.get?_update_self (Obj.mapFields fun x => x.setIfInBounds 0 (Value.ref h.objs.size)) hx1 rfl
  have fin := hq ((h.push { cls := Value.type "tuple", data := Data.seq args.toArray }).update e (Obj.mapFields fun x => x.setIfInBounds 0 (Value.ref h.objs.size))) (vs.setIfInBounds 0 (Value.ref h.objs.size)) hx2 (by simp) (by simp) ⟨h.objs.size, by simp [h0]⟩ (fun b o n e' => (Heap.get?_update_other _ _ (Ne.symm n)).trans (Heap.get?_push_of_some _ e'))
  have done : wpAny (model prog w) A.in1 (ret Value.none) (fun fin s' => match fin with | .done f => R (.ok f) s' | .again c' => c'.quiet = true ∧ codeAny (model prog w) A c' R s') (fun e s' => R (.error e) s') ⟨(h.push { cls := Value.type "tuple", data := Data.seq args.toArray }).update e (Obj.mapFields fun x => x.setIfInBounds 0 (Value.ref h.objs.size)), g, d, t, os⟩ := wpAny_pure fin
  cases v0 with
  | ref a => exact wpAny_letGo done
  | _ => exact wpAny_pure done
end
end TyExc

set_option maxHeartbeats 400000
namespace TyExc
open PySem PySem.W PySem.Calls PyProof.Rows Builtin
section
variable {prog : Program} {w : World} {A : Around} {K : Frag} {h : Heap} {g : Array GenState} {d : Drawn} {t : Nat} {os : OsState} {nm q : Str} {C N f : Addr} {bs bm bmB : List Value} {hdct : Bool} {sn : List Str} {sub : List Value} {ab : Bool} {col : Option Bool} {dd : Option Addr} {k0 k1 k2 k3 k5 : Option Value} {B newId initId : String} {rest : List Value} {E : Value → Shared → Prop}
def newExcH (h : Heap) (C : Addr) (rest : List Value) : Heap := (h.push { cls := Value.type "tuple", data := Data.seq rest.toArray }).push { cls := Value.ref C, data := Data.fields #[Value.ref h.objs.size, Value.none, Value.none, Value.none, Value.bool false, Value.none] }
theorem newExcH_at : (newExcH h C rest).get? (h.objs.size + 1) = some { cls := Value.ref C, data := Data.fields #[Value.ref h.objs.size, Value.none, Value.none, Value.none, Value.bool false, Value.none] } :=
  Heap.get?_push_at (by rw [Heap.size_push]) rfl
theorem newExcH_keeps {b : Addr} {o : Obj} (e : h.get? b = some o) : (newExcH h C rest).get? b = some o := Heap.get?_push_of_some _ (Heap.get?_push_of_some _ e)
theorem type_call_own {Q : Fin → Shared → Prop} (F : ExcBaseFacts B newId initId bmB) (T : OwnTail h bmB bm) (hC : h.get? C = some (excClassObj nm q C N bs bm hdct sn sub ab col dd k0 k1 k2 k3 k5 newId)) (X : K.In h)
    (hi : findIn K (.ref C) "__init__" = some (some (.ref f))) (hf : typeIn K (.ref f) = some (.type "function")) (hl : rest.length ≤ sizeLine)
    (hq : wpAny (model prog w) A (call (.ref f) (.ref (h.objs.size + 1) :: rest)) (fun v s' => v = .none ∧ Q (.done (.ret (.ref (h.objs.size + 1)))) s') E ⟨newExcH h C rest, g, d, t, os⟩) :
    wpAny (model prog w) A (Builtin.«type.__call__» ⟨.ref C :: rest, []⟩) Q E ⟨h, g, d, t, os⟩ := by
  have hC1 : (newExcH h C rest).get? C = some (excClassObj nm q C N bs bm hdct sn sub ab col dd k0 k1 k2 k3 k5 newId) := newExcH_keeps hC
  have hget := newExcH_at (h := h) (C := C) (rest := rest)
  have X1 : K.In (newExcH h C rest) := X.keeps fun b o e => newExcH_keeps e
  have L1 := looks_findIn (M := model prog w) X1 hi
  have L2 := bind_fn (M := model prog w) X1 (.ref (h.objs.size + 1)) hf
  have L0 := type_at (M := model prog w) hget rfl
  have hcC : (Value.ref C :: bm).contains (Value.ref C) = true := by simp
  unfold Builtin.«type.__call__»
  refine wpAny_ite_false rfl ?_
  refine wpAny_bind (wpAny_mroOf_exc hC ?_)
  refine wpAny_ite_false rfl ?_
  refine wpAny_bind (wpAny_madeBy_exc hC (wpAny_bind (wpAny_pure ?_)))
  refine wpAny_bind (wpAny_holding (wpAny_call (codeAny_call_builtin_code (Code.quiet_builtin _ F.quiet) (wpAny_check_new_subT F T hC (codeAny_exc_new_subT F T hC ?_ hl)))))
  show wpAny (model prog w) A _ Q E ⟨newExcH h C rest, g, d, t, os⟩
  refine wpAny_bind ?_
  unfold isInstance
  refine wpAny_bind (L0.here (wpAny_isSubtype_exc hC1 ?_))
  rw [hcC]
  refine wpAny_ite_false rfl ?_
  refine wpAny_bind (wpAny_holding ?_)
  unfold callSpecial?
  refine wpAny_bind ?_
  unfold specialOf
  refine wpAny_bind (L0.here (L1.here ?_))
  refine wpAny_holding (wpAny_bind (L2.here (wpAny_bind (wpAny_mono hq (fun v s' z => ?_) fun _ _ z => z))))
  obtain ⟨rfl, z⟩ := z
  refine wpAny_pure ?_
  refine wpAny_ite_false rfl ?_
  exact wpAny_pure z
theorem call_own {Q : Value → Shared → Prop} (F : ExcBaseFacts B newId initId bmB) (T : OwnTail h bmB bm) (hC : h.get? C = some (excClassObj nm q C N bs bm hdct sn sub ab col dd k0 k1 k2 k3 k5 newId)) (X : K.In h)
    (hi : findIn K (.ref C) "__init__" = some (some (.ref f))) (hf : typeIn K (.ref f) = some (.type "function")) (hl : rest.length ≤ sizeLine)
    (hq : wpAny (model prog w) (A.under (.builtin "type.__call__" ⟨.ref C :: rest, []⟩)) (call (.ref f) (.ref (h.objs.size + 1) :: rest)) (fun v s' => v = .none ∧ Q (.ref (h.objs.size + 1)) s') E ⟨newExcH h C rest, g, d, t, os⟩) :
    wpAny (model prog w) A (call (.ref C) rest) Q E ⟨h, g, d, t, os⟩ := by
  have f1 := tc_lookup
  have f2 := tc_bind (Value.ref C)
  have hT : (⟨h, g, d, t, os⟩ : Shared).TypeIs (.ref C) "type" := ⟨excClassObj nm q C N bs bm hdct sn sub ab col dd k0 k1 k2 k3 k5 newId, hC, rfl⟩
  refine wpAny_call (codeAny_of_tree ?_)
  refine wpAny_bind (wpAny_load' hC ?_)
  refine wpAny_bind (wpAny_specialOf hT f1 (wpAny_bind (wpAny_of_eq f2 (wpAny_bind ?_))))
  refine wpAny_pure (wpAny_ite_true rfl (wpAny_pure ⟨rfl, ?_⟩))
  refine codeAny_call_builtin_at (Code.quiet_builtin _ (by decide +kernel)) entry_typeCall (wpAny_check_type_call_sub hC (type_call_own F T hC X hi hf hl ?_))
  exact wpAny_mono hq (fun v s' z => z) fun _ _ z => z
end
end TyExc

set_option maxHeartbeats 400000
namespace TyExc
open PySem PySem.W PySem.Calls PyProof.Rows Builtin
section
variable {M : Model} {A : Around} {E : Value → Shared → Prop} {env : Env} {nm q : Str} {C N : Addr} {bs bm : List Value} {hdct : Bool} {sn : List Str} {sub : List Value} {ab : Bool} {col : Option Bool} {dd : Option Addr} {k0 k1 k2 k3 k5 : Option Value} {newId : String} {s : Shared} {x : Sem Value} {Q : Flow → Shared → Prop}
theorem raise_own (hbase : bm.contains (.type "BaseException") = true) (hh : A.handled = none)
    (h : wpAny M A x (fun v s1 => ∃ e oe vs, v = .ref e ∧ s1.heap.get? C = some (excClassObj nm q C N bs bm hdct sn sub ab col dd k0 k1 k2 k3 k5 newId) ∧ s1.heap.get? e = some oe ∧ oe.cls = .ref C ∧ oe.data = .fields vs ∧ vs[1]? = some .none ∧ E (.ref e) s1) E s) :
    wpAny M A (raiseStmt env (some x) none) Q E s := by
  have hcB : (Value.ref C :: bm).contains (.type "BaseException") = true := by
    rw [List.contains_cons, hbase, Bool.or_true]
  unfold raiseStmt
  refine wpAny_bind (wpAny_mono h (fun v s1 z => ?_) fun _ _ z => z)
  obtain ⟨e, oe, vs, rfl, hC, he, hcl, hdt, h1, hE⟩ := z
  obtain ⟨hp, g, d, tk, os⟩ := s1
  obtain ⟨c0, d0, dt, sl⟩ := oe
  dsimp only at hcl hdt
  subst hcl hdt
  have L0 := type_at (M := M) he rfl
  have hL : (excClassObj nm q C N bs bm hdct sn sub ab col dd k0 k1 k2 k3 k5 newId).cls = .type "type" := rfl
  refine wpAny_bind (wpAny_pure ?_)
  refine wpAny_bind (wpAny_holding ?_)
  unfold excFromValue isExcClass isType loadHead
  refine wpAny_bind (wpAny_bind (wpAny_bind (wpAny_loadPart_at he (wpAny_pure (wpAny_ite_false rfl (wpAny_pure (wpAny_ite_false rfl ?_)))))))
  refine wpAny_bind ?_
  unfold isInstance
  refine wpAny_bind (L0.here (wpAny_isSubtype_exc hC ?_))
  rw [hcB]
  refine wpAny_ite_true rfl (wpAny_pure ?_)
  dsimp only
  refine wpAny_bind ?_
  refine wpAny_bind (wpAny_loadPart_at he (wpAny_pure (wpAny_ite_false rfl ?_)))
  refine wpAny_bind ?_
  unfold raisedInstance
  have LC : Looks M hp (typeOf (.ref C)) (.type "type") := (Looks.ld hC).andThen .now
  refine wpAny_bind (L0.here (wpAny_bind (LC.here (wpAny_ite_true rfl (wpAny_pure ?_)))))
  refine wpAny_bind ?_
  unfold setFlight
  refine wpAny_bind (wpAny_field he rfl h1 (wpAny_ite_false rfl (wpAny_pure ?_)))
  exact wpAny_raiseNew_none hh hE
end
end TyExc

set_option maxHeartbeats 400000
namespace TyExc
open PySem PySem.W
structure ExcF (K : Frag) (C : Addr) (f : Str) : Prop where
  k : ExcK K C
  sa : findIn K (.ref C) "__setattr__" = some (some (.builtin "object.__setattr__"))
  hd : hasDictIn K C = true
  ov : (clsIn K C).any (fun cd => exOnly cd.mro) = true
  nf : findIn K (.ref C) f = some none
theorem ExcF.cd {K : Frag} {C : Addr} {f : Str} (F : ExcF K C f) : ∃ cd, clsIn K C = some cd ∧ cd.hasDict = true ∧ exOnly cd.mro = true := by
  obtain ⟨cd, hc, ho⟩ := any_some F.ov
  obtain ⟨cd', hc', hh⟩ := any_some F.hd
  rw [hc] at hc'
  cases hc'
  exact ⟨cd, hc, hh, ho⟩
end TyExc
namespace Ty
open PySem PySem.Spec PyProof.Rows L2
def excN (C a : Addr) (dx : Option Addr) : HO := .ext fun h => ∃ o vs tp, h.get? a = some o ∧ o.cls = .ref C ∧ o.data = .fields vs ∧ o.dict = dx ∧ vs[0]? = some (.ref tp) ∧ vs[1]? = some .none
def xdO (d : Addr) (fs : List (Str × V)) : HO := .ext fun h => ∃ mA, h.Ns1 d mA ∧ ∀ f, RelO (fs.lookup f) (mA f)
section
variable {P : Program} {w : World} {H : Hp} {h : Heap} {C a : Addr} {dx : Option Addr}
theorem excN_ok {o : Obj} {vs : Array Value} {tp : Addr} (e : h.get? a = some o) (hc : o.cls = .ref C) (hd : o.data = .fields vs) (hx : o.dict = dx) (h0 : vs[0]? = some (.ref tp)) (h1 : vs[1]? = some .none) : ObjOk P w H h a (excN C a dx) :=
  ⟨⟨o, vs, tp, e, hc, hd, hx, h0, h1⟩, ⟨o, e⟩, fun _ _ ⟨o', vs', tp', q, r⟩ k => ⟨o', vs', tp', k _ q, r⟩⟩
theorem xdO_ok {mA : Str → Option Value} {fs : List (Str × V)} (n : h.Ns1 a mA) (r : ∀ f, RelO (fs.lookup f) (mA f)) : ObjOk P w H h a (xdO a fs) := by
  obtain ⟨o, _, _, e, _⟩ := id n
  refine ⟨⟨mA, n, r⟩, ⟨o, e⟩, fun h1 h2 z k => ?_⟩
  obtain ⟨mA', ⟨o', es, ep, e', rr⟩, r'⟩ := z
  exact ⟨mA', ⟨o', es, ep, k _ e', rr⟩, r'⟩
theorem upd_selfG {o : HO} (e : H a = some o) : upd H a o = H := by
  funext b
  by_cases c : b = a
  · subst c
    rw [upd_same, e]
  · rw [upd_ne c]
end
section
variable {X : Cx}
def tExcI (K : PySem.W.Frag) (ta : TA) : TE := fun σ H Q => ta σ H fun vs H1 => ∃ a C dx rest, vs = .ref a :: rest ∧ H1 a = some (excN C a dx) ∧ TyExc.ExcK K C ∧ PySem.W.mroIn K C (.type "ValueError") = some true ∧ rest.length ≤ sizeLine ∧ Q .non H1
structure YardI (K : PySem.W.Frag) (Y : Addr) : Prop where
  ga : PySem.W.specialIn K (.ref Y) "__getattribute__" = some (some (.builtin "type.__getattribute__"))
  rd : PySem.W.readsIn K Y (.type "type") = true
  fi : PySem.W.findCls K (.ref Y) (.type "type") "__init__" = some (.val (.builtin "ValueError.__init__"))
theorem pe_excI {y : Str} {Y : Addr} {np apos pos : Pos} {e : Expr} {es : List Expr} {t : TA} {pl : Sem Bool} (hY : YardI X.K Y) (hm : X.mg y = some (.ref Y)) (ha : PA X (e :: es) t) (hg : Gl X y := by rfl) (hdb : (y == ("__debug__" : Str)) = false := by decide)
    (hst : starEach (e :: es) X.env = (false, eval e X.env) :: starEach es X.env := by rfl) (hpl : (backTo pos (starEach es X.env)).any (·.1) = false := by rfl)
    (ht : eval (.Call (.Attribute (.Name y np) "__init__" apos) (e :: es) [] pos) X.env = (do
      let ov ← eval (.Name y np) X.env
      standAt apos.atName
      let (f, first) ← holding [ov] (getMethod ov "__init__" pl)
      callWith pos f first (backTo pos (starEach (e :: es) X.env)) (backToKw pos (keywordEach [] X.env))) := by rfl) :
    PE X (.Call (.Attribute (.Name y np) "__init__" apos) (e :: es) [] pos) (tExcI X.K t) := by
  intro pins s σ H Q I h
  refine PySem.W.methodCall_KW (pl := pl) (ld_glob I hg hm ?_ hdb) ht
  refine PySem.W.method_cls I.kIn hY.ga (PySem.W.cls_value I.kIn hY.rd hY.fi rfl ?_)
  have I1 := I.tok (s.toks + 1)
  refine PyProof.Rows.callWith_method1 (first := []) (thn (ha pos pins _ σ H _ I1 h) fun us s2 ⟨vs, H2, I2, r, q⟩ => ?_) hst hpl
  obtain ⟨a, C, dx, rest, rfl, ea, F, hv, hl, q⟩ := q
  cases r with
  | @cons _ u _ us' r1 rr =>
    cases (show u = Value.ref a from r1)
    obtain ⟨⟨o, ws, tp, e1, e2, e3, e4, e5, e6⟩, _⟩ := (show ObjOk X.prog X.w H2 s2.heap a (excN C a dx) from I2.hok a _ ea)
    have h0 : 0 < ws.size := by
      have := (Array.getElem?_eq_some_iff.mp e5).1
      omega
    obtain ⟨hp, g, d, tk, os⟩ := s2
    refine wpAny_call (TyExc.init_exc I2.kIn e1 e2 e3 h0 hv F.is (by rw [← rr.length]; exact hl) fun h' vs' k1 k2 k3 k4 k5 => ?_)
    obtain ⟨tp', k4⟩ := k4
    have I3 := I2.write (x := a) (e := a) (o := excN C a dx) (h' := h') (t' := tk) (by rw [ea]; exact True.intro) (.inl rfl) (fun b q hb z => k5 b q hb z) ⟨_, k1⟩ (excN_ok k1 e2 rfl e4 k4 (k3.trans e6))
    rw [upd_selfG ea] at I3
    exact ⟨.non, H2, I3, rfl, q⟩
def sExcF (K : PySem.W.Frag) (ta tv : TE) (f : Str) : TS := fun D σ H => tv σ H fun y H1 => ta σ H1 fun x H2 => ∃ a C, x = .ref a ∧ TyExc.ExcF K C f ∧
  ((H2 a = some (excN C a none) ∧ ∀ d, H2 d = none → d ≠ a → D.nx σ (upd (upd H2 d (xdO d [(f, y)])) a (excN C a (some d)))) ∨
   (∃ dx fs, H2 a = some (excN C a (some dx)) ∧ dx ≠ a ∧ H2 dx = some (xdO dx fs) ∧ fs.length < 1000 ∧ D.nx σ (upd H2 dx (xdO dx (putF f y fs)))))
theorem ps_excF {o value : Expr} {f : Str} {pos pos' : Pos} {ta tv : TE} (ha : PE X o ta) (hv : PE X value tv) (hs : swapsWith value (some (.Attribute o f pos')) pos.line X.env = pure false) : PS X (.Assign [.Attribute o f pos'] value pos) (sExcF X.K ta tv f) := by
  intro pins s σ H D I h
  refine plainObj_wpAny_Assign_Attribute (thn (hv pins s σ H _ I h) fun u s1 ⟨y, H1, I1, ry, q⟩ => thn (ha pins s1 σ H1 _ I1 q) fun ov s2 ⟨x, H2, I2, rx, a, C, ex, F, q2⟩ => ?_) hs
  subst ex
  obtain rfl : ov = Value.ref a := rx
  obtain ⟨cd, hc, hh, ho⟩ := F.cd
  rcases q2 with ⟨ea, q3⟩ | ⟨dx, fs, ea, nd, ed, hl, q3⟩
  · obtain ⟨⟨oe, ws, tp, e1, e2, e3, e4, e5, e6⟩, _⟩ := (show ObjOk X.prog X.w H2 s2.heap a (excN C a none) from I2.hok a _ ea)
    refine TyExc.setattr_exc0 I2.kIn e1 e2 e3 e4 F.k F.sa hc hh ho F.nf fun h' tk k1 k2 k3 => ?_
    have nl : s2.heap.objs.size ≠ a := fun z => by have := Heap.lt_size e1; rw [← z] at this; exact Nat.lt_irrefl _ this
    obtain ⟨oD, esD, epD, eD, dD, rD⟩ := id k2
    have nf : oD.isFreed = false := not_freed eD
    -- first the dict, at the heap's end; then the error's object
    have J1 : Inv X pins σ (upd H2 s2.heap.objs.size (xdO s2.heap.objs.size [(f, y)])) { s2 with heap := s2.heap.push oD, toks := s2.toks } := by
      refine I2.laid (t' := s2.toks) (fun b u q => Heap.get?_push_of_some _ q) (Nat.le_refl _) (xdO_ok (mA := fun z => if z = f then some u else none) ⟨oD, esD, epD, Heap.get?_push_size s2.heap nf, dD, rD⟩ fun z => ?_)
      show RelO (List.lookup z [(f, y)]) (if z = f then some u else none)
      by_cases c : z = f
      · have hb : (z == f) = true := beq_iff_eq.mpr c
        rw [if_pos c]
        simp only [List.lookup, hb]
        exact ry
      · have hb : (z == f) = false := beq_eq_false_iff_ne.mpr c
        rw [if_neg c]
        simp only [List.lookup, hb]
        trivial
    have ea' : (upd H2 s2.heap.objs.size (xdO s2.heap.objs.size [(f, y)])) a = some (excN C a none) := by rw [upd_ne (Ne.symm nl)]; exact ea
    have J2 := J1.write (x := a) (e := a) (o := excN C a (some s2.heap.objs.size)) (h' := h') (t' := tk) (by rw [ea']; exact True.intro) (.inl rfl) (fun b q hb z => ?_) ⟨_, k1⟩ (excN_ok k1 e2 e3 rfl e5 e6)
    · exact ⟨σ, _, J2, q3 _ (I2.hok.fresh (Nat.le_refl _)) nl⟩
    · by_cases c : b = s2.heap.objs.size
      · subst c
        have z' : (s2.heap.push oD).get? s2.heap.objs.size = some q := z
        rw [Heap.get?_push_size s2.heap nf] at z'
        cases z'
        exact eD
      · have z' : s2.heap.get? b = some q := (Heap.get?_push_ne s2.heap b oD c).symm.trans z
        exact k3 b q hb z'
  · obtain ⟨⟨oe, ws, tp, e1, e2, e3, e4, e5, e6⟩, _⟩ := (show ObjOk X.prog X.w H2 s2.heap a (excN C a (some dx)) from I2.hok a _ ea)
    obtain ⟨⟨mA, n1, r1⟩, _⟩ := (show ObjOk X.prog X.w H2 s2.heap dx (xdO dx fs) from I2.hok dx _ ed)
    have wi : PySem.Within mA (fs.map (·.1)) := fun z hz => by
      cases el : fs.lookup z with
      | none =>
        have := r1 z
        rw [el] at this
        exact absurd (RelO.none_of this) hz
      | some v =>
        have : ∀ {l : List (Str × V)}, l.lookup z = some v → z ∈ l.map (·.1) := fun {l} => by
          induction l with
          | nil => intro h; cases h
          | cons p l ih =>
            intro h
            obtain ⟨k, w⟩ := p
            by_cases c : z = k
            · subst c
              exact List.mem_cons_self
            · have hb : (z == k) = false := beq_eq_false_iff_ne.mpr c
              simp only [List.lookup, hb] at h
              exact List.mem_cons_of_mem _ (ih h)
        exact this el
    refine TyExc.setattr_exc1 I2.kIn e1 e2 e3 e4 nd n1 wi (by rw [List.length_map, sizeLine_eq]; omega) F.k F.sa hc hh ho F.nf fun h' tk k1 k2 => ?_
    have hd : ∃ o, h'.get? dx = some o := by obtain ⟨o, _, _, e', _⟩ := k1; exact ⟨o, e'⟩
    have J := I2.write (x := dx) (e := dx) (o := xdO dx (putF f y fs)) (h' := h') (t' := tk) (by rw [ed]; exact True.intro) (.inl rfl) (fun b q hb z => (k2.2 b hb).trans z) hd (xdO_ok k1 fun z => ?_)
    · exact ⟨σ, _, J, q3⟩
    · show RelO ((putF f y fs).lookup z) (if z = f then some u else mA z)
      rw [lookup_putF]
      by_cases c : z = f
      · rw [if_pos c, if_pos c]; exact ry
      · rw [if_neg c, if_neg c]; exact r1 z
def tExcG (K : PySem.W.Frag) (ta : TE) (f : Str) : TE := fun σ H Q => ta σ H fun x H1 => ∃ a C dx fs v, x = .ref a ∧ H1 a = some (excO (.ref C) a (some dx)) ∧ H1 dx = some (xdO dx fs) ∧ TyExc.ExcF K C f ∧ fs.lookup f = some v ∧ Q v H1
theorem pe_excG {e : Expr} {f : Str} {pos : Pos} {ta : TE} (he : PE X e ta) (hb : attributeBase e f X.env (eval e X.env) = eval e X.env) : PE X (.Attribute e f pos) (tExcG X.K ta f) := by
  intro pins s σ H Q I h
  refine attr_of hb (thn (he pins s σ H _ I h) fun u s1 ⟨x, H1, I1, rx, a, C, dx, fs, v, ex, ea, ed, F, l, q⟩ => ?_)
  subst ex
  obtain rfl : u = Value.ref a := rx
  obtain ⟨⟨oe, ws, e1, e2, e3, e4⟩, _⟩ := (show ObjOk X.prog X.w H1 s1.heap a (excO (.ref C) a (some dx)) from I1.hok a _ ea)
  obtain ⟨⟨mA, n1, r1⟩, _⟩ := (show ObjOk X.prog X.w H1 s1.heap dx (xdO dx fs) from I1.hok dx _ ed)
  obtain ⟨od, hod, hlk⟩ := lookIn_ns n1
  obtain ⟨u, hu, ru⟩ := RelO.some_of (v := v) (o := mA f) (by rw [← l]; exact r1 f)
  have J : PySem.W.InstAt s1.heap a oe C (some od) := ⟨e1, e2, by unfold PySem.W.notCls; rw [e3], by rw [e4]; exact hod⟩
  exact TyExc.getattr_exc I1.kIn F.k J (PySem.W.findObj_own F.hd F.nf rfl (by rw [hlk, hu])) (handed_of ru) ⟨v, H1, I1.tok _, ru, q⟩
end
end Ty

set_option maxHeartbeats 1000000
namespace Ty
open PySem PySem.Spec PyProof.Rows L2
abbrev bmV : List Value := [Value.type "ValueError", Value.type "Exception", Value.type "BaseException", Value.type "object"]
structure ExcC (K : PySem.W.Frag) (C fi : Addr) : Prop where
  obj : ∃ nm q N bs bm hdct sn sub ab col dd k0 k1 k2 k3 k5, K.lookup C = some (excClassObj nm q C N bs bm hdct sn sub ab col dd k0 k1 k2 k3 k5 "ValueError.__new__") ∧ PySem.W.tailIn K bmV bm = true
  init : PySem.W.findIn K (.ref C) "__init__" = some (some (.ref fi))
  fn : PySem.W.isFn K (.ref fi) = true
  kp : PySem.W.keepIn K (.ref C) = true
def dropH (H : Hp) (e : Addr) : Hp := fun b => if b = e then none else H b
theorem dropH_ne {H : Hp} {e b : Addr} (n : b ≠ e) : dropH H e b = H b := by unfold dropH; rw [if_neg n]
theorem dropH_same {H : Hp} {e : Addr} : dropH H e e = none := by unfold dropH; rw [if_pos rfl]
theorem un_drop {fs ex : List Addr} {H : Hp} {h : Heap} {e : Addr} {φ : Heap → Prop} (he : H e = some (.ext φ)) : Un fs ex H (dropH H e) h h := by
  have ne : ∀ {b : Addr} {o : HO}, H b = some o → (∀ ψ, o ≠ .ext ψ) → b ≠ e := fun z n q => by rw [q, he] at z; cases z; exact n _ rfl
  refine ⟨fun b o q _ _ _ => q, fun b o q _ _ _ => ⟨o.slots, q⟩, fun b o q n _ => ?_, fun b o q _ => ⟨o, q⟩, fun b xs q => ?_, fun b o u q => ?_, fun b ps q => ?_⟩
  · by_cases c : b = e
    · rw [c, dropH_same]
    · rw [dropH_ne c]; exact n
  · rw [dropH_ne (ne q fun ψ z => nomatch z)]; exact q
  · rw [dropH_ne (ne q fun ψ z => nomatch z)]; exact q
  · exact ⟨#[], by rw [dropH_ne (ne q fun ψ z => nomatch z), q]; simp⟩
theorem hok_drop {P : Program} {w : World} {H : Hp} {h : Heap} {e : Addr} {φ : Heap → Prop} (he : H e = some (.ext φ)) (ok : HOk P w H h) : HOk P w (dropH H e) h := fun b u q => by
  have ne : ∀ {c : Addr} {o : HO}, H c = some o → (∀ ψ, o ≠ .ext ψ) → c ≠ e := fun z n q => by rw [q, he] at z; cases z; exact n _ rfl
  by_cases c : b = e
  · rw [c, dropH_same] at q
    cases q
  · rw [dropH_ne c] at q
    exact (ok b u q).stay (fun _ _ _ z => z) (fun c z => by rw [dropH_ne (ne z fun ψ z => nomatch z)]; exact z) fun c xs z => by rw [dropH_ne (ne z fun ψ z => nomatch z)]; exact z
def tRaiseI (C : Addr) (sp : Sp) (E : XK) (ta : TA) : TS := fun _ σ H => ta σ H fun vs H1 => vs.length ≤ sizeLine ∧ ∀ e, H1 e = none → sp (.ref e :: vs) (upd H1 e (excN C e none)) (fun v H2 => v = .non ∧ ∃ dx, H2 e = some (excN C e dx) ∧ E (.ref C) dx (dropH H2 e)) E0
section
variable {P : Program} {w : World} {K : PySem.W.Frag} {mg : Str → Option Value} {base : Heap} {N : List Str} {qual : Str} {scope : Scope} {f : Addr} {cdv : Value} {A : Around} {outer : List Env} {s0 : Shared} {H0 : Hp} {E : XK}
theorem ps_raiseI {x : Str} {C fi : Addr} {fd : FuncData} {ps : List Str} {sp : Sp} {k : Nat} {e₀ : Expr} {rest : List Expr} {np cpos pos : Pos} {ta : TA} (hX : ExcC K C fi) (F : FnOk P w K mg base (CXr P w) k fi fd ps sp)
    (hr : Room (k + 1) (A.deeper (envOfC qual scope s0.heap.objs.size f cdv))) (hb : Binds K fd ps []) (hm : mg x = some (.ref C)) (ha : PA (cxr P w K mg base N qual scope f cdv A outer s0 H0 E).nox (e₀ :: rest) ta)
    (hg : Gl (cxr P w K mg base N qual scope f cdv A outer s0 H0 E) x := by rfl) (hd : (x == ("__debug__" : Str)) = false := by decide)
    (he : starEach (e₀ :: rest) (cxr P w K mg base N qual scope f cdv A outer s0 H0 E).env = (false, eval e₀ (cxr P w K mg base N qual scope f cdv A outer s0 H0 E).env) :: starEach rest (cxr P w K mg base N qual scope f cdv A outer s0 H0 E).env := by rfl)
    (hp : (backTo cpos (starEach rest (cxr P w K mg base N qual scope f cdv A outer s0 H0 E).env)).any (·.1) = false := by rfl) :
    PS (cxr P w K mg base N qual scope f cdv A outer s0 H0 E) (.Raise (some (.Call (.Name x np) (e₀ :: rest) [] cpos)) none pos) (tRaiseI C sp E ta) := by
  intro pins s σ H D I h
  obtain ⟨nm, q, Na, bs, bm, hdct, sn, sub, ab, col, dd, k0, k1, k2, k3, k5, hlk, htl⟩ := hX.obj
  have hin : ∀ env ∈ (cxr P w K mg base N qual scope f cdv A outer s0 H0 E).stack, ∀ b, env.frame = some b → b ∈ frs (cxr P w K mg base N qual scope f cdv A outer s0 H0 E).stack := fun env he b hb => List.mem_filterMap.mpr ⟨env, he, hb⟩
  have FB := PySem.F.excBase_ValueError
  have hbase : bm.contains (Value.type "BaseException") = true := (PySem.W.tail_of_in I.kIn htl).hasType FB.hasBase
  rw [arm_exec_Raise]
  refine wpAny_bind (wpAny_standAt (TyExc.raise_own (C := C) (nm := nm) (q := q) (N := Na) (bs := bs) (bm := bm) (hdct := hdct) (sn := sn) (sub := sub) (ab := ab) (col := col) (dd := dd) (k0 := k0) (k1 := k1) (k2 := k2) (k3 := k3) (k5 := k5) (newId := "ValueError.__new__") hbase hr.hd ?_))
  refine wpAny_bind ?_
  refine wpAny_Call_Name_kw (ld_glob I hg hm ?_ hd)
  refine PySem.W.callWith_K (h₀ := base) I.ok.mod.kin hX.kp (wpAny_mono (ha cpos pins s σ H _ (I.wish _) h) (fun us s1 ⟨vs, H1, I1, r, hl, q1⟩ => ⟨I1.kIn, ?_⟩) fun _ _ z => z.elim) he hp
  have I2 : Inv (cxr P w K mg base N qual scope f cdv A outer s0 H0 E) pins σ H1 s1 := I1.unwish
  obtain ⟨h1, g1, d1, t1, o1⟩ := s1
  have T : OwnTail h1 bmV bm := PySem.W.tail_of_in I2.kIn htl
  have hC : h1.get? C = some (excClassObj nm q C Na bs bm hdct sn sub ab col dd k0 k1 k2 k3 k5 "ValueError.__new__") := I2.kIn _ _ hlk
  have hlu : us.length ≤ sizeLine := by rw [← r.length]; exact hl
  have hq := q1 (h1.objs.size + 1) (I2.hok.fresh (Nat.le_succ _))
  refine TyExc.call_own FB T hC I2.kIn hX.init (beq_iff_eq.mp hX.fn) hlu ?_
  have kp : ∀ b o, h1.get? b = some o → (TyExc.newExcH h1 C us).get? b = some o := fun b o e => TyExc.newExcH_keeps e
  have I3 : Inv (cxr P w K mg base N qual scope f cdv A outer s0 H0 E) pins σ (upd H1 (h1.objs.size + 1) (excN C (h1.objs.size + 1) none)) ⟨TyExc.newExcH h1 C us, g1, d1, t1, o1⟩ :=
    I2.laid (t' := t1) kp (Nat.le_succ _) (excN_ok TyExc.newExcH_at rfl rfl rfl rfl rfl)
  have r2 : Vals (V.ref (h1.objs.size + 1) :: vs) (Value.ref (h1.objs.size + 1) :: us) := .cons rfl r
  have hl2 : (Value.ref (h1.objs.size + 1) :: us ++ []).length = ps.length := by
    rw [List.append_nil, ← r2.length]
    exact F.len _ _ _ _ hq
  have bt := hb ⟨TyExc.newExcH h1 C us, g1, d1, t1, o1⟩ (Value.ref (h1.objs.size + 1) :: us) I3.kIn hl2
  rw [List.append_nil] at bt
  refine wpAny_call (codeAny_mono (F.run _ (cxr P w K mg base N qual scope f cdv A outer s0 H0 E).stack _ _ ⟨Value.ref (h1.objs.size + 1) :: us, []⟩ (Value.ref (h1.objs.size + 1) :: us) _ _ E0 (hr.make C us []) (I3.env0.make C us []) bt r2 hq) fun rr s' hq' => ?_)
  cases rr with
  | error e => exact (CXr.mute _ _ _ _ _ hq').elim
  | ok fl =>
    cases fl with
    | ret u =>
      obtain ⟨v, H', os', bare', un', hok', ru, ev, dx, ee, hE⟩ := hq'
      subst ev
      refine ⟨ru, wpAny_bind (wpAny_standAt (wpAny_pure ?_))⟩
      obtain ⟨⟨oe, ws, tp, e1, e2, e3, e4, e5, e6⟩, _⟩ := (show ObjOk P w H' s'.heap (h1.objs.size + 1) (excN C (h1.objs.size + 1) dx) from hok' _ _ ee)
      have I4 : Inv (cxr P w K mg base N qual scope f cdv A outer s0 H0 E) pins σ H' s' := I3.call' (ch := []) os' un' hok' bare' fun b z => absurd z (by simp)
      refine ⟨h1.objs.size + 1, oe, ws, rfl, I4.kIn _ _ hlk, e1, e2, e3, e6, ?_⟩
      show wpAny (model P w) (A.deeper (envOfC qual scope s0.heap.objs.size f cdv)) (leaving (envOfC qual scope s0.heap.objs.size f cdv) (.ref (h1.objs.size + 1))) _ _ s'
      have hne : h1.objs.size + 1 ∉ frs (cxr P w K mg base N qual scope f cdv A outer s0 H0 E).stack := fun z => by
        have := I4.stkFree _ z
        rw [ee] at this
        cases this
      have ffB := PySem.W.funFrames_hide (as := (h1.objs.size + 1) :: frs (cxr P w K mg base N qual scope f cdv A outer s0 H0 E).stack) I4.stack (fun env he b hb => List.mem_cons_of_mem _ (hin env he b hb))
      generalize hB : PySem.W.hideAll s'.heap ((h1.objs.size + 1) :: frs (cxr P w K mg base N qual scope f cdv A outer s0 H0 E).stack) = B at ffB
      have st : B.StaysIn s'.heap := fun b o q => by rw [← hB] at q; exact PySem.W.of_hideAll _ q
      have bn : B.get? (h1.objs.size + 1) = none := by rw [← hB]; exact PySem.W.hideAll_none _ List.mem_cons_self
      have da : DictAt s'.heap (h1.objs.size + 1) dx := ⟨oe, e1, e4⟩
      refine wpAny_mono (Kp.any kp_leaving (wpAny_leaving_firstW (outer := outer) (s := s') (base := B) (Q := fun _ s3 => ∃ h2, s3 = { s' with heap := h2 } ∧ B.LeftW (envOfC qual scope s0.heap.objs.size f cdv :: outer) (h1.objs.size + 1) oe.cls (.ref tp) s'.heap h2) (E := fun _ _ => False) I.ok.frames ffB rfl e1 st bn e3 e6 e5 fun h2 lw => ⟨h2, rfl, lw⟩)) (fun _ s3 z => ?_) fun _ _ z => z.elim
      obtain ⟨⟨h2, rfl, lw1, lw2, lw3, lw4⟩, kd⟩ := z
      have un0 : Un (frs (cxr P w K mg base N qual scope f cdv A outer s0 H0 E).stack) [] H1 (upd H1 (h1.objs.size + 1) (excN C (h1.objs.size + 1) none)) h1 (TyExc.newExcH h1 C us) := Un.laid kp (Nat.le_succ _) (I2.hok.fresh (Nat.le_succ _))
      have unA := (un0.trans un').trans (un_drop (e := h1.objs.size + 1) ee)
      rw [e2] at lw3
      have fl : B.FlyingW outer (h1.objs.size + 1) (.ref C) (.ref tp) h2 := ⟨lw1, bn, lw2.2.2, lw3⟩
      refine out_of (s' := s') (H := H1) (s := ⟨h1, g1, d1, t1, o1⟩) I2 fl (da.kd kd) ffB st unA (hok_drop ee hok') os' bare' (fun b o eb hb => ?_) (fun b u eb => ?_) lw4 hE
      · obtain ⟨o', e'⟩ := (un0.trans un').there b o eb (by simp)
        refine ⟨o', ?_⟩
        rw [← hB]
        refine PySem.W.hideAll_get _ e' fun z => ?_
        rcases List.mem_cons.mp z with z | z
        · have := Heap.lt_size eb
          rw [z] at this
          simp only [Addr] at *
          omega
        · exact hb z
      · have nb : b ≠ h1.objs.size + 1 := fun z => by rw [z, dropH_same] at eb; cases eb
        rw [dropH_ne nb] at eb
        obtain ⟨o, ho⟩ := obj_some (hok' b u eb)
        refine ⟨o, ?_⟩
        rw [← hB]
        refine PySem.W.hideAll_get _ ho fun z => ?_
        rcases List.mem_cons.mp z with z | z
        · exact nb z
        · have := I4.stkFree b z
          rw [eb] at this
          cases this
    | next => exact False.elim hq'
    | brk => exact False.elim hq'
    | cont => exact False.elim hq'
end
end Ty

set_option maxHeartbeats 4000000
namespace Ty
open PySem PySem.Spec PyProof.Rows L2
section
variable {prog : Program} {w : World} {A : Around} {R : Result → Shared → Prop} {s : Shared}
theorem compLoop_any {elt target iter : Expr} {ifs : List Expr} {scope : Scope} {pos : Pos} {it acc : Value} {env : Env} (I : Nat → Shared → Prop)
    (turn : ∀ n s, I n s → wpAny (model prog w) A (pyNext it) (fun r s₁ => match r with
      | none => R (.ok .next) s₁
      | some v => wpAny (model prog w) A (letOwnedTupleGo target it v) (fun _ s₁' => wpAny (model prog w) A (assign target env v) (fun _ s₂ =>
          wpAny (model prog w) A (forIn ifs true fun c r => if r = true then do let ok ← isTrue c env (eval c env); pure (ForInStep.yield ok) else pure (ForInStep.yield r)) (fun ok s₃ =>
            if ok = true then wpAny (model prog w) A (eval elt env) (fun x s₄ =>
              wpAny (model prog w) A (call (.builtin "list.append") [acc, x]) (fun _ s₅ => ∃ m, m < n ∧ I m s₅) (fun _ _ => False) s₄) (fun _ _ => False) s₃
            else ∃ m, m < n ∧ I m s₃) (fun _ _ => False) s₂) (fun _ _ => False) s₁') (fun _ _ => False) s₁) (fun _ _ => False) s)
    (n : Nat) (h : I n s) :
    codeAny (model prog w) A (.compLoop (.ListComp elt [⟨target, iter, ifs, 0⟩] scope pos) 0 it acc env) R s := by
  refine codeAny_loop rfl I (fun n s hI => ?_) n h
  show wpAny _ A ((compTurn (.ListComp elt [⟨target, iter, ifs, 0⟩] scope pos) 0 it acc env).onRaise (fun x => do noteFrame x env; theTreesLotGoes x)) _ _ s
  refine wpAny_noted ?_
  rw [compTurn_list]
  refine wpAny_bind (wpAny_standAt (wpAny_bind (wpAny_mono (turn n s hI) (fun r s₁ h₁ => ?_) fun _ _ h' => h'.elim)))
  cases r with
  | none => exact wpAny_pure h₁
  | some v =>
    refine wpAny_bind (wpAny_mono h₁ (fun _ s₁' h₁' => ?_) fun _ _ h' => h'.elim)
    refine wpAny_bind (wpAny_mono h₁' (fun _ s₂ h₂ => wpAny_bind (wpAny_mono h₂ (fun ok s₃ h₃ => ?_) fun _ _ h' => h'.elim)) fun _ _ h' => h'.elim)
    cases ok with
    | false => exact wpAny_pure ⟨rfl, h₃⟩
    | true =>
      exact wpAny_bind (wpAny_bind (wpAny_mono h₃ (fun x s₄ h₄ => wpAny_bind (wpAny_mono h₄ (fun _ s₅ h₅ => wpAny_pure (wpAny_pure ⟨rfl, h₅⟩)) fun _ _ h' => h'.elim)) fun _ _ h' => h'.elim))
end
def capCl (env : Env) (fr : List Str) : List (Str × Addr) := fr.filterMap fun n => (env.cells.lookup n).map fun c => (n, c)
theorem lookup_mem {α : Type} {x : Str} {c : α} : ∀ {l : List (Str × α)}, l.lookup x = some c → (x, c) ∈ l
  | [], h => by simp at h
  | (y, d) :: r, h => by
    rw [List.lookup_cons] at h
    cases e : x == y with
    | true =>
      rw [e] at h
      have e1 : x = y := by simpa using e
      cases h
      rw [e1]
      exact List.mem_cons_self
    | false =>
      rw [e] at h
      exact List.mem_cons_of_mem _ (lookup_mem h)
theorem capCl_mem {env : Env} {fr : List Str} {x : Str} {c : Addr} (h : (x, c) ∈ capCl env fr) : env.cells.lookup x = some c := by
  obtain ⟨n, _, e⟩ := List.mem_filterMap.mp h
  cases q : env.cells.lookup n with
  | none => rw [q] at e; cases e
  | some d =>
    rw [q] at e
    have e' : (n, d) = (x, c) := Option.some.inj e
    cases e'
    exact q
theorem capCl_get {env : Env} {fr : List Str} {x : Str} {c : Addr} (h : (capCl env fr).lookup x = some c) : env.cells.lookup x = some c := capCl_mem (lookup_mem h)
theorem capCl_has {env : Env} {x : Str} {c : Addr} (q : env.cells.lookup x = some c) : ∀ {fr : List Str}, x ∈ fr → (capCl env fr).lookup x = some c
  | [], h => nomatch h
  | y :: r, h => by
    unfold capCl
    rw [List.filterMap_cons]
    by_cases e : x = y
    · subst e
      rw [q]
      simp
    · have hr : x ∈ r := by
        rcases List.mem_cons.mp h with z | z
        · exact absurd z e
        · exact z
      have ih := capCl_has q hr
      cases z : env.cells.lookup y with
      | none => exact ih
      | some d =>
        show List.lookup x ((y, d) :: _) = _
        rw [List.lookup_cons]
        have ne : (x == y) = false := by simpa using e
        rw [ne]
        exact ih
def AllCap (env : Env) : List Str → Prop
  | [] => True
  | y :: r => (env.kindOf y = some .cell ∨ env.kindOf y = some .free) ∧ AllCap env r
theorem AllCap.at {env : Env} {x : Str} : ∀ {fr : List Str}, AllCap env fr → x ∈ fr → env.kindOf x = some .cell ∨ env.kindOf x = some .free
  | [], _, h => nomatch h
  | y :: r, a, h => by
    rcases List.mem_cons.mp h with z | z
    · rw [z]
      exact a.1
    · exact AllCap.at a.2 z
section
variable {X : Cx}
def cxB (X : Cx) (NB : List Str) (scope : Scope) (cl : List (Str × Addr)) (C : Addr) (s : Shared) (H : Hp) (fp : List Addr) : Cx :=
  { prog := X.prog, w := X.w, K := X.K, mg := X.mg, base := X.base, A := X.A, N := NB, s₀ := s, H₀ := H, env := compEnvC scope cl C X.env, outer := X.stack, stack := X.stack, ex := fp, fn := fun _ => false, calm := X.calm, pn := [], xe := fun _ _ => False }
structure BlkS (X : Cx) (scope : Scope) (fr : List Str) (caps : List Nat) : Prop where
  clos : closureFor scope X.env = pure (capCl X.env fr)
  cell : ∀ y ∈ scope.names, y.2 ≠ .cell
  kind : scope.kind = .function
  names : ∀ y ∈ scope.names, y.2 = .local → scope.names.lookup y.1 = some .local
  free : ∀ y ∈ scope.names, y.2 = .free → y.1 ∈ fr
  caps : caps.map (fun i => X.N[i]?) = fr.map some
  out : AllCap X.env fr
  inn : AllCap (compEnvC scope [] 0 X.env) fr
def PF (X : Cx) (ifs : List Expr) (t : TT) : Prop :=
  ∀ (pins : List (Addr × Obj)) (s : Shared) (σ : L2.St) (H : Hp) (Q : Bool → Hp → Prop), Inv X pins σ H s → t σ H Q →
    wpAny (model X.prog X.w) X.A (forIn ifs true fun c r => if r = true then do let ok ← isTrue c X.env (eval c X.env); pure (ForInStep.yield ok) else pure (ForInStep.yield r)) (TP X pins σ Q) X.xe s
def tYes : TT := fun _ H Q => Q true H
theorem pf_nil : PF X [] tYes := fun _ _ _ H _ I h => wpAny_tests_nil ⟨H, I, h⟩
theorem pf_one {c : Expr} {t : TT} (h : PT X c t) : PF X [c] t := fun pins s σ H Q I q => wpAny_tests_one (h pins s σ H Q I q)
def sB (k : Nat) (caps : List Nat) (σ : L2.St) : L2.St := List.replicate k none ++ caps.map fun i => (σ[i]?).getD none
def tBlk (D : Addr) (g : TG) (tt : TT) (te : TE) (J : It) (σ0 : L2.St) (H1 : Hp) (Q : VK) : Prop := ∃ W : Nat → Nat → L2.St → List V → Hp → Prop,
  (∃ m, W 0 m σ0 [] (upd H1 D (.lst []))) ∧ ∀ i m σ2 ys H2, W i m σ2 ys H2 → (J.stop i H2 ∧ Q (.ref D) H2) ∨ (J.go i H2 ∧ ∀ x H3, J.yld i H2 x H3 → g x σ2 H3 fun σ4 H4 => tt σ4 H4 fun b H5 =>
    if b = true then te σ4 H5 fun v H6 => H6 D = some (.lst ys) ∧ ys.length < sizeLine ∧ ∃ m', m' < m ∧ W (i + 1) m' σ4 (ys ++ [v]) (upd H6 D (.lst (ys ++ [v]))) else ∃ m', m' < m ∧ W (i + 1) m' σ4 ys H5)
def tComp (k : Nat) (caps : List Nat) (wi : TI) (g : TG) (tt : TT) (te : TE) : TE := fun σ H Q => wi σ H fun J H1 => ∀ D, H1 D = none → tBlk D g tt te J (sB k caps σ) H1 Q
theorem sB_get {k : Nat} {caps : List Nat} {σ : L2.St} {i : Nat} {v : V} (h : (sB k caps σ)[i]? = some (some v)) : k ≤ i ∧ ∃ j, caps[i - k]? = some j ∧ σ[j]? = some (some v) := by
  unfold sB at h
  by_cases c : i < k
  · rw [List.getElem?_append_left (by simpa using c), List.getElem?_replicate, if_pos c] at h
    cases h
  · rw [List.getElem?_append_right (by simpa using Nat.le_of_not_lt c), List.length_replicate, List.getElem?_map] at h
    refine ⟨Nat.le_of_not_lt c, ?_⟩
    cases e : caps[i - k]? with
    | none => rw [e] at h; cases h
    | some j =>
      rw [e] at h
      refine ⟨j, rfl, ?_⟩
      have h' : (σ[j]?).getD none = some v := Option.some.inj h
      cases z : σ[j]? with
      | none => rw [z] at h'; cases h'
      | some o =>
        rw [z] at h'
        exact congrArg some h'
theorem comp_block {elt target iter : Expr} {ifs : List Expr} {scope : Scope} {pos : Pos} {tn fr : List Str} {caps : List Nat} {g : TG} {tt : TT} {te : TE} {pins : List (Addr × Obj)} {σ : L2.St} {H2 : Hp} {s2 : Shared} {J : It} {fp : List Addr} {it : Addr}
    {tnn : Nat → Heap → Prop} {Q : VK} {RR : Value → Addr → Result → Shared → Prop} {E : Value → Shared → Prop} (hc : X.calm = true) (B : BlkS X scope fr caps)
    (hg : ∀ C s H fp, PG (cxB X (tn ++ fr) scope (capCl X.env fr) C s H fp) target g) (ht : ∀ C s H fp, PF (cxB X (tn ++ fr) scope (capCl X.env fr) C s H fp) ifs tt) (he : ∀ C s H fp, PE (cxB X (tn ++ fr) scope (capCl X.env fr) C s H fp) elt te)
    (I2 : Inv X pins σ H2 s2) (T : Turn X.prog X.w X.K target J fp it tnn) (st2 : tnn 0 s2.heap) (f2 : ∀ b ∈ fp, FpOk X pins H2 b) (q : ∀ D, H2 D = none → tBlk D g tt te J (sB tn.length caps σ) H2 Q)
    (fin : ∀ D C H' s' m, Inv X pins σ H' s' → s'.heap.Ns C m → FpOk X pins H' C → Q (.ref D) H' → RR (.ref D) C (.ok .next) s') :
    wpAny (model X.prog X.w) X.A (newList []) (fun acc s₃ => wpAny (model X.prog X.w) X.A (newFunctionEnv scope X.env.globals (capCl X.env fr) [] X.env.qual none .none (some X.env)) (fun cenv s₄ =>
      codeAny (model X.prog X.w) X.A (.compStart (.ListComp elt [⟨target, iter, ifs, 0⟩] scope pos) 0 (.ref it) acc { cenv with scope := relabel scope X.env }) (RR acc cenv.locals) s₄) E s₃) E s2 := by
  refine wpAny_newObj_type (wpAny_newFunctionEnv B.cell (by intro y hy; simp at hy) (fun h₁ hns₁ hsb₁ => ?_) B.kind)
  have I3 : Inv X pins σ (upd H2 s2.heap.objs.size (.lst [])) { s2 with heap := s2.heap.push { cls := .type "list", data := .seq ([] : List Value).toArray } } := I2.lnew (t' := s2.toks) (its := []) .nil (Nat.zero_le _)
  obtain ⟨W, ⟨m0, w0⟩, turn⟩ := q s2.heap.objs.size (I2.hok.fresh (Nat.le_refl _))
  generalize hH3 : upd H2 s2.heap.objs.size (.lst []) = H3 at I3 w0
  have f3 : ∀ b ∈ fp, FpOk X pins H3 b := fun b hb => by
    obtain ⟨a0, a1⟩ := f2 b hb
    refine ⟨?_, a1⟩
    obtain ⟨o, e, _⟩ := T.obj _ _ st2 b hb
    rw [← hH3, upd_ne (Nat.ne_of_lt (Heap.lt_size e))]
    exact a0
  generalize hD : s2.heap.objs.size = D at *
  generalize hs3 : ({ s2 with heap := s2.heap.push { cls := .type "list", data := .seq ([] : List Value).toArray } } : Shared) = s3 at *
  have e3 : s3.heap = s2.heap.push { cls := .type "list", data := .seq ([] : List Value).toArray } := by rw [← hs3]
  have st3 : tnn 0 s3.heap := T.keep _ _ _ st2 fun b _ o e => by rw [e3]; exact Heap.get?_push_of_some _ e
  have kept : ∀ b o, s3.heap.get? b = some o → h₁.get? b = some o := fun b o e => (hsb₁.2 b (Nat.ne_of_lt (Heap.lt_size e))).trans (Heap.get?_push_of_some _ e)
  generalize hC : s3.heap.objs.size = C at *
  have hCs : s3.heap.objs.size ≤ C := Nat.le_of_eq hC
  have I4 : Inv X pins σ H3 { s3 with heap := h₁, toks := s3.toks + ([] : List (Str × Value)).length } := I3.kept kept
  have fpC : ∀ b ∈ fp, b ≠ C := fun b hb z => by
    obtain ⟨o, e, _⟩ := T.obj _ _ st3 b hb
    exact absurd z (Nat.ne_of_lt (Nat.lt_of_lt_of_le (Heap.lt_size e) hCs))
  have nst : ∀ b ∈ fp, b ∉ frs X.stack := fun b hb z => (List.mem_cons.mp (I3.stkSub b z)).elim (f3 b hb).2.1 (f3 b hb).2.2.1
  have okB : (cxB X (tn ++ fr) scope (capCl X.env fr) C s3 H3 fp).Ok := by
    refine ⟨I3.ok.mod, B.kind, I3.ok.glob, I3.ok.blt, hCs, fun x y c e1 e2 => I3.ok.inj x y c (capCl_get e1) (capCl_get e2), fun x hx => ?_, fun x c z => (nomatch z), I3.ok.hd, I3.ok.frames, .inl rfl,
      fun b hb => ⟨fpC b hb, fun x c e => (f3 b hb).2.2.2.2.1 x c (capCl_get e)⟩, I3.bs, Nat.le_trans I3.ok.bsz I3.sz, fun b o e hb => ?_, nst, I3.stack, I3.stkFree⟩
    · have hm : ∃ k, (x, k) ∈ scope.names ∧ k ≠ .local ∧ (k = .cell ∨ k = .free) := by
        have : ∃ k', (relabel scope X.env).names.lookup x = some k' ∧ (k' = .cell ∨ k' = .free) := by
          rcases hx with z | z
          · exact ⟨_, z, .inl rfl⟩
          · exact ⟨_, z, .inr rfl⟩
        obtain ⟨k', e', h'⟩ := this
        obtain ⟨⟨n, k⟩, hn, en⟩ := List.mem_map.mp (lookup_mem e')
        dsimp only at en
        by_cases cc : (k == NameKind.free && X.env.scope.kind == .function && X.env.kindOf n == some .cell) = true
        · rw [if_pos cc] at en
          cases en
          have kf : k = .free := by
            rw [Bool.and_eq_true, Bool.and_eq_true] at cc
            simpa using cc.1.1
          exact ⟨k, hn, (by intro z; rw [kf] at z; cases z), .inr kf⟩
        · rw [if_neg cc] at en
          cases en
          exact ⟨k', hn, fun z' => by rcases h' with y | y <;> (rw [y] at z'; cases z'), h'⟩
      obtain ⟨k, hk, _, h2⟩ := hm
      rcases h2 with z | z
      · exact absurd z (B.cell _ hk)
      · have hf := B.free _ hk z
        obtain ⟨c, ec⟩ := I3.ok.has x (B.out.at hf)
        exact ⟨c, capCl_has ec hf⟩
    · obtain ⟨_, _, _, h1, _⟩ := f3 b hb
      rcases h1 with z | z
      · exact I3.ok.noex b o e z
      · exact Nat.lt_irrefl _ (Nat.lt_of_lt_of_le (Nat.lt_of_lt_of_le (Heap.lt_size e) I3.ok.bsz) z)
  have IB : Inv (cxB X (tn ++ fr) scope (capCl X.env fr) C s3 H3 fp) [] (sB tn.length caps σ) H3 { s3 with heap := h₁, toks := s3.toks + ([] : List (Str × Value)).length } := by
    refine ⟨okB, rfl, I3.bare, Un.kept kept, ⟨_, hns₁, fun i x v e1 e2 _ => ?_⟩, fun x c e => I4.cell x c (capCl_get e), ?_, fun x c e => I3.freeC x c (capCl_get e), fun p hp => (nomatch hp), I3.hok.kept kept, ?_⟩
    · obtain ⟨hk, j, ej, es⟩ := sB_get e2
      have e1' : fr[i - tn.length]? = some x := by
        have z : (tn ++ fr)[i]? = some x := e1
        rw [List.getElem?_append_right hk] at z
        exact z
      have hx : x ∈ fr := List.mem_of_getElem? e1'
      have eN : X.N[j]? = some x := by
        have z := congrArg (fun l : List (Option Str) => l[i - tn.length]?) B.caps
        simp only [List.getElem?_map, ej, e1', Option.map_some] at z
        exact Option.some.inj z
      have ko := B.out.at hx
      obtain ⟨m, hn, hl⟩ := I4.loc
      obtain ⟨u, r, lk⟩ := hl j x v eN es (by rcases ko with z | z; exact .inr (.inl z); exact .inr (.inr z))
      refine ⟨u, r, ?_⟩
      rcases lk with ⟨k1, _⟩ | ⟨_, c, ec, ic⟩
      · rcases ko with z | z <;> (rw [z] at k1; cases k1)
      · exact .inr ⟨B.inn.at hx, c, capCl_has ec hx, ic⟩
    · exact I3.hok.fresh hCs
    · have := congrArg List.length B.caps
      simp only [List.length_map] at this
      show (sB tn.length caps σ).length = (tn ++ fr).length
      unfold sB
      simp [this]
  have statB : ∀ {H' : Hp}, (∀ b ∈ fp, H' b = none) → ∀ b ∈ fp, FpOk (cxB X (tn ++ fr) scope (capCl X.env fr) C s3 H3 fp) [] H' b := fun hn b hb =>
    ⟨hn b hb, fpC b hb, nst b hb, .inl hb, fun x c e => (f3 b hb).2.2.2.2.1 x c (capCl_get e), fun p hp => (nomatch hp)⟩
  have st4 : tnn 0 h₁ := T.keep _ _ _ st3 fun b _ o e => kept b o e
  have loop : codeAny (model X.prog X.w) X.A (.compLoop (.ListComp elt [⟨target, iter, ifs, 0⟩] scope pos) 0 (.ref it) (.ref D) (compEnvC scope (capCl X.env fr) C X.env)) (RR (.ref D) C) { s3 with heap := h₁, toks := s3.toks + ([] : List (Str × Value)).length } := by
    refine compLoop_any (fun n s' => ∃ i σ' ys H', Inv (cxB X (tn ++ fr) scope (capCl X.env fr) C s3 H3 fp) [] σ' H' s' ∧ tnn i s'.heap ∧ (∀ b ∈ fp, H' b = none) ∧ W i n σ' ys H') ?_ m0 ⟨0, _, [], H3, IB, st4, fun b hb => (f3 b hb).1, w0⟩
    rintro n s5 ⟨i, σ5, ys, H5, I5, st5, fr5, w5⟩
    rcases turn i n σ5 ys H5 w5 with ⟨stop, qn⟩ | ⟨go, step⟩
    · refine wpAny_mono (T.done (cxB X (tn ++ fr) scope (capCl X.env fr) C s3 H3 fp) rfl rfl rfl hc i [] s5 σ5 H5 (fun _ _ => False) I5 (statB fr5) st5 stop) (fun r s6 ⟨hr, I6⟩ => ?_) fun _ _ z => z
      subst hr
      obtain ⟨m, hn, _⟩ := I6.loc
      have J6 : Inv X pins σ H5 s6 := I3.call' (ch := fp) I6.os I6.base I6.hok I6.bare fun b hb => ⟨(f3 b hb).2.2.2.1, (f3 b hb).2.1, (f3 b hb).2.2.2.2.1, (f3 b hb).2.2.2.2.2⟩
      exact fin D C H5 s6 m J6 hn (I3.fpOk hCs I6.free) qn
    · refine wpAny_mono (T.item (cxB X (tn ++ fr) scope (capCl X.env fr) C s3 H3 fp) rfl rfl rfl hc i [] s5 σ5 H5 (fun _ _ => False) I5 (statB fr5) st5 go) (fun r s6 ⟨u, hr, h6⟩ => ?_) fun _ _ z => z
      subst hr
      refine wpAny_mono h6 (fun _ s7 ⟨x, H7, I7, r7, y7, st7, fr7⟩ => ?_) fun _ _ z => z
      have I7' := I7.pinned (statB fr7) (T.obj _ _ st7)
      have held : ∀ {σ' : L2.St} {H' : Hp} {s' : Shared}, Inv (cxB X (tn ++ fr) scope (capCl X.env fr) C s3 H3 fp) ([] ++ pinsAt fp s7.heap) σ' H' s' → tnn (i + 1) s'.heap ∧ ∀ b ∈ fp, H' b = none := fun {σ' H' s'} I' => by
        refine ⟨T.keep _ _ _ st7 fun b hb o e => (I'.pin (b, o) (List.mem_append_right _ (List.mem_append_right _ (mem_pinsAt hb e)))).1, fun b hb => ?_⟩
        obtain ⟨o, e, d⟩ := T.obj _ _ st7 b hb
        exact (I'.pin (b, o) (List.mem_append_right _ (List.mem_append_right _ (mem_pinsAt hb e)))).2.1
      refine wpAny_mono (hg C s3 H3 fp _ s7 σ5 H7 x u _ I7' r7 (step x H7 y7)) (fun _ s8 ⟨σ8, H8, I8, q8⟩ => ?_) fun _ _ z => z
      refine wpAny_mono (ht C s3 H3 fp _ s8 σ8 H8 _ I8 q8) (fun ok s9 ⟨H9, I9, q9⟩ => ?_) fun _ _ z => z
      cases ok with
      | false =>
        rw [if_neg Bool.false_ne_true] at q9
        obtain ⟨m', hm, w9⟩ := q9
        rw [if_neg Bool.false_ne_true]
        obtain ⟨a, b⟩ := held I9
        exact ⟨m', hm, i + 1, σ8, ys, H9, I9.unpinned, a, b, w9⟩
      | true =>
        rw [if_pos rfl] at q9
        rw [if_pos rfl]
        refine wpAny_mono (he C s3 H3 fp _ s9 σ8 H9 _ I9 q9) (fun v s10 ⟨y, H10, I10, r10, hDD, hl, m', hm, w10⟩ => ?_) fun _ _ z => z
        refine wpAny_mono (mt_append (X := cxB X (tn ++ fr) scope (capCl X.env fr) C s3 H3 fp) _ s10 σ8 H10 (.ref D) [y] (.ref D) [v] (fun _ H' => W (i + 1) m' σ8 (ys ++ [y]) H') I10 rfl (.cons r10 .nil) ⟨D, ys, y, rfl, rfl, hDD, hl, w10⟩) (fun _ s11 ⟨z, H11, I11, _, q11⟩ => ?_) fun _ _ z => z
        obtain ⟨a, b⟩ := held I11
        exact ⟨m', hm, i + 1, σ8, ys ++ [y], H11, I11.unpinned, a, b, q11⟩
  exact codeAny_compStart_list loop (T.self X.A 0 _ _ _ st4 loop)
theorem pe_comp {elt target iter : Expr} {ifs : List Expr} {scope : Scope} {pos : Pos} {tn fr : List Str} {caps : List Nat} {wi : TI} {g : TG} {tt : TT} {te : TE} (hc : X.calm = true) (B : BlkS X scope fr caps) (hi : PI X target iter wi)
    (hg : ∀ C s H fp, PG (cxB X (tn ++ fr) scope (capCl X.env fr) C s H fp) target g) (ht : ∀ C s H fp, PF (cxB X (tn ++ fr) scope (capCl X.env fr) C s H fp) ifs tt) (he : ∀ C s H fp, PE (cxB X (tn ++ fr) scope (capCl X.env fr) C s H fp) elt te)
    (hs : ∀ x, foldedSetIterable iter X.env x = pure x := by intro _; rfl) : PE X (.ListComp elt [⟨target, iter, ifs, 0⟩] scope pos) (tComp tn.length caps wi g tt te) := by
  intro pins s σ H Q I h
  rw [eval_ListComp]
  refine wpAny_comprehension_free (use := none) rfl hs B.clos B.kind B.names (thn (hi pins s σ H _ I h) fun v s1 h1 => thn h1 fun itv s2 h2 => ?_)
  obtain ⟨it, fp, tnn, J, H2, rfl, I2, T, st2, f2, q⟩ := h2
  refine comp_block (Q := Q) (RR := fun acc C => compPost (model X.prog X.w) X.A X.xe none (EP X pins σ Q) acc C) hc B hg ht he I2 T st2 f2 q ?_
  intro D C H' s' m I' hn fc qq
  obtain ⟨g0, g1, g2, g3, g4, g5⟩ := fc
  exact ⟨m, hn, fun h' hs' => ⟨.ref D, H', I'.turned (t' := s'.toks) (fun b o hb e => (hs'.2 b hb).trans e) g0 g1 g3 g4 g5, rfl, qq⟩⟩
theorem ps_setC {i : Nat} {y : Str} {py : Pos} {spos : Pos} {elt target iter : Expr} {ifs : List Expr} {scope : Scope} {pos : Pos} {tn fr : List Str} {caps : List Nat} {wi : TI} {g : TG} {tt : TT} {te : TE} (hN : X.N.Nodup) (hiN : X.N[i]? = some y) (hx : Loc X.env.scope y)
    (hc : X.calm = true) (B : BlkS X scope fr caps) (hi : PI X target iter wi)
    (hg : ∀ C s H fp, PG (cxB X (tn ++ fr) scope (capCl X.env fr) C s H fp) target g) (ht : ∀ C s H fp, PF (cxB X (tn ++ fr) scope (capCl X.env fr) C s H fp) ifs tt) (he : ∀ C s H fp, PE (cxB X (tn ++ fr) scope (capCl X.env fr) C s H fp) elt te)
    (hsw : swapsWith (.ListComp elt [⟨target, iter, ifs, 0⟩] scope pos) (some (.Name y py)) spos.line X.env = pure true := by rfl)
    (hs : ∀ x, foldedSetIterable iter X.env x = pure x := by intro _; rfl) (hf : X.fn y = true ∨ X.env.scope.names.lookup y = some .local := by first | exact .inl rfl | exact .inr rfl | assumption) :
    PS X (.Assign [.Name y py] (.ListComp elt [⟨target, iter, ifs, 0⟩] scope pos) spos) (tAsg (tComp tn.length caps wi g tt te) (gName i)) := by
  intro pins s σ H D I h
  rw [exec_Assign_Name_used _ _ _ _ hsw]
  refine wpAny_bind (wpAny_standAt (wpAny_bind ?_))
  show wpAny _ X.A (do let _ ← comprehension (.ListComp elt [⟨target, iter, ifs, 0⟩] scope pos) scope X.env _ (newList []) false (eval iter X.env) (some (assign (.Name y py) X.env))) _ _ s
  refine wpAny_bind (wpAny_mono (wpAny_comprehension_free (use := some (assign (.Name y py) X.env)) (Q := fun _ s' => SP X pins D .next s') rfl hs B.clos B.kind B.names
    (thn (hi pins s σ H _ I h) fun v s1 h1 => thn h1 fun itv s2 h2 => ?_)) (fun _ s' hq => wpAny_pure (wpAny_pure hq)) fun _ _ e => e)
  obtain ⟨it, fp, tnn, J, H2, rfl, I2, T, st2, f2, q⟩ := h2
  refine comp_block (Q := fun v H1 => gName i v σ H1 D.nx) (RR := fun acc C => compPost (model X.prog X.w) X.A X.xe (some (assign (.Name y py) X.env)) (fun _ s' => SP X pins D .next s') acc C) hc B hg ht he I2 T st2 f2 q ?_
  intro DD C H' s' m I' hn fc qq
  obtain ⟨g0, g1, g2, g3, g4, g5⟩ := fc
  show wpAny _ X.A (assign (.Name y py) X.env (.ref DD)) _ _ _
  refine wpAny_assign_Name (store_ok2 I' hN hiN hx (v := .ref DD) (u := .ref DD) rfl (fun s'' I'' ⟨a, sb, ha⟩ => ?_) hf)
  have hCa : C ≠ a := by
    rcases ha with z | z
    · rw [z]
      exact g1
    · exact fun e => g4 y a z e.symm
  exact ⟨m, hn.sameBut sb hCa, fun h' hs' => ⟨_, H', I''.turned (t' := s''.toks) (fun b o hb e => (hs'.2 b hb).trans e) g0 g1 g3 g4 g5, qq⟩⟩
end
section
variable {D : Addr} {te : TE} {cap : L2.St} {H1 : Hp} {Q : VK}
theorem blk_of {J : It} (n : Nat) (xs : Nat → V) (Pv : Nat → List V → Hp → Prop) (h0 : Pv 0 [] (upd H1 D (.lst [])))
    (go : ∀ i ys H, i < n → Pv i ys H → J.go i H ∧ ∀ x H', J.yld i H x H' → H' = H ∧ x = xs i) (stop : ∀ ys H, Pv n ys H → J.stop n H)
    (hs : ∀ i ys H (R : VK), i < n → Pv i ys H → H D = some (.lst ys) → (∀ v H6, H6 D = some (.lst ys) → ys.length < sizeLine → Pv (i + 1) (ys ++ [v]) (upd H6 D (.lst (ys ++ [v]))) → R v H6) → te (some (xs i) :: cap) H R)
    (hd : ∀ ys H, Pv n ys H → H D = some (.lst ys) → Q (.ref D) H) : tBlk D (gName 0) tYes te J (none :: cap) H1 Q := by
  refine ⟨fun i m σ ys H => m = n - i ∧ i ≤ n ∧ (∃ o, σ = o :: cap) ∧ Pv i ys H ∧ H D = some (.lst ys), ⟨n, by simp, Nat.zero_le _, ⟨none, rfl⟩, h0, upd_same⟩, ?_⟩
  rintro i m σ ys H ⟨rfl, hi, ⟨o, rfl⟩, p, hD⟩
  by_cases hlt : i < n
  · obtain ⟨g1, g2⟩ := go i ys H hlt p
    refine .inr ⟨g1, fun x H' y => ?_⟩
    obtain ⟨e1, e2⟩ := g2 x H' y
    subst e1 e2
    unfold gName tYes
    dsimp only
    rw [if_pos rfl]
    exact hs i ys _ _ hlt p hD fun v H6 a b c => ⟨a, b, n - (i + 1), by omega, rfl, by omega, ⟨_, rfl⟩, c, upd_same⟩
  · have e : i = n := by omega
    subst e
    exact .inl ⟨stop ys H p, hd ys H p hD⟩
end
def Its (x : Str) : It := ⟨fun i _ => i < x.cps.size, fun i H v H' => H' = H ∧ ∃ c, x.cps[i]? = some c ∧ v = .str ⟨#[c]⟩, fun i _ => i = x.cps.size⟩
section
variable {X : Cx} {tg : Expr}
def iStr (tl : TE) : TI := fun σ H R => tl σ H fun x H1 => ∃ z, x = .str z ∧ R (Its z) H1
end
end Ty

set_option maxHeartbeats 4000000
namespace Ty
open PySem PySem.Spec PyProof.Rows L2
section
variable {prog : Program} {w : World} {A : Around} {E : Value → Shared → Prop}
end
def gLst (K : PySem.W.Frag) (n : Nat) (t : TGs) : TG := fun v σ H Q => ∃ a xs, v = .ref a ∧ SqL K H a xs ∧ xs.length = n ∧ t xs σ H Q
structure Mk0 (K : PySem.W.Frag) (C : Addr) : Prop where
  makes : PySem.W.makesIn K C = true
  init : PySem.W.findIn K (.ref C) "__init__" = some (some (.builtin "object.__init__"))
  kp : PySem.W.keepIn K (.ref C) = true
def tMk0 (C : Addr) : TE := fun _ H Q => ∀ x dx, H x = none → H dx = none → dx ≠ x → Q (.ref x) (upd (upd H dx (.own x)) x (.ins C dx []))
section
variable {X : Cx}
theorem run_mk0 {pins : List (Addr × Obj)} {σ : L2.St} {H : Hp} {s : Shared} {Q : VK} {C : Addr} (M : Mk0 X.K C) (I : Inv X pins σ H s) (h : tMk0 C σ H Q) : wpAny (model X.prog X.w) X.A (call (.ref C) []) (EP X pins σ Q) X.xe s := by
  have hq := h (s.heap.objs.size + 1) s.heap.objs.size (I.hok.fresh (Nat.le_succ _)) (I.hok.fresh (Nat.le_refl _)) (Nat.ne_of_lt (Nat.lt_succ_self _))
  have I2 := Inv.made (C := C) I
  have Y := PySem.W.makes_of (M := model X.prog X.w) I.kIn M.makes
  refine wpAny_call (make_map0 I.kIn M.makes M.init (fun self => PySem.W.Looks.of_pure (PySem.W.oi_bind self)) ?_)
  have ho : ((s.heap.push PySem.W.emptyDict).push (PySem.W.instObj C s.heap.objs.size)).get? (s.heap.objs.size + 1) = some (PySem.W.instObj C s.heap.objs.size) := by
    have := Heap.get?_push_size (s.heap.push PySem.W.emptyDict) (o := PySem.W.instObj C s.heap.objs.size) rfl
    rwa [Heap.size_push] at this
  have t1 : PySem.W.Looks (model X.prog X.w) ((s.heap.push PySem.W.emptyDict).push (PySem.W.instObj C s.heap.objs.size)) (typeOf (.ref (s.heap.objs.size + 1))) (.ref C) := (PySem.W.Looks.ld ho).andThen .now
  have t2 : PySem.W.Looks (model X.prog X.w) ((s.heap.push PySem.W.emptyDict).push (PySem.W.instObj C s.heap.objs.size)) (isInstance (.ref (s.heap.objs.size + 1)) (.type "object")) true :=
    t1.andThen (Y.top.keeps fun b o e => Heap.get?_push_of_some _ (Heap.get?_push_of_some _ e))
  refine codeAny_call_builtin PySem.W.oi_plain PySem.W.entry_oi (@PySem.W.check_slot (model X.prog X.w) _ _ _ "object.__init__" "object" "__init__" (.ref (s.heap.objs.size + 1)) [] [] _ PySem.W.oi_kind PySem.W.oi_split t2 (PySem.W.oi_args (.ref (s.heap.objs.size + 1))) ?_)
  rw [PySem.W.oi_run]
  exact wpAny_pure (And.intro rfl ⟨V.ref (s.heap.objs.size + 1), _, I2, rfl, hq⟩)
theorem pe_mk0 {x : Str} {p pos : Pos} {C : Addr} (M : Mk0 X.K C) (hg : Gl X x) (hm : X.mg x = some (.ref C)) (hdb : (x == ("__debug__" : Str)) = false := by decide) : PE X (.Call (.Name x p) [] [] pos) (tMk0 C) := by
  intro pins s σ H Q I h
  refine wpAny_Call_Name_kw (ld_glob I hg hm ?_ hdb)
  exact PySem.W.callWith_K0 I.kIn M.kp (run_mk0 M I h)
end
structure MtdOk (P : Program) (w : World) (K : PySem.W.Frag) (mg : Str → Option Value) (base : Heap) (CX : CXT) (k : Nat) (C : Addr) (m : Str) (ps : List Str) (sp : Sp) : Prop where
  ex : ∃ (f : Addr) (fd : FuncData), Cls K C ∧ Meth K C m f ∧ FnOk P w K mg base CX k f fd ps sp ∧ Binds K fd ps []
theorem MtdOk.mono {P : Program} {w : World} {K : PySem.W.Frag} {mg : Str → Option Value} {base : Heap} {CX : CXT} {j k : Nat} {C : Addr} {m : Str} {ps : List Str} {sp : Sp} (M : MtdOk P w K mg base CX j C m ps sp) (h : j ≤ k) : MtdOk P w K mg base CX k C m ps sp := by
  obtain ⟨f, fd, a, b, c, d⟩ := M.ex
  exact ⟨f, fd, a, b, c.mono h, d⟩
section
variable {X : Cx} {CX : CXT} {k : Nat} {E : XK} {m : Str} {pos apos : Pos} {e o : Expr} {es : List Expr} {ta : TE} {t : TA}
def tMtd (P : Program) (w : World) (K : PySem.W.Frag) (mg : Str → Option Value) (base : Heap) (CX : CXT) (k : Nat) (m : Str) (E : XK) (ta : TE) (t : TA) : TE := fun σ H Q => ta σ H fun x H1 => ∃ a C dx fs ps sp, x = .ref a ∧ H1 a = some (.ins C dx fs) ∧ fs.lookup m = none ∧
  MtdOk P w K mg base CX k C m ps sp ∧ t σ H1 fun vs H2 => sp (x :: vs) H2 Q E
theorem pe_mtd0 {pl : Sem Bool} (he : PE X o ta) (hr : Room k X.A) (hx : Passes CX X E)
    (ht : eval (.Call (.Attribute o m apos) [] [] pos) X.env = (do
      let ov ← eval o X.env
      standAt apos.atName
      let (f, first) ← holding [ov] (getMethod ov m pl)
      callWith pos f first (backTo pos (starEach [] X.env)) (backToKw pos (keywordEach [] X.env))) := by rfl) :
    PE X (.Call (.Attribute o m apos) [] [] pos) (tMtd X.prog X.w X.K X.mg X.base CX k m E ta tNil) := by
  intro pins s σ H Q I h
  refine PySem.W.methodCall_KW (pl := pl) (thn (he pins s σ H _ I h) fun u s1 ⟨x, H1, I1, rx, a, C, dx, fs, ps, sp, ex, ea, l, M, q⟩ => ?_) ht
  subst ex
  obtain rfl : u = Value.ref a := rx
  obtain ⟨f, fd, c, hm, F, hb⟩ := M.ex
  refine getmeth_ok I1 ea c hm l ?_
  exact PySem.W.callWith_K0 (first := [.ref a]) I1.kIn hm.kp (run_fn (us := [.ref a]) (vs := [.ref a]) (dvs := []) F hr hb .nil hx I1 (.cons rfl .nil) q)
theorem pe_mtd {pl : Sem Bool} (he : PE X o ta) (hr : Room k X.A) (hx : Passes CX X E) (ha : PA X (e :: es) t)
    (hst : starEach (e :: es) X.env = (false, eval e X.env) :: starEach es X.env := by rfl) (hpl : (backTo pos (starEach es X.env)).any (·.1) = false := by rfl)
    (ht : eval (.Call (.Attribute o m apos) (e :: es) [] pos) X.env = (do
      let ov ← eval o X.env
      standAt apos.atName
      let (f, first) ← holding [ov] (getMethod ov m pl)
      callWith pos f first (backTo pos (starEach (e :: es) X.env)) (backToKw pos (keywordEach [] X.env))) := by rfl) :
    PE X (.Call (.Attribute o m apos) (e :: es) [] pos) (tMtd X.prog X.w X.K X.mg X.base CX k m E ta t) := by
  intro pins s σ H Q I h
  refine PySem.W.methodCall_KW (pl := pl) (thn (he pins s σ H _ I h) fun u s1 ⟨x, H1, I1, rx, a, C, dx, fs, ps, sp, ex, ea, l, M, q⟩ => ?_) ht
  subst ex
  obtain rfl : u = Value.ref a := rx
  obtain ⟨f, fd, c, hm, F, hb⟩ := M.ex
  refine getmeth_ok I1 ea c hm l ?_
  refine PySem.W.callWith_K (first := [.ref a]) (h₀ := X.base) I.ok.mod.kin hm.kp (thn (ha pos pins s1 σ H1 _ I1 q) fun us s2 ⟨vs, H2, I2, r, q2⟩ => ⟨I2.kIn, ?_⟩) hst hpl
  refine run_fn (us := .ref a :: us) (vs := .ref a :: vs) (dvs := []) F hr hb .nil hx I2 (.cons rfl r) ?_
  rw [List.append_nil]
  exact q2
end
theorem fun_okX {P : Program} {w : World} {K : PySem.W.Frag} {mg : Str → Option Value} {base : Heap} {name qual : Str} {st : Stmt} {f : Addr} {fd : FuncData} {N ps : List Str} {k : Nat} {sp : Sp} (F : Fun K name qual st f fd) (S : FnScope N ps (defScope st)) (len : ∀ vs H Q E, sp vs H Q E → vs.length = ps.length)
    (hbody : ∀ (cdv : Value) (A : Around) (outer : List Env) (s : Shared) (H : Hp) (vs : List V) (Q : VK) (E : XK), Room k (A.deeper (envOfC qual (defScope st) s.heap.objs.size f cdv)) → sp vs H Q E →
      ∃ t, PSs (cxr P w K mg base N qual (defScope st) f cdv A outer s H E) (defBody st) t ∧ t { nx := fun _ H' => Q .non H', rt := Q } (start N vs) H) : FnOk P w K mg base (CXr P w) (k + 1) f fd ps sp := by
  obtain ⟨oc, od, kV, doc, pm, an, cdv, ct, osl, rfl, lk, hcd⟩ := F.ex
  exact fn_of lk hcd S len fun A outer s H vs Q E hr hsp => hbody cdv A outer s H vs Q E hr hsp
theorem passB {X : Cx} {CX : CXT} (h : Mute CX) (e : X.xe = fun _ _ => False) : Passes CX X E0 := fun _ _ _ _ _ _ _ q => (h _ _ _ _ _ q).elim
end Ty

set_option maxHeartbeats 4000000
namespace Ty
open PySem PySem.Spec PyProof.Rows L2
section
variable {σ : L2.St} {H : Hp} {Q : VK} {QB : Bool → Hp → Prop} {QA : List V → Hp → Prop} {D : Ends} {t u : TS} {ta tb te : TE} {tc td : TT} {t1 : TA}
end
end Ty

set_option maxHeartbeats 4000000
namespace Ty
open PySem PySem.Spec PyProof.Rows L2
section
variable {X : Cx}
def tFmt (te : TE) : TE := fun σ H Q => te σ H fun x H1 => ∃ z, x = .str z ∧ z.length ≤ sizeLine ∧ Q (.str z) H1
abbrev TJ := L2.St → Hp → (List Str → Hp → Prop) → Prop
def PJ (X : Cx) (es : List Expr) (t : TJ) : Prop :=
  ∀ (pins : List (Addr × Obj)) (s : Shared) (σ : L2.St) (H : Hp) (acc : Str) (Q : List Str → Hp → Prop), Inv X pins σ H s → acc.length + 5000 * es.length ≤ sizeLine → t σ H Q →
    Joins (model X.prog X.w) X.A X.xe (evalEach es X.env) acc (fun out s1 => ∃ ys H1, Inv X pins σ H1 s1 ∧ out = ys.foldl (· ++ ·) acc ∧ out.length ≤ sizeLine ∧ Q ys H1) s
def jNil : TJ := fun _ H Q => Q [] H
def jCons (te : TE) (t : TJ) : TJ := fun σ H Q => te σ H fun x H1 => ∃ z, x = .str z ∧ z.length ≤ 5000 ∧ t σ H1 fun ys H2 => Q (z :: ys) H2
def tJoin (t : TJ) : TE := fun σ H Q => t σ H fun ys H1 => Q (.str (ys.foldl (· ++ ·) Str.empty)) H1
def rStarts : V → List V → Hp → VK → Prop := fun x vs H Q => ∃ z y, x = .str z ∧ vs = [.str y] ∧ Q (.bl (Txt.startswith z y)) H
def rFind : V → List V → Hp → VK → Prop := fun x vs H Q => ∃ z y, x = .str z ∧ vs = [.str y] ∧ Q (.int (Txt.find z y)) H
def rPartition : V → List V → Hp → VK → Prop := fun x vs H Q => ∃ z y, x = .str z ∧ vs = [.str y] ∧ (y.length == 0) = false ∧ z.length ≤ sizeLine ∧
  ∀ p, H p = none → Q (.ref p) (upd H p (.tup [.str (Txt.partition z y).1, .str (Txt.partition z y).2.1, .str (Txt.partition z y).2.2]))
def rSlS : V → Option Int → Option Int → Hp → VK → Prop := fun x lo hi H Q => ∃ z, x = .str z ∧ z.length ≤ sizeLine ∧ Q (.str (Txt.slice z lo hi)) H
theorem sl_str : SlR X rSlS := by
  intro pins s σ H x v vl vu lo hi sl Q I rx hs pl pu h
  obtain ⟨z, rfl, hz, q⟩ := h
  obtain ⟨t, rfl⟩ := rx
  refine ⟨"str", _, F.slot_str_getitem.lookup, typeIs_str _ _ _, ?_⟩
  cases pl <;> cases pu
  · exact wpAny_getItem_str_slice (l := none) (u := none) (st := none) hs rfl (post_val_or_str ⟨Nat.le_trans (Txt.slice_le z _ _) hz, fun t' k => ⟨.str _, H, I.tok k, ⟨t', rfl⟩, q⟩⟩)
  · rename_i j uj
    exact wpAny_getItem_str_slice (l := none) (u := some (j, uj)) (st := none) hs rfl (post_val_or_str ⟨Nat.le_trans (Txt.slice_le z _ _) hz, fun t' k => ⟨.str _, H, I.tok k, ⟨t', rfl⟩, q⟩⟩)
  · rename_i i ui
    exact wpAny_getItem_str_slice (l := some (i, ui)) (u := none) (st := none) hs rfl (post_val_or_str ⟨Nat.le_trans (Txt.slice_le z _ _) hz, fun t' k => ⟨.str _, H, I.tok k, ⟨t', rfl⟩, q⟩⟩)
  · rename_i i ui j uj
    exact wpAny_getItem_str_slice (l := some (i, ui)) (u := some (j, uj)) (st := none) hs rfl (post_val_or_str ⟨Nat.le_trans (Txt.slice_le z _ _) hz, fun t' k => ⟨.str _, H, I.tok k, ⟨t', rfl⟩, q⟩⟩)
def rIntText : List V → Hp → VK → Prop := fun xs H Q => ∃ z n, xs = [.str z] ∧ PySem.intText? z = some n ∧ z.length ≤ 640 ∧ Q (.int n) H
def rMulS : R2 := fun x y H Q => ∃ z n, x = .str z ∧ y = .int n ∧ MulOk z n ∧ Q (.str (Txt.mul z n)) H
theorem op_mulS : OpR X (binaryOp .Mult) rMulS := by
  intro pins s σ H x y v u Q I rx ry h
  obtain ⟨z, n, rfl, rfl, ok, q⟩ := h
  obtain ⟨t, rfl⟩ := rx
  obtain ⟨t', rfl⟩ := ry
  exact SB.mul ok fun t' k => ⟨.str _, H, I.tok k, ⟨t', rfl⟩, q⟩
theorem all_range (bs : List Bool) : (List.range bs.length).all (fun i => (bs[i]?).getD true) = bs.all id := by
  induction bs with
  | nil => rfl
  | cons b r ih =>
    rw [List.length_cons, List.range_succ_eq_map, List.all_cons, List.all_map, List.all_cons, ← ih]
    rfl
def rAll (K : PySem.W.Frag) : List V → Hp → VK → Prop := fun xs H Q => ∃ (p : Addr) (bs : List Bool), xs = [.ref p] ∧ SqL K H p (bs.map V.bl) ∧ Q (.bl (bs.all id)) H
theorem call_allB (hc : X.calm = true) : CallR X (.builtin "all") (rAll X.K) := by
  intro pins s σ H xs us Q I r h
  obtain ⟨p, bs, rfl, hq, q⟩ := h
  obtain ⟨u, rfl, r1⟩ := vals1 r
  cases r1
  obtain ⟨its, rv, pl, hz⟩ := I.list hq
  refine call_all_walk (wpAny_pyIter_list pl.isList ?_)
  have hne : p ≠ s.heap.objs.size := by obtain ⟨o, ho, _⟩ := pl.isList; exact Nat.ne_of_lt (Heap.lt_size ho)
  have I1 : Inv X pins σ H { s with heap := s.heap.push { cls := .type "list_iterator", data := .fields #[.ref p, .int 0 0] } } := I.kept (t' := s.toks) fun b o e => Heap.get?_push_of_some _ e
  obtain ⟨f0, f1, f2, f3, f4, f5⟩ := I.fpOk (H' := H) (Nat.le_refl s.heap.objs.size) (I.hok.fresh (Nat.le_refl _))
  have hl : its.length = bs.length := by rw [← rv.length, List.length_map]
  refine ⟨s.heap.objs.size, _, _, _, _, _, fun i => (bs[i]?).getD true, rfl, Walks.list (A := X.A.in1) (I.ok.hd hc) s.heap.objs.size p hne its.toArray, ⟨⟨_, Heap.get?_push_size _ rfl, rfl, rfl⟩, pl.isList.at fun o e => Heap.get?_push_of_some _ e⟩, ?_, fun h' tk kk => ?_⟩
  · intro i v s' Q' E' hv hq'
    have hv' : its[i]? = some v := by simpa using hv
    have hi : i < bs.length := by rw [← hl]; exact (List.getElem?_eq_some_iff.mp hv').1
    have eb : (bs.map V.bl)[i]? = some (.bl bs[i]) := by rw [List.getElem?_map, List.getElem?_eq_getElem hi]; rfl
    obtain ⟨u, eu, ru⟩ := rv.get eb
    rw [hv'] at eu
    cases eu
    cases ru
    dsimp only at hq'
    rw [List.getElem?_eq_getElem hi] at hq'
    exact wpAny_truthy_bool hq'
  · refine ⟨.bl (bs.all id), H, I1.turned (t' := tk) (it := s.heap.objs.size) (fun b o hb e => kk b o (by simpa using hb) e) f0 f1 f3 f4 f5, ?_, q⟩
    show _ = _
    rw [← all_range bs, List.size_toArray, hl]
end
end Ty

set_option maxHeartbeats 4000000
namespace Ty
open PySem PySem.Spec PyProof.Rows L2 PySem.NumText
theorem cps_append (x y : Str) : (x ++ y).cps.toList = x.cps.toList ++ y.cps.toList := by
  show (x.cps ++ y.cps).toList = _
  simp
def dg (m : Nat) : List Nat := (Nat.toDigits 10 m).map Char.toNat
def tx (n : Int) : Str := Str.ofString (toString n)
def slash : Str := Str.ofString "/"
def nt (q : Int × Int) : Str := if q.2 = 1 then tx q.1 else tx q.1 ++ slash ++ tx q.2
theorem one_sign (c : Nat) : (⟨#[c]⟩ : Str).length = 1 := rfl
end Ty

set_option maxHeartbeats 4000000
namespace Ty
open PySem PySem.Spec PyProof.Rows L2 PySem.NumText
structure Txk (x : Str) : Prop where
  len : x.length ≤ 400
  cod : ∀ c ∈ x.cps.toList, c < 1000
section
variable {X : Cx}
def tRep (te : TE) : TE := fun σ H Q => te σ H fun x H1 => ∃ z, x = .str z ∧ Txk z ∧ ∀ y : Str, y.length ≤ 5000 → Q (.str y) H1
def rJoinL (K : PySem.W.Frag) : V → List V → Hp → VK → Prop := fun x vs H Q => ∃ (z : Str) (p : Addr) (ys : List Str), x = .str z ∧ vs = [.ref p] ∧ SqL K H p (ys.map V.str) ∧ (ys.map (·.length)).sum + ys.length * z.length ≤ 16777216 ∧ Q (.str (Txt.join z ys)) H
end
def isStar : Expr → Bool
  | .Starred .. => true
  | _ => false
theorem star_cons {e : Expr} {es : List Expr} {env : Env} (h : isStar e = false) : starEach (e :: es) env = (false, eval e env) :: starEach es env := by
  cases e <;> first | rfl | (cases h; done)
theorem pac {X : Cx} {e : Expr} {es : List Expr} {te : TE} {t : TA} (ha : PE X e te) (hr : PA X es t) (h : isStar e = false := by rfl) : PA X (e :: es) (tCons te t) := pa_cons ha hr (star_cons h)
def writs : List Expr → Option (List Str)
  | [] => some []
  | .Constant (.str x) _ _ :: r => (writs r).map (x :: ·)
  | _ => none
def tStrs (xs : List Str) : TA := fun _ H Q => Q (xs.map V.str) H
end Ty

set_option maxHeartbeats 4000000
namespace Ty
open PySem PySem.Spec PyProof.Rows L2
section
variable {D : Addr} {te : TE} {cap : L2.St} {H1 : Hp} {Q : VK}
def KSame (D : Addr) (H H' : Hp) : Prop := ∀ b o, b ≠ D → H b = some o → H' b = some o
theorem KSame.of {H H' : Hp} (s : Same H H') : KSame D H H' := fun b o _ e => s b o e
theorem KSame.upd {H : Hp} {o : HO} : KSame D H (upd H D o) := fun b o' n e => by rw [upd_ne n]; exact e
theorem comp_gen {J : It} (n : Nat) (xs : Nat → V) (Rel : Nat → V → Hp → Prop) (nD : H1 D = none) (hn : n < sizeLine)
    (go : ∀ i H, i < n → Same H1 H → J.go i H ∧ ∀ x H', J.yld i H x H' → H' = H ∧ x = xs i) (stop : ∀ H, Same H1 H → J.stop n H)
    (hR : ∀ i v H H' ys, H D = some (.lst ys) → KSame D H H' → Rel i v H → Rel i v H')
    (he : ∀ i H (R : VK), i < n → Same H1 H → (∀ v H6, Same H H6 → Rel i v H6 → R v H6) → te (some (xs i) :: cap) H R)
    (hd : ∀ ys H, ys.length = n → (∀ i v, ys[i]? = some v → Rel i v H) → Same H1 H → H D = some (.lst ys) → Q (.ref D) H) :
    tBlk D (gName 0) tYes te J (none :: cap) H1 Q := by
  refine blk_of n xs (fun i ys H => ys.length = i ∧ (∀ i v, ys[i]? = some v → Rel i v H) ∧ Same H1 H) ⟨rfl, fun i v e => by simp at e, fun b o e => by rw [upd_ne (ne_of_none e nD)]; exact e⟩ ?_ ?_ ?_ ?_
  · rintro i ys H hi ⟨_, _, s⟩
    exact go i H hi s
  · rintro ys H ⟨_, _, s⟩
    exact stop H s
  · rintro i ys H R hi ⟨l, r, s⟩ hD k
    refine he i H R hi s fun v H6 s6 rv => k v H6 (s6 _ _ hD) (by omega) ⟨by simp [l], fun j u e => ?_, fun b o e => ?_⟩
    · by_cases c : j < ys.length
      · rw [List.getElem?_append_left c] at e
        have ru := hR j u H H6 ys hD (KSame.of s6) (r j u e)
        exact hR j u H6 _ ys (s6 _ _ hD) KSame.upd ru
      · rw [List.getElem?_append_right (by omega)] at e
        have ej : j = i := by
          by_cases z : j - ys.length = 0
          · omega
          · rw [List.getElem?_eq_none (by simp; omega)] at e
            cases e
        subst ej
        have : v = u := by
          rw [show j - ys.length = 0 by omega] at e
          exact Option.some.inj e
        subst this
        exact hR j v H6 _ ys (s6 _ _ hD) KSame.upd rv
    · rw [upd_ne (ne_of_none e nD)]
      exact s6 _ _ (s _ _ e)
  · rintro ys H ⟨l, r, s⟩ hD
    exact hd ys H l r s hD
theorem comp_list {K : PySem.W.Frag} {a : Addr} {xs : List V} (Rel : Nat → V → Hp → Prop) (nD : H1 D = none) (hn : xs.length < sizeLine) (hS : ∀ H, Same H1 H → SqL K H a xs)
    (hR : ∀ i v H H' ys, H D = some (.lst ys) → KSame D H H' → Rel i v H → Rel i v H')
    (he : ∀ i x H (R : VK), xs[i]? = some x → Same H1 H → (∀ v H6, Same H H6 → Rel i v H6 → R v H6) → te (some x :: cap) H R)
    (hd : ∀ ys H, ys.length = xs.length → (∀ i v, ys[i]? = some v → Rel i v H) → Same H1 H → H D = some (.lst ys) → Q (.ref D) H) :
    tBlk D (gName 0) tYes te (Itl K a) (none :: cap) H1 Q := by
  refine comp_gen xs.length (fun i => (xs[i]?).getD .non) Rel nD hn (fun i H hi s => ⟨⟨xs, xs[i], hS H s, List.getElem?_eq_getElem hi⟩, fun x H' y => ⟨y.1, ?_⟩⟩) (fun H s => ⟨xs, hS H s, Nat.le_refl _⟩) hR (fun i H R hi s k => ?_) hd
  · rw [y.2 xs (hS H s)]; rfl
  · have e : xs[i]? = some xs[i] := List.getElem?_eq_getElem hi
    have k' := he i _ H R e s k
    rw [← (show (xs[i]?).getD .non = xs[i] by rw [e]; rfl)] at k'
    exact k'
theorem comp_range {lo : Int} {n : Nat} (Rel : Nat → V → Hp → Prop) (nD : H1 D = none) (hn : n < sizeLine)
    (hR : ∀ i v H H' ys, H D = some (.lst ys) → KSame D H H' → Rel i v H → Rel i v H')
    (he : ∀ (i : Nat) H (R : VK), i < n → Same H1 H → (∀ v H6, Same H H6 → Rel i v H6 → R v H6) → te (some (.int (lo + i)) :: cap) H R)
    (hd : ∀ ys H, ys.length = n → (∀ i v, ys[i]? = some v → Rel i v H) → Same H1 H → H D = some (.lst ys) → Q (.ref D) H) :
    tBlk D (gName 0) tYes te (Itr lo n) (none :: cap) H1 Q :=
  comp_gen n (fun i => .int (lo + i)) Rel nD hn (fun i H hi s => ⟨hi, fun x H' y => y⟩) (fun H s => Nat.le_refl n) hR he hd
end
end Ty

set_option maxHeartbeats 4000000
namespace Ty
open PySem PySem.Spec PyProof.Rows L2
section
variable {X : Cx} {pins : List (Addr × Obj)} {σ : L2.St} {H : Hp} {s : Shared} {h' : Heap}
theorem Inv.turnedT {t' : Nat} {fp : List Addr} {T : Addr} {xs : List V} {its : List Value} (I : Inv X pins σ H s) (k : ∀ b o, b ∉ fp → s.heap.get? b = some o → h'.get? b = some o) (hf : ∀ b ∈ fp, FpOk X pins H b) (hT : s.heap.objs.size ≤ T)
    (hz : xs.length ≤ sizeLine) (rv : Vals xs its) (ht : IsTup h' T its.toArray) : Inv X pins σ (upd H T (.tup xs)) { s with heap := h', toks := t' } := by
  have hn := I.hok.fresh hT
  have nit : ∀ b u, H b = some u → b ∉ fp := fun b u e z => by rw [(hf b z).1] at e; cases e
  have ne : ∀ b o, s.heap.get? b = some o → b ≠ T := fun b o e => Nat.ne_of_lt (Nat.lt_of_lt_of_le (Heap.lt_size e) hT)
  refine I.step (g' := s.gens) (d' := s.drawn) (ch := fp) (fun b hb => ?_) (fun b o _ _ hc e _ => k b o hc e) (fun b o _ _ hc e _ => ⟨o.slots, k b o hc e⟩) (fun b o _ e n => by rw [upd_ne (ne b o e)]; exact n)
    (fun b o hc e => ⟨o, k b o hc e⟩) (fun b ys e => by rw [upd_ne (ne_of_none e hn)]; exact e) (fun b o u e => by rw [upd_ne (ne_of_none e hn)]; exact e) (fun b ps e => ⟨#[], by rw [upd_ne (ne_of_none e hn), e]; simp⟩) (fun m hm => ?_) (fun b u e => ?_) I.bare
  · obtain ⟨f0, f1, f2, f3, f4, f5⟩ := hf b hb
    exact ⟨f3, f1, f4, f5⟩
  · obtain ⟨o, es, ep, ho, r⟩ := hm
    exact ⟨o, es, ep, k _ o (fun z => (hf _ z).2.1 rfl) ho, r⟩
  · by_cases hb : b = T
    · subst hb
      rw [upd_same] at e
      cases e
      exact ⟨hz, its, rv, ht⟩
    · rw [upd_ne hb] at e
      refine (I.hok b u e).stay (fun c v hc q => k c v ?_ q) (fun c q => by rw [upd_ne (ne_of_none q hn)]; exact q) fun c ys q => by rw [upd_ne (ne_of_none q hn)]; exact q
      rcases hc with z | z
      · rw [z]; exact nit b u e
      · exact nit c _ z
end
def Itz (K : PySem.W.Frag) (a b : Addr) : It :=
  ⟨fun i H => ∃ xs ys x y, SqL K H a xs ∧ SqL K H b ys ∧ xs[i]? = some x ∧ ys[i]? = some y,
   fun i H v H' => ∃ p x y, (∀ xs, SqL K H a xs → xs[i]? = some x) ∧ (∀ ys, SqL K H b ys → ys[i]? = some y) ∧ v = .ref p ∧ H p = none ∧ H' = upd H p (.tup [x, y]),
   fun i H => ∃ xs ys, SqL K H a xs ∧ SqL K H b ys ∧ (xs.length ≤ i ∨ ys.length ≤ i)⟩
section
variable {X : Cx}
def iZip (K : PySem.W.Frag) (ta : TA) : TI := fun σ H R => ta σ H fun vs H1 => ∃ a b, vs = [.ref a, .ref b] ∧ (∃ xs, SqL K H1 a xs) ∧ (∃ ys, SqL K H1 b ys) ∧ R (Itz K a b) H1
def rSum (K : PySem.W.Frag) : List V → Hp → VK → Prop := fun xs H Q => ∃ (p : Addr) (ns : List Int), xs = [.ref p] ∧ SqL K H p (ns.map V.int) ∧ Q (.int ns.sum) H
def rListL (K : PySem.W.Frag) : List V → Hp → VK → Prop := fun xs H Q => ∃ (p : Addr) (ys : List V), xs = [.ref p] ∧ SqL K H p ys ∧ ∀ l, H l = none → Q (.ref l) (upd H l (.lst ys))
theorem call_listL : CallR X (.type "list") (rListL X.K) := by
  intro pins s σ H xs us Q I r h
  obtain ⟨p, ys, rfl, hq, q⟩ := h
  obtain ⟨u, rfl, r1⟩ := vals1 r
  cases r1
  obtain ⟨its, rv, ⟨o, n, e, c, d1, d⟩, hz⟩ := I.list hq
  have hlen := rv.length
  refine call_list_seq p (.inl rfl) e c d (fun h' c' hk hl => ?_) (by simp; omega)
  have hn := I.hok.fresh (Nat.le_refl s.heap.objs.size)
  have I2 : Inv X pins σ (upd H s.heap.objs.size (.lst ys)) { s with heap := h', toks := s.toks } := I.laid (t' := s.toks) hk (Nat.le_refl _) ⟨hz, its, c', rv, hl⟩
  exact ⟨.ref _, _, I2, rfl, q _ hn⟩
end
section
variable {X : Cx} {K : PySem.W.Frag}
theorem ix_tupK (h : X.K = K) : IxR X (rIxT K) := by subst h; exact ix_tup
theorem pg_tupK {es : List Expr} {k : Nat} {t : TGs} {n : Nat} {pos : Pos} (hK : X.K = K) (hc : X.calm = true) (h : PGs X es t)
    (hn : (assignEach es X.env).length = n := by rfl) (hst : (assignEach es X.env).findIdx? (·.1) = none := by rfl) : PG X (.Tuple es k pos) (gTup K n t) := by subst hK; exact pg_tup hc h hn hst
end
section
variable {D : Addr} {te : TE} {cap : L2.St} {H1 : Hp} {Q : VK}
end
end Ty

set_option maxHeartbeats 4000000
namespace Ty
open PySem PySem.Spec PyProof.Rows L2
open Builtin.Int (intBits)
def vl (q : Int × Int) : Rat := (q.1 : Rat) / (q.2 : Rat)
structure Sm (T B : Nat) (q : Int × Int) : Prop where
  pos : 0 < q.2
  low : Int.gcd q.1 q.2 = 1
  top : q.1.natAbs ≤ 2 ^ T
  bot : q.2.natAbs ≤ 2 ^ B
theorem ratne {b : Int} (h : b ≠ 0) : (b : Rat) ≠ 0 := by simpa using h
theorem vl_low {t b : Int} (h : b ≠ 0) : vl (low t b) = (t : Rat) / (b : Rat) := by
  have c := low_cross (t := t) h
  have p := low_pos (t := t) h
  have h1 := ratne h
  have h2 := ratne (b := (low t b).2) (by omega)
  have c' : ((low t b).1 : Rat) * b = t * (low t b).2 := by exact_mod_cast c
  unfold vl
  grind
theorem cross_of_vl {t b u c : Int} (hb : b ≠ 0) (hc : c ≠ 0) (h : (t : Rat) / b = (u : Rat) / c) : t * c = u * b := by
  have h1 := ratne hb
  have h2 := ratne hc
  have : (t : Rat) * c = u * b := by grind
  exact_mod_cast this
theorem vl_inj {q r : Int × Int} (hq : 0 < q.2) (hr : 0 < r.2) (gq : Int.gcd q.1 q.2 = 1) (gr : Int.gcd r.1 r.2 = 1) (h : vl q = vl r) : q = r := by
  have c := cross_of_vl (t := q.1) (b := q.2) (u := r.1) (c := r.2) (by omega) (by omega) h
  have e := low_cross_iff (t := q.1) (b := q.2) (u := r.1) (c := r.2) (by omega) (by omega) c
  rw [low_self hq gq, low_self hr gr] at e
  exact Prod.ext (congrArg Prod.fst e) (congrArg Prod.snd e)
def dotZ (xs ys : List Int) : Int := (List.zipWith (fun a b => a * b) xs ys).sum
def dotQ (xs ys : List (Int × Int)) : Rat := (List.zipWith (fun a b => vl a * vl b) xs ys).sum
def Whole (ts : List Int) (qs : List (Int × Int)) (b : Int) : Prop := ts.length = qs.length ∧ ∀ (i : Nat) (t : Int) (q : Int × Int), ts[i]? = some t → qs[i]? = some q → (t : Rat) = vl q * b
theorem Whole.tail {t : Int} {ts : List Int} {q : Int × Int} {qs : List (Int × Int)} {b : Int} (h : Whole (t :: ts) (q :: qs) b) : Whole ts qs b := ⟨by simpa using h.1, fun i t' q' e1 e2 => h.2 (i + 1) t' q' (by simpa using e1) (by simpa using e2)⟩
theorem pw_up {a : Int} {m n : Nat} (h : a.natAbs ≤ 2 ^ m) (hm : m ≤ n) : a.natAbs ≤ 2 ^ n := Nat.le_trans h (Nat.pow_le_pow_right (by decide) hm)
theorem Sm.up {T B T' B' : Nat} {q : Int × Int} (h : Sm T B q) (hT : T ≤ T') (hB : B ≤ B') : Sm T' B' q := ⟨h.pos, h.low, pw_up h.top hT, pw_up h.bot hB⟩
end Ty

set_option maxHeartbeats 4000000
namespace Ty
open PySem PySem.Spec PyProof.Rows L2
section
variable {D : Addr} {te : TE} {cap : L2.St} {H1 : Hp} {Q : VK}
end
theorem look1 {x y : Str} {c c0 : Addr} {cl : List (Str × Addr)} (h : ((y, c0) :: cl).lookup x = some c) : (x = y ∧ c = c0) ∨ (x ≠ y ∧ cl.lookup x = some c) := by
  rw [List.lookup_cons] at h
  cases e : x == y with
  | true =>
    rw [e] at h
    exact .inl ⟨by simpa using e, (Option.some.inj h).symm⟩
  | false =>
    rw [e] at h
    exact .inr ⟨by simpa using e, h⟩
section
variable {X : Cx}
def cxB1 (X : Cx) (NB : List Str) (scope : Scope) (y : Str) (cl : List (Str × Addr)) (C : Addr) (s : Shared) (H : Hp) (fp : List Addr) : Cx :=
  { prog := X.prog, w := X.w, K := X.K, mg := X.mg, base := X.base, A := X.A, N := NB, s₀ := s, H₀ := H, env := compEnvC scope ((y, C + 1) :: cl) C X.env, outer := X.stack, stack := X.stack, ex := fp, fn := fun x => x == y, calm := X.calm, pn := [], xe := fun _ _ => False }
structure Blk1 (X : Cx) (scope : Scope) (y : Str) (fr : List Str) (caps : List Nat) : Prop where
  clos : closureFor scope X.env = pure (capCl X.env fr)
  kind : scope.kind = .function
  names : ∀ y ∈ scope.names, y.2 = .local → scope.names.lookup y.1 = some .local
  free : ∀ y ∈ scope.names, y.2 = .free → y.1 ∈ fr
  caps : caps.map (fun i => X.N[i]?) = fr.map some
  out : AllCap X.env fr
  inn : AllCap (compEnvC scope [] 0 X.env) fr
  cells1 : ∀ n acc, cellsFrom n scope.names acc = (y, n) :: acc
  push1 : ∀ h, pushCells h scope.names = h.push { cls := .type "cell", data := .cell none }
  only : ∀ z ∈ scope.names, z.2 = .cell → z.1 = y
  ny : y ∉ fr
end
end Ty

namespace L2
open PySem PySem.Spec PyProof.Rows

section
variable {κ : Type} [DecidableEq κ]
def valV (kvs : List (κ × V)) (k : κ) : Option V := (kvs.find? fun kv => decide (kv.1 = k)).map (·.2)
def putK (kvs : List (κ × V)) (k : κ) (v : V) : List (κ × V) :=
  if (kvs.any fun kv => decide (kv.1 = k)) = true then kvs.map (fun kv => if kv.1 = k then (kv.1, v) else kv) else kvs ++ [(k, v)]
def dropK (kvs : List (κ × V)) (k : κ) : List (κ × V) := kvs.filter fun kv => decide (kv.1 ≠ k)

theorem valV_pos {p : κ × V} {r : List (κ × V)} {k : κ} (e : p.1 = k) : valV (p :: r) k = some p.2 := by simp [valV, List.find?_cons, e]
theorem valV_neg {p : κ × V} {r : List (κ × V)} {k : κ} (e : ¬ p.1 = k) : valV (p :: r) k = valV r k := by simp [valV, List.find?_cons, e]
theorem valV_any (k : κ) : ∀ kvs : List (κ × V), (kvs.any fun kv => decide (kv.1 = k)) = (valV kvs k).isSome
  | [] => rfl
  | p :: r => by
    rw [List.any_cons]
    by_cases e : p.1 = k
    · simp only [valV_pos e, decide_eq_true e, Bool.true_or, Option.isSome_some]
    · rw [valV_neg e, decide_eq_false e, Bool.false_or]; exact valV_any k r
theorem valV_map (k j : κ) (y : V) : ∀ kvs : List (κ × V), valV (kvs.map fun kv => if kv.1 = k then (kv.1, y) else kv) j = (valV kvs j).map fun x => if j = k then y else x
  | [] => rfl
  | p :: r => by
    have ih := valV_map k j y r
    rw [List.map_cons]
    by_cases h : p.1 = k
    · rw [if_pos h]
      by_cases e : p.1 = j
      · rw [valV_pos (p := (p.1, y)) e, valV_pos e, Option.map_some, if_pos (e.symm.trans h)]
      · rw [valV_neg (p := (p.1, y)) e, valV_neg e, ih]
    · rw [if_neg h]
      by_cases e : p.1 = j
      · rw [valV_pos (p := p) e, valV_pos e, Option.map_some, if_neg (fun z => h (e.trans z))]
      · rw [valV_neg (p := p) e, valV_neg e, ih]
theorem valV_snoc (k j : κ) (y : V) : ∀ kvs : List (κ × V), valV kvs k = none → valV (kvs ++ [(k, y)]) j = if j = k then some y else valV kvs j
  | [], _ => by
    by_cases e : k = j
    · rw [if_pos e.symm]; exact valV_pos (p := (k, y)) e
    · rw [if_neg (fun z => e z.symm)]; exact valV_neg (p := (k, y)) e
  | p :: r, hn => by
    rw [List.cons_append]
    have hk : ¬ p.1 = k := fun z => by rw [valV_pos z] at hn; cases hn
    rw [valV_neg hk] at hn
    have ih := valV_snoc k j y r hn
    by_cases e : p.1 = j
    · rw [valV_pos e, valV_pos e, if_neg (fun z => hk (e.trans z))]
    · rw [valV_neg e, valV_neg e, ih]
theorem valV_put (kvs : List (κ × V)) (k j : κ) (y : V) : valV (putK kvs k y) j = if j = k then some y else valV kvs j := by
  unfold putK
  by_cases a : (kvs.any fun kv => decide (kv.1 = k)) = true
  · rw [if_pos a, valV_map]
    rw [valV_any] at a
    by_cases e : j = k
    · obtain ⟨x, hx⟩ := Option.isSome_iff_exists.mp a
      rw [if_pos e, e, hx, Option.map_some, if_pos rfl]
    · rw [if_neg e]
      cases valV kvs j with
      | none => rfl
      | some x => rw [Option.map_some, if_neg e]
  · rw [if_neg a]
    refine valV_snoc k j y kvs ?_
    rw [valV_any] at a
    cases q : valV kvs k with
    | none => rfl
    | some x => rw [q] at a; exact (a rfl).elim
theorem length_putK (kvs : List (κ × V)) (k : κ) (v : V) : (putK kvs k v).length ≤ kvs.length + 1 := by
  unfold putK
  split
  · rw [List.length_map]; omega
  · rw [List.length_append, List.length_cons, List.length_nil]; omega
theorem putK_new {kvs : List (κ × V)} {k : κ} (v : V) (h : valV kvs k = none) : putK kvs k v = kvs ++ [(k, v)] := by
  unfold putK
  rw [valV_any, h]
  exact if_neg (by decide)

theorem RelO.isSome_eq {o : Option V} {u : Option Value} (r : RelO o u) : o.isSome = u.isSome := by
  cases o with
  | none => cases u with
    | none => rfl
    | some _ => exact (show False from r).elim
  | some _ => cases u with
    | none => exact (show False from r).elim
    | some _ => rfl
theorem RelO.getD {o : Option V} {u : Option Value} {d : V} {d' : Value} (r : RelO o u) (rd : RelV d d') : RelV (o.getD d) (u.getD d') := by
  cases o with
  | none => cases u with
    | none => exact rd
    | some _ => exact (show False from r).elim
  | some _ => cases u with
    | none => exact (show False from r).elim
    | some _ => exact r

theorem KV.val {kvs : List (κ × V)} {vs : List (κ × Value)} (r : KV kvs vs) (k : κ) : RelO (valV kvs k) (valueAt vs k) := by
  unfold KV at r
  induction r with
  | nil => exact True.intro
  | @cons p q ps qs h t ih =>
    obtain ⟨h1, h2⟩ := h
    by_cases e : p.1 = k
    · have e' : q.1 = k := h1.symm.trans e
      have b : valueAt (q :: qs) k = some q.2 := by simp [valueAt, List.find?_cons, e']
      rw [valV_pos e, b]; exact h2
    · have e' : ¬ q.1 = k := fun z => e (h1.trans z)
      have b : valueAt (q :: qs) k = valueAt qs k := by simp [valueAt, List.find?_cons, e']
      rw [valV_neg e, b]; exact ih
theorem KV.any {kvs : List (κ × V)} {vs : List (κ × Value)} (r : KV kvs vs) (k : κ) : (kvs.any fun kv => decide (kv.1 = k)) = vs.any fun kv => decide (kv.1 = k) := by
  unfold KV at r
  induction r with
  | nil => rfl
  | cons h t ih => rw [List.any_cons, List.any_cons, ih, h.1]
theorem KV.repl {kvs : List (κ × V)} {vs : List (κ × Value)} (r : KV kvs vs) (k : κ) {y : V} {u : Value} (ry : RelV y u) :
    KV (kvs.map fun kv => if kv.1 = k then (kv.1, y) else kv) (vs.map fun kv => if kv.1 = k then (kv.1, u) else kv) := by
  unfold KV at r ⊢
  induction r with
  | nil => exact .nil
  | @cons p q ps qs h t ih =>
    rw [List.map_cons, List.map_cons]
    refine .cons ?_ ih
    obtain ⟨h1, h2⟩ := h
    by_cases e : p.1 = k
    · rw [if_pos e, if_pos (h1.symm.trans e)]; exact ⟨h1, ry⟩
    · rw [if_neg e, if_neg (fun z => e (h1.trans z))]; exact ⟨h1, h2⟩
theorem KV.put {kvs : List (κ × V)} {vs : List (κ × Value)} (r : KV kvs vs) (k : κ) {y : V} {u : Value} (ry : RelV y u) : KV (putK kvs k y) (stored vs k u) := by
  unfold putK stored
  rw [r.any k]
  by_cases e : (vs.any fun kv => decide (kv.1 = k)) = true
  · rw [if_pos e, if_pos e]; exact r.repl k ry
  · rw [if_neg e, if_neg e]; exact Paired.snoc r ⟨rfl, ry⟩
theorem KV.drop {kvs : List (κ × V)} {vs : List (κ × Value)} (r : KV kvs vs) (k : κ) : KV (dropK kvs k) (without vs k) := by
  unfold KV at r ⊢
  unfold dropK without
  induction r with
  | nil => exact .nil
  | @cons p q ps qs h t ih =>
    obtain ⟨h1, h2⟩ := h
    rw [List.filter_cons, List.filter_cons]
    by_cases e : p.1 = k
    · have a : ¬ decide (p.1 ≠ k) = true := by simp [e]
      have b : ¬ decide (q.1 ≠ k) = true := by simp [h1.symm.trans e]
      rw [if_neg a, if_neg b]; exact ih
    · have e' : ¬ q.1 = k := fun z => e (h1.trans z)
      have a : decide (p.1 ≠ k) = true := by simp [e]
      have b : decide (q.1 ≠ k) = true := by simp [e']
      rw [if_pos a, if_pos b]; exact .cons ⟨h1, h2⟩ ih
theorem KV.keys {kvs : List (κ × V)} {vs : List (κ × Value)} (r : KV kvs vs) : kvs.map (·.1) = vs.map (·.1) := by
  unfold KV at r
  induction r with
  | nil => rfl
  | cons h t ih => rw [List.map_cons, List.map_cons, ih, h.1]
theorem KV.length {kvs : List (κ × V)} {vs : List (κ × Value)} (r : KV kvs vs) : kvs.length = vs.length := Paired.length r
theorem dropK_le (kvs : List (κ × V)) (k : κ) : (dropK kvs k).length ≤ kvs.length := List.length_filter_le _ _
end


theorem kV_is {P : Program} {w : World} {k : Key} {u : Value} (r : RelV (kV k) u) : (mixKind P w).is k u = true := by
  cases k with
  | inl i => obtain ⟨t, e⟩ := (show ∃ t, u = Value.int i t from r); subst e; exact mixKind_int P w i t
  | inr x => obtain ⟨t, e⟩ := (show ∃ t, u = Value.str x t from r); subst e; exact mixKind_str P w x t
theorem items_are {P : Program} {w : World} : ∀ {ks : List Key} {us : List Value}, Vals (ks.map kV) us → ItemsAre (mixKind P w) ks us
  | [], _, r => by rw [List.map_nil] at r; cases r; exact .nil
  | k :: ks, _, r => by
    rw [List.map_cons] at r
    cases r with
    | cons h t => exact .cons (kV_is h) (items_are t)

abbrev KT (H : Hp) : List (List Key × V) → List (List Key × Addr × Value) → Prop := Paired fun p q => p.1 = q.1 ∧ H q.2.1 = some (.tup (p.1.map kV)) ∧ RelV p.2 q.2.2
theorem KT.val {H : Hp} {kvs : List (List Key × V)} {xs : List (List Key × Addr × Value)} (r : KT H kvs xs) (k : List Key) : RelO (valV kvs k) ((atKey xs k).map (·.2)) := by
  induction r with
  | nil => exact True.intro
  | @cons p q ps qs h t ih =>
    obtain ⟨h1, _, h2⟩ := h
    by_cases e : p.1 = k
    · have e' : q.1 = k := h1.symm.trans e
      have b : atKey (q :: qs) k = some q.2 := by simp [atKey, List.find?_cons, e']
      rw [valV_pos e, b]; exact h2
    · have e' : ¬ q.1 = k := fun z => e (h1.trans z)
      have b : atKey (q :: qs) k = atKey qs k := by simp [atKey, List.find?_cons, e']
      rw [valV_neg e, b]; exact ih
theorem KT.repl {H : Hp} {kvs : List (List Key × V)} {xs : List (List Key × Addr × Value)} (r : KT H kvs xs) (k : List Key) {y : V} {u : Value} (ry : RelV y u) :
    KT H (kvs.map fun kv => if kv.1 = k then (kv.1, y) else kv) (xs.map (putAt k u)) := by
  induction r with
  | nil => exact .nil
  | @cons p q ps qs h t ih =>
    rw [List.map_cons, List.map_cons]
    refine .cons ?_ ih
    obtain ⟨h1, h2, h3⟩ := h
    unfold putAt
    by_cases e : p.1 = k
    · rw [if_pos e, if_pos (h1.symm.trans e)]; exact ⟨h1, h2, ry⟩
    · rw [if_neg e, if_neg (fun z => e (h1.trans z))]; exact ⟨h1, h2, h3⟩
theorem KT.put {H : Hp} {kvs : List (List Key × V)} {xs : List (List Key × Addr × Value)} (r : KT H kvs xs) (k : List Key) {b : Addr} {y : V} {u : Value} (hb : H b = some (.tup (k.map kV))) (ry : RelV y u) :
    KT H (putK kvs k y) (storedH xs k b u) := by
  have e : (kvs.any fun kv => decide (kv.1 = k)) = (atKey xs k).isSome := by
    rw [valV_any, (r.val k).isSome_eq, Option.isSome_map]
  unfold putK storedH
  rw [e]
  by_cases q : (atKey xs k).isSome = true
  · rw [if_pos q, if_pos q]; exact r.repl k ry
  · rw [if_neg q, if_neg q]; exact Paired.snoc r ⟨rfl, hb, ry⟩
theorem KT.keeps {H H' : Hp} {kvs : List (List Key × V)} {xs : List (List Key × Addr × Value)} (r : KT H kvs xs) (ht : ∀ b ys, H b = some (.tup ys) → H' b = some (.tup ys)) : KT H' kvs xs :=
  Paired.mapP r fun _ _ z => ⟨z.1, ht _ _ z.2.1, z.2.2⟩

section
variable {P : Program} {w : World} {H : Hp} {h : Heap} {a : Addr}
theorem rd_of {u : HO} (ok : HOk P w H h) (e : Rd H a u) : ObjOk P w H h a u := e.ok ok
theorem dk_rd {kvs : List (Key × V)} (ok : HOk P w H h) (e : Rd H a (.dK kvs)) : kvs.length ≤ sizeLine ∧ (a == sysModules) = false ∧ ∃ vs, KV kvs vs ∧ h.DictOf (mixKind P w) a vs :=
  show ObjOk P w H h a (.dK kvs) from rd_of ok e
theorem dk_of {kvs : List (Key × V)} (ok : HOk P w H h) (e : H a = some (.dK kvs)) : kvs.length ≤ sizeLine ∧ (a == sysModules) = false ∧ ∃ vs, KV kvs vs ∧ h.DictOf (mixKind P w) a vs := dk_rd ok (.inl e)
theorem key_of {ks : List Key} (ok : HOk P w H h) (e : H a = some (.tup (ks.map kV))) : (tupleKind (mixKind P w)).is h ks a := by
  obtain ⟨_, its, r, o, h1, h2, n, h3⟩ := (show ObjOk P w H h a (.tup (ks.map kV)) from ok a _ e)
  exact ⟨o, its.toArray, n, h1, h2, h3, by simpa using items_are r⟩
theorem dt_rd {kvs : List (List Key × V)} (ok : HOk P w H h) (e : Rd H a (.dT kvs)) : kvs.length ≤ sizeLine ∧ (a == sysModules) = false ∧
    ∃ xs, KT H kvs xs ∧ h.DictOfH (tupleKind (mixKind P w)) a xs := by
  obtain ⟨z, y, xs, r, o, es, ep, h1, h2, h3, h4, h5⟩ := (show ObjOk P w H h a (.dT kvs) from rd_of ok e)
  refine ⟨z, y, xs, r, o, es, ep, h1, h2, h3, h4, fun x hx => ?_, h5⟩
  have all : ∀ {l : List (List Key × V)} {m : List (List Key × Addr × Value)}, KT H l m → ∀ x ∈ m, (tupleKind (mixKind P w)).is h x.1 x.2.1 := by
    intro l m q
    induction q with
    | nil => intro x hx; exact nomatch hx
    | @cons p q ps qs hq t ih =>
      intro x hx
      rcases List.mem_cons.mp hx with e | hx
      · subst e
        exact key_of ok (by rw [← hq.1]; exact hq.2.1)
      · exact ih x hx
  exact all r x hx
theorem dt_of {kvs : List (List Key × V)} (ok : HOk P w H h) (e : H a = some (.dT kvs)) : kvs.length ≤ sizeLine ∧ (a == sysModules) = false ∧
    ∃ xs, KT H kvs xs ∧ h.DictOfH (tupleKind (mixKind P w)) a xs := dt_rd ok (.inl e)
end

def DGet (H : Hp) (a : Addr) (y : V) (r : Option V) : Prop :=
  (∃ kvs k, Rd H a (.dK kvs) ∧ y = kV k ∧ r = valV kvs k) ∨ ∃ kvs k b, Rd H a (.dT kvs) ∧ y = .ref b ∧ H b = some (.tup (k.map kV)) ∧ r = valV kvs k
def DPut (H : Hp) (a : Addr) (y v : V) (H' : Hp) : Prop :=
  (∃ kvs k, H a = some (.dK kvs) ∧ y = kV k ∧ kvs.length < sizeLine ∧ H' = upd H a (.dK (putK kvs k v))) ∨
  ∃ kvs k b, H a = some (.dT kvs) ∧ y = .ref b ∧ H b = some (.tup (k.map kV)) ∧ kvs.length < sizeLine ∧ H' = upd H a (.dT (putK kvs k v))
theorem DGet.k {H : Hp} {a : Addr} {kvs : List (Key × V)} {k : Key} (e : H a = some (.dK kvs)) : DGet H a (kV k) (valV kvs k) := .inl ⟨kvs, k, .inl e, rfl, rfl⟩
theorem DGet.t {H : Hp} {a b : Addr} {kvs : List (List Key × V)} {k : List Key} (e : H a = some (.dT kvs)) (eb : H b = some (.tup (k.map kV))) : DGet H a (.ref b) (valV kvs k) := .inr ⟨kvs, k, b, .inl e, rfl, eb, rfl⟩
theorem DPut.k {H : Hp} {a : Addr} {kvs : List (Key × V)} {k : Key} {v : V} (e : H a = some (.dK kvs)) (hl : kvs.length < sizeLine) : DPut H a (kV k) v (upd H a (.dK (putK kvs k v))) := .inl ⟨kvs, k, e, rfl, hl, rfl⟩
theorem DPut.t {H : Hp} {a b : Addr} {kvs : List (List Key × V)} {k : List Key} {v : V} (e : H a = some (.dT kvs)) (eb : H b = some (.tup (k.map kV))) (hl : kvs.length < sizeLine) :
    DPut H a (.ref b) v (upd H a (.dT (putK kvs k v))) := .inr ⟨kvs, k, b, e, rfl, eb, hl, rfl⟩


section
variable {X : Cx} {pins : List (Addr × Obj)} {σ : St} {H : Hp} {s : Shared} {a : Addr} {y v : V} {u r : Value} {o : Option V} {A : Around} {E : Value → Shared → Prop}

theorem Inv.big (I : Inv X pins σ H s) : sysModules < s.heap.objs.size := by
  have h : mainGlobals < s.heap.objs.size := (I.mod.glob.keeps I.bk).lt
  exact Nat.lt_trans (by decide) h

theorem d_getItem {Q : Value → Shared → Prop} (hu : A.units + 1 < cLine) (I : Inv X pins σ H s) (g : DGet H a y (some v)) (ry : RelV y u) (h : ∀ w' s', Inv X pins σ H s' → RelV v w' → Q w' s') :
    wpAny (model X.prog X.w) A (getItem (.ref a) u) Q E s := by
  rcases g with ⟨kvs, k, e, ey, l⟩ | ⟨kvs, k, b, e, ey, eb, l⟩
  · subst ey
    obtain ⟨z, hd, vs, rel, dd⟩ := dk_rd I.hok e
    obtain ⟨w', hw, rw'⟩ := RelO.some_of (v := v) (o := valueAt vs k) (by rw [l]; exact rel.val k)
    exact wpAny_getItem_of (kV_is ry) dd.mapOf hw (h w' _ (I.tok _) rw')
  · subst ey
    cases (show u = Value.ref b from ry)
    obtain ⟨z, hd, xs, rel, dd⟩ := dt_rd I.hok e
    obtain ⟨w', hw, rw'⟩ := RelO.some_of (v := v) (o := (atKey xs k).map (·.2)) (by rw [l]; exact rel.val k)
    obtain ⟨p, hp, hp2⟩ := Option.map_eq_some_iff.mp hw
    refine wpAny_getItem_heap (tupleKind_room_in1 hu) (key_of I.hok eb) dd hp ?_
    rw [hp2]
    exact h w' _ (I.tok _) rw'
theorem d_in {Q : Value → Shared → Prop} (hu : A.units + 1 < cLine) (I : Inv X pins σ H s) (g : DGet H a y o) (ry : RelV y u) (h : ∀ s', Inv X pins σ H s' → Q (.bool o.isSome) s') :
    wpAny (model X.prog X.w) A (compareOp .In u (.ref a)) Q E s := by
  rcases g with ⟨kvs, k, e, ey, l⟩ | ⟨kvs, k, b, e, ey, eb, l⟩
  · subst ey
    obtain ⟨z, hd, vs, rel, dd⟩ := dk_rd I.hok e
    refine wpAny_in_of (kV_is ry) hd dd.mapOf ?_
    rw [← (rel.val k).isSome_eq, ← l]
    exact h _ (I.tok _)
  · subst ey
    cases (show u = Value.ref b from ry)
    obtain ⟨z, hd, xs, rel, dd⟩ := dt_rd I.hok e
    refine wpAny_in_heap (tupleKind_room_in1 hu) (key_of I.hok eb) hd dd ?_
    have q := (rel.val k).isSome_eq
    rw [Option.isSome_map] at q
    rw [← q, ← l]
    exact h _ (I.tok _)
theorem d_notIn {Q : Value → Shared → Prop} (hu : A.units + 1 < cLine) (I : Inv X pins σ H s) (g : DGet H a y o) (ry : RelV y u) (h : ∀ s', Inv X pins σ H s' → Q (.bool (!o.isSome)) s') :
    wpAny (model X.prog X.w) A (compareOp .NotIn u (.ref a)) Q E s := by
  rcases g with ⟨kvs, k, e, ey, l⟩ | ⟨kvs, k, b, e, ey, eb, l⟩
  · subst ey
    obtain ⟨z, hd, vs, rel, dd⟩ := dk_rd I.hok e
    refine wpAny_notIn_of (kV_is ry) hd dd.mapOf ?_
    rw [← (rel.val k).isSome_eq, ← l]
    exact h _ (I.tok _)
  · subst ey
    cases (show u = Value.ref b from ry)
    obtain ⟨z, hd, xs, rel, dd⟩ := dt_rd I.hok e
    refine wpAny_notIn_heap (tupleKind_room_in1 hu) (key_of I.hok eb) hd dd ?_
    have q := (rel.val k).isSome_eq
    rw [Option.isSome_map] at q
    rw [← q, ← l]
    exact h _ (I.tok _)
theorem d_write {h' : Heap} {t' : Nat} {ob : HO} (I : Inv X pins σ H s) (mu : Mut (H a)) (hs : Heap.SameBut a s.heap h') (he : ∃ q, h'.get? a = some q) (new : ObjOk X.prog X.w (upd H a ob) h' a ob) :
    Inv X pins σ (upd H a ob) { s with heap := h', toks := t' } :=
  I.write (x := a) (e := a) mu (.inl rfl) (fun b q hb z => (hs.2 b hb).trans z) he new
theorem dk_new {P : Program} {w : World} {H' : Hp} {h' : Heap} {kvs : List (Key × V)} {vs : List (Key × Value)} (z : kvs.length ≤ sizeLine) (hd : (a == sysModules) = false) (rel : KV kvs vs) (dd : h'.DictOf (mixKind P w) a vs) :
    ObjOk P w H' h' a (.dK kvs) := ⟨z, hd, vs, rel, dd⟩
theorem d_setItem {H' : Hp} {Q : Unit → Shared → Prop} (hu : A.units + 1 < cLine) (I : Inv X pins σ H s) (g : DPut H a y v H') (ry : RelV y u) (rv : RelV v r) (h : ∀ s', Inv X pins σ H' s' → Q () s') :
    wpAny (model X.prog X.w) A (setItem (.ref a) u r) Q E s := by
  rcases g with ⟨kvs, k, e, ey, l, eH⟩ | ⟨kvs, k, b, e, ey, eb, l, eH⟩
  · subst ey eH
    obtain ⟨z, hd, vs, rel, dd⟩ := dk_of I.hok e
    have hz : vs.length ≤ sizeLine := by rw [← rel.length]; exact z
    have hl : (putK kvs k v).length ≤ sizeLine := by have := length_putK kvs k v; omega
    refine wpAny_setItem_pairs (hsz := hz) (kV_is ry) dd fun h' dd' hs => h _ ?_
    have he : ∃ q, h'.get? a = some q := let ⟨q, _, _, hq, _⟩ := dd'; ⟨q, hq⟩
    exact d_write I (by rw [e]; exact True.intro) hs he (dk_new hl hd (rel.put k rv) dd')
  · subst ey eH
    cases (show u = Value.ref b from ry)
    obtain ⟨z, hd, xs, rel, dd⟩ := dt_of I.hok e
    have hz : xs.length ≤ sizeLine := by rw [← Paired.length rel]; exact z
    have hl : (putK kvs k v).length ≤ sizeLine := by have := length_putK kvs k v; omega
    refine wpAny_setItem_heap (hsz := hz) (tupleKind_room_in1 hu) (key_of I.hok eb) dd fun h' dd' hs => h _ ?_
    obtain ⟨q, es, ep, hq, h2, h3, h4, _, h5⟩ := dd'
    refine d_write I (by rw [e]; exact True.intro) hs ⟨q, hq⟩ ⟨hl, hd, _, (rel.put k eb rv).keeps fun c ys ec => ?_, q, es, ep, hq, h2, h3, h4, h5⟩
    rw [upd_ne (ne_of ec e (fun z => nomatch z))]
    exact ec
end

section
variable {X : Cx} {pins : List (Addr × Obj)} {σ : St} {H : Hp} {s : Shared} {a : Addr} {kvs : List (Key × V)} {k : Key} {u : Value} {A : Around} {E : Value → Shared → Prop}
theorem d_pop {v : V} {more : List Value} {Q : Value → Shared → Prop} (I : Inv X pins σ H s) (e : H a = some (.dK kvs)) (ry : RelV (kV k) u) (l : valV kvs k = some v) (hm : more = [] ∨ ∃ x, more = [x])
    (h : ∀ w' s', Inv X pins σ (upd H a (.dK (dropK kvs k))) s' → RelV v w' → Q w' s') : wpAny (model X.prog X.w) A (call (.builtin "dict.pop") (.ref a :: u :: more)) Q E s := by
  obtain ⟨z, hd, vs, rel, dd⟩ := dk_of I.hok e
  obtain ⟨w', hw, rw'⟩ := RelO.some_of (v := v) (o := valueAt vs k) (by rw [← l]; exact rel.val k)
  have hp : (keyPart u).isSome = true := by
    cases k with
    | inl i => obtain ⟨t, q⟩ := (show ∃ t, u = Value.int i t from ry); subst q; rfl
    | inr x => obtain ⟨t, q⟩ := (show ∃ t, u = Value.str x t from ry); subst q; rfl
  have ha : argsOk "dict.pop" ⟨.ref a :: u :: more, []⟩ := by
    rcases hm with q | ⟨x, q⟩
    · subst q; exact PySem.F.args_dict_pop_2 _ _
    · subst q; exact PySem.F.args_dict_pop_3 _ _ _
  refine call_meetsIn PySem.F.slot_dict_pop dd.typeIs PySem.F.entry_dict_pop ha (meets_dict_pop_there (mixKind X.prog X.w) a (kV_is ry) more hm hp)
    ⟨vs, w', dd, by rw [← rel.length]; exact z, hw, fun h' dd' hs => h w' _ ?_ rw'⟩
  have he : ∃ q, h'.get? a = some q := let ⟨q, _, _, hq, _⟩ := dd'; ⟨q, hq⟩
  exact d_write I (by rw [e]; exact True.intro) hs he (dk_new (Nat.le_trans (dropK_le kvs k) z) hd (rel.drop k) dd')
theorem d_len {Q : Value → Shared → Prop} (I : Inv X pins σ H s) (e : Rd H a (.dK kvs)) (h : ∀ t s', Inv X pins σ H s' → Q (.int kvs.length t) s') : wpAny (model X.prog X.w) A (call (.builtin "len") [.ref a]) Q E s := by
  obtain ⟨z, hd, vs, rel, dd⟩ := dk_rd I.hok e
  refine call_len_dict hd dd (by rw [← rel.length]; rw [sizeLine_eq] at z; omega) ?_
  rw [← rel.length]
  exact h _ _ (I.tok _)
end


def NoSl (i : Expr) : Prop := ∀ ov iv, subscripted i false ov iv = operate [ov, iv] (getItem ov iv)
theorem subD_of {prog : Program} {w : World} {A : Around} {E : Value → Shared → Prop} {s : Shared} {env : Env} {value slice : Expr} {pos : Pos} {T id : String} {Q : Value → Shared → Prop}
    (hl : typeLookup (.type T) "__getitem__" = pure (some (.builtin id))) (hs : NoSl slice)
    (h : wpAny (model prog w) A (eval value env) (fun o s₁ => wpAny (model prog w) A (eval slice env) (fun i s₂ => s₂.TypeIs o T ∧ wpAny (model prog w) A (getItem o i) Q E s₂) E s₁) E s) :
    wpAny (model prog w) A (eval (.Subscript value slice pos) env) Q E s := by
  refine Subscript_ (wpAny_mono h (fun o s₁ h₁ => wpAny_mono h₁ (fun i s₂ h₂ => ?_) fun _ _ x => x) fun _ _ x => x)
  obtain ⟨hT, h₂⟩ := h₂
  unfold subscriptTail
  refine wpAny_bind ?_
  rw [getitemInPython_of_ne hT.not_modules]
  refine wpAny_bind (wpAny_specialOf hT hl ?_)
  have fin : wpAny (model prog w) A (subscripted slice false o i) (fun r s₃ => wpAny (model prog w) A (letTemporaryGo value o r >>= fun _ => pure r) Q E s₃) E s₂ := by
    rw [hs o i]
    exact wpAny_operating (wpAny_mono h₂ (fun r s₃ h₃ => wpAny_bind (wpAny_letTemporaryGo (wpAny_pure h₃))) fun _ _ x => x)
  first
    | exact wpAny_pure (wpAny_bind fin)
    | exact wpAny_bind (wpAny_pure (wpAny_bind fin))
    | exact wpAny_bind fin

theorem dict_typeIs {X : Cx} {pins : List (Addr × Obj)} {σ : St} {H : Hp} {s : Shared} {a : Addr} {y : V} {o : Option V} (I : Inv X pins σ H s) (g : DGet H a y o) : s.TypeIs (.ref a) "dict" := by
  rcases g with ⟨kvs, k, e, _, _⟩ | ⟨kvs, k, b, e, _, _, _⟩
  · obtain ⟨_, _, vs, _, dd⟩ := dk_rd I.hok e
    exact dd.typeIs
  · obtain ⟨_, _, xs, _, dd⟩ := dt_rd I.hok e
    exact dd.typeIs
def tDGet (td ty : TE) : TE := fun σ H Q => td σ H fun x H1 => ty σ H1 fun y H2 => ∃ a v, x = .ref a ∧ DGet H2 a y (some v) ∧ Q v H2
def tDIn (ty td : TE) : TE := fun σ H Q => ty σ H fun y H1 => td σ H1 fun x H2 => ∃ a o, x = .ref a ∧ DGet H2 a y o ∧ Q (.bl o.isSome) H2
def tDNotIn (ty td : TE) : TE := fun σ H Q => ty σ H fun y H1 => td σ H1 fun x H2 => ∃ a o, x = .ref a ∧ DGet H2 a y o ∧ Q (.bl (!o.isSome)) H2
def sDPut (td ty tv : TE) : TS := fun D σ H => tv σ H fun v H1 => td σ H1 fun x H2 => ty σ H2 fun y H3 => ∃ a H4, x = .ref a ∧ DPut H3 a y v H4 ∧ D.nx σ H4
def sDAug (td ty tv : TE) (rd : V → V → Hp → VK → Prop) : TS := fun D σ H => td σ H fun x H1 => ty σ H1 fun y H2 => ∃ a v, x = .ref a ∧ DGet H2 a y (some v) ∧
  tv σ H2 fun y2 H3 => rd v y2 H3 fun z H4 => ∃ H5, DPut H4 a y z H5 ∧ D.nx σ H5
def sDDel (td ty : TE) : TS := fun D σ H => td σ H fun x H1 => ty σ H1 fun y H2 => ∃ a kvs k, x = .ref a ∧ H2 a = some (.dK kvs) ∧ y = kV k ∧ (valV kvs k).isSome = true ∧ D.nx σ (upd H2 a (.dK (dropK kvs k)))

section
variable {X : Cx} {o i e value : Expr} {pos pos' tpos : Pos} {td ty tv : TE}
theorem pe_dget (hu : X.A.units + 1 < cLine) (ho : PE X o td) (hi : PE X i ty) (hs : NoSl i) : PE X (.Subscript o i pos) (tDGet td ty) := by
  intro pins s σ H Q I h
  refine subD_of PySem.F.slot_dict_getitem.lookup hs (thn (ho pins s σ H _ I h) fun u s1 ⟨x, H1, I1, rx, q1⟩ => thn (hi pins s1 σ H1 _ I1 q1) fun iv s2 ⟨y, H2, I2, ry, a, v, ex, g, q2⟩ => ?_)
  subst ex
  obtain rfl : u = Value.ref a := rx
  exact ⟨dict_typeIs I2 g, d_getItem hu I2 g ry fun w' s3 I3 rw' => ⟨v, H2, I3, rw', q2⟩⟩
theorem pc_din (hu : X.A.units + 1 < cLine) (hi : PE X i ty) (ho : PE X o td) : PC X .In i o (tDIn ty td) := by
  intro pins s σ H Q I h
  refine thn (hi pins s σ H _ I h) fun iv s1 ⟨y, H1, I1, ry, q1⟩ => thn (ho pins s1 σ H1 _ I1 q1) fun u s2 ⟨x, H2, I2, rx, a, ov, ex, g, q2⟩ => ?_
  subst ex
  obtain rfl : u = Value.ref a := rx
  exact d_in hu I2 g ry fun s3 I3 => ⟨.bl ov.isSome, H2, I3, rfl, q2⟩
theorem pc_dnotin (hu : X.A.units + 1 < cLine) (hi : PE X i ty) (ho : PE X o td) : PC X .NotIn i o (tDNotIn ty td) := by
  intro pins s σ H Q I h
  refine thn (hi pins s σ H _ I h) fun iv s1 ⟨y, H1, I1, ry, q1⟩ => thn (ho pins s1 σ H1 _ I1 q1) fun u s2 ⟨x, H2, I2, rx, a, ov, ex, g, q2⟩ => ?_
  subst ex
  obtain rfl : u = Value.ref a := rx
  exact d_notIn hu I2 g ry fun s3 I3 => ⟨.bl (!ov.isSome), H2, I3, rfl, q2⟩
theorem ps_dput (hu : X.A.units + 1 < cLine) (ho : PE X o td) (hi : PE X i ty) (hv : PE X value tv) (hs : swapsWith value (some (.Subscript o i pos')) pos.line X.env = pure false) :
    PS X (.Assign [.Subscript o i pos'] value pos) (sDPut td ty tv) := by
  intro pins s σ H D I h
  refine wpAny_Assign_Subscript (thn (hv pins s σ H _ I h) fun r s1 ⟨v, H1, I1, rv, q1⟩ => thn (ho pins s1 σ H1 _ I1 q1) fun u s2 ⟨x, H2, I2, rx, q2⟩ => thn (hi pins s2 σ H2 _ I2 q2) fun iv s3 ⟨y, H3, I3, ry, a, H4, ex, g, q3⟩ => ?_) hs
  subst ex
  obtain rfl : u = Value.ref a := rx
  exact d_setItem hu I3 g ry rv fun s4 I4 => ⟨σ, H4, I4, q3⟩
end


theorem dk_empty {P : Program} {w : World} {H : Hp} (h : Heap) (hb : sysModules < h.objs.size) : ObjOk P w H (h.push { cls := .type "dict", data := .dict #[] }) h.objs.size (.dK []) :=
  ⟨Nat.zero_le _, beq_eq_false_iff_ne.mpr (Ne.symm (Nat.ne_of_lt hb)), [], .nil, Heap.DictOf.new h⟩
def tDNewK : TE := fun _ H Q => ∀ p, H p = none → Q (.ref p) (upd H p (.dK []))
def tDNewT : TE := fun _ H Q => ∀ p, H p = none → Q (.ref p) (upd H p (.dT []))
section
variable {X : Cx} {pos : Pos}
theorem pe_dnewK : PE X (.Dict [] [] pos) tDNewK := fun pins s σ H Q I h =>
  wpAny_Dict_empty ⟨.ref s.heap.objs.size, _, I.laid (a := s.heap.objs.size) (o := .dK []) (t' := s.toks) (fun _ _ q => Heap.get?_push_of_some _ q) (Nat.le_refl _) (dk_empty s.heap I.big), rfl, h _ (I.hok.fresh (Nat.le_refl _))⟩
end

def tPairs : List (TE × TE) → St → Hp → (List (V × V) → Hp → Prop) → Prop
  | [], _, H, Q => Q [] H
  | (tk, tv) :: r, σ, H, Q => tk σ H fun x H1 => tv σ H1 fun y H2 => tPairs r σ H2 fun ps H3 => Q ((x, y) :: ps) H3
abbrev VV : List (V × V) → List (Value × Value) → Prop := Paired fun p q => RelV p.1 q.1 ∧ RelV p.2 q.2
def PPs (X : Cx) (pos : Pos) (keys : List (Option Expr)) (values : List Expr) (trs : List (TE × TE)) : Prop :=
  ∀ (pins : List (Addr × Obj)) (s : Shared) (σ : St) (H : Hp) (Q : List (V × V) → Hp → Prop), Inv X pins σ H s → tPairs trs σ H Q →
    wpAny (model X.prog X.w) X.A (evalPairs (pairTrees keys values X.env pos)) (fun vs s' => ∃ ps H', Inv X pins σ H' s' ∧ VV ps vs ∧ Q ps H') X.xe s
def mergeK (kvs more : List (Key × V)) : List (Key × V) := more.foldl (fun acc kv => putK acc kv.1 kv.2) kvs
def tDisp (trs : List (TE × TE)) : TE := fun σ H Q => ∀ p, H p = none → tPairs trs σ (upd H p (.dK [])) fun ps H2 => H2 p = some (.dK []) ∧ ∃ kvs : List (Key × V), ps = kvs.map (fun kv => (kV kv.1, kv.2)) ∧ kvs.length ≤ 15 ∧ Q (.ref p) (upd H2 p (.dK (mergeK [] kvs)))
structure M1 (X : Cx) (o : Expr) (m : Str) (apos : Pos) (e : Expr) (cpos : Pos) : Prop where
  base : attributeBase o m X.env (eval o X.env) = eval o X.env
  few : ((backTo cpos (starEach [e] X.env)).all (fun x => !x.1) && (backToKw cpos (keywordEach [] X.env)).all (fun x => x.1.isSome)
    && decide (([e] : List Expr).length + ([] : List Keyword).length + (if ([] : List Keyword).isEmpty then 0 else 1) < 30)) = true
  line : (apos.endLine == cpos.line) = true
  trees : backTo cpos (starEach [e] X.env) = [(false, eval e X.env)]
structure M2 (X : Cx) (o : Expr) (m : Str) (apos : Pos) (e f : Expr) (cpos : Pos) : Prop where
  base : attributeBase o m X.env (eval o X.env) = eval o X.env
  few : ((backTo cpos (starEach [e, f] X.env)).all (fun x => !x.1) && (backToKw cpos (keywordEach [] X.env)).all (fun x => x.1.isSome)
    && decide (([e, f] : List Expr).length + ([] : List Keyword).length + (if ([] : List Keyword).isEmpty then 0 else 1) < 30)) = true
  line : (apos.endLine == cpos.line) = true
  trees : backTo cpos (starEach [e, f] X.env) = [(false, eval e X.env), (false, eval f X.env)]

def IsD (H : Hp) (a : Addr) : Prop := (∃ kvs, Rd H a (.dK kvs)) ∨ ∃ kvs, Rd H a (.dT kvs)
theorem isD_at {X : Cx} {pins : List (Addr × Obj)} {σ : St} {H : Hp} {s : Shared} {a : Addr} (I : Inv X pins σ H s) (d : IsD H a) :
    s.TypeIs (.ref a) "dict" ∧ (∀ b, Value.ref a = .ref b → ∃ ob, s.heap.get? b = some ob ∧ ob.dict = none) ∧ (a == sysModules) = false := by
  rcases d with ⟨kvs, e⟩ | ⟨kvs, e⟩
  · obtain ⟨_, hd, vs, _, dd⟩ := dk_rd I.hok e
    refine ⟨dd.typeIs, fun b q => ?_, hd⟩
    cases q
    obtain ⟨ob, _, _, h1, h2, _⟩ := dd
    exact ⟨ob, h1, h2.2.1⟩
  · obtain ⟨_, hd, xs, _, dd⟩ := dt_rd I.hok e
    refine ⟨dd.typeIs, fun b q => ?_, hd⟩
    cases q
    obtain ⟨ob, _, _, h1, h2, _⟩ := dd
    exact ⟨ob, h1, h2.2.1⟩

section
variable {X : Cx} {pins : List (Addr × Obj)} {σ : St} {H : Hp} {s : Shared} {a : Addr} {y d : V} {u r : Value} {o : Option V} {A : Around} {E : Value → Shared → Prop}
end

def tDGet1 (td ty : TE) : TE := fun σ H Q => td σ H fun x H1 => ∃ a, x = .ref a ∧ IsD H1 a ∧ ty σ H1 fun y H2 => ∃ o, DGet H2 a y o ∧ Q (o.getD .non) H2
def tDGet2 (td ty tx : TE) : TE := fun σ H Q => td σ H fun x H1 => ∃ a, x = .ref a ∧ IsD H1 a ∧ ty σ H1 fun y H2 => tx σ H2 fun z H3 => ∃ o, DGet H3 a y o ∧ Q (o.getD z) H3
def tDPop1 (td ty : TE) : TE := fun σ H Q => td σ H fun x H1 => ∃ a, x = .ref a ∧ IsD H1 a ∧ ty σ H1 fun y H2 => ∃ kvs k v, H2 a = some (.dK kvs) ∧ y = kV k ∧ valV kvs k = some v ∧ Q v (upd H2 a (.dK (dropK kvs k)))
def tDPop2 (td ty tx : TE) : TE := fun σ H Q => td σ H fun x H1 => ∃ a, x = .ref a ∧ IsD H1 a ∧ ty σ H1 fun y H2 => tx σ H2 fun z H3 => ∃ kvs k, H3 a = some (.dK kvs) ∧ y = kV k ∧
  (∀ v, valV kvs k = some v → Q v (upd H3 a (.dK (dropK kvs k)))) ∧ (valV kvs k = none → Q z H3)
section
variable {X : Cx} {o e f : Expr} {apos cpos : Pos} {td ty tx : TE}
theorem pe_dpop1 (ho : PE X o td) (he : PE X e ty) (m : M1 X o "pop" apos e cpos) : PE X (.Call (.Attribute o "pop" apos) [e] [] cpos) (tDPop1 td ty) := by
  intro pins s σ H Q I h
  refine wpAny_Call_method m.base m.few m.line PySem.F.plainAttrs_dict PySem.F.slot_dict_pop PySem.F.type_dict_pop (thn (ho pins s σ H _ I h) fun u s1 ⟨x, H1, I1, rx, a, ex, d, q1⟩ => ?_)
  subst ex
  obtain rfl : u = Value.ref a := rx
  obtain ⟨t1, t2, _⟩ := isD_at I1 d
  refine ⟨t1, t2, ?_⟩
  rw [m.trees]
  refine Calls.callWith_builtin rfl (Calls.evalArgs_plain (Calls.spliced_cons (thn (he pins s1 σ H1 _ I1 q1) fun iv s2 ⟨y, H2, I2, ry, kvs, k, v, ea, ey, l, q2⟩ => Calls.spliced_nil ?_)))
  subst ey
  exact d_pop I2 ea ry l (.inl rfl) fun w' s3 I3 rw' => ⟨v, _, I3, rw', q2⟩
end

section
variable {X : Cx} {pins : List (Addr × Obj)} {σ : St} {H : Hp} {s : Shared} {a : Addr} {kvs : List (Key × V)} {A : Around} {E : Value → Shared → Prop}
end


section
variable {X : Cx} {pins : List (Addr × Obj)} {σ : St} {H : Hp} {s : Shared} {a : Addr} {y : V} {u : Value} {A : Around} {E : Value → Shared → Prop}
end
end L2

set_option maxHeartbeats 4000000
namespace Ty
open PySem PySem.Spec PyProof.Rows L2
section
variable {X : Cx}
theorem Room.py {k : Nat} {A : Around} (r : Room k A) (h : 32 ≤ k) : A.depth + Builtin.pylongFrames < recursionLimit := by
  have := r.dp
  have : Builtin.pylongFrames = 100 := rfl
  omega
end
end Ty

set_option maxHeartbeats 4000000
namespace Ty
open PySem PySem.Spec PyProof.Rows L2
section
variable {prog : Program} {w : World} {A : Around} {E : Value → Shared → Prop} {s : Shared} {KK : Type} [DecidableEq KK] {knd : KeyKind prog w KK}
theorem hint_dict {d : Addr} {kvs : List (KK × Value)} {Q : Bool → Shared → Prop} (hm : s.heap.DictOf knd d kvs) (h : Q false s) : wpAny (model prog w) A (Builtin.List.listLengthHint (.ref d)) Q E s := by
  unfold Builtin.List.listLengthHint
  refine wpAny_bind (wpAny_specialOf (name := Str.ofString "__len__") hm.typeIs F.slot_dict_len.lookup ?_)
  generalize hid : ("dict.__len__" : String) = id0
  wp_delta
  rw [show splitId id0 = some ("dict", "__len__") from by subst hid; decide +kernel]
  subst hid
  refine wpAny_bind (wpAny_isInstance (T := "dict") (b := true) hm.typeIs (by rw [isSubtype_type]; kernel_rfl) ?_)
  refine wpAny_ite_split (fun hab => absurd hab (by decide)) (fun _ => ?_)
  refine wpAny_ite_split (fun _ => ?_) (fun hab => absurd (by decide +kernel) hab)
  refine wpAny_bind (wpAny_typeOf (T := "dict") hm.typeIs ?_)
  exact wpAny_pure h
theorem extend_dict {R : Result → Shared → Prop} {d : Addr} {kvs : List (KK × Value)} {ep : Nat} (hh : A.handled = none) (hd : (d == sysModules) = false) (hm : s.heap.DictAt knd d kvs ep) (hlen : kvs.length ≤ sizeLine) (S : Addr) (res : Value) (c₀ : Nat) (hS : s.heap.get? S = some { cls := .type "list", data := .seq #[] c₀ })
    (hR : ∀ h' tk acc' c', (∀ b o, b ≠ S → s.heap.get? b = some o → h'.get? b = some o) → h'.get? S = some { cls := .type "list", dict := none, data := .seq acc' c', slots := #[] } →
      ItemsOf (fun i v => ∃ k x, kvs[i]? = some (k, x) ∧ knd.is k v = true) acc' kvs.length → R (.ok (.ret res)) { s with heap := h', toks := tk }) :
    wpAny (model prog w) A.in1 (Builtin.List.listExtendWith (.ref S) (.ref d) res)
      (fun fin s' => match fin with | .done f => R (.ok f) s' | .again c' => c'.quiet = true ∧ codeAny (model prog w) A c' R s') (fun e s' => R (.error e) s') s := by
  obtain ⟨od, es, hod, hcd, hdat, hk0, hp0, hn0⟩ := id hm
  have hT : s.TypeIs (.ref d) "dict" := hm.dictOf.typeIs
  have hSd : S ≠ d := fun e => by
    rw [e] at hS
    rw [hS] at hod
    cases hod
    cases hdat
  have hdI : d ≠ s.heap.objs.size := Nat.ne_of_lt (Heap.lt_size hod)
  have hSI : S ≠ s.heap.objs.size := Nat.ne_of_lt (Heap.lt_size hS)
  have hSf : S ∉ [s.heap.objs.size, d] := fun hm => by
    rcases List.mem_cons.mp hm with z | z
    · exact hSI z
    · exact hSd (List.mem_singleton.mp z)
  have W := (Walks.dictKeys (knd := knd) (A := A.in1) hh s.heap.objs.size d hdI kvs ep).toS
  unfold Builtin.List.listExtendWith
  refine wpAny_bind (wpAny_typeOf (T := "dict") hT ?_)
  have h1 : Builtin.List.listSameRef (.ref S) (.ref d) = false := by simp [Builtin.List.listSameRef, hSd]
  have h2 : (Value.type "dict" == Value.type "list") = false := by decide
  have h3 : (Value.type "dict" == Value.type "tuple") = false := by decide
  simp only [h1, h2, h3, Bool.or_false, Bool.false_eq_true, if_false]
  refine wpAny_bind (wpAny_pyIter_dict hd hm ?_)
  have hm1 : (s.heap.push { cls := .type "dict_keyiterator", data := .fields #[.ref d, .int 0 0, .int kvs.length 0, .int ep 0] }).DictAt knd d kvs ep := hm.at' fun o e => Heap.get?_push_of_some _ e
  refine wpAny_bind (wpAny_holding (hint_dict (knd := knd) hm1.dictOf ?_))
  have hS₁ := Heap.get?_push_of_some { cls := .type "dict_keyiterator", data := .fields #[.ref d, .int 0 0, .int kvs.length 0, .int ep 0] } hS
  have it₁ : (s.heap.push { cls := .type "dict_keyiterator", data := .fields #[.ref d, .int 0 0, .int kvs.length 0, .int ep 0] }).IsKeyIter s.heap.objs.size d 0 kvs.length ep := ⟨_, Heap.get?_push_size _ rfl, rfl, rfl⟩
  have key : ∀ (h : Heap) (c₁ tk : Nat), h.IsKeyIter s.heap.objs.size d 0 kvs.length ep → h.DictAt knd d kvs ep → (∀ b o, b ≠ S → s.heap.get? b = some o → h.get? b = some o) →
      h.get? S = some { cls := .type "list", data := .seq #[] c₁ } → codeAny (model prog w) A (.builtin "list.extend.loop" ⟨[.ref S, .ref s.heap.objs.size, res], []⟩) R { s with heap := h, toks := tk } := by
    intro h c₁ tk hit hdm hk hS₁
    refine codeAny_extend_loopS W hlen S hSf res kvs.length 0 _ #[] c₁ rfl (Nat.zero_le _) ⟨hit, hdm⟩ hS₁ (ItemsOf.nil _) fun s' acc' c' hm' hS' hacc => ?_
    rw [Moved.eq_with hm']
    refine hR s'.heap s'.toks acc' c' (fun b o hb e => hm'.heap b o (fun hmem => ?_) (hk b o hb e)) hS' hacc
    rcases List.mem_cons.mp hmem with e' | hmem
    · exact hb e'
    · exact absurd (Heap.lt_size e) (by rw [List.mem_singleton.mp hmem]; exact Nat.lt_irrefl _)
  refine wpAny_ite_split (fun _ => ?_) (fun _ => wpAny_pure ⟨plainId_quiet F.plain_extend_loop _, key _ c₀ _ it₁ hm1 (fun b o _ e => Heap.get?_push_of_some _ e) hS₁⟩)
  refine wpAny_bind (wpAny_rule ?_)
  refine wpAny_bind ?_
  show wpAny _ _ (updateSeq S (·.push .none) >>= fun _ => updateSeq S (·.pop)) _ _ _
  refine wpAny_bind (wpAny_updateSeq hS₁ rfl ?_)
  have hS₂ := Heap.get?_update_self (Obj.mapSeq (·.push Value.none)) hS₁ rfl
  refine wpAny_updateSeq (hz := by seq_fits) hS₂ rfl ?_
  have hS₃ := Heap.get?_update_self (Obj.mapSeq (·.pop)) hS₂ rfl
  refine wpAny_pure ⟨plainId_quiet F.plain_extend_loop _, key _ _ _ (it₁.at fun o e => ?_) (hm1.at' fun o e => ?_) (fun b o hb e => ?_) hS₃⟩
  · exact (Heap.get?_update_other _ _ hSI).trans ((Heap.get?_update_other _ _ hSI).trans e)
  · exact (Heap.get?_update_other _ _ hSd).trans ((Heap.get?_update_other _ _ hSd).trans e)
  · exact (Heap.get?_update_other _ _ (Ne.symm hb)).trans ((Heap.get?_update_other _ _ (Ne.symm hb)).trans (Heap.get?_push_of_some _ e))
theorem list_init_dict {R : Result → Shared → Prop} {d : Addr} {kvs : List (KK × Value)} {ep : Nat} (hh : A.handled = none) (hd : (d == sysModules) = false) (hm : s.heap.DictAt knd d kvs ep) (hlen : kvs.length ≤ sizeLine) (S : Addr) (hS : s.heap.get? S = some { cls := .type "list", data := .seq #[] })
    (hR : ∀ h' tk acc' c', (∀ b o, b ≠ S → s.heap.get? b = some o → h'.get? b = some o) → h'.get? S = some { cls := .type "list", dict := none, data := .seq acc' c', slots := #[] } →
      ItemsOf (fun i v => ∃ k x, kvs[i]? = some (k, x) ∧ knd.is k v = true) acc' kvs.length → R (.ok (.ret .none)) { s with heap := h', toks := tk }) :
    wpAny (model prog w) A.in1 (Builtin.«list.__init__» ⟨[.ref S, .ref d], []⟩)
      (fun fin s' => match fin with | .done f => R (.ok f) s' | .again c' => c'.quiet = true ∧ codeAny (model prog w) A c' R s') (fun e s' => R (.error e) s') s := by
  obtain ⟨od, es, hod, hcd, hdat, hk0, hp0, hn0⟩ := id hm
  have hSd : S ≠ d := fun e => by
    rw [e] at hS
    rw [hS] at hod
    cases hod
    cases hdat
  show wpAny _ _ (do let old ← Builtin.List.listItems (.ref S); Builtin.List.listUpdate (.ref S) (fun _ => #[]); letGo old.toList.reverse; Builtin.List.listExtendWith (.ref S) (.ref d) .none) _ _ s
  refine wpAny_bind ?_
  unfold Builtin.List.listItems
  refine wpAny_bind (wpAny_seqItems hS rfl (wpAny_pure ?_))
  show wpAny _ _ (updateSeq S (fun _ => #[]) >>= fun _ => letGo (#[] : Array Value).toList.reverse >>= fun _ => Builtin.List.listExtendWith (.ref S) (.ref d) .none) _ _ s
  refine wpAny_bind (wpAny_updateSeq hS rfl ?_)
  have hS₂ := Heap.get?_update_self (Obj.mapSeq (fun _ => (#[] : Array Value))) hS rfl
  have oth : ∀ b o, b ≠ S → s.heap.get? b = some o → (s.heap.update S (Obj.mapSeq (fun _ => (#[] : Array Value)))).get? b = some o :=
    fun b o hb e => (Heap.get?_update_other _ _ (Ne.symm hb)).trans e
  refine wpAny_bind (wpAny_letGo ?_)
  refine extend_dict hh hd (hm.at' fun o e => oth d o (Ne.symm hSd) e) hlen S .none _ hS₂ fun h' tk acc' c' hk hS' hacc => ?_
  exact hR h' tk acc' c' (fun b o hb e => hk b o hb (oth b o hb e)) hS' hacc
theorem call_list_dict {Q : Value → Shared → Prop} {d : Addr} {kvs : List (KK × Value)} {ep : Nat} (hh : A.handled = none) (hd : (d == sysModules) = false) (hm : s.heap.DictAt knd d kvs ep) (hlen : kvs.length ≤ sizeLine)
    (hQ : ∀ h' tk acc' c', (∀ b o, s.heap.get? b = some o → h'.get? b = some o) →
      h'.get? s.heap.objs.size = some { cls := .type "list", dict := none, data := .seq acc' c', slots := #[] } → ItemsOf (fun i v => ∃ k x, kvs[i]? = some (k, x) ∧ knd.is k v = true) acc' kvs.length → Q (.ref s.heap.objs.size) { s with heap := h', toks := tk }) :
    wpAny (model prog w) A (call (.type "list") [.ref d]) Q E s := by
  refine callType_codes (Q₁ := fun obj s₁ => obj = .ref s.heap.objs.size ∧ s₁ = { s with heap := s.heap.push { cls := .type "list", data := .seq #[] } }) F.called_list (F.typeCall_list_1 _) F.entry_list_init
    (code_list_new _ ⟨rfl, rfl⟩) fun obj s₁ h₁ => ?_
  obtain ⟨rfl, rfl⟩ := h₁
  have hS : (s.heap.push { cls := .type "list", data := .seq #[] }).get? s.heap.objs.size = some { cls := .type "list", data := .seq #[] } := Heap.get?_push_size _ rfl
  refine ⟨⟨_, hS, rfl⟩, F.args_list_init_2 _ _, list_init_dict (A := A.in1) hh hd (hm.at' fun o e => Heap.get?_push_of_some _ e) hlen _ hS fun h' tk acc' c' hk hS' hacc => ?_⟩
  exact ⟨rfl, hQ h' tk acc' c' (fun b o e => hk b o (Nat.ne_of_lt (Heap.lt_size e)) (Heap.get?_push_of_some _ e)) hS' hacc⟩
end
theorem paired_get {α β : Type} {F : α → β → Prop} : ∀ {l₁ : List α} {l₂ : List β} {i : Nat} {a : α}, Paired F l₁ l₂ → l₁[i]? = some a → ∃ b, l₂[i]? = some b ∧ F a b
  | _, _, _, _, .nil, h => by simp at h
  | _, _, 0, _, .cons r _, h => by
    cases h
    exact ⟨_, rfl, r⟩
  | _, _, i + 1, _, .cons _ t, h => by
    obtain ⟨b, e, f⟩ := paired_get (i := i) t (by simpa using h)
    exact ⟨b, by simpa using e, f⟩
theorem paired_of {α β : Type} {F : α → β → Prop} : ∀ {l₁ : List α} {l₂ : List β}, l₁.length = l₂.length → (∀ (i : Nat) (a : α) (b : β), l₁[i]? = some a → l₂[i]? = some b → F a b) → Paired F l₁ l₂
  | [], [], _, _ => .nil
  | a :: l₁, b :: l₂, h, f => .cons (f 0 a b rfl rfl) (paired_of (by simpa using h) fun i a b e1 e2 => f (i + 1) a b (by simpa using e1) (by simpa using e2))
  | [], _ :: _, h, _ => by simp at h
  | _ :: _, [], h, _ => by simp at h
theorem key_rel {P : Program} {w : World} {k : Key} {u : Value} (h : (mixKind P w).is k u = true) : RelV (kV k) u := by
  rcases keyIs_shape h with ⟨i, t, rfl, rfl⟩ | ⟨x, t, rfl, rfl⟩
  · exact ⟨t, rfl⟩
  · exact ⟨t, rfl⟩
section
variable {X : Cx}
def rListD : List V → Hp → VK → Prop := fun xs H Q => ∃ (p : Addr) (kvs : List (Key × V)), xs = [.ref p] ∧ Rd H p (.dK kvs) ∧ ∀ l, H l = none → Q (.ref l) (upd H l (.lst (kvs.map fun kv => kV kv.1)))
theorem call_listD (hc : X.calm = true) : CallR X (.type "list") rListD := by
  intro pins s σ H xs us Q I r h
  obtain ⟨p, kvs, rfl, hq, q⟩ := h
  obtain ⟨u, rfl, r1⟩ := vals1 r
  cases r1
  obtain ⟨z, hd, vs, rel, o, es, ep, ho, hx, hdat, hk, hp, hn⟩ := dk_rd I.hok hq
  have hl := rel.length
  refine call_list_dict (knd := mixKind X.prog X.w) (I.ok.hd hc) hd ⟨o, es, ho, hx, hdat, hk, hp, hn⟩ (by omega) fun h' tk acc' c' kk hS hacc => ?_
  have hn' := I.hok.fresh (Nat.le_refl s.heap.objs.size)
  have rv : Vals (kvs.map fun kv => kV kv.1) acc'.toList := paired_of (by have := hacc.1; simp; omega) fun i a b e1 e2 => by
    rw [List.getElem?_map] at e1
    obtain ⟨kv, ek, rfl⟩ := Option.map_eq_some_iff.mp e1
    obtain ⟨q', eq, e3, _⟩ := paired_get rel ek
    obtain ⟨k, x, e4, e5⟩ := hacc.2 i b (by simpa using e2)
    rw [eq] at e4
    cases e4
    rw [e3]
    exact key_rel e5
  have I2 : Inv X pins σ (upd H s.heap.objs.size (.lst (kvs.map fun kv => kV kv.1))) { s with heap := h', toks := tk } := I.laid (t' := tk) kk (Nat.le_refl _) ⟨by rw [List.length_map]; exact z, acc'.toList, c', rv, by simpa using hS⟩
  exact ⟨.ref _, _, I2, rfl, q _ hn'⟩
theorem Inv.freeze {pins : List (Addr × Obj)} {σ : L2.St} {H : Hp} {s : Shared} {d : Addr} {kvs : List (Key × V)} {o : Obj} (I : Inv X pins σ H s) (e : H d = some (.dK kvs)) (ho : s.heap.get? d = some o) : Inv X pins σ (upd H d (.frz o (.dK kvs))) s := by
  have nx : ∀ b u, H b = some u → b ≠ d → upd H d (.frz o (.dK kvs)) b = some u := fun b u q n => by rw [upd_ne n]; exact q
  refine I.step (g' := s.gens) (t' := s.toks) (d' := s.drawn) (ch := []) (fun _ z => nomatch z) (fun b o _ _ _ e _ => e) (fun b o _ _ _ e _ => ⟨o.slots, e⟩) (fun b o _ _ n => by rw [upd_ne (fun z => by rw [z, e] at n; cases n)]; exact n) (fun b o _ e => ⟨o, e⟩)
    (fun b xs q => nx b _ q fun z => by rw [z, e] at q; cases q) (fun b o' u q => nx b _ q fun z => by rw [z, e] at q; cases q) (fun b ps q => ⟨#[], by rw [nx b _ q fun z => by rw [z, e] at q; cases q]; simp⟩) (fun m hm => hm) (fun b u q => ?_) I.bare
  by_cases hb : b = d
  · subst hb
    rw [upd_same] at q
    cases q
    exact ⟨ho, I.hok b _ e⟩
  · rw [upd_ne hb] at q
    exact (I.hok b u q).stay (fun _ _ _ k => k) (fun c k => nx c _ k fun z => by rw [z, e] at k; cases k) fun c xs k => nx c _ k fun z => by rw [z, e] at k; cases k
def Itd (d : Addr) (o : Obj) (kvs : List (Key × V)) : It :=
  ⟨fun i H => H d = some (.frz o (.dK kvs)) ∧ i < kvs.length,
   fun i H v H' => ∃ p k x, kvs[i]? = some (k, x) ∧ v = .ref p ∧ H p = none ∧ H' = upd H p (.tup [kV k, x]),
   fun i H => H d = some (.frz o (.dK kvs)) ∧ kvs.length ≤ i⟩
theorem frz_at {P : Program} {w : World} {H : Hp} {h : Heap} {d : Addr} {o : Obj} {kvs : List (Key × V)} {es0 : Array DictEntry} {ep : Nat} (ok : HOk P w H h) (e : H d = some (.frz o (.dK kvs))) (he : o.data = .dict es0 ep) :
    (d == sysModules) = false ∧ ∃ vs, KV kvs vs ∧ h.DictAt (mixKind P w) d vs ep ∧ kvs.length ≤ sizeLine := by
  obtain ⟨h1, z, hd, vs, rel, o', es, ep', ho, hx, hdat, hk, hp, hn⟩ := ok d _ e
  rw [h1] at ho
  cases ho
  rw [he] at hdat
  cases hdat
  exact ⟨hd, vs, rel, ⟨o, es0, h1, hx, he, hk, hp, hn⟩, z⟩
theorem entry_iter_items : entryFor table "dict_itemiterator.__iter__" = some Builtin.«dict_keyiterator.__iter__» :=
  entryFor_alias (id' := "dict_keyiterator.__iter__") (by kernel_rfl) (by first | rfl | decide +kernel | (unfold String.splitOn; simp +decide [String.splitOnAux])) (by decide +kernel) (by kernel_rfl)
theorem iter_items {P : Program} {w : World} {A : Around} {E : Value → Shared → Prop} {s : Shared} {it d : Addr} {i n ep : Nat} {ok ov : Value} {Q : Value → Shared → Prop} (st : IsItemIter s.heap it d i n ep ok ov) (h : Q (.ref it) s) : wpAny (model P w) A (pyIter (.ref it)) Q E s := by
  have hT : s.TypeIs (.ref it) "dict_itemiterator" := ⟨_, st, rfl⟩
  refine wpAny_pyIter_slot hT F.slot_dict_itemiterator_iter (wpAny_call_entry F.slot_dict_itemiterator_iter hT entry_iter_items ?_ (F.args_dict_itemiterator_iter_1 _))
  show wpAny _ _ (ret (.ref it)) _ _ s
  exact wpAny_pure ⟨_, rfl, "dict_itemiterator", _, hT, F.slot_dict_itemiterator_next.lookup, h⟩
theorem turn_items {P : Program} {w : World} {K : PySem.W.Frag} {es : List Expr} {k : Nat} {pos : Pos} (d it : Addr) (o : Obj) (kvs : List (Key × V)) {es0 : Array DictEntry} {ep : Nat} (he : o.data = .dict es0 ep) (hne : it ≠ d) :
    Turn P w K (.Tuple es k pos) (Itd d o kvs) [it] it (fun i h => ∃ ok ov, IsItemIter h it d i kvs.length ep ok ov) where
  mem := by simp
  obj := fun i h st b hb => by
    have e : b = it := by simpa using hb
    subst e
    obtain ⟨ok, ov, st⟩ := st
    exact ⟨_, st, fun v z => by cases z⟩
  keep := fun i h h' st k => by
    obtain ⟨ok, ov, st⟩ := st
    exact ⟨ok, ov, k it (by simp) _ st⟩
  item := by
    intro X hP hw hK hc i pins s σ H E I hf st hg
    subst hP hw hK
    obtain ⟨ok, ov, st⟩ := st
    obtain ⟨fz, hi⟩ := hg
    obtain ⟨hd, vs, rel, da, _⟩ := frz_at I.hok fz he
    have ek : kvs[i]? = some kvs[i] := List.getElem?_eq_getElem hi
    obtain ⟨⟨k', u⟩, ev, e1, ru⟩ := paired_get rel ek
    have lv := rel.length
    rw [lv] at st
    refine wpAny_pyNext_items_item st da ev fun key h' hkey out tup sz kk => ?_
    refine ⟨_, rfl, wpAny_letOwnedTupleGo_items (s := { s with heap := h' }) out fun h'' it'' sb => ?_⟩
    have hsz : ∀ c o, s.heap.get? c = some o → s.heap.objs.size ≠ c := fun c o e => Nat.ne_of_gt (Heap.lt_size e)
    have tz : s.heap.objs.size ≠ it := hsz _ _ st
    have nz : ∀ c, c ≠ it → ∀ o, h'.get? c = some o → h''.get? c = some o := fun c hc o e => (sb.2 c hc).trans e
    have hn := I.hok.fresh (Nat.le_refl s.heap.objs.size)
    have e1' : kvs[i].1 = k' := e1
    have I2 : Inv X pins σ (upd H s.heap.objs.size (.tup [kV kvs[i].1, kvs[i].2])) { s with heap := h'', toks := s.toks } :=
      Inv.turnedT I (fun b o hb e => nz b (by simpa using hb) o (kk b o (by simpa using hb) e)) hf (Nat.le_refl _) (by show 2 ≤ sizeLine; decide) (its := [key, u]) (.cons (by rw [e1']; exact key_rel hkey) (.cons ru .nil)) ⟨_, nz _ tz _ tup, rfl, _, rfl⟩
    refine ⟨.ref s.heap.objs.size, _, I2, rfl, ⟨s.heap.objs.size, kvs[i].1, kvs[i].2, ek, rfl, hn, rfl⟩, ⟨_, _, by rw [lv]; exact it''⟩, fun b hb => ?_⟩
    have eb : b = it := by simpa using hb
    rw [upd_ne (by rw [eb]; exact Ne.symm tz)]
    exact (hf b hb).1
  done := by
    intro X hP hw hK hc i pins s σ H E I hf st hg
    subst hP hw hK
    obtain ⟨ok, ov, st⟩ := st
    obtain ⟨fz, hi⟩ := hg
    obtain ⟨hd, vs, rel, da, _⟩ := frz_at I.hok fz he
    have lv := rel.length
    rw [lv] at st
    obtain ⟨f0, f1, f2, f3, f4, f5⟩ := hf it (by simp)
    exact wpAny_pyNext_items_end (I.ok.hd hc) st da (List.getElem?_eq_none (by omega)) fun h' eb => ⟨rfl, I.turned (t' := s.toks) (fun b o hb e => eb b o hb e) f0 f1 f3 f4 f5⟩
  self := fun _ _ _ _ _ st h => by
    obtain ⟨ok, ov, st⟩ := st
    exact iter_items st h
def iItems (te : TE) : TI := fun σ H R => te σ H fun x H1 => ∃ d kvs, x = .ref d ∧ H1 d = some (.dK kvs) ∧ ∀ o, R (Itd d o kvs) (upd H1 d (.frz o (.dK kvs)))
theorem pi_items {e : Expr} {te : TE} {apos cpos : Pos} {es : List Expr} {k : Nat} {tpos : Pos} (ho : PE X e te) (hbase : attributeBase e "items" X.env (eval e X.env) = eval e X.env := by rfl) (hline : (apos.endLine == cpos.line) = true := by rfl) :
    PI X (.Tuple es k tpos) (.Call (.Attribute e "items" apos) [] [] cpos) (iItems te) := by
  intro pins s σ H R I h
  refine wpAny_Call_method0_late hbase hline (thn (ho pins s σ H _ I h) fun v s1 ⟨x, H1, I1, r1, q1⟩ => ?_)
  obtain ⟨d, kvs, rfl, e, q⟩ := q1
  cases r1
  obtain ⟨z, hd, vs, rel, o, es1, ep, ho1, hx, hdat, hk, hp, hn⟩ := dk_of I1.hok e
  obtain ⟨h1, h2⟩ := tyV_is (T := "dict") I1 (show RelV (.ref d) (.ref d) from rfl) (.inr (.inr (.inl ⟨rfl, .inl ⟨kvs, e⟩⟩)))
  have da : s1.heap.DictAt (mixKind X.prog X.w) d vs ep := ⟨o, es1, ho1, hx, hdat, hk, hp, hn⟩
  have lv := rel.length
  refine ⟨"dict", "dict.items", F.plainAttrs_dict, F.slot_dict_items, F.type_dict_items, h1, h2, Calls.callWith_builtin rfl (PySem.evalArgs_none ?_)⟩
  refine call_meetsIn F.slot_dict_items h1 F.entry_dict_items (F.args_dict_items_1 _) (meets_dict_items (mixKind X.prog X.w) d hd) ⟨⟨vs, da.dictOf⟩, ?_⟩
  have I2 := Inv.freeze I1 e ho1
  have da2 : (s1.heap.push { cls := .type "dict_items", data := .fields #[.ref d] }).DictAt (mixKind X.prog X.w) d vs ep := da.at' fun o e => Heap.get?_push_of_some _ e
  show wpAny (model X.prog X.w) X.A (pyIter (.ref s1.heap.objs.size)) _ _ _
  refine wpAny_pyIter_items (s := { s1 with heap := s1.heap.push { cls := .type "dict_items", data := .fields #[.ref d] } }) ⟨_, Heap.get?_push_size _ rfl, rfl, rfl⟩ da2 ?_
  have sz : (s1.heap.push { cls := .type "dict_items", data := .fields #[.ref d] }).objs.size = s1.heap.objs.size + 1 := Heap.size_push ..
  have ne : (s1.heap.push { cls := .type "dict_items", data := .fields #[.ref d] }).objs.size ≠ d := by
    rw [sz]
    exact Ne.symm (Nat.ne_of_lt (Nat.lt_succ_of_lt (Heap.lt_size ho1)))
  have I3 : Inv X pins σ (upd H1 d (.frz o (.dK kvs))) { s1 with heap := (s1.heap.push { cls := .type "dict_items", data := .fields #[.ref d] }).push { cls := .type "dict_itemiterator", data := .fields #[.none, .bool false, .ref d, .int 0 0, .int vs.length 0, .int ep 0, .none, .none] } } := I2.kept (t' := s1.toks) fun b o e => Heap.get?_push_of_some _ (Heap.get?_push_of_some _ e)
  refine ⟨_, [_], _, _, _, rfl, I3, turn_items d _ o kvs hdat ne, ⟨_, _, by rw [lv]; exact Heap.get?_push_size _ rfl⟩, fun b hb => ?_, q o⟩
  have eb : b = (s1.heap.push { cls := .type "dict_items", data := .fields #[.ref d] }).objs.size := by simpa using hb
  have le : s1.heap.objs.size ≤ b := by rw [eb, sz]; exact Nat.le_succ _
  exact I2.fpOk le (I2.hok.fresh le)
end
end Ty

set_option maxHeartbeats 4000000
namespace Ty
def ev : List Int → (Nat → Rat) → Rat
  | [], _ => 0
  | a :: r, z => (a : Rat) * z 0 + ev r (fun i => z (i + 1))
theorem ev_lin {s t u : Int} : ∀ {new line lead : List Int}, new.length = line.length → lead.length = line.length → (∀ j, s * new.getD j 0 = t * line.getD j 0 - u * lead.getD j 0) → ∀ z : Nat → Rat, (s : Rat) * ev new z = t * ev line z - u * ev lead z
  | [], [], [], _, _, _, z => by simp [ev]; grind
  | a :: new, b :: line, c :: lead, h1, h2, h, z => by
    have h0 := h 0
    have ih := ev_lin (by simpa using h1) (by simpa using h2) (fun j => by simpa using h (j + 1)) (fun i => z (i + 1))
    simp at h0
    have h0' : (s : Rat) * a = t * b - u * c := by exact_mod_cast h0
    simp only [ev]
    grind
  | [], _ :: _, _, h, _, _, _ => by simp at h
  | _ :: _, [], _, h, _, _, _ => by simp at h
  | _, [], _ :: _, _, h, _, _ => by simp at h
  | _, _ :: _, [], _, h, _, _ => by simp at h
def csum : List Rat → List (List Int) → Nat → Rat
  | c :: y, o :: os, j => c * ((o.getD j 0 : Int) : Rat) + csum y os j
  | _, _, _ => 0
def Comb (os : List (List Int)) (l : List Int) : Prop := ∃ y : List Rat, y.length = os.length ∧ ∀ j, ((l.getD j 0 : Int) : Rat) = csum y os j
def zOf (y : List Rat) : Nat → Rat := fun i => if i < y.length then y.getD i 0 else -1
structure Clr (line lead new : List Int) (c : Nat) : Prop where
  len : new.length = line.length
  nought : new.getD c 0 = 0
  lin : ∃ s t u : Int, s ≠ 0 ∧ t ≠ 0 ∧ ∀ j, s * new.getD j 0 = t * line.getD j 0 - u * lead.getD j 0
theorem Clr.zero {line lead new : List Int} {c : Nat} (h : Clr line lead new c) {j : Nat} (h1 : line.getD j 0 = 0) (h2 : lead.getD j 0 = 0) : new.getD j 0 = 0 := by
  obtain ⟨s, t, u, hs, _, e⟩ := h.lin
  have := e j
  rw [h1, h2, Int.mul_zero, Int.mul_zero, Int.sub_self] at this
  rcases Int.mul_eq_zero.mp this with z | z
  · exact absurd z hs
  · exact z
theorem Clr.at {line lead new : List Int} {c : Nat} (h : Clr line lead new c) {j : Nat} (h2 : lead.getD j 0 = 0) (h1 : line.getD j 0 ≠ 0) : new.getD j 0 ≠ 0 := by
  obtain ⟨s, t, u, hs, ht, e⟩ := h.lin
  have := e j
  rw [h2] at this
  intro z
  rw [z, Int.mul_zero, Int.mul_zero, Int.sub_zero] at this
  rcases Int.mul_eq_zero.mp this.symm with y | y
  · exact ht y
  · exact h1 y
theorem Clr.ev {line lead new : List Int} {c : Nat} (h : Clr line lead new c) (hl : lead.length = line.length) {z : Nat → Rat} (h2 : Ty.ev lead z = 0) : Ty.ev new z = 0 ↔ Ty.ev line z = 0 := by
  obtain ⟨s, t, u, hs, ht, e⟩ := h.lin
  have k := ev_lin h.len hl e z
  rw [h2] at k
  have hs' := ratne hs
  have ht' := ratne ht
  constructor
  · intro w
    rw [w] at k
    grind
  · intro w
    rw [w] at k
    grind
end Ty

set_option maxHeartbeats 4000000
namespace Ty
open PySem PySem.Spec PyProof.Rows L2
def Itn (K : PySem.W.Frag) (a : Addr) : It :=
  ⟨fun i H => ∃ xs x, SqL K H a xs ∧ xs[i]? = some x,
   fun i H v H' => ∃ p x, (∀ xs, SqL K H a xs → xs[i]? = some x) ∧ v = .ref p ∧ H p = none ∧ H' = upd H p (.tup [.int (i : Int), x]),
   fun i H => ∃ xs, SqL K H a xs ∧ xs.length ≤ i⟩
section
variable {X : Cx}
def iEnum (K : PySem.W.Frag) (ta : TA) : TI := fun σ H R => ta σ H fun vs H1 => ∃ a, vs = [.ref a] ∧ (∃ xs, SqL K H1 a xs) ∧ R (Itn K a) H1
def rAny (K : PySem.W.Frag) : List V → Hp → VK → Prop := fun xs H Q => ∃ (p : Addr) (bs : List Bool), xs = [.ref p] ∧ SqL K H p (bs.map V.bl) ∧ Q (.bl (bs.any id)) H
end
theorem for_items {d : Addr} {o : Obj} {kvs : List (Key × V)} {g : TG} {tb : TS} {D : Ends} {σ : L2.St} {H : Hp} (Pv : Nat → L2.St → Hp → Prop) (h0 : Pv 0 σ H) (hl : ∀ i σ H, i ≤ kvs.length → Pv i σ H → H d = some (.frz o (.dK kvs)))
    (hs : ∀ i k x σ H p, kvs[i]? = some (k, x) → Pv i σ H → H p = none → g (.ref p) σ (upd H p (.tup [kV k, x])) fun σ2 H2 => tb { D with nx := Pv (i + 1), ct := Pv (i + 1), bk := D.nx } σ2 H2) (hd : ∀ σ H, Pv kvs.length σ H → D.nx σ H) :
    ∃ W : Nat → Nat → L2.St → Hp → Prop, (∃ m, W 0 m σ H) ∧ ∀ i m σ H, W i m σ H →
      ((Itd d o kvs).stop i H ∧ D.nx σ H) ∨ ((Itd d o kvs).go i H ∧ ∃ N : L2.St → Hp → Prop, (∀ σ' H', N σ' H' → ∃ m', m' < m ∧ W (i + 1) m' σ' H') ∧ ∀ x H', (Itd d o kvs).yld i H x H' → g x σ H' fun σ2 H2 => tb { D with nx := N, ct := N, bk := D.nx } σ2 H2) := by
  refine ⟨fun i m σ H => m = kvs.length - i ∧ i ≤ kvs.length ∧ Pv i σ H, ⟨kvs.length, by simp, Nat.zero_le _, h0⟩, ?_⟩
  rintro i m σ H ⟨rfl, hi, p⟩
  have q := hl i σ H hi p
  by_cases hlt : i < kvs.length
  · refine .inr ⟨⟨q, hlt⟩, Pv (i + 1), fun σ' H' z => ⟨kvs.length - (i + 1), by omega, rfl, by omega, z⟩, fun x H' y => ?_⟩
    obtain ⟨pp, k, x', y1, rfl, np, rfl⟩ := y
    exact hs i k x' σ H pp y1 p np
  · have e : i = kvs.length := by omega
    subst e
    exact .inl ⟨⟨q, Nat.le_refl _⟩, hd σ H p⟩
end Ty

set_option maxHeartbeats 4000000
namespace Ty
open PySem PySem.Spec PyProof.Rows L2
open Builtin.Int (intBits)
section
variable {X : Cx}
def CMulS (i j : Int) : Prop := intBits i + intBits j ≤ 134217728
def rIsiT (K : PySem.W.Frag) : List V → Hp → VK → Prop := fun xs H Q => ∃ p ys, xs = [.ref p, .ty "tuple"] ∧ SqT K H p ys ∧ Q (.bl true) H
end
theorem Same.seqT {K : PySem.W.Frag} {H H' : Hp} {a : Addr} {xs : List V} (e : Same H H') (h : SqT K H a xs) : SqT K H' a xs := by
  rcases h with (h | ⟨o, h⟩) | h
  · exact .inl (.inl (e _ _ h))
  · exact .inl (.inr ⟨o, e _ _ h⟩)
  · exact .inr h
section
variable {D : Addr} {te : TE} {cap : L2.St} {H1 : Hp} {Q : VK}
end
def NmK (K : PySem.W.Frag) (H : Hp) (v : V) (q : Int × Int) : Prop := ∃ p, v = .ref p ∧ SqT K H p [.int q.1, .int q.2]
theorem NmK.same {K : PySem.W.Frag} {H H' : Hp} {v : V} {q : Int × Int} (h : NmK K H v q) (s : Same H H') : NmK K H' v q := by
  obtain ⟨p, e, k⟩ := h
  exact ⟨p, e, Ty.Same.seqT s k⟩
def NmsK (K : PySem.W.Frag) (H : Hp) (us : List V) (qs : List (Int × Int)) : Prop := us.length = qs.length ∧ ∀ (i : Nat) (u : V) (q : Int × Int), us[i]? = some u → qs[i]? = some q → NmK K H u q
theorem NmsK.same {K : PySem.W.Frag} {H H' : Hp} {us : List V} {qs : List (Int × Int)} (h : NmsK K H us qs) (s : Same H H') : NmsK K H' us qs := ⟨h.1, fun i u q e1 e2 => (h.2 i u q e1 e2).same s⟩
theorem NmsK.at {K : PySem.W.Frag} {H : Hp} {us : List V} {qs : List (Int × Int)} (h : NmsK K H us qs) {i : Nat} {u : V} (e : us[i]? = some u) : ∃ q, qs[i]? = some q ∧ NmK K H u q := by
  have hi : i < us.length := (List.getElem?_eq_some_iff.mp e).1
  have hl := h.1
  have e2 : qs[i]? = some (qs[i]'(by omega)) := List.getElem?_eq_getElem (by omega)
  exact ⟨_, e2, h.2 i u _ e e2⟩
theorem NmsK.at' {K : PySem.W.Frag} {H : Hp} {us : List V} {qs : List (Int × Int)} (h : NmsK K H us qs) {i : Nat} {q : Int × Int} (e : qs[i]? = some q) : ∃ u, us[i]? = some u ∧ NmK K H u q := by
  have hi : i < qs.length := (List.getElem?_eq_some_iff.mp e).1
  have hl := h.1
  have e2 : us[i]? = some (us[i]'(by omega)) := List.getElem?_eq_getElem (by omega)
  exact ⟨_, e2, h.2 i _ q e2 e⟩
theorem NmsK.set {K : PySem.W.Frag} {H : Hp} {us : List V} {qs : List (Int × Int)} {j : Nat} {v : V} {q : Int × Int} (h : NmsK K H us qs) (n : NmK K H v q) : NmsK K H (us.set j v) (qs.set j q) := by
  refine ⟨by simp [h.1], fun i u q' e1 e2 => ?_⟩
  rw [List.getElem?_set] at e1 e2
  by_cases c : j = i
  · subst c
    rw [if_pos rfl] at e1 e2
    have l := h.1
    by_cases hj : j < us.length
    · rw [if_pos hj] at e1
      rw [if_pos (by omega)] at e2
      cases e1
      cases e2
      exact n
    · rw [if_neg hj] at e1
      cases e1
  · rw [if_neg c] at e1 e2
    exact h.2 i u q' e1 e2
def RowK (K : PySem.W.Frag) (H : Hp) (a : Addr) (qs : List (Int × Int)) : Prop := ∃ us, SqL K H a us ∧ NmsK K H us qs
theorem RowK.same {K : PySem.W.Frag} {H H' : Hp} {a : Addr} {qs : List (Int × Int)} (h : RowK K H a qs) (s : Same H H') : RowK K H' a qs := by
  obtain ⟨us, h1, h2⟩ := h
  exact ⟨us, s.seq h1, h2.same s⟩
def sumTo : Nat → (Nat → Rat) → Rat
  | 0, _ => 0
  | n + 1, f => f 0 + sumTo n (fun i => f (i + 1))
end Ty

set_option maxHeartbeats 4000000
namespace Ty
open PySem PySem.Spec PyProof.Rows L2
section
variable {X : Cx}
def iItemsR (te : TE) : TI := fun σ H R => te σ H fun x H1 => ∃ d kvs, x = .ref d ∧ Rd H1 d (.dK kvs) ∧ ∀ o, R (Itd d o kvs) (upd H1 d (.frz o (.dK kvs)))
end
section
variable {D : Addr} {te : TE} {cap : L2.St} {H1 : Hp} {Q : VK}
end
end Ty

set_option maxHeartbeats 4000000
namespace Ty
open PySem PySem.Spec PyProof.Rows L2
section
variable {X : Cx}
theorem vals_ints : ∀ {us : List Value} {ns : List Int}, IntsAre us ns → Vals (ns.map V.int) us
  | _, _, .nil => .nil
  | _, _, .cons n t h => .cons ⟨t, rfl⟩ (vals_ints h)
def rSorted (K : PySem.W.Frag) : List V → Hp → VK → Prop := fun xs H Q => ∃ (p : Addr) (ns : List Int), xs = [.ref p] ∧ SqL K H p (ns.map V.int) ∧ ns.length < 64 ∧ ∀ (l : Addr) (ms : List Int), H l = none → ms.Perm ns → ms.Pairwise (· ≤ ·) → Q (.ref l) (upd H l (.lst (ms.map V.int)))
def tListR (ta : TA) : TE := fun σ H Q => ta σ H fun vs H1 => ∃ n : Nat, vs = [.int (n : Int)] ∧ n ≤ 1000 ∧ ∀ l, H1 l = none → Q (.ref l) (upd H1 l (.lst ((List.range n).map fun (i : Nat) => V.int (i : Int))))
def Itv (d : Addr) (o : Obj) (kvs : List (Key × V)) : It :=
  ⟨fun i H => H d = some (.frz o (.dK kvs)) ∧ i < kvs.length,
   fun i H v H' => H' = H ∧ ∃ k, kvs[i]? = some (k, v),
   fun i H => H d = some (.frz o (.dK kvs)) ∧ kvs.length ≤ i⟩
def iVals (te : TE) : TI := fun σ H R => te σ H fun x H1 => ∃ d o kvs, x = .ref d ∧ H1 d = some (.frz o (.dK kvs)) ∧ R (Itv d o kvs) H1
theorem Inv.thaw {pins : List (Addr × Obj)} {σ : L2.St} {H : Hp} {s : Shared} {d : Addr} {u : HO} {o : Obj} (I : Inv X pins σ H s) (e : H d = some (.frz o u)) (n : X.H₀ d = none) (nt : ∀ xs, u ≠ .tup xs) : Inv X pins σ (upd H d u) s := by
  have nx : ∀ b u', H b = some u' → b ≠ d → upd H d u b = some u' := fun b u q n => by rw [upd_ne n]; exact q
  have nn : ∀ b, H b = none → upd H d u b = none := fun b q => by rw [upd_ne (fun z => by rw [z, e] at q; cases q)]; exact q
  refine ⟨I.ok, I.os, I.bare, ⟨I.base.keep, I.base.slot, fun b ob q z hx => nn b (I.base.free b ob q z hx), I.base.there, fun b xs q => ?_, fun b ob u' q => ?_, fun b ps q => ?_⟩, I.loc, I.cell, nn _ I.free, fun x c q => nn _ (I.freeC x c q), fun p hp => ?_, ?_, I.len⟩
  · have z := I.base.tups b xs q
    exact nx b _ z fun y => by rw [y, e] at z; cases z
  · have z := I.base.frzs b ob u' q
    exact nx b _ z fun y => by rw [y, n] at q; cases q
  · obtain ⟨m, z⟩ := I.base.tbls b ps q
    exact ⟨m, nx b _ z fun y => by rw [y, e] at z; cases z⟩
  · obtain ⟨a1, a2, a3⟩ := I.pin p hp
    exact ⟨a1, nn _ a2, a3⟩
  · have st : ∀ {b u'}, ObjOk X.prog X.w H s.heap b u' → ObjOk X.prog X.w (upd H d u) s.heap b u' := fun {b u'} k => k.stay (fun _ _ _ z => z) (fun c z => nx c _ z fun y => by rw [y, e] at z; cases z) fun c xs z => nx c _ z fun y => by rw [y, e] at z; cases z
    intro b u' q
    by_cases hb : b = d
    · subst hb
      rw [upd_same] at q
      cases q
      exact st (I.hok b _ e).2
    · rw [upd_ne hb] at q
      exact st (I.hok b u' q)
def tClear (H0 : Hp) (te : TE) : TE := fun σ H Q => te σ H fun x H1 => ∃ d o kvs, x = .ref d ∧ H1 d = some (.frz o (.dK kvs)) ∧ H0 d = none ∧ Q .non (upd H1 d (.dK []))
end
end Ty

set_option maxHeartbeats 4000000
namespace Ty
open PySem PySem.Spec PyProof.Rows L2
section
variable {X : Cx}
def tRev (K : PySem.W.Frag) (te ts : TE) : TE := fun σ H Q => te σ H fun x H1 => ts σ H1 fun y H2 => y = .int (-1) ∧ ∃ l xs, x = .ref l ∧ SqL K H2 l xs ∧ ∀ p, H2 p = none → Q (.ref p) (upd H2 p (.lst xs.reverse))
def rLenD : List V → Hp → VK → Prop := fun xs H Q => ∃ (p : Addr) (kvs : List (Key × V)), xs = [.ref p] ∧ Rd H p (.dK kvs) ∧ Q (.int (kvs.length : Int)) H
theorem call_lenD : CallR X (.builtin "len") rLenD := by
  intro pins s σ H xs us Q I r h
  obtain ⟨p, kvs, rfl, hq, q⟩ := h
  obtain ⟨u, rfl, r1⟩ := vals1 r
  cases r1
  exact d_len I hq fun t s' I' => ⟨.int _, H, I', ⟨t, rfl⟩, q⟩
end
section
variable {D : Addr} {te : TE} {cap : L2.St} {H1 : Hp} {Q : VK}
end
end Ty

set_option maxHeartbeats 4000000
namespace Ty
open PySem PySem.Spec PyProof.Rows L2
section
variable {X : Cx}
theorem Inv.thawG {pins : List (Addr × Obj)} {σ : L2.St} {H : Hp} {s : Shared} {d : Addr} {u : HO} {o : Obj} (I : Inv X pins σ H s) (e : H d = some (.frz o u)) (n : ∀ o' u', X.H₀ d ≠ some (.frz o' u')) (nt : ∀ xs, u ≠ .tup xs) : Inv X pins σ (upd H d u) s := by
  have nx : ∀ b u', H b = some u' → b ≠ d → upd H d u b = some u' := fun b u q n => by rw [upd_ne n]; exact q
  have nn : ∀ b, H b = none → upd H d u b = none := fun b q => by rw [upd_ne (fun z => by rw [z, e] at q; cases q)]; exact q
  refine ⟨I.ok, I.os, I.bare, ⟨I.base.keep, I.base.slot, fun b ob q z hx => nn b (I.base.free b ob q z hx), I.base.there, fun b xs q => ?_, fun b ob u' q => ?_, fun b ps q => ?_⟩, I.loc, I.cell, nn _ I.free, fun x c q => nn _ (I.freeC x c q), fun p hp => ?_, ?_, I.len⟩
  · have z := I.base.tups b xs q
    exact nx b _ z fun y => by rw [y, e] at z; cases z
  · have z := I.base.frzs b ob u' q
    exact nx b _ z fun y => by rw [y] at q; exact n _ _ q
  · obtain ⟨m, z⟩ := I.base.tbls b ps q
    exact ⟨m, nx b _ z fun y => by rw [y, e] at z; cases z⟩
  · obtain ⟨a1, a2, a3⟩ := I.pin p hp
    exact ⟨a1, nn _ a2, a3⟩
  · have st : ∀ {b u'}, ObjOk X.prog X.w H s.heap b u' → ObjOk X.prog X.w (upd H d u) s.heap b u' := fun {b u'} k => k.stay (fun _ _ _ z => z) (fun c z => nx c _ z fun y => by rw [y, e] at z; cases z) fun c xs z => nx c _ z fun y => by rw [y, e] at z; cases z
    intro b u' q
    by_cases hb : b = d
    · subst hb
      rw [upd_same] at q
      cases q
      exact st (I.hok b _ e).2
    · rw [upd_ne hb] at q
      exact st (I.hok b u' q)
def tThaw (H0 : Hp) (t : TS) : TS := fun D σ H => t { D with nx := fun σ' H' => ∃ d o kvs, H' d = some (.frz o (.dK kvs)) ∧ (∀ o' u', H0 d ≠ some (.frz o' u')) ∧ D.nx σ' (upd H' d (.dK kvs)) } σ H
theorem ps_thaw {st : Stmt} {t : TS} (h : PS X st t) : PS X st (tThaw X.H₀ t) := by
  intro pins s σ H D I q
  refine wpAny_mono (h pins s σ H _ I q) (fun f s' z => ?_) fun _ _ z => z
  cases f with
  | next =>
    obtain ⟨σ', H', I', d, o, kvs, e, n, k⟩ := z
    exact ⟨σ', _, Inv.thawG I' e n (fun _ z => nomatch z), k⟩
  | brk => exact z
  | cont => exact z
  | ret u => exact z
def Itk (d : Addr) (o : Obj) (kvs : List (Key × V)) : It :=
  ⟨fun i H => H d = some (.frz o (.dK kvs)) ∧ i < kvs.length,
   fun i H v H' => H' = H ∧ ∃ k x, kvs[i]? = some (k, x) ∧ v = kV k,
   fun i H => H d = some (.frz o (.dK kvs)) ∧ kvs.length ≤ i⟩
def iKeys (te : TE) : TI := fun σ H R => te σ H fun x H1 => ∃ d kvs, x = .ref d ∧ H1 d = some (.dK kvs) ∧ ∀ o, R (Itk d o kvs) (upd H1 d (.frz o (.dK kvs)))
def rDictD : List V → Hp → VK → Prop := fun xs H Q => ∃ (p : Addr) (kvs : List (Key × V)), xs = [.ref p] ∧ Rd H p (.dK kvs) ∧ ∀ l, H l = none → Q (.ref l) (upd H l (.dK kvs))
end
end Ty

set_option maxHeartbeats 4000000
namespace Ty
open PySem PySem.Spec PyProof.Rows L2
section
variable {prog : Program} {w : World} {KK : Type} [DecidableEq KK] {knd : KeyKind prog w KK} {A : Around} {E : Value → Shared → Prop} {s : Shared}
def EqIn (prog : Program) (w : World) (A : Around) (s : Shared) (y x : Value) : Prop := ∀ (E : Value → Shared → Prop) (Q : Bool → Shared → Prop), Q true s → wpAny (model prog w) A (eqBool y x) Q E s
theorem EqIn.of {y x : Value} (h : SeqAt.EqAt A s y x true) : EqIn prog w A s y x := fun E Q q => h prog w E Q q
open MeetsSeq MeetsSeq2 MeetsSeq3 SeqRoads2 in
open MeetsSeq MeetsSeq2 MeetsSeq3 SeqRoads2 in
end
section
variable {X : Cx}
def SameD (H : Hp) (u v : V) : Prop := ∃ a b kvs, u = .ref a ∧ v = .ref b ∧ Rd H a (.dK kvs) ∧ Rd H b (.dK kvs) ∧ ∀ kv ∈ kvs, flatV kv.2 = true ∨ ∃ c, kv.2 = .ref c
def rEqLD (K : PySem.W.Frag) : R2 := fun x y H Q => ∃ p p' xs ys, x = .ref p ∧ y = .ref p' ∧ SqL K H p xs ∧ SqL K H p' ys ∧ xs.length = ys.length ∧ (∀ (j : Nat) (u v : V), xs[j]? = some u → ys[j]? = some v → SameD H u v) ∧ Q (.bl true) H
end
end Ty

set_option maxHeartbeats 4000000
namespace Ty
open PySem PySem.Spec PyProof.Rows L2
structure FunD (K : PySem.W.Frag) (x qual : Str) (st : Stmt) (f : Addr) (fd : FuncData) : Prop where
  ex : ∃ (dV oc : Value) (od : Option Addr) (kV doc pm : Value) (an : Option Addr) (cdv ct : Value) (osl : Array (Option Value)),
    fd = PySem.W.fnOf x qual (defArgs st) (defBody st) (defScope st) dV kV doc pm an cdv ct ∧ K.lookup f = some ⟨oc, od, .func fd, osl⟩ ∧ PySem.W.codeIn K cdv qual = true
  kp : PySem.W.keepIn K (.ref f) = true
section
variable {P : Program} {w : World} {K : PySem.W.Frag} {mg : Str → Option Value} {base : Heap} {CX : CXT}
theorem fun_mkD {x qual : Str} {st : Stmt} {f : Addr} {dV oc : Value} {od an : Option Addr} {osl : Array (Option Value)} {kV doc pm cdv ct : Value} (l : K.lookup f = some ⟨oc, od, .func (PySem.W.fnOf x qual (defArgs st) (defBody st) (defScope st) dV kV doc pm an cdv ct), osl⟩)
    (c : PySem.W.codeIn K cdv qual = true) (k : PySem.W.keepIn K (.ref f) = true) : FunD K x qual st f (PySem.W.fnOf x qual (defArgs st) (defBody st) (defScope st) dV kV doc pm an cdv ct) := ⟨⟨dV, oc, od, kV, doc, pm, an, cdv, ct, osl, rfl, l, c⟩, k⟩
theorem fun_okF {name qual : Str} {st : Stmt} {f : Addr} {fd : FuncData} {N ps : List Str} {k : Nat} {sp : Sp} (F : Fun K name qual st f fd) (S : FnScope N ps (defScope st)) (len : ∀ vs H Q E, sp vs H Q E → vs.length = ps.length)
    (hbody : ∀ (cdv : Value) (A : Around) (outer : List Env) (s : Shared) (H : Hp) (vs : List V) (Q : VK) (E : XK), Room k (A.deeper (envOfC qual (defScope st) s.heap.objs.size f cdv)) → sp vs H Q E →
      ∃ t, PSs (cxr P w K mg base N qual (defScope st) f cdv A outer s H E).nox (defBody st) t ∧ t { nx := fun _ H' => Q .non H', rt := Q } (start N vs) H) : FnOk P w K mg base (CXr P w) (k + 1) f fd ps sp := by
  obtain ⟨oc, od, kV, doc, pm, an, cdv, ct, osl, rfl, lk, hcd⟩ := F.ex
  exact fn_of lk hcd S len fun A outer s H vs Q E hr hsp => by
    obtain ⟨t, h, q⟩ := hbody cdv A outer s H vs Q E hr hsp
    exact ⟨t, h.nox, q⟩
end
structure MtdOkD (P : Program) (w : World) (K : PySem.W.Frag) (mg : Str → Option Value) (base : Heap) (CX : CXT) (k : Nat) (C : Addr) (m : Str) (ps : List Str) (ds : List Value) (sp : Sp) : Prop where
  ex : ∃ (f : Addr) (fd : FuncData), Cls K C ∧ Meth K C m f ∧ FnOk P w K mg base CX k f fd ps sp ∧ Binds K fd ps ds
section
variable {X : Cx} {CX : CXT} {k : Nat} {E : XK} {m : Str} {pos apos : Pos} {e o : Expr} {es : List Expr} {ta : TE} {t : TA}
def tMtdD (P : Program) (w : World) (K : PySem.W.Frag) (mg : Str → Option Value) (base : Heap) (CX : CXT) (k : Nat) (m : Str) (E : XK) (ta : TE) (t : TA) : TE := fun σ H Q => ta σ H fun x H1 => ∃ a C dx fs ps sp, x = .ref a ∧ H1 a = some (.ins C dx fs) ∧ fs.lookup m = none ∧
  MtdOkD P w K mg base CX k C m ps [.none] sp ∧ t σ H1 fun vs H2 => sp (x :: vs ++ [.non]) H2 Q E
theorem pe_mtdD {pl : Sem Bool} (he : PE X o ta) (hr : Room k X.A) (hx : Passes CX X E) (ha : PA X (e :: es) t)
    (hst : starEach (e :: es) X.env = (false, eval e X.env) :: starEach es X.env := by rfl) (hpl : (backTo pos (starEach es X.env)).any (·.1) = false := by rfl)
    (ht : eval (.Call (.Attribute o m apos) (e :: es) [] pos) X.env = (do
      let ov ← eval o X.env
      standAt apos.atName
      let (f, first) ← holding [ov] (getMethod ov m pl)
      callWith pos f first (backTo pos (starEach (e :: es) X.env)) (backToKw pos (keywordEach [] X.env))) := by rfl) :
    PE X (.Call (.Attribute o m apos) (e :: es) [] pos) (tMtdD X.prog X.w X.K X.mg X.base CX k m E ta t) := by
  intro pins s σ H Q I h
  refine PySem.W.methodCall_KW (pl := pl) (thn (he pins s σ H _ I h) fun u s1 ⟨x, H1, I1, rx, a, C, dx, fs, ps, sp, ex, ea, l, M, q⟩ => ?_) ht
  subst ex
  obtain rfl : u = Value.ref a := rx
  obtain ⟨f, fd, c, hm, F, hb⟩ := M.ex
  refine getmeth_ok I1 ea c hm l ?_
  refine PySem.W.callWith_K (first := [.ref a]) (h₀ := X.base) I.ok.mod.kin hm.kp (thn (ha pos pins s1 σ H1 _ I1 q) fun us s2 ⟨vs, H2, I2, r, q2⟩ => ⟨I2.kIn, ?_⟩) hst hpl
  exact run_fn (us := .ref a :: us) (vs := .ref a :: vs) (dvs := [.non]) F hr hb (.cons rfl .nil) hx I2 (.cons rfl r) q2
end
theorem valV_drop {κ : Type} [DecidableEq κ] (k j : κ) : ∀ kvs : List (κ × V), valV (dropK kvs k) j = if j = k then none else valV kvs j
  | [] => by
    show none = _
    split <;> rfl
  | p :: r => by
    have ih := valV_drop k j r
    unfold dropK at ih ⊢
    rw [List.filter_cons]
    by_cases h : p.1 = k
    · rw [if_neg (by simp [h]), ih]
      by_cases e : j = k
      · rw [if_pos e, if_pos e]
      · rw [if_neg e, if_neg e, valV_neg (fun z => e (z.symm.trans h))]
    · rw [if_pos (by simp [h])]
      by_cases e : p.1 = j
      · rw [valV_pos e, valV_pos e, if_neg (fun z => h (e.trans z))]
      · rw [valV_neg e, valV_neg e, ih]
theorem valV_none {κ : Type} [DecidableEq κ] {k : κ} : ∀ {kvs : List (κ × V)}, k ∉ kvs.map (·.1) → valV kvs k = none
  | [], _ => rfl
  | p :: r, h => by
    rw [List.map_cons, List.mem_cons, not_or] at h
    rw [valV_neg (fun e => h.1 e.symm)]
    exact valV_none h.2
theorem valV_some {κ : Type} [DecidableEq κ] {k : κ} : ∀ {kvs : List (κ × V)}, k ∈ kvs.map (·.1) → ∃ v, valV kvs k = some v
  | p :: r, h => by
    by_cases e : p.1 = k
    · exact ⟨_, valV_pos e⟩
    · rw [valV_neg e]
      rw [List.map_cons, List.mem_cons] at h
      rcases h with h | h
      · exact absurd h.symm e
      · exact valV_some h
def tDPopN (td ty tx : TE) : TE := fun σ H Q => td σ H fun x H1 => ∃ a, x = .ref a ∧ IsD H1 a ∧ ty σ H1 fun y H2 => tx σ H2 fun z H3 => ∃ kvs k, H3 a = some (.dK kvs) ∧ y = kV k ∧ ∀ v, Q v (upd H3 a (.dK (dropK kvs k)))
def NmD (K : PySem.W.Frag) (H : Hp) (kvs : List (Key × V)) (F : Str → Option (Int × Int)) : Prop :=
  ∀ nm, (valV kvs (.inr nm) = none ∧ F nm = none) ∨ ∃ v q, valV kvs (.inr nm) = some v ∧ F nm = some q ∧ NmK K H v q
theorem NmD.same {K : PySem.W.Frag} {H H' : Hp} {kvs : List (Key × V)} {F : Str → Option (Int × Int)} (h : NmD K H kvs F) (s : Same H H') : NmD K H' kvs F := fun nm => by
  rcases h nm with h | ⟨v, q, h1, h2, h3⟩
  · exact .inl h
  · exact .inr ⟨v, q, h1, h2, h3.same s⟩
theorem NmD.nil {K : PySem.W.Frag} {H : Hp} : NmD K H [] (fun _ => none) := fun nm => .inl ⟨rfl, rfl⟩
theorem NmD.put {K : PySem.W.Frag} {H : Hp} {kvs : List (Key × V)} {F : Str → Option (Int × Int)} (h : NmD K H kvs F) {x : Str} {v : V} {q : Int × Int} (n : NmK K H v q) : NmD K H (putK kvs (.inr x) v) (fun nm => if nm = x then some q else F nm) := fun nm => by
  rw [valV_put]
  by_cases e : nm = x
  · subst e
    exact .inr ⟨v, q, by rw [if_pos rfl], by show (if nm = nm then some q else F nm) = some q; rw [if_pos rfl], n⟩
  · have e' : (Sum.inr nm : Key) ≠ .inr x := fun z => e (Sum.inr.inj z)
    show (_ ∧ (if nm = x then some q else F nm) = none) ∨ ∃ v' q', _ ∧ (if nm = x then some q else F nm) = some q' ∧ _
    rw [if_neg e', if_neg e]
    exact h nm
theorem NmD.drop {K : PySem.W.Frag} {H : Hp} {kvs : List (Key × V)} {F : Str → Option (Int × Int)} (h : NmD K H kvs F) (x : Str) : NmD K H (dropK kvs (.inr x)) (fun nm => if nm = x then none else F nm) := fun nm => by
  rw [valV_drop]
  by_cases e : nm = x
  · subst e
    exact .inl ⟨by rw [if_pos rfl], by show (if nm = nm then none else F nm) = none; rw [if_pos rfl]⟩
  · have e' : (Sum.inr nm : Key) ≠ .inr x := fun z => e (Sum.inr.inj z)
    show (_ ∧ (if nm = x then none else F nm) = none) ∨ ∃ v' q', _ ∧ (if nm = x then none else F nm) = some q' ∧ _
    rw [if_neg e', if_neg e]
    exact h nm
theorem NmD.dget {K : PySem.W.Frag} {H : Hp} {kvs : List (Key × V)} {G : Str → Option (Int × Int)} (h : NmD K H kvs G) {x : Str} {v : V} {q : Int × Int} (n : NmK K H v q) : NmK K H ((valV kvs (.inr x)).getD v) ((G x).getD q) := by
  rcases h x with ⟨h1, h2⟩ | ⟨u, q', h1, h2, h3⟩
  · rw [h1, h2]
    exact n
  · rw [h1, h2]
    exact h3
structure FrC (K : PySem.W.Frag) (C : Addr) : Prop where
  cls : Cls K C
  pl : NoAttr K C "pin_places"
  wy : NoAttr K C "pin_ways"
  br : NoAttr K C "bar_ends"
abbrev frF (pP pW pB : Addr) : List (Str × V) := [("pin_places", .ref pP), ("pin_ways", .ref pW), ("bar_ends", .ref pB)]
abbrev Pt := (Int × Int) × (Int × Int)
abbrev spotD (p : Pt) : List Da := [.t [.v (.int p.1.1), .v (.int p.1.2)], .t [.v (.int p.2.1), .v (.int p.2.2)]]
def SameT (H H' : Hp) : Prop := ∀ b xs, Rd H b (.tup xs) → Rd H' b (.tup xs)
theorem SameT.of {H H' : Hp} (s : Same H H') : SameT H H' := fun b xs e => by
  rcases e with e | ⟨o, e⟩
  · exact .inl (s _ _ e)
  · exact .inr ⟨o, s _ _ e⟩
theorem SameT.trans {H H1 H2 : Hp} (a : SameT H H1) (b : SameT H1 H2) : SameT H H2 := fun c xs e => b c xs (a c xs e)
theorem SameT.dict {H : Hp} {d : Addr} {kvs : List (Key × V)} {o : HO} (e : H d = some (.dK kvs)) : SameT H (upd H d o) := fun b xs r => by
  rcases r with r | ⟨o, r⟩
  · exact .inl (by rw [upd_ne (fun z => by rw [z, e] at r; cases r)]; exact r)
  · exact .inr ⟨o, by rw [upd_ne (fun z => by rw [z, e] at r; cases r)]; exact r⟩
theorem SameT.list {H : Hp} {d : Addr} {xs : List V} {o : HO} (e : H d = some (.lst xs)) : SameT H (upd H d o) := fun b xs r => by
  rcases r with r | ⟨o, r⟩
  · exact .inl (by rw [upd_ne (fun z => by rw [z, e] at r; cases r)]; exact r)
  · exact .inr ⟨o, by rw [upd_ne (fun z => by rw [z, e] at r; cases r)]; exact r⟩
theorem SameT.seqT {K : PySem.W.Frag} {H H' : Hp} (s : SameT H H') {p : Addr} {xs : List V} (q : SqT K H p xs) : SqT K H' p xs := by
  rcases q with q | q
  · exact .inl (s _ _ q)
  · exact .inr q
theorem NmK.sameT {K : PySem.W.Frag} {H H' : Hp} {v : V} {q : Int × Int} (h : NmK K H v q) (s : SameT H H') : NmK K H' v q := by
  obtain ⟨p, e, k⟩ := h
  exact ⟨p, e, s.seqT k⟩
theorem NmD.sameT {K : PySem.W.Frag} {H H' : Hp} {kvs : List (Key × V)} {F : Str → Option (Int × Int)} (h : NmD K H kvs F) (s : SameT H H') : NmD K H' kvs F := fun nm => by
  rcases h nm with h | ⟨v, q, h1, h2, h3⟩
  · exact .inl h
  · exact .inr ⟨v, q, h1, h2, h3.sameT s⟩
def Spot (K : PySem.W.Frag) (H : Hp) (v : V) (p : Pt) : Prop := ∃ a u1 u2, v = .ref a ∧ SqT K H a [u1, u2] ∧ NmK K H u1 p.1 ∧ NmK K H u2 p.2
theorem Spot.sameT {K : PySem.W.Frag} {H H' : Hp} {v : V} {p : Pt} (h : Spot K H v p) (s : SameT H H') : Spot K H' v p := by
  obtain ⟨a, u1, u2, e, h1, h2, h3⟩ := h
  exact ⟨a, u1, u2, e, s.seqT h1, h2.sameT s, h3.sameT s⟩
theorem is_numF {K : PySem.W.Frag} {H : Hp} {v : V} {q : Int × Int} (h : NmK K H v q) : Is K H (.t [.v (.int q.1), .v (.int q.2)]) v := by
  obtain ⟨p, rfl, e⟩ := h
  unfold Is
  refine ⟨p, _, rfl, e, ?_⟩
  unfold Iss
  refine ⟨by unfold Is; exact ⟨rfl, rfl⟩, ?_⟩
  unfold Iss
  refine ⟨by unfold Is; exact ⟨rfl, rfl⟩, ?_⟩
  unfold Iss
  trivial
theorem Spot.is {K : PySem.W.Frag} {H : Hp} {v : V} {p : Pt} (h : Spot K H v p) : Is K H (.t (spotD p)) v := by
  obtain ⟨a, u1, u2, rfl, h1, h2, h3⟩ := h
  unfold Is
  refine ⟨a, _, rfl, h1, ?_⟩
  unfold Iss
  refine ⟨is_numF h2, ?_⟩
  unfold Iss
  refine ⟨is_numF h3, ?_⟩
  unfold Iss
  trivial
theorem eq_spots (p q : Pt) : eqDas (spotD p) (spotD q) = decide (p = q) := by
  have e : eqDas (spotD p) (spotD q) = ((p.1.1 == q.1.1 && (p.1.2 == q.1.2 && true)) && ((p.2.1 == q.2.1 && (p.2.2 == q.2.2 && true)) && true)) := by
    simp only [spotD, eqDas, eqDa, eqV]
  rw [e]
  obtain ⟨⟨a, b⟩, c, d⟩ := p
  obtain ⟨⟨a', b'⟩, c', d'⟩ := q
  by_cases h : a = a' <;> by_cases h1 : b = b' <;> by_cases h2 : c = c' <;> by_cases h3 : d = d' <;> simp [h, h1, h2, h3, Prod.mk.injEq]
theorem alike_spots (p q : Pt) : alikes (spotD p) (spotD q) = true := by simp [spotD, alikes, alike]
theorem dep_spots (p : Pt) : deps (spotD p) ≤ 60 := by simp [spotD, deps, dep]
structure FrR (K : PySem.W.Frag) (H : Hp) (C a dx pP pW pB : Addr) (ps : List (Str × Pt)) (bs : List (Str × Str × Str)) (kP kW kB : List (Key × V)) : Prop where
  obj : H a = some (.ins C dx (frF pP pW pB))
  pl : H pP = some (.dK kP)
  wy : H pW = some (.dK kW)
  br : H pB = some (.dK kB)
  ne1 : pP ≠ pW
  ne2 : pP ≠ pB
  ne3 : pW ≠ pB
  rp : Paired (fun (p : Str × Pt) (kv : Key × V) => kv.1 = .inr p.1 ∧ Spot K H kv.2 p.2) ps kP
  rb : Paired (fun (b : Str × Str × Str) (kv : Key × V) => kv.1 = .inr b.1 ∧ ∃ p, kv.2 = .ref p ∧ Rd H p (.tup [.str b.2.1, .str b.2.2])) bs kB
section
variable {K : PySem.W.Frag} {H H' : Hp} {C a dx pP pW pB : Addr} {ps : List (Str × Pt)} {bs : List (Str × Str × Str)} {kP kW kB : List (Key × V)}
theorem paired_keys {α : Type} {R : (Str × α) → (Key × V) → Prop} : ∀ {l : List (Str × α)} {kvs : List (Key × V)}, Paired (fun b kv => kv.1 = .inr b.1 ∧ R b kv) l kvs → kvs.map (·.1) = l.map (fun b => (Sum.inr b.1 : Key))
  | _, _, .nil => rfl
  | _, _, .cons h t => by rw [List.map_cons, List.map_cons, h.1, paired_keys t]
theorem key_mem {l : List Str} {x : Str} : (Sum.inr x : Key) ∈ l.map (fun b => (Sum.inr b : Key)) ↔ x ∈ l := by
  constructor
  · intro h
    obtain ⟨y, hy, e⟩ := List.mem_map.mp h
    exact Sum.inr.inj e ▸ hy
  · exact fun h => List.mem_map.mpr ⟨x, h, rfl⟩
theorem FrR.sameT_of (R : FrR K H C a dx pP pW pB ps bs kP kW kB) (s : SameT H H') (h1 : H' a = H a) (h2 : H' pP = H pP) (h3 : H' pW = H pW) (h4 : H' pB = H pB) : FrR K H' C a dx pP pW pB ps bs kP kW kB :=
  ⟨h1.trans R.obj, h2.trans R.pl, h3.trans R.wy, h4.trans R.br, R.ne1, R.ne2, R.ne3, Paired.mapP R.rp fun _ _ h => ⟨h.1, h.2.sameT s⟩, Paired.mapP R.rb fun _ _ h => ⟨h.1, by obtain ⟨p, e, k⟩ := h.2; exact ⟨p, e, s _ _ k⟩⟩⟩
theorem FrR.same (R : FrR K H C a dx pP pW pB ps bs kP kW kB) (s : Same H H') : FrR K H' C a dx pP pW pB ps bs kP kW kB :=
  R.sameT_of (.of s) ((s _ _ R.obj).trans R.obj.symm) ((s _ _ R.pl).trans R.pl.symm) ((s _ _ R.wy).trans R.wy.symm) ((s _ _ R.br).trans R.br.symm)
theorem FrR.keysB (R : FrR K H C a dx pP pW pB ps bs kP kW kB) : kB.map (·.1) = (bs.map (·.1)).map (fun b => (Sum.inr b : Key)) := by
  rw [paired_keys R.rb, List.map_map]
  rfl
theorem FrR.keysP (R : FrR K H C a dx pP pW pB ps bs kP kW kB) : kP.map (·.1) = (ps.map (·.1)).map (fun b => (Sum.inr b : Key)) := by
  rw [paired_keys R.rp, List.map_map]
  rfl
theorem FrR.bar (R : FrR K H C a dx pP pW pB ps bs kP kW kB) (x : Str) : (valV kB (.inr x)).isSome = decide (x ∈ bs.map (·.1)) := by
  by_cases h : x ∈ bs.map (·.1)
  · obtain ⟨v, e⟩ := valV_some (kvs := kB) (k := .inr x) (by rw [R.keysB]; exact key_mem.mpr h)
    rw [e, decide_eq_true h]
    rfl
  · rw [valV_none (by rw [R.keysB]; exact fun z => h (key_mem.mp z)), decide_eq_false h]
    rfl
theorem FrR.pin (R : FrR K H C a dx pP pW pB ps bs kP kW kB) (x : Str) : (valV kP (.inr x)).isSome = decide (x ∈ ps.map (·.1)) := by
  by_cases h : x ∈ ps.map (·.1)
  · obtain ⟨v, e⟩ := valV_some (kvs := kP) (k := .inr x) (by rw [R.keysP]; exact key_mem.mpr h)
    rw [e, decide_eq_true h]
    rfl
  · rw [valV_none (by rw [R.keysP]; exact fun z => h (key_mem.mp z)), decide_eq_false h]
    rfl
theorem FrR.ab (R : FrR K H C a dx pP pW pB ps bs kP kW kB) : a ≠ pP ∧ a ≠ pW ∧ a ≠ pB :=
  ⟨fun z => (by have h := R.obj; rw [z, R.pl] at h; cases h), fun z => (by have h := R.obj; rw [z, R.wy] at h; cases h), fun z => (by have h := R.obj; rw [z, R.br] at h; cases h)⟩
theorem paired_drop {α : Type} {R : (Str × α) → (Key × V) → Prop} (x : Str) : ∀ {l : List (Str × α)} {kvs : List (Key × V)}, Paired (fun b kv => kv.1 = .inr b.1 ∧ R b kv) l kvs → Paired (fun b kv => kv.1 = .inr b.1 ∧ R b kv) (l.filter fun b => decide (b.1 ≠ x)) (dropK kvs (.inr x))
  | _, _, .nil => .nil
  | b :: _, kv :: _, .cons h t => by
    unfold dropK
    rw [List.filter_cons, List.filter_cons]
    have ih := paired_drop x t
    unfold dropK at ih
    by_cases e : b.1 = x
    · have e' : kv.1 = .inr x := by rw [h.1, e]
      rw [if_neg (by simp [e]), if_neg (by simp [e'])]
      exact ih
    · have e' : ¬ kv.1 = .inr x := fun z => e (Sum.inr.inj (h.1.symm.trans z))
      rw [if_pos (by simp [e]), if_pos (by simp [e'])]
      exact .cons h ih
theorem paired_flip {α β : Type} {R : α → β → Prop} : ∀ {l : List α} {m : List β}, Paired R l m → Paired (fun b a => R a b) m l
  | _, _, .nil => .nil
  | _, _, .cons h t => .cons h (paired_flip t)
theorem FrR.putPin (R : FrR K H C a dx pP pW pB ps bs kP kW kB) {x : Str} {p : Pt} {t : Addr} (ht : Spot K H (.ref t) p) :
    FrR K (upd H pP (.dK (kP ++ [(.inr x, .ref t)]))) C a dx pP pW pB (ps ++ [(x, p)]) bs (kP ++ [(.inr x, .ref t)]) kW kB := by
  have s : SameT H (upd H pP (.dK (kP ++ [(.inr x, .ref t)]))) := .dict R.pl
  exact ⟨by rw [upd_ne R.ab.1]; exact R.obj, upd_same, by rw [upd_ne (Ne.symm R.ne1)]; exact R.wy, by rw [upd_ne (Ne.symm R.ne2)]; exact R.br, R.ne1, R.ne2, R.ne3,
    Paired.snoc (Paired.mapP R.rp fun _ _ h => ⟨h.1, h.2.sameT s⟩) ⟨rfl, ht.sameT s⟩, Paired.mapP R.rb fun _ _ h => ⟨h.1, by obtain ⟨p, e, k⟩ := h.2; exact ⟨p, e, s _ _ k⟩⟩⟩
theorem FrR.putWays (R : FrR K H C a dx pP pW pB ps bs kP kW kB) (kW' : List (Key × V)) : FrR K (upd H pW (.dK kW')) C a dx pP pW pB ps bs kP kW' kB := by
  have s : SameT H (upd H pW (.dK kW')) := .dict R.wy
  exact ⟨by rw [upd_ne R.ab.2.1]; exact R.obj, by rw [upd_ne R.ne1]; exact R.pl, upd_same, by rw [upd_ne (Ne.symm R.ne3)]; exact R.br, R.ne1, R.ne2, R.ne3,
    Paired.mapP R.rp fun _ _ h => ⟨h.1, h.2.sameT s⟩, Paired.mapP R.rb fun _ _ h => ⟨h.1, by obtain ⟨p, e, k⟩ := h.2; exact ⟨p, e, s _ _ k⟩⟩⟩
theorem flat_strs (xs : List Str) : (xs.map V.str).all flatV = true := by
  rw [List.all_map, List.all_eq_true]
  exact fun _ _ => rfl
theorem inV_strs {x : Str} : ∀ (xs : List Str), inV (.str x) (xs.map V.str) = decide (x ∈ xs)
  | [] => rfl
  | y :: ys => by
    have ih := inV_strs (x := x) ys
    unfold inV at ih ⊢
    rw [List.map_cons, List.any_cons, ih]
    by_cases e : y = x
    · subst e
      simp [eqV]
    · have e' : ¬ x = y := fun z => e z.symm
      simp [eqV, e, e']
end
end Ty

set_option maxHeartbeats 4000000
namespace Ty
open PySem PySem.Spec PyProof.Rows L2
open Builtin.Int (intBits)
def qr (r : Rat) : Int × Int := (r.num, (r.den : Int))
theorem qr_pos (r : Rat) : 0 < (qr r).2 := by
  have := r.den_pos
  show (0 : Int) < (r.den : Int)
  omega
theorem qr_gcd (r : Rat) : Int.gcd (qr r).1 (qr r).2 = 1 := by
  have := r.reduced
  show Int.gcd r.num (r.den : Int) = 1
  unfold Int.gcd
  simpa [Nat.Coprime] using this
theorem vl_qr (r : Rat) : vl (qr r) = r := by
  show (r.num : Rat) / ((r.den : Int) : Rat) = r
  rw [← Rat.divInt_eq_div]
  exact Rat.num_divInt_den r
theorem qr_of {q : Int × Int} (h : 0 < q.2) (g : Int.gcd q.1 q.2 = 1) : q = qr (vl q) := vl_inj h (qr_pos _) g (qr_gcd _) (vl_qr _).symm
theorem low_qr {t b : Int} (h : b ≠ 0) : low t b = qr ((t : Rat) / (b : Rat)) := by
  rw [← vl_low h]
  exact qr_of (low_pos h) (low_gcd h)
theorem qr_inj {a b : Rat} (h : qr a = qr b) : a = b := by
  rw [← vl_qr a, ← vl_qr b, h]
theorem qr_int (i : Int) : qr (i : Rat) = (i, 1) := by
  have e : (i, (1 : Int)) = qr (vl (i, 1)) := qr_of (by show (0 : Int) < 1; decide) (by show Int.gcd i 1 = 1; simp)
  have v : vl (i, (1 : Int)) = (i : Rat) := by
    unfold vl
    show (i : Rat) / ((1 : Int) : Rat) = i
    have : ((1 : Int) : Rat) = 1 := by rfl
    rw [this]
    grind
  rw [e, v]
theorem qr_neg (r : Rat) : qr (-r) = (-(qr r).1, (qr r).2) := by
  have e : ((-(qr r).1, (qr r).2) : Int × Int) = qr (vl (-(qr r).1, (qr r).2)) := qr_of (qr_pos r) (by
    have := qr_gcd r
    show Int.gcd (-(qr r).1) (qr r).2 = 1
    rw [Int.neg_gcd]
    exact this)
  have v : vl (-(qr r).1, (qr r).2) = -r := by
    have h := vl_qr r
    unfold vl at h ⊢
    push_cast
    rw [← h]
    grind
  rw [e, v]
theorem ratz {r : Rat} : ((qr r).2 : Rat) ≠ 0 := ratne (Int.ne_of_gt (qr_pos r))
theorem qr_sub (a b : Rat) : low ((qr a).1 * (qr b).2 - (qr b).1 * (qr a).2) ((qr a).2 * (qr b).2) = qr (a - b) := by
  have ha := qr_pos a
  have hb := qr_pos b
  rw [low_qr (Int.ne_of_gt (Int.mul_pos ha hb))]
  have e1 := vl_qr a
  have e2 := vl_qr b
  have z1 := ratz (r := a)
  have z2 := ratz (r := b)
  unfold vl at e1 e2
  congr 1
  push_cast
  grind
theorem qr_mul (a b : Rat) : low ((qr a).1 * (qr b).1) ((qr a).2 * (qr b).2) = qr (a * b) := by
  have ha := qr_pos a
  have hb := qr_pos b
  rw [low_qr (Int.ne_of_gt (Int.mul_pos ha hb))]
  have e1 := vl_qr a
  have e2 := vl_qr b
  have z1 := ratz (r := a)
  have z2 := ratz (r := b)
  unfold vl at e1 e2
  congr 1
  push_cast
  grind
structure Sz (k : Nat) (r : Rat) : Prop where
  top : intBits (qr r).1 ≤ k
  bot : intBits (qr r).2 ≤ k
theorem Sz.up {k l : Nat} {r : Rat} (h : Sz k r) (kl : k ≤ l) : Sz l r := ⟨Nat.le_trans h.top kl, Nat.le_trans h.bot kl⟩
theorem bits_addF {a b : Int} {k : Nat} (ha : intBits a ≤ k) (hb : intBits b ≤ k) : intBits (a + b) ≤ k + 1 := by
  rw [intBits_le_iff] at ha hb ⊢
  have := Int.natAbs_add_le a b
  rw [Nat.pow_succ]
  omega
theorem bits_subF {a b : Int} {k : Nat} (ha : intBits a ≤ k) (hb : intBits b ≤ k) : intBits (a - b) ≤ k + 1 := by
  rw [intBits_le_iff] at ha hb ⊢
  have := Int.natAbs_sub_le a b
  rw [Nat.pow_succ]
  omega
theorem sz_low {t b : Int} {k : Nat} (hb : b ≠ 0) (h1 : intBits t ≤ k) (h2 : intBits b ≤ k) : Sz k ((t : Rat) / (b : Rat)) := by
  rw [← vl_low hb]
  have e := qr_of (low_pos (t := t) hb) (low_gcd hb)
  exact ⟨by rw [← e]; exact intBits_le_of_natAbs (low_top_le hb) h1, by rw [← e]; exact intBits_le_of_natAbs (low_bot_le hb) h2⟩
theorem sz_of {t b : Int} {k : Nat} {r : Rat} (hb : b ≠ 0) (e : low t b = qr r) (h1 : intBits t ≤ k) (h2 : intBits b ≤ k) : Sz k r := by
  have z := low_qr (t := t) hb
  rw [z] at e
  have := qr_inj e
  rw [← this]
  exact sz_low hb h1 h2
theorem Sz.sub {k l : Nat} {a b : Rat} (ha : Sz k a) (hb : Sz l b) : Sz (k + l + 1) (a - b) :=
  sz_of (Int.ne_of_gt (Int.mul_pos (qr_pos a) (qr_pos b))) (qr_sub a b) (bits_subF (intBits_mul_le ha.top hb.bot) (by rw [Nat.add_comm]; exact intBits_mul_le hb.top ha.bot)) (Nat.le_succ_of_le (intBits_mul_le ha.bot hb.bot))
theorem Sz.mul {k l : Nat} {a b : Rat} (ha : Sz k a) (hb : Sz l b) : Sz (k + l) (a * b) :=
  sz_of (Int.ne_of_gt (Int.mul_pos (qr_pos a) (qr_pos b))) (qr_mul a b) (intBits_mul_le ha.top hb.top) (intBits_mul_le ha.bot hb.bot)
theorem Sz.neg {k : Nat} {a : Rat} (ha : Sz k a) : Sz k (-a) := by
  refine ⟨?_, ?_⟩
  · rw [qr_neg]
    have := ha.top
    rw [intBits_le_iff] at this ⊢
    show (-(qr a).1).natAbs < 2 ^ k
    rw [Int.natAbs_neg]
    exact this
  · rw [qr_neg]
    exact ha.bot
def NmR (K : PySem.W.Frag) (H : Hp) (v : V) (r : Rat) : Prop := NmK K H v (qr r)
def PtR (K : PySem.W.Frag) (H : Hp) (v : V) (p : Rat × Rat) : Prop := ∃ a u1 u2, v = .ref a ∧ SqT K H a [u1, u2] ∧ NmR K H u1 p.1 ∧ NmR K H u2 p.2
section
variable {K : PySem.W.Frag} {H H' : Hp} {v : V} {r : Rat} {p : Rat × Rat}
theorem NmR.sameT (h : NmR K H v r) (s : SameT H H') : NmR K H' v r := NmK.sameT h s
theorem NmR.same (h : NmR K H v r) (s : Same H H') : NmR K H' v r := NmK.same h s
theorem PtR.sameT (h : PtR K H v p) (s : SameT H H') : PtR K H' v p := by
  obtain ⟨a, u1, u2, e, h1, h2, h3⟩ := h
  exact ⟨a, u1, u2, e, s.seqT h1, h2.sameT s, h3.sameT s⟩
theorem PtR.same (h : PtR K H v p) (s : Same H H') : PtR K H' v p := h.sameT (.of s)
abbrev ptQ (p : Rat × Rat) : Pt := (qr p.1, qr p.2)
theorem PtR.spot (h : PtR K H v p) : Spot K H v (ptQ p) := h
def PtsR (K : PySem.W.Frag) (H : Hp) (us : List V) (ps : List (Rat × Rat)) : Prop := Paired (PtR K H) us ps
theorem PtsR.sameT {us : List V} {ps : List (Rat × Rat)} (h : PtsR K H us ps) (s : SameT H H') : PtsR K H' us ps := Paired.mapP h fun _ _ z => z.sameT s
theorem PtsR.same {us : List V} {ps : List (Rat × Rat)} (h : PtsR K H us ps) (s : Same H H') : PtsR K H' us ps := h.sameT (.of s)
end
section
variable {X : Cx}
def rInPt (K : PySem.W.Frag) (neg : Bool) : R2 := fun x y H Q => ∃ p l us ps, y = .ref l ∧ SqL K H l us ∧ PtR K H x p ∧ PtsR K H us ps ∧ Q (.bl (if neg then !decide (p ∈ ps) else decide (p ∈ ps))) H
end
end Ty

set_option maxHeartbeats 4000000
namespace Ty
open PySem PySem.Spec PyProof.Rows L2
theorem paired_val {α : Type} {R : (Str × α) → (Key × V) → Prop} {x : Str} {y : α} : ∀ {l : List (Str × α)} {kvs : List (Key × V)}, Paired (fun b kv => kv.1 = .inr b.1 ∧ R b kv) l kvs → (l.map (·.1)).Nodup → (x, y) ∈ l → ∃ v, valV kvs (.inr x) = some v ∧ R (x, y) (.inr x, v)
  | _ :: _, kv :: _, .cons h t, nd, m => by
    rw [List.map_cons, List.nodup_cons] at nd
    rcases List.mem_cons.mp m with e | m
    · subst e
      have h1 : kv.1 = .inr x := h.1
      refine ⟨kv.2, valV_pos h1, ?_⟩
      have h2 := h.2
      rw [← h1]
      exact h2
    · obtain ⟨v, e, r⟩ := paired_val t nd.2 m
      refine ⟨v, ?_, r⟩
      rw [valV_neg (fun z => ?_)]
      · exact e
      · rw [h.1] at z
        exact nd.1 (Sum.inr.inj z ▸ List.mem_map.mpr ⟨_, m, rfl⟩)
def WyR (K : PySem.W.Frag) (H : Hp) (pw : List (Str × List (Rat × Rat))) (kW : List (Key × V)) : Prop :=
  Paired (fun (p : Str × List (Rat × Rat)) (kv : Key × V) => kv.1 = .inr p.1 ∧ ∃ l us, kv.2 = .ref l ∧ H l = some (.lst us) ∧ PtsR K H us p.2) pw kW
theorem WyR.same {K : PySem.W.Frag} {H H' : Hp} {pw : List (Str × List (Rat × Rat))} {kW : List (Key × V)} (h : WyR K H pw kW) (s : Same H H') : WyR K H' pw kW :=
  Paired.mapP h fun _ _ z => ⟨z.1, by obtain ⟨l, us, e1, e2, e3⟩ := z.2; exact ⟨l, us, e1, s _ _ e2, e3.same s⟩⟩
theorem WyR.dict {K : PySem.W.Frag} {H : Hp} {pw : List (Str × List (Rat × Rat))} {kW kvs : List (Key × V)} {d : Addr} {o : HO} (h : WyR K H pw kW) (e : H d = some (.dK kvs)) : WyR K (upd H d o) pw kW :=
  Paired.mapP h fun _ _ z => ⟨z.1, by
    obtain ⟨l, us, e1, e2, e3⟩ := z.2
    exact ⟨l, us, e1, by rw [upd_ne (fun q => by rw [q, e] at e2; cases e2)]; exact e2, e3.sameT (.dict e)⟩⟩
theorem WyR.keys {K : PySem.W.Frag} {H : Hp} {pw : List (Str × List (Rat × Rat))} {kW : List (Key × V)} (h : WyR K H pw kW) : kW.map (·.1) = (pw.map (·.1)).map (fun b => (Sum.inr b : Key)) := by
  rw [paired_keys h, List.map_map]
  rfl
theorem FrR.ends {K : PySem.W.Frag} {H : Hp} {C a dx pP pW pB : Addr} {ps : List (Str × Pt)} {bs : List (Str × Str × Str)} {kP kW kB : List (Key × V)} (R : FrR K H C a dx pP pW pB ps bs kP kW kB) (nd : (bs.map (·.1)).Nodup) {x one other : Str} (m : (x, one, other) ∈ bs) :
    ∃ p, valV kB (.inr x) = some (.ref p) ∧ Rd H p (.tup [.str one, .str other]) := by
  obtain ⟨v, e, p, ep, r⟩ := paired_val R.rb nd m
  have ep' : v = .ref p := ep
  exact ⟨p, by rw [e, ep'], r⟩
theorem FrR.place {K : PySem.W.Frag} {H : Hp} {C a dx pP pW pB : Addr} {ps : List (Str × Pt)} {bs : List (Str × Str × Str)} {kP kW kB : List (Key × V)} (R : FrR K H C a dx pP pW pB ps bs kP kW kB) (nd : (ps.map (·.1)).Nodup) {x : Str} {p : Pt} (m : (x, p) ∈ ps) :
    ∃ v, valV kP (.inr x) = some v ∧ Spot K H v p := paired_val R.rp nd m
end Ty
namespace Ty
open PySem PySem.Spec PyProof.Rows L2
structure PinD where
  nm : Str
  sp : Rat × Rat
  ws : List (Rat × Rat)
structure BarD where
  nm : Str
  one : PinD
  other : PinD
structure FrA (K : PySem.W.Frag) (H : Hp) (C a : Addr) (pins : List PinD) (bars : List BarD) : Prop where
  ex : ∃ (dx pP pW pB : Addr) (kP kW kB : List (Key × V)), FrR K H C a dx pP pW pB (pins.map fun p => (p.nm, ptQ p.sp)) (bars.map fun b => (b.nm, b.one.nm, b.other.nm)) kP kW kB ∧ WyR K H (pins.map fun p => (p.nm, p.ws)) kW
structure GoodF (pins : List PinD) (bars : List BarD) : Prop where
  np : (pins.map (·.nm)).Nodup
  nb : (bars.map (·.nm)).Nodup
  ends : ∀ b ∈ bars, b.one ∈ pins ∧ b.other ∈ pins ∧ b.one.nm ≠ b.other.nm
  sz : ∀ p ∈ pins, Sz 50 p.sp.1 ∧ Sz 50 p.sp.2 ∧ ∀ w ∈ p.ws, Sz 50 w.1 ∧ Sz 50 w.2
  lp : pins.length ≤ 6
  lb : bars.length ≤ 8
  lw : ∀ p ∈ pins, p.ws.length ≤ 2
theorem FrA.same {K : PySem.W.Frag} {H H' : Hp} {C a : Addr} {pins : List PinD} {bars : List BarD} (h : FrA K H C a pins bars) (s : Same H H') : FrA K H' C a pins bars := by
  obtain ⟨dx, pP, pW, pB, kP, kW, kB, R, W⟩ := h.ex
  exact ⟨dx, pP, pW, pB, kP, kW, kB, R.same s, W.same s⟩
def PtD (K : PySem.W.Frag) (H : Hp) (kvs : List (Key × V)) (F : Str → Option (Rat × Rat)) : Prop :=
  ∀ nm, (valV kvs (.inr nm) = none ∧ F nm = none) ∨ ∃ v p, valV kvs (.inr nm) = some v ∧ F nm = some p ∧ PtR K H v p
def RtD (K : PySem.W.Frag) (H : Hp) (kvs : List (Key × V)) (F : Str → Option Rat) : Prop :=
  ∀ nm, (valV kvs (.inr nm) = none ∧ F nm = none) ∨ ∃ v p, valV kvs (.inr nm) = some v ∧ F nm = some p ∧ NmR K H v p
def LtD (K : PySem.W.Frag) (H : Hp) (kvs : List (Key × V)) (F : Str → Option (List Rat)) : Prop :=
  ∀ nm, (valV kvs (.inr nm) = none ∧ F nm = none) ∨ ∃ l us rs, valV kvs (.inr nm) = some (.ref l) ∧ F nm = some rs ∧ H l = some (.lst us) ∧ Paired (NmR K H) us rs
section
variable {K : PySem.W.Frag} {H H' : Hp} {kvs : List (Key × V)}
theorem PtD.same {F : Str → Option (Rat × Rat)} (h : PtD K H kvs F) (s : Same H H') : PtD K H' kvs F := fun nm => by
  rcases h nm with h | ⟨v, q, h1, h2, h3⟩
  · exact .inl h
  · exact .inr ⟨v, q, h1, h2, h3.same s⟩
theorem RtD.same {F : Str → Option Rat} (h : RtD K H kvs F) (s : Same H H') : RtD K H' kvs F := fun nm => by
  rcases h nm with h | ⟨v, q, h1, h2, h3⟩
  · exact .inl h
  · exact .inr ⟨v, q, h1, h2, h3.same s⟩
theorem LtD.same {F : Str → Option (List Rat)} (h : LtD K H kvs F) (s : Same H H') : LtD K H' kvs F := fun nm => by
  rcases h nm with h | ⟨l, us, q, h1, h2, h3, h4⟩
  · exact .inl h
  · exact .inr ⟨l, us, q, h1, h2, s _ _ h3, Paired.mapP h4 fun _ _ z => z.same s⟩
theorem PtD.dget {F : Str → Option (Rat × Rat)} (h : PtD K H kvs F) {x : Str} {v : V} {q : Rat × Rat} (n : PtR K H v q) : PtR K H ((valV kvs (.inr x)).getD v) ((F x).getD q) := by
  rcases h x with ⟨h1, h2⟩ | ⟨u, q', h1, h2, h3⟩
  · rw [h1, h2]
    exact n
  · rw [h1, h2]
    exact h3
theorem RtD.dget {F : Str → Option Rat} (h : RtD K H kvs F) {x : Str} {v : V} {q : Rat} (n : NmR K H v q) : NmR K H ((valV kvs (.inr x)).getD v) ((F x).getD q) := by
  rcases h x with ⟨h1, h2⟩ | ⟨u, q', h1, h2, h3⟩
  · rw [h1, h2]
    exact n
  · rw [h1, h2]
    exact h3
end
end Ty
namespace Ty
open PySem PySem.Spec PyProof.Rows L2
end Ty
namespace Ty
open PySem PySem.Spec PyProof.Rows L2
theorem nm_inj {α : Type} {nm : α → Str} {l : List α} (nd : (l.map nm).Nodup) {b b' : α} (h : b ∈ l) (h' : b' ∈ l) (e : nm b = nm b') : b = b' := by
  obtain ⟨i, hi, ei⟩ := List.mem_iff_getElem.mp h
  obtain ⟨j, hj, ej⟩ := List.mem_iff_getElem.mp h'
  have q1 : (l.map nm)[i]? = some (nm b) := by rw [List.getElem?_map, List.getElem?_eq_getElem hi, ei]; rfl
  have q2 : (l.map nm)[j]? = some (nm b) := by rw [List.getElem?_map, List.getElem?_eq_getElem hj, ej, e]; rfl
  have ij := (List.getElem?_inj (by rw [List.length_map]; exact hi) nd).mp (q1.trans q2.symm)
  subst ij
  rw [← ei, ← ej]
theorem take_snoc {α : Type} {l : List α} {i : Nat} {b : α} (h : l[i]? = some b) : l.take (i + 1) = l.take i ++ [b] := by rw [List.take_add_one, h]; rfl
end Ty
namespace Ty
open PySem PySem.Spec PyProof.Rows L2
end Ty

set_option maxHeartbeats 4000000
namespace Ty
open PySem PySem.Spec PyProof.Rows L2
theorem none_back {H H' : Hp} (s : Same H H') {p : Addr} (n : H' p = none) : H p = none := by
  cases e : H p with
  | none => rfl
  | some o => rw [s _ _ e] at n; cases n
theorem nodup_range_map {α : Type} {f : Nat → α} {n : Nat} (h : ∀ i j, i < n → j < n → f i = f j → i = j) : ((List.range n).map f).Nodup := by
  unfold List.Nodup
  rw [List.pairwise_map]
  refine List.Pairwise.imp_of_mem ?_ (List.nodup_range (n := n))
  intro a b ha hb hne e
  exact hne (h a b (List.mem_range.mp ha) (List.mem_range.mp hb) e)
theorem list_of_rel {α : Type} {f : Nat → α} {n : Nat} {ys : List α} (hl : ys.length = n) (h : ∀ i v, ys[i]? = some v → v = f i) : ys = (List.range n).map f := by
  refine List.ext_getElem? fun i => ?_
  by_cases hi : i < n
  · have e : ys[i]? = some ys[i] := List.getElem?_eq_getElem (by omega)
    rw [e, h i _ e, List.getElem?_map, List.getElem?_range hi]
    rfl
  · rw [List.getElem?_eq_none (by omega), List.getElem?_eq_none (by simp; omega)]
theorem foldl_size (a : Array Nat) : ∀ (n : Nat) (acc : Array Nat), ((List.replicate n a).foldl (· ++ ·) acc).size = acc.size + n * a.size
  | 0, acc => by simp
  | n + 1, acc => by
    rw [List.replicate_succ, List.foldl_cons, foldl_size a n, Array.size_append, Nat.succ_mul]
    omega
theorem mul_len {x : Str} {n : Nat} (h : x.length = 1) : (Txt.mul x (n : Int)).length = n := by
  unfold Txt.mul
  have hs : x.cps.size = 1 := h
  by_cases h0 : (n : Int) < 1
  · rw [if_pos h0]
    have : n = 0 := by omega
    subst this
    rfl
  rw [if_neg h0]
  by_cases h1 : ((n : Int) == 1 || x.length == 0) = true
  · rw [if_pos h1]
    rw [h] at h1 ⊢
    have : (n : Int) = 1 := by simpa using h1
    omega
  · rw [if_neg h1]
    show ((List.replicate (n : Int).toNat x.cps).foldl (· ++ ·) #[]).size = n
    rw [foldl_size, hs]
    simp
theorem mulOk1 {x : Str} {n : Nat} (h : x.length = 1) (hn : n < 20) : MulOk x (n : Int) := by
  unfold MulOk
  rw [h]
  revert n
  decide +kernel
end Ty
namespace Ty
open PySem PySem.Spec PyProof.Rows L2
section
variable {X : Cx}
def rTupL (K : PySem.W.Frag) : List V → Hp → VK → Prop := fun xs H Q => ∃ (p : Addr) (ys : List V), xs = [.ref p] ∧ SqL K H p ys ∧ ∀ t, H t = none → Q (.ref t) (upd H t (.tup ys))
end
section
variable {D : Addr} {te : TE} {cap : L2.St} {H1 : Hp} {Q : VK}
end
end Ty

set_option maxHeartbeats 4000000
namespace Ty
open PySem PySem.Spec PyProof.Rows L2
abbrev IsZipB (h : Heap) (z TI TO : Addr) (f0 : Value) (fb : Bool) : Prop :=
  h.get? z = some { cls := .type "zip", dict := none, data := .fields #[f0, .bool fb, .bool false, .ref TI, .ref TO], slots := #[] }
section
variable {prog : Program} {w : World} {A : Around} {E : Value → Shared → Prop} {s : Shared}
theorem wpAny_alive {a : Addr} {o : Obj} {Q : Option Obj → Shared → Prop} (h : s.heap.get? a = some o) (q : Q (some o) s) : wpAny (model prog w) A (loadIfAlive a) Q E s := fun Γ p _ => by
  show Sem.wp _ _ (.loadIfAlive a .pure) _ _ _ _
  rw [Sem.wp_loadIfAlive, h]
  exact q
theorem not_free {z TI TO T : Addr} {fb : Bool} {o : Obj} {Q : Bool → Shared → Prop} (hz : IsZipB s.heap z TI TO (rawInt T) fb) (hT : s.heap.get? T = some o)
    (hQ : ∀ h', IsZipB h' z TI TO (rawInt T) true → Heap.SameBut z s.heap h' → Q false { s with heap := h' }) : wpAny (model prog w) A (Builtin.SmallTypes.ownedTupleIsFree (.ref z)) Q E s := by
  unfold Builtin.SmallTypes.ownedTupleIsFree
  refine wpAny_bind (wpAny_field hz rfl (x := rawInt T) rfl ?_)
  show wpAny _ _ (loadIfAlive ((T : Int)).toNat >>= _) _ _ _
  refine wpAny_bind (wpAny_alive (o := o) (by simpa using hT) ?_)
  simp only [Option.isNone_some, Bool.false_eq_true, if_false]
  refine wpAny_bind (wpAny_field hz rfl (x := .bool fb) rfl ?_)
  cases fb with
  | true =>
    show wpAny _ _ (if (Value.bool true != Value.bool true) = true then _ else _) _ _ _
    rw [if_neg (by decide)]
    exact wpAny_pure (hQ s.heap hz ⟨rfl, fun _ _ => rfl⟩)
  | false =>
    show wpAny _ _ (if (Value.bool false != Value.bool true) = true then _ else _) _ _ _
    rw [if_pos (by decide)]
    refine wpAny_bind (wpAny_setField_rec hz (by simp) fun h' hz' hs' => wpAny_pure (hQ h' hz' hs'))
theorem zip_item2 {z TI TO T i1 i2 l1 l2 : Addr} {fb : Bool} {o : Obj} {k1 k2 : Nat} {xs ys : Array Value} {x y : Value} {Q : Value → Shared → Prop} (D : ZipApart z TI TO i1 i2 l1 l2)
    (hz : IsZipB s.heap z TI TO (rawInt T) fb) (hT : s.heap.get? T = some o) (hTI : IsPair s.heap TI (.ref i1) (.ref i2))
    (h1 : s.heap.IsListIter i1 l1 k1) (h2 : s.heap.IsListIter i2 l2 k2) (hl1 : s.heap.IsList l1 xs) (hl2 : s.heap.IsList l2 ys) (hx : xs[k1]? = some x) (hy : ys[k2]? = some y)
    (hQ : ∀ h', IsZipB h' z TI TO (rawInt T) true → h'.IsListIter i1 l1 (k1 + 1) → h'.IsListIter i2 l2 (k2 + 1) → IsPair h' s.heap.objs.size x y → h'.objs.size = s.heap.objs.size + 1 →
      (∀ c o, c ≠ z → c ≠ i1 → c ≠ i2 → s.heap.get? c = some o → h'.get? c = some o) → Q (.ref s.heap.objs.size) { s with heap := h' }) :
    wpAny (model prog w) A (Builtin.«zip.__next__» ⟨[.ref z], []⟩) (fun fin s' => ∃ v, fin = .done (.ret v) ∧ Q v s') E s := by
  show wpAny _ _ (field (.ref z) 2 >>= _) _ _ _
  refine wpAny_bind (wpAny_field hz rfl (x := .bool false) rfl ?_)
  show wpAny _ _ (field (.ref z) 3 >>= _) _ _ _
  refine wpAny_bind (wpAny_field hz rfl (x := .ref TI) rfl ?_)
  refine wpAny_bind (wpAny_seqItems hTI rfl ?_)
  show wpAny _ _ (Builtin.SmallTypes.ownedTupleIsFree (.ref z) >>= _) _ _ _
  refine wpAny_bind (not_free hz hT fun h₁ hz₁ hs₁ => ?_)
  simp only [Bool.false_eq_true, if_false]
  refine wpAny_bind ?_
  show wpAny _ _ (forIn [Value.ref i1, Value.ref i2].toArray _ _) _ _ _
  rw [List.forIn_toArray]
  simp only [List.forIn_cons, List.forIn_nil]
  refine wpAny_bind (wpAny_bind (wpAny_holding ?_))
  show wpAny _ _ (Builtin.SmallTypes.nextOf (.ref i1) >>= _) _ _ _
  refine wpAny_bind (wpAny_nextOf_list_item (h1.extBut hs₁.extBut D.i1z) (hl1.extBut hs₁.extBut D.l1z) hx fun h₂ h1₂ hs₂ => wpAny_pure ?_)
  refine wpAny_pure ?_
  refine wpAny_bind (wpAny_bind (wpAny_holding ?_))
  show wpAny _ _ (Builtin.SmallTypes.nextOf (.ref i2) >>= _) _ _ _
  refine wpAny_bind (wpAny_nextOf_list_item ((h2.extBut hs₁.extBut D.i2z).extBut hs₂.extBut D.i12.symm) ((hl2.extBut hs₁.extBut D.l2z).extBut hs₂.extBut D.l2i1) hy fun h₄ h2₄ hs₄ => wpAny_pure ?_)
  refine wpAny_pure (wpAny_pure ?_)
  refine wpAny_bind (wpAny_newTuple (hsz := (by show 2 ≤ sizeLine; decide)) ?_)
  have hsz : h₄.objs.size = s.heap.objs.size := by rw [hs₄.1, hs₂.1, hs₁.1]
  refine wpAny_pure ⟨_, rfl, ?_⟩
  have hz₄ : IsZipB h₄ z TI TO (rawInt T) true := hs₄.extBut _ _ D.i2z.symm (hs₂.extBut _ _ D.i1z.symm hz₁)
  show Q (.ref h₄.objs.size) _
  rw [hsz]
  refine hQ _ (Heap.get?_push_of_some _ hz₄) ((h1₂.extBut hs₄.extBut D.i12).at fun o e => Heap.get?_push_of_some _ e) (h2₄.at fun o e => Heap.get?_push_of_some _ e) ?_ (by rw [Heap.size_push, hsz]) fun c o c1 c3 c4 e => Heap.get?_push_of_some _ (hs₄.extBut _ _ c4 (hs₂.extBut _ _ c3 (hs₁.extBut _ _ c1 e)))
  show (h₄.push _).get? _ = _
  rw [← hsz]
  exact Heap.get?_push_size _ rfl
theorem zip_end2 {z TI TO T i1 i2 l1 l2 : Addr} {fb : Bool} {o : Obj} {k1 k2 : Nat} {xs ys : Array Value} {Q : Fin → Shared → Prop} (hh : A.handled = none) (D : ZipApart z TI TO i1 i2 l1 l2)
    (hz : IsZipB s.heap z TI TO (rawInt T) fb) (hT : s.heap.get? T = some o) (hTI : IsPair s.heap TI (.ref i1) (.ref i2))
    (h1 : s.heap.IsListIter i1 l1 k1) (h2 : s.heap.IsListIter i2 l2 k2) (hl1 : s.heap.IsList l1 xs) (hl2 : s.heap.IsList l2 ys) (hend : xs[k1]? = none ∨ ys[k2]? = none)
    (hE : ∀ h' e, (∀ c o, c ≠ z → c ≠ i1 → c ≠ i2 → s.heap.get? c = some o → h'.get? c = some o) → (∃ o, h'.get? e = some o ∧ o.cls = .type "StopIteration") → E (.ref e) { s with heap := h' }) :
    wpAny (model prog w) A (Builtin.«zip.__next__» ⟨[.ref z], []⟩) Q E s := by
  show wpAny _ _ (field (.ref z) 2 >>= _) _ _ _
  refine wpAny_bind (wpAny_field hz rfl (x := .bool false) rfl ?_)
  show wpAny _ _ (field (.ref z) 3 >>= _) _ _ _
  refine wpAny_bind (wpAny_field hz rfl (x := .ref TI) rfl ?_)
  refine wpAny_bind (wpAny_seqItems hTI rfl ?_)
  show wpAny _ _ (Builtin.SmallTypes.ownedTupleIsFree (.ref z) >>= _) _ _ _
  refine wpAny_bind (not_free hz hT fun h₁ hz₁ hs₁ => ?_)
  simp only [Bool.false_eq_true, if_false]
  refine wpAny_bind ?_
  show wpAny _ _ (forIn [Value.ref i1, Value.ref i2].toArray _ _) _ _ _
  rw [List.forIn_toArray]
  simp only [List.forIn_cons, List.forIn_nil]
  refine wpAny_bind (wpAny_bind (wpAny_holding ?_))
  show wpAny _ _ (Builtin.SmallTypes.nextOf (.ref i1) >>= _) _ _ _
  cases hx : xs[k1]? with
  | none =>
    refine wpAny_bind (wpAny_nextOf_list_end hh (h1.extBut hs₁.extBut D.i1z) (hl1.extBut hs₁.extBut D.l1z) hx fun h₂ e hs₂ he => ?_)
    exact hE h₂ e (fun c o c1 c3 _ x => hs₂ _ _ c3 (hs₁.extBut _ _ c1 x)) he
  | some x =>
    have hy : ys[k2]? = none := by rcases hend with h | h; rw [hx] at h; cases h; exact h
    refine wpAny_bind (wpAny_nextOf_list_item (h1.extBut hs₁.extBut D.i1z) (hl1.extBut hs₁.extBut D.l1z) hx fun h₂ h1₂ hs₂ => wpAny_pure ?_)
    refine wpAny_pure ?_
    refine wpAny_bind (wpAny_bind (wpAny_holding ?_))
    show wpAny _ _ (Builtin.SmallTypes.nextOf (.ref i2) >>= _) _ _ _
    refine wpAny_bind (wpAny_nextOf_list_end hh ((h2.extBut hs₁.extBut D.i2z).extBut hs₂.extBut D.i12.symm) ((hl2.extBut hs₁.extBut D.l2z).extBut hs₂.extBut D.l2i1) hy fun h₄ e hs₄ he => ?_)
    exact hE h₄ e (fun c o c1 c3 c4 x => hs₄ _ _ c4 (hs₂.extBut _ _ c3 (hs₁.extBut _ _ c1 x))) he
theorem next_item2 {z TI TO T i1 i2 l1 l2 : Addr} {fb : Bool} {o : Obj} {k1 k2 : Nat} {xs ys : Array Value} {x y : Value} {Q : Option Value → Shared → Prop} (D : ZipApart z TI TO i1 i2 l1 l2)
    (hz : IsZipB s.heap z TI TO (rawInt T) fb) (hT : s.heap.get? T = some o) (hTI : IsPair s.heap TI (.ref i1) (.ref i2))
    (h1 : s.heap.IsListIter i1 l1 k1) (h2 : s.heap.IsListIter i2 l2 k2) (hl1 : s.heap.IsList l1 xs) (hl2 : s.heap.IsList l2 ys) (hx : xs[k1]? = some x) (hy : ys[k2]? = some y)
    (hQ : ∀ h', IsZipB h' z TI TO (rawInt T) true → h'.IsListIter i1 l1 (k1 + 1) → h'.IsListIter i2 l2 (k2 + 1) → IsPair h' s.heap.objs.size x y → h'.objs.size = s.heap.objs.size + 1 →
      (∀ c o, c ≠ z → c ≠ i1 → c ≠ i2 → s.heap.get? c = some o → h'.get? c = some o) → Q (some (.ref s.heap.objs.size)) { s with heap := h' }) :
    wpAny (model prog w) A (pyNext (.ref z)) Q E s := by
  have hT' : s.TypeIs (.ref z) "zip" := ⟨_, hz, rfl⟩
  unfold pyNext
  exact wpAny_bind (wpAny_attempt (wpAny_callSpecial?_slot (name := Str.ofString "__next__") hT' F.slot_zip_next
    (wpAny_call_entry F.slot_zip_next hT' F.entry_zip_next
      (zip_item2 D hz hT hTI h1 h2 hl1 hl2 hx hy fun h' a1 a3 a4 a5 a6 a7 => wpAny_pure (hQ h' a1 a3 a4 a5 a6 a7)) (F.args_zip_next_1 _))))
theorem next_end2 {z TI TO T i1 i2 l1 l2 : Addr} {fb : Bool} {o : Obj} {k1 k2 : Nat} {xs ys : Array Value} {Q : Option Value → Shared → Prop} (hh : A.handled = none) (D : ZipApart z TI TO i1 i2 l1 l2)
    (hz : IsZipB s.heap z TI TO (rawInt T) fb) (hT : s.heap.get? T = some o) (hTI : IsPair s.heap TI (.ref i1) (.ref i2))
    (h1 : s.heap.IsListIter i1 l1 k1) (h2 : s.heap.IsListIter i2 l2 k2) (hl1 : s.heap.IsList l1 xs) (hl2 : s.heap.IsList l2 ys) (hend : xs[k1]? = none ∨ ys[k2]? = none)
    (hQ : ∀ h', (∀ c o, c ≠ z → c ≠ i1 → c ≠ i2 → s.heap.get? c = some o → h'.get? c = some o) → Q none { s with heap := h' }) : wpAny (model prog w) A (pyNext (.ref z)) Q E s := by
  have hT' : s.TypeIs (.ref z) "zip" := ⟨_, hz, rfl⟩
  unfold pyNext
  refine wpAny_bind (wpAny_attempt (wpAny_callSpecial?_slot (name := Str.ofString "__next__") hT' F.slot_zip_next
    (wpAny_call_entry F.slot_zip_next hT' F.entry_zip_next (zip_end2 hh D hz hT hTI h1 h2 hl1 hl2 hend fun h' e hk he => ?_) (F.args_zip_next_1 _))))
  obtain ⟨o, ho, hc⟩ := he
  refine wpAny_bind (wpAny_isInstance (T := "StopIteration") (b := true) ⟨o, ho, hc⟩ isSubtype_stop ?_)
  exact wpAny_pure (hQ _ hk)
end
def ZSt (h : Heap) (z TI TO i1 i2 a b S : Addr) (i : Nat) : Prop := (IsZipB h z TI TO .none false ∨ ∃ (T : Addr) (o : Obj) (fb : Bool), IsZipB h z TI TO (rawInt T) fb ∧ h.get? T = some o ∧ T ≠ z ∧ T ≠ TO ∧ T ≠ i1 ∧ T ≠ i2 ∧ T ≠ S) ∧ IsPair h TI (.ref i1) (.ref i2) ∧ (∃ x y, IsPair h TO x y) ∧ h.IsListIter i1 a i ∧ h.IsListIter i2 b i
section
variable {prog : Program} {w : World} {A : Around} {E : Value → Shared → Prop} {s : Shared} {z TI TO i1 i2 a b S : Addr} {i : Nat}
theorem ZSt.frame {h h' : Heap} (st : ZSt h z TI TO i1 i2 a b S i) (k : ∀ c o, c ≠ S → h.get? c = some o → h'.get? c = some o) (nz : z ≠ S) (n1 : TI ≠ S) (n2 : TO ≠ S) (n3 : i1 ≠ S) (n4 : i2 ≠ S) : ZSt h' z TI TO i1 i2 a b S i := by
  obtain ⟨hz, hTI, ⟨x, y, hTO⟩, h1, h2⟩ := st
  refine ⟨?_, k _ _ n1 hTI, ⟨x, y, k _ _ n2 hTO⟩, h1.at fun o e => k _ o n3 e, h2.at fun o e => k _ o n4 e⟩
  rcases hz with hz | ⟨T, o, fb, hz, hT, t1, t2, t3, t4, t5⟩
  · exact .inl (k _ _ nz hz)
  · exact .inr ⟨T, o, fb, k _ _ nz hz, k _ _ t5 hT, t1, t2, t3, t4, t5⟩
theorem ZSt.item {oS : Obj} {xs ys : Array Value} {x y : Value} {Q : Option Value → Shared → Prop} (D : ZipApart z TI TO i1 i2 a b) (st : ZSt s.heap z TI TO i1 i2 a b S i) (hS : s.heap.get? S = some oS)
    (hl1 : s.heap.IsList a xs) (hl2 : s.heap.IsList b ys) (hx : xs[i]? = some x) (hy : ys[i]? = some y)
    (hQ : ∀ h', ZSt h' z TI TO i1 i2 a b S (i + 1) → IsPair h' s.heap.objs.size x y → (∀ c o, c ∉ [z, TI, TO, i1, i2] → s.heap.get? c = some o → h'.get? c = some o) → Q (some (.ref s.heap.objs.size)) { s with heap := h' }) :
    wpAny (model prog w) A (pyNext (.ref z)) Q E s := by
  obtain ⟨hz, hTI, ⟨x0, y0, hTO⟩, h1, h2⟩ := st
  have lt : ∀ {c o}, s.heap.get? c = some o → s.heap.objs.size ≠ c := fun e => Nat.ne_of_gt (Heap.lt_size e)
  have e1 : ∃ o, s.heap.get? i1 = some o := by obtain ⟨o, e, _⟩ := h1; exact ⟨o, e⟩
  have e2 : ∃ o, s.heap.get? i2 = some o := by obtain ⟨o, e, _⟩ := h2; exact ⟨o, e⟩
  obtain ⟨o1, e1⟩ := e1
  obtain ⟨o2, e2⟩ := e2
  have nin : ∀ {c : Addr}, c ∉ [z, TI, TO, i1, i2] → c ≠ z ∧ c ≠ TI ∧ c ≠ TO ∧ c ≠ i1 ∧ c ≠ i2 := fun h => by simpa using h
  rcases hz with hz | ⟨T, o, fb, hz, hT, t1, t2, t3, t4, t5⟩
  · refine wpAny_pyNext_zip_item D hz hTI hTO h1 h2 hl1 hl2 hx hy fun h' a1 a2 a3 a4 a5 a6 a7 => ?_
    refine hQ h' ⟨.inr ⟨_, _, false, a1, a5, lt hz, lt hTO, lt e1, lt e2, lt hS⟩, a7 _ _ D.TIz D.TITO D.TIi1 D.TIi2 hTI, ⟨_, _, a2⟩, a3, a4⟩ a5 fun c o hc e => ?_
    obtain ⟨c1, c2, c3, c4, c5⟩ := nin hc
    exact a7 c o c1 c3 c4 c5 e
  · refine next_item2 D hz hT hTI h1 h2 hl1 hl2 hx hy fun h' a1 a3 a4 a5 a6 a7 => ?_
    refine hQ h' ⟨.inr ⟨T, o, true, a1, a7 _ _ t1 t3 t4 hT, t1, t2, t3, t4, t5⟩, a7 _ _ D.TIz D.TIi1 D.TIi2 hTI, ⟨_, _, a7 _ _ D.TOz D.TOi1 D.TOi2 hTO⟩, a3, a4⟩ a5 fun c o hc e => ?_
    obtain ⟨c1, c2, c3, c4, c5⟩ := nin hc
    exact a7 c o c1 c4 c5 e
theorem ZSt.fin {xs ys : Array Value} {Q : Option Value → Shared → Prop} (hh : A.handled = none) (D : ZipApart z TI TO i1 i2 a b) (st : ZSt s.heap z TI TO i1 i2 a b S i)
    (hl1 : s.heap.IsList a xs) (hl2 : s.heap.IsList b ys) (hend : xs[i]? = none ∨ ys[i]? = none)
    (hQ : ∀ h', (∀ c o, c ∉ [z, TI, TO, i1, i2] → s.heap.get? c = some o → h'.get? c = some o) → Q none { s with heap := h' }) : wpAny (model prog w) A (pyNext (.ref z)) Q E s := by
  obtain ⟨hz, hTI, ⟨x0, y0, hTO⟩, h1, h2⟩ := st
  have nin : ∀ {c : Addr}, c ∉ [z, TI, TO, i1, i2] → c ≠ z ∧ c ≠ TI ∧ c ≠ TO ∧ c ≠ i1 ∧ c ≠ i2 := fun h => by simpa using h
  rcases hz with hz | ⟨T, o, fb, hz, hT, t1, t2, t3, t4, t5⟩
  · refine wpAny_pyNext_zip_end hh D hz hTI hTO h1 h2 hl1 hl2 hend fun h' kk => hQ h' fun c o hc e => ?_
    obtain ⟨c1, c2, c3, c4, c5⟩ := nin hc
    exact kk c o c1 c3 c4 c5 e
  · refine next_end2 hh D hz hT hTI h1 h2 hl1 hl2 hend fun h' kk => hQ h' fun c o hc e => ?_
    obtain ⟨c1, c2, c3, c4, c5⟩ := nin hc
    exact kk c o c1 c4 c5 e
end
end Ty
namespace Ty
open PySem PySem.Spec PyProof.Rows L2
section
variable {X : Cx} {pins : List (Addr × Obj)} {σ : L2.St}
def ZLs (H : Hp) (xs ys us : List V) : Prop := ∀ (j : Nat) (u : V), us[j]? = some u → ∃ (x y : V) (p : Addr), xs[j]? = some x ∧ ys[j]? = some y ∧ u = .ref p ∧ H p = some (.tup [x, y])
def tListZ (ta : TA) : TE := fun σ H Q => ta σ H fun vs H1 => ∃ (a b : Addr) (xs ys : List V), vs = [.ref a, .ref b] ∧ H1 a = some (.lst xs) ∧ H1 b = some (.lst ys) ∧
  ∀ (l : Addr) (us : List V) (H' : Hp), Same H1 H' → H1 l = none → H' l = some (.lst us) → us.length = min xs.length ys.length → ZLs H' xs ys us → Q (.ref l) H'
end
end Ty

set_option maxHeartbeats 4000000
namespace Ty
open PySem PySem.Spec PyProof.Rows L2
section
variable {X : Cx}
section
variable {k : Nat} {m : Str} {pos apos : Pos} {e o : Expr} {es : List Expr} {ta : TE} {t : TA}
theorem px_run {pins : List (Addr × Obj)} {σ : L2.St} {H1 : Hp} {s1 : Shared} {Q : VK} {E : XK} {f : Addr} {fd : FuncData} {ps : List Str} {sp : Sp} {us : List Value} {vs : List V} {ds : List Value} {dvs : List V} (G : FnOk X.prog X.w X.K X.mg X.base (CXr X.prog X.w) k f fd ps sp) (hr : Room k X.A) (hb : Binds X.K fd ps ds) (hd : Vals dvs ds) (I : Inv X pins σ H1 s1) (r : Vals vs us) (q : sp (vs ++ dvs) H1 Q E) :
    wpAny (model X.prog X.w) X.A (call (.ref f) us) (EP X pins σ Q) (XP X pins σ E) s1 := by
  have r2 := r.append hd
  have hl : (us ++ ds).length = ps.length := by rw [← r2.length]; exact G.len _ _ _ _ q
  refine wpAny_call (codeAny_mono (G.run X.A X.stack s1 H1 ⟨us, []⟩ (us ++ ds) (vs ++ dvs) Q E hr I.env0 (hb s1 us I.kIn hl) r2 q) fun r s' hq => ?_)
  cases r with
  | error e => exact ⟨H1, s1, I, hq⟩
  | ok fl =>
    cases fl with
    | ret u => exact I.after hq
    | next => exact False.elim hq
    | brk => exact False.elim hq
    | cont => exact False.elim hq
def tMtdX (P : Program) (w : World) (K : PySem.W.Frag) (mg : Str → Option Value) (base : Heap) (k : Nat) (m : Str) (ta : TE) (t : TA) : TEx := fun σ H Q E => ta σ H fun x H1 => ∃ a C dx fs ps sp, x = .ref a ∧ H1 a = some (.ins C dx fs) ∧ fs.lookup m = none ∧
  MtdOk P w K mg base (CXr P w) k C m ps sp ∧ t σ H1 fun vs H2 => sp (x :: vs) H2 Q E
theorem px_mtd {pl : Sem Bool} (he : PE X.nox o ta) (hr : Room k X.A) (ha : PA X.nox (e :: es) t)
    (hst : starEach (e :: es) X.env = (false, eval e X.env) :: starEach es X.env := by rfl) (hpl : (backTo pos (starEach es X.env)).any (·.1) = false := by rfl)
    (ht : eval (.Call (.Attribute o m apos) (e :: es) [] pos) X.env = (do
      let ov ← eval o X.env
      standAt apos.atName
      let (f, first) ← holding [ov] (getMethod ov m pl)
      callWith pos f first (backTo pos (starEach (e :: es) X.env)) (backToKw pos (keywordEach [] X.env))) := by rfl) :
    PEx X (.Call (.Attribute o m apos) (e :: es) [] pos) (tMtdX X.prog X.w X.K X.mg X.base k m ta t) := by
  intro pins s σ H Q E I h
  refine PySem.W.methodCall_KW (pl := pl) (wpAny_mono (he pins s σ H _ (I.wish _) h) (fun u s1 ⟨x, H1, I1, rx, a, C, dx, fs, ps, sp, ex, ea, l, M, q⟩ => ?_) fun _ _ z => z.elim) ht
  subst ex
  obtain rfl : u = Value.ref a := rx
  obtain ⟨f, fd, c, hm, F, hb⟩ := M.ex
  refine getmeth_ok (X := X) I1.unwish ea c hm l ?_
  refine PySem.W.callWith_K (first := [.ref a]) (h₀ := X.base) I.ok.mod.kin hm.kp (wpAny_mono (ha pos pins s1 σ H1 _ I1 q) (fun us s2 ⟨vs, H2, I2, r, q2⟩ => ⟨I2.kIn, ?_⟩) fun _ _ z => z.elim) hst hpl
  exact px_run (us := .ref a :: us) (vs := .ref a :: vs) (dvs := []) F hr hb .nil I2.unwish (.cons rfl r) (by rw [List.append_nil]; exact q2)
def tMtdXD (P : Program) (w : World) (K : PySem.W.Frag) (mg : Str → Option Value) (base : Heap) (k : Nat) (m : Str) (ta : TE) (t : TA) : TEx := fun σ H Q E => ta σ H fun x H1 => ∃ a C dx fs ps sp, x = .ref a ∧ H1 a = some (.ins C dx fs) ∧ fs.lookup m = none ∧
  MtdOkD P w K mg base (CXr P w) k C m ps [.none] sp ∧ t σ H1 fun vs H2 => sp (x :: vs ++ [.non]) H2 Q E
theorem px_mtdD {pl : Sem Bool} (he : PE X.nox o ta) (hr : Room k X.A) (ha : PA X.nox (e :: es) t)
    (hst : starEach (e :: es) X.env = (false, eval e X.env) :: starEach es X.env := by rfl) (hpl : (backTo pos (starEach es X.env)).any (·.1) = false := by rfl)
    (ht : eval (.Call (.Attribute o m apos) (e :: es) [] pos) X.env = (do
      let ov ← eval o X.env
      standAt apos.atName
      let (f, first) ← holding [ov] (getMethod ov m pl)
      callWith pos f first (backTo pos (starEach (e :: es) X.env)) (backToKw pos (keywordEach [] X.env))) := by rfl) :
    PEx X (.Call (.Attribute o m apos) (e :: es) [] pos) (tMtdXD X.prog X.w X.K X.mg X.base k m ta t) := by
  intro pins s σ H Q E I h
  refine PySem.W.methodCall_KW (pl := pl) (wpAny_mono (he pins s σ H _ (I.wish _) h) (fun u s1 ⟨x, H1, I1, rx, a, C, dx, fs, ps, sp, ex, ea, l, M, q⟩ => ?_) fun _ _ z => z.elim) ht
  subst ex
  obtain rfl : u = Value.ref a := rx
  obtain ⟨f, fd, c, hm, F, hb⟩ := M.ex
  refine getmeth_ok (X := X) I1.unwish ea c hm l ?_
  refine PySem.W.callWith_K (first := [.ref a]) (h₀ := X.base) I.ok.mod.kin hm.kp (wpAny_mono (ha pos pins s1 σ H1 _ I1 q) (fun us s2 ⟨vs, H2, I2, r, q2⟩ => ⟨I2.kIn, ?_⟩) fun _ _ z => z.elim) hst hpl
  exact px_run (us := .ref a :: us) (vs := .ref a :: vs) (dvs := [.non]) F hr hb (.cons rfl .nil) I2.unwish (.cons rfl r) q2
end
theorem px_tup2 {a b : Expr} {x1 : Nat} {pos : Pos} {ta : TE} {tb : TEx} (ha : PE X.nox a ta) (hb : PEx X b tb) (hs : starEach [a, b] X.env = [(false, eval a X.env), (false, eval b X.env)] := by rfl) :
    PEx X (.Tuple [a, b] x1 pos) (fun σ H Q E => ta σ H fun x H1 => tb σ H1 (fun y H2 => ∀ p, H2 p = none → Q (.ref p) (upd H2 p (.tup [x, y]))) E) := by
  intro pins s σ H Q E I h
  refine wpAny_Tuple_spliced ?_
  rw [hs]
  show wpAny _ _ (spliced ((false, eval a X.env) :: backTo pos [(false, eval b X.env)])) _ _ s
  refine Calls.spliced_cons (wpAny_mono (ha pins s σ H _ (I.wish _) h) (fun u s1 ⟨x, H1, I1, r1, q1⟩ => ?_) fun _ _ z => z.elim)
  show wpAny _ _ (spliced ((false, eval b X.env) :: backTo pos [])) _ _ s1
  refine Calls.spliced_cons (wpAny_mono (hb pins s1 σ H1 _ _ I1.unwish q1) (fun v s2 ⟨y, H2, I2, r2, q2⟩ => Calls.spliced_nil ?_) fun _ _ z => z)
  have z2 : [u, v].length ≤ sizeLine := by show 2 ≤ sizeLine; decide
  refine ⟨z2, ?_⟩
  have hf : H2 s2.heap.objs.size = none := I2.hok.fresh (Nat.le_refl _)
  refine ⟨.ref s2.heap.objs.size, upd H2 s2.heap.objs.size (.tup [x, y]), I2.laid (t' := s2.toks) (fun b u e => Heap.get?_push_of_some _ e) (Nat.le_refl _) ?_, rfl, q2 _ hf⟩
  exact ⟨z2, [u, v], .cons r1 (.cons r2 .nil), ⟨_, Heap.get?_push_size _ rfl, rfl, _, rfl⟩⟩
def tNo (cv : Value) (K : PySem.W.Frag) (ts : TS) (tr : TH) : TH := fun cls dx D σ H => ∃ b, PySem.W.exmOne K cls cv = some b ∧
  if b = true then ts D σ H else tr cls dx D σ H
theorem pe_excGK {K : PySem.W.Frag} {e : Expr} {f : Str} {pos : Pos} {ta : TE} (hK : X.K = K) (he : PE X e ta) (hb : attributeBase e f X.env (eval e X.env) = eval e X.env) : PE X (.Attribute e f pos) (tExcG K ta f) := by
  subst hK
  exact pe_excG he hb
def rRemove : V → List V → Hp → VK → Prop := fun x vs H Q => ∃ (l : Addr) (ws : List Str) (y : Str) (j : Nat), x = .ref l ∧ vs = [.str y] ∧ H l = some (.lst (ws.map V.str)) ∧ ws[j]? = some y ∧ (∀ i, i < j → ws[i]? ≠ some y) ∧ Q .non (upd H l (.lst ((ws.eraseIdx j).map V.str)))
end
def thE (H0 : Hp) (E : XK) : XK := fun cls dx H' => E cls dx H' ∨ ∃ d o kvs, H' d = some (.frz o (.dK kvs)) ∧ (∀ o' u', H0 d ≠ some (.frz o' u')) ∧ E cls dx (upd H' d (.dK kvs))
theorem CXr.thaw {P : Program} {w : World} {outer : List Env} {H : Hp} {s : Shared} {E : XK} {e : Value} {s' : Shared} (h : CXr P w outer H s (thE H E) e s') : CXr P w outer H s E e s' := by
  obtain ⟨a, cls, a0, dx, H', B, rfl, fl, da, un, ok, os, bare, th, tr, hE⟩ := h
  rcases hE with hE | ⟨d, o, kvs, ed, nf, hE⟩
  · exact ⟨a, cls, a0, dx, H', B, rfl, fl, da, un, ok, os, bare, th, tr, hE⟩
  · have nx : ∀ b u', H' b = some u' → b ≠ d → upd H' d (.dK kvs) b = some u' := fun b u q n => by rw [upd_ne n]; exact q
    refine ⟨a, cls, a0, dx, upd H' d (.dK kvs), B, rfl, fl, da, ⟨un.keep, un.slot, fun b ob q n hx => ?_, un.there, fun b xs q => ?_, fun b ob u q => ?_, fun b ps q => ?_⟩, ?_, os, bare, th, fun b u q => ?_, hE⟩
    · have z := un.free b ob q n hx
      rw [upd_ne (fun y => by rw [y, ed] at z; cases z)]
      exact z
    · have z := un.tups b xs q
      exact nx b _ z fun y => by rw [y, ed] at z; cases z
    · have z := un.frzs b ob u q
      exact nx b _ z fun y => by rw [y] at q; exact nf _ _ q
    · obtain ⟨m, z⟩ := un.tbls b ps q
      exact ⟨m, nx b _ z fun y => by rw [y, ed] at z; cases z⟩
    · have stt : ∀ {b u'}, ObjOk P w H' s'.heap b u' → ObjOk P w (upd H' d (.dK kvs)) s'.heap b u' := fun {b u'} k => k.stay (fun _ _ _ z => z) (fun c z => nx c _ z fun y => by rw [y, ed] at z; cases z) fun c xs z => nx c _ z fun y => by rw [y, ed] at z; cases z
      intro b u' q
      by_cases hb : b = d
      · subst hb
        rw [upd_same] at q
        cases q
        exact stt (ok b _ ed).2
      · rw [upd_ne hb] at q
        exact stt (ok b u' q)
    · by_cases hb : b = d
      · subst hb
        exact tr b _ ed
      · rw [upd_ne hb] at q
        exact tr b u q
section
variable {P : Program} {w : World} {K : PySem.W.Frag} {mg : Str → Option Value} {base : Heap}
theorem fn_thaw {k : Nat} {f : Addr} {fd : FuncData} {ps : List Str} {sp sp' : Sp} (len : ∀ vs H Q E, sp vs H Q E → vs.length = ps.length) (h : ∀ vs H Q E, sp vs H Q E → sp' vs H Q (thE H E)) (F : FnOk P w K mg base (CXr P w) k f fd ps sp') : FnOk P w K mg base (CXr P w) k f fd ps sp :=
  ⟨len, fun A outer s H args us vs Q E hr he hb hv hs => codeAny_mono (F.run A outer s H args us vs Q (thE H E) hr he hb hv (h _ _ _ _ hs)) fun r s' hq => by
    cases r with
    | error e => exact CXr.thaw hq
    | ok fl =>
      cases fl with
      | ret u => exact hq
      | next => exact hq
      | brk => exact hq
      | cont => exact hq⟩
theorem fun_okXD {name qual : Str} {st : Stmt} {f : Addr} {fd : FuncData} {N ps : List Str} {k : Nat} {sp : Sp} (F : FunD K name qual st f fd) (S : FnScope N ps (defScope st)) (len : ∀ vs H Q E, sp vs H Q E → vs.length = ps.length)
    (hbody : ∀ (cdv : Value) (A : Around) (outer : List Env) (s : Shared) (H : Hp) (vs : List V) (Q : VK) (E : XK), Room k (A.deeper (envOfC qual (defScope st) s.heap.objs.size f cdv)) → sp vs H Q E →
      ∃ t, PSs (cxr P w K mg base N qual (defScope st) f cdv A outer s H E) (defBody st) t ∧ t { nx := fun _ H' => Q .non H', rt := Q } (start N vs) H) : FnOk P w K mg base (CXr P w) (k + 1) f fd ps sp := by
  obtain ⟨dV, oc, od, kV, doc, pm, an, cdv, ct, osl, rfl, lk, hcd⟩ := F.ex
  exact fn_of lk hcd S len fun A outer s H vs Q E hr hsp => hbody cdv A outer s H vs Q E hr hsp
end
end Ty

set_option maxHeartbeats 4000000
namespace Ty
open PySem PySem.Spec PyProof.Rows L2
section
variable {X : Cx}
def rIndex : V → List V → Hp → VK → Prop := fun x vs H Q => ∃ (l : Addr) (ws : List Str) (y : Str) (j : Nat), x = .ref l ∧ vs = [.str y] ∧ H l = some (.lst (ws.map V.str)) ∧ ws.length < 1000 ∧ ws[j]? = some y ∧ (∀ i, i < j → ws[i]? ≠ some y) ∧ Q (.int (j : Int)) H
end
theorem nodup_le {α : Type} [DecidableEq α] : ∀ {l m : List α}, l.Nodup → (∀ x ∈ l, x ∈ m) → l.length ≤ m.length
  | [], _, _, _ => Nat.zero_le _
  | x :: l, m, h, k => by
    obtain ⟨h1, h2⟩ := List.nodup_cons.mp h
    have hx := k x List.mem_cons_self
    have := nodup_le (l := l) (m := m.erase x) h2 fun y hy => (List.mem_erase_of_ne (fun z : y = x => h1 (by rw [← z]; exact hy))).mpr (k y (List.mem_cons_of_mem _ hy))
    rw [List.length_erase_of_mem hx] at this
    have p := List.length_pos_of_mem hx
    show l.length + 1 ≤ m.length
    omega
section
variable {D : Addr} {te : TE} {cap : L2.St} {H1 : Hp} {Q : VK}
theorem comp_pairs {K : PySem.W.Frag} {a : Addr} {us : List V} (Rel : Nat → V → Hp → Prop) (nD : H1 D = none) (hn : us.length < sizeLine) (hS : ∀ H, Same H1 H → SqL K H a us)
    (hP : ∀ (i : Nat) (u : V), us[i]? = some u → ∃ p x y, u = .ref p ∧ H1 p = some (.tup [x, y]))
    (hR : ∀ i v H H' ys, H D = some (.lst ys) → KSame D H H' → Rel i v H → Rel i v H')
    (he : ∀ (i : Nat) (p : Addr) (x y : V) H (R : VK), us[i]? = some (.ref p) → H1 p = some (.tup [x, y]) → Same H1 H → (∀ v H6, Same H H6 → Rel i v H6 → R v H6) → te (some x :: some y :: cap) H R)
    (hd : ∀ zs H, zs.length = us.length → (∀ i v, zs[i]? = some v → Rel i v H) → Same H1 H → H D = some (.lst zs) → Q (.ref D) H) :
    tBlk D (gTup K 2 (gCons (gName 0) (gCons (gName 1) gNil))) tYes te (Itl K a) (none :: none :: cap) H1 Q := by
  refine ⟨fun i m σ zs H => m = us.length - i ∧ i ≤ us.length ∧ (∃ o o', σ = o :: o' :: cap) ∧ (zs.length = i ∧ (∀ i v, zs[i]? = some v → Rel i v H) ∧ Same H1 H) ∧ H D = some (.lst zs), ⟨us.length, by simp, Nat.zero_le _, ⟨none, none, rfl⟩, ⟨rfl, fun i v e => by simp at e, fun b o e => by rw [upd_ne (ne_of_none e nD)]; exact e⟩, upd_same⟩, ?_⟩
  rintro i m σ zs H ⟨rfl, hi, ⟨o1, o', rfl⟩, ⟨l, r, s⟩, hD⟩
  by_cases hlt : i < us.length
  · refine .inr ⟨⟨us, us[i], hS H s, List.getElem?_eq_getElem hlt⟩, fun v H' y => ?_⟩
    obtain ⟨rfl, y2⟩ := y
    have q1 := y2 us (hS _ s)
    obtain ⟨p, x, y, rfl, hp⟩ := hP i v q1
    refine ⟨p, _, rfl, SqT.of (s _ _ hp), rfl, _, _, rfl, _, _, rfl, rfl, ?_⟩
    unfold tYes
    dsimp only
    rw [if_pos rfl]
    refine he i p x y _ _ q1 hp s fun v H6 s6 rv => ⟨s6 _ _ hD, by omega, us.length - (i + 1), by omega, rfl, by omega, ⟨_, _, rfl⟩, ⟨by simp [l], fun j u e => ?_, fun b o e => ?_⟩, upd_same⟩
    · by_cases c : j < zs.length
      · rw [List.getElem?_append_left c] at e
        have ru := hR j u _ H6 zs hD (KSame.of fun b o q => s6 _ _ q) (r j u e)
        exact hR j u H6 _ zs (s6 _ _ hD) KSame.upd ru
      · rw [List.getElem?_append_right (by omega)] at e
        have ej : j = i := by
          by_cases z : j - zs.length = 0
          · omega
          · rw [List.getElem?_eq_none (by simp; omega)] at e
            cases e
        subst ej
        have : v = u := by
          rw [show j - zs.length = 0 by omega] at e
          exact Option.some.inj e
        subst this
        exact hR j v H6 _ zs (s6 _ _ hD) KSame.upd rv
    · rw [upd_ne (ne_of_none e nD)]
      exact s6 _ _ (s _ _ e)
  · have e : i = us.length := by omega
    subst e
    exact .inl ⟨⟨us, hS _ s, Nat.le_refl _⟩, hd zs H l r s hD⟩
end
theorem op_eqDaK {X : Cx} {K : PySem.W.Frag} (h : X.K = K) (hu : X.A.units + 64 < cLine) : OpR X (compareOp .Eq) (rEqDa K) := by subst h; exact op_eqDa hu
end Ty

set_option maxHeartbeats 4000000
namespace Ty
open PySem PySem.Spec PyProof.Rows L2
section
variable {X : Cx}
theorem psx_if {c : Expr} {a b : Stmt} {pos : Pos} {tc : TT} {ta tb : TSx} (hc : PT X.nox c tc) (ha : PSx X a ta) (hb : PSx X b tb) :
    PSx X (.If c [a] [b] pos) (fun D E σ H => tc σ H fun d H1 => if d = true then ta D E σ H1 else tb D E σ H1) := by
  intro pins s σ H D E I h
  refine wpAny_If (wpAny_mono (hc pins s σ H _ (I.wish _) h) (fun d s1 ⟨H1, I1, q1⟩ => ?_) fun _ _ z => z.elim)
  have I2 := I1.unwish
  cases d with
  | true =>
    refine wpAny_execs_cons (wpAny_mono (ha pins s1 σ H1 D E I2 q1) (fun f s2 q => ?_) fun _ _ z => z)
    cases f with
    | next => exact wpAny_execs_nil q
    | ret v => exact q
    | brk => exact q
    | cont => exact q
  | false =>
    refine wpAny_execs_cons (wpAny_mono (hb pins s1 σ H1 D E I2 q1) (fun f s2 q => ?_) fun _ _ z => z)
    cases f with
    | next => exact wpAny_execs_nil q
    | ret v => exact q
    | brk => exact q
    | cont => exact q
end
theorem comp_listP {K : PySem.W.Frag} {D : Addr} {te : TE} {tt : TT} {cap : L2.St} {H1 : Hp} {Q : VK} {a : Addr} {α : Type} {xs : List V} {zs : List α} {Rl : V → α → Prop} (p : α → Bool) (hp : Paired Rl xs zs) (nD : H1 D = none) (hn : xs.length < sizeLine) (hS : ∀ H, Same H1 H → SqL K H a xs)
    (ht : ∀ x z H (R : Bool → Hp → Prop), Rl x z → Same H1 H → R (p z) H → tt (some x :: cap) H R)
    (he : ∀ x z H (R : VK), Rl x z → Same H1 H → R x H → te (some x :: cap) H R)
    (hd : ∀ ys H, Paired Rl ys (zs.filter p) → Same H1 H → H D = some (.lst ys) → Q (.ref D) H) :
    tBlk D (gName 0) tt te (Itl K a) (none :: cap) H1 Q := by
  have lz : xs.length = zs.length := Paired.length hp
  refine ⟨fun i m σ ys H => m = xs.length - i ∧ i ≤ xs.length ∧ (∃ o, σ = o :: cap) ∧ Same H1 H ∧ H D = some (.lst ys) ∧ Paired Rl ys ((zs.take i).filter p) ∧ ys.length ≤ i, ⟨xs.length, by simp, Nat.zero_le _, ⟨none, rfl⟩, fun b o e => by rw [upd_ne (ne_of_none e nD)]; exact e, upd_same, by simpa using Paired.nil, Nat.le_refl _⟩, ?_⟩
  rintro i m σ ys H ⟨rfl, hi, ⟨o, rfl⟩, s, hD, ey, ly⟩
  by_cases hlt : i < xs.length
  · refine .inr ⟨⟨xs, xs[i], hS H s, List.getElem?_eq_getElem hlt⟩, fun v H' y => ?_⟩
    obtain ⟨rfl, y2⟩ := y
    have q1 := y2 xs (hS _ s)
    obtain ⟨z, ez, hz⟩ := paired_get hp q1
    have er : (zs.take (i + 1)).filter p = (zs.take i).filter p ++ (if p z = true then [z] else []) := by
      rw [take_snoc ez, List.filter_append]
      by_cases c : p z = true
      · rw [if_pos c, List.filter_cons_of_pos c]
        rfl
      · rw [if_neg c, List.filter_cons_of_neg c]
        rfl
    unfold gName
    refine ht v z _ _ hz s ?_
    by_cases c : p z = true
    · rw [if_pos c]
      rw [if_pos c] at er
      refine he v z _ _ hz s ⟨hD, by omega, xs.length - (i + 1), by omega, rfl, by omega, ⟨_, rfl⟩, ?_, upd_same, ?_, by simp; omega⟩
      · exact fun b o e => by
          rw [upd_ne (ne_of_none e nD)]
          exact s _ _ e
      · rw [er]
        exact Paired.snoc ey hz
    · rw [if_neg c]
      rw [if_neg c, List.append_nil] at er
      exact ⟨xs.length - (i + 1), by omega, rfl, by omega, ⟨_, rfl⟩, s, hD, by rw [er]; exact ey, by omega⟩
  · have e : i = xs.length := by omega
    subst e
    refine .inl ⟨⟨xs, hS _ s, Nat.le_refl _⟩, hd ys H ?_ s hD⟩
    rw [lz, List.take_length] at ey
    exact ey
end Ty

set_option maxHeartbeats 4000000
namespace T_k12
open PySem PySem.Spec PyProof.Rows L2 Ty
open Builtin.Int (intBits)
seal L2.PE L2.PS L2.PSs L2.PA
def top (i : Nat) : Stmt := PySem.Challenge.pw_trussyard_k12_pins_put_and_taken.main.body.getD i (.Pass ⟨0, 0, 0, 0⟩)
abbrev s_wall : Stmt := top 0
abbrev s_YardError : Stmt := top 2
abbrev s_NoWay : Stmt := top 3
abbrev s_PinThere : Stmt := top 4
abbrev s_SpotTaken : Stmt := top 5
abbrev s_NoPin : Stmt := top 6
abbrev s_PinBusy : Stmt := top 7
abbrev s_BarThere : Stmt := top 8
abbrev s_NoBar : Stmt := top 9
abbrev s_NoLength : Stmt := top 10
abbrev s_TooMany : Stmt := top 11
abbrev s_Frame : Stmt := top 14
abbrev s_Hold : Stmt := top 16
abbrev s_Roller : Stmt := top 17
abbrev s_Fixed : Stmt := top 18
abbrev s_law_cell_at : Stmt := top 20
abbrev s_law_names : Stmt := top 21
abbrev s_law_lowest : Stmt := top 22
abbrev s_law_drawn : Stmt := top 23
abbrev s_law_hold : Stmt := top 24
abbrev s_law_ways : Stmt := top 25
abbrev s_law_alone : Stmt := top 26
abbrev s_law_put : Stmt := top 27
abbrev s_law_taken : Stmt := top 28
abbrev s_law_due_put : Stmt := top 29
abbrev s_law_place : Stmt := top 30
abbrev s_law_held : Stmt := top 31
abbrev s_law_asked : Stmt := top 32
abbrev s_law : Stmt := top 33
abbrev s_PinThere_init : Stmt := inClass (top 4) 0
abbrev s_SpotTaken_init : Stmt := inClass (top 5) 0
abbrev s_NoPin_init : Stmt := inClass (top 6) 0
abbrev s_PinBusy_init : Stmt := inClass (top 7) 0
abbrev s_Frame_init : Stmt := inClass (top 14) 0
abbrev s_Frame_put_pin : Stmt := inClass (top 14) 1
abbrev s_Frame_check_pin : Stmt := inClass (top 14) 4
abbrev s_Frame_take_pin : Stmt := inClass (top 14) 6
abbrev s_Frame_pins : Stmt := inClass (top 14) 7
abbrev s_Frame_place : Stmt := inClass (top 14) 9
abbrev s_Frame_ways : Stmt := inClass (top 14) 10
abbrev s_Hold_ways : Stmt := inClass (top 16) 0
abbrev s_Roller_init : Stmt := inClass (top 17) 0
abbrev s_Roller_ways : Stmt := inClass (top 17) 1
abbrev s_Fixed_ways : Stmt := inClass (top 18) 0
section
variable {P : Program} {w : World} {K : PySem.W.Frag} {mg : Str → Option Value} {base : Heap} {CX : CXT}
def Nm (H : Hp) (v : V) (q : Int × Int) : Prop := ∃ p, v = .ref p ∧ H p = some (.tup [.int q.1, .int q.2])
theorem Nm.same {H H' : Hp} {v : V} {q : Int × Int} (h : Nm H v q) (s : Same H H') : Nm H' v q := by
  obtain ⟨p, e, k⟩ := h
  exact ⟨p, e, s _ _ k⟩
structure Okn (k : Nat) (q : Int × Int) : Prop where
  pos : 0 < q.2
  top : intBits q.1 ≤ k
  bot : intBits q.2 ≤ k
theorem same_new {H : Hp} {p : Addr} (h : H p = none) (o : HO) : Same H (upd H p o) := fun b u q => by rw [upd_ne (ne_of_none q h)]; exact q
def gives (H : Hp) (Q : VK) (q : Int × Int) : Prop := ∀ (p : Addr) (H' : Hp), Same H H' → H' p = some (.tup [.int q.1, .int q.2]) → Q (.ref p) H'
def spShared : Sp := fun vs H Q _ => ∃ a b : Int, vs = [.int a, .int b] ∧ Q (.int (gz a b)) H
def spLowest : Sp := fun vs H Q _ => ∃ t b : Int, vs = [.int t, .int b] ∧ b ≠ 0 ∧ intBits b ≤ 9000 ∧ gives H Q (low t b)
def spBin (f : Int × Int → Int × Int → Int × Int) : Sp := fun vs H Q _ => ∃ (u v : V) (x y : Int × Int), vs = [u, v] ∧ Nm H u x ∧ Nm H v y ∧ Okn 4000 x ∧ Okn 4000 y ∧ gives H Q (f x y)
def addQ (x y : Int × Int) : Int × Int := low (x.1 * y.2 + y.1 * x.2) (x.2 * y.2)
def subQ (x y : Int × Int) : Int × Int := low (x.1 * y.2 - y.1 * x.2) (x.2 * y.2)
def mulQ (x y : Int × Int) : Int × Int := low (x.1 * y.1) (x.2 * y.2)
theorem at0 {a b : V} : atI [a, b] 0 = some a := rfl
theorem at1 {a b : V} : atI [a, b] 1 = some b := rfl
def spExcI (C : Addr) (f : Str) : Sp := fun vs H Q _ => ∃ (a : Addr) (v : V), vs = [.ref a, v] ∧ H a = some (excN C a none) ∧ ∀ (d : Addr) (H' : Hp), (∀ b o, b ≠ a → H b = some o → H' b = some o) → H d = none → H' d = some (xdO d [(f, v)]) → H' a = some (excN C a (some d)) → Q .non H'
def raisesF (H : Hp) (E : XK) (C : Addr) (f : Str) (v : V) : Prop := ∀ (d : Addr) (H' : Hp), Same H H' → H d = none → H' d = some (xdO d [(f, v)]) → E (.ref C) (some d) H'
theorem raisesF.go {H : Hp} {E : XK} {C : Addr} {f : Str} {v : V} (h : raisesF H E C f v) : ∀ e, H e = none → spExcI C f [.ref e, v] (upd H e (excN C e none)) (fun v' H2 => v' = .non ∧ ∃ dx, H2 e = some (excN C e dx) ∧ E (.ref C) dx (dropH H2 e)) E0 := fun e ne => by
  refine ⟨e, v, rfl, upd_same, fun d H' k nd hd he => ⟨rfl, some d, he, ?_⟩⟩
  have de : d ≠ e := fun z => by rw [z, upd_same] at nd; cases nd
  rw [upd_ne de] at nd
  refine h d (dropH H' e) (fun b o z => ?_) nd ?_
  · have be : b ≠ e := ne_of_none z ne
    rw [dropH_ne be]
    exact k b o be (by rw [upd_ne be]; exact z)
  · rw [dropH_ne de]
    exact hd
theorem look1 (f : Str) (v : V) : List.lookup f [(f, v)] = some v := by simp [List.lookup]
theorem sc_PinThere_init : FnScope ["self", "pin"] ["self", "pin"] (defScope s_PinThere_init) := ⟨rfl, rfl, rfl, by decide +kernel, rfl, by decide +kernel, by decide +kernel⟩
theorem ok_PinThere_init {f : Addr} {fd : FuncData} {C Y : Addr} (F : Fun K "__init__" "PinThere.__init__" s_PinThere_init f fd) (hY : YardI K Y) (m_YardError : mg "YardError" = some (.ref Y)) (xf : TyExc.ExcF K C "pin") (hv : PySem.W.mroIn K C (.type "ValueError") = some true) : FnOk P w K mg base (CXr P w) 1 f fd ["self", "pin"] (spExcI C "pin") := by
  refine fun_okF F sc_PinThere_init (fun vs H Q E h => ?_) (fun cdv A outer s H vs Q E hr h => ?_)
  · obtain ⟨a, v, rfl, _⟩ := h
    rfl
  obtain ⟨a, v, rfl, ea, q⟩ := h
  refine ⟨_, (pss_cons (ps_expr (pe_excI hY m_YardError (pac (pv 0) (pac (pv 1) pa_nil))))
    (pss_one (ps_excF (pv 0) (pv 1) rfl))), ?_⟩
  refine ⟨_, rfl, _, rfl, a, C, none, [v], rfl, ea, xf.k, hv, (by show 1 ≤ sizeLine; decide), ?_⟩
  refine ⟨_, rfl, _, rfl, a, C, rfl, xf, .inl ⟨ea, fun d nd ne => ?_⟩⟩
  refine q d _ (fun b o n e => by rw [upd_ne n, upd_ne (ne_of_none e nd)]; exact e) nd ?_ upd_same
  rw [upd_ne ne, upd_same]
theorem sc_SpotTaken_init : FnScope ["self", "pin"] ["self", "pin"] (defScope s_SpotTaken_init) := ⟨rfl, rfl, rfl, by decide +kernel, rfl, by decide +kernel, by decide +kernel⟩
theorem ok_SpotTaken_init {f : Addr} {fd : FuncData} {C Y : Addr} (F : Fun K "__init__" "SpotTaken.__init__" s_SpotTaken_init f fd) (hY : YardI K Y) (m_YardError : mg "YardError" = some (.ref Y)) (xf : TyExc.ExcF K C "pin") (hv : PySem.W.mroIn K C (.type "ValueError") = some true) : FnOk P w K mg base (CXr P w) 1 f fd ["self", "pin"] (spExcI C "pin") := by
  refine fun_okF F sc_SpotTaken_init (fun vs H Q E h => ?_) (fun cdv A outer s H vs Q E hr h => ?_)
  · obtain ⟨a, v, rfl, _⟩ := h
    rfl
  obtain ⟨a, v, rfl, ea, q⟩ := h
  refine ⟨_, (pss_cons (ps_expr (pe_excI hY m_YardError (pac (pv 0) (pac (pv 1) pa_nil))))
    (pss_one (ps_excF (pv 0) (pv 1) rfl))), ?_⟩
  refine ⟨_, rfl, _, rfl, a, C, none, [v], rfl, ea, xf.k, hv, (by show 1 ≤ sizeLine; decide), ?_⟩
  refine ⟨_, rfl, _, rfl, a, C, rfl, xf, .inl ⟨ea, fun d nd ne => ?_⟩⟩
  refine q d _ (fun b o n e => by rw [upd_ne n, upd_ne (ne_of_none e nd)]; exact e) nd ?_ upd_same
  rw [upd_ne ne, upd_same]
theorem sc_NoPin_init : FnScope ["self", "pin"] ["self", "pin"] (defScope s_NoPin_init) := ⟨rfl, rfl, rfl, by decide +kernel, rfl, by decide +kernel, by decide +kernel⟩
theorem ok_NoPin_init {f : Addr} {fd : FuncData} {C Y : Addr} (F : Fun K "__init__" "NoPin.__init__" s_NoPin_init f fd) (hY : YardI K Y) (m_YardError : mg "YardError" = some (.ref Y)) (xf : TyExc.ExcF K C "pin") (hv : PySem.W.mroIn K C (.type "ValueError") = some true) : FnOk P w K mg base (CXr P w) 1 f fd ["self", "pin"] (spExcI C "pin") := by
  refine fun_okF F sc_NoPin_init (fun vs H Q E h => ?_) (fun cdv A outer s H vs Q E hr h => ?_)
  · obtain ⟨a, v, rfl, _⟩ := h
    rfl
  obtain ⟨a, v, rfl, ea, q⟩ := h
  refine ⟨_, (pss_cons (ps_expr (pe_excI hY m_YardError (pac (pv 0) (pac (pv 1) pa_nil))))
    (pss_one (ps_excF (pv 0) (pv 1) rfl))), ?_⟩
  refine ⟨_, rfl, _, rfl, a, C, none, [v], rfl, ea, xf.k, hv, (by show 1 ≤ sizeLine; decide), ?_⟩
  refine ⟨_, rfl, _, rfl, a, C, rfl, xf, .inl ⟨ea, fun d nd ne => ?_⟩⟩
  refine q d _ (fun b o n e => by rw [upd_ne n, upd_ne (ne_of_none e nd)]; exact e) nd ?_ upd_same
  rw [upd_ne ne, upd_same]
def spExcI2 (C : Addr) (f g : Str) : Sp := fun vs H Q _ => ∃ (a : Addr) (v u : V), vs = [.ref a, v, u] ∧ H a = some (excN C a none) ∧ ∀ (d : Addr) (H' : Hp), (∀ b o, b ≠ a → H b = some o → H' b = some o) → H d = none → H' d = some (xdO d [(f, v), (g, u)]) → H' a = some (excN C a (some d)) → Q .non H'
def raises2 (H : Hp) (E : XK) (C : Addr) (f g : Str) (v u : V) : Prop := ∀ (d : Addr) (H' : Hp), Same H H' → H d = none → H' d = some (xdO d [(f, v), (g, u)]) → E (.ref C) (some d) H'
theorem raises2.go {H : Hp} {E : XK} {C : Addr} {f g : Str} {v u : V} (h : raises2 H E C f g v u) : ∀ e, H e = none → spExcI2 C f g [.ref e, v, u] (upd H e (excN C e none)) (fun v' H2 => v' = .non ∧ ∃ dx, H2 e = some (excN C e dx) ∧ E (.ref C) dx (dropH H2 e)) E0 := fun e ne => by
  refine ⟨e, v, u, rfl, upd_same, fun d H' k nd hd he => ⟨rfl, some d, he, ?_⟩⟩
  have de : d ≠ e := fun z => by rw [z, upd_same] at nd; cases nd
  rw [upd_ne de] at nd
  refine h d (dropH H' e) (fun b o z => ?_) nd ?_
  · have be : b ≠ e := ne_of_none z ne
    rw [dropH_ne be]
    exact k b o be (by rw [upd_ne be]; exact z)
  · rw [dropH_ne de]
    exact hd
theorem put_pb (v u : V) : putF ("bar" : Str) u [(("pin" : Str), v)] = [(("pin" : Str), v), (("bar" : Str), u)] := by
  have h : (("pin" : Str) = "bar") = False := by simp; decide +kernel
  have h' : (("bar" : Str) = "pin") = False := by simp; decide +kernel
  simp [putF, h, h']
theorem sc_PinBusy_init : FnScope ["self", "pin", "bar"] ["self", "pin", "bar"] (defScope s_PinBusy_init) := ⟨rfl, rfl, rfl, by decide +kernel, rfl, by decide +kernel, by decide +kernel⟩
theorem ok_PinBusy_init {f : Addr} {fd : FuncData} {C Y : Addr} (F : Fun K "__init__" "PinBusy.__init__" s_PinBusy_init f fd) (hY : YardI K Y) (m_YardError : mg "YardError" = some (.ref Y)) (xf : TyExc.ExcF K C "pin") (xg : TyExc.ExcF K C "bar") (hv : PySem.W.mroIn K C (.type "ValueError") = some true) : FnOk P w K mg base (CXr P w) 1 f fd ["self", "pin", "bar"] (spExcI2 C "pin" "bar") := by
  refine fun_okF F sc_PinBusy_init (fun vs H Q E h => ?_) (fun cdv A outer s H vs Q E hr h => ?_)
  · obtain ⟨a, v, u, rfl, _⟩ := h
    rfl
  obtain ⟨a, v, u, rfl, ea, q⟩ := h
  refine ⟨_, (pss_cons (ps_expr (pe_excI hY m_YardError (pac (pv 0) (pac (pv 1) (pac (pv 2) pa_nil)))))
    (pss_cons (ps_excF (pv 0) (pv 1) rfl)
    (pss_one (ps_excF (pv 0) (pv 2) rfl)))), ?_⟩
  refine ⟨_, rfl, _, rfl, _, rfl, a, C, none, [v, u], rfl, ea, xf.k, hv, (by show 2 ≤ sizeLine; decide), ?_⟩
  refine ⟨_, rfl, _, rfl, a, C, rfl, xf, .inl ⟨ea, fun d nd ne => ?_⟩⟩
  refine ⟨_, rfl, _, rfl, a, C, rfl, xg, .inr ⟨d, [("pin", v)], upd_same, ne, by rw [upd_ne ne, upd_same], (by show 1 < 1000; decide), ?_⟩⟩
  rw [put_pb]
  refine q d _ (fun b o n e => ?_) nd upd_same (by rw [upd_ne (Ne.symm ne), upd_same])
  have bd := ne_of_none e nd
  rw [upd_ne bd, upd_ne n, upd_ne bd]
  exact e
def spFInit (K : PySem.W.Frag) (C : Addr) : Sp := fun vs H Q _ => ∃ (a dx : Addr), vs = [.ref a] ∧ H a = some (.ins C dx []) ∧
  ∀ (pP pW pB : Addr) (H' : Hp), KSame a H H' → H pP = none → H pW = none → H pB = none → FrR K H' C a dx pP pW pB [] [] [] [] [] → Q .non H'
theorem putF_p1 {x : V} : putF "pin_places" x [] = ([("pin_places", x)] : List (Str × V)) := rfl
theorem putF_w1 {x y : V} : putF "pin_ways" y [("pin_places", x)] = ([("pin_places", x), ("pin_ways", y)] : List (Str × V)) := by
  simp only [putF]
  rw [if_neg (by decide)]
theorem putF_e1 {x y z : V} : putF "bar_ends" z [("pin_places", x), ("pin_ways", y)] = ([("pin_places", x), ("pin_ways", y), ("bar_ends", z)] : List (Str × V)) := by
  simp only [putF]
  rw [if_neg (by decide), if_neg (by decide)]
theorem sc_Frame_init : FnScope ["self"] ["self"] (defScope s_Frame_init) := ⟨rfl, rfl, rfl, by decide +kernel, rfl, by decide +kernel, by decide +kernel⟩
theorem ok_Frame_init {f : Addr} {fd : FuncData} {C : Addr} (F : Fun K "__init__" "Frame.__init__" s_Frame_init f fd) (fc : FrC K C) : FnOk P w K mg base (CXr P w) 1 f fd ["self"] (spFInit K C) := by
  refine fun_okF F sc_Frame_init (fun vs H Q E h => ?_) (fun cdv A outer s H vs Q E hr h => ?_)
  · obtain ⟨a, dx, rfl, _⟩ := h
    rfl
  obtain ⟨a, dx, rfl, ha, q⟩ := h
  refine ⟨_, (pss_cons (ps_fld (pv 0) pe_dnewK rfl)
    (pss_cons (ps_fld (pv 0) pe_dnewK rfl)
    (pss_one (ps_fld (pv 0) pe_dnewK rfl)))), ?_⟩
  intro pP nP
  have aP : a ≠ pP := ne_of_none ha nP
  refine ⟨_, rfl, a, C, dx, _, rfl, (by rw [upd_ne aP]; exact ha), fc.cls, fc.pl, (by show 0 < 1000; decide), ?_⟩
  rw [putF_p1]
  generalize e1 : upd (upd H pP (.dK [])) a (.ins C dx [("pin_places", .ref pP)]) = H1
  have o1 : H1 a = some (.ins C dx [("pin_places", .ref pP)]) := by rw [← e1, upd_same]
  have p1 : H1 pP = some (.dK []) := by rw [← e1, upd_ne (Ne.symm aP), upd_same]
  have k1 : ∀ b o, b ≠ a → H b = some o → H1 b = some o := fun b o n e => by rw [← e1, upd_ne n, upd_ne (ne_of_none e nP)]; exact e
  intro pW nW
  have aW : a ≠ pW := ne_of_none o1 nW
  refine ⟨_, rfl, a, C, dx, _, rfl, (by rw [upd_ne aW]; exact o1), fc.cls, fc.wy, (by show 1 < 1000; decide), ?_⟩
  rw [putF_w1]
  generalize e2 : upd (upd H1 pW (.dK [])) a (.ins C dx [("pin_places", .ref pP), ("pin_ways", .ref pW)]) = H2
  have PW : pP ≠ pW := ne_of_none p1 nW
  have o2 : H2 a = some (.ins C dx [("pin_places", .ref pP), ("pin_ways", .ref pW)]) := by rw [← e2, upd_same]
  have w2 : H2 pW = some (.dK []) := by rw [← e2, upd_ne (Ne.symm aW), upd_same]
  have k2 : ∀ b o, b ≠ a → H1 b = some o → H2 b = some o := fun b o n e => by rw [← e2, upd_ne n, upd_ne (ne_of_none e nW)]; exact e
  intro pB nB
  have aB : a ≠ pB := ne_of_none o2 nB
  have p2 := k2 _ _ (Ne.symm aP) p1
  refine ⟨_, rfl, a, C, dx, _, rfl, (by rw [upd_ne aB]; exact o2), fc.cls, fc.br, (by show 2 < 1000; decide), ?_⟩
  rw [putF_e1]
  have PB : pP ≠ pB := ne_of_none p2 nB
  have WB : pW ≠ pB := ne_of_none w2 nB
  have k3 : ∀ b o, b ≠ a → H2 b = some o → (upd (upd H2 pB (.dK [])) a (.ins C dx [("pin_places", .ref pP), ("pin_ways", .ref pW), ("bar_ends", .ref pB)])) b = some o := fun b o n e => by rw [upd_ne n, upd_ne (ne_of_none e nB)]; exact e
  have f1 : ∀ b, b ≠ a → H1 b = none → H b = none := fun b n e => by
    cases z : H b with
    | none => rfl
    | some o => rw [k1 b o n z] at e; cases e
  have f2 : ∀ b, b ≠ a → H2 b = none → H b = none := fun b n e => by
    cases z : H b with
    | none => rfl
    | some o => rw [k2 b o n (k1 b o n z)] at e; cases e
  refine q pP pW pB _ (fun b o n e => k3 b o n (k2 b o n (k1 b o n e))) nP (f1 _ (Ne.symm aW) nW) (f2 _ (Ne.symm aB) nB) ⟨upd_same, k3 _ _ (Ne.symm aP) p2, k3 _ _ (Ne.symm aW) w2, ?_, PW, PB, WB, .nil, .nil⟩
  rw [upd_ne (Ne.symm aB), upd_same]
def spPins (K : PySem.W.Frag) (C : Addr) : Sp := fun vs H Q _ => ∃ (a dx pP pW pB : Addr) (ps : List (Str × Pt)) (bs : List (Str × Str × Str)) (kP kW kB : List (Key × V)), vs = [.ref a] ∧ FrR K H C a dx pP pW pB ps bs kP kW kB ∧
  ∀ (l : Addr) (H' : Hp), Same H H' → H l = none → H' l = some (.lst ((ps.map (·.1)).map V.str)) → Q (.ref l) H'
theorem sc_Frame_pins : FnScope ["self"] ["self"] (defScope s_Frame_pins) := ⟨rfl, rfl, rfl, by decide +kernel, rfl, by decide +kernel, by decide +kernel⟩
theorem ok_Frame_pins {f : Addr} {fd : FuncData} {C : Addr} (F : Fun K "pins" "Frame.pins" s_Frame_pins f fd) (fc : FrC K C) (m_list : mg "list" = none) : FnOk P w K mg base (CXr P w) 1 f fd ["self"] (spPins K C) := by
  refine fun_okF F sc_Frame_pins (fun vs H Q E h => ?_) (fun cdv A outer s H vs Q E hr h => ?_)
  · obtain ⟨a, dx, pP, pW, pB, ps, bs, kP, kW, kB, rfl, _⟩ := h
    rfl
  obtain ⟨a, dx, pP, pW, pB, ps, bs, kP, kW, kB, rfl, R, q⟩ := h
  refine ⟨_, (pss_one (ps_ret (pe_callTy (call_listD rfl) rfl m_list b_list (pac (pe_fld (pv 0) rfl) pa_nil)))), ?_⟩
  refine ⟨_, rfl, a, C, dx, _, _, rfl, R.obj, fc.cls, fc.pl, rfl, pP, kP, rfl, .inl R.pl, fun l nl => ?_⟩
  refine q l _ (same_new nl _) nl ?_
  rw [upd_same]
  have e : kP.map (fun kv => kV kv.1) = (ps.map (·.1)).map V.str := by
    have z : kP.map (fun kv => kV kv.1) = (kP.map (·.1)).map kV := by rw [List.map_map]; rfl
    rw [z, R.keysP, List.map_map]
    rfl
  rw [e]
def spCheckPinX (K : PySem.W.Frag) (C CN : Addr) : Sp := fun vs H Q E => ∃ (a dx pP pW pB : Addr) (ps : List (Str × Pt)) (bs : List (Str × Str × Str)) (kP kW kB : List (Key × V)) (x : Str), vs = [.ref a, .str x] ∧ FrR K H C a dx pP pW pB ps bs kP kW kB ∧ (x ∈ ps.map (·.1) → Q .non H) ∧ (x ∉ ps.map (·.1) → raisesF H E CN "pin" (.str x))
theorem sc_Frame_check_pin : FnScope ["self", "pin"] ["self", "pin"] (defScope s_Frame_check_pin) := ⟨rfl, rfl, rfl, by decide +kernel, rfl, by decide +kernel, by decide +kernel⟩
theorem ok_Frame_check_pin {f : Addr} {fd : FuncData} {C CN fN : Addr} {fdN : FuncData} (F : Fun K "check_pin" "Frame.check_pin" s_Frame_check_pin f fd) (fc : FrC K C) (m_NoPin : mg "NoPin" = some (.ref CN)) (X_NoPin : ExcC K CN fN) (G_NoPin_init : FnOk P w K mg base (CXr P w) 1 fN fdN ["self", "pin"] (spExcI CN "pin")) (b_NoPin_init : Binds K fdN ["self", "pin"] []) : FnOk P w K mg base (CXr P w) 3 f fd ["self", "pin"] (spCheckPinX K C CN) := by
  refine fun_okX F sc_Frame_check_pin (fun vs H Q E h => ?_) (fun cdv A outer s H vs Q E hr h => ?_)
  · obtain ⟨a, dx, pP, pW, pB, ps, bs, kP, kW, kB, x, rfl, _⟩ := h
    rfl
  obtain ⟨a, dx, pP, pW, pB, ps, bs, kP, kW, kB, x, rfl, R, q1, q2⟩ := h
  refine ⟨_, (pss_one (ps_if (pt_cmp (pc_dnotin (hu_of hr) (pv 1) (pe_fld (pv 0) rfl))) (pss_one (ps_raiseI X_NoPin G_NoPin_init (hr.mono (by decide)) b_NoPin_init m_NoPin (pac (pv 1) pa_nil))) pss_nil)), ?_⟩
  refine ⟨_, rfl, _, rfl, a, C, dx, _, _, rfl, R.obj, fc.cls, fc.pl, rfl, pP, _, rfl, DGet.k (k := .inr x) R.pl, _, rfl, ?_⟩
  rw [R.pin x]
  by_cases hx : x ∈ ps.map (·.1)
  · rw [decide_eq_true hx]
    exact q1 hx
  · rw [decide_eq_false hx]
    exact ⟨_, rfl, (by show 1 ≤ sizeLine; decide), (q2 hx).go⟩
def spPlaceX (K : PySem.W.Frag) (C CN : Addr) : Sp := fun vs H Q E => ∃ (a dx pP pW pB : Addr) (ps : List (Str × Pt)) (bs : List (Str × Str × Str)) (kP kW kB : List (Key × V)) (x : Str), vs = [.ref a, .str x] ∧ FrR K H C a dx pP pW pB ps bs kP kW kB ∧ (ps.map (·.1)).Nodup ∧
  (∀ p, (x, p) ∈ ps → ∀ v, Spot K H v p → Q v H) ∧ (x ∉ ps.map (·.1) → raisesF H E CN "pin" (.str x))
theorem sc_Frame_place : FnScope ["self", "pin"] ["self", "pin"] (defScope s_Frame_place) := ⟨rfl, rfl, rfl, by decide +kernel, rfl, by decide +kernel, by decide +kernel⟩
theorem ok_Frame_place {f : Addr} {fd : FuncData} {C CN : Addr} (F : Fun K "place" "Frame.place" s_Frame_place f fd) (fc : FrC K C) (MC : MtdOk P w K mg base (CXr P w) 3 C "check_pin" ["self", "pin"] (spCheckPinX K C CN)) : FnOk P w K mg base (CXr P w) 4 f fd ["self", "pin"] (spPlaceX K C CN) := by
  refine fun_okX F sc_Frame_place (fun vs H Q E h => ?_) (fun cdv A outer s H vs Q E hr h => ?_)
  · obtain ⟨a, dx, pP, pW, pB, ps, bs, kP, kW, kB, x, rfl, _⟩ := h
    rfl
  have px : Passes (CXr P w) (cxr P w K mg base ["self", "pin"] "Frame.place" (defScope s_Frame_place) f cdv A outer s H E) E := pass_up
  refine ⟨_, (pss_cons (ps_expr (pe_mtd (k := 3) (pv 0) (hr.mono (by decide)) px (pac (pv 1) pa_nil)))
    (pss_one (ps_ret (pe_dget (hu_of hr) (pe_fld (pv 0) rfl) (pv 1) (fun _ _ => rfl))))), ?_⟩
  clear px
  obtain ⟨a, dx, pP, pW, pB, ps, bs, kP, kW, kB, x, rfl, R, nd, q1, q2⟩ := h
  refine ⟨_, rfl, a, C, dx, _, _, _, rfl, R.obj, rfl, MC, _, rfl, a, dx, pP, pW, pB, ps, bs, kP, kW, kB, x, rfl, R, fun hx => ?_, q2⟩
  obtain ⟨⟨x', p⟩, hm, e⟩ := List.mem_map.mp hx
  have e' : x' = x := e
  subst e'
  obtain ⟨v, ev, hv⟩ := R.place nd hm
  exact ⟨_, rfl, a, C, dx, _, _, rfl, R.obj, fc.cls, fc.pl, rfl, _, rfl, pP, v, rfl, (by rw [← ev]; exact DGet.k (k := .inr x') R.pl), q1 p hm v hv⟩
def spWaysX (K : PySem.W.Frag) (C CN : Addr) : Sp := fun vs H Q E => ∃ (a dx pP pW pB : Addr) (ps : List (Str × Pt)) (bs : List (Str × Str × Str)) (kP kW kB : List (Key × V)) (pw : List (Str × List (Rat × Rat))) (x : Str), vs = [.ref a, .str x] ∧ FrR K H C a dx pP pW pB ps bs kP kW kB ∧ WyR K H pw kW ∧ pw.map (·.1) = ps.map (·.1) ∧ (ps.map (·.1)).Nodup ∧
  (∀ ws, (x, ws) ∈ pw → ∀ (l : Addr) (us : List V) (H' : Hp), Same H H' → H l = none → H' l = some (.lst us) → PtsR K H' us ws → Q (.ref l) H') ∧ (x ∉ ps.map (·.1) → raisesF H E CN "pin" (.str x))
theorem sc_Frame_ways : FnScope ["self", "pin"] ["self", "pin"] (defScope s_Frame_ways) := ⟨rfl, rfl, rfl, by decide +kernel, rfl, by decide +kernel, by decide +kernel⟩
theorem ok_Frame_ways {f : Addr} {fd : FuncData} {C CN : Addr} (F : Fun K "ways" "Frame.ways" s_Frame_ways f fd) (fc : FrC K C) (m_list : mg "list" = none) (MC : MtdOk P w K mg base (CXr P w) 3 C "check_pin" ["self", "pin"] (spCheckPinX K C CN)) : FnOk P w K mg base (CXr P w) 4 f fd ["self", "pin"] (spWaysX K C CN) := by
  refine fun_okX F sc_Frame_ways (fun vs H Q E h => ?_) (fun cdv A outer s H vs Q E hr h => ?_)
  · obtain ⟨a, dx, pP, pW, pB, ps, bs, kP, kW, kB, pw, x, rfl, _⟩ := h
    rfl
  have px : Passes (CXr P w) (cxr P w K mg base ["self", "pin"] "Frame.ways" (defScope s_Frame_ways) f cdv A outer s H E) E := pass_up
  refine ⟨_, (pss_cons (ps_expr (pe_mtd (k := 3) (pv 0) (hr.mono (by decide)) px (pac (pv 1) pa_nil)))
    (pss_one (ps_ret (pe_callTy call_listL rfl m_list b_list (pac (pe_dget (hu_of hr) (pe_fld (pv 0) rfl) (pv 1) (fun _ _ => rfl)) pa_nil))))), ?_⟩
  clear px
  obtain ⟨a, dx, pP, pW, pB, ps, bs, kP, kW, kB, pw, x, rfl, R, W, ew, nd, q1, q2⟩ := h
  refine ⟨_, rfl, a, C, dx, _, _, _, rfl, R.obj, rfl, MC, _, rfl, a, dx, pP, pW, pB, ps, bs, kP, kW, kB, x, rfl, R, fun hx => ?_, q2⟩
  rw [← ew] at hx nd
  obtain ⟨⟨x', ws⟩, hm, e⟩ := List.mem_map.mp hx
  have e' : x' = x := e
  subst e'
  obtain ⟨v, ev, l, us, el, hl, pt⟩ := paired_val W nd hm
  have el' : v = .ref l := el
  subst el'
  refine ⟨_, rfl, a, C, dx, _, _, rfl, R.obj, fc.cls, fc.wy, rfl, _, rfl, pW, .ref l, rfl, (by rw [← ev]; exact DGet.k (k := .inr x') R.wy), ?_⟩
  exact ⟨l, us, rfl, SqL.of hl, fun l2 n2 => q1 ws hm l2 us _ (same_new n2 _) n2 upd_same (pt.same (same_new n2 _))⟩
def AnsR (K : PySem.W.Frag) (H : Hp) (Q : VK) (ws : List (Rat × Rat)) : Prop := ∀ (l : Addr) (us : List V) (H' : Hp), Same H H' → H l = none → H' l = some (.lst us) → PtsR K H' us ws → Q (.ref l) H'
def spHold (K : PySem.W.Frag) : Sp := fun vs H Q _ => ∃ a : Addr, vs = [.ref a] ∧ AnsR K H Q []
theorem sc_Hold_ways : FnScope ["self"] ["self"] (defScope s_Hold_ways) := ⟨rfl, rfl, rfl, by decide +kernel, rfl, by decide +kernel, by decide +kernel⟩
theorem ok_Hold_ways {f : Addr} {fd : FuncData} (F : Fun K "ways" "Hold.ways" s_Hold_ways f fd) : FnOk P w K mg base (CXr P w) 1 f fd ["self"] (spHold K) := by
  refine fun_okF F sc_Hold_ways (fun vs H Q E h => ?_) (fun cdv A outer s H vs Q E hr h => ?_)
  · obtain ⟨a, rfl, _⟩ := h
    rfl
  obtain ⟨a, rfl, q⟩ := h
  refine ⟨_, (pss_one (ps_ret (pe_lst pa_nil))), ?_⟩
  exact ⟨(by show 0 ≤ sizeLine; decide), fun l hl => q l [] _ (same_new hl _) hl upd_same .nil⟩
theorem qr_zero {x : Rat} (h : (qr x).1 = 0) : x = 0 := by
  have := vl_qr x
  unfold vl at this
  rw [h] at this
  have z := ratz (r := x)
  have e : ((0 : Int) : Rat) = 0 := by rfl
  rw [e] at this
  grind
def spRInit (K : PySem.W.Frag) (C : Addr) : Sp := fun vs H Q _ => ∃ (a dx : Addr) (ux uy : V) (x y : Rat), vs = [.ref a, ux, uy] ∧ H a = some (.ins C dx []) ∧ NmR K H ux x ∧ NmR K H uy y ∧ ¬ (x = 0 ∧ y = 0) ∧ ∀ p, H p = none → Q .non (upd (upd H p (.tup [ux, uy])) a (.ins C dx [("way", .ref p)]))
theorem sc_Roller_init : FnScope ["self", "x", "y"] ["self", "x", "y"] (defScope s_Roller_init) := ⟨rfl, rfl, rfl, by decide +kernel, rfl, by decide +kernel, by decide +kernel⟩
theorem ok_Roller_init {f : Addr} {fd : FuncData} {C : Addr} (F : Fun K "__init__" "Roller.__init__" s_Roller_init f fd) (cl : Cls K C) (nw : NoAttr K C "way") : FnOk P w K mg base (CXr P w) 1 f fd ["self", "x", "y"] (spRInit K C) := by
  refine fun_okF F sc_Roller_init (fun vs H Q E h => ?_) (fun cdv A outer s H vs Q E hr h => ?_)
  · obtain ⟨a, dx, ux, uy, x, y, rfl, _⟩ := h
    rfl
  obtain ⟨a, dx, ux, uy, x, y, rfl, ha, ⟨p1, rfl, h1⟩, ⟨p2, rfl, h2⟩, nz, q⟩ := h
  have sz : (2 : Nat) ≤ sizeLine := by decide
  refine ⟨_, (pss_cons (ps_if (PW.pt (pw_and (pt_cmpR op_eq (pe_ix ix_tup (pv 1) pe_int (fun _ _ => rfl)) pe_int (nomark _)) (pw_and1 (pt_cmpR op_eq (pe_ix ix_tup (pv 2) pe_int (fun _ _ => rfl)) pe_int (nomark _))))) (pss_one (ps_never)) pss_nil)
    (pss_one (ps_fld (pv 0) (pe_tup (pac (pv 1) (pac (pv 2) pa_nil))) rfl))), ?_⟩
  refine ⟨_, rfl, p1, _, _, _, rfl, rfl, h1, at0, rfl, _, rfl, ?_⟩
  refine ite2 (fun c1 => ?_) (fun c1 => ?_)
  · have e1 : (qr x).1 = 0 := by simpa using of_decide_eq_true c1
    refine ⟨_, rfl, p2, _, _, _, rfl, rfl, h2, at0, rfl, _, rfl, ?_⟩
    refine ite2 (fun c2 => ?_) (fun c2 => ?_)
    · have e2 : (qr y).1 = 0 := by simpa using of_decide_eq_true c2
      exact absurd ⟨qr_zero e1, qr_zero e2⟩ nz
    · exact ⟨_, rfl, _, rfl, sz, fun p hp => ⟨_, rfl, a, C, dx, [], rfl, (by rw [upd_ne (ne_of_none ha hp)]; exact ha), cl, nw, (by show 0 < 1000; decide), q p hp⟩⟩
  · refine iteF ?_
    exact ⟨_, rfl, _, rfl, sz, fun p hp => ⟨_, rfl, a, C, dx, [], rfl, (by rw [upd_ne (ne_of_none ha hp)]; exact ha), cl, nw, (by show 0 < 1000; decide), q p hp⟩⟩
def spRWays (K : PySem.W.Frag) (C : Addr) : Sp := fun vs H Q _ => ∃ (a dx p : Addr) (w : Rat × Rat), vs = [.ref a] ∧ H a = some (.ins C dx [("way", .ref p)]) ∧ PtR K H (.ref p) w ∧ AnsR K H Q [w]
theorem sc_Roller_ways : FnScope ["self"] ["self"] (defScope s_Roller_ways) := ⟨rfl, rfl, rfl, by decide +kernel, rfl, by decide +kernel, by decide +kernel⟩
theorem ok_Roller_ways {f : Addr} {fd : FuncData} {C : Addr} (F : Fun K "ways" "Roller.ways" s_Roller_ways f fd) (cl : Cls K C) (nw : NoAttr K C "way") : FnOk P w K mg base (CXr P w) 1 f fd ["self"] (spRWays K C) := by
  refine fun_okF F sc_Roller_ways (fun vs H Q E h => ?_) (fun cdv A outer s H vs Q E hr h => ?_)
  · obtain ⟨a, dx, p, w, rfl, _⟩ := h
    rfl
  obtain ⟨a, dx, p, w, rfl, ha, hw, q⟩ := h
  refine ⟨_, (pss_one (ps_ret (pe_lst (pac (pe_fld (pv 0) rfl) pa_nil)))), ?_⟩
  refine ⟨_, rfl, a, C, dx, _, .ref p, rfl, ha, cl, nw, (by simp), (by show 1 ≤ sizeLine; decide), fun l hl => ?_⟩
  exact q l [.ref p] _ (same_new hl _) hl upd_same (.cons (hw.same (same_new hl _)) .nil)
def spFixed (K : PySem.W.Frag) : Sp := fun vs H Q _ => ∃ a : Addr, vs = [.ref a] ∧ AnsR K H Q [(1, 0), (0, 1)]
theorem qr_one : qr 1 = (1, 1) := by
  have := qr_int 1
  simpa using this
theorem qr_nought : qr 0 = (0, 1) := by
  have := qr_int 0
  simpa using this
theorem pt_mk {H : Hp} {p p1 p2 : Addr} {a b : Rat} {x y : Int × Int} (ea : qr a = x) (eb : qr b = y) (h : H p = some (.tup [.ref p1, .ref p2])) (h1 : H p1 = some (.tup [.int x.1, .int x.2])) (h2 : H p2 = some (.tup [.int y.1, .int y.2])) : PtR K H (.ref p) (a, b) :=
  ⟨p, .ref p1, .ref p2, rfl, SqT.of h, ⟨p1, rfl, by rw [ea]; exact SqT.of h1⟩, ⟨p2, rfl, by rw [eb]; exact SqT.of h2⟩⟩
theorem sc_Fixed_ways : FnScope ["self"] ["self"] (defScope s_Fixed_ways) := ⟨rfl, rfl, rfl, by decide +kernel, rfl, by decide +kernel, by decide +kernel⟩
theorem ok_Fixed_ways {f : Addr} {fd : FuncData} (F : Fun K "ways" "Fixed.ways" s_Fixed_ways f fd) : FnOk P w K mg base (CXr P w) 1 f fd ["self"] (spFixed K) := by
  refine fun_okF F sc_Fixed_ways (fun vs H Q E h => ?_) (fun cdv A outer s H vs Q E hr h => ?_)
  · obtain ⟨a, rfl, _⟩ := h
    rfl
  obtain ⟨a, rfl, q⟩ := h
  have sz : (2 : Nat) ≤ sizeLine := by decide
  refine ⟨_, (pss_one (ps_ret (pe_lst (pac (pe_tup (pac (pe_tup (pac pe_int (pac pe_int pa_nil))) (pac (pe_tup (pac pe_int (pac pe_int pa_nil))) pa_nil))) (pac (pe_tup (pac (pe_tup (pac pe_int (pac pe_int pa_nil))) (pac (pe_tup (pac pe_int (pac pe_int pa_nil))) pa_nil))) pa_nil))))), ?_⟩
  refine ⟨sz, fun p1 n1 => ?_⟩
  have s1 := same_new n1 (.tup [.int 1, .int 1])
  have e1 : upd H p1 (.tup [.int 1, .int 1]) p1 = some (.tup [.int 1, .int 1]) := upd_same
  generalize upd H p1 (.tup [.int 1, .int 1]) = H1 at s1 e1 ⊢
  refine ⟨sz, fun p2 n2 => ?_⟩
  have s2 := same_new n2 (.tup [.int 0, .int 1])
  have e2 : upd H1 p2 (.tup [.int 0, .int 1]) p2 = some (.tup [.int 0, .int 1]) := upd_same
  generalize upd H1 p2 (.tup [.int 0, .int 1]) = H2 at s2 e2 ⊢
  refine ⟨sz, fun p3 n3 => ?_⟩
  have s3 := same_new n3 (.tup [.ref p1, .ref p2])
  have e3 : upd H2 p3 (.tup [.ref p1, .ref p2]) p3 = some (.tup [.ref p1, .ref p2]) := upd_same
  generalize upd H2 p3 (.tup [.ref p1, .ref p2]) = H3 at s3 e3 ⊢
  refine ⟨sz, fun p4 n4 => ?_⟩
  have s4 := same_new n4 (.tup [.int 0, .int 1])
  have e4 : upd H3 p4 (.tup [.int 0, .int 1]) p4 = some (.tup [.int 0, .int 1]) := upd_same
  generalize upd H3 p4 (.tup [.int 0, .int 1]) = H4 at s4 e4 ⊢
  refine ⟨sz, fun p5 n5 => ?_⟩
  have s5 := same_new n5 (.tup [.int 1, .int 1])
  have e5 : upd H4 p5 (.tup [.int 1, .int 1]) p5 = some (.tup [.int 1, .int 1]) := upd_same
  generalize upd H4 p5 (.tup [.int 1, .int 1]) = H5 at s5 e5 ⊢
  refine ⟨sz, fun p6 n6 => ?_⟩
  have s6 := same_new n6 (.tup [.ref p4, .ref p5])
  have e6 : upd H5 p6 (.tup [.ref p4, .ref p5]) p6 = some (.tup [.ref p4, .ref p5]) := upd_same
  generalize upd H5 p6 (.tup [.ref p4, .ref p5]) = H6 at s6 e6 ⊢
  refine ⟨sz, fun l nl => ?_⟩
  have s7 := same_new nl (.lst [.ref p3, .ref p6])
  have e7 : upd H6 l (.lst [.ref p3, .ref p6]) l = some (.lst [.ref p3, .ref p6]) := upd_same
  generalize upd H6 l (.lst [.ref p3, .ref p6]) = H7 at s7 e7 ⊢
  have s16 := s1.trans (s2.trans (s3.trans (s4.trans (s5.trans s6))))
  have w1 : PtR K H7 (.ref p3) (1, 0) := pt_mk qr_one qr_nought (s7 _ _ (s6 _ _ (s5 _ _ (s4 _ _ e3)))) (s7 _ _ (s6 _ _ (s5 _ _ (s4 _ _ (s3 _ _ (s2 _ _ e1)))))) (s7 _ _ (s6 _ _ (s5 _ _ (s4 _ _ (s3 _ _ e2)))))
  have w2 : PtR K H7 (.ref p6) (0, 1) := pt_mk qr_nought qr_one (s7 _ _ e6) (s7 _ _ (s6 _ _ (s5 _ _ e4))) (s7 _ _ (s6 _ _ e5))
  exact q l [.ref p3, .ref p6] H7 (s16.trans s7) (s16.free nl) e7 (.cons w1 (.cons w2 .nil))
inductive PinT where
  | there | spot (z : Str) | many | done
def pinT (ps : List (Str × Pt)) (x : Str) (p : Pt) : PinT := if x ∈ ps.map (·.1) then .there else match ps.find? (fun z => decide (z.2 = p)) with
  | some z => .spot z.1
  | none => if 24 ≤ ps.length then .many else .done
def pinE (CP CS CT : Addr) (x : Str) (H : Hp) (E : XK) (q : Prop) : PinT → Prop
  | .there => raisesF H E CP "pin" (.str x)
  | .spot z => raisesF H E CS "pin" (.str z)
  | .many => ∀ H', Same H H' → E (.ref CT) none H'
  | .done => q
abbrev KyR {α : Type} (l : List (Str × α)) (kW : List (Key × V)) : Prop := Paired (fun (b : Str × α) (kv : Key × V) => kv.1 = (Sum.inr b.1 : Key) ∧ True) l kW
theorem KyR.keys {α : Type} {l : List (Str × α)} {kW : List (Key × V)} (h : KyR l kW) : kW.map (·.1) = (l.map (·.1)).map (fun b => (Sum.inr b : Key)) := by
  rw [paired_keys h, List.map_map]
  rfl
def HoldR (P : Program) (w : World) (K : PySem.W.Frag) (mg : Str → Option Value) (base : Heap) (H : Hp) (h : Addr) (ws : List (Rat × Rat)) : Prop := ∃ (Ch dxh : Addr) (fsh : List (Str × V)) (psh : List Str) (sph : Sp), H h = some (.ins Ch dxh fsh) ∧ fsh.lookup ("ways" : Str) = none ∧ MtdOk P w K mg base (CXr P w) 4 Ch "ways" psh sph ∧ ∀ H1, H1 h = some (.ins Ch dxh fsh) → SameT H H1 → ∀ Q' E2, AnsR K H1 Q' ws → sph [.ref h] H1 Q' E2
def HoldV (P : Program) (w : World) (K : PySem.W.Frag) (mg : Str → Option Value) (base : Heap) (H : Hp) (hv : V) (ws : List (Rat × Rat)) : Prop := (hv = .non ∧ ws = []) ∨ ∃ h, hv = .ref h ∧ HoldR P w K mg base H h ws
def spPutPinV (P : Program) (w : World) (K : PySem.W.Frag) (mg : Str → Option Value) (base : Heap) (C CP CS CT : Addr) : Sp := fun vs H Q E => ∃ (a dx pP pW pB : Addr) (ps : List (Str × Pt)) (bs : List (Str × Str × Str)) (kP kW kB : List (Key × V)) (x : Str) (u v : V) (p : Pt) (hv : V) (ws : List (Rat × Rat)), vs = [.ref a, .str x, u, v, hv] ∧ FrR K H C a dx pP pW pB ps bs kP kW kB ∧ KyR ps kW ∧
  NmK K H u p.1 ∧ NmK K H v p.2 ∧ ps.length < 500 ∧
  HoldV P w K mg base H hv ws ∧
  pinE CP CS CT x H E (∀ (H' : Hp) (kP' : List (Key × V)) (l2 : Addr) (us : List V), (∀ b o, b ≠ pP → b ≠ pW → H b = some o → H' b = some o) → FrR K H' C a dx pP pW pB (ps ++ [(x, p)]) bs kP' (kW ++ [(.inr x, .ref l2)]) kB → H l2 = none → H' l2 = some (.lst us) → PtsR K H' us ws → Q .non H') (pinT ps x p)
theorem sc_Frame_put_pin : FnScope ["self", "name", "x", "y", "hold", "pin", "spot"] ["self", "name", "x", "y", "hold"] (defScope s_Frame_put_pin) := ⟨rfl, rfl, rfl, by decide +kernel, rfl, by decide +kernel, by decide +kernel⟩
theorem ok_Frame_put_pin {f : Addr} {fd : FuncData} {C CP CS CT fP fS : Addr} {fdP fdS : FuncData} (F : FunD K "put_pin" "Frame.put_pin" s_Frame_put_pin f fd) (fc : FrC K C) {tkP : Tok} (m_MOST_PINS : mg "MOST_PINS" = some (.int 24 tkP)) (m_len : mg "len" = none) (m_list : mg "list" = none)
    (m_PinThere : mg "PinThere" = some (.ref CP)) (X_PinThere : ExcC K CP fP) (G_PinThere_init : FnOk P w K mg base (CXr P w) 1 fP fdP ["self", "pin"] (spExcI CP "pin")) (b_PinThere_init : Binds K fdP ["self", "pin"] [])
    (m_SpotTaken : mg "SpotTaken" = some (.ref CS)) (X_SpotTaken : ExcC K CS fS) (G_SpotTaken_init : FnOk P w K mg base (CXr P w) 1 fS fdS ["self", "pin"] (spExcI CS "pin")) (b_SpotTaken_init : Binds K fdS ["self", "pin"] [])
    (m_TooMany : mg "TooMany" = some (.ref CT)) (q_TooMany : PySem.W.excIn K CT bmV "ValueError.__new__" = true) : FnOk P w K mg base (CXr P w) 5 f fd ["self", "name", "x", "y", "hold"] (spPutPinV P w K mg base C CP CS CT) := by
  refine fn_thaw (sp' := fun vs H Q E1 => ∃ E, E1 = thE H E ∧ spPutPinV P w K mg base C CP CS CT vs H Q E) (fun vs H Q E h => ?_) (fun vs H Q E h => ⟨E, rfl, h⟩) (fun_okXD F sc_Frame_put_pin (fun vs H Q E h => ?_) (fun cdv A outer s H vs Q E hr h => ?_))
  · obtain ⟨a, dx, pP, pW, pB, ps, bs, kP, kW, kB, x, u, v, p, hvv, ws, rfl, _⟩ := h
    rfl
  · obtain ⟨E', _, a, dx, pP, pW, pB, ps, bs, kP, kW, kB, x, u, v, p, hvv, ws, rfl, _⟩ := h
    rfl
  have px : Passes (CXr P w) (cxr P w K mg base ["self", "name", "x", "y", "hold", "pin", "spot"] "Frame.put_pin" (defScope s_Frame_put_pin) f cdv A outer s H E) E := pass_up
  have L1 : 1 ≤ sizeLine := by decide
  refine ⟨_, (pss_cons (ps_if (pt_cmp (pc_din (hu_of hr) (pv 1) (pe_fld (pv 0) rfl))) (pss_one (ps_raiseI X_PinThere G_PinThere_init (hr.mono (by decide)) b_PinThere_init m_PinThere (pac (pv 1) pa_nil))) pss_nil)
    (pss_cons (ps_thaw (ps_for PassesOwn.leaving rfl (pi_items (pe_fld (pv 0) rfl)) (pg_tup rfl (pgs_cons (pg_name (i := 5) sc_Frame_put_pin.nd rfl (Or.inl rfl)) (pgs_cons (pg_name (i := 6) sc_Frame_put_pin.nd rfl (Or.inl rfl)) pgs_nil))) (pss_one (ps_if (pt_cmpR (op_eqDa hr.units) (pv 6) (pe_tup (pac (pv 2) (pac (pv 3) pa_nil))) (nomark _)) (pss_one (ps_raiseI X_SpotTaken G_SpotTaken_init (hr.mono (by decide)) b_SpotTaken_init m_SpotTaken (pac (pv 5) pa_nil))) pss_nil))))
    (pss_cons (ps_if (pt_cmpR op_ge (pe_callB call_lenD rfl m_len b_len (pac (pe_fld (pv 0) rfl) pa_nil)) (pe_glob (v := .int 24) rfl m_MOST_PINS ⟨_, rfl⟩) (nomark _)) (pss_one (ps_raise PySem.F.excBase_ValueError m_TooMany q_TooMany hr.hd (pac pe_str pa_nil))) pss_nil)
    (pss_cons (ps_dput (hu_of hr) (pe_fld (pv 0) rfl) (pv 1) (pe_tup (pac (pv 2) (pac (pv 3) pa_nil))) rfl)
    (pss_one (ps_dput (hu_of hr) (pe_fld (pv 0) rfl) (pv 1) (pe_ifExp (pt_cmpR op_isN (pv 4) pe_non (nomark _)) (pe_lst pa_nil) (pe_callTy call_listL rfl m_list b_list (pac (pe_mtd0 (k := 4) (pv 4) (hr.mono (by decide)) px) pa_nil))) rfl)))))), ?_⟩
  clear px
  obtain ⟨E', rfl, a, dx, pP, pW, pB, ps, bs, kP, kW, kB, x, u, v, p, hvv, ws, rfl, R, W, hu, hv, hl, hH, q⟩ := h
  refine ⟨_, rfl, _, rfl, a, C, dx, _, _, rfl, R.obj, fc.cls, fc.pl, rfl, pP, _, rfl, DGet.k (k := .inr x) R.pl, _, rfl, ?_⟩
  rw [R.pin x]
  unfold pinT at q
  by_cases hx : x ∈ ps.map (·.1)
  · rw [decide_eq_true hx]
    rw [if_pos hx] at q
    refine ⟨_, rfl, L1, raisesF.go fun d H' sH nd hd => .inl (q d H' sH nd hd)⟩
  rw [decide_eq_false hx]
  rw [if_neg hx] at q
  have lk : kP.length = ps.length := (Paired.length R.rp).symm
  refine ⟨_, rfl, a, C, dx, _, _, rfl, R.obj, fc.cls, fc.pl, rfl, pP, kP, rfl, R.pl, fun o => ?_⟩
  have k0 : KSame pP H (upd H pP (.frz o (.dK kP))) := fun b o' n e => by rw [upd_ne n]; exact e
  refine for_items (d := pP) (o := o) (kvs := kP) (fun t σ H' => ∃ (o2 o3 : Option V), σ = [some (.ref a), some (.str x), some u, some v, some hvv, o2, o3] ∧ KSame pP H H' ∧ H' pP = some (.frz o (.dK kP)) ∧ ∀ z ∈ ps.take t, z.2 ≠ p) ⟨none, none, rfl, k0, upd_same, by simp⟩ (fun t σ H' _ h => by
      obtain ⟨_, _, _, _, h, _⟩ := h
      exact h) ?_ ?_
  · rintro t k y σ H6 p7 ekv ⟨o2, o3, rfl, k6, hd6, hs⟩ n7
    obtain ⟨z, ez, hz1, hz2⟩ := paired_get (paired_flip R.rp) ekv
    have hz1' : k = .inr z.1 := hz1
    subst hz1'
    have s6 : SameT H H6 := fun b xs r => by
      rcases r with r | ⟨o', r⟩
      · exact .inl (k6 _ _ (fun e => by rw [e, R.pl] at r; cases r) r)
      · exact .inr ⟨o', k6 _ _ (fun e => by rw [e, R.pl] at r; cases r) r⟩
    have s7 := same_new n7 (.tup [kV (.inr z.1), y])
    have s67 : SameT H (upd H6 p7 (.tup [kV (.inr z.1), y])) := s6.trans (.of s7)
    refine ⟨p7, _, rfl, SqT.of upd_same, rfl, _, _, rfl, _, _, rfl, rfl, ?_⟩
    refine ⟨_, rfl, _, rfl, _, rfl, (by show 2 ≤ sizeLine; decide), fun t8 n8 => ?_⟩
    have s8 := same_new n8 (.tup [u, v])
    have s78 : SameT H (upd (upd H6 p7 (.tup [kV (.inr z.1), y])) t8 (.tup [u, v])) := s67.trans (.of s8)
    refine ⟨spotD z.2, spotD p, .inl ⟨(Spot.sameT hz2 s78).is, (Spot.is (p := p) ⟨t8, u, v, rfl, SqT.of upd_same, hu.sameT s78, hv.sameT s78⟩)⟩, alike_spots _ _, dep_spots _, ?_⟩
    rw [eq_spots]
    refine ⟨_, rfl, ?_⟩
    have ks8 : KSame pP H (upd (upd H6 p7 (.tup [kV (.inr z.1), y])) t8 (.tup [u, v])) := fun b o' n e => s8 _ _ (s7 _ _ (k6 b o' n e))
    have hd8 := s8 _ _ (s7 _ _ hd6)
    generalize upd (upd H6 p7 (.tup [kV (.inr z.1), y])) t8 (.tup [u, v]) = H8 at ks8 hd8 ⊢
    refine ite2 (fun c => ?_) (fun c => ?_)
    · have ep : z.2 = p := of_decide_eq_true c
      have ef : ps.find? (fun z => decide (z.2 = p)) = some z := by
        have eps : ps = ps.take t ++ z :: ps.drop (t + 1) := by
          have lt := (List.getElem?_eq_some_iff.mp ez).1
          have e2 := (List.getElem?_eq_some_iff.mp ez).2
          rw [← e2, List.getElem_cons_drop, List.take_append_drop]
        rw [eps, List.find?_append]
        have n1 : (ps.take t).find? (fun z => decide (z.2 = p)) = none := List.find?_eq_none.mpr fun w hw => by simpa using hs w hw
        rw [n1]
        simp [ep]
      rw [ef] at q
      refine ⟨_, rfl, L1, raisesF.go fun d H' sH nd hd => .inr ⟨pP, o, kP, sH _ _ hd8, (fun o' u' z => by rw [R.pl] at z; cases z), ?_⟩⟩
      have dp : d ≠ pP := fun z => by rw [z, hd8] at nd; cases nd
      refine q d _ (fun b o' e => ?_) ?_ (by rw [upd_ne dp]; exact hd)
      · by_cases n : b = pP
        · subst n
          rw [R.pl] at e
          rw [upd_same]
          exact e
        · rw [upd_ne n]
          exact sH _ _ (ks8 b o' n e)
      · cases e : H d with
        | none => rfl
        | some o' => rw [ks8 d o' dp e] at nd; cases nd
    · refine ⟨_, _, rfl, ks8, hd8, fun w hw => ?_⟩
      rw [take_snoc ez] at hw
      rcases List.mem_append.mp hw with h | h
      · exact hs w h
      · rw [List.mem_singleton.mp h]
        exact fun e => c (decide_eq_true e)
  · rintro σ H1 ⟨o2, o3, rfl, k1, hd1, hs⟩
    rw [lk, List.take_length] at hs
    have ef : ps.find? (fun z => decide (z.2 = p)) = none := List.find?_eq_none.mpr fun w hw => by simpa using hs w hw
    rw [ef] at q
    refine ⟨pP, o, kP, hd1, fun o' u' z => (by have z' : H pP = some (.frz o' u') := z; rw [R.pl] at z'; cases z'), ?_⟩
    have s2 : Same H (upd H1 pP (.dK kP)) := fun b o' e => by
      by_cases n : b = pP
      · subst n
        rw [R.pl] at e
        rw [upd_same]
        exact e
      · rw [upd_ne n]
        exact k1 b o' n e
    generalize upd H1 pP (.dK kP) = H2 at s2 ⊢
    have R2 := R.same s2
    refine ⟨_, rfl, a, C, dx, _, _, rfl, R2.obj, fc.cls, fc.pl, rfl, pP, kP, rfl, .inl R2.pl, _, _, rfl, rfl, _, rfl, ?_⟩
    dsimp only at q
    by_cases h24 : 24 ≤ ps.length
    · rw [if_pos h24] at q
      refine ite2 (fun _ => ?_) (fun c => absurd (decide_eq_true (show (24 : Int) ≤ (kP.length : Int) by omega)) c)
      exact ⟨L1, .inl (q H2 s2)⟩
    rw [if_neg h24] at q
    refine ite2 (fun c => ?_) (fun _ => ?_)
    · have c' : (24 : Int) ≤ (kP.length : Int) := of_decide_eq_true c
      omega
    unfold pinE at q
    refine ⟨_, rfl, _, rfl, (by show 2 ≤ sizeLine; decide), fun t nt => ?_⟩
    have s3 := same_new nt (.tup [u, v])
    have R3 := R2.same s3
    have hu3 := (hu.same s2).same s3
    have hv3 := (hv.same s2).same s3
    refine ⟨_, rfl, a, C, dx, _, _, rfl, R3.obj, fc.cls, fc.pl, rfl, _, rfl, pP, _, rfl, DPut.k (k := .inr x) R3.pl (Nat.lt_of_le_of_lt (show kP.length ≤ 1000 by omega) (by decide)), ?_⟩
    have e : putK kP (.inr x) (.ref t) = kP ++ [(.inr x, .ref t)] := putK_new _ (valV_none (by rw [R.keysP]; exact fun z => hx (key_mem.mp z)))
    rw [e]
    have R4 := R3.putPin (x := x) (p := p) (t := t) ⟨t, u, v, rfl, SqT.of upd_same, hu3, hv3⟩
    have k4 : ∀ b o, b ≠ pP → H b = some o → (upd (upd H2 t (.tup [u, v])) pP (.dK (kP ++ [(.inr x, .ref t)]))) b = some o := fun b o n e => by rw [upd_ne n]; exact s3 _ _ (s2 _ _ e)
    generalize upd (upd H2 t (.tup [u, v])) pP (.dK (kP ++ [(.inr x, .ref t)])) = H4 at R4 k4 ⊢
    have lw : kW.length = ps.length := (Paired.length W).symm
    have t4 : SameT H H4 := fun b xs r => by
      rcases r with r | ⟨o', r⟩
      · exact .inl (k4 _ _ (fun e => by rw [e, R.pl] at r; cases r) r)
      · exact .inr ⟨o', k4 _ _ (fun e => by rw [e, R.pl] at r; cases r) r⟩
    refine ⟨_, rfl, rfl, _, rfl, ?_⟩
    have n2a : ∀ {H5 : Hp} {l2 : Addr}, Same H4 H5 → H5 l2 = none → H l2 = none := fun {H5 l2} s5 n6 => by
      cases z : H l2 with
      | none => rfl
      | some o =>
        by_cases c : l2 = pP
        · rw [c, s5 _ _ R4.pl] at n6; cases n6
        · rw [s5 _ _ (k4 _ _ c z)] at n6; cases n6
    rcases hH with ⟨rfl, rfl⟩ | ⟨h, rfl, Ch, dxh, fsh, psh, sph, hh, hlk, MH, hsp⟩
    · refine ite2 (fun _ => ?_) (fun c => absurd (by decide) c)
      refine ⟨by show 0 ≤ sizeLine; decide, fun l2 n6 => ?_⟩
      have s6 := same_new n6 (.lst [])
      have R6 := R4.same s6
      refine ⟨_, rfl, a, C, dx, _, _, rfl, R6.obj, fc.cls, fc.wy, rfl, _, rfl, pW, _, rfl, DPut.k (k := .inr x) R6.wy (Nat.lt_of_le_of_lt (show kW.length ≤ 1000 by omega) (by decide)), ?_⟩
      have ek : putK kW (.inr x) (.ref l2) = kW ++ [(.inr x, .ref l2)] := putK_new _ (valV_none (by rw [KyR.keys W]; exact fun z => hx (key_mem.mp z)))
      rw [ek]
      have ne6 : l2 ≠ pW := fun z => by have h := R6.wy; rw [← z, upd_same] at h; cases h
      exact q _ _ l2 [] (fun b o n1 n2 e => by rw [upd_ne n2]; exact s6 _ _ (k4 b o n1 e)) (R6.putWays _) (n2a (Same.refl _) n6) (by rw [upd_ne ne6, upd_same]) .nil
    have h4 : H4 h = some (.ins Ch dxh fsh) := k4 _ _ (fun e => by rw [e, R.pl] at hh; cases hh) hh
    refine ite2 (fun c => absurd (of_decide_eq_true c) (fun z => nomatch z)) (fun _ => ?_)
    refine ⟨_, rfl, h, Ch, dxh, fsh, psh, sph, rfl, h4, hlk, MH, hsp H4 h4 t4 _ _ fun l1 us H5 s5 n5 e5 p5 => ?_⟩
    refine ⟨l1, us, rfl, SqL.of e5, fun l2 n6 => ?_⟩
    have s6 := same_new n6 (.lst us)
    have R6 := (R4.same s5).same s6
    refine ⟨_, rfl, a, C, dx, _, _, rfl, R6.obj, fc.cls, fc.wy, rfl, _, rfl, pW, _, rfl, DPut.k (k := .inr x) R6.wy (Nat.lt_of_le_of_lt (show kW.length ≤ 1000 by omega) (by decide)), ?_⟩
    have ek : putK kW (.inr x) (.ref l2) = kW ++ [(.inr x, .ref l2)] := putK_new _ (valV_none (by rw [KyR.keys W]; exact fun z => hx (key_mem.mp z)))
    rw [ek]
    have s46 : Same H4 (upd H5 l2 (.lst us)) := fun b o z => s6 _ _ (s5 _ _ z)
    have ne6 : l2 ≠ pW := fun z => by have h := R6.wy; rw [← z, upd_same] at h; cases h
    refine q _ _ l2 us (fun b o n1 n2 e => by rw [upd_ne n2]; exact s46 _ _ (k4 b o n1 e)) (R6.putWays _) (n2a s5 n6) (by rw [upd_ne ne6, upd_same]) ((p5.same s6).sameT (.dict R6.wy))
theorem frDropPin {K : PySem.W.Frag} {H : Hp} {C a dx pP pW pB : Addr} {ps : List (Str × Pt)} {bs : List (Str × Str × Str)} {kP kW kB : List (Key × V)} (R : FrR K H C a dx pP pW pB ps bs kP kW kB) (x : Str) :
    FrR K (upd H pP (.dK (dropK kP (.inr x)))) C a dx pP pW pB (ps.filter fun b => decide (b.1 ≠ x)) bs (dropK kP (.inr x)) kW kB := by
  have s : SameT H (upd H pP (.dK (dropK kP (.inr x)))) := .dict R.pl
  exact ⟨by rw [upd_ne R.ab.1]; exact R.obj, upd_same, by rw [upd_ne (Ne.symm R.ne1)]; exact R.wy, by rw [upd_ne (Ne.symm R.ne2)]; exact R.br, R.ne1, R.ne2, R.ne3, paired_drop x (Paired.mapP R.rp fun _ _ h => ⟨h.1, h.2.sameT s⟩),
    Paired.mapP R.rb fun _ _ h => ⟨h.1, by obtain ⟨p, e, k⟩ := h.2; exact ⟨p, e, s _ _ k⟩⟩⟩
def takeT (ps : List Str) (bs : List (Str × Str × Str)) (x : Str) : Option (Option Str) := if x ∉ ps then some none else match bs.find? (fun b => decide (x = b.2.1 ∨ x = b.2.2)) with
  | some b => some (some b.1)
  | none => none
def takeE (CN CU : Addr) (x : Str) (H : Hp) (E : XK) (q : Prop) : Option (Option Str) → Prop
  | some none => raisesF H E CN "pin" (.str x)
  | some (some b) => raises2 H E CU "pin" "bar" (.str x) (.str b)
  | none => q
def spTakePinB (K : PySem.W.Frag) (C CN CU : Addr) : Sp := fun vs H Q E => ∃ (a dx pP pW pB : Addr) (ps : List (Str × Pt)) (bs : List (Str × Str × Str)) (kP kW kB : List (Key × V)) (x : Str), vs = [.ref a, .str x] ∧ FrR K H C a dx pP pW pB ps bs kP kW kB ∧ KyR ps kW ∧
  takeE CN CU x H E (∀ (H' : Hp) (kP' : List (Key × V)), (∀ b o, b ≠ pP → b ≠ pW → H b = some o → H' b = some o) → FrR K H' C a dx pP pW pB (ps.filter fun b => decide (b.1 ≠ x)) bs kP' (dropK kW (.inr x)) kB → Q .non H') (takeT (ps.map (·.1)) bs x)
theorem sc_Frame_take_pin : FnScope ["self", "name", "bar", "two"] ["self", "name"] (defScope s_Frame_take_pin) := ⟨rfl, rfl, rfl, by decide +kernel, rfl, by decide +kernel, by decide +kernel⟩
theorem ok_Frame_take_pin {f : Addr} {fd : FuncData} {C CN CU fU : Addr} {fdU : FuncData} (F : Fun K "take_pin" "Frame.take_pin" s_Frame_take_pin f fd) (fc : FrC K C) (MC : MtdOk P w K mg base (CXr P w) 3 C "check_pin" ["self", "pin"] (spCheckPinX K C CN))
    (m_PinBusy : mg "PinBusy" = some (.ref CU)) (X_PinBusy : ExcC K CU fU) (G_PinBusy_init : FnOk P w K mg base (CXr P w) 1 fU fdU ["self", "pin", "bar"] (spExcI2 CU "pin" "bar")) (b_PinBusy_init : Binds K fdU ["self", "pin", "bar"] []) : FnOk P w K mg base (CXr P w) 4 f fd ["self", "name"] (spTakePinB K C CN CU) := by
  refine fn_thaw (sp' := fun vs H Q E1 => ∃ E, E1 = thE H E ∧ spTakePinB K C CN CU vs H Q E) (fun vs H Q E h => ?_) (fun vs H Q E h => ⟨E, rfl, h⟩) (fun_okX F sc_Frame_take_pin (fun vs H Q E h => ?_) (fun cdv A outer s H vs Q E hr h => ?_))
  · obtain ⟨a, dx, pP, pW, pB, ps, bs, kP, kW, kB, x, rfl, _⟩ := h
    rfl
  · obtain ⟨E', _, a, dx, pP, pW, pB, ps, bs, kP, kW, kB, x, rfl, _⟩ := h
    rfl
  have px : Passes (CXr P w) (cxr P w K mg base ["self", "name", "bar", "two"] "Frame.take_pin" (defScope s_Frame_take_pin) f cdv A outer s H E) E := pass_up
  have L2 : 2 ≤ sizeLine := by decide
  refine ⟨_, (pss_cons (ps_expr (pe_mtd (k := 3) (pv 0) (hr.mono (by decide)) px (pac (pv 1) pa_nil)))
    (pss_cons (ps_thaw (ps_for PassesOwn.leaving rfl (pi_items (pe_fld (pv 0) rfl)) (pg_tup rfl (pgs_cons (pg_name (i := 2) sc_Frame_take_pin.nd rfl (Or.inl rfl)) (pgs_cons (pg_name (i := 3) sc_Frame_take_pin.nd rfl (Or.inl rfl)) pgs_nil))) (pss_one (ps_if (pt_cmpR op_in_seq (pv 1) (pv 3) rfl) (pss_one (ps_raiseI X_PinBusy G_PinBusy_init (hr.mono (by decide)) b_PinBusy_init m_PinBusy (pac (pv 1) (pac (pv 2) pa_nil)))) pss_nil))))
    (pss_cons (ps_expr (pe_dpop1 (pe_fld (pv 0) rfl) (pv 1) ⟨rfl, rfl, rfl, rfl⟩))
    (pss_one (ps_expr (pe_dpop1 (pe_fld (pv 0) rfl) (pv 1) ⟨rfl, rfl, rfl, rfl⟩)))))), ?_⟩
  clear px
  obtain ⟨E', rfl, a, dx, pP, pW, pB, ps, bs, kP, kW, kB, x, rfl, R, W, q⟩ := h
  unfold takeT at q
  refine ⟨_, rfl, a, C, dx, _, _, _, rfl, R.obj, rfl, MC, _, rfl, a, dx, pP, pW, pB, ps, bs, kP, kW, kB, x, rfl, R, fun hx => ?_, fun hx => ?_⟩
  rotate_left
  · rw [if_pos hx] at q
    exact fun d H' sH nd hd => .inl (q d H' sH nd hd)
  rw [if_neg (fun z => z hx)] at q
  have lk : kB.length = bs.length := (Paired.length R.rb).symm
  refine ⟨_, rfl, a, C, dx, _, _, rfl, R.obj, fc.cls, fc.br, rfl, pB, kB, rfl, R.br, fun o => ?_⟩
  have k0 : KSame pB H (upd H pB (.frz o (.dK kB))) := fun b o' n e => by rw [upd_ne n]; exact e
  refine for_items (d := pB) (o := o) (kvs := kB) (fun t σ H' => ∃ (o2 o3 : Option V), σ = [some (.ref a), some (.str x), o2, o3] ∧ KSame pB H H' ∧ H' pB = some (.frz o (.dK kB)) ∧ ∀ b ∈ bs.take t, ¬ (x = b.2.1 ∨ x = b.2.2)) ⟨none, none, rfl, k0, upd_same, by simp⟩ (fun t σ H' _ h => by
      obtain ⟨_, _, _, _, h, _⟩ := h
      exact h) ?_ ?_
  · rintro t k y σ H6 p7 ekv ⟨o2, o3, rfl, k6, hd6, hs⟩ n7
    obtain ⟨z, ez, hz1, p, ep, hz2⟩ := paired_get (paired_flip R.rb) ekv
    have hz1' : k = .inr z.1 := hz1
    subst hz1'
    have ep' : y = .ref p := ep
    subst ep'
    have s6 : SameT H H6 := fun b xs r => by
      rcases r with r | ⟨o', r⟩
      · exact .inl (k6 _ _ (fun e => by rw [e, R.br] at r; cases r) r)
      · exact .inr ⟨o', k6 _ _ (fun e => by rw [e, R.br] at r; cases r) r⟩
    have s7 := same_new n7 (.tup [kV (.inr z.1), .ref p])
    have s67 : SameT H (upd H6 p7 (.tup [kV (.inr z.1), .ref p])) := s6.trans (.of s7)
    refine ⟨p7, _, rfl, SqT.of upd_same, rfl, _, _, rfl, _, _, rfl, rfl, ?_⟩
    refine ⟨_, rfl, _, rfl, p, [.str z.2.1, .str z.2.2], rfl, .inr (s67.seqT (.inl hz2)), rfl, rfl, _, rfl, ?_⟩
    have ks8 : KSame pB H (upd H6 p7 (.tup [kV (.inr z.1), .ref p])) := fun b o' n e => s7 _ _ (k6 b o' n e)
    have hd8 := s7 _ _ hd6
    generalize upd H6 p7 (.tup [kV (.inr z.1), .ref p]) = H8 at ks8 hd8 ⊢
    refine ite2 (fun c => ?_) (fun c => ?_)
    · have c' : inV (.str x) [.str z.2.1, .str z.2.2] = true := c
      simp [inV, eqV] at c'
      have cz : x = z.2.1 ∨ x = z.2.2 := by
        rcases c' with c' | c'
        · exact .inl c'.symm
        · exact .inr c'.symm
      have ef : bs.find? (fun b => decide (x = b.2.1 ∨ x = b.2.2)) = some z := by
        have eps : bs = bs.take t ++ z :: bs.drop (t + 1) := by
          have lt := (List.getElem?_eq_some_iff.mp ez).1
          have e2 := (List.getElem?_eq_some_iff.mp ez).2
          rw [← e2, List.getElem_cons_drop, List.take_append_drop]
        rw [eps, List.find?_append]
        have n1 : (bs.take t).find? (fun b => decide (x = b.2.1 ∨ x = b.2.2)) = none := List.find?_eq_none.mpr fun w hw => by simpa using hs w hw
        rw [n1]
        simp [cz]
      rw [ef] at q
      refine ⟨_, rfl, _, rfl, L2, raises2.go fun d H' sH nd hd => .inr ⟨pB, o, kB, sH _ _ hd8, (fun o' u' z => by rw [R.br] at z; cases z), ?_⟩⟩
      have dp : d ≠ pB := fun z => by rw [z, hd8] at nd; cases nd
      refine q d _ (fun b o' e => ?_) ?_ (by rw [upd_ne dp]; exact hd)
      · by_cases n : b = pB
        · subst n
          rw [R.br] at e
          rw [upd_same]
          exact e
        · rw [upd_ne n]
          exact sH _ _ (ks8 b o' n e)
      · cases e : H d with
        | none => rfl
        | some o' => rw [ks8 d o' dp e] at nd; cases nd
    · refine ⟨_, _, rfl, ks8, hd8, fun w hw => ?_⟩
      rw [take_snoc ez] at hw
      rcases List.mem_append.mp hw with h | h
      · exact hs w h
      · rw [List.mem_singleton.mp h]
        refine fun e => c ?_
        show inV (.str x) [.str z.2.1, .str z.2.2] = true
        simp [inV, eqV]
        rcases e with e | e
        · exact .inl e.symm
        · exact .inr e.symm
  · rintro σ H1 ⟨o2, o3, rfl, k1, hd1, hs⟩
    rw [lk, List.take_length] at hs
    have ef : bs.find? (fun b => decide (x = b.2.1 ∨ x = b.2.2)) = none := List.find?_eq_none.mpr fun w hw => by simpa using hs w hw
    rw [ef] at q
    dsimp only at q
    unfold takeE at q
    refine ⟨pB, o, kB, hd1, fun o' u' z => (by have z' : H pB = some (.frz o' u') := z; rw [R.br] at z'; cases z'), ?_⟩
    have s2 : Same H (upd H1 pB (.dK kB)) := fun b o' e => by
      by_cases n : b = pB
      · subst n
        rw [R.br] at e
        rw [upd_same]
        exact e
      · rw [upd_ne n]
        exact k1 b o' n e
    generalize upd H1 pB (.dK kB) = H2 at s2 ⊢
    have R2 := R.same s2
    obtain ⟨v, ev⟩ := valV_some (kvs := kP) (k := .inr x) (by rw [R.keysP]; exact key_mem.mpr hx)
    obtain ⟨v2, ev2⟩ := valV_some (kvs := kW) (k := .inr x) (by rw [KyR.keys W]; exact key_mem.mpr hx)
    refine ⟨_, rfl, a, C, dx, _, _, rfl, R2.obj, fc.cls, fc.pl, rfl, pP, rfl, .inl ⟨_, .inl R2.pl⟩, _, rfl, kP, .inr x, v, R2.pl, rfl, ev, ?_⟩
    have R3 := frDropPin R2 x
    have k3 : ∀ b o, b ≠ pP → H b = some o → (upd H2 pP (.dK (dropK kP (.inr x)))) b = some o := fun b o n e => by rw [upd_ne n]; exact s2 _ _ e
    generalize upd H2 pP (.dK (dropK kP (.inr x))) = H3 at R3 k3 ⊢
    refine ⟨_, rfl, a, C, dx, _, _, rfl, R3.obj, fc.cls, fc.wy, rfl, pW, rfl, .inl ⟨_, .inl R3.wy⟩, _, rfl, kW, .inr x, v2, R3.wy, rfl, ev2, ?_⟩
    exact q _ _ (fun b o n1 n2 e => by rw [upd_ne n2]; exact k3 b o n1 e) (R3.putWays _)
structure Alone (K : PySem.W.Frag) (CP CS CN CU CB CO CL CT CY C : Addr) : Prop where
  ek : TyExc.ExcK K C
  row : ∃ b1 b2 b3 b4 b5 b6 b7 b8 : Bool, PySem.W.kitOne K (.ref C) (.ref CP) = some b1 ∧ PySem.W.kitOne K (.ref C) (.ref CS) = some b2 ∧ PySem.W.kitOne K (.ref C) (.ref CN) = some b3 ∧ PySem.W.kitOne K (.ref C) (.ref CU) = some b4 ∧ PySem.W.kitOne K (.ref C) (.ref CB) = some b5 ∧ PySem.W.kitOne K (.ref C) (.ref CO) = some b6 ∧ PySem.W.kitOne K (.ref C) (.ref CL) = some b7 ∧ PySem.W.kitOne K (.ref C) (.ref CT) = some b8 ∧ [V.bl b1, .bl b2, .bl b3, .bl b4, .bl b5, .bl b6, .bl b7, .bl b8].countP (fun z => eqV z (.bl true)) = 1
  y : PySem.W.kitOne K (.ref C) (.ref CY) = some true
  v : PySem.W.kitOne K (.ref C) (.type "ValueError") = some true
def spAlone (K : PySem.W.Frag) (CP CS CN CU CB CO CL CT CY : Addr) : Sp := fun vs H Q _ => ∃ (a C : Addr) (d : Option Addr), vs = [.ref a] ∧ H a = some (excO (.ref C) a d) ∧ Alone K CP CS CN CU CB CO CL CT CY C ∧ ∀ H', Same H H' → Q (.bl true) H'
theorem sc_law_alone : FnScope ["_law_e", "_law_found"] ["_law_e"] (defScope s_law_alone) := ⟨rfl, rfl, rfl, by decide +kernel, rfl, by decide +kernel, by decide +kernel⟩
theorem ok_law_alone {CT CP CS CN CU CB CO CL CY : Addr} (D : Def K mg "_law_alone" s_law_alone ["_law_e"]) (m_isinstance : mg "isinstance" = none) (m_ValueError : mg "ValueError" = none) (m_YardError : mg "YardError" = some (.ref CY)) (m_PinThere : mg "PinThere" = some (.ref CP)) (m_SpotTaken : mg "SpotTaken" = some (.ref CS)) (m_NoPin : mg "NoPin" = some (.ref CN)) (m_PinBusy : mg "PinBusy" = some (.ref CU)) (m_BarThere : mg "BarThere" = some (.ref CB)) (m_NoBar : mg "NoBar" = some (.ref CO)) (m_NoLength : mg "NoLength" = some (.ref CL)) (m_TooMany : mg "TooMany" = some (.ref CT)) :
    FnH P w K mg base 1 "_law_alone" ["_law_e"] (spAlone K CP CS CN CU CB CO CL CT CY) := by
  refine D.okH sc_law_alone (fun vs H Q E h => ?_) (fun f cdv A outer s H vs Q hr h => ?_)
  · obtain ⟨a, C, d, rfl, _⟩ := h
    rfl
  obtain ⟨a, C, d, rfl, ha, k, q⟩ := h
  obtain ⟨b1, b2, b3, b4, b5, b6, b7, b8, k1, k2, k3, k4, k5, k6, k7, k8, hc⟩ := k.row
  refine ⟨_, (pss_cons (ps_set (i := 1) sc_law_alone.nd rfl (Or.inl rfl) (pe_lst (pac (pe_callB (call_isiX (K := K) rfl) rfl m_isinstance b_isinstance (pac (pv 0) (pac (pe_cls rfl m_PinThere) pa_nil))) (pac (pe_callB (call_isiX (K := K) rfl) rfl m_isinstance b_isinstance (pac (pv 0) (pac (pe_cls rfl m_SpotTaken) pa_nil))) (pac (pe_callB (call_isiX (K := K) rfl) rfl m_isinstance b_isinstance (pac (pv 0) (pac (pe_cls rfl m_NoPin) pa_nil))) (pac (pe_callB (call_isiX (K := K) rfl) rfl m_isinstance b_isinstance (pac (pv 0) (pac (pe_cls rfl m_PinBusy) pa_nil))) pa_nil))))))
    (pss_cons (ps_set (i := 1) sc_law_alone.nd rfl (Or.inl rfl) (pe_op op_cat (pv 1) (pe_lst (pac (pe_callB (call_isiX (K := K) rfl) rfl m_isinstance b_isinstance (pac (pv 0) (pac (pe_cls rfl m_BarThere) pa_nil))) (pac (pe_callB (call_isiX (K := K) rfl) rfl m_isinstance b_isinstance (pac (pv 0) (pac (pe_cls rfl m_NoBar) pa_nil))) (pac (pe_callB (call_isiX (K := K) rfl) rfl m_isinstance b_isinstance (pac (pv 0) (pac (pe_cls rfl m_NoLength) pa_nil))) pa_nil))))))
    (pss_cons (ps_expr (pe_bm PySem.F.plainAttrs_list PySem.F.slot_list_append PySem.F.type_list_append mt_append (pv 1) (pac (pe_callB (call_isiX (K := K) rfl) rfl m_isinstance b_isinstance (pac (pv 0) (pac (pe_cls rfl m_TooMany) pa_nil))) pa_nil)))
    (pss_one (ps_ret (pe_and (pe_cmpR op_eq (pe_bm PySem.F.plainAttrs_list PySem.F.slot_list_count PySem.F.type_list_count mt_count (pv 1) (pac pe_bl pa_nil)) pe_int (nomark _)) (pe_and (pe_callB (call_isiX (K := K) rfl) rfl m_isinstance b_isinstance (pac (pv 0) (pac (pe_cls rfl m_YardError) pa_nil))) (pe_one (pe_callB (call_isiX (K := K) rfl) rfl m_isinstance b_isinstance (pac (pv 0) (pac (pe_ty rfl m_ValueError b_ValueError) pa_nil))))))))))), ?_⟩
  refine ⟨_, rfl, a, C, _, _, d, rfl, rfl, ha, k.ek, k1, ?_⟩
  refine ⟨_, rfl, a, C, _, _, d, rfl, rfl, ha, k.ek, k2, ?_⟩
  refine ⟨_, rfl, a, C, _, _, d, rfl, rfl, ha, k.ek, k3, ?_⟩
  refine ⟨_, rfl, a, C, _, _, d, rfl, rfl, ha, k.ek, k4, (by show 4 ≤ sizeLine; decide), ?_⟩
  intro l1 n1; generalize eX : upd _ l1 _ = H1; have s1 := eX ▸ same_new n1 _; have e1 : H1 l1 = some _ := eX ▸ upd_same; clear eX
  have ha1 := s1 _ _ ha
  refine ⟨_, rfl, ?_⟩
  refine ⟨_, rfl, a, C, _, _, d, rfl, rfl, ha1, k.ek, k5, ?_⟩
  refine ⟨_, rfl, a, C, _, _, d, rfl, rfl, ha1, k.ek, k6, ?_⟩
  refine ⟨_, rfl, a, C, _, _, d, rfl, rfl, ha1, k.ek, k7, (by show 3 ≤ sizeLine; decide), ?_⟩
  intro l2 n2; generalize eX : upd _ l2 _ = H2; have s2 := eX ▸ same_new n2 _; have e2 : H2 l2 = some _ := eX ▸ upd_same; clear eX
  refine ⟨l1, l2, _, _, rfl, rfl, s2 _ _ e1, e2, (by show 4 + 3 ≤ sizeLine; decide), ?_⟩
  intro l3 n3; generalize eX : upd _ l3 _ = H3; have s3 := eX ▸ same_new n3 _; have e3 : H3 l3 = some _ := eX ▸ upd_same; clear eX
  have s13 : Same H H3 := fun b o z => s3 _ _ (s2 _ _ (s1 _ _ z))
  have n13 : H l3 = none := by
    cases z : H l3 with
    | none => rfl
    | some o => rw [s2 _ _ (s1 _ _ z)] at n3; cases n3
  have ha3 := s13 _ _ ha
  refine ⟨_, rfl, .inl ⟨rfl, _, SqL.of e3⟩, _, rfl, a, C, _, _, d, rfl, rfl, ha3, k.ek, k8, ?_⟩
  refine ⟨l3, _, _, rfl, rfl, e3, (by show 7 < sizeLine; decide), ?_⟩
  generalize eX : upd H3 l3 _ = H4
  have e4 : H4 l3 = some (.lst [.bl b1, .bl b2, .bl b3, .bl b4, .bl b5, .bl b6, .bl b7, .bl b8]) := eX ▸ upd_same
  have s14 : Same H H4 := fun b o z => by
    rw [← eX, upd_ne (ne_of_none z n13)]
    exact s13 _ _ z
  have ha4 := s14 _ _ ha
  refine ⟨_, rfl, .inl ⟨rfl, _, SqL.of e4⟩, l3, _, .bl true, rfl, rfl, SqL.of e4, rfl, rfl, ?_⟩
  rw [hc]
  refine ⟨rfl, true, rfl, iteT ?_⟩
  refine ⟨_, rfl, a, C, _, true, d, rfl, rfl, ha4, k.ek, k.y, true, rfl, iteT ?_⟩
  exact ⟨_, rfl, a, C, _, true, d, rfl, rfl, ha4, k.ek, k.v, q H4 s14⟩
def told3 (H : Hp) (Q : VK) (w : Str) (v : V) : Prop := ∀ (p : Addr) (H' : Hp), Same H H' → H p = none → H' p = some (.tup [.str w, v, .bl true]) → Q (.ref p) H'
theorem back2 {H H' H2 : Hp} {ea : Addr} {o : HO} (sH : Same H H') (na : H' ea = none) (s3 : Same (upd H' ea o) H2) : Same H H2 := fun b o z => by
  have z' := sH b o z
  exact s3 _ _ (by rw [upd_ne (ne_of_none z' na)]; exact z')
theorem frList {H : Hp} {C a dx pP pW pB l : Addr} {ps : List (Str × Pt)} {bs : List (Str × Str × Str)} {kP kW kB : List (Key × V)} {ys : List V} {o : HO} (R : FrR K H C a dx pP pW pB ps bs kP kW kB) (e : H l = some (.lst ys)) : FrR K (upd H l o) C a dx pP pW pB ps bs kP kW kB := by
  refine R.sameT_of (.list e) (upd_ne fun z => ?_) (upd_ne fun z => ?_) (upd_ne fun z => ?_) (upd_ne fun z => ?_)
  · rw [← z, R.obj] at e; cases e
  · rw [← z, R.pl] at e; cases e
  · rw [← z, R.wy] at e; cases e
  · rw [← z, R.br] at e; cases e
theorem is_flat {H : Hp} {p : Addr} : ∀ {vs : List V}, vs.all flatV = true → H p = some (.tup vs) → Is K H (.t (vs.map Da.v)) (.ref p) := fun {vs} hf h => by
  have go : ∀ ws : List V, ws.all flatV = true → Iss K H (ws.map Da.v) ws := fun ws => by
    induction ws with
    | nil => intro _; simp [Iss]
    | cons v ws ih =>
      intro hv
      rw [List.all_cons, Bool.and_eq_true] at hv
      rw [List.map_cons]
      unfold Iss
      exact ⟨by unfold Is; exact ⟨rfl, hv.1⟩, ih hv.2⟩
  unfold Is
  exact ⟨p, vs, rfl, SqT.of h, go vs hf⟩
theorem alike_flat : ∀ (vs ws : List V), alikes (vs.map Da.v) (ws.map Da.v) = true
  | [], _ => by simp [alikes]
  | _ :: _, [] => by simp [alikes]
  | v :: vs, w :: ws => by simp [alikes, alike, alike_flat vs ws]
theorem dep_flat : ∀ (vs : List V), deps (vs.map Da.v) ≤ 60
  | [] => by simp [deps]
  | v :: vs => by have := dep_flat vs; simp [deps, dep]; omega
theorem eq_flat : ∀ (vs : List V), vs.all (fun v => eqV v v) = true → eqDas (vs.map Da.v) (vs.map Da.v) = true
  | [], _ => by simp [eqDas]
  | v :: vs, h => by
    rw [List.all_cons, Bool.and_eq_true] at h
    simp [eqDas, eqDa, h.1, eq_flat vs h.2]
theorem ne_flat {s : Str} {vs ws : List V} (h : s ≠ "done") : eqDas ((.str s :: vs).map Da.v) ((.str "done" :: ws).map Da.v) = false := by
  simp [eqDas, eqDa, eqV, h]
theorem names_at {xs : List Str} (hl : xs.length = 9) {i : Int} (h0 : 0 ≤ i) (h8 : i < 9) : ∃ y ∈ xs, atI (xs.map V.str) i = some (.str y) := by
  obtain ⟨n, rfl⟩ := Int.eq_ofNat_of_zero_le h0
  have hn : n < xs.length := by omega
  refine ⟨xs[n], List.getElem_mem hn, atI_nat ?_⟩
  rw [List.getElem?_map, List.getElem?_eq_getElem hn]
  rfl
theorem k_ll : PySem.W.kitOne K (.type "list") (.type "list") = some true := by unfold PySem.W.kitOne; rw [if_pos (by decide)]
theorem isl_flat {H : Hp} {p : Addr} {vs : List V} (hf : vs.all flatV = true) (h : H p = some (.lst vs)) : Is K H (.l (vs.map Da.v)) (.ref p) := by
  have go : ∀ ws : List V, ws.all flatV = true → Iss K H (ws.map Da.v) ws := fun ws => by
    induction ws with
    | nil => intro _; simp [Iss]
    | cons v ws ih =>
      intro hv
      rw [List.all_cons, Bool.and_eq_true] at hv
      rw [List.map_cons]
      unfold Iss
      exact ⟨by unfold Is; exact ⟨rfl, hv.1⟩, ih hv.2⟩
  unfold Is
  exact ⟨p, vs, rfl, SqL.of h, go vs hf⟩
theorem self_strs (ws : List Str) : (ws.map V.str).all (fun v => eqV v v) = true := by
  induction ws with
  | nil => rfl
  | cons w ws ih => simp [eqV]
theorem ne_strs {H : Hp} {p p2 : Addr} {ws : List Str} {Q : VK} (e1 : H p = some (.lst (ws.map V.str))) (e2 : H p2 = some (.lst (ws.map V.str))) (q : Q (.bl false) H) : rNeDa K (.ref p) (.ref p2) H Q :=
  ⟨_, _, .inr ⟨isl_flat (flat_strs ws) e1, isl_flat (flat_strs ws) e2⟩, alike_flat _ _, dep_flat _, by rw [eq_flat _ (self_strs ws)]; exact q⟩
theorem eq_strs {H : Hp} {p p2 : Addr} {ws : List Str} {Q : VK} (e1 : H p = some (.lst (ws.map V.str))) (e2 : H p2 = some (.lst (ws.map V.str))) (q : Q (.bl true) H) : rEqDa K (.ref p) (.ref p2) H Q :=
  ⟨_, _, .inr ⟨isl_flat (flat_strs ws) e1, isl_flat (flat_strs ws) e2⟩, alike_flat _ _, dep_flat _, by rw [eq_flat _ (self_strs ws)]; exact q⟩
structure ExmK (K : PySem.W.Frag) (CP CS CN : Addr) : Prop where
  pp : PySem.W.exmOne K (.ref CP) (.ref CP) = some true
  sp : PySem.W.exmOne K (.ref CS) (.ref CP) = some false
  ss : PySem.W.exmOne K (.ref CS) (.ref CS) = some true
  nn : PySem.W.exmOne K (.ref CN) (.ref CN) = some true
def wD (ws : List (Rat × Rat)) : List Da := ws.map fun p => Da.t (spotD (ptQ p))
theorem iss_pts {H : Hp} : ∀ {us : List V} {ws : List (Rat × Rat)}, PtsR K H us ws → Iss K H (wD ws) us
  | _, _, .nil => by simp [wD, Iss]
  | _, _, .cons h t => by
    have ih := iss_pts t
    unfold wD at ih ⊢
    rw [List.map_cons]
    unfold Iss
    exact ⟨h.spot.is, ih⟩
theorem eq_wD : ∀ ws : List (Rat × Rat), eqDas (wD ws) (wD ws) = true
  | [] => by simp [wD, eqDas]
  | p :: ws => by
    have ih := eq_wD ws
    unfold wD at ih ⊢
    rw [List.map_cons]
    unfold eqDas eqDa
    rw [ih, eq_spots]
    simp
theorem alike_wD : ∀ ws : List (Rat × Rat), alikes (wD ws) (wD ws) = true
  | [] => by simp [wD, alikes]
  | p :: ws => by
    have ih := alike_wD ws
    unfold wD at ih ⊢
    rw [List.map_cons]
    unfold alikes alike
    rw [ih, alike_spots]
    rfl
theorem dep_wD : ∀ ws : List (Rat × Rat), deps (wD ws) ≤ 10
  | [] => by simp [wD, deps]
  | p :: ws => by
    have ih := dep_wD ws
    unfold wD at ih ⊢
    rw [List.map_cons]
    unfold deps dep
    have : deps (spotD (ptQ p)) ≤ 5 := by simp [spotD, deps, dep]
    omega
def HeldV (K : PySem.W.Frag) (H : Hp) (us : List V) : Prop := ∃ ds, (∀ H', SameT H H' → Iss K H' ds us) ∧ alikes ds ds = true ∧ deps ds ≤ 60 ∧ eqDas ds ds = true
theorem HeldV.sameT {H H' : Hp} {us : List V} (h : HeldV K H us) (s : SameT H H') : HeldV K H' us := by
  obtain ⟨ds, h1, h2⟩ := h
  exact ⟨ds, fun H2 s2 => h1 H2 (s.trans s2), h2⟩
theorem HeldV.eq {H : Hp} {l1 l2 : Addr} {us : List V} {Q : VK} (h : HeldV K H us) (e1 : H l1 = some (.lst us)) (e2 : H l2 = some (.lst us)) (q : Q (.bl true) H) : rEqDa K (.ref l1) (.ref l2) H Q := by
  obtain ⟨ds, h1, h2, h3, h4⟩ := h
  have i := h1 H (fun _ _ z => z)
  refine ⟨ds, ds, .inr ⟨by unfold Is; exact ⟨l1, us, rfl, SqL.of e1, i⟩, by unfold Is; exact ⟨l2, us, rfl, SqL.of e2, i⟩⟩, h2, h3, ?_⟩
  rw [h4]
  exact q
theorem iss_app {H : Hp} : ∀ {ds es : List Da} {us vs : List V}, Iss K H ds us → Iss K H es vs → Iss K H (ds ++ es) (us ++ vs)
  | [], _, [], _, _, h => h
  | d :: ds, es, u :: us, vs, h, k => by
    unfold Iss at h
    show Iss K H (d :: (ds ++ es)) (u :: (us ++ vs))
    unfold Iss
    exact ⟨h.1, iss_app h.2 k⟩
  | [], _, _ :: _, _, h, _ => by unfold Iss at h; exact h.elim
  | _ :: _, _, [], _, h, _ => by unfold Iss at h; exact h.elim
theorem iss_strs {H : Hp} : ∀ ws : List Str, Iss K H ((ws.map V.str).map Da.v) (ws.map V.str)
  | [] => by simp [Iss]
  | w :: ws => by
    rw [List.map_cons, List.map_cons]
    unfold Iss
    exact ⟨by unfold Is; exact ⟨rfl, rfl⟩, iss_strs ws⟩
theorem heldV_strs {H : Hp} (ws : List Str) : HeldV K H (ws.map V.str) := ⟨(ws.map V.str).map Da.v, fun _ _ => iss_strs ws, alike_flat _ _, dep_flat _, eq_flat _ (self_strs ws)⟩
theorem eqDas_app : ∀ (ds es : List Da), eqDas ds ds = true → eqDas es es = true → eqDas (ds ++ es) (ds ++ es) = true
  | [], _, _, h => h
  | d :: ds, es, h, k => by
    unfold eqDas at h
    rw [Bool.and_eq_true] at h
    show eqDas (d :: (ds ++ es)) (d :: (ds ++ es)) = true
    unfold eqDas
    rw [h.1, eqDas_app ds es h.2 k]
    rfl
theorem alikes_app : ∀ (ds es : List Da), alikes ds ds = true → alikes es es = true → alikes (ds ++ es) (ds ++ es) = true
  | [], _, _, h => h
  | d :: ds, es, h, k => by
    unfold alikes at h
    rw [Bool.and_eq_true] at h
    show alikes (d :: (ds ++ es)) (d :: (ds ++ es)) = true
    unfold alikes
    rw [h.1, alikes_app ds es h.2 k]
    rfl
theorem deps_app : ∀ (ds es : List Da) (k : Nat), deps ds ≤ k → deps es ≤ k → deps (ds ++ es) ≤ k
  | [], _, _, _, h => h
  | d :: ds, es, k, h, h2 => by
    unfold deps at h
    show deps (d :: (ds ++ es)) ≤ k
    unfold deps
    have := deps_app ds es k (by omega) h2
    omega
theorem heldV_pts {H : Hp} {us : List V} {ws : List (Rat × Rat)} (h : PtsR K H us ws) : HeldV K H (us ++ [.int 7]) :=
  ⟨wD ws ++ [.v (.int 7)], fun H' s => iss_app (iss_pts (h.sameT s)) (by simp [Iss, Is, flatV]), alikes_app _ _ (alike_wD ws) (by simp [alikes, alike]), Nat.le_trans (deps_app _ _ 10 (dep_wD ws) (by simp [deps, dep])) (by decide), eqDas_app _ _ (eq_wD ws) (by simp [eqDas, eqDa, eqV])⟩
abbrev Zs := List (Str × Pt × List (Rat × Rat))
def WL (K : PySem.W.Frag) (H : Hp) (pA hA : Addr) (v : V) (ws : List (Rat × Rat)) : Prop := ∃ l us, v = .ref l ∧ H l = some (.lst us) ∧ l ≠ pA ∧ l ≠ hA ∧ PtsR K H us ws
structure KL (pA hA : Addr) (H H' : Hp) : Prop where
  t : SameT H H'
  u : ∀ b xs, H b = some (.tup xs) → H' b = some (.tup xs)
  l : ∀ b us, b ≠ pA → b ≠ hA → H b = some (.lst us) → H' b = some (.lst us)
theorem KL.of {pA hA : Addr} {H H' : Hp} (s : Same H H') : KL pA hA H H' := ⟨.of s, fun _ _ e => s _ _ e, fun _ _ _ _ e => s _ _ e⟩
theorem KL.trans {pA hA : Addr} {H H1 H2 : Hp} (a : KL pA hA H H1) (b : KL pA hA H1 H2) : KL pA hA H H2 := ⟨a.t.trans b.t, fun _ _ e => b.u _ _ (a.u _ _ e), fun _ _ n m e => b.l _ _ n m (a.l _ _ n m e)⟩
theorem WL.kl {H H' : Hp} {pA hA : Addr} {v : V} {ws : List (Rat × Rat)} (h : WL K H pA hA v ws) (k : KL pA hA H H') : WL K H' pA hA v ws := by
  obtain ⟨l, us, e, h1, h2, h3, h4⟩ := h
  exact ⟨l, us, e, k.l _ _ h2 h3 h1, h2, h3, h4.sameT k.t⟩
def HeldR (K : PySem.W.Frag) (H : Hp) (pA hA : Addr) (u : V) : Prop := ∃ (t l1 l2 : Addr) (vs : List V), u = .ref t ∧ H t = some (.tup [.ref l1, .ref l2]) ∧ H l1 = some (.lst vs) ∧ H l2 = some (.lst vs) ∧ HeldV K H vs ∧ l1 ≠ pA ∧ l1 ≠ hA ∧ l2 ≠ pA ∧ l2 ≠ hA
theorem HeldR.kl {H H' : Hp} {pA hA : Addr} {u : V} (h : HeldR K H pA hA u) (k : KL pA hA H H') : HeldR K H' pA hA u := by
  obtain ⟨t, l1, l2, vs, e, h1, h2, h3, h4, n1, n2, n3, n4⟩ := h
  exact ⟨t, l1, l2, vs, e, k.u _ _ h1, k.l _ _ n1 n2 h2, k.l _ _ n3 n4 h3, h4.sameT k.t, n1, n2, n3, n4⟩
def PinL (K : PySem.W.Frag) (H : Hp) (pA hA : Addr) (u : V) (z : Str × Pt × List (Rat × Rat)) : Prop := ∃ p v v2, u = .ref p ∧ SqT K H p [.str z.1, v, v2] ∧ Spot K H v z.2.1 ∧ WL K H pA hA v2 z.2.2
theorem PinL.kl {H H' : Hp} {pA hA : Addr} {u : V} {z : Str × Pt × List (Rat × Rat)} (h : PinL K H pA hA u z) (k : KL pA hA H H') : PinL K H' pA hA u z := by
  obtain ⟨p, v, v2, e, h1, h2, h3⟩ := h
  exact ⟨p, v, v2, e, k.t.seqT h1, h2.sameT k.t, h3.kl k⟩
def WyZ (K : PySem.W.Frag) (H : Hp) (pA hA : Addr) (zs : Zs) (kW : List (Key × V)) : Prop := Paired (fun (z : Str × Pt × List (Rat × Rat)) (kv : Key × V) => kv.1 = (Sum.inr z.1 : Key) ∧ WL K H pA hA kv.2 z.2.2) zs kW
abbrev psZ (zs : Zs) : List (Str × Pt) := zs.map fun z => (z.1, z.2.1)
abbrev pwZ (zs : Zs) : List (Str × List (Rat × Rat)) := zs.map fun z => (z.1, z.2.2)
theorem psZ_nm (zs : Zs) : (psZ zs).map (·.1) = zs.map (·.1) := by rw [List.map_map]; rfl
theorem pwZ_nm (zs : Zs) : (pwZ zs).map (·.1) = zs.map (·.1) := by rw [List.map_map]; rfl
theorem paired_map {α β γ : Type} {R : β → γ → Prop} {f : α → β} : ∀ {l : List α} {m : List γ}, Paired (fun a c => R (f a) c) l m → Paired R (l.map f) m
  | _, _, .nil => .nil
  | _, _, .cons h t => .cons h (paired_map t)
theorem WyZ.ky {H : Hp} {pA hA : Addr} {zs : Zs} {kW : List (Key × V)} (h : WyZ K H pA hA zs kW) : KyR (psZ zs) kW :=
  paired_map (R := fun (b : Str × Pt) (kv : Key × V) => kv.1 = (Sum.inr b.1 : Key) ∧ True) (Paired.mapP h fun _ _ z => ⟨z.1, trivial⟩)
theorem WyZ.wy {H : Hp} {pA hA : Addr} {zs : Zs} {kW : List (Key × V)} (h : WyZ K H pA hA zs kW) : WyR K H (pwZ zs) kW :=
  paired_map (R := fun (p : Str × List (Rat × Rat)) (kv : Key × V) => kv.1 = .inr p.1 ∧ ∃ l us, kv.2 = .ref l ∧ H l = some (.lst us) ∧ PtsR K H us p.2) (Paired.mapP h fun _ _ z => ⟨z.1, by obtain ⟨l, us, e, h1, _, _, h4⟩ := z.2; exact ⟨l, us, e, h1, h4⟩⟩)
structure S12 (K : PySem.W.Frag) (H : Hp) (C a dx pP pW pB pA hA : Addr) (xs : List Str) (zs : Zs) (us hs : List V) : Prop where
  fs : ∃ kP kW kB, FrR K H C a dx pP pW pB (psZ zs) [] kP kW kB ∧ WyZ K H pA hA zs kW
  pa : H pA = some (.lst us)
  pl : Paired (PinL K H pA hA) us zs
  ha : H hA = some (.lst hs)
  hd : ∀ u ∈ hs, HeldR K H pA hA u
  ne : pA ≠ hA
  nd : (zs.map (·.1)).Nodup
  im : ∀ z ∈ zs, z.1 ∈ xs ∧ z.2.2.length ≤ 2
theorem S12.lz {H : Hp} {C a dx pP pW pB pA hA : Addr} {xs : List Str} {zs : Zs} {us hs : List V} (S : S12 K H C a dx pP pW pB pA hA xs zs us hs) (h : xs.length = 9) : zs.length ≤ 9 := by
  have := nodup_le (m := xs) S.nd fun x hx => by
    obtain ⟨z, hz, rfl⟩ := List.mem_map.mp hx
    exact (S.im z hz).1
  rw [List.length_map] at this
  omega
theorem S12.same {H H' : Hp} {C a dx pP pW pB pA hA : Addr} {xs : List Str} {zs : Zs} {us hs : List V} (S : S12 K H C a dx pP pW pB pA hA xs zs us hs) (s : Same H H') : S12 K H' C a dx pP pW pB pA hA xs zs us hs := by
  obtain ⟨kP, kW, kB, R, W⟩ := S.fs
  have k : KL pA hA H H' := .of s
  exact ⟨⟨kP, kW, kB, R.same s, Paired.mapP W fun _ _ z => ⟨z.1, z.2.kl k⟩⟩, s _ _ S.pa, Paired.mapP S.pl fun _ _ z => z.kl k, s _ _ S.ha, fun u hu => (S.hd u hu).kl k, S.ne, S.nd, S.im⟩
def wsOf (c : Int) (x : Rat) : List (Rat × Rat) := if c.fmod 5 = 1 then [(x, 1)] else if c.fmod 5 = 2 then [(1, 0), (0, 1)] else []
theorem no_ways (v : V) : List.lookup ("ways" : Str) [(("way" : Str), v)] = none := by
  have h : (("ways" : Str) == "way") = false := by decide +kernel
  simp [List.lookup, h]
theorem one_ne : ¬ ((1 : Rat) = 0) := by decide
def spHoldL (P : Program) (w : World) (K : PySem.W.Frag) (mg : Str → Option Value) (base : Heap) : Sp := fun vs H Q _ => ∃ (c : Int) (v : V) (x : Rat), vs = [.int c, v] ∧ NmR K H v x ∧ ∀ (hv : V) (H' : Hp), Same H H' → HoldV P w K mg base H' hv (wsOf c x) → Q hv H'
theorem sc_law_hold : FnScope ["_law_cell", "_law_x"] ["_law_cell", "_law_x"] (defScope s_law_hold) := ⟨rfl, rfl, rfl, by decide +kernel, rfl, by decide +kernel, by decide +kernel⟩
theorem ok_law_hold {CH CR CF fR : Addr} {fdR : FuncData} (D : Def K mg "_law_hold" s_law_hold ["_law_cell", "_law_x"])
    (m_Hold : mg "Hold" = some (.ref CH)) (m_Roller : mg "Roller" = some (.ref CR)) (m_Fixed : mg "Fixed" = some (.ref CF)) (M_Hold : Mk0 K CH) (M_Fixed : Mk0 K CF) (M_Roller : Mk K CR fR) (G_Roller_init : FnOk P w K mg base (CXr P w) 1 fR fdR ["self", "x", "y"] (spRInit K CR)) (b_Roller_init : Binds K fdR ["self", "x", "y"] [])
    (wH : MtdOk P w K mg base (CXr P w) 4 CH "ways" ["self"] (spHold K)) (wR : MtdOk P w K mg base (CXr P w) 4 CR "ways" ["self"] (spRWays K CR)) (wF : MtdOk P w K mg base (CXr P w) 4 CF "ways" ["self"] (spFixed K)) :
    Fn P w K mg base (CXr P w) 5 "_law_hold" ["_law_cell", "_law_x"] (spHoldL P w K mg base) := by
  refine D.ok sc_law_hold (fun vs H Q E h => ?_) (fun f cdv A outer s H vs Q E hr h => ?_)
  · obtain ⟨c, v, x, rfl, _⟩ := h
    rfl
  obtain ⟨c, v, x, rfl, hx, q⟩ := h
  have px := passM (X := (cxOf (CXr P w) P w K mg base ["_law_cell", "_law_x"] "_law_hold" (defScope s_law_hold) f cdv A outer s H E)) (CXr.mute (P := P) (w := w))
  have L2 : 2 ≤ sizeLine := by decide
  refine ⟨_, (pss_cons (ps_if (pt_cmpR op_eq (pe_op op_modB (pv 0) pe_int) pe_int (nomark _)) (pss_one (ps_ret (pe_mk0 M_Hold rfl m_Hold))) pss_nil)
    (pss_cons (ps_if (pt_cmpR op_eq (pe_op op_modB (pv 0) pe_int) pe_int (nomark _)) (pss_one (ps_ret (pe_make M_Roller G_Roller_init (hr.mono (by decide)) rfl m_Roller b_Roller_init .nil px (pac (pv 1) (pac (pe_tup (pac pe_int (pac pe_int pa_nil))) pa_nil))))) pss_nil)
    (pss_cons (ps_if (pt_cmpR op_eq (pe_op op_modB (pv 0) pe_int) pe_int (nomark _)) (pss_one (ps_ret (pe_mk0 M_Fixed rfl m_Fixed))) pss_nil)
    (pss_one (ps_ret pe_non))))), ?_⟩
  refine ⟨_, rfl, _, _, rfl, rfl, nz (by decide), rfl, _, rfl, ?_⟩
  refine ite2 (fun c0 => ?_) (fun c0 => ?_)
  · have c0' : c.fmod 5 = 0 := by simpa [eqV] using c0
    have ew : wsOf c x = [] := by
      unfold wsOf
      rw [if_neg (by omega), if_neg (by omega)]
    rw [ew] at q
    intro h0 d0 nh0 nd0 ne0
    exact q (.ref h0) _ (fun b o e => by rw [upd_ne (ne_of_none e nh0), upd_ne (ne_of_none e nd0)]; exact e) (.inr ⟨h0, rfl, CH, d0, [], ["self"], spHold K, upd_same, rfl, wH, fun H6 _ _ Q' _ an => ⟨h0, rfl, an⟩⟩)
  refine ⟨_, rfl, _, _, rfl, rfl, nz (by decide), rfl, _, rfl, ?_⟩
  refine ite2 (fun c1 => ?_) (fun c1 => ?_)
  · have c1' : c.fmod 5 = 1 := by simpa [eqV] using c1
    have ew : wsOf c x = [(x, 1)] := by
      unfold wsOf
      rw [if_pos c1']
    rw [ew] at q
    refine ⟨_, rfl, L2, ?_⟩
    intro p2 n2; generalize eX : upd _ p2 _ = H2; have s2 := eX ▸ same_new n2 _; have e2 : H2 p2 = some _ := eX ▸ upd_same; clear eX
    intro h1' d1 nh1 nd1 ne1
    have s4 : Same H2 (upd (upd H2 d1 (.own h1')) h1' (.ins CR d1 [])) := fun b o e => by rw [upd_ne (ne_of_none e nh1), upd_ne (ne_of_none e nd1)]; exact e
    have e4 : (upd (upd H2 d1 (.own h1')) h1' (.ins CR d1 [])) h1' = some (.ins CR d1 []) := upd_same
    generalize upd (upd H2 d1 (.own h1')) h1' (.ins CR d1 []) = H4 at s4 e4 ⊢
    have m1 : NmR K H4 v x := (hx.same s2).same s4
    have m2 : NmR K H4 (.ref p2) 1 := ⟨p2, rfl, by rw [qr_one]; exact SqT.of (s4 _ _ e2)⟩
    refine ⟨h1', d1, v, .ref p2, x, 1, rfl, e4, m1, m2, fun z => one_ne z.2, fun p5 n5 => ⟨rfl, ?_⟩⟩
    have hne : p5 ≠ h1' := fun z => by rw [z, e4] at n5; cases n5
    have s5 : Same H2 (upd (upd H4 p5 (.tup [v, .ref p2])) h1' (.ins CR d1 [("way", .ref p5)])) := fun b o e => by
      have z : b ≠ h1' := fun z => by rw [z, nh1] at e; cases e
      rw [upd_ne z]
      exact same_new n5 _ _ _ (s4 _ _ e)
    have e5 : (upd (upd H4 p5 (.tup [v, .ref p2])) h1' (.ins CR d1 [("way", .ref p5)])) h1' = some (.ins CR d1 [("way", .ref p5)]) := upd_same
    have t5 : (upd (upd H4 p5 (.tup [v, .ref p2])) h1' (.ins CR d1 [("way", .ref p5)])) p5 = some (.tup [v, .ref p2]) := by rw [upd_ne hne, upd_same]
    generalize upd (upd H4 p5 (.tup [v, .ref p2])) h1' (.ins CR d1 [("way", .ref p5)]) = H5 at s5 e5 t5 ⊢
    have hway : PtR K H5 (.ref p5) (x, 1) := ⟨p5, v, .ref p2, rfl, SqT.of t5, (hx.same s2).same s5, ⟨p2, rfl, by rw [qr_one]; exact SqT.of (s5 _ _ e2)⟩⟩
    refine q (.ref h1') H5 (s2.trans s5) (.inr ⟨h1', rfl, CR, d1, _, ["self"], spRWays K CR, e5, no_ways _, wR, fun H6 e6 t6 Q' _ an => ⟨h1', d1, p5, _, rfl, e6, hway.sameT t6, an⟩⟩)
  refine ⟨_, rfl, _, _, rfl, rfl, nz (by decide), rfl, _, rfl, ?_⟩
  refine ite2 (fun c2 => ?_) (fun c2 => ?_)
  · have c2' : c.fmod 5 = 2 := by simpa [eqV] using c2
    have ew : wsOf c x = [(1, 0), (0, 1)] := by
      unfold wsOf
      rw [if_neg (by omega), if_pos c2']
    rw [ew] at q
    intro h0 d0 nh0 nd0 ne0
    exact q (.ref h0) _ (fun b o e => by rw [upd_ne (ne_of_none e nh0), upd_ne (ne_of_none e nd0)]; exact e) (.inr ⟨h0, rfl, CF, d0, [], ["self"], spFixed K, upd_same, rfl, wF, fun H6 _ _ Q' _ an => ⟨h0, rfl, an⟩⟩)
  · have c1' : ¬ c.fmod 5 = 1 := by simpa [eqV] using c1
    have c2' : ¬ c.fmod 5 = 2 := by simpa [eqV] using c2
    have ew : wsOf c x = [] := by
      unfold wsOf
      rw [if_neg c1', if_neg c2']
    rw [ew] at q
    exact q .non H (Same.refl _) (.inl ⟨rfl, rfl⟩)
def spWaysL (K : PySem.W.Frag) : Sp := fun vs H Q _ => ∃ (c : Int) (v : V) (x : Rat), vs = [.int c, v] ∧ NmR K H v x ∧ ∀ (l : Addr) (us : List V) (H' : Hp), Same H H' → H l = none → H' l = some (.lst us) → PtsR K H' us (wsOf c x) → Q (.ref l) H'
theorem sc_law_ways : FnScope ["_law_cell", "_law_x"] ["_law_cell", "_law_x"] (defScope s_law_ways) := ⟨rfl, rfl, rfl, by decide +kernel, rfl, by decide +kernel, by decide +kernel⟩
theorem ok_law_ways (D : Def K mg "_law_ways" s_law_ways ["_law_cell", "_law_x"]) : Fn P w K mg base (CXr P w) 1 "_law_ways" ["_law_cell", "_law_x"] (spWaysL K) := by
  refine D.ok sc_law_ways (fun vs H Q E h => ?_) (fun f cdv A outer s H vs Q E hr h => ?_)
  · obtain ⟨c, v, x, rfl, _⟩ := h
    rfl
  obtain ⟨c, v, x, rfl, hx, q⟩ := h
  have L0 : 0 ≤ sizeLine := by decide
  have L1 : 1 ≤ sizeLine := by decide
  have L2 : 2 ≤ sizeLine := by decide
  refine ⟨_, (pss_cons (ps_if (pt_cmpR op_eq (pe_op op_modB (pv 0) pe_int) pe_int (nomark _)) (pss_one (ps_ret (pe_lst (pac (pe_tup (pac (pv 1) (pac (pe_tup (pac pe_int (pac pe_int pa_nil))) pa_nil))) pa_nil)))) pss_nil)
    (pss_cons (ps_if (pt_cmpR op_eq (pe_op op_modB (pv 0) pe_int) pe_int (nomark _)) (pss_one (ps_ret (pe_lst (pac (pe_tup (pac (pe_tup (pac pe_int (pac pe_int pa_nil))) (pac (pe_tup (pac pe_int (pac pe_int pa_nil))) pa_nil))) (pac (pe_tup (pac (pe_tup (pac pe_int (pac pe_int pa_nil))) (pac (pe_tup (pac pe_int (pac pe_int pa_nil))) pa_nil))) pa_nil))))) pss_nil)
    (pss_one (ps_ret (pe_lst pa_nil))))), ?_⟩
  refine ⟨_, rfl, _, _, rfl, rfl, nz (by decide), rfl, _, rfl, ?_⟩
  refine ite2 (fun c1 => ?_) (fun c1 => ?_)
  · have c1' : c.fmod 5 = 1 := by simpa [eqV] using c1
    have ew : wsOf c x = [(x, 1)] := by
      unfold wsOf
      rw [if_pos c1']
    rw [ew] at q
    refine ⟨_, rfl, L2, ?_⟩
    intro p1 n1; generalize eX : upd _ p1 _ = H1; have s1 := eX ▸ same_new n1 _; have e1 : H1 p1 = some _ := eX ▸ upd_same; clear eX
    refine ⟨L2, ?_⟩
    intro p2 n2; generalize eX : upd _ p2 _ = H2; have s2 := eX ▸ same_new n2 _; have e2 : H2 p2 = some _ := eX ▸ upd_same; clear eX
    refine ⟨L1, ?_⟩
    intro l n3; generalize eX : upd _ l _ = H3; have s3 := eX ▸ same_new n3 _; have e3 : H3 l = some _ := eX ▸ upd_same; clear eX
    have s12 := s1.trans s2
    have hw : PtR K H3 (.ref p2) (x, 1) := ⟨p2, v, .ref p1, rfl, SqT.of (s3 _ _ e2), (hx.same s12).same s3, ⟨p1, rfl, by rw [qr_one]; exact SqT.of (s3 _ _ (s2 _ _ e1))⟩⟩
    exact q l _ H3 (s12.trans s3) (s12.free n3) e3 (.cons hw .nil)
  refine ⟨_, rfl, _, _, rfl, rfl, nz (by decide), rfl, _, rfl, ?_⟩
  refine ite2 (fun c2 => ?_) (fun c2 => ?_)
  · have c2' : c.fmod 5 = 2 := by simpa [eqV] using c2
    have ew : wsOf c x = [(1, 0), (0, 1)] := by
      unfold wsOf
      rw [if_neg (by omega), if_pos c2']
    rw [ew] at q
    refine ⟨L2, ?_⟩
    intro p1 n1; generalize eX : upd _ p1 _ = H1; have s1 := eX ▸ same_new n1 _; have e1 : H1 p1 = some _ := eX ▸ upd_same; clear eX
    refine ⟨L2, ?_⟩
    intro p2 n2; generalize eX : upd _ p2 _ = H2; have s2 := eX ▸ same_new n2 _; have e2 : H2 p2 = some _ := eX ▸ upd_same; clear eX
    refine ⟨L2, ?_⟩
    intro p3 n3; generalize eX : upd _ p3 _ = H3; have s3 := eX ▸ same_new n3 _; have e3 : H3 p3 = some _ := eX ▸ upd_same; clear eX
    refine ⟨L2, ?_⟩
    intro p4 n4; generalize eX : upd _ p4 _ = H4; have s4 := eX ▸ same_new n4 _; have e4 : H4 p4 = some _ := eX ▸ upd_same; clear eX
    refine ⟨L2, ?_⟩
    intro p5 n5; generalize eX : upd _ p5 _ = H5; have s5 := eX ▸ same_new n5 _; have e5 : H5 p5 = some _ := eX ▸ upd_same; clear eX
    refine ⟨L2, ?_⟩
    intro p6 n6; generalize eX : upd _ p6 _ = H6; have s6 := eX ▸ same_new n6 _; have e6 : H6 p6 = some _ := eX ▸ upd_same; clear eX
    refine ⟨L2, ?_⟩
    intro l nl; generalize eX : upd _ l _ = H7; have s7 := eX ▸ same_new nl _; have e7 : H7 l = some _ := eX ▸ upd_same; clear eX
    have s16 := s1.trans (s2.trans (s3.trans (s4.trans (s5.trans s6))))
    have w1 : PtR K H7 (.ref p3) (1, 0) := pt_mk qr_one qr_nought (s7 _ _ (s6 _ _ (s5 _ _ (s4 _ _ e3)))) (s7 _ _ (s6 _ _ (s5 _ _ (s4 _ _ (s3 _ _ (s2 _ _ e1)))))) (s7 _ _ (s6 _ _ (s5 _ _ (s4 _ _ (s3 _ _ e2)))))
    have w2 : PtR K H7 (.ref p6) (0, 1) := pt_mk qr_nought qr_one (s7 _ _ e6) (s7 _ _ (s6 _ _ (s5 _ _ e4))) (s7 _ _ (s6 _ _ e5))
    exact q l _ H7 (s16.trans s7) (s16.free nl) e7 (.cons w1 (.cons w2 .nil))
  · have c1' : ¬ c.fmod 5 = 1 := by simpa [eqV] using c1
    have c2' : ¬ c.fmod 5 = 2 := by simpa [eqV] using c2
    have ew : wsOf c x = [] := by
      unfold wsOf
      rw [if_neg c1', if_neg c2']
    rw [ew] at q
    refine ⟨L0, ?_⟩
    intro l nl; generalize eX : upd _ l _ = H1; have s1 := eX ▸ same_new nl _; have e1 : H1 l = some _ := eX ▸ upd_same; clear eX
    exact q l [] H1 s1 nl e1 .nil
def pinQ (K : PySem.W.Frag) (C a dx pP pW pB : Addr) (ps : List (Str × Pt)) (bs : List (Str × Str × Str)) (kW kB : List (Key × V)) (x : Str) (pt : Pt) (ws : List (Rat × Rat)) (H : Hp) (Q : VK) : PinT → Prop
  | .there => told3 H Q "there" (.str x)
  | .spot y => told3 H Q "spot" (.str y)
  | .many => False
  | .done => ∀ (p : Addr) (H' : Hp) (kP' : List (Key × V)) (l2 : Addr) (us : List V), (∀ b o, b ≠ pP → b ≠ pW → H b = some o → H' b = some o) → FrR K H' C a dx pP pW pB (ps ++ [(x, pt)]) bs kP' (kW ++ [(.inr x, .ref l2)]) kB → H l2 = none → H' l2 = some (.lst us) → PtsR K H' us ws → H p = none → H' p = some (.tup [.str "done", .non]) → Q (.ref p) H'
def spPutL (K : PySem.W.Frag) (C : Addr) : Sp := fun vs H Q _ => ∃ (a dx pP pW pB sp : Addr) (ps : List (Str × Pt)) (bs : List (Str × Str × Str)) (kP kW kB : List (Key × V)) (x : Str) (u v vx : V) (p : Pt) (c : Int) (xr : Rat), vs = [.ref a, .str x, .ref sp, .int c, vx] ∧ FrR K H C a dx pP pW pB ps bs kP kW kB ∧ KyR ps kW ∧ ps.length < 500 ∧ SqT K H sp [u, v] ∧ NmK K H u p.1 ∧ NmK K H v p.2 ∧ NmR K H vx xr ∧
  pinQ K C a dx pP pW pB ps bs kW kB x p (wsOf c xr) H Q (pinT ps x p)
theorem sc_law_put : FnScope ["_law_frame", "_law_name", "_law_spot", "_law_cell", "_law_x", "_law_told", "_law_e"] ["_law_frame", "_law_name", "_law_spot", "_law_cell", "_law_x"] (defScope s_law_put) := ⟨rfl, rfl, rfl, by decide +kernel, rfl, by decide +kernel, by decide +kernel⟩
theorem ok_law_put {C CT CP CS CN CU CB CO CL CY : Addr} (D : Def K mg "_law_put" s_law_put ["_law_frame", "_law_name", "_law_spot", "_law_cell", "_law_x"]) (m_PinThere : mg "PinThere" = some (.ref CP)) (m_SpotTaken : mg "SpotTaken" = some (.ref CS)) (ex : ExmK K CP CS CN) (xp : TyExc.ExcF K CP "pin") (xs : TyExc.ExcF K CS "pin")
    (ap : Alone K CP CS CN CU CB CO CL CT CY CP) (asp : Alone K CP CS CN CU CB CO CL CT CY CS) (G_law_alone : FnH P w K mg base 1 "_law_alone" ["_law_e"] (spAlone K CP CS CN CU CB CO CL CT CY)) (G_law_hold : Fn P w K mg base (CXr P w) 5 "_law_hold" ["_law_cell", "_law_x"] (spHoldL P w K mg base))
    (MPp : MtdOk P w K mg base (CXr P w) 5 C "put_pin" ["self", "name", "x", "y", "hold"] (spPutPinV P w K mg base C CP CS CT)) (MPd : MtdOkD P w K mg base (CXr P w) 5 C "put_pin" ["self", "name", "x", "y", "hold"] [.none] (spPutPinV P w K mg base C CP CS CT)) : Fn P w K mg base (CXr P w) 6 "_law_put" ["_law_frame", "_law_name", "_law_spot", "_law_cell", "_law_x"] (spPutL K C) := by
  refine D.ok sc_law_put (fun vs H Q E h => ?_) (fun f cdv A outer s H vs Q E hr h => ?_)
  · obtain ⟨a, dx, pP, pW, pB, sp, ps, bs, kP, kW, kB, x, u, v, vx, p, c, xr, rfl, _⟩ := h
    rfl
  obtain ⟨a, dx, pP, pW, pB, sp, ps, bs, kP, kW, kB, x, u, v, vx, p, c, xr, rfl, R, W, hl, hsp, hu, hv, hx, q⟩ := h
  have px := passM (X := (cxOf (CXr P w) P w K mg base ["_law_frame", "_law_name", "_law_spot", "_law_cell", "_law_x", "_law_told", "_law_e"] "_law_put" (defScope s_law_put) f cdv A outer s H E).nox) (CXr.mute (P := P) (w := w))
  have L3 : 3 ≤ sizeLine := by decide
  refine ⟨_, (pss_cons (ps_try ⟨rfl, rfl⟩ (psx_if (pt_cmpR op_eq (pe_op op_modB (pv 3) pe_int) pe_int (nomark _)) (psx_set (i := 5) sc_law_put.nd rfl (Or.inl rfl) (px_tup2 pe_str (px_mtdD (k := 5) (pv 0) (hr.mono (by decide)) (pac (pv 1) (pac (pe_ix ix_tup (pv 2) pe_int (fun _ _ => rfl)) (pac (pe_ix ix_tup (pv 2) pe_int (fun _ _ => rfl)) pa_nil)))))) (psx_set (i := 5) sc_law_put.nd rfl (Or.inl rfl) (px_tup2 pe_str (px_mtd (k := 5) (pv 0) (hr.mono (by decide)) (pac (pv 1) (pac (pe_ix ix_tup (pv 2) pe_int (fun _ _ => rfl)) (pac (pe_ix ix_tup (pv 2) pe_int (fun _ _ => rfl)) (pac (pe_fn G_law_hold (hr.mono (by decide)) px (pac (pv 3) (pac (pv 4) pa_nil))) pa_nil)))))))) (ph_as (i := 6) (ClsN.own m_PinThere) sc_law_put.nd rfl rfl (fun a => (pss_one (ps_set (i := 5) sc_law_put.nd rfl (Or.inl rfl) (pe_tup (pac pe_str (pac (pe_excGK (K := K) rfl (pv 6) rfl) (pac (pe_fnH G_law_alone (RoomH.mark (hr.mono (by decide)) _) (pac (pv 6) pa_nil)) pa_nil))))))) (ph_as (i := 6) (ClsN.own m_SpotTaken) sc_law_put.nd rfl rfl (fun a => (pss_one (ps_set (i := 5) sc_law_put.nd rfl (Or.inl rfl) (pe_tup (pac pe_str (pac (pe_excGK (K := K) rfl (pv 6) rfl) (pac (pe_fnH G_law_alone (RoomH.mark (hr.mono (by decide)) _) (pac (pv 6) pa_nil)) pa_nil))))))) ph_nil)))
    (pss_one (ps_ret (pv 5)))), ?_⟩
  refine ⟨_, rfl, _, _, rfl, rfl, nz (by decide), rfl, _, rfl, ?_⟩
  refine ite2 (fun c4 => ?_) (fun c4 => ?_)
  · have c4' : c.fmod 5 = 4 := by simpa [eqV] using c4
    have ew : wsOf c xr = [] := by
      unfold wsOf
      rw [if_neg (by omega), if_neg (by omega)]
    rw [ew] at q
    refine ⟨_, rfl, a, C, dx, _, _, _, rfl, R.obj, rfl, MPd, _, rfl, _, rfl, sp, _, _, _, rfl, rfl, hsp, at0, _, rfl, sp, _, _, _, rfl, rfl, hsp, at1, ?_⟩
    refine ⟨a, dx, pP, pW, pB, ps, bs, kP, kW, kB, x, u, v, p, .non, [], rfl, R, W, hu, hv, hl, .inl ⟨rfl, rfl⟩, ?_⟩
    have s13 : Same H H := Same.refl _
    generalize pinT ps x p = tt at q ⊢
    match tt, q with
    | .there, q =>
      intro d H' sH nd hd
      refine ⟨true, ex.pp, iteT fun ea na => ?_⟩
      refine ⟨_, rfl, ea, CP, d, _, .str x, rfl, upd_same, ?_, xp, look1 _ _, _, rfl, ea, CP, some d, rfl, upd_same, ap, fun H4 s4 => ⟨L3, ?_⟩⟩
      · rw [upd_ne (fun z => by rw [z, na] at hd; cases hd)]
        exact hd
      intro p3 n3; generalize eX : upd _ p3 _ = H5; have s5 := eX ▸ same_new n3 _; have e3 : H5 p3 = some _ := eX ▸ upd_same; clear eX
      have s0 := s13.trans sH
      exact ⟨_, rfl, q p3 H5 (back2 s0 na (s4.trans s5)) ((back2 s0 na s4).free n3) e3⟩
    | .spot y, q =>
      intro d H' sH nd hd
      refine ⟨false, ex.sp, iteF ⟨true, ex.ss, iteT fun ea na => ?_⟩⟩
      refine ⟨_, rfl, ea, CS, d, _, .str y, rfl, upd_same, ?_, xs, look1 _ _, _, rfl, ea, CS, some d, rfl, upd_same, asp, fun H4 s4 => ⟨L3, ?_⟩⟩
      · rw [upd_ne (fun z => by rw [z, na] at hd; cases hd)]
        exact hd
      intro p3 n3; generalize eX : upd _ p3 _ = H5; have s5 := eX ▸ same_new n3 _; have e3 : H5 p3 = some _ := eX ▸ upd_same; clear eX
      have s0 := s13.trans sH
      exact ⟨_, rfl, q p3 H5 (back2 s0 na (s4.trans s5)) ((back2 s0 na s4).free n3) e3⟩
    | .many, q => exact q.elim
    | .done, q =>
      intro H' kP' l2 us k' R' nl2 hl2 pt2
      have nn : ∀ {p : Addr}, H' p = none → H p = none := fun {p} n => by
        cases z : H p with
        | none => rfl
        | some o =>
          by_cases c : p = pP
          · rw [c, R'.pl] at n; cases n
          by_cases c2 : p = pW
          · rw [c2, R'.wy] at n; cases n
          · rw [k' _ _ c c2 (s13 _ _ z)] at n; cases n
      have nl3 : H l2 = none := s13.free nl2
      intro p3 n3; generalize eX : upd _ p3 _ = H5; have s5 := eX ▸ same_new n3 _; have e3 : H5 p3 = some _ := eX ▸ upd_same; clear eX
      exact ⟨_, rfl, q p3 H5 kP' l2 us (fun b o n n2 z => s5 _ _ (k' b o n n2 (s13 _ _ z))) (R'.same s5) nl3 (s5 _ _ hl2) (pt2.same s5) (nn n3) e3⟩
  refine ⟨_, rfl, a, C, dx, _, _, _, rfl, R.obj, rfl, MPp, _, rfl, _, rfl, sp, _, _, _, rfl, rfl, hsp, at0, _, rfl, sp, _, _, _, rfl, rfl, hsp, at1, ?_⟩
  refine ⟨_, rfl, _, rfl, c, vx, xr, rfl, hx, fun hv' H3 s13 hh => ?_⟩
  refine ⟨a, dx, pP, pW, pB, ps, bs, kP, kW, kB, x, u, v, p, hv', _, rfl, R.same s13, W, hu.same s13, hv.same s13, hl, hh, ?_⟩
  generalize pinT ps x p = tt at q ⊢
  match tt, q with
  | .there, q =>
    intro d H' sH nd hd
    refine ⟨true, ex.pp, iteT fun ea na => ?_⟩
    refine ⟨_, rfl, ea, CP, d, _, .str x, rfl, upd_same, ?_, xp, look1 _ _, _, rfl, ea, CP, some d, rfl, upd_same, ap, fun H4 s4 => ⟨L3, ?_⟩⟩
    · rw [upd_ne (fun z => by rw [z, na] at hd; cases hd)]
      exact hd
    intro p3 n3; generalize eX : upd _ p3 _ = H5; have s5 := eX ▸ same_new n3 _; have e3 : H5 p3 = some _ := eX ▸ upd_same; clear eX
    have s0 := s13.trans sH
    exact ⟨_, rfl, q p3 H5 (back2 s0 na (s4.trans s5)) ((back2 s0 na s4).free n3) e3⟩
  | .spot y, q =>
    intro d H' sH nd hd
    refine ⟨false, ex.sp, iteF ⟨true, ex.ss, iteT fun ea na => ?_⟩⟩
    refine ⟨_, rfl, ea, CS, d, _, .str y, rfl, upd_same, ?_, xs, look1 _ _, _, rfl, ea, CS, some d, rfl, upd_same, asp, fun H4 s4 => ⟨L3, ?_⟩⟩
    · rw [upd_ne (fun z => by rw [z, na] at hd; cases hd)]
      exact hd
    intro p3 n3; generalize eX : upd _ p3 _ = H5; have s5 := eX ▸ same_new n3 _; have e3 : H5 p3 = some _ := eX ▸ upd_same; clear eX
    have s0 := s13.trans sH
    exact ⟨_, rfl, q p3 H5 (back2 s0 na (s4.trans s5)) ((back2 s0 na s4).free n3) e3⟩
  | .many, q => exact q.elim
  | .done, q =>
    intro H' kP' l2 us k' R' nl2 hl2 pt2
    have nn : ∀ {p : Addr}, H' p = none → H p = none := fun {p} n => by
      cases z : H p with
      | none => rfl
      | some o =>
        by_cases c : p = pP
        · rw [c, R'.pl] at n; cases n
        by_cases c2 : p = pW
        · rw [c2, R'.wy] at n; cases n
        · rw [k' _ _ c c2 (s13 _ _ z)] at n; cases n
    have nl3 : H l2 = none := s13.free nl2
    intro p3 n3; generalize eX : upd _ p3 _ = H5; have s5 := eX ▸ same_new n3 _; have e3 : H5 p3 = some _ := eX ▸ upd_same; clear eX
    exact ⟨_, rfl, q p3 H5 kP' l2 us (fun b o n n2 z => s5 _ _ (k' b o n n2 (s13 _ _ z))) (R'.same s5) nl3 (s5 _ _ hl2) (pt2.same s5) (nn n3) e3⟩
def takeQ (K : PySem.W.Frag) (C a dx pP pW pB : Addr) (ps : List (Str × Pt)) (bs : List (Str × Str × Str)) (kW kB : List (Key × V)) (x : Str) (H : Hp) (Q : VK) : Option (Option Str) → Prop
  | some none => told3 H Q "none" (.str x)
  | some (some b) => False
  | none => ∀ (p : Addr) (H' : Hp) (kP' : List (Key × V)), (∀ b o, b ≠ pP → b ≠ pW → H b = some o → H' b = some o) → FrR K H' C a dx pP pW pB (ps.filter fun b => decide (b.1 ≠ x)) bs kP' (dropK kW (.inr x)) kB → H p = none → H' p = some (.tup [.str "done", .non]) → Q (.ref p) H'
def spPinTaken (K : PySem.W.Frag) (C : Addr) : Sp := fun vs H Q _ => ∃ (a dx pP pW pB : Addr) (ps : List (Str × Pt)) (bs : List (Str × Str × Str)) (kP kW kB : List (Key × V)) (x : Str), vs = [.ref a, .str x] ∧ FrR K H C a dx pP pW pB ps bs kP kW kB ∧ KyR ps kW ∧
  takeQ K C a dx pP pW pB ps bs kW kB x H Q (takeT (ps.map (·.1)) bs x)
theorem sc_law_taken : FnScope ["_law_frame", "_law_name", "_law_told", "_law_e"] ["_law_frame", "_law_name"] (defScope s_law_taken) := ⟨rfl, rfl, rfl, by decide +kernel, rfl, by decide +kernel, by decide +kernel⟩
theorem ok_law_taken {C CT CP CS CN CU CB CO CL CY : Addr} (D : Def K mg "_law_taken" s_law_taken ["_law_frame", "_law_name"]) (m_NoPin : mg "NoPin" = some (.ref CN)) (ex : ExmK K CP CS CN) (xn : TyExc.ExcF K CN "pin")
    (an : Alone K CP CS CN CU CB CO CL CT CY CN) (G_law_alone : FnH P w K mg base 1 "_law_alone" ["_law_e"] (spAlone K CP CS CN CU CB CO CL CT CY))
    (MTp : MtdOk P w K mg base (CXr P w) 4 C "take_pin" ["self", "name"] (spTakePinB K C CN CU)) : Fn P w K mg base (CXr P w) 5 "_law_taken" ["_law_frame", "_law_name"] (spPinTaken K C) := by
  refine D.ok sc_law_taken (fun vs H Q E h => ?_) (fun f cdv A outer s H vs Q E hr h => ?_)
  · obtain ⟨a, dx, pP, pW, pB, ps, bs, kP, kW, kB, x, rfl, _⟩ := h
    rfl
  obtain ⟨a, dx, pP, pW, pB, ps, bs, kP, kW, kB, x, rfl, R, W, q⟩ := h
  have L3 : 3 ≤ sizeLine := by decide
  refine ⟨_, (pss_cons (ps_try ⟨rfl, rfl⟩ (psx_set (i := 2) sc_law_taken.nd rfl (Or.inl rfl) (px_tup2 pe_str (px_mtd (k := 4) (pv 0) (hr.mono (by decide)) (pac (pv 1) pa_nil)))) (ph_as (i := 3) (ClsN.own m_NoPin) sc_law_taken.nd rfl rfl (fun a => (pss_one (ps_set (i := 2) sc_law_taken.nd rfl (Or.inl rfl) (pe_tup (pac pe_str (pac (pe_excGK (K := K) rfl (pv 3) rfl) (pac (pe_fnH G_law_alone (RoomH.mark (hr.mono (by decide)) _) (pac (pv 3) pa_nil)) pa_nil))))))) ph_nil))
    (pss_one (ps_ret (pv 2)))), ?_⟩
  refine ⟨_, rfl, a, C, dx, _, _, _, rfl, R.obj, rfl, MTp, _, rfl, a, dx, pP, pW, pB, ps, bs, kP, kW, kB, x, rfl, R, W, ?_⟩
  generalize takeT (ps.map (·.1)) bs x = tt at q ⊢
  match tt, q with
  | some none, q =>
    intro d H' sH nd hd
    refine ⟨true, ex.nn, iteT fun ea na => ?_⟩
    refine ⟨_, rfl, ea, CN, d, _, .str x, rfl, upd_same, ?_, xn, look1 _ _, _, rfl, ea, CN, some d, rfl, upd_same, an, fun H4 s4 => ⟨L3, ?_⟩⟩
    · rw [upd_ne (fun z => by rw [z, na] at hd; cases hd)]
      exact hd
    intro p3 n3; generalize eX : upd _ p3 _ = H3; have s3 := eX ▸ same_new n3 _; have e3 : H3 p3 = some _ := eX ▸ upd_same; clear eX
    exact ⟨_, rfl, q p3 H3 (back2 sH na (s4.trans s3)) ((back2 sH na s4).free n3) e3⟩
  | some (some b), q => exact q.elim
  | none, q =>
    intro H' kP' k' R'
    have nn : ∀ {p : Addr}, H' p = none → H p = none := fun {p} n => by
      cases z : H p with
      | none => rfl
      | some o =>
        by_cases c : p = pP
        · rw [c, R'.pl] at n; cases n
        by_cases c2 : p = pW
        · rw [c2, R'.wy] at n; cases n
        · rw [k' _ _ c c2 z] at n; cases n
    intro p3 n3; generalize eX : upd _ p3 _ = H3; have s3 := eX ▸ same_new n3 _; have e3 : H3 p3 = some _ := eX ▸ upd_same; clear eX
    exact ⟨_, rfl, q p3 H3 kP' (fun b o n n2 z => s3 _ _ (k' b o n n2 z)) (R'.same s3) (nn n3) e3⟩
def spPlaceL (K : PySem.W.Frag) (C : Addr) : Sp := fun vs H Q _ => ∃ (a dx pP pW pB : Addr) (ps : List (Str × Pt)) (bs : List (Str × Str × Str)) (kP kW kB : List (Key × V)) (x : Str), vs = [.ref a, .str x] ∧ FrR K H C a dx pP pW pB ps bs kP kW kB ∧ (ps.map (·.1)).Nodup ∧
  (∀ p, (x, p) ∈ ps → ∀ (q : Addr) (v : V) (H' : Hp), Same H H' → Spot K H' v p → H' q = some (.tup [.str "at", v]) → Q (.ref q) H') ∧ (x ∉ ps.map (·.1) → told3 H Q "none" (.str x))
theorem sc_law_place : FnScope ["_law_frame", "_law_name", "_law_told", "_law_e"] ["_law_frame", "_law_name"] (defScope s_law_place) := ⟨rfl, rfl, rfl, by decide +kernel, rfl, by decide +kernel, by decide +kernel⟩
theorem ok_law_place {C CT CP CS CN CU CB CO CL CY : Addr} (D : Def K mg "_law_place" s_law_place ["_law_frame", "_law_name"]) (m_NoPin : mg "NoPin" = some (.ref CN)) (ex : ExmK K CP CS CN) (xn : TyExc.ExcF K CN "pin")
    (an : Alone K CP CS CN CU CB CO CL CT CY CN) (G_law_alone : FnH P w K mg base 1 "_law_alone" ["_law_e"] (spAlone K CP CS CN CU CB CO CL CT CY))
    (MPl : MtdOk P w K mg base (CXr P w) 4 C "place" ["self", "pin"] (spPlaceX K C CN)) : Fn P w K mg base (CXr P w) 5 "_law_place" ["_law_frame", "_law_name"] (spPlaceL K C) := by
  refine D.ok sc_law_place (fun vs H Q E h => ?_) (fun f cdv A outer s H vs Q E hr h => ?_)
  · obtain ⟨a, dx, pP, pW, pB, ps, bs, kP, kW, kB, x, rfl, _⟩ := h
    rfl
  obtain ⟨a, dx, pP, pW, pB, ps, bs, kP, kW, kB, x, rfl, R, nd0, q1, q2⟩ := h
  have L3 : 3 ≤ sizeLine := by decide
  refine ⟨_, (pss_cons (ps_try ⟨rfl, rfl⟩ (psx_set (i := 2) sc_law_place.nd rfl (Or.inl rfl) (px_tup2 pe_str (px_mtd (k := 4) (pv 0) (hr.mono (by decide)) (pac (pv 1) pa_nil)))) (ph_as (i := 3) (ClsN.own m_NoPin) sc_law_place.nd rfl rfl (fun a => (pss_one (ps_set (i := 2) sc_law_place.nd rfl (Or.inl rfl) (pe_tup (pac pe_str (pac (pe_excGK (K := K) rfl (pv 3) rfl) (pac (pe_fnH G_law_alone (RoomH.mark (hr.mono (by decide)) _) (pac (pv 3) pa_nil)) pa_nil))))))) ph_nil))
    (pss_one (ps_ret (pv 2)))), ?_⟩
  refine ⟨_, rfl, a, C, dx, _, _, _, rfl, R.obj, rfl, MPl, _, rfl, a, dx, pP, pW, pB, ps, bs, kP, kW, kB, x, rfl, R, nd0, fun p hx v hv => ?_, fun hx d H' sH nd hd => ?_⟩
  · intro p3 n3; generalize eX : upd _ p3 _ = H3; have s3 := eX ▸ same_new n3 _; have e3 : H3 p3 = some _ := eX ▸ upd_same; clear eX
    exact ⟨_, rfl, q1 p hx p3 v H3 s3 (hv.sameT (.of s3)) e3⟩
  · refine ⟨true, ex.nn, iteT fun ea na => ?_⟩
    refine ⟨_, rfl, ea, CN, d, _, .str x, rfl, upd_same, ?_, xn, look1 _ _, _, rfl, ea, CN, some d, rfl, upd_same, an, fun H4 s4 => ⟨L3, ?_⟩⟩
    · rw [upd_ne (fun z => by rw [z, na] at hd; cases hd)]
      exact hd
    intro p3 n3; generalize eX : upd _ p3 _ = H3; have s3 := eX ▸ same_new n3 _; have e3 : H3 p3 = some _ := eX ▸ upd_same; clear eX
    exact ⟨_, rfl, q2 hx p3 H3 (back2 sH na (s4.trans s3)) ((back2 sH na s4).free n3) e3⟩
def spHeldL (K : PySem.W.Frag) (C : Addr) : Sp := fun vs H Q _ => ∃ (a dx pP pW pB : Addr) (ps : List (Str × Pt)) (bs : List (Str × Str × Str)) (kP kW kB : List (Key × V)) (pw : List (Str × List (Rat × Rat))) (x : Str), vs = [.ref a, .str x] ∧ FrR K H C a dx pP pW pB ps bs kP kW kB ∧ WyR K H pw kW ∧ pw.map (·.1) = ps.map (·.1) ∧ (ps.map (·.1)).Nodup ∧
  (∀ ws, (x, ws) ∈ pw → ∀ (q l : Addr) (us : List V) (H' : Hp), Same H H' → H l = none → H' l = some (.lst us) → PtsR K H' us ws → H' q = some (.tup [.str "ways", .ref l]) → Q (.ref q) H') ∧ (x ∉ ps.map (·.1) → told3 H Q "none" (.str x))
theorem sc_law_held : FnScope ["_law_frame", "_law_name", "_law_told", "_law_e"] ["_law_frame", "_law_name"] (defScope s_law_held) := ⟨rfl, rfl, rfl, by decide +kernel, rfl, by decide +kernel, by decide +kernel⟩
theorem ok_law_held {C CT CP CS CN CU CB CO CL CY : Addr} (D : Def K mg "_law_held" s_law_held ["_law_frame", "_law_name"]) (m_NoPin : mg "NoPin" = some (.ref CN)) (ex : ExmK K CP CS CN) (xn : TyExc.ExcF K CN "pin")
    (an : Alone K CP CS CN CU CB CO CL CT CY CN) (G_law_alone : FnH P w K mg base 1 "_law_alone" ["_law_e"] (spAlone K CP CS CN CU CB CO CL CT CY))
    (MWy : MtdOk P w K mg base (CXr P w) 4 C "ways" ["self", "pin"] (spWaysX K C CN)) : Fn P w K mg base (CXr P w) 5 "_law_held" ["_law_frame", "_law_name"] (spHeldL K C) := by
  refine D.ok sc_law_held (fun vs H Q E h => ?_) (fun f cdv A outer s H vs Q E hr h => ?_)
  · obtain ⟨a, dx, pP, pW, pB, ps, bs, kP, kW, kB, pw, x, rfl, _⟩ := h
    rfl
  obtain ⟨a, dx, pP, pW, pB, ps, bs, kP, kW, kB, pw, x, rfl, R, W, ew, nd0, q1, q2⟩ := h
  have L3 : 3 ≤ sizeLine := by decide
  refine ⟨_, (pss_cons (ps_try ⟨rfl, rfl⟩ (psx_set (i := 2) sc_law_held.nd rfl (Or.inl rfl) (px_tup2 pe_str (px_mtd (k := 4) (pv 0) (hr.mono (by decide)) (pac (pv 1) pa_nil)))) (ph_as (i := 3) (ClsN.own m_NoPin) sc_law_held.nd rfl rfl (fun a => (pss_one (ps_set (i := 2) sc_law_held.nd rfl (Or.inl rfl) (pe_tup (pac pe_str (pac (pe_excGK (K := K) rfl (pv 3) rfl) (pac (pe_fnH G_law_alone (RoomH.mark (hr.mono (by decide)) _) (pac (pv 3) pa_nil)) pa_nil))))))) ph_nil))
    (pss_one (ps_ret (pv 2)))), ?_⟩
  refine ⟨_, rfl, a, C, dx, _, _, _, rfl, R.obj, rfl, MWy, _, rfl, a, dx, pP, pW, pB, ps, bs, kP, kW, kB, pw, x, rfl, R, W, ew, nd0, fun ws hx l us H2 s2 nl hl pt => ?_, fun hx d H' sH nd hd => ?_⟩
  · intro p3 n3; generalize eX : upd _ p3 _ = H3; have s3 := eX ▸ same_new n3 _; have e3 : H3 p3 = some _ := eX ▸ upd_same; clear eX
    exact ⟨_, rfl, q1 ws hx p3 l us H3 (s2.trans s3) nl (s3 _ _ hl) (pt.same s3) e3⟩
  · refine ⟨true, ex.nn, iteT fun ea na => ?_⟩
    refine ⟨_, rfl, ea, CN, d, _, .str x, rfl, upd_same, ?_, xn, look1 _ _, _, rfl, ea, CN, some d, rfl, upd_same, an, fun H4 s4 => ⟨L3, ?_⟩⟩
    · rw [upd_ne (fun z => by rw [z, na] at hd; cases hd)]
      exact hd
    intro p3 n3; generalize eX : upd _ p3 _ = H3; have s3 := eX ▸ same_new n3 _; have e3 : H3 p3 = some _ := eX ▸ upd_same; clear eX
    exact ⟨_, rfl, q2 hx p3 H3 (back2 sH na (s4.trans s3)) ((back2 sH na s4).free n3) e3⟩
def pinA (x : Str) : PinT → List V
  | .there => [.str "there", .str x, .bl true]
  | .spot y => [.str "spot", .str y, .bl true]
  | _ => [.str "done", .non]
def PinsP (K : PySem.W.Frag) (H : Hp) (us : List V) (ps : List (Str × Pt)) : Prop := Paired (fun u z => ∃ p v v2, u = V.ref p ∧ SqT K H p [.str z.1, v, v2] ∧ Spot K H v z.2) us ps
def spDuePut (K : PySem.W.Frag) : Sp := fun vs H Q _ => ∃ (pA sp : Addr) (us : List V) (ps : List (Str × Pt)) (x : Str) (pt : Pt), vs = [.ref pA, .str x, .ref sp] ∧ H pA = some (.lst us) ∧ PinsP K H us ps ∧ Spot K H (.ref sp) pt ∧ ps.length < 24 ∧
  ∀ (p : Addr) (H' : Hp), Same H H' → H p = none → H' p = some (.tup (pinA x (pinT ps x pt))) → Q (.ref p) H'
theorem sc_law_due_put : FnScope ["_law_pins", "_law_name", "_law_spot", "_law_pin"] ["_law_pins", "_law_name", "_law_spot"] (defScope s_law_due_put) := ⟨rfl, rfl, rfl, by decide +kernel, rfl, by decide +kernel, by decide +kernel⟩
theorem ok_law_due_put (D : Def K mg "_law_due_put" s_law_due_put ["_law_pins", "_law_name", "_law_spot"]) : Fn P w K mg base (CXr P w) 1 "_law_due_put" ["_law_pins", "_law_name", "_law_spot"] (spDuePut K) := by
  refine D.ok sc_law_due_put (fun vs H Q E h => ?_) (fun f cdv A outer s H vs Q E hr h => ?_)
  · obtain ⟨pA, sp, us, ps, x, pt, rfl, _⟩ := h
    rfl
  obtain ⟨pA, sp, us, ps, x, pt, rfl, hp, hP, hsp, hl, q⟩ := h
  have L3 : 3 ≤ sizeLine := by decide
  have L2 : 2 ≤ sizeLine := by decide
  have lu : us.length = ps.length := Paired.length hP
  refine ⟨_, (pss_cons (ps_for PassesOwn.never rfl (pi_list (pv 0)) (pg_name (i := 3) sc_law_due_put.nd rfl (Or.inl rfl)) (pss_one (ps_if (pt_cmpR op_eq (pe_ix ix_tup (pv 3) pe_int (fun _ _ => rfl)) (pv 1) (nomark _)) (pss_one (ps_ret (pe_tup (pac pe_str (pac (pv 1) (pac pe_bl pa_nil)))))) pss_nil)))
    (pss_cons (ps_for PassesOwn.never rfl (pi_list (pv 0)) (pg_name (i := 3) sc_law_due_put.nd rfl (Or.inl rfl)) (pss_one (ps_if (pt_cmpR (op_eqDa hr.units) (pe_ix ix_tup (pv 3) pe_int (fun _ _ => rfl)) (pv 2) (nomark _)) (pss_one (ps_ret (pe_tup (pac pe_str (pac (pe_ix ix_tup (pv 3) pe_int (fun _ _ => rfl)) (pac pe_bl pa_nil)))))) pss_nil)))
    (pss_one (ps_ret (pe_tup (pac pe_str (pac pe_non pa_nil))))))), ?_⟩
  unfold pinT at q
  refine ⟨_, rfl, pA, rfl, ⟨_, SqL.of hp⟩, for_list (K := K) (a := pA) (xs := us) (fun t σ H' => ∃ o3 : Option V, σ = [some (.ref pA), some (.str x), some (.ref sp), o3] ∧ H' = H ∧ ∀ z ∈ ps.take t, z.1 ≠ x) ⟨none, rfl, rfl, by simp⟩ (fun t σ H' _ h => by
      obtain ⟨_, _, rfl, _⟩ := h
      exact SqL.of hp) ?_ ?_⟩
  · rintro t u σ H1 hu ⟨o3, rfl, rfl, hs⟩
    obtain ⟨z, ez, p, v, v2, rfl, hz, hv⟩ := paired_get hP hu
    refine ⟨_, rfl, p, _, _, _, rfl, rfl, hz, rfl, _, rfl, rfl, _, rfl, ?_⟩
    refine ite2 (fun c => ?_) (fun c => ?_)
    · have c' : z.1 = x := by simpa [eqV] using c
      rw [if_pos (List.mem_map.mpr ⟨z, List.mem_of_getElem? ez, c'⟩)] at q
      refine ⟨_, rfl, L3, ?_⟩
      intro p2 n2; generalize eX : upd _ p2 _ = H2; have s2 := eX ▸ same_new n2 _; have e2 : H2 p2 = some _ := eX ▸ upd_same; clear eX
      exact q p2 H2 s2 n2 e2
    · have c' : ¬ z.1 = x := fun e => c (by simp [eqV, e])
      refine ⟨_, rfl, rfl, fun w hw => ?_⟩
      rw [take_snoc ez] at hw
      rcases List.mem_append.mp hw with h | h
      · exact hs w h
      · rw [List.mem_singleton.mp h]
        exact c'
  · rintro σ H1 ⟨o3, rfl, rfl, hs⟩
    rw [lu, List.take_length] at hs
    rw [if_neg (fun hx => by
      obtain ⟨z, hz, e⟩ := List.mem_map.mp hx
      exact hs z hz e)] at q
    refine ⟨_, rfl, pA, rfl, ⟨_, SqL.of hp⟩, for_list (K := K) (a := pA) (xs := us) (fun t σ H' => ∃ o3 : Option V, σ = [some (.ref pA), some (.str x), some (.ref sp), o3] ∧ H' = H1 ∧ ∀ z ∈ ps.take t, z.2 ≠ pt) ⟨o3, rfl, rfl, by simp⟩ (fun t σ H' _ h => by
        obtain ⟨_, _, rfl, _⟩ := h
        exact SqL.of hp) ?_ ?_⟩
    · rintro t u σ H2 hu ⟨o3, rfl, rfl, hs2⟩
      obtain ⟨z, ez, p, v, v2, rfl, hz, hv⟩ := paired_get hP hu
      refine ⟨_, rfl, p, _, _, _, rfl, rfl, hz, rfl, _, rfl, spotD z.2, spotD pt, .inl ⟨hv.is, hsp.is⟩, alike_spots _ _, dep_spots _, ?_⟩
      rw [eq_spots]
      refine ⟨_, rfl, ?_⟩
      refine ite2 (fun c => ?_) (fun c => ?_)
      · have ep : z.2 = pt := of_decide_eq_true c
        have ef : ps.find? (fun z => decide (z.2 = pt)) = some z := by
          have eps : ps = ps.take t ++ z :: ps.drop (t + 1) := by
            have lt := (List.getElem?_eq_some_iff.mp ez).1
            have e2 := (List.getElem?_eq_some_iff.mp ez).2
            rw [← e2, List.getElem_cons_drop, List.take_append_drop]
          rw [eps, List.find?_append]
          have n1 : (ps.take t).find? (fun z => decide (z.2 = pt)) = none := List.find?_eq_none.mpr fun w hw => by simpa using hs2 w hw
          rw [n1]
          simp [ep]
        rw [ef] at q
        refine ⟨_, rfl, p, _, _, _, rfl, rfl, hz, rfl, L3, ?_⟩
        intro p3 n3; generalize eX : upd _ p3 _ = H3; have s3 := eX ▸ same_new n3 _; have e3 : H3 p3 = some _ := eX ▸ upd_same; clear eX
        exact q p3 H3 s3 n3 e3
      · refine ⟨_, rfl, rfl, fun w hw => ?_⟩
        rw [take_snoc ez] at hw
        rcases List.mem_append.mp hw with h | h
        · exact hs2 w h
        · rw [List.mem_singleton.mp h]
          exact fun e => c (decide_eq_true e)
    · rintro σ H2 ⟨o3, rfl, rfl, hs2⟩
      rw [lu, List.take_length] at hs2
      have ef : ps.find? (fun z => decide (z.2 = pt)) = none := List.find?_eq_none.mpr fun w hw => by simpa using hs2 w hw
      rw [ef] at q
      dsimp only at q
      rw [if_neg (by omega)] at q
      refine ⟨L2, ?_⟩
      intro p3 n3; generalize eX : upd _ p3 _ = H3; have s3 := eX ▸ same_new n3 _; have e3 : H3 p3 = some _ := eX ▸ upd_same; clear eX
      exact q p3 H3 s3 n3 e3
theorem fmod_in {x m : Int} (h : 0 < m) : 0 ≤ x.fmod m ∧ x.fmod m < m := ⟨Int.fmod_nonneg_of_pos x h, Int.fmod_lt_of_pos x h⟩
def cell (ns : List Int) (k : Int) : Int := (ns[k.toNat]?).getD 0
def spCell (K : PySem.W.Frag) : Sp := fun vs H Q _ => ∃ (a : Addr) (ns : List Int) (k : Int), vs = [.ref a, .int k] ∧ SqL K H a (ns.map V.int) ∧ 0 ≤ k ∧ Q (.int (cell ns k)) H
theorem cell_in {ns : List Int} {k : Int} (h0 : 0 ≤ k) (h : k < (ns.length : Int)) : atI (ns.map V.int) k = some (.int (cell ns k)) := by
  have hk : k.toNat < ns.length := by omega
  have ek : k = ((k.toNat : Nat) : Int) := by omega
  have q : atI (ns.map V.int) ((k.toNat : Nat) : Int) = some (.int (cell ns k)) := atI_nat (by
    unfold cell
    rw [List.getElem?_map, List.getElem?_eq_getElem hk]
    rfl)
  rw [← ek] at q
  exact q
theorem cell_out {ns : List Int} {k : Int} (h : ¬ k < (ns.length : Int)) : cell ns k = 0 := by
  unfold cell
  rw [List.getElem?_eq_none (by omega)]
  rfl
theorem cell_bits {ns : List Int} (hb : ∀ i ∈ ns, intBits i ≤ 1048576) (k : Int) : intBits (cell ns k) ≤ 1048576 := by
  unfold cell
  cases e : ns[k.toNat]? with
  | none => exact intBits_le_iff.mpr (by show 0 < 2 ^ 1048576; exact Nat.two_pow_pos _)
  | some v => exact hb v (List.mem_of_getElem? e)
theorem sc_law_cell_at : FnScope ["_law_script", "_law_k"] ["_law_script", "_law_k"] (defScope s_law_cell_at) := ⟨rfl, rfl, rfl, by decide +kernel, rfl, by decide +kernel, by decide +kernel⟩
theorem ok_law_cell_at (D : Def K mg "_law_cell_at" s_law_cell_at ["_law_script", "_law_k"]) (m_len : mg "len" = none) : Fn P w K mg base CX 1 "_law_cell_at" ["_law_script", "_law_k"] (spCell K) := by
  refine D.ok sc_law_cell_at (fun vs H Q E h => ?_) (fun f cdv A outer s H vs Q E hr h => ?_)
  · obtain ⟨a, ns, k, rfl, _⟩ := h
    rfl
  obtain ⟨a, ns, k, rfl, hS, h0, q⟩ := h
  refine ⟨_, (pss_cons (ps_if (pt_cmpR op_lt (pv 1) (pe_callB call_len_seq rfl m_len b_len (pac (pv 0) pa_nil)) (nomark _)) (pss_one (ps_ret (pe_ix ix_list (pv 0) (pv 1) (fun _ _ => rfl)))) pss_nil)
    (pss_one (ps_ret pe_int))), ?_⟩
  have hl : (ns.map V.int).length = ns.length := List.length_map _
  refine ⟨_, rfl, _, rfl, a, _, rfl, .inl hS, _, _, rfl, rfl, _, rfl, ?_⟩
  refine ite2 (fun c => ?_) (fun c => ?_)
  · have c' : k < (((ns.map V.int).length : Nat) : Int) := of_decide_eq_true c
    rw [hl] at c'
    exact ⟨_, rfl, _, rfl, a, _, k, _, rfl, rfl, hS, cell_in h0 c', q⟩
  · have c' : ¬ k < (((ns.map V.int).length : Nat) : Int) := of_decide_eq_false (Bool.eq_false_iff.mpr c)
    rw [hl] at c'
    rw [cell_out c'] at q
    exact q
def spLaw_lowest : Sp := fun vs H Q _ => ∃ t b : Int, vs = [.int t, .int b] ∧ 0 < b ∧ intBits b ≤ 9000 ∧ gives H Q (low t b)
theorem sc_law_lowest : FnScope ["_law_top", "_law_bottom", "_law_one", "_law_other"] ["_law_top", "_law_bottom"] (defScope s_law_lowest) := ⟨rfl, rfl, rfl, by decide +kernel, rfl, by decide +kernel, by decide +kernel⟩
theorem ok_law_lowest (D : Def K mg "_law_lowest" s_law_lowest ["_law_top", "_law_bottom"]) (m_abs : mg "abs" = none) : Fn P w K mg base CX 1 "_law_lowest" ["_law_top", "_law_bottom"] spLaw_lowest := by
  refine D.ok sc_law_lowest (fun vs H Q E h => ?_) (fun f cdv A outer s H vs Q E hr h => ?_)
  · obtain ⟨t, b, rfl, _⟩ := h
    rfl
  obtain ⟨t, b, rfl, hb, bb, q⟩ := h
  refine ⟨_, (pss_cons (ps_set (i := 2) sc_law_lowest.nd rfl (Or.inl rfl) (pe_callB call_abs rfl m_abs b_abs (pac (pv 0) pa_nil)))
    (pss_cons (ps_set (i := 3) sc_law_lowest.nd rfl (Or.inl rfl) (pv 1))
    (pss_cons (ps_while PassesOwn.never (pt_cmpR op_ne (pv 3) pe_int (nomark _)) (pss_one (ps_par (i := 2) (j := 3) rfl sc_law_lowest.nd rfl rfl (by decide) rfl rfl (pac (pv 3) (pac (pe_op op_modB (pv 2) (pv 3)) pa_nil)) rfl)))
    (pss_one (ps_ret (pe_tup (pac (pe_op op_fdivB (pv 0) (pv 2)) (pac (pe_op op_fdivB (pv 1) (pv 2)) pa_nil)))))))), ?_⟩
  refine ⟨_, rfl, t, rfl, ?_⟩
  refine ⟨_, rfl, ?_⟩
  refine while_by (fun σ H' => ∃ x y : Int, σ = [some (.int t), some (.int b), some (.int x), some (.int y)] ∧ H' = H ∧ 0 ≤ x ∧ 0 ≤ y ∧ Int.gcd x y = Int.gcd t b) (fun σ _ => match σ with | [_, _, _, some (.int y)] => y.natAbs | _ => 0) ⟨_, b, rfl, rfl, ?_, by omega, ?_⟩ ?_ ?_
  · split <;> omega
  · split
    · exact Int.neg_gcd
    · rfl
  · rintro σ H' ⟨x, y, rfl, rfl, hx, hy, g⟩
    refine ⟨_, rfl, rfl, _, rfl, ?_⟩
    refine ite2 (fun c => ?_) (fun c => ?_)
    · have hy0 : y ≠ 0 := by
        intro z
        subst z
        simp at c
      refine ⟨_, rfl, _, rfl, _, rfl, _, _, rfl, rfl, hy0, _, _, rfl, ?_⟩
      exact ⟨⟨_, _, rfl, rfl, hy, Int.fmod_nonneg_of_pos _ (by omega), by rw [gcd_step]; exact g⟩, fmod_less hy0⟩
    · have hy0 : y = 0 := by
        have := Bool.eq_false_iff.mpr c
        simp at this
        exact this
      subst hy0
      have e : x = sg t b := by
        rw [Int.gcd_zero_right] at g
        unfold sg
        rw [if_neg (by omega)]
        unfold gz
        rw [← g]
        omega
      subst e
      have hbn : b ≠ 0 := by omega
      have c : ∀ i, CDivB i (sg t b) := fun i => ⟨sg_ne hbn, intBits_le_of_natAbs (by rw [sg_abs]; exact gz_le hbn) bb⟩
      refine ⟨_, rfl, _, rfl, _, _, rfl, rfl, c _, _, rfl, _, rfl, _, _, rfl, rfl, c _, (by show 2 ≤ sizeLine; decide), fun p hp => ?_⟩
      exact q p _ (same_new hp _) upd_same
  · rintro σ H' Q1 Q2 h ⟨v, e1, e2, k, ek, z⟩
    exact ⟨v, e1, e2, k, ek, h _ _ z⟩
def spDrawn : Sp := fun vs H Q _ => ∃ (c : Int) (lg : Bool), vs = [.int c, .bl lg] ∧ intBits c ≤ 2000000 ∧ ∀ r : Rat, gives H Q (qr r)
theorem sc_law_drawn : FnScope ["_law_cell", "_law_large", "_law_top"] ["_law_cell", "_law_large"] (defScope s_law_drawn) := ⟨rfl, rfl, rfl, by decide +kernel, rfl, by decide +kernel, by decide +kernel⟩
theorem ok_law_drawn (D : Def K mg "_law_drawn" s_law_drawn ["_law_cell", "_law_large"]) (G_law_lowest : Fn P w K mg base (CXr P w) 1 "_law_lowest" ["_law_top", "_law_bottom"] spLaw_lowest) :
    Fn P w K mg base (CXr P w) 2 "_law_drawn" ["_law_cell", "_law_large"] spDrawn := by
  refine D.ok sc_law_drawn (fun vs H Q E h => ?_) (fun f cdv A outer s H vs Q E hr h => ?_)
  · obtain ⟨c, lg, rfl, _⟩ := h
    rfl
  obtain ⟨c, lg, rfl, bc, q⟩ := h
  have px := passM (X := (cxOf (CXr P w) P w K mg base ["_law_cell", "_law_large", "_law_top"] "_law_drawn" (defScope s_law_drawn) f cdv A outer s H E)) (CXr.mute (P := P) (w := w))
  refine ⟨_, (pss_cons (ps_if (pt_val (pv 1)) (pss_cons (ps_set (i := 2) sc_law_drawn.nd rfl (Or.inl rfl) (pe_op op_sub (pe_op op_modB (pe_op op_mulB (pv 0) (pe_op op_pow pe_int pe_int)) (pe_op op_sub (pe_op op_mulB pe_int (pe_op op_pow pe_int pe_int)) pe_int)) (pe_op op_sub (pe_op op_pow pe_int pe_int) pe_int)))
      (pss_one (ps_ret (pe_fn G_law_lowest (hr.mono (by decide)) px (pac (pv 2) (pac (pe_op op_add pe_int (pe_op op_modB (pe_op op_mulB (pv 0) (pe_op op_pow pe_int pe_int)) (pe_op op_sub (pe_op op_pow pe_int pe_int) pe_int))) pa_nil)))))) pss_nil)
    (pss_one (ps_ret (pe_fn G_law_lowest (hr.mono (by decide)) px (pac (pe_op op_sub (pe_op op_modB (pv 0) pe_int) pe_int) (pac (pe_op op_add pe_int (pe_op op_modB (pe_op op_fdivB (pv 0) pe_int) pe_int)) pa_nil)))))), ?_⟩
  have cm : ∀ {i j : Int}, intBits i ≤ 2000000 → intBits j ≤ 1000 → CMulB i j := fun a b => ⟨Nat.le_trans a (by decide), Nat.le_trans b (by decide)⟩
  have fin : ∀ (t b : Int), 0 < b → intBits b ≤ 9000 → spLaw_lowest [.int t, .int b] H Q E0 := fun t b h1 h2 => by
    refine ⟨t, b, rfl, h1, h2, ?_⟩
    rw [low_qr (Int.ne_of_gt h1)]
    exact q _
  have f3 : (2 : Nat) ^ 200 = 1606938044258990275541962092341162602522202993782792835301376 := by decide +kernel
  refine ⟨_, rfl, lg, rfl, ?_⟩
  refine ite2 (fun _ => ?_) (fun _ => ?_)
  · refine ⟨_, rfl, _, _, rfl, rfl, ⟨by decide, by decide, by decide⟩, _, _, rfl, rfl, cm bc (by decide +kernel), ?_⟩
    refine ⟨_, _, rfl, rfl, ⟨by decide, by decide, by decide⟩, _, _, rfl, rfl, ⟨by decide +kernel, by decide +kernel⟩, _, _, rfl, rfl, ?_⟩
    refine ⟨_, _, rfl, rfl, nz (by decide +kernel), _, _, rfl, rfl, ⟨by decide, by decide, by decide⟩, _, _, rfl, rfl, _, _, rfl, rfl, ?_⟩
    refine ⟨_, rfl, _, rfl, _, _, rfl, rfl, ⟨by decide, by decide, by decide⟩, _, _, rfl, rfl, cm bc (by decide +kernel), ?_⟩
    refine ⟨_, _, rfl, rfl, ⟨by decide, by decide, by decide⟩, _, _, rfl, rfl, _, _, rfl, rfl, nz (by decide +kernel), _, _, rfl, rfl, ?_⟩
    have e2 := fmod_in (x := c * 1299709 ^ (10 : Int).toNat) (m := 10 ^ (60 : Int).toNat - 1) (by decide +kernel)
    generalize (c * 1299709 ^ (10 : Int).toNat).fmod (10 ^ (60 : Int).toNat - 1) = r2 at e2 ⊢
    have f2 : (10 : Int) ^ (60 : Int).toNat = 1000000000000000000000000000000000000000000000000000000000000 := by decide +kernel
    rw [f2] at e2
    exact fin _ _ (by omega) (intBits_le_iff.mpr (Nat.lt_of_lt_of_le (show (1 + r2).natAbs < 2 ^ 200 by rw [f3]; omega) (Nat.pow_le_pow_right (by decide) (by decide))))
  · refine ⟨_, rfl, _, _, rfl, rfl, nz (by decide), _, _, rfl, rfl, _, rfl, _, _, rfl, rfl, ⟨by decide, by decide +kernel⟩, _, _, rfl, rfl, nz (by decide), _, _, rfl, rfl, ?_⟩
    have e2 := fmod_in (x := c.fdiv 9) (m := 3) (by decide)
    generalize (c.fdiv 9).fmod 3 = r2 at e2 ⊢
    exact fin _ _ (by omega) (intBits_le_iff.mpr (Nat.lt_of_lt_of_le (show (1 + r2).natAbs < 2 ^ 200 by rw [f3]; omega) (Nat.pow_le_pow_right (by decide) (by decide))))
structure Sg (S : Str) : Prop where
  lo : 9 ≤ S.length
  hi : S.length ≤ 200
  sz : S.cps.toList.length = S.length
  nd : S.cps.toList.Nodup
theorem Sg.at {S : Str} (h : Sg S) (c : Int) : ∃ d : Nat, atI S.cps.toList (c.fmod (S.length : Int)) = some d := by
  have l := h.lo
  have m := fmod_in (x := c) (m := (S.length : Int)) (by omega)
  obtain ⟨n, en⟩ : ∃ n : Nat, c.fmod (S.length : Int) = (n : Int) := ⟨(c.fmod (S.length : Int)).toNat, by omega⟩
  rw [en] at m ⊢
  have hl := h.sz
  exact ⟨_, atI_nat (List.getElem?_eq_getElem (show n < S.cps.toList.length by omega))⟩
theorem Sg.inj {S : Str} (h : Sg S) {i j : Nat} {d : Nat} (hi : i < S.length) (hj : j < S.length) (e1 : atI S.cps.toList (i : Int) = some d) (e2 : atI S.cps.toList (j : Int) = some d) : i = j := by
  have hl := h.sz
  rw [atI_nat (List.getElem?_eq_getElem (show i < S.cps.toList.length by omega))] at e1
  rw [atI_nat (List.getElem?_eq_getElem (show j < S.cps.toList.length by omega))] at e2
  refine (List.getElem?_inj (show i < S.cps.toList.length by omega) h.nd).mp ?_
  rw [List.getElem?_eq_getElem (show i < S.cps.toList.length by omega), List.getElem?_eq_getElem (show j < S.cps.toList.length by omega), e1, e2]
abbrev sgA : Str := Str.ofString "abcdefghijklmnopqrstuvwxyz0123456789"
abbrev sgB : Str := Str.ofString "aAbBcCdDeEfFgGhHiIjJkKlLmMnNoOpPqQrRsStTuUvVwWxXyYzZ" ++ Str.ofString " .-_/:;,!?#&()[]{}<>=+*'\"\\~^@$|`0123"
theorem sg_A : Sg sgA := ⟨by decide +kernel, by decide +kernel, by decide +kernel, by decide +kernel⟩
theorem sg_B : Sg sgB := ⟨by decide +kernel, by decide +kernel, by decide +kernel, by decide +kernel⟩
theorem slice1 (d e : Nat) : ∀ m : Nat, m < 5 → (Txt.slice (Txt.mul (⟨#[d]⟩ : Str) (m : Int) ++ (⟨#[e]⟩ : Str)) none (some 1)).length = 1
  | 0, _ => by kernel_rfl
  | 1, _ => by kernel_rfl
  | 2, _ => by kernel_rfl
  | 3, _ => by kernel_rfl
  | 4, _ => by kernel_rfl
theorem set_nodup {α : Type} {f : Nat → α} {n : Nat} {y : α} (h : ∀ i j, i < n → j < n → f i = f j → i = j) (hy : ∀ i, i < n → f i ≠ y) (k : Nat) : (((List.range n).map f).set k y).Nodup := by
  have e : ((List.range n).map f).set k y = (List.range n).map fun i => if i = k then y else f i := by
    refine List.ext_getElem? fun i => ?_
    rw [List.getElem?_set, List.getElem?_map, List.getElem?_map, List.length_map, List.length_range]
    by_cases c : i < n
    · rw [List.getElem?_range c]
      by_cases e : i = k
      · subst e
        simp [c]
      · rw [if_neg (fun z => e z.symm)]
        simp [e]
    · rw [List.getElem?_eq_none (by rw [List.length_range]; omega)]
      by_cases e : k = i
      · subst e
        simp [c]
      · simp [e]
  rw [e]
  refine nodup_range_map fun i j hi hj z => ?_
  have z : (if i = k then y else f i) = (if j = k then y else f j) := z
  by_cases c1 : i = k
  · by_cases c2 : j = k
    · omega
    · rw [if_pos c1, if_neg c2] at z
      exact absurd z.symm (hy j hj)
  · by_cases c2 : j = k
    · rw [if_neg c1, if_pos c2] at z
      exact absurd z (hy i hi)
    · rw [if_neg c1, if_neg c2] at z
      exact h i j hi hj z
def spNames : Sp := fun vs H Q _ => ∃ c : Int, vs = [.int c, .int 9] ∧ ∀ (l : Addr) (xs : List Str) (H' : Hp), xs.length = 9 → xs.Nodup → Same H H' → H l = none → H' l = some (.lst (xs.map V.str)) → Q (.ref l) H'
theorem sc_law_names : FnScope ["_law_cell", "_law_many", "_law_signs", "_law_size", "_law_stem", "_law_at", "_law_names_here", "_law_k", "_law_sign"] ["_law_cell", "_law_many"] (defScope s_law_names) := ⟨rfl, rfl, rfl, by decide +kernel, rfl, by decide +kernel, by decide +kernel⟩
theorem ok_law_names (D : Def K mg "_law_names" s_law_names ["_law_cell", "_law_many"]) (m_range : mg "range" = none) (m_len : mg "len" = none) : Fn P w K mg base CX 1 "_law_names" ["_law_cell", "_law_many"] spNames := by
  refine D.ok sc_law_names (fun vs H Q E h => ?_) (fun f cdv A outer s H vs Q E hr h => ?_)
  · obtain ⟨c, rfl, _⟩ := h
    rfl
  obtain ⟨c, rfl, q⟩ := h
  have dv : ∀ i j : Int, 0 < j → j < 1000 → CDivB i j := fun i j h0 h1 => ⟨by omega, Nat.le_trans (intBits_le_64 (by omega) (by omega)) (by decide)⟩
  have m5 := fmod_in (x := c.fdiv 108) (m := 5) (by decide)
  obtain ⟨m, em⟩ : ∃ m : Nat, (c.fdiv 108).fmod 5 = (m : Int) := ⟨((c.fdiv 108).fmod 5).toNat, by omega⟩
  have hm : m < 5 := by omega
  have z20 : ∀ {n : Nat}, n ≤ 40 → n ≤ sizeLine := fun h => Nat.le_trans h (by decide)
  refine ⟨_, (pss_cons (ps_set (i := 2) sc_law_names.nd rfl (Or.inl rfl) pe_str)
    (pss_cons (ps_if (pt_cmpR op_eq (pe_op op_modB (pv 0) pe_int) pe_int (nomark _)) (pss_cons (ps_set (i := 2) sc_law_names.nd rfl (Or.inl rfl) pe_str)
      (pss_one (ps_set (i := 2) sc_law_names.nd rfl (Or.inl rfl) (pe_op op_add_str (pv 2) pe_str)))) pss_nil)
    (pss_cons (ps_set (i := 3) sc_law_names.nd rfl (Or.inl rfl) (pe_callB call_len_str rfl m_len b_len (pac (pv 2) pa_nil)))
    (pss_cons (ps_set (i := 4) sc_law_names.nd rfl (Or.inr rfl) (pe_op op_mulS (pe_ix ix_str (pv 2) (pe_op op_modB (pe_op op_fdivB (pv 0) pe_int) (pv 3)) (fun _ _ => rfl)) (pe_op op_modB (pe_op op_fdivB (pv 0) pe_int) pe_int)))
    (pss_cons (ps_set (i := 4) sc_law_names.nd rfl (Or.inr rfl) (pe_op op_add_str (pv 4) (pe_ix ix_str (pv 2) (pe_op op_modB (pe_op op_fdivB (pv 0) pe_int) (pv 3)) (fun _ _ => rfl))))
    (pss_cons (ps_if (pt_cmpR op_eq (pe_op op_modB (pv 0) pe_int) pe_int (nomark _)) (pss_one (ps_ret (pe_comp (tn := ["_law_k"]) (fr := ["_law_stem"]) (caps := [4]) rfl ⟨rfl, by decide +kernel, rfl, by decide +kernel, by decide +kernel, rfl, ⟨(by first | exact Or.inl rfl | exact Or.inr rfl), trivial⟩, ⟨(by first | exact Or.inl rfl | exact Or.inr rfl), trivial⟩⟩ (pi_range1 rfl m_range (pac (pv 1) pa_nil)) (fun _ _ _ _ => (pg_name (i := 0) (show (["_law_k", "_law_stem"] : List Str).Nodup from by decide +kernel) rfl (Or.inl rfl))) (fun _ _ _ _ => pf_nil) (fun _ _ _ _ => (pe_op op_add_str (pv 1) (pe_op op_mulS (pe_slice sl_str (pv 1) po_none (po_some pe_int)) (pv 0))))))) pss_nil)
    (pss_cons (ps_set (i := 5) sc_law_names.nd rfl (Or.inl rfl) (pe_op op_modB (pe_op op_fdivB (pv 0) pe_int) (pe_op op_add (pe_callB call_len_str rfl m_len b_len (pac (pv 4) pa_nil)) pe_int)))
    (pss_cons (ps_set (i := 6) sc_law_names.nd rfl (Or.inl rfl) (pe_lst pa_nil))
    (pss_cons (ps_for PassesOwn.never rfl (pi_range1 rfl m_range (pac (pv 1) pa_nil)) (pg_name (i := 7) sc_law_names.nd rfl (Or.inl rfl)) (pss_cons (ps_set (i := 8) sc_law_names.nd rfl (Or.inl rfl) (pe_ix ix_str (pv 2) (pe_op op_modB (pe_op op_add (pe_op op_fdivB (pv 0) pe_int) (pv 7)) (pv 3)) (fun _ _ => rfl)))
      (pss_one (ps_expr (pe_bm PySem.F.plainAttrs_list PySem.F.slot_list_append PySem.F.type_list_append mt_append (pv 6) (pac (pe_op op_add_str (pe_op op_add_str (pe_slice sl_str (pv 4) po_none (po_some (pv 5))) (pv 8)) (pe_slice sl_str (pv 4) (po_some (pv 5)) po_none)) pa_nil))))))
    (pss_cons (ps_if (pt_cmpR op_eq (pe_op op_modB (pv 0) pe_int) pe_int (nomark _)) (pss_one (ps_asg pe_str (pg_sub (pv 6) pe_int set_list))) pss_nil)
    (pss_one (ps_ret (pv 6))))))))))))), ?_⟩
  refine ⟨_, rfl, _, _, rfl, rfl, nz (by decide), rfl, _, rfl, ?_⟩
  refine ite2 (fun _ => ?_) (fun _ => ?_)
  · refine ⟨_, rfl, _, _, rfl, rfl, (by decide +kernel), ?_⟩
    have sg := sg_B
    unfold sgB at sg
    generalize hS : Str.ofString "aAbBcCdDeEfFgGhHiIjJkKlLmMnNoOpPqQrRsStTuUvVwWxXyYzZ" ++ Str.ofString " .-_/:;,!?#&()[]{}<>=+*'\"\\~^@$|`0123" = S at sg ⊢
    obtain ⟨d1, e1⟩ := sg.at (c.fdiv 3)
    obtain ⟨d2, e2⟩ := sg.at (c.fdiv 5)
    have szS : S.length ≤ sizeLine := Nat.le_trans sg.hi (by decide)
    have s8 := sg.lo
    have ls : (Txt.mul (⟨#[d1]⟩ : Str) (m : Int) ++ (⟨#[d2]⟩ : Str)).length = m + 1 := by
      rw [strLen_append, mul_len rfl]
      rfl
    refine ⟨_, rfl, S, rfl, szS, ?_⟩
    refine ⟨_, rfl, _, rfl, _, _, rfl, rfl, dv _ _ (by decide) (by decide), _, rfl, _, _, rfl, rfl, nz (by omega), _, _, _, rfl, rfl, szS, e1, ?_⟩
    refine ⟨_, rfl, _, _, rfl, rfl, dv _ _ (by decide) (by decide), _, _, rfl, rfl, nz (by decide), _, _, rfl, rfl, (by rw [em]; exact mulOk1 rfl (by omega)), ?_⟩
    refine ⟨_, rfl, _, rfl, _, rfl, _, _, rfl, rfl, dv _ _ (by decide) (by decide), _, rfl, _, _, rfl, rfl, nz (by omega), _, _, _, rfl, rfl, szS, e2, ?_⟩
    rw [em]
    refine ⟨_, _, rfl, rfl, z20 (by rw [mul_len rfl]; show m + 1 ≤ 40; omega), ?_⟩
    generalize hst : Txt.mul (⟨#[d1]⟩ : Str) (m : Int) ++ (⟨#[d2]⟩ : Str) = st at ls ⊢
    refine ⟨_, rfl, _, _, rfl, rfl, nz (by decide), rfl, _, rfl, ?_⟩
    refine ite2 (fun _ => ?_) (fun _ => ?_)
    · have l1 : (Txt.slice st none (some 1)).length = 1 := by rw [← hst]; exact slice1 d1 d2 m hm
      refine ⟨_, rfl, 9, rfl, by decide, by decide, fun D nD => ?_⟩
      refine comp_range (lo := 0) (n := 9) (fun i v _ => v = .str (st ++ Txt.mul (Txt.slice st none (some 1)) (i : Int))) nD (by decide) (fun _ _ _ _ _ _ _ h => h) ?_ ?_
      · intro i H2 R hi s2 k
        have ei : (0 : Int) + (i : Int) = (i : Int) := Int.zero_add _
        rw [ei]
        refine ⟨_, rfl, _, rfl, _, rfl, st, rfl, z20 (by omega), _, rfl, _, _, rfl, rfl, mulOk1 l1 (by omega), _, _, rfl, rfl, z20 (by rw [mul_len l1, ls]; omega), k _ _ (Same.refl _) rfl⟩
      · intro ys H2 hy hrel s2 hD
        have e := list_of_rel (f := fun i => V.str (st ++ Txt.mul (Txt.slice st none (some 1)) (i : Int))) hy hrel
        refine q D ((List.range 9).map fun (i : Nat) => st ++ Txt.mul (Txt.slice st none (some 1)) (i : Int)) H2 (by simp) (nodup_range_map fun i j _ _ h => ?_) s2 nD (by rw [hD, e, List.map_map]; rfl)
        have := congrArg Str.length h
        rw [strLen_append, strLen_append, mul_len l1, mul_len l1] at this
        omega
    · refine ⟨_, rfl, _, _, rfl, rfl, dv _ _ (by decide) (by decide), _, rfl, st, rfl, z20 (by omega), _, _, rfl, rfl, _, _, rfl, rfl, nz (by omega), ?_⟩
      have c1 : ∀ l u, (Txt.slice st l u).length ≤ 5 := fun l u => Nat.le_trans (Txt.slice_le st l u) (by omega)
      have dx : ∀ k : Nat, ∃ d : Nat, atI S.cps.toList ((c.fdiv 7 + (k : Int)).fmod (S.length : Int)) = some d := fun k => sg.at _
      generalize hat : (c.fdiv 540).fmod ((st.length : Int) + 1) = at0
      let nm : Nat → Str := fun k => Txt.slice st none (some at0) ++ (⟨#[Classical.choose (dx k)]⟩ : Str) ++ Txt.slice st (some at0) none
      have inj : ∀ i j, i < 9 → j < 9 → nm i = nm j → i = j := fun i j hi hj h => by
        have h' := congrArg (fun x : Str => x.cps.toList) h
        change (_ : Str).cps.toList = (_ : Str).cps.toList at h'
        simp only [nm] at h'
        rw [cps_append, cps_append, cps_append, cps_append] at h'
        have h2 := List.append_cancel_left (List.append_cancel_right h')
        have h3 : Classical.choose (dx i) = Classical.choose (dx j) := by simpa using h2
        have y1 := Classical.choose_spec (dx i)
        have y2 := Classical.choose_spec (dx j)
        have a1 := fmod_in (x := c.fdiv 7 + (i : Int)) (m := (S.length : Int)) (by omega)
        have a2 := fmod_in (x := c.fdiv 7 + (j : Int)) (m := (S.length : Int)) (by omega)
        obtain ⟨n1, en1⟩ : ∃ n : Nat, (c.fdiv 7 + (i : Int)).fmod (S.length : Int) = (n : Int) := ⟨_, (Int.toNat_of_nonneg a1.1).symm⟩
        obtain ⟨n2, en2⟩ : ∃ n : Nat, (c.fdiv 7 + (j : Int)).fmod (S.length : Int) = (n : Int) := ⟨_, (Int.toNat_of_nonneg a2.1).symm⟩
        rw [h3] at y1
        generalize Classical.choose (dx j) = dd at y1 y2
        rw [en1] at y1 a1
        rw [en2] at y2 a2
        have z' : n1 = n2 := sg.inj (by omega) (by omega) y1 y2
        have w1 : (c.fdiv 7 + (i : Int)).fmod (S.length : Int) = (c.fdiv 7 + (i : Int)) % (S.length : Int) := Int.fmod_eq_emod_of_nonneg _ (by omega)
        have w2 : (c.fdiv 7 + (j : Int)).fmod (S.length : Int) = (c.fdiv 7 + (j : Int)) % (S.length : Int) := Int.fmod_eq_emod_of_nonneg _ (by omega)
        rw [en1, z', ← en2, w2] at w1
        have w3 := Int.emod_eq_emod_iff_emod_sub_eq_zero.mp w1
        have w4 : ((c.fdiv 7 + (j : Int)) - (c.fdiv 7 + (i : Int))) = (j : Int) - (i : Int) := by omega
        rw [w4] at w3
        obtain ⟨k, hk⟩ := Int.dvd_of_emod_eq_zero w3
        by_cases k0 : k = 0
        · rw [k0, Int.mul_zero] at hk
          omega
        · exfalso
          rcases Int.lt_or_gt_of_ne k0 with k1 | k1
          · have : (S.length : Int) * k ≤ (S.length : Int) * (-1) := Int.mul_le_mul_of_nonneg_left (by omega) (by omega)
            omega
          · have : (S.length : Int) * 1 ≤ (S.length : Int) * k := Int.mul_le_mul_of_nonneg_left (by omega) (by omega)
            omega
      have ne0 : ∀ i, nm i ≠ Str.ofString "" := fun i z => by
        have h := congrArg Str.length z
        simp only [nm] at h
        rw [strLen_append, strLen_append, Ty.one_sign] at h
        have e0 : (Str.ofString "").length = 0 := by decide +kernel
        omega
      refine ⟨(by show 0 ≤ sizeLine; decide), ?_⟩
      intro lN nN; generalize eX : upd _ lN _ = HN; have sN := eX ▸ same_new nN _; have eN : HN lN = some _ := eX ▸ upd_same; clear eX
      refine ⟨_, rfl, 9, rfl, by decide, by decide, for_range (lo := 0) (n := 9) (fun t σ H' => ∃ o7 o8 : Option V, σ = [some (.int c), some (.int 9), some (.str S), some (.int (S.length : Int)), some (.str st), some (.int at0), some (.ref lN), o7, o8] ∧ Same H H' ∧ H' lN = some (.lst (((List.range t).map nm).map V.str))) ⟨none, none, (by rw [← hat]; rfl), sN, eN⟩ ?_ ?_⟩
      · rintro i σ H1 hi ⟨o7, o8, rfl, s1, h1⟩
        have ei : (0 : Int) + (i : Int) = (i : Int) := Int.zero_add _
        rw [ei]
        refine ⟨_, rfl, _, rfl, _, _, rfl, rfl, dv _ _ (by decide) (by decide), _, rfl, _, _, rfl, rfl, _, rfl, _, _, rfl, rfl, nz (by omega), _, _, _, rfl, rfl, szS, Classical.choose_spec (dx i), ?_⟩
        have b1 := c1 none (some at0)
        have b2 := c1 (some at0) none
        refine ⟨_, rfl, .inl ⟨rfl, _, SqL.of h1⟩, _, rfl, _, rfl, _, rfl, st, rfl, z20 (by omega), _, rfl, _, _, rfl, rfl, z20 (by rw [Ty.one_sign]; omega), _, rfl, _, rfl, _, rfl, st, rfl, z20 (by omega), _, _, rfl, rfl, z20 (by rw [strLen_append, Ty.one_sign]; omega), ?_⟩
        refine ⟨lN, _, _, rfl, rfl, h1, (by rw [List.length_map, List.length_map, List.length_range]; exact Nat.lt_of_lt_of_le hi (by decide)), ?_⟩
        refine ⟨_, _, rfl, fun b o z => by rw [upd_ne (ne_of_none z nN)]; exact s1 _ _ z, ?_⟩
        rw [upd_same, List.range_succ, List.map_append, List.map_append]
        rfl
      · rintro σ H1 ⟨o7, o8, rfl, s1, h1⟩
        refine ⟨_, rfl, _, _, rfl, rfl, nz (by decide), rfl, _, rfl, ?_⟩
        refine ite2 (fun _ => ?_) (fun _ => ?_)
        · refine ⟨_, rfl, lN, _, 1, 1, rfl, rfl, h1, rfl, ?_⟩
          refine ⟨_, rfl, q lN (((List.range 9).map nm).set 1 (Str.ofString "")) _ (by simp) (set_nodup inj (fun i _ => ne0 i) 1) (fun b o z => by rw [upd_ne (ne_of_none z nN)]; exact s1 _ _ z) nN ?_⟩
          rw [upd_same, List.map_set]
        · exact ⟨_, rfl, q lN ((List.range 9).map nm) H1 (by simp) (nodup_range_map inj) s1 nN h1⟩
  · have sg := sg_A
    unfold sgA at sg
    generalize hS : Str.ofString "abcdefghijklmnopqrstuvwxyz0123456789" = S at sg ⊢
    obtain ⟨d1, e1⟩ := sg.at (c.fdiv 3)
    obtain ⟨d2, e2⟩ := sg.at (c.fdiv 5)
    have szS : S.length ≤ sizeLine := Nat.le_trans sg.hi (by decide)
    have s8 := sg.lo
    have ls : (Txt.mul (⟨#[d1]⟩ : Str) (m : Int) ++ (⟨#[d2]⟩ : Str)).length = m + 1 := by
      rw [strLen_append, mul_len rfl]
      rfl
    refine ⟨_, rfl, S, rfl, szS, ?_⟩
    refine ⟨_, rfl, _, rfl, _, _, rfl, rfl, dv _ _ (by decide) (by decide), _, rfl, _, _, rfl, rfl, nz (by omega), _, _, _, rfl, rfl, szS, e1, ?_⟩
    refine ⟨_, rfl, _, _, rfl, rfl, dv _ _ (by decide) (by decide), _, _, rfl, rfl, nz (by decide), _, _, rfl, rfl, (by rw [em]; exact mulOk1 rfl (by omega)), ?_⟩
    refine ⟨_, rfl, _, rfl, _, rfl, _, _, rfl, rfl, dv _ _ (by decide) (by decide), _, rfl, _, _, rfl, rfl, nz (by omega), _, _, _, rfl, rfl, szS, e2, ?_⟩
    rw [em]
    refine ⟨_, _, rfl, rfl, z20 (by rw [mul_len rfl]; show m + 1 ≤ 40; omega), ?_⟩
    generalize hst : Txt.mul (⟨#[d1]⟩ : Str) (m : Int) ++ (⟨#[d2]⟩ : Str) = st at ls ⊢
    refine ⟨_, rfl, _, _, rfl, rfl, nz (by decide), rfl, _, rfl, ?_⟩
    refine ite2 (fun _ => ?_) (fun _ => ?_)
    · have l1 : (Txt.slice st none (some 1)).length = 1 := by rw [← hst]; exact slice1 d1 d2 m hm
      refine ⟨_, rfl, 9, rfl, by decide, by decide, fun D nD => ?_⟩
      refine comp_range (lo := 0) (n := 9) (fun i v _ => v = .str (st ++ Txt.mul (Txt.slice st none (some 1)) (i : Int))) nD (by decide) (fun _ _ _ _ _ _ _ h => h) ?_ ?_
      · intro i H2 R hi s2 k
        have ei : (0 : Int) + (i : Int) = (i : Int) := Int.zero_add _
        rw [ei]
        refine ⟨_, rfl, _, rfl, _, rfl, st, rfl, z20 (by omega), _, rfl, _, _, rfl, rfl, mulOk1 l1 (by omega), _, _, rfl, rfl, z20 (by rw [mul_len l1, ls]; omega), k _ _ (Same.refl _) rfl⟩
      · intro ys H2 hy hrel s2 hD
        have e := list_of_rel (f := fun i => V.str (st ++ Txt.mul (Txt.slice st none (some 1)) (i : Int))) hy hrel
        refine q D ((List.range 9).map fun (i : Nat) => st ++ Txt.mul (Txt.slice st none (some 1)) (i : Int)) H2 (by simp) (nodup_range_map fun i j _ _ h => ?_) s2 nD (by rw [hD, e, List.map_map]; rfl)
        have := congrArg Str.length h
        rw [strLen_append, strLen_append, mul_len l1, mul_len l1] at this
        omega
    · refine ⟨_, rfl, _, _, rfl, rfl, dv _ _ (by decide) (by decide), _, rfl, st, rfl, z20 (by omega), _, _, rfl, rfl, _, _, rfl, rfl, nz (by omega), ?_⟩
      have c1 : ∀ l u, (Txt.slice st l u).length ≤ 5 := fun l u => Nat.le_trans (Txt.slice_le st l u) (by omega)
      have dx : ∀ k : Nat, ∃ d : Nat, atI S.cps.toList ((c.fdiv 7 + (k : Int)).fmod (S.length : Int)) = some d := fun k => sg.at _
      generalize hat : (c.fdiv 540).fmod ((st.length : Int) + 1) = at0
      let nm : Nat → Str := fun k => Txt.slice st none (some at0) ++ (⟨#[Classical.choose (dx k)]⟩ : Str) ++ Txt.slice st (some at0) none
      have inj : ∀ i j, i < 9 → j < 9 → nm i = nm j → i = j := fun i j hi hj h => by
        have h' := congrArg (fun x : Str => x.cps.toList) h
        change (_ : Str).cps.toList = (_ : Str).cps.toList at h'
        simp only [nm] at h'
        rw [cps_append, cps_append, cps_append, cps_append] at h'
        have h2 := List.append_cancel_left (List.append_cancel_right h')
        have h3 : Classical.choose (dx i) = Classical.choose (dx j) := by simpa using h2
        have y1 := Classical.choose_spec (dx i)
        have y2 := Classical.choose_spec (dx j)
        have a1 := fmod_in (x := c.fdiv 7 + (i : Int)) (m := (S.length : Int)) (by omega)
        have a2 := fmod_in (x := c.fdiv 7 + (j : Int)) (m := (S.length : Int)) (by omega)
        obtain ⟨n1, en1⟩ : ∃ n : Nat, (c.fdiv 7 + (i : Int)).fmod (S.length : Int) = (n : Int) := ⟨_, (Int.toNat_of_nonneg a1.1).symm⟩
        obtain ⟨n2, en2⟩ : ∃ n : Nat, (c.fdiv 7 + (j : Int)).fmod (S.length : Int) = (n : Int) := ⟨_, (Int.toNat_of_nonneg a2.1).symm⟩
        rw [h3] at y1
        generalize Classical.choose (dx j) = dd at y1 y2
        rw [en1] at y1 a1
        rw [en2] at y2 a2
        have z' : n1 = n2 := sg.inj (by omega) (by omega) y1 y2
        have w1 : (c.fdiv 7 + (i : Int)).fmod (S.length : Int) = (c.fdiv 7 + (i : Int)) % (S.length : Int) := Int.fmod_eq_emod_of_nonneg _ (by omega)
        have w2 : (c.fdiv 7 + (j : Int)).fmod (S.length : Int) = (c.fdiv 7 + (j : Int)) % (S.length : Int) := Int.fmod_eq_emod_of_nonneg _ (by omega)
        rw [en1, z', ← en2, w2] at w1
        have w3 := Int.emod_eq_emod_iff_emod_sub_eq_zero.mp w1
        have w4 : ((c.fdiv 7 + (j : Int)) - (c.fdiv 7 + (i : Int))) = (j : Int) - (i : Int) := by omega
        rw [w4] at w3
        obtain ⟨k, hk⟩ := Int.dvd_of_emod_eq_zero w3
        by_cases k0 : k = 0
        · rw [k0, Int.mul_zero] at hk
          omega
        · exfalso
          rcases Int.lt_or_gt_of_ne k0 with k1 | k1
          · have : (S.length : Int) * k ≤ (S.length : Int) * (-1) := Int.mul_le_mul_of_nonneg_left (by omega) (by omega)
            omega
          · have : (S.length : Int) * 1 ≤ (S.length : Int) * k := Int.mul_le_mul_of_nonneg_left (by omega) (by omega)
            omega
      have ne0 : ∀ i, nm i ≠ Str.ofString "" := fun i z => by
        have h := congrArg Str.length z
        simp only [nm] at h
        rw [strLen_append, strLen_append, Ty.one_sign] at h
        have e0 : (Str.ofString "").length = 0 := by decide +kernel
        omega
      refine ⟨(by show 0 ≤ sizeLine; decide), ?_⟩
      intro lN nN; generalize eX : upd _ lN _ = HN; have sN := eX ▸ same_new nN _; have eN : HN lN = some _ := eX ▸ upd_same; clear eX
      refine ⟨_, rfl, 9, rfl, by decide, by decide, for_range (lo := 0) (n := 9) (fun t σ H' => ∃ o7 o8 : Option V, σ = [some (.int c), some (.int 9), some (.str S), some (.int (S.length : Int)), some (.str st), some (.int at0), some (.ref lN), o7, o8] ∧ Same H H' ∧ H' lN = some (.lst (((List.range t).map nm).map V.str))) ⟨none, none, (by rw [← hat]; rfl), sN, eN⟩ ?_ ?_⟩
      · rintro i σ H1 hi ⟨o7, o8, rfl, s1, h1⟩
        have ei : (0 : Int) + (i : Int) = (i : Int) := Int.zero_add _
        rw [ei]
        refine ⟨_, rfl, _, rfl, _, _, rfl, rfl, dv _ _ (by decide) (by decide), _, rfl, _, _, rfl, rfl, _, rfl, _, _, rfl, rfl, nz (by omega), _, _, _, rfl, rfl, szS, Classical.choose_spec (dx i), ?_⟩
        have b1 := c1 none (some at0)
        have b2 := c1 (some at0) none
        refine ⟨_, rfl, .inl ⟨rfl, _, SqL.of h1⟩, _, rfl, _, rfl, _, rfl, st, rfl, z20 (by omega), _, rfl, _, _, rfl, rfl, z20 (by rw [Ty.one_sign]; omega), _, rfl, _, rfl, _, rfl, st, rfl, z20 (by omega), _, _, rfl, rfl, z20 (by rw [strLen_append, Ty.one_sign]; omega), ?_⟩
        refine ⟨lN, _, _, rfl, rfl, h1, (by rw [List.length_map, List.length_map, List.length_range]; exact Nat.lt_of_lt_of_le hi (by decide)), ?_⟩
        refine ⟨_, _, rfl, fun b o z => by rw [upd_ne (ne_of_none z nN)]; exact s1 _ _ z, ?_⟩
        rw [upd_same, List.range_succ, List.map_append, List.map_append]
        rfl
      · rintro σ H1 ⟨o7, o8, rfl, s1, h1⟩
        refine ⟨_, rfl, _, _, rfl, rfl, nz (by decide), rfl, _, rfl, ?_⟩
        refine ite2 (fun _ => ?_) (fun _ => ?_)
        · refine ⟨_, rfl, lN, _, 1, 1, rfl, rfl, h1, rfl, ?_⟩
          refine ⟨_, rfl, q lN (((List.range 9).map nm).set 1 (Str.ofString "")) _ (by simp) (set_nodup inj (fun i _ => ne0 i) 1) (fun b o z => by rw [upd_ne (ne_of_none z nN)]; exact s1 _ _ z) nN ?_⟩
          rw [upd_same, List.map_set]
        · exact ⟨_, rfl, q lN ((List.range 9).map nm) H1 (by simp) (nodup_range_map inj) s1 nN h1⟩
theorem comp_firsts {D : Addr} {te : TE} {H1 : Hp} {Q : VK} {pA hA pA' : Addr} {us : List V} {zs : Zs} (nD : H1 D = none) (hS : H1 pA = some (.lst us)) (hb : Paired (PinL K H1 pA' hA) us zs) (hn : zs.length < 1000)
    (he : ∀ p (x : Str) (v v2 : V) H (R : VK), SqT K H p [.str x, v, v2] → R (.str x) H → te [some (.ref p)] H R)
    (hd : ∀ H, Same H1 H → H D = some (.lst ((zs.map (·.1)).map V.str)) → Q (.ref D) H) : tBlk D (gName 0) tYes te (Itl K pA) (none :: []) H1 Q := by
  have lu : us.length = zs.length := Paired.length hb
  refine comp_list (cap := []) (K := K) (a := pA) (xs := us) (fun i v _ => ∃ b, zs[i]? = some b ∧ v = .str b.1) nD (by rw [lu]; exact Nat.lt_of_le_of_lt (show zs.length ≤ 1000 by omega) (by decide)) (fun H2 s2 => SqL.of (s2 _ _ hS)) (fun _ _ _ _ _ _ _ h => h) ?_ ?_
  · intro j u H6 R hu s6 k
    obtain ⟨b, eb, p, v, v2, rfl, hp, _⟩ := paired_get hb hu
    exact he p b.1 v v2 H6 R (Ty.Same.seqT s6 hp) (k _ _ (Same.refl _) ⟨b, eb, rfl⟩)
  · intro ys H6 hy hrel s6 hD
    refine hd H6 s6 ?_
    rw [hD]
    congr 2
    refine List.ext_getElem? fun i => ?_
    rw [List.getElem?_map, List.getElem?_map]
    cases ei : ys[i]? with
    | none =>
      have : zs[i]? = none := List.getElem?_eq_none (by have := List.getElem?_eq_none_iff.mp ei; omega)
      rw [this]
      rfl
    | some v =>
      obtain ⟨b, eb, rfl⟩ := hrel i v ei
      rw [eb]
      rfl
theorem kl_held {pA hA : Addr} {H H' : Hp} {hs : List V} (e : H hA = some (.lst hs)) (k : KSame hA H H') : KL pA hA H H' :=
  ⟨fun b xs r => by
    rcases r with r | ⟨o', r⟩
    · exact .inl (k _ _ (fun z => by rw [z, e] at r; cases r) r)
    · exact .inr ⟨o', k _ _ (fun z => by rw [z, e] at r; cases r) r⟩, fun b xs r => k _ _ (fun z => by rw [z, e] at r; cases r) r, fun b us _ n r => k _ _ n r⟩
section
variable {H H' : Hp} {C a dx pP pW pB pA hA : Addr} {xs : List Str} {zs : Zs} {us hs hs' : List V}
theorem S12.asked (S : S12 K H C a dx pP pW pB pA hA xs zs us hs) (k : KSame hA H H') (h : H' hA = some (.lst hs')) (hd : ∀ u ∈ hs', u ∈ hs ∨ HeldR K H' pA hA u) : S12 K H' C a dx pP pW pB pA hA xs zs us hs' := by
  obtain ⟨kP, kW, kB, R, W⟩ := S.fs
  have kl := kl_held (pA := pA) S.ha k
  have kk : ∀ {b : Addr} {o : HO}, b ≠ hA → H b = some o → H' b = H b := fun n e => by rw [k _ _ n e, e]
  have nh : ∀ {b : Addr} {o : HO}, H b = some o → (∀ ys, o ≠ .lst ys) → b ≠ hA := fun e n z => by rw [z, S.ha] at e; cases e; exact n _ rfl
  exact ⟨⟨kP, kW, kB, R.sameT_of kl.t (kk (nh R.obj (by intro ys z; cases z)) R.obj) (kk (nh R.pl (by intro ys z; cases z)) R.pl) (kk (nh R.wy (by intro ys z; cases z)) R.wy) (kk (nh R.br (by intro ys z; cases z)) R.br), Paired.mapP W fun _ _ z => ⟨z.1, z.2.kl kl⟩⟩, k _ _ S.ne S.pa, Paired.mapP S.pl fun _ _ z => z.kl kl, h, fun u hu => by
    rcases hd u hu with q | q
    · exact (S.hd u q).kl kl
    · exact q, S.ne, S.nd, S.im⟩
end
def DueR (K : PySem.W.Frag) (H : Hp) (pA hA : Addr) (x : Str) (zs : Zs) (pe1 pe2 : Addr) : Prop := (x ∉ zs.map (·.1) ∧ H pe1 = some (.tup [.str "none", .str x, .bl true]) ∧ H pe2 = some (.tup [.str "none", .str x, .bl true])) ∨
  ∃ z v v2, z ∈ zs ∧ z.1 = x ∧ H pe1 = some (.tup [.str "at", v]) ∧ Spot K H v z.2.1 ∧ H pe2 = some (.tup [.str "ways", v2]) ∧ WL K H pA hA v2 z.2.2
theorem DueR.kl {H H' : Hp} {pA hA : Addr} {x : Str} {zs : Zs} {pe1 pe2 : Addr} (h : DueR K H pA hA x zs pe1 pe2) (k : KL pA hA H H') : DueR K H' pA hA x zs pe1 pe2 := by
  rcases h with ⟨h1, h2, h3⟩ | ⟨z, v, v2, h1, h2, h3, h4, h5, h6⟩
  · exact .inl ⟨h1, k.u _ _ h2, k.u _ _ h3⟩
  · exact .inr ⟨z, v, v2, h1, h2, k.u _ _ h3, h4.sameT k.t, k.u _ _ h5, h6.kl k⟩
def FndR (K : PySem.W.Frag) (H : Hp) (x : Str) (zs : Zs) (f : Addr) : Prop := (x ∉ zs.map (·.1) ∧ H f = some (.tup [.str "none", .str x, .bl true])) ∨
  ∃ z l us, z ∈ zs ∧ z.1 = x ∧ H f = some (.tup [.str "ways", .ref l]) ∧ H l = some (.lst us) ∧ PtsR K H us z.2.2
theorem FndR.same {H H' : Hp} {x : Str} {zs : Zs} {f : Addr} (h : FndR K H x zs f) (s : Same H H') : FndR K H' x zs f := by
  rcases h with ⟨h1, h2⟩ | ⟨z, l, us, h1, h2, h3, h4, h5⟩
  · exact .inl ⟨h1, s _ _ h2⟩
  · exact .inr ⟨z, l, us, h1, h2, s _ _ h3, s _ _ h4, h5.same s⟩
def waysA (ws : List (Rat × Rat)) : List Da := [.v (.str "ways"), .l (wD ws)]
theorem is_ways {H : Hp} {p l : Addr} {us : List V} {ws : List (Rat × Rat)} (h : H p = some (.tup [.str "ways", .ref l])) (hl : H l = some (.lst us)) (pt : PtsR K H us ws) : Is K H (.t (waysA ws)) (.ref p) := by
  unfold Is
  refine ⟨p, _, rfl, SqT.of h, ?_⟩
  unfold waysA Iss
  refine ⟨by unfold Is; exact ⟨rfl, rfl⟩, ?_⟩
  unfold Iss
  refine ⟨?_, by unfold Iss; trivial⟩
  unfold Is
  exact ⟨l, us, rfl, SqL.of hl, iss_pts pt⟩
theorem eq_ways (ws : List (Rat × Rat)) : eqDas (waysA ws) (waysA ws) = true := by simp [waysA, eqDas, eqDa, eqV, eq_wD]
theorem al_ways (ws : List (Rat × Rat)) : alikes (waysA ws) (waysA ws) = true := by simp [waysA, alikes, alike, alike_wD]
theorem dep_ways (ws : List (Rat × Rat)) : deps (waysA ws) ≤ 60 := by
  have := dep_wD ws
  simp [waysA, deps, dep]
  omega
def placeA (p : Pt) : List Da := [.v (.str "at"), .t (spotD p)]
theorem is_place {H : Hp} {q : Addr} {v : V} {p : Pt} (h : H q = some (.tup [.str "at", v])) (hv : Spot K H v p) : Is K H (.t (placeA p)) (.ref q) := by
  unfold Is
  refine ⟨q, _, rfl, SqT.of h, ?_⟩
  unfold placeA Iss
  refine ⟨by unfold Is; exact ⟨rfl, rfl⟩, ?_⟩
  unfold Iss
  exact ⟨hv.is, by unfold Iss; trivial⟩
theorem eq_place (p : Pt) : eqDas (placeA p) (placeA p) = true := by
  unfold placeA
  simp only [eqDas, eqDa, eq_spots, eqV]
  simp
theorem al_place (p : Pt) : alikes (placeA p) (placeA p) = true := by
  unfold placeA
  simp only [alikes, alike, alike_spots]
  rfl
theorem dep_place (p : Pt) : deps (placeA p) ≤ 60 := by
  simp [placeA, spotD, deps, dep]
theorem zs_one {zs : Zs} (nd : (zs.map (·.1)).Nodup) {y z : Str × Pt × List (Rat × Rat)} (hy : y ∈ zs) (hz : z ∈ zs) (e : y.1 = z.1) : y = z := nm_inj (nm := fun b : Str × Pt × List (Rat × Rat) => b.1) nd hy hz e
def spAsked (K : PySem.W.Frag) (C : Addr) : Sp := fun vs H Q _ => ∃ (a dx pP pW pB pA hA : Addr) (xs : List Str) (zs : Zs) (us hs : List V) (x : Str), vs = [.ref a, .ref pA, .str x, .ref hA] ∧ S12 K H C a dx pP pW pB pA hA xs zs us hs ∧ xs.length = 9 ∧ hs.length < 200 ∧
  ∀ (H' : Hp) (hs' : List V), KSame hA H H' → S12 K H' C a dx pP pW pB pA hA xs zs us hs' → hs'.length ≤ hs.length + 2 → Q (.bl true) H'
theorem sc_law_asked : FnScope ["_law_frame", "_law_pins", "_law_name", "_law_held_here", "_law_place_here", "_law_ways_here", "_law_pin", "_law_found", "_law_told"] ["_law_frame", "_law_pins", "_law_name", "_law_held_here"] (defScope s_law_asked) := ⟨rfl, rfl, rfl, by decide +kernel, rfl, by decide +kernel, by decide +kernel⟩
theorem ok_law_asked {C : Addr} (D : Def K mg "_law_asked" s_law_asked ["_law_frame", "_law_pins", "_law_name", "_law_held_here"]) (m_isinstance : mg "isinstance" = none) (m_list : mg "list" = none)
    (G_law_held : Fn P w K mg base (CXr P w) 5 "_law_held" ["_law_frame", "_law_name"] (spHeldL K C)) (G_law_place : Fn P w K mg base (CXr P w) 5 "_law_place" ["_law_frame", "_law_name"] (spPlaceL K C)) (MPn : MtdOk P w K mg base (CXr P w) 1 C "pins" ["self"] (spPins K C)) :
    Fn P w K mg base (CXr P w) 6 "_law_asked" ["_law_frame", "_law_pins", "_law_name", "_law_held_here"] (spAsked K C) := by
  refine D.ok sc_law_asked (fun vs H Q E h => ?_) (fun f cdv A outer s H vs Q E hr h => ?_)
  · obtain ⟨a, dx, pP, pW, pB, pA, hA, xs, zs, us, hs, x, rfl, _⟩ := h
    rfl
  obtain ⟨a, dx, pP, pW, pB, pA, hA, xs, zs, us, hs, x, rfl, S, hl, lh, q⟩ := h
  have px := passM (X := (cxOf (CXr P w) P w K mg base ["_law_frame", "_law_pins", "_law_name", "_law_held_here", "_law_place_here", "_law_ways_here", "_law_pin", "_law_found", "_law_told"] "_law_asked" (defScope s_law_asked) f cdv A outer s H E)) (CXr.mute (P := P) (w := w))
  have L2 : 2 ≤ sizeLine := by decide
  have L3 : 3 ≤ sizeLine := by decide
  have lz := S.lz hl
  have lu : us.length = zs.length := Paired.length S.pl
  have tail : ∃ tt, PSs (cxOf (CXr P w) P w K mg base ["_law_frame", "_law_pins", "_law_name", "_law_held_here", "_law_place_here", "_law_ways_here", "_law_pin", "_law_found", "_law_told"] "_law_asked" (defScope s_law_asked) f cdv A outer s H E).nox ((defBody s_law_asked).drop 8) tt ∧ ∀ (H5 : Hp) (hs5 : List V) (pe1 pe2 fo : Addr) (o6 o8 : Option V), S12 K H5 C a dx pP pW pB pA hA xs zs us hs5 → DueR K H5 pA hA x zs pe1 pe2 → FndR K H5 x zs fo → (∀ H', Same H5 H' → Q (.bl true) H') →
      tt { nx := fun _ H' => Q .non H', rt := Q } [some (.ref a), some (.ref pA), some (.str x), some (.ref hA), some (.ref pe1), some (.ref pe2), o6, some (.ref fo), o8] H5 := by
    refine ⟨_, (pss_cons (ps_expr (pe_bm PySem.F.plainAttrs_list PySem.F.slot_list_append PySem.F.type_list_append mt_append (pe_mtd0 (k := 1) (pv 0) (hr.mono (by decide)) px) (pac (pv 2) pa_nil))) (pss_one (ps_ret (pe_and (pe_cmpR (op_eqDa hr.units) (pv 7) (pv 5) (nomark _)) (pe_and (pe_cmpR (op_eqDa hr.units) (pe_fn G_law_place (hr.mono (by decide)) px (pac (pv 0) (pac (pv 2) pa_nil))) (pv 4) (nomark _)) (pe_one (pe_cmpR (op_eqDa hr.units) (pe_mtd0 (k := 1) (pv 0) (hr.mono (by decide)) px) (pe_comp (tn := ["_law_pin"]) (fr := []) (caps := []) rfl ⟨rfl, by decide +kernel, rfl, by decide +kernel, by decide +kernel, rfl, trivial, trivial⟩ (pi_list (pv 1)) (fun _ _ _ _ => (pg_name (i := 0) (show (["_law_pin"] : List Str).Nodup from by decide +kernel) rfl (Or.inl rfl))) (fun _ _ _ _ => pf_nil) (fun _ _ _ _ => (pe_ix (ix_tupK (K := K) rfl) (pv 0) pe_int (fun _ _ => rfl)))) (nomark _)))))))), ?_⟩
    intro H5 hs5 pe1 pe2 fo o6 o8 S5 DU FN fin
    obtain ⟨kP, kW, kB, R, W⟩ := S5.fs
    refine ⟨_, rfl, a, C, dx, _, _, _, rfl, R.obj, rfl, MPn, a, dx, pP, pW, pB, _, _, kP, kW, kB, rfl, R, fun l9 H6 s6 n9 e9 => ?_⟩
    refine ⟨.inl ⟨rfl, _, SqL.of e9⟩, _, rfl, l9, _, _, rfl, rfl, e9, (by rw [List.length_map, List.length_map, List.length_map]; exact Nat.lt_of_le_of_lt lz (by decide)), ?_⟩
    have s7 : Same H5 (upd H6 l9 (.lst (((psZ zs).map (·.1)).map V.str ++ [.str x]))) := fun b o e => by rw [upd_ne (ne_of_none e n9)]; exact s6 _ _ e
    generalize upd H6 l9 (.lst (((psZ zs).map (·.1)).map V.str ++ [.str x])) = H7 at s7 ⊢
    have S7 := S5.same s7
    have DU7 := DU.kl (.of s7)
    have FN7 := FN.same s7
    have R7 := R.same s7
    have rest : ∀ (H8 : Hp), Same H7 H8 → ∀ (Q' : VK), (∀ v H9, Same H8 H9 → v = .bl true → Q v H9 → Q' v H9) → ∀ (H9 : Hp), Same H8 H9 → Q' (.bl true) H9 := fun H8 s8 Q' k H9 s9 => k _ H9 s9 rfl (fin H9 ((s7.trans s8).trans s9))
    have third : ∀ (H8 : Hp), Same H7 H8 → FrR K H8 C a dx pP pW pB (psZ zs) [] kP kW kB ∧ H8 pA = some (.lst us) ∧ Paired (PinL K H8 pA hA) us zs := fun H8 s8 => ⟨R7.same s8, s8 _ _ S7.pa, Paired.mapP S7.pl fun _ _ z => z.kl (.of s8)⟩
    have nd := S5.nd
    have ndp : ((psZ zs).map (·.1)).Nodup := by rw [psZ_nm]; exact nd
    rcases DU7 with ⟨hx, d1, d2⟩ | ⟨z, v, v2, hz, ez, d1, d2, d3, l2, us2, rfl, d4, _, _, d5⟩
    · have f1 : H7 fo = some (.tup [.str "none", .str x, .bl true]) := by
        rcases FN7 with ⟨_, h⟩ | ⟨z, _, _, hz, ez, _⟩
        · exact h
        · exact absurd (List.mem_map.mpr ⟨z, hz, ez⟩) hx
      refine ⟨_, rfl, _, rfl, _, _, .inl ⟨is_flat (vs := [.str "none", .str x, .bl true]) rfl f1, is_flat (vs := [.str "none", .str x, .bl true]) rfl d2⟩, alike_flat _ _, dep_flat _, ?_⟩
      rw [eq_flat [.str "none", .str x, .bl true] (by simp [eqV])]
      refine ⟨true, rfl, iteT ?_⟩
      refine ⟨_, rfl, _, rfl, a, dx, pP, pW, pB, _, _, kP, kW, kB, x, rfl, R7, ndp, (fun p hp => absurd (by rw [← psZ_nm]; exact List.mem_map.mpr ⟨_, hp, rfl⟩) hx), fun _ p8 H8 s8 n8 e8 => ?_⟩
      refine ⟨_, rfl, _, _, .inl ⟨is_flat (vs := [.str "none", .str x, .bl true]) rfl e8, is_flat (vs := [.str "none", .str x, .bl true]) rfl (s8 _ _ d1)⟩, alike_flat _ _, dep_flat _, ?_⟩
      rw [eq_flat [.str "none", .str x, .bl true] (by simp [eqV])]
      refine ⟨true, rfl, iteT ?_⟩
      obtain ⟨R8, pa8, pl8⟩ := third H8 s8
      refine ⟨_, rfl, a, C, dx, _, _, _, rfl, R8.obj, rfl, MPn, a, dx, pP, pW, pB, _, _, kP, kW, kB, rfl, R8, fun l10 H10 s10 n10 e10 => ?_⟩
      refine ⟨_, rfl, pA, rfl, ⟨_, SqL.of (s10 _ _ pa8)⟩, fun D1 nD1 => ?_⟩
      refine comp_firsts (K := K) (pA' := pA) (hA := hA) nD1 (s10 _ _ pa8) (Paired.mapP pl8 fun _ _ z => z.kl (.of s10)) (by omega) (fun p x v v2 H R h k => ⟨_, rfl, p, _, _, _, rfl, rfl, h, rfl, k⟩) fun H11 s11 hD => ?_
      rw [← psZ_nm] at hD
      refine eq_strs (s11 _ _ e10) hD ?_
      exact rest H8 s8 _ (fun v H9 _ e h => h) H11 (s10.trans s11)
    · obtain ⟨lf, uf, f1, f2, f3⟩ : ∃ lf uf, H7 fo = some (.tup [.str "ways", .ref lf]) ∧ H7 lf = some (.lst uf) ∧ PtsR K H7 uf z.2.2 := by
        rcases FN7 with ⟨hx, _⟩ | ⟨y, lf, uf, hy, ey, g1, g2, g3⟩
        · exact absurd (List.mem_map.mpr ⟨z, hz, ez⟩) hx
        · have e := zs_one nd hy hz (ey.trans ez.symm)
          subst e
          exact ⟨lf, uf, g1, g2, g3⟩
      refine ⟨_, rfl, _, rfl, _, _, .inl ⟨is_ways f1 f2 f3, is_ways d3 d4 d5⟩, al_ways _, dep_ways _, ?_⟩
      rw [eq_ways]
      refine ⟨true, rfl, iteT ?_⟩
      refine ⟨_, rfl, _, rfl, a, dx, pP, pW, pB, _, _, kP, kW, kB, x, rfl, R7, ndp, (fun p hp p8 v8 H8 s8 h8 e8 => ?_), fun hx => absurd (by rw [psZ_nm]; exact List.mem_map.mpr ⟨z, hz, ez⟩) hx⟩
      have ep : p = z.2.1 := by
        obtain ⟨y, hy, e⟩ := List.mem_map.mp hp
        have e1 : y.1 = x := congrArg Prod.fst e
        have e2 : y.2.1 = p := congrArg Prod.snd e
        have e3 := zs_one nd hy hz (e1.trans ez.symm)
        subst e3
        exact e2.symm
      subst ep
      refine ⟨_, rfl, _, _, .inl ⟨is_place e8 h8, is_place (s8 _ _ d1) (d2.sameT (.of s8))⟩, al_place _, dep_place _, ?_⟩
      rw [eq_place]
      refine ⟨true, rfl, iteT ?_⟩
      obtain ⟨R8, pa8, pl8⟩ := third H8 s8
      refine ⟨_, rfl, a, C, dx, _, _, _, rfl, R8.obj, rfl, MPn, a, dx, pP, pW, pB, _, _, kP, kW, kB, rfl, R8, fun l10 H10 s10 n10 e10 => ?_⟩
      refine ⟨_, rfl, pA, rfl, ⟨_, SqL.of (s10 _ _ pa8)⟩, fun D1 nD1 => ?_⟩
      refine comp_firsts (K := K) (pA' := pA) (hA := hA) nD1 (s10 _ _ pa8) (Paired.mapP pl8 fun _ _ z => z.kl (.of s10)) (by omega) (fun p x v v2 H R h k => ⟨_, rfl, p, _, _, _, rfl, rfl, h, rfl, k⟩) fun H11 s11 hD => ?_
      rw [← psZ_nm] at hD
      refine eq_strs (s11 _ _ e10) hD ?_
      exact rest H8 s8 _ (fun v H9 _ e h => h) H11 (s10.trans s11)
  obtain ⟨tt, ptt, ht⟩ := tail
  obtain ⟨kP, kW, kB, R, W⟩ := S.fs
  have ndp : ((psZ zs).map (·.1)).Nodup := by rw [psZ_nm]; exact S.nd
  refine ⟨_, (pss_cons (ps_set (i := 4) sc_law_asked.nd rfl (Or.inl rfl) (pe_tup (pac pe_str (pac (pv 2) (pac pe_bl pa_nil))))) (pss_cons (ps_set (i := 5) sc_law_asked.nd rfl (Or.inl rfl) (pe_tup (pac pe_str (pac (pv 2) (pac pe_bl pa_nil))))) (pss_cons (ps_for PassesOwn.never rfl (pi_list (pv 1)) (pg_name (i := 6) sc_law_asked.nd rfl (Or.inl rfl)) (pss_one (ps_if (pt_cmpR op_eq (pe_ix ix_tup (pv 6) pe_int (fun _ _ => rfl)) (pv 2) (nomark _)) (pss_cons (ps_set (i := 4) sc_law_asked.nd rfl (Or.inl rfl) (pe_tup (pac pe_str (pac (pe_ix ix_tup (pv 6) pe_int (fun _ _ => rfl)) pa_nil))))
        (pss_one (ps_set (i := 5) sc_law_asked.nd rfl (Or.inl rfl) (pe_tup (pac pe_str (pac (pe_ix ix_tup (pv 6) pe_int (fun _ _ => rfl)) pa_nil)))))) pss_nil))) (pss_cons (ps_set (i := 7) sc_law_asked.nd rfl (Or.inl rfl) (pe_fn G_law_held (hr.mono (by decide)) px (pac (pv 0) (pac (pv 2) pa_nil)))) (pss_cons (ps_set (i := 8) sc_law_asked.nd rfl (Or.inl rfl) (pe_mtd0 (k := 1) (pv 0) (hr.mono (by decide)) px)) (pss_cons (ps_if (PW.pt (pw_or (pt_not (pt_val (pe_callB call_isi rfl m_isinstance b_isinstance (pac (pv 8) (pac (pe_ty rfl m_list b_list) pa_nil))))) (pw_or1 (pt_cmpR (op_neDa hr.units) (pv 8) (pe_comp (tn := ["_law_pin"]) (fr := []) (caps := []) rfl ⟨rfl, by decide +kernel, rfl, by decide +kernel, by decide +kernel, rfl, trivial, trivial⟩ (pi_list (pv 1)) (fun _ _ _ _ => (pg_name (i := 0) (show (["_law_pin"] : List Str).Nodup from by decide +kernel) rfl (Or.inl rfl))) (fun _ _ _ _ => pf_nil) (fun _ _ _ _ => (pe_ix (ix_tupK (K := K) rfl) (pv 0) pe_int (fun _ _ => rfl)))) (nomark _))))) (pss_one (ps_ret pe_bl)) pss_nil) (pss_cons (ps_expr (pe_bm PySem.F.plainAttrs_list PySem.F.slot_list_append PySem.F.type_list_append mt_append (pv 3) (pac (pe_tup (pac (pv 8) (pac (pe_callTy call_listL rfl m_list b_list (pac (pv 8) pa_nil)) pa_nil))) pa_nil))) (pss_cons (ps_if (pt_cmpR op_eq (pe_ix ix_tup (pv 7) pe_int (fun _ _ => rfl)) pe_str (nomark _)) (pss_cons (ps_if (PW.pt (pw_or (pt_not (pt_val (pe_callB call_isi rfl m_isinstance b_isinstance (pac (pe_ix ix_tup (pv 7) pe_int (fun _ _ => rfl)) (pac (pe_ty rfl m_list b_list) pa_nil))))) (pw_or1 (pt_cmpR (op_neDa hr.units) (pv 7) (pv 5) (nomark _))))) (pss_one (ps_ret pe_bl)) pss_nil)
      (pss_cons (ps_expr (pe_bm PySem.F.plainAttrs_list PySem.F.slot_list_append PySem.F.type_list_append mt_append (pe_ix ix_tup (pv 7) pe_int (fun _ _ => rfl)) (pac pe_int pa_nil)))
      (pss_cons (ps_expr (pe_bm PySem.F.plainAttrs_list PySem.F.slot_list_append PySem.F.type_list_append mt_append (pv 3) (pac (pe_tup (pac (pe_ix ix_tup (pv 7) pe_int (fun _ _ => rfl)) (pac (pe_callTy call_listL rfl m_list b_list (pac (pe_ix ix_tup (pv 7) pe_int (fun _ _ => rfl)) pa_nil)) pa_nil))) pa_nil)))
      (pss_one (ps_set (i := 7) sc_law_asked.nd rfl (Or.inl rfl) (pe_fn G_law_held (hr.mono (by decide)) px (pac (pv 0) (pac (pv 2) pa_nil)))))))) pss_nil) ptt)))))))), ?_⟩
  refine ⟨_, rfl, L3, ?_⟩
  intro p1 n1; generalize eX : upd _ p1 _ = H1; have s1 := eX ▸ same_new n1 _; have d1 : H1 p1 = some _ := eX ▸ upd_same; clear eX
  refine ⟨_, rfl, L3, ?_⟩
  intro p2 n2; generalize eX : upd _ p2 _ = H2; have s2 := eX ▸ same_new n2 _; have d2 : H2 p2 = some _ := eX ▸ upd_same; clear eX
  have s02 := s1.trans s2
  refine ⟨_, rfl, pA, rfl, ⟨_, SqL.of (s02 _ _ S.pa)⟩, for_list (K := K) (a := pA) (xs := us) (fun t σ H' => ∃ (o6 : Option V) (pe1 pe2 : Addr), σ = [some (.ref a), some (.ref pA), some (.str x), some (.ref hA), some (.ref pe1), some (.ref pe2), o6, none, none] ∧ Same H H' ∧ DueR K H' pA hA x (zs.take t) pe1 pe2) ⟨none, p1, p2, rfl, s02, .inl ⟨by simp, s2 _ _ d1, d2⟩⟩ (fun t σ H' _ h => by
      obtain ⟨_, _, _, _, s, _⟩ := h
      exact SqL.of (s _ _ S.pa)) ?_ ?_⟩
  · rintro i u σ H3 hu ⟨o6, pe1, pe2, rfl, s3, he⟩
    obtain ⟨z, ez, p, v, v2, rfl, hz, hv, hw⟩ := paired_get S.pl hu
    have hz3 := Ty.Same.seqT s3 hz
    have tk := take_snoc ez
    refine ⟨_, rfl, p, _, _, _, rfl, rfl, hz3, rfl, _, rfl, rfl, _, rfl, ?_⟩
    refine ite2 (fun c => ?_) (fun c => ?_)
    · have c' : z.1 = x := by simpa [eqV] using c
      refine ⟨_, rfl, p, _, _, _, rfl, rfl, hz3, rfl, L2, ?_⟩
      intro p4 n4; generalize eX : upd _ p4 _ = H4; have s4 := eX ▸ same_new n4 _; have d4 : H4 p4 = some _ := eX ▸ upd_same; clear eX
      refine ⟨_, rfl, p, _, _, _, rfl, rfl, Ty.Same.seqT s4 hz3, rfl, L2, ?_⟩
      intro p5 n5; generalize eX : upd _ p5 _ = H5; have s5 := eX ▸ same_new n5 _; have d5 : H5 p5 = some _ := eX ▸ upd_same; clear eX
      have s35 := s3.trans (s4.trans s5)
      refine ⟨_, p4, p5, rfl, s35, .inr ⟨z, v, v2, ?_, c', s5 _ _ d4, hv.sameT (.of s35), d5, hw.kl (.of s35)⟩⟩
      rw [tk]
      exact List.mem_append_right _ (List.mem_singleton.mpr rfl)
    · have c' : ¬ z.1 = x := fun e => c (by simp [eqV, e])
      refine ⟨_, pe1, pe2, rfl, s3, ?_⟩
      rw [tk]
      rcases he with ⟨h1, h2⟩ | ⟨y, v, v2, h1, h2⟩
      · refine .inl ⟨fun hx => ?_, h2⟩
        rw [List.map_append] at hx
        rcases List.mem_append.mp hx with h | h
        · exact h1 h
        · exact c' (List.mem_singleton.mp h).symm
      · exact .inr ⟨y, v, v2, List.mem_append_left _ h1, h2⟩
  rintro σ H3 ⟨o6, pe1, pe2, rfl, s3, he⟩
  rw [lu, List.take_length] at he
  have R3 := R.same s3
  have W3 : WyZ K H3 pA hA zs kW := Paired.mapP W fun _ _ z => ⟨z.1, z.2.kl (.of s3)⟩
  have ew : (pwZ zs).map (·.1) = (psZ zs).map (·.1) := by rw [psZ_nm, pwZ_nm]
  refine ⟨_, rfl, _, rfl, a, dx, pP, pW, pB, _, _, kP, kW, kB, pwZ zs, x, rfl, R3, W3.wy, ew, ndp, (fun ws hx fo lf uf H4 s4 nlf elf pt4 ef => ?_), fun hx fo H4 s4 nf ef => ?_⟩
  · obtain ⟨z, hz, ez, ews⟩ : ∃ z ∈ zs, z.1 = x ∧ z.2.2 = ws := by
      obtain ⟨y, hy, e⟩ := List.mem_map.mp hx
      exact ⟨y, hy, congrArg Prod.fst e, congrArg Prod.snd e⟩
    subst ews
    have s34 := s3.trans s4
    refine ⟨_, rfl, a, C, dx, _, _, _, rfl, (R.same s34).obj, rfl, MPn, a, dx, pP, pW, pB, _, _, kP, kW, kB, rfl, R.same s34, fun l1 H5 s5 nl el => ?_⟩
    have s35 := s34.trans s5
    refine ⟨_, rfl, _, _, _, true, rfl, rfl, .lst el, k_ll, _, rfl, ?_⟩
    refine ite2 (fun c => nomatch c) (fun _ => ?_)
    refine ⟨_, rfl, _, rfl, pA, rfl, ⟨_, SqL.of (s35 _ _ S.pa)⟩, fun D1 nD1 => ?_⟩
    refine comp_firsts (K := K) (pA' := pA) (hA := hA) nD1 (s35 _ _ S.pa) (Paired.mapP S.pl fun _ _ z => z.kl (.of s35)) (by omega) (fun p x v v2 H R h k => ⟨_, rfl, p, _, _, _, rfl, rfl, h, rfl, k⟩) fun H6 s6 hD => ?_
    rw [← psZ_nm] at hD
    refine ne_strs (s6 _ _ el) hD ?_
    refine ⟨_, rfl, ?_⟩
    refine ite2 (fun c => nomatch c) (fun _ => ?_)
    have s36 := s35.trans s6
    have hh6 := s36 _ _ S.ha
    refine ⟨_, rfl, .inl ⟨rfl, _, SqL.of hh6⟩, _, rfl, _, rfl, l1, _, rfl, SqL.of (s6 _ _ el), ?_⟩
    intro l2 n7; generalize eX : upd _ l2 _ = H7; have s7 := eX ▸ same_new n7 _; have e7 : H7 l2 = some _ := eX ▸ upd_same; clear eX
    refine ⟨L2, ?_⟩
    intro t1 n8; generalize eX : upd _ t1 _ = H8; have s8 := eX ▸ same_new n8 _; have e8 : H8 t1 = some _ := eX ▸ upd_same; clear eX
    have s38 := (s36.trans s7).trans s8
    have hh8 := s38 _ _ S.ha
    refine ⟨hA, _, _, rfl, rfl, hh8, Nat.lt_of_le_of_lt (show hs.length ≤ 200 by omega) (by decide), ?_⟩
    have nl1 : H l1 = none := s34.free nl
    have nl2 : H l2 = none := s36.free n7
    have nlf0 : H lf = none := s3.free nlf
    have k9 : KSame hA H (upd H8 hA (.lst (hs ++ [.ref t1]))) := fun b o n e => by rw [upd_ne n]; exact s38 _ _ e
    have hne : ∀ {l : Addr}, H l = none → l ≠ hA := fun n z => by rw [z, S.ha] at n; cases n
    have pne : ∀ {l : Addr}, H l = none → l ≠ pA := fun n z => by rw [z, S.pa] at n; cases n
    have k89 : ∀ b o, b ≠ hA → H8 b = some o → (upd H8 hA (.lst (hs ++ [.ref t1]))) b = some o := fun b o n e => by rw [upd_ne n]; exact e
    have h9 : (upd H8 hA (.lst (hs ++ [.ref t1]))) hA = some (.lst (hs ++ [.ref t1])) := upd_same
    generalize upd H8 hA (.lst (hs ++ [.ref t1])) = H9 at k9 k89 h9 ⊢
    have s48 := (s5.trans s6).trans (s7.trans s8)
    have kl8 : KL pA hA H8 H9 := kl_held hh8 k89
    have ef9 : H9 fo = some (.tup [.str "ways", .ref lf]) := kl8.u _ _ (s48 _ _ ef)
    have elf9 : H9 lf = some (.lst uf) := k89 _ _ (hne nlf0) (s48 _ _ elf)
    have pt9 : PtsR K H9 uf z.2.2 := (pt4.same s48).sameT kl8.t
    have luf : uf.length ≤ 2 := by
      have := (S.im z hz).2
      have e : uf.length = z.2.2.length := Paired.length pt4
      omega
    have DU9 : DueR K H9 pA hA x zs pe1 pe2 := (he.kl (.of (s4.trans s48))).kl kl8
    refine ⟨_, rfl, fo, _, _, _, rfl, rfl, SqT.of ef9, rfl, rfl, _, rfl, ?_⟩
    refine ite2 (fun _ => ?_) (fun c => absurd (by simp [eqV]) c)
    refine ⟨_, rfl, fo, _, _, _, rfl, rfl, SqT.of ef9, rfl, _, _, _, true, rfl, rfl, .lst elf9, k_ll, _, rfl, ?_⟩
    refine ite2 (fun c => nomatch c) (fun _ => ?_)
    obtain ⟨v2, d3, d5⟩ : ∃ v2, H9 pe2 = some (.tup [.str "ways", v2]) ∧ WL K H9 pA hA v2 z.2.2 := by
      rcases DU9 with ⟨hx, _⟩ | ⟨y, v, v2, hy, ey, _, _, g1, g2⟩
      · exact absurd (List.mem_map.mpr ⟨z, hz, ez⟩) hx
      · have e := zs_one S.nd hy hz (ey.trans ez.symm)
        subst e
        exact ⟨v2, g1, g2⟩
    obtain ⟨lw, uw, rfl, d6, _, _, d7⟩ := d5
    refine ⟨_, rfl, _, rfl, _, _, .inl ⟨is_ways ef9 elf9 pt9, is_ways d3 d6 d7⟩, al_ways _, dep_ways _, ?_⟩
    rw [eq_ways]
    refine ⟨_, rfl, ?_⟩
    refine ite2 (fun c => nomatch c) (fun _ => ?_)
    refine ⟨_, rfl, fo, _, _, _, rfl, rfl, SqT.of ef9, rfl, .inl ⟨rfl, _, SqL.of elf9⟩, lf, uf, _, rfl, rfl, elf9, Nat.lt_of_le_of_lt luf (by decide), ?_⟩
    have k10 : KSame hA H (upd H9 lf (.lst (uf ++ [.int 7]))) := fun b o n e => by rw [upd_ne (ne_of_none e nlf0)]; exact k9 b o n e
    have k910 : ∀ b o, b ≠ lf → H9 b = some o → (upd H9 lf (.lst (uf ++ [.int 7]))) b = some o := fun b o n e => by rw [upd_ne n]; exact e
    have h10 : (upd H9 lf (.lst (uf ++ [.int 7]))) hA = some (.lst (hs ++ [.ref t1])) := by rw [upd_ne (Ne.symm (hne nlf0))]; exact h9
    have e10 : (upd H9 lf (.lst (uf ++ [.int 7]))) lf = some (.lst (uf ++ [.int 7])) := upd_same
    have t910 : SameT H9 (upd H9 lf (.lst (uf ++ [.int 7]))) := .list elf9
    generalize upd H9 lf (.lst (uf ++ [.int 7])) = H10 at k10 k910 h10 e10 t910 ⊢
    have ef10 : H10 fo = some (.tup [.str "ways", .ref lf]) := k910 _ _ (fun z => by rw [z, elf9] at ef9; cases ef9) ef9
    refine ⟨_, rfl, .inl ⟨rfl, _, SqL.of h10⟩, _, rfl, fo, _, _, _, rfl, rfl, SqT.of ef10, rfl, _, rfl, fo, _, _, _, rfl, rfl, SqT.of ef10, rfl, lf, _, rfl, SqL.of e10, ?_⟩
    intro l3 n11; generalize eX : upd _ l3 _ = H11; have s11 := eX ▸ same_new n11 _; have e11 : H11 l3 = some _ := eX ▸ upd_same; clear eX
    refine ⟨L2, ?_⟩
    intro t2 n12; generalize eX : upd _ t2 _ = H12; have s12 := eX ▸ same_new n12 _; have e12 : H12 t2 = some _ := eX ▸ upd_same; clear eX
    have s1012 := s11.trans s12
    have h12 := s1012 _ _ h10
    refine ⟨hA, _, _, rfl, rfl, h12, Nat.lt_of_le_of_lt (show (hs ++ [V.ref t1]).length ≤ 201 by simp; omega) (by decide), ?_⟩
    have k13 : KSame hA H (upd H12 hA (.lst (hs ++ [.ref t1] ++ [.ref t2]))) := fun b o n e => by rw [upd_ne n]; exact s1012 _ _ (k10 b o n e)
    have k1213 : ∀ b o, b ≠ hA → H12 b = some o → (upd H12 hA (.lst (hs ++ [.ref t1] ++ [.ref t2]))) b = some o := fun b o n e => by rw [upd_ne n]; exact e
    have h13 : (upd H12 hA (.lst (hs ++ [.ref t1] ++ [.ref t2]))) hA = some (.lst (hs ++ [.ref t1] ++ [.ref t2])) := upd_same
    generalize upd H12 hA (.lst (hs ++ [.ref t1] ++ [.ref t2])) = H13 at k13 k1213 h13 ⊢
    have kl13 : KL pA hA H12 H13 := kl_held h12 k1213
    have nl3 : H l3 = none := by
      cases z : H l3 with
      | none => rfl
      | some o =>
        by_cases c : l3 = hA
        · rw [c, h10] at n11; cases n11
        · rw [k10 _ _ c z] at n11; cases n11
    have l1f : l1 ≠ lf := fun z => by rw [z, elf] at nl; cases nl
    have l2f : l2 ≠ lf := fun z => by rw [z, s6 _ _ (s5 _ _ elf)] at n7; cases n7
    have up : ∀ {l : Addr} {ys : List V}, l ≠ hA → l ≠ lf → H8 l = some (.lst ys) → H13 l = some (.lst ys) := fun n1 n2 e => k1213 _ _ n1 (s1012 _ _ (k910 _ _ n2 (k89 _ _ n1 e)))
    have et1 : H13 t1 = some (.tup [.ref l1, .ref l2]) := kl13.u _ _ (s1012 _ _ (k910 _ _ (fun z => by have := s48 _ _ elf; rw [← z, e8] at this; cases this) (kl8.u _ _ e8)))
    have held1 : HeldR K H13 pA hA (.ref t1) := ⟨t1, l1, l2, _, rfl, et1, up (hne nl1) l1f (s8 _ _ (s7 _ _ (s6 _ _ el))), up (hne nl2) l2f (s8 _ _ e7), heldV_strs _, pne nl1, hne nl1, pne nl2, hne nl2⟩
    have pt10 : PtsR K H10 uf z.2.2 := pt9.sameT t910
    have held2 : HeldR K H13 pA hA (.ref t2) := ⟨t2, lf, l3, _, rfl, kl13.u _ _ e12, k1213 _ _ (hne nlf0) (s1012 _ _ e10), k1213 _ _ (hne nl3) (s12 _ _ e11), (heldV_pts pt10).sameT ((SameT.of s1012).trans kl13.t), pne nlf0, hne nlf0, pne nl3, hne nl3⟩
    have S13' := S.asked k13 h13 fun u hu => by
      rcases List.mem_append.mp hu with h | h
      · rcases List.mem_append.mp h with h | h
        · exact .inl h
        · rw [List.mem_singleton.mp h]
          exact .inr held1
      · rw [List.mem_singleton.mp h]
        exact .inr held2
    obtain ⟨kP', kW', kB', R', W'⟩ := S13'.fs
    have DU13 : DueR K H13 pA hA x zs pe1 pe2 := by
      rcases he with ⟨h1, _⟩ | ⟨y, v, v2', h1, h2, g1, g2, g3, g4⟩
      · exact absurd (List.mem_map.mpr ⟨z, hz, ez⟩) h1
      · have nt : ∀ {b : Addr} {ys : List V}, H3 b = some (.tup ys) → H13 b = some (.tup ys) := fun {b ys} e => kl13.u _ _ (s1012 _ _ (k910 _ _ (fun z => by have q1 := s4 _ _ e; rw [z, elf] at q1; cases q1) (kl8.u _ _ (s48 _ _ (s4 _ _ e)))))
        have t313 : SameT H3 H13 := (((SameT.of (s4.trans s48)).trans kl8.t).trans t910).trans ((SameT.of s1012).trans kl13.t)
        obtain ⟨lw, uw, rfl, w1, w2, w3, w4⟩ := g4
        have nlw : lw ≠ lf := fun z => by rw [z, nlf] at w1; cases w1
        exact .inr ⟨y, v, .ref lw, h1, h2, nt g1, g2.sameT t313, nt g3, lw, uw, rfl, up w3 nlw (s48 _ _ (s4 _ _ w1)), w2, w3, w4.sameT t313⟩
    refine ⟨_, rfl, _, rfl, a, dx, pP, pW, pB, _, _, kP', kW', kB', pwZ zs, x, rfl, R', W'.wy, ew, ndp, (fun ws hx fo2 lf2 uf2 H14 s14 nlf2 elf2 pt14 ef14 => ?_), fun hx => absurd (by rw [psZ_nm]; exact List.mem_map.mpr ⟨z, hz, ez⟩) hx⟩
    have ews : ws = z.2.2 := by
      obtain ⟨y, hy, e⟩ := List.mem_map.mp hx
      have e1 : y.1 = x := congrArg Prod.fst e
      have e2 : y.2.2 = ws := congrArg Prod.snd e
      have e3 := zs_one S.nd hy hz (e1.trans ez.symm)
      subst e3
      exact e2.symm
    subst ews
    refine ht H14 _ pe1 pe2 fo2 _ _ (S13'.same s14) (DU13.kl (.of s14)) (.inr ⟨z, lf2, uf2, hz, ez, ef14, elf2, pt14⟩) fun H' s' => ?_
    have s13' := s14.trans s'
    exact q H' _ (fun b o n e => s13' _ _ (k13 b o n e)) (S13'.same s13') (by simp)
  · have s34 := s3.trans s4
    refine ⟨_, rfl, a, C, dx, _, _, _, rfl, (R.same s34).obj, rfl, MPn, a, dx, pP, pW, pB, _, _, kP, kW, kB, rfl, R.same s34, fun l1 H5 s5 nl el => ?_⟩
    have s35 := s34.trans s5
    refine ⟨_, rfl, _, _, _, true, rfl, rfl, .lst el, k_ll, _, rfl, ?_⟩
    refine ite2 (fun c => nomatch c) (fun _ => ?_)
    refine ⟨_, rfl, _, rfl, pA, rfl, ⟨_, SqL.of (s35 _ _ S.pa)⟩, fun D1 nD1 => ?_⟩
    refine comp_firsts (K := K) (pA' := pA) (hA := hA) nD1 (s35 _ _ S.pa) (Paired.mapP S.pl fun _ _ z => z.kl (.of s35)) (by omega) (fun p x v v2 H R h k => ⟨_, rfl, p, _, _, _, rfl, rfl, h, rfl, k⟩) fun H6 s6 hD => ?_
    rw [← psZ_nm] at hD
    refine ne_strs (s6 _ _ el) hD ?_
    refine ⟨_, rfl, ?_⟩
    refine ite2 (fun c => nomatch c) (fun _ => ?_)
    have s36 := s35.trans s6
    have hh6 := s36 _ _ S.ha
    refine ⟨_, rfl, .inl ⟨rfl, _, SqL.of hh6⟩, _, rfl, _, rfl, l1, _, rfl, SqL.of (s6 _ _ el), ?_⟩
    intro l2 n7; generalize eX : upd _ l2 _ = H7; have s7 := eX ▸ same_new n7 _; have e7 : H7 l2 = some _ := eX ▸ upd_same; clear eX
    refine ⟨L2, ?_⟩
    intro t1 n8; generalize eX : upd _ t1 _ = H8; have s8 := eX ▸ same_new n8 _; have e8 : H8 t1 = some _ := eX ▸ upd_same; clear eX
    have s38 := (s36.trans s7).trans s8
    have hh8 := s38 _ _ S.ha
    refine ⟨hA, _, _, rfl, rfl, hh8, Nat.lt_of_le_of_lt (show hs.length ≤ 200 by omega) (by decide), ?_⟩
    have nl1 : H l1 = none := s34.free nl
    have nl2 : H l2 = none := s36.free n7
    have k9 : KSame hA H (upd H8 hA (.lst (hs ++ [.ref t1]))) := fun b o n e => by rw [upd_ne n]; exact s38 _ _ e
    have hne : ∀ {l : Addr}, H l = none → l ≠ hA := fun n z => by rw [z, S.ha] at n; cases n
    have pne : ∀ {l : Addr}, H l = none → l ≠ pA := fun n z => by rw [z, S.pa] at n; cases n
    have k89 : ∀ b o, b ≠ hA → H8 b = some o → (upd H8 hA (.lst (hs ++ [.ref t1]))) b = some o := fun b o n e => by rw [upd_ne n]; exact e
    have h9 : (upd H8 hA (.lst (hs ++ [.ref t1]))) hA = some (.lst (hs ++ [.ref t1])) := upd_same
    generalize upd H8 hA (.lst (hs ++ [.ref t1])) = H9 at k9 k89 h9 ⊢
    have s48 := (s5.trans s6).trans (s7.trans s8)
    have kl8 : KL pA hA H8 H9 := kl_held hh8 k89
    have ef9 : H9 fo = some (.tup [.str "none", .str x, .bl true]) := kl8.u _ _ (s48 _ _ ef)
    have held1 : HeldR K H9 pA hA (.ref t1) := ⟨t1, l1, l2, _, rfl, kl8.u _ _ e8, k89 _ _ (hne nl1) (s8 _ _ (s7 _ _ (s6 _ _ el))), k89 _ _ (hne nl2) (s8 _ _ e7), heldV_strs _, pne nl1, hne nl1, pne nl2, hne nl2⟩
    have S9 := S.asked k9 h9 fun u hu => by
      rcases List.mem_append.mp hu with h | h
      · exact .inl h
      · rw [List.mem_singleton.mp h]
        exact .inr held1
    refine ⟨_, rfl, fo, _, _, _, rfl, rfl, SqT.of ef9, rfl, rfl, _, rfl, ?_⟩
    refine ite2 (fun c => absurd c (by simp [eqV]; decide +kernel)) (fun _ => ?_)
    refine ht H9 _ pe1 pe2 fo _ _ S9 ((he.kl (.of (s4.trans s48))).kl kl8) (.inl ⟨by rw [← psZ_nm]; exact hx, ef9⟩) fun H' s' => ?_
    exact q H' _ (fun b o n e => s' _ _ (k9 b o n e)) (S9.same s') (by simp)
theorem seq_rest {t u : TS} {D : Ends} {σ : L2.St} {H : Hp} (inv : L2.St → Hp → Prop) (h1 : ∀ N : L2.St → Hp → Prop, (∀ σ' H', inv σ' H' → N σ' H') → t { D with nx := N } σ H) (h2 : ∀ σ' H', inv σ' H' → u D σ' H') : tSeq t u D σ H := h1 _ h2
theorem rel_list12 {α : Type} {R : V → α → Prop} : ∀ {ys : List V}, (∀ (i : Nat) (v : V), ys[i]? = some v → ∃ r, R v r) → ∃ rs, Paired R ys rs
  | [], _ => ⟨[], .nil⟩
  | y :: ys, h => by
    obtain ⟨r, hr⟩ := h 0 y rfl
    obtain ⟨rs, hs⟩ := rel_list12 (ys := ys) fun i v e => h (i + 1) v e
    exact ⟨r :: rs, .cons hr hs⟩
theorem paired_mapR {α β γ : Type} {R : γ → β → Prop} {f : α → β} : ∀ {l : List α} {m : List γ}, Paired (fun c a => R c (f a)) m l → Paired R m (l.map f)
  | _, _, .nil => .nil
  | _, _, .cons h t => .cons h (paired_mapR t)
theorem nums_at {H : Hp} {ys : List V} {rs : List Rat} (h : Paired (NmR K H) ys rs) (hl : ys.length = 5) {i : Int} (h0 : 0 ≤ i) (h5 : i < 5) : ∃ (v : V) (n : Nat) (r : Rat), atI ys i = some v ∧ rs[n]? = some r ∧ ys[n]? = some v ∧ NmR K H v r := by
  obtain ⟨n, rfl⟩ := Int.eq_ofNat_of_zero_le h0
  have hn : n < ys.length := by omega
  obtain ⟨r, er, hr⟩ := paired_get h (List.getElem?_eq_getElem hn)
  exact ⟨ys[n], n, r, atI_nat (List.getElem?_eq_getElem hn), er, List.getElem?_eq_getElem hn, hr⟩
structure By (K : PySem.W.Frag) (H : Hp) (C oa odx oP oW oB lN lQ lS pA : Addr) (xs : List Str) (ys : List V) (rs : List Rat) (cut : List V) (op : List (Str × Pt)) (okP okW okB : List (Key × V)) : Prop where
  n : H lN = some (.lst (xs.map V.str))
  q : H lQ = some (.lst ys)
  r : Paired (NmR K H) ys rs
  s : H lS = some (.lst cut)
  n1 : lN ≠ pA
  q1 : lQ ≠ pA
  s1 : lS ≠ pA
  f : FrR K H C oa odx oP oW oB op [] okP okW okB
section
variable {H H' : Hp} {C oa odx oP oW oB lN lQ lS pA pA' hA pP pW : Addr} {xs : List Str} {ys : List V} {rs : List Rat} {cut us hs : List V} {op : List (Str × Pt)} {okP okW okB k1 k2 : List (Key × V)}
theorem By.turn (b : By K H C oa odx oP oW oB lN lQ lS pA xs ys rs cut op okP okW okB) (s : Same H H') (n : H pA' = none) : By K H' C oa odx oP oW oB lN lQ lS pA' xs ys rs cut op okP okW okB :=
  ⟨s _ _ b.n, s _ _ b.q, Paired.mapP b.r fun _ _ z => z.same s, s _ _ b.s, ne_of_none b.n n, ne_of_none b.q n, ne_of_none b.s n, b.f.same s⟩
theorem By.same (b : By K H C oa odx oP oW oB lN lQ lS pA xs ys rs cut op okP okW okB) (s : Same H H') : By K H' C oa odx oP oW oB lN lQ lS pA xs ys rs cut op okP okW okB :=
  ⟨s _ _ b.n, s _ _ b.q, Paired.mapP b.r fun _ _ z => z.same s, s _ _ b.s, b.n1, b.q1, b.s1, b.f.same s⟩
theorem By.keep (b : By K H C oa odx oP oW oB lN lQ lS pA xs ys rs cut op okP okW okB) (k : ∀ b o, b ≠ pP → b ≠ pW → b ≠ pA → b ≠ hA → H b = some o → H' b = some o)
    (e1 : H pP = some (.dK k1)) (e2 : H pW = some (.dK k2)) (e3 : H pA = some (.lst us)) (e4 : H hA = some (.lst hs)) (h1 : lN ≠ hA) (h2 : lQ ≠ hA) (h3 : lS ≠ hA) (o1 : oP ≠ pP ∧ oP ≠ pW) (o2 : oW ≠ pP ∧ oW ≠ pW) (o3 : oB ≠ pP ∧ oB ≠ pW) : By K H' C oa odx oP oW oB lN lQ lS pA xs ys rs cut op okP okW okB := by
  have kL : ∀ {l : Addr} {zs : List V}, l ≠ pA → l ≠ hA → H l = some (.lst zs) → H' l = some (.lst zs) := fun n1 n2 e => k _ _ (fun z => by rw [z, e1] at e; cases e) (fun z => by rw [z, e2] at e; cases e) n1 n2 e
  have kT : SameT H H' := fun b xs r => by
    rcases r with r | ⟨o', r⟩
    · exact .inl (k _ _ (fun z => by rw [z, e1] at r; cases r) (fun z => by rw [z, e2] at r; cases r) (fun z => by rw [z, e3] at r; cases r) (fun z => by rw [z, e4] at r; cases r) r)
    · exact .inr ⟨o', k _ _ (fun z => by rw [z, e1] at r; cases r) (fun z => by rw [z, e2] at r; cases r) (fun z => by rw [z, e3] at r; cases r) (fun z => by rw [z, e4] at r; cases r) r⟩
  have kD : ∀ {d : Addr} {kv : List (Key × V)}, d ≠ pP ∧ d ≠ pW → H d = some (.dK kv) → H' d = H d := fun n e => by
    rw [k _ _ n.1 n.2 (fun z => by rw [z, e3] at e; cases e) (fun z => by rw [z, e4] at e; cases e) e, e]
  have f := b.f
  have kO : H' oa = H oa := by
    have e := f.obj
    rw [k _ _ (fun z => by rw [z, e1] at e; cases e) (fun z => by rw [z, e2] at e; cases e) (fun z => by rw [z, e3] at e; cases e) (fun z => by rw [z, e4] at e; cases e) e, e]
  exact ⟨kL b.n1 h1 b.n, kL b.q1 h2 b.q, Paired.mapP b.r fun _ _ z => z.sameT kT, kL b.s1 h3 b.s, b.n1, b.q1, b.s1, f.sameT_of kT kO (kD o1 f.pl) (kD o2 f.wy) (kD o3 f.br)⟩
end
theorem pinT_few {ps : List (Str × Pt)} {x : Str} {p : Pt} (h : ps.length < 24) : pinT ps x p ≠ .many := by
  unfold pinT
  intro eb
  split at eb
  · cases eb
  split at eb
  · cases eb
  split at eb
  · omega
  · cases eb
theorem pinT_new {ps : List (Str × Pt)} {x : Str} {p : Pt} (h : pinT ps x p = .done) : x ∉ ps.map (·.1) := fun hx => by
  unfold pinT at h
  rw [if_pos hx] at h
  cases h
theorem wsOf_len (c : Int) (x : Rat) : (wsOf c x).length ≤ 2 := by
  unfold wsOf
  split
  · exact Nat.le_succ 1
  split
  · exact Nat.le_refl 2
  · exact Nat.zero_le 2
section
variable {H H2 H3 H4 H' : Hp} {C a dx pP pW pB pA pA' hA : Addr} {xs : List Str} {zs zs' : Zs} {us us' hs : List V}
theorem kl_put {kP kW kB : List (Key × V)} {ps : List (Str × Pt)} (R : FrR K H C a dx pP pW pB ps [] kP kW kB) (k : ∀ b o, b ≠ pP → b ≠ pW → H b = some o → H' b = some o) : KL pA hA H H' :=
  ⟨fun b xs r => by
    rcases r with r | ⟨o', r⟩
    · exact .inl (k _ _ (fun z => by rw [z, R.pl] at r; cases r) (fun z => by rw [z, R.wy] at r; cases r) r)
    · exact .inr ⟨o', k _ _ (fun z => by rw [z, R.pl] at r; cases r) (fun z => by rw [z, R.wy] at r; cases r) r⟩, fun b xs r => k _ _ (fun z => by rw [z, R.pl] at r; cases r) (fun z => by rw [z, R.wy] at r; cases r) r, fun b us _ _ r => k _ _ (fun z => by rw [z, R.pl] at r; cases r) (fun z => by rw [z, R.wy] at r; cases r) r⟩
theorem WL.turn {v : V} {ws : List (Rat × Rat)} (h : WL K H pA hA v ws) (n : H pA' = none) : WL K H pA' hA v ws := by
  obtain ⟨l, us, e, h1, h2, h3, h4⟩ := h
  exact ⟨l, us, e, h1, ne_of_none h1 n, h3, h4⟩
theorem HeldR.turn {u : V} (h : HeldR K H pA hA u) (n : H pA' = none) : HeldR K H pA' hA u := by
  obtain ⟨t, l1, l2, vs, e, h1, h2, h3, h4, n1, n2, n3, n4⟩ := h
  exact ⟨t, l1, l2, vs, e, h1, h2, h3, h4, ne_of_none h2 n, n2, ne_of_none h3 n, n4⟩
theorem PinL.turn {u : V} {z : Str × Pt × List (Rat × Rat)} (h : PinL K H pA hA u z) (n : H pA' = none) : PinL K H pA' hA u z := by
  obtain ⟨p, v, v2, e, h1, h2, h3⟩ := h
  exact ⟨p, v, v2, e, h1, h2, h3.turn n⟩
end
theorem sc_law : FnScope ["_law_script", "_law_names_here", "_law_numbers", "_law_frame", "_law_other", "_law_pins", "_law_held_here", "_law_cell", "_law_name", "_law_spot", "_law_due", "_law_found"] ["_law_script"] (defScope s_law) := ⟨rfl, rfl, rfl, by decide +kernel, rfl, by decide +kernel, by decide +kernel⟩
theorem ok_law {f : Addr} {fd : FuncData} {C fi CP CS CT CN : Addr} {fdi : FuncData} (F : Fun K "law" "law" s_law f fd) (m_range : mg "range" = none) (m_all : mg "all" = none) (M_Frame : Mk K C fi) (m_Frame : mg "Frame" = some (.ref C)) (G_Frame_init : FnOk P w K mg base (CXr P w) 1 fi fdi ["self"] (spFInit K C)) (b_Frame_init : Binds K fdi ["self"] [])
    (G_law_cell_at : Fn P w K mg base (CXr P w) 1 "_law_cell_at" ["_law_script", "_law_k"] (spCell K)) (G_law_names : Fn P w K mg base (CXr P w) 1 "_law_names" ["_law_cell", "_law_many"] spNames) (G_law_drawn : Fn P w K mg base (CXr P w) 2 "_law_drawn" ["_law_cell", "_law_large"] spDrawn)
    (MPd : MtdOkD P w K mg base (CXr P w) 5 C "put_pin" ["self", "name", "x", "y", "hold"] [.none] (spPutPinV P w K mg base C CP CS CT)) (MPn : MtdOk P w K mg base (CXr P w) 1 C "pins" ["self"] (spPins K C)) (MPl : MtdOk P w K mg base (CXr P w) 4 C "place" ["self", "pin"] (spPlaceX K C CN))
    (G_law_due_put : Fn P w K mg base (CXr P w) 1 "_law_due_put" ["_law_pins", "_law_name", "_law_spot"] (spDuePut K)) (G_law_put : Fn P w K mg base (CXr P w) 6 "_law_put" ["_law_frame", "_law_name", "_law_spot", "_law_cell", "_law_x"] (spPutL K C)) (G_law_ways : Fn P w K mg base (CXr P w) 1 "_law_ways" ["_law_cell", "_law_x"] (spWaysL K))
    (G_law_taken : Fn P w K mg base (CXr P w) 5 "_law_taken" ["_law_frame", "_law_name"] (spPinTaken K C)) (G_law_asked : Fn P w K mg base (CXr P w) 6 "_law_asked" ["_law_frame", "_law_pins", "_law_name", "_law_held_here"] (spAsked K C)) :
    FnOk P w K mg base (CXr P w) 10 f fd ["_law_script"] (spLaw K) := by
  refine F.okG sc_law (fun vs H Q E h => ?_) (fun cdv A outer s H vs Q E hr h => ?_)
  · obtain ⟨a, ns, rfl, _⟩ := h
    rfl
  obtain ⟨sA, ns, rfl, hS, hn, hb, q⟩ := h
  have px := passM (X := (cxOf (CXr P w) P w K mg base ["_law_script", "_law_names_here", "_law_numbers", "_law_frame", "_law_other", "_law_pins", "_law_held_here", "_law_cell", "_law_name", "_law_spot", "_law_due", "_law_found"] "law" (defScope s_law) f cdv A outer s H E)) (CXr.mute (P := P) (w := w))
  have L0 : 0 ≤ sizeLine := by decide
  have L1 : 1 ≤ sizeLine := by decide
  have L2 : 2 ≤ sizeLine := by decide
  have L3 : 3 ≤ sizeLine := by decide
  have dv : ∀ i j : Int, 0 < j → j < 1000 → CDivB i j := fun i j h0 h1 => ⟨by omega, Nat.le_trans (intBits_le_64 (by omega) (by omega)) (by decide)⟩
  refine ⟨_, (pss_cons (ps_set (i := 1) sc_law.nd rfl (Or.inl rfl) (pe_fn G_law_names (hr.mono (by decide)) px (pac (pe_fn G_law_cell_at (hr.mono (by decide)) px (pac (pv 0) (pac pe_int pa_nil))) (pac pe_int pa_nil))))
    (pss_cons (ps_setC (i := 2) sc_law.nd rfl (Or.inl rfl) (tn := ["_law_k"]) (fr := ["_law_script"]) (caps := [0]) rfl ⟨rfl, by decide +kernel, rfl, by decide +kernel, by decide +kernel, rfl, ⟨(by first | exact Or.inl rfl | exact Or.inr rfl), trivial⟩, ⟨(by first | exact Or.inl rfl | exact Or.inr rfl), trivial⟩⟩ (pi_range1 rfl m_range (pac pe_int pa_nil)) (fun _ _ _ _ => (pg_name (i := 0) (show (["_law_k", "_law_script"] : List Str).Nodup from by decide +kernel) rfl (Or.inl rfl))) (fun _ _ _ _ => pf_nil) (fun _ _ _ _ => (pe_fn G_law_drawn (hr.mono (by decide)) (passB (by first | assumption | exact CXr.mute) rfl) (pac (pe_op op_add (pe_fn G_law_cell_at (hr.mono (by decide)) (passB (by first | assumption | exact CXr.mute) rfl) (pac (pv 1) (pac (pe_op op_add pe_int (pv 0)) pa_nil))) (pe_op op_mulB (pv 0) (pv 0))) (pac (pe_cmpR op_eq (pe_op op_modB (pe_fn G_law_cell_at (hr.mono (by decide)) (passB (by first | assumption | exact CXr.mute) rfl) (pac (pv 1) (pac pe_int pa_nil))) pe_int) pe_int (nomark _)) pa_nil)))))
    (pss_cons (ps_set (i := 3) sc_law.nd rfl (Or.inl rfl) (pe_make0 M_Frame G_Frame_init (hr.mono (by decide)) rfl m_Frame b_Frame_init .nil px))
    (pss_cons (ps_set (i := 4) sc_law.nd rfl (Or.inl rfl) (pe_make0 M_Frame G_Frame_init (hr.mono (by decide)) rfl m_Frame b_Frame_init .nil px))
    (pss_cons (ps_expr (pe_mtdD (k := 5) (pv 4) (hr.mono (by decide)) px (pac (pe_ix ix_list (pv 1) pe_int (fun _ _ => rfl)) (pac (pe_ix ix_list (pv 2) pe_int (fun _ _ => rfl)) (pac (pe_ix ix_list (pv 2) pe_int (fun _ _ => rfl)) pa_nil)))))
    (pss_cons (ps_set (i := 5) sc_law.nd rfl (Or.inl rfl) (pe_lst pa_nil))
    (pss_cons (ps_set (i := 6) sc_law.nd rfl (Or.inl rfl) (pe_lst pa_nil))
    (pss_cons (ps_for PassesOwn.never rfl (pi_list (pe_slice sl_list (pv 0) (po_some pe_int) (po_some pe_int))) (pg_name (i := 7) sc_law.nd rfl (Or.inl rfl)) (pss_cons (ps_set (i := 8) sc_law.nd rfl (Or.inr rfl) (pe_ix ix_list (pv 1) (pe_op op_modB (pe_op op_fdivB (pv 7) pe_int) pe_int) (fun _ _ => rfl)))
      (pss_cons (ps_set (i := 9) sc_law.nd rfl (Or.inl rfl) (pe_tup (pac (pe_ix ix_list (pv 2) (pe_op op_modB (pe_op op_modB (pe_op op_mulB (pv 7) pe_int) pe_int) pe_int) (fun _ _ => rfl)) (pac (pe_ix ix_list (pv 2) (pe_op op_add pe_int (pe_op op_modB (pe_op op_modB (pe_op op_mulB (pv 7) pe_int) pe_int) pe_int)) (fun _ _ => rfl)) pa_nil))))
      (pss_cons (ps_if (pt_cmpR op_lt (pe_op op_modB (pv 7) pe_int) pe_int (nomark _)) (pss_cons (ps_set (i := 10) sc_law.nd rfl (Or.inl rfl) (pe_fn G_law_due_put (hr.mono (by decide)) px (pac (pv 5) (pac (pv 8) (pac (pv 9) pa_nil)))))
        (pss_cons (ps_set (i := 11) sc_law.nd rfl (Or.inl rfl) (pe_fn G_law_put (hr.mono (by decide)) px (pac (pv 3) (pac (pv 8) (pac (pv 9) (pac (pe_op op_fdivB (pv 7) pe_int) (pac (pe_ix ix_list (pv 2) pe_int (fun _ _ => rfl)) pa_nil)))))))
        (pss_one (ps_if (pt_cmpR (op_eqDa hr.units) (pv 10) (pe_tup (pac pe_str (pac pe_non pa_nil))) (nomark _)) (pss_one (ps_expr (pe_bm PySem.F.plainAttrs_list PySem.F.slot_list_append PySem.F.type_list_append mt_append (pv 5) (pac (pe_tup (pac (pv 8) (pac (pv 9) (pac (pe_fn G_law_ways (hr.mono (by decide)) px (pac (pe_op op_fdivB (pv 7) pe_int) (pac (pe_ix ix_list (pv 2) pe_int (fun _ _ => rfl)) pa_nil))) pa_nil)))) pa_nil)))) pss_nil)))) (pss_cons (ps_set (i := 10) sc_law.nd rfl (Or.inl rfl) (pe_tup (pac pe_str (pac (pv 8) (pac pe_bl pa_nil)))))
        (pss_cons (ps_if (pt_cmpR op_in_seq (pv 8) (pe_comp (tn := ["_law_pin"]) (fr := []) (caps := []) rfl ⟨rfl, by decide +kernel, rfl, by decide +kernel, by decide +kernel, rfl, trivial, trivial⟩ (pi_list (pv 5)) (fun _ _ _ _ => (pg_name (i := 0) (show (["_law_pin"] : List Str).Nodup from by decide +kernel) rfl (Or.inl rfl))) (fun _ _ _ _ => pf_nil) (fun _ _ _ _ => (pe_ix (ix_tupK (K := K) rfl) (pv 0) pe_int (fun _ _ => rfl)))) rfl) (pss_cons (ps_set (i := 10) sc_law.nd rfl (Or.inl rfl) (pe_tup (pac pe_str (pac pe_non pa_nil))))
          (pss_one (ps_setC (i := 5) sc_law.nd rfl (Or.inl rfl) (tn := ["_law_pin"]) (fr := ["_law_name"]) (caps := [8]) rfl ⟨rfl, by decide +kernel, rfl, by decide +kernel, by decide +kernel, rfl, ⟨(by first | exact Or.inl rfl | exact Or.inr rfl), trivial⟩, ⟨(by first | exact Or.inl rfl | exact Or.inr rfl), trivial⟩⟩ (pi_list (pv 5)) (fun _ _ _ _ => (pg_name (i := 0) (show (["_law_pin", "_law_name"] : List Str).Nodup from by decide +kernel) rfl (Or.inl rfl))) (fun _ _ _ _ => (pf_one (pt_cmpR op_ne (pe_ix (ix_tupK (K := K) rfl) (pv 0) pe_int (fun _ _ => rfl)) (pv 1) (nomark _)))) (fun _ _ _ _ => (pv 0))))) pss_nil)
        (pss_one (ps_set (i := 11) sc_law.nd rfl (Or.inl rfl) (pe_fn G_law_taken (hr.mono (by decide)) px (pac (pv 3) (pac (pv 8) pa_nil))))))))
      (pss_one (ps_if (PW.pt (pw_or (pt_cmpR (op_neDa hr.units) (pv 11) (pv 10) (nomark _)) (pw_or1 (pt_not (pt_val (pe_fn G_law_asked (hr.mono (by decide)) px (pac (pv 3) (pac (pv 5) (pac (pe_ix ix_list (pv 1) (pe_op op_modB (pe_op op_fdivB (pv 7) pe_int) pe_int) (fun _ _ => rfl)) (pac (pv 6) pa_nil)))))))))) (pss_one (ps_ret pe_bl)) pss_nil))))))
    (pss_cons (ps_if (PW.pt (pw_or (pt_cmpR (op_neDa hr.units) (pe_mtd0 (k := 1) (pv 4) (hr.mono (by decide)) px) (pe_lst (pac (pe_ix ix_list (pv 1) pe_int (fun _ _ => rfl)) pa_nil)) (nomark _)) (pw_or1 (pt_cmpR (op_neDa hr.units) (pe_mtd (k := 4) (pv 4) (hr.mono (by decide)) px (pac (pe_ix ix_list (pv 1) pe_int (fun _ _ => rfl)) pa_nil)) (pe_tup (pac (pe_ix ix_list (pv 2) pe_int (fun _ _ => rfl)) (pac (pe_ix ix_list (pv 2) pe_int (fun _ _ => rfl)) pa_nil))) (nomark _))))) (pss_one (ps_ret pe_bl)) pss_nil)
    (pss_one (ps_ret (pe_callB (call_allB rfl) rfl m_all b_all (pac (pe_comp (tn := ["_law_told", "_law_kept"]) (fr := []) (caps := []) rfl ⟨rfl, by decide +kernel, rfl, by decide +kernel, by decide +kernel, rfl, trivial, trivial⟩ (pi_list (pv 6)) (fun _ _ _ _ => (pg_tupK (K := K) (n := 2) rfl rfl (pgs_cons (pg_name (i := 0) (show (["_law_told", "_law_kept"] : List Str).Nodup from by decide +kernel) rfl (Or.inl rfl)) (pgs_cons (pg_name (i := 1) (show (["_law_told", "_law_kept"] : List Str).Nodup from by decide +kernel) rfl (Or.inl rfl)) pgs_nil)))) (fun _ _ _ _ => pf_nil) (fun _ _ _ _ => (pe_cmpR (op_eqDaK (K := K) rfl hr.units) (pv 0) (pv 1) (nomark _)))) pa_nil))))))))))))), ?_⟩
  refine ⟨_, rfl, sA, ns, 0, rfl, hS, by decide, cell ns 0, rfl, fun lN xs H1 lx nx s1 nN hN => ?_⟩
  refine ⟨(5 : Int), rfl, by decide, by decide, fun lQ nQ => ?_⟩
  refine comp_range (lo := 0) (n := 5) (cap := [some (.ref sA)]) (fun _ v H' => ∃ r, NmR K H' v r) nQ (by decide) (fun i v H6 H7 ys e ks ⟨r, h2⟩ => ⟨r, h2.sameT fun b xs z => by
      rcases z with z | ⟨o', z⟩
      · exact .inl (ks _ _ (fun q => by rw [q, e] at z; cases z) z)
      · exact .inr ⟨o', ks _ _ (fun q => by rw [q, e] at z; cases z) z⟩⟩) ?_ ?_
  · intro i H6 R hi s6 k
    have s06 := s1.trans s6
    have b64 : intBits (0 + (i : Int)) ≤ 64 := intBits_le_64 (by omega) (by omega)
    refine ⟨_, rfl, _, rfl, _, _, rfl, rfl, sA, ns, _, rfl, s06.seq hS, by omega, ?_⟩
    refine ⟨_, rfl, _, rfl, _, _, rfl, rfl, ⟨Nat.le_trans b64 (by decide), Nat.le_trans b64 (by decide)⟩, _, _, rfl, rfl, ?_⟩
    refine ⟨_, rfl, sA, ns, 1, rfl, s06.seq hS, by decide, _, _, rfl, rfl, nz (by decide), rfl, ?_⟩
    refine ⟨_, _, rfl, Nat.le_trans (bits_addF (cell_bits hb _) (Nat.le_trans (intBits_mul_le b64 b64) (by decide))) (by decide), fun r p7 H7 s7 e7 => k (.ref p7) H7 s7 ⟨r, p7, rfl, SqT.of e7⟩⟩
  intro ys H2 ly hrel s2 hQ
  obtain ⟨rs, hR⟩ := rel_list12 (R := NmR K H2) hrel
  intro a dx na ndx nad
  have sF : Same H2 (upd (upd H2 dx (.own a)) a (.ins C dx [])) := fun b o e => by rw [upd_ne (ne_of_none e na), upd_ne (ne_of_none e ndx)]; exact e
  refine ⟨a, dx, rfl, upd_same, fun pP pW pB H3 k3 nP nW nB R3 => ⟨rfl, ?_⟩⟩
  have s3 : Same H2 H3 := fun b o e => k3 b o (ne_of_none e na) (sF _ _ e)
  intro oa odx noa nodx noad
  have sG : Same H3 (upd (upd H3 odx (.own oa)) oa (.ins C odx [])) := fun b o e => by rw [upd_ne (ne_of_none e noa), upd_ne (ne_of_none e nodx)]; exact e
  refine ⟨oa, odx, rfl, upd_same, fun oP oW oB H4 k4 noP noW noB R4 => ⟨rfl, ?_⟩⟩
  have s4 : Same H3 H4 := fun b o e => k4 b o (ne_of_none e noa) (sG _ _ e)
  have noP3 := none_back sG noP
  have noW3 := none_back sG noW
  have noB3 := none_back sG noB
  have fne : ∀ {d : Addr}, H3 d = none → d ≠ pP ∧ d ≠ pW := fun n => ⟨fun z => (by rw [z, R3.pl] at n; cases n), fun z => (by rw [z, R3.wy] at n; cases n)⟩
  have s24 := s3.trans s4
  have hN4 := s24 _ _ (s2 _ _ hN)
  have hQ4 := s24 _ _ hQ
  have hR4 : Paired (NmR K H4) ys rs := Paired.mapP hR fun _ _ z => z.same s24
  obtain ⟨y4, hy4, e4⟩ := names_at lx (i := 4) (by decide) (by decide)
  obtain ⟨v0, n0, r0, e0, er0, ev0, hv0⟩ := nums_at hR4 ly (i := 0) (by decide) (by decide)
  obtain ⟨v2, n2, r2, e2, er2, ev2, hv2⟩ := nums_at hR4 ly (i := 2) (by decide) (by decide)
  refine ⟨_, rfl, oa, C, odx, _, _, _, rfl, R4.obj, rfl, MPd, _, rfl, lN, _, _, _, rfl, rfl, SqL.of hN4, e4, _, rfl, lQ, _, _, _, rfl, rfl, SqL.of hQ4, e0, _, rfl, lQ, _, _, _, rfl, rfl, SqL.of hQ4, e2, ?_⟩
  refine ⟨oa, odx, oP, oW, oB, [], [], _, _, _, y4, v0, v2, (qr r0, qr r2), .non, [], rfl, R4, .nil, hv0, hv2, by decide, .inl ⟨rfl, rfl⟩, ?_⟩
  have ed : pinT [] y4 (qr r0, qr r2) = .done := by
    unfold pinT
    simp
  rw [ed]
  intro H5 okP ol2 ous k5 R5 nol2 hol2 opt2
  have R34 := R3.same s4
  have nn : ∀ {d : Addr} {o : HO}, H3 d = some o → d ≠ oP ∧ d ≠ oW := fun e => ⟨ne_of_none e noP3, ne_of_none e noW3⟩
  have s35 : Same H3 H5 := fun b o e => k5 b o (nn e).1 (nn e).2 (s4 _ _ e)
  have R35 := R3.same s35
  have s25 := s3.trans s35
  have s15 := s2.trans s25
  refine ⟨L0, ?_⟩
  intro pA npA; generalize eX : upd _ pA _ = H6; have s6 := eX ▸ same_new npA _; have e6 : H6 pA = some _ := eX ▸ upd_same; clear eX
  refine ⟨L0, ?_⟩
  intro hA nhA; generalize eX : upd _ hA _ = H7; have s7 := eX ▸ same_new nhA _; have e7 : H7 hA = some _ := eX ▸ upd_same; clear eX
  have s57 := s6.trans s7
  have s07 := (s1.trans s15).trans s57
  refine ⟨_, rfl, _, rfl, _, rfl, sA, _, rfl, s07.seq hS, ?_⟩
  intro lS nlS; generalize eX : upd _ lS _ = H8; have s8 := eX ▸ same_new nlS _; have e8 : H8 lS = some _ := eX ▸ upd_same; clear eX
  have s58 := s57.trans s8
  have s28 := s25.trans s58
  have pa7 : H7 pA = some (.lst []) := s7 _ _ e6
  have ne1 : pA ≠ hA := fun z => by rw [← z, e6] at nhA; cases nhA
  have hN6 := s6 _ _ (s15 _ _ hN)
  have hQ6 := s6 _ _ (s25 _ _ hQ)
  have ne2 : lN ≠ hA := ne_of_none hN6 nhA
  have ne3 : lQ ≠ hA := ne_of_none hQ6 nhA
  have ne4 : lS ≠ hA := fun z => by rw [z, e7] at nlS; cases nlS
  have mem : ∀ u ∈ cutV (ns.map V.int) (some 7) (some 47), ∃ c : Int, u = .int c ∧ intBits c ≤ 1048576 := fun u hu => by
    have := List.mem_of_mem_drop (List.mem_of_mem_take hu)
    obtain ⟨c, hc, rfl⟩ := List.mem_map.mp this
    exact ⟨c, rfl, hb c hc⟩
  have lc := cutV_length (ns.map V.int) (some 7) (some 47)
  rw [List.length_map] at lc
  have B0 : By K H8 C oa odx oP oW oB lN lQ lS pA xs ys rs (cutV (ns.map V.int) (some 7) (some 47)) [(y4, (qr r0, qr r2))] okP _ _ :=
    ⟨s8 _ _ (s7 _ _ hN6), s8 _ _ (s7 _ _ hQ6), Paired.mapP hR fun _ _ z => z.same s28, e8, ne_of_none (s15 _ _ hN) npA, ne_of_none (s25 _ _ hQ) npA, (fun z => by rw [z, pa7] at nlS; cases nlS), R5.same s58⟩
  have S0 : S12 K H8 C a dx pP pW pB pA hA xs [] [] [] :=
    ⟨⟨_, _, _, R35.same s58, .nil⟩, s8 _ _ pa7, .nil, s8 _ _ e7, by simp, ne1, by simp, by simp⟩
  have o1 := fne noP3
  have o2 := fne noW3
  have o3 := fne noB3
  generalize ecut : cutV (ns.map V.int) (some 7) (some 47) = cut at lc mem B0 e8 ⊢
  generalize ([] ++ [(Sum.inr y4, V.ref ol2)] : List (Key × V)) = okW at R5 B0
  refine ⟨lS, rfl, ⟨_, SqL.of e8⟩, for_list (K := K) (a := lS) (xs := cut) (fun t σ H' => ∃ (pA : Addr) (zs : Zs) (us hs : List V) (w7 w8 w9 w10 w11 : Option V), σ = [some (.ref sA), some (.ref lN), some (.ref lQ), some (.ref a), some (.ref oa), some (.ref pA), some (.ref hA), w7, w8, w9, w10, w11] ∧ S12 K H' C a dx pP pW pB pA hA xs zs us hs ∧ By K H' C oa odx oP oW oB lN lQ lS pA xs ys rs cut [(y4, (qr r0, qr r2))] okP okW [] ∧ hs.length ≤ 2 * t) ⟨pA, [], [], [], none, none, none, none, none, rfl, S0, B0, by simp⟩ (fun t σ H' _ h => by
      obtain ⟨_, _, _, _, _, _, _, _, _, _, _, b, _⟩ := h
      exact SqL.of b.s) ?_ ?_⟩
  · rintro t u σ H9 hu ⟨pA, zs, us, hs, w7, w8, w9, w10, w11, rfl, S, B, lh⟩
    obtain ⟨c, rfl, bc⟩ := mem u (List.mem_of_getElem? hu)
    have ht := (List.getElem?_eq_some_iff.mp hu).1
    have lz := S.lz lx
    have lu : us.length = zs.length := Paired.length S.pl
    obtain ⟨kP, kW, kB, R, W⟩ := S.fs
    have m1 := fmod_in (x := c.fdiv 3) (m := 9) (by decide)
    obtain ⟨nm, hnm, en⟩ := names_at lx (i := (c.fdiv 3).fmod 9) m1.1 (by omega)
    refine ⟨_, rfl, _, rfl, _, _, rfl, rfl, dv _ _ (by decide) (by decide), _, _, rfl, rfl, nz (by decide), lN, _, _, _, rfl, rfl, SqL.of B.n, en, ?_⟩
    have m2 := fmod_in (x := (c * 48271).fmod 2147483647) (m := 2) (by decide)
    have m3 := fmod_in (x := (c * 69621).fmod 2147483629) (m := 3) (by decide)
    obtain ⟨vx, nx1, rx, ex1, _, _, hvx⟩ := nums_at B.r ly (i := ((c * 48271).fmod 2147483647).fmod 2) m2.1 (by omega)
    obtain ⟨vy, ny1, ry, ey1, _, _, hvy⟩ := nums_at B.r ly (i := 2 + ((c * 69621).fmod 2147483629).fmod 3) (by omega) (by omega)
    have mb : ∀ j : Int, intBits j ≤ 64 → CMulB c j := fun j h => ⟨Nat.le_trans bc (by decide), Nat.le_trans h (by decide)⟩
    refine ⟨_, rfl, _, rfl, _, _, rfl, rfl, mb _ (by decide +kernel), _, _, rfl, rfl, nz (by decide), _, _, rfl, rfl, nz (by decide), lQ, _, _, _, rfl, rfl, SqL.of B.q, ex1, ?_⟩
    refine ⟨_, rfl, _, rfl, _, _, rfl, rfl, mb _ (by decide +kernel), _, _, rfl, rfl, nz (by decide), _, _, rfl, rfl, nz (by decide), _, _, rfl, rfl, lQ, _, _, _, rfl, rfl, SqL.of B.q, ey1, L2, ?_⟩
    intro sp nsp; generalize eX : upd _ sp _ = H10; have s10 := eX ▸ same_new nsp _; have esp : H10 sp = some _ := eX ▸ upd_same; clear eX
    have S10 := S.same s10
    have B10 := B.same s10
    have R10 := R.same s10
    have hvx10 := hvx.same s10
    have hvy10 := hvy.same s10
    have spot : Spot K H10 (.ref sp) (qr rx, qr ry) := ⟨sp, vx, vy, rfl, SqT.of esp, hvx10, hvy10⟩
    have W10 : WyZ K H10 pA hA zs kW := Paired.mapP W fun _ _ z => ⟨z.1, z.2.kl (.of s10)⟩
    clear S R W spot
    dsimp only
    refine seq_rest (fun σ' H' => ∃ (pA' : Addr) (zs' : Zs) (us' vs : List V) (fo du : Addr), σ' = [some (.ref sA), some (.ref lN), some (.ref lQ), some (.ref a), some (.ref oa), some (.ref pA'), some (.ref hA), some (.int c), some (.str nm), some (.ref sp), some (.ref du), some (.ref fo)] ∧ S12 K H' C a dx pP pW pB pA' hA xs zs' us' hs ∧ By K H' C oa odx oP oW oB lN lQ lS pA' xs ys rs cut [(y4, (qr r0, qr r2))] okP okW [] ∧ H' fo = some (.tup vs) ∧ H' du = some (.tup vs) ∧ vs.all flatV = true ∧ vs.all (fun v => eqV v v) = true) (fun N hN' => ?_) ?_
    · refine ⟨_, rfl, _, _, rfl, rfl, nz (by decide), _, _, rfl, rfl, _, rfl, ?_⟩
      have ndp : ((psZ zs).map (·.1)).Nodup := by rw [psZ_nm]; exact S10.nd
      refine ite2 (fun _ => ?_) (fun _ => ?_)
      · obtain ⟨vx0, nx0, rx0, ex0, _, _, hvx0⟩ := nums_at B10.r ly (i := 0) (by decide) (by decide)
        have spot : Spot K H10 (.ref sp) (qr rx, qr ry) := ⟨sp, vx, vy, rfl, SqT.of esp, hvx10, hvy10⟩
        have pp : PinsP K H10 us (psZ zs) := paired_mapR (R := fun u (z : Str × Pt) => ∃ p v v2, u = V.ref p ∧ SqT K H10 p [.str z.1, v, v2] ∧ Spot K H10 v z.2) (Paired.mapP S10.pl fun _ _ z => by
          obtain ⟨p, v, v2, e, h1, h2, _⟩ := z
          exact ⟨p, v, v2, e, h1, h2⟩)
        have lps : (psZ zs).length < 24 := by rw [List.length_map]; omega
        refine ⟨_, rfl, _, rfl, _, rfl, pA, sp, us, psZ zs, nm, (qr rx, qr ry), rfl, S10.pa, pp, spot, lps, fun p1 H11 s11 n1 d1 => ?_⟩
        have B11 := B10.same s11
        refine ⟨_, rfl, _, rfl, _, rfl, _, rfl, _, _, rfl, rfl, dv _ _ (by decide) (by decide), _, rfl, lQ, _, _, _, rfl, rfl, SqL.of B11.q, ex0, ?_⟩
        refine ⟨a, dx, pP, pW, pB, sp, psZ zs, [], kP, kW, kB, nm, vx, vy, vx0, (qr rx, qr ry), c.fdiv 27, rx0, rfl, R10.same s11, W10.ky, by omega, SqT.of (s11 _ _ esp), hvx10.same s11, hvy10.same s11, hvx0.same s11, ?_⟩
        cases et : pinT (psZ zs) nm (qr rx, qr ry) with
        | many => exact absurd et (pinT_few lps)
        | there =>
          rw [et] at d1
          intro p2 H12 s12 n2' d2
          refine ⟨_, rfl, L2, ?_⟩
          intro p3 n3; generalize eX : upd _ p3 _ = H13; have s13 := eX ▸ same_new n3 _; have d3 : H13 p3 = some _ := eX ▸ upd_same; clear eX
          refine ⟨_, _, .inl ⟨is_flat (vs := [.str "there", .str nm, .bl true]) rfl (s13 _ _ (s12 _ _ d1)), is_flat (vs := [.str "done", .non]) rfl d3⟩, alike_flat _ _, dep_flat _, ?_⟩
          rw [ne_flat (by decide +kernel)]
          refine ⟨_, rfl, iteF ?_⟩
          have sx := (s11.trans s12).trans s13
          exact hN' _ _ ⟨pA, zs, us, _, p2, p1, rfl, S10.same sx, B10.same sx, s13 _ _ d2, s13 _ _ (s12 _ _ d1), rfl, by simp [eqV]⟩
        | spot y =>
          rw [et] at d1
          intro p2 H12 s12 n2' d2
          refine ⟨_, rfl, L2, ?_⟩
          intro p3 n3; generalize eX : upd _ p3 _ = H13; have s13 := eX ▸ same_new n3 _; have d3 : H13 p3 = some _ := eX ▸ upd_same; clear eX
          refine ⟨_, _, .inl ⟨is_flat (vs := [.str "spot", .str y, .bl true]) rfl (s13 _ _ (s12 _ _ d1)), is_flat (vs := [.str "done", .non]) rfl d3⟩, alike_flat _ _, dep_flat _, ?_⟩
          rw [ne_flat (by decide +kernel)]
          refine ⟨_, rfl, iteF ?_⟩
          have sx := (s11.trans s12).trans s13
          exact hN' _ _ ⟨pA, zs, us, _, p2, p1, rfl, S10.same sx, B10.same sx, s13 _ _ d2, s13 _ _ (s12 _ _ d1), rfl, by simp [eqV]⟩
        | done =>
          rw [et] at d1
          have hnew := pinT_new et
          have R11 := R10.same s11
          intro p2 H12 kP' l2 us2 k12 R12 nl2 hl2 pt2 n2' d2
          have S11 := S10.same s11
          have k12L : KL pA hA H11 H12 := kl_put R11 k12
          have d1' : H12 p1 = some (.tup [.str "done", .non]) := k12L.u _ _ d1
          have B12 := B11.keep (fun b o n1 n2 _ _ e => k12 b o n1 n2 e) R11.pl R11.wy S11.pa S11.ha ne2 ne3 ne4 o1 o2 o3
          refine ⟨_, rfl, L2, ?_⟩
          intro p3 n3; generalize eX : upd _ p3 _ = H13; have s13 := eX ▸ same_new n3 _; have d3 : H13 p3 = some _ := eX ▸ upd_same; clear eX
          refine ⟨_, _, .inl ⟨is_flat (vs := [.str "done", .non]) rfl (s13 _ _ d1'), is_flat (vs := [.str "done", .non]) rfl d3⟩, alike_flat _ _, dep_flat _, ?_⟩
          rw [eq_flat [.str "done", .non] (by simp [eqV])]
          refine ⟨_, rfl, iteT ?_⟩
          have pa12 : H12 pA = some (.lst us) := k12 _ _ (fun z => by have := S11.pa; rw [z, R11.pl] at this; cases this) (fun z => by have := S11.pa; rw [z, R11.wy] at this; cases this) S11.pa
          have ha12 : H12 hA = some (.lst hs) := k12 _ _ (fun z => by have := S11.ha; rw [z, R11.pl] at this; cases this) (fun z => by have := S11.ha; rw [z, R11.wy] at this; cases this) S11.ha
          have B13 := B12.same s13
          have hx13 : NmR K H13 vx0 rx0 := ((hvx0.same s11).sameT k12L.t).same s13
          refine ⟨_, rfl, .inl ⟨rfl, _, SqL.of (s13 _ _ pa12)⟩, _, rfl, _, rfl, ?_⟩
          refine ⟨_, rfl, _, _, rfl, rfl, dv _ _ (by decide) (by decide), _, rfl, lQ, _, _, _, rfl, rfl, SqL.of B13.q, ex0, ?_⟩
          refine ⟨c.fdiv 27, vx0, rx0, rfl, hx13, fun lw uw H14 s14 nlw hlw ptw => ⟨L3, ?_⟩⟩
          intro tt ntt; generalize eX : upd _ tt _ = H15; have s15x := eX ▸ same_new ntt _; have dtt : H15 tt = some _ := eX ▸ upd_same; clear eX
          have s1215 := (s13.trans s14).trans s15x
          have pa15 := s1215 _ _ pa12
          refine ⟨pA, _, _, rfl, rfl, pa15, Nat.lt_of_le_of_lt (show us.length ≤ 9 by omega) (by decide), ?_⟩
          have ha15 := s1215 _ _ ha12
          have k1115 : KL pA hA H11 H15 := k12L.trans (.of s1215)
          have k1516 : KL pA hA H15 (upd H15 pA (.lst (us ++ [.ref tt]))) := ⟨.list pa15, fun b xs r => by rw [upd_ne (fun z => by rw [z, pa15] at r; cases r)]; exact r, fun b us n _ r => by rw [upd_ne n]; exact r⟩
          have R16 := frList (o := .lst (us ++ [.ref tt])) (R12.same s1215) pa15
          have pa16 : (upd H15 pA (.lst (us ++ [.ref tt]))) pA = some (.lst (us ++ [.ref tt])) := upd_same
          have k16 : ∀ b o, b ≠ pA → H15 b = some o → (upd H15 pA (.lst (us ++ [.ref tt]))) b = some o := fun b o n e => by rw [upd_ne n]; exact e
          generalize upd H15 pA (.lst (us ++ [.ref tt])) = H16 at k1516 R16 pa16 k16 ⊢
          have kl := k1115.trans k1516
          have nPA : ∀ {l : Addr}, H11 l = none → l ≠ pA ∧ l ≠ hA := fun n => ⟨fun z => (by rw [z, S11.pa] at n; cases n), fun z => (by rw [z, S11.ha] at n; cases n)⟩
          have nl2' := nPA nl2
          have nlw' : lw ≠ pA ∧ lw ≠ hA := ⟨fun z => (by rw [z, s13 _ _ pa12] at nlw; cases nlw), fun z => (by rw [z, s13 _ _ ha12] at nlw; cases nlw)⟩
          have w2 : WL K H16 pA hA (.ref l2) (wsOf (c.fdiv 27) rx0) := ⟨l2, us2, rfl, k1516.l _ _ nl2'.1 nl2'.2 (s1215 _ _ hl2), nl2'.1, nl2'.2, (pt2.same s1215).sameT k1516.t⟩
          have ww : WL K H16 pA hA (.ref lw) (wsOf (c.fdiv 27) rx0) := ⟨lw, uw, rfl, k1516.l _ _ nlw'.1 nlw'.2 (s15x _ _ hlw), nlw'.1, nlw'.2, (ptw.same s15x).sameT k1516.t⟩
          have ez : psZ (zs ++ [(nm, (qr rx, qr ry), wsOf (c.fdiv 27) rx0)]) = psZ zs ++ [(nm, (qr rx, qr ry))] := by simp [psZ]
          rw [← ez] at R16
          refine hN' _ _ ⟨pA, zs ++ [(nm, (qr rx, qr ry), wsOf (c.fdiv 27) rx0)], us ++ [.ref tt], [.str "done", .non], p2, p1, rfl, ⟨⟨_, _, _, R16, ?_⟩, pa16, ?_, k16 _ _ (Ne.symm S11.ne) ha15, fun u hu => (S11.hd u hu).kl kl, S11.ne, ?_, fun z hz => ?_⟩, ?_, ?_, ?_, rfl, by simp [eqV]⟩
          · exact Paired.snoc (Paired.mapP W10 fun _ _ z => ⟨z.1, (z.2.kl (.of s11)).kl kl⟩) ⟨rfl, w2⟩
          · exact Paired.snoc (Paired.mapP S11.pl fun _ _ z => z.kl kl) ⟨tt, .ref sp, .ref lw, rfl, SqT.of (k1516.u _ _ dtt), (spot.sameT (.of s11)).sameT kl.t, ww⟩
          · rw [List.map_append]
            refine List.nodup_append.mpr ⟨S11.nd, by simp, fun y hy z hz => ?_⟩
            have : z = nm := by simpa using hz
            rw [this]
            exact fun e => hnew (by rw [psZ_nm]; exact e ▸ hy)
          · rcases List.mem_append.mp hz with h | h
            · exact S11.im z h
            · rw [List.mem_singleton.mp h]
              exact ⟨hnm, wsOf_len _ _⟩
          · exact (B13.same (s14.trans s15x)).keep (pP := pP) (pW := pW) (hA := hA) (fun b o _ _ n _ e => k16 b o n e) (R12.same s1215).pl (R12.same s1215).wy pa15 ha15 ne2 ne3 ne4 o1 o2 o3
          · exact k1516.u _ _ (s1215 _ _ d2)
          · exact k1516.u _ _ (s1215 _ _ d1')
      · refine ⟨_, rfl, L3, ?_⟩
        intro p1 n1; generalize eX : upd _ p1 _ = H11; have s11 := eX ▸ same_new n1 _; have d1 : H11 p1 = some _ := eX ▸ upd_same; clear eX
        have S11 := S10.same s11
        have B11 := B10.same s11
        refine ⟨_, rfl, _, rfl, pA, rfl, ⟨_, SqL.of S11.pa⟩, fun D1 nD1 => ?_⟩
        refine comp_firsts (K := K) (pA' := pA) (hA := hA) nD1 S11.pa S11.pl (by omega) (fun p x v v2 H R h k => ⟨_, rfl, p, _, _, _, rfl, rfl, h, rfl, k⟩) fun H12 s12 hD => ?_
        refine ⟨D1, _, rfl, .inl (SqL.of hD), rfl, flat_strs _, _, rfl, ?_⟩
        have S12' := S11.same s12
        have B12 := B11.same s12
        by_cases hx : nm ∈ zs.map (·.1)
        · refine ite2 (fun _ => ?_) (fun c => absurd (by rw [inV_strs]; exact decide_eq_true hx) c)
          refine ⟨L2, ?_⟩
          intro p2 n2x; generalize eX : upd _ p2 _ = H13; have s13 := eX ▸ same_new n2x _; have d2 : H13 p2 = some _ := eX ▸ upd_same; clear eX
          have S13' := S12'.same s13
          have B13 := B12.same s13
          refine ⟨_, rfl, pA, rfl, ⟨_, SqL.of S13'.pa⟩, fun D2 nD2 => ?_⟩
          refine comp_listP (K := K) (cap := [some (.str nm)]) (a := pA) (xs := us) (zs := zs) (Rl := PinL K H13 pA hA) (fun z => !decide (V.str z.1 = V.str nm)) S13'.pl nD2 (Nat.lt_of_le_of_lt (show us.length ≤ 9 by omega) (by decide)) (fun H2 s2 => SqL.of (s2 _ _ S13'.pa)) (fun x z H2 R2 hz s2 k => ?_) (fun x z H2 R2 hz s2 k => ?_) fun us' H14 hp s14 hD2 => ?_
          · obtain ⟨p, v, v2, rfl, h1, _⟩ := hz
            exact ⟨_, rfl, p, _, _, _, rfl, rfl, Ty.Same.seqT s2 h1, rfl, _, rfl, rfl, _, rfl, k⟩
          · exact ⟨_, rfl, k⟩
          have ep : (fun z : Str × Pt × List (Rat × Rat) => !decide (V.str z.1 = V.str nm)) = fun z => decide (z.1 ≠ nm) := by
            funext z
            by_cases c : z.1 = nm
            · simp [c]
            · simp [c]
          rw [ep] at hp
          have S14 := S13'.same s14
          have B14 := B13.turn s14 nD2
          have W14 : WyZ K H14 D2 hA zs kW := Paired.mapP W10 fun _ _ z => ⟨z.1, by
            have z1 := ((z.2.kl (.of s11)).kl (.of s12)).kl (.of s13)
            obtain ⟨l, us, e, h1, h2, h3, h4⟩ := z1
            exact ⟨l, us, e, s14 _ _ h1, ne_of_none h1 nD2, h3, h4.same s14⟩⟩
          have R14 := (((R10.same s11).same s12).same s13).same s14
          refine ⟨_, rfl, _, rfl, a, dx, pP, pW, pB, psZ zs, [], kP, kW, kB, nm, rfl, R14, W14.ky, ?_⟩
          have et : takeT ((psZ zs).map (·.1)) [] nm = none := by
            unfold takeT
            rw [if_neg (fun z => z (by rw [psZ_nm]; exact hx))]
            rfl
          rw [et]
          intro p3 H15 kP' k15 R15 n3 d3
          have d2' := s14 _ _ d2
          have k15L : KL D2 hA H14 H15 := kl_put R14 k15
          have ha14 := S14.ha
          have neD : D2 ≠ hA := fun z => by rw [z, S13'.ha] at nD2; cases nD2
          have kin : ∀ {l : Addr} {ys : List V}, H14 l = some (.lst ys) → H15 l = some (.lst ys) := fun e => k15 _ _ (fun z => by rw [z, R14.pl] at e; cases e) (fun z => by rw [z, R14.wy] at e; cases e) e
          have ez : psZ (zs.filter fun z => decide (z.1 ≠ nm)) = (psZ zs).filter fun b => decide (b.1 ≠ nm) := by
            rw [psZ, psZ, List.filter_map]
            rfl
          rw [← ez] at R15
          refine hN' _ _ ⟨D2, zs.filter fun z => decide (z.1 ≠ nm), us', [.str "done", .non], p3, p2, rfl, ⟨⟨_, _, _, R15, ?_⟩, kin hD2, ?_, kin ha14, fun u hu => ?_, neD, ?_, fun z hz => ?_⟩, ?_, d3, k15L.u _ _ d2', rfl, by simp [eqV]⟩
          · exact paired_drop nm (Paired.mapP W14 fun _ _ z => ⟨z.1, z.2.kl k15L⟩)
          · exact Paired.mapP hp fun _ _ z => ((z.turn nD2).kl (.of s14)).kl k15L
          · exact (((S13'.hd u hu).turn nD2).kl (.of s14)).kl k15L
          · exact S13'.nd.sublist (List.Sublist.map _ List.filter_sublist)
          · exact S13'.im z (List.mem_filter.mp hz).1
          · exact B14.keep (pP := pP) (pW := pW) (hA := hA) (fun b o n1 n2 _ _ e => k15 b o n1 n2 e) R14.pl R14.wy hD2 ha14 ne2 ne3 ne4 o1 o2 o3
        · refine ite2 (fun c => absurd (by rw [inV_strs] at c; exact of_decide_eq_true c) hx) (fun _ => ?_)
          refine ⟨_, rfl, _, rfl, a, dx, pP, pW, pB, psZ zs, [], kP, kW, kB, nm, rfl, (R10.same s11).same s12, W10.ky, ?_⟩
          have et : takeT ((psZ zs).map (·.1)) [] nm = some none := by
            unfold takeT
            rw [if_pos (by rw [psZ_nm]; exact hx)]
          rw [et]
          intro p3 H13 s13 n3 d3
          have sx := (s11.trans s12).trans s13
          exact hN' _ _ ⟨pA, zs, us, _, p3, p1, rfl, S10.same sx, B10.same sx, d3, s13 _ _ (s12 _ _ d1), rfl, by simp [eqV]⟩
    · rintro σ' H' ⟨pA', zs', us', vs, fo, du, rfl, S', B', ef, ed', hf, hv⟩
      refine ⟨_, rfl, _, rfl, _, _, .inl ⟨is_flat hf ef, is_flat hf ed'⟩, alike_flat _ _, dep_flat _, ?_⟩
      rw [eq_flat vs hv]
      refine ⟨_, rfl, ?_⟩
      refine ite2 (fun c => nomatch c) (fun _ => ?_)
      have m5 := fmod_in (x := c.fdiv 135) (m := 9) (by decide)
      obtain ⟨y5, hy5, e5⟩ := names_at lx (i := (c.fdiv 135).fmod 9) m5.1 (by omega)
      refine ⟨_, rfl, _, rfl, _, rfl, _, rfl, _, _, rfl, rfl, dv _ _ (by decide) (by decide), _, _, rfl, rfl, nz (by decide), lN, _, _, _, rfl, rfl, SqL.of B'.n, e5, _, rfl, ?_⟩
      refine ⟨a, dx, pP, pW, pB, pA', hA, xs, zs', us', hs, y5, rfl, S', lx, by omega, fun H2' hs' k2' S2' lh' => ?_⟩
      refine ⟨_, rfl, ?_⟩
      refine ite2 (fun c => nomatch c) (fun _ => ?_)
      obtain ⟨kP2, kW2, kB2, R2', _⟩ := S'.fs
      exact ⟨pA', zs', us', hs', _, _, _, _, _, rfl, S2', B'.keep (pP := pP) (pW := pW) (hA := hA) (fun b o _ _ _ n e => k2' b o n e) R2'.pl R2'.wy S'.pa S'.ha ne2 ne3 ne4 o1 o2 o3, by omega⟩
  · rintro σ H9 ⟨pA, zs, us, hs, w7, w8, w9, w10, w11, rfl, S, B, lh⟩
    obtain ⟨v0', n0', r0', e0', er0', ev0', hv0'⟩ := nums_at B.r ly (i := 0) (by decide) (by decide)
    obtain ⟨v2', n2', r2', e2', er2', ev2', hv2'⟩ := nums_at B.r ly (i := 2) (by decide) (by decide)
    have q0 : NmR K H9 v0 r0 := by
      obtain ⟨r, er, hr⟩ := paired_get B.r ev0
      rw [er0] at er
      cases er
      exact hr
    have q2 : NmR K H9 v2 r2 := by
      obtain ⟨r, er, hr⟩ := paired_get B.r ev2
      rw [er2] at er
      cases er
      exact hr
    refine ⟨_, rfl, oa, C, odx, _, _, _, rfl, B.f.obj, rfl, MPn, oa, odx, oP, oW, oB, _, _, _, _, _, rfl, B.f, fun l1 H10 s10 nl1 el1 => ?_⟩
    refine ⟨_, rfl, lN, _, _, _, rfl, rfl, SqL.of (s10 _ _ B.n), e4, L1, ?_⟩
    intro l2 nl2; generalize eX : upd _ l2 _ = H11; have s11 := eX ▸ same_new nl2 _; have el2 : H11 l2 = some _ := eX ▸ upd_same; clear eX
    refine ne_strs (ws := [y4]) (s11 _ _ el1) el2 ?_
    refine ⟨_, rfl, ?_⟩
    refine ite2 (fun c => nomatch c) (fun _ => ?_)
    have s911 := s10.trans s11
    have B11 := B.same s911
    refine ⟨_, rfl, oa, C, odx, _, _, _, rfl, B11.f.obj, rfl, MPl, _, rfl, lN, _, _, _, rfl, rfl, SqL.of B11.n, e4, ?_⟩
    refine ⟨oa, odx, oP, oW, oB, _, _, _, _, _, y4, rfl, B11.f, by simp, (fun p hp v hv => ?_), fun hx => absurd (by simp) hx⟩
    have ep : p = (qr r0, qr r2) := by simpa using hp
    subst ep
    refine ⟨_, rfl, lQ, _, _, _, rfl, rfl, SqL.of B11.q, e0, _, rfl, lQ, _, _, _, rfl, rfl, SqL.of B11.q, e2, L2, ?_⟩
    intro tp ntp; generalize eX : upd _ tp _ = H12; have s12 := eX ▸ same_new ntp _; have etp : H12 tp = some _ := eX ▸ upd_same; clear eX
    have s912 := s911.trans s12
    refine ⟨spotD (qr r0, qr r2), spotD (qr r0, qr r2), .inl ⟨(hv.sameT (.of s12)).is, Spot.is (p := (qr r0, qr r2)) ⟨tp, v0, v2, rfl, SqT.of etp, q0.same s912, q2.same s912⟩⟩, alike_spots _ _, dep_spots _, ?_⟩
    rw [eq_spots, decide_eq_true rfl]
    refine ⟨_, rfl, ?_⟩
    refine ite2 (fun c => nomatch c) (fun _ => ?_)
    have S12' := S.same s912
    refine ⟨_, rfl, hA, rfl, ⟨_, SqL.of S12'.ha⟩, fun D1 n1 => ?_⟩
    refine comp_pairs (cap := []) (K := K) (a := hA) (us := hs) (fun _ v _ => v = .bl true) n1 (Nat.lt_of_le_of_lt (show hs.length ≤ 200 by omega) (by decide)) (fun H9 s9 => SqL.of (s9 _ _ S12'.ha)) (fun i u e => ?_) (fun _ _ _ _ _ _ _ h => h) ?_ ?_
    · obtain ⟨t', a1, a2, ws', rfl, b1, _⟩ := S12'.hd u (List.mem_of_getElem? e)
      exact ⟨t', _, _, rfl, b1⟩
    · intro i p x y H9 R e hp s9 k
      obtain ⟨t', a1, a2, vs', e', b1, b2, b3, b4, _⟩ := S12'.hd _ (List.mem_of_getElem? e)
      cases e'
      rw [hp] at b1
      cases b1
      exact ⟨_, rfl, _, rfl, (b4.sameT (.of s9)).eq (s9 _ _ b2) (s9 _ _ b3) (k _ _ (Same.refl _) rfl)⟩
    · intro ys H9 hy hrel s9 hD
      have ey : ys = (List.replicate hs.length true).map V.bl := by
        refine List.ext_getElem? fun i => ?_
        rw [List.getElem?_map, List.getElem?_replicate]
        cases e : ys[i]? with
        | none =>
          have := List.getElem?_eq_none_iff.mp e
          rw [if_neg (by omega)]
          rfl
        | some v =>
          have := (List.getElem?_eq_some_iff.mp e).1
          rw [if_pos (by omega), hrel i v e]
          rfl
      rw [ey] at hD
      refine ⟨D1, List.replicate hs.length true, rfl, SqL.of hD, ?_⟩
      have : (List.replicate hs.length true).all id = true := by simp
      rw [this]
      exact q H9
end
theorem all_mk {l : PySem.W.OpenLaw} {w : World} {K : PySem.W.Frag} {h : Heap} {mg : Str → Option Value} {fa : Addr} (X : K.In h) (G : h.Ns mainGlobals mg) (hfa : mg "law" = some (.ref fa))
    {f_law_cell_at : Addr} {od_law_cell_at an_law_cell_at : Option Addr} {sl_law_cell_at : Array (Option Value)} {oc_law_cell_at kV_law_cell_at dc_law_cell_at pm_law_cell_at cd_law_cell_at ct_law_cell_at : Value} {f_law_names : Addr} {od_law_names an_law_names : Option Addr} {sl_law_names : Array (Option Value)} {oc_law_names kV_law_names dc_law_names pm_law_names cd_law_names ct_law_names : Value} {f_law_lowest : Addr} {od_law_lowest an_law_lowest : Option Addr} {sl_law_lowest : Array (Option Value)} {oc_law_lowest kV_law_lowest dc_law_lowest pm_law_lowest cd_law_lowest ct_law_lowest : Value} {f_law_drawn : Addr} {od_law_drawn an_law_drawn : Option Addr} {sl_law_drawn : Array (Option Value)} {oc_law_drawn kV_law_drawn dc_law_drawn pm_law_drawn cd_law_drawn ct_law_drawn : Value} {f_law_hold : Addr} {od_law_hold an_law_hold : Option Addr} {sl_law_hold : Array (Option Value)} {oc_law_hold kV_law_hold dc_law_hold pm_law_hold cd_law_hold ct_law_hold : Value} {f_law_ways : Addr} {od_law_ways an_law_ways : Option Addr} {sl_law_ways : Array (Option Value)} {oc_law_ways kV_law_ways dc_law_ways pm_law_ways cd_law_ways ct_law_ways : Value} {f_law_alone : Addr} {od_law_alone an_law_alone : Option Addr} {sl_law_alone : Array (Option Value)} {oc_law_alone kV_law_alone dc_law_alone pm_law_alone cd_law_alone ct_law_alone : Value} {f_law_put : Addr} {od_law_put an_law_put : Option Addr} {sl_law_put : Array (Option Value)} {oc_law_put kV_law_put dc_law_put pm_law_put cd_law_put ct_law_put : Value} {f_law_taken : Addr} {od_law_taken an_law_taken : Option Addr} {sl_law_taken : Array (Option Value)} {oc_law_taken kV_law_taken dc_law_taken pm_law_taken cd_law_taken ct_law_taken : Value} {f_law_due_put : Addr} {od_law_due_put an_law_due_put : Option Addr} {sl_law_due_put : Array (Option Value)} {oc_law_due_put kV_law_due_put dc_law_due_put pm_law_due_put cd_law_due_put ct_law_due_put : Value} {f_law_place : Addr} {od_law_place an_law_place : Option Addr} {sl_law_place : Array (Option Value)} {oc_law_place kV_law_place dc_law_place pm_law_place cd_law_place ct_law_place : Value} {f_law_held : Addr} {od_law_held an_law_held : Option Addr} {sl_law_held : Array (Option Value)} {oc_law_held kV_law_held dc_law_held pm_law_held cd_law_held ct_law_held : Value} {f_law_asked : Addr} {od_law_asked an_law_asked : Option Addr} {sl_law_asked : Array (Option Value)} {oc_law_asked kV_law_asked dc_law_asked pm_law_asked cd_law_asked ct_law_asked : Value} {f_law : Addr} {od_law an_law : Option Addr} {sl_law : Array (Option Value)} {oc_law kV_law dc_law pm_law cd_law ct_law : Value} {tk_MOST_PINS : Tok} {C_YardError : Addr} {C_NoWay : Addr} {C_PinThere : Addr} {C_SpotTaken : Addr} {C_NoPin : Addr} {C_PinBusy : Addr} {C_BarThere : Addr} {C_NoBar : Addr} {C_NoLength : Addr} {C_TooMany : Addr} {C_Frame : Addr} {C_Hold : Addr} {C_Roller : Addr} {C_Fixed : Addr} {f_Frame_init : Addr} {od_Frame_init an_Frame_init : Option Addr} {sl_Frame_init : Array (Option Value)} {oc_Frame_init kV_Frame_init dc_Frame_init pm_Frame_init cd_Frame_init ct_Frame_init : Value} {td_Frame_put_pin : Addr} {tc_Frame_put_pin : Value} {tdd_Frame_put_pin : Option Addr} {tn_Frame_put_pin : Nat} {tsl_Frame_put_pin : Array (Option Value)} {f_Frame_put_pin : Addr} {od_Frame_put_pin an_Frame_put_pin : Option Addr} {sl_Frame_put_pin : Array (Option Value)} {oc_Frame_put_pin kV_Frame_put_pin dc_Frame_put_pin pm_Frame_put_pin cd_Frame_put_pin ct_Frame_put_pin : Value} {f_Frame_check_pin : Addr} {od_Frame_check_pin an_Frame_check_pin : Option Addr} {sl_Frame_check_pin : Array (Option Value)} {oc_Frame_check_pin kV_Frame_check_pin dc_Frame_check_pin pm_Frame_check_pin cd_Frame_check_pin ct_Frame_check_pin : Value} {f_Frame_take_pin : Addr} {od_Frame_take_pin an_Frame_take_pin : Option Addr} {sl_Frame_take_pin : Array (Option Value)} {oc_Frame_take_pin kV_Frame_take_pin dc_Frame_take_pin pm_Frame_take_pin cd_Frame_take_pin ct_Frame_take_pin : Value} {f_Frame_pins : Addr} {od_Frame_pins an_Frame_pins : Option Addr} {sl_Frame_pins : Array (Option Value)} {oc_Frame_pins kV_Frame_pins dc_Frame_pins pm_Frame_pins cd_Frame_pins ct_Frame_pins : Value} {f_Frame_place : Addr} {od_Frame_place an_Frame_place : Option Addr} {sl_Frame_place : Array (Option Value)} {oc_Frame_place kV_Frame_place dc_Frame_place pm_Frame_place cd_Frame_place ct_Frame_place : Value} {f_Frame_ways : Addr} {od_Frame_ways an_Frame_ways : Option Addr} {sl_Frame_ways : Array (Option Value)} {oc_Frame_ways kV_Frame_ways dc_Frame_ways pm_Frame_ways cd_Frame_ways ct_Frame_ways : Value} {f_Hold_ways : Addr} {od_Hold_ways an_Hold_ways : Option Addr} {sl_Hold_ways : Array (Option Value)} {oc_Hold_ways kV_Hold_ways dc_Hold_ways pm_Hold_ways cd_Hold_ways ct_Hold_ways : Value} {f_Roller_init : Addr} {od_Roller_init an_Roller_init : Option Addr} {sl_Roller_init : Array (Option Value)} {oc_Roller_init kV_Roller_init dc_Roller_init pm_Roller_init cd_Roller_init ct_Roller_init : Value} {f_Roller_ways : Addr} {od_Roller_ways an_Roller_ways : Option Addr} {sl_Roller_ways : Array (Option Value)} {oc_Roller_ways kV_Roller_ways dc_Roller_ways pm_Roller_ways cd_Roller_ways ct_Roller_ways : Value} {f_Fixed_ways : Addr} {od_Fixed_ways an_Fixed_ways : Option Addr} {sl_Fixed_ways : Array (Option Value)} {oc_Fixed_ways kV_Fixed_ways dc_Fixed_ways pm_Fixed_ways cd_Fixed_ways ct_Fixed_ways : Value} {nm_PinThere qn_PinThere : Str} {N_PinThere : Addr} {bs_PinThere bm_PinThere : List Value} {hd_PinThere : Bool} {sn_PinThere : List Str} {sub_PinThere : List Value} {ab_PinThere : Bool} {col_PinThere : Option Bool} {dd_PinThere : Option Addr} {k0_PinThere k1_PinThere k2_PinThere k3_PinThere k5_PinThere : Option Value} {f_PinThere_init : Addr} {od_PinThere_init an_PinThere_init : Option Addr} {sl_PinThere_init : Array (Option Value)} {oc_PinThere_init kV_PinThere_init dc_PinThere_init pm_PinThere_init cd_PinThere_init ct_PinThere_init : Value} {nm_SpotTaken qn_SpotTaken : Str} {N_SpotTaken : Addr} {bs_SpotTaken bm_SpotTaken : List Value} {hd_SpotTaken : Bool} {sn_SpotTaken : List Str} {sub_SpotTaken : List Value} {ab_SpotTaken : Bool} {col_SpotTaken : Option Bool} {dd_SpotTaken : Option Addr} {k0_SpotTaken k1_SpotTaken k2_SpotTaken k3_SpotTaken k5_SpotTaken : Option Value} {f_SpotTaken_init : Addr} {od_SpotTaken_init an_SpotTaken_init : Option Addr} {sl_SpotTaken_init : Array (Option Value)} {oc_SpotTaken_init kV_SpotTaken_init dc_SpotTaken_init pm_SpotTaken_init cd_SpotTaken_init ct_SpotTaken_init : Value} {nm_NoPin qn_NoPin : Str} {N_NoPin : Addr} {bs_NoPin bm_NoPin : List Value} {hd_NoPin : Bool} {sn_NoPin : List Str} {sub_NoPin : List Value} {ab_NoPin : Bool} {col_NoPin : Option Bool} {dd_NoPin : Option Addr} {k0_NoPin k1_NoPin k2_NoPin k3_NoPin k5_NoPin : Option Value} {f_NoPin_init : Addr} {od_NoPin_init an_NoPin_init : Option Addr} {sl_NoPin_init : Array (Option Value)} {oc_NoPin_init kV_NoPin_init dc_NoPin_init pm_NoPin_init cd_NoPin_init ct_NoPin_init : Value} {nm_PinBusy qn_PinBusy : Str} {N_PinBusy : Addr} {bs_PinBusy bm_PinBusy : List Value} {hd_PinBusy : Bool} {sn_PinBusy : List Str} {sub_PinBusy : List Value} {ab_PinBusy : Bool} {col_PinBusy : Option Bool} {dd_PinBusy : Option Addr} {k0_PinBusy k1_PinBusy k2_PinBusy k3_PinBusy k5_PinBusy : Option Value} {f_PinBusy_init : Addr} {od_PinBusy_init an_PinBusy_init : Option Addr} {sl_PinBusy_init : Array (Option Value)} {oc_PinBusy_init kV_PinBusy_init dc_PinBusy_init pm_PinBusy_init cd_PinBusy_init ct_PinBusy_init : Value}
    (a_law_cell_at : PySem.W.nsIn K mainGlobals "_law_cell_at" = some (some (.ref f_law_cell_at))) (l_law_cell_at : K.lookup f_law_cell_at = some ⟨oc_law_cell_at, od_law_cell_at, .func (PySem.W.fnOf "_law_cell_at" "_law_cell_at" (defArgs s_law_cell_at) (defBody s_law_cell_at) (defScope s_law_cell_at) .none kV_law_cell_at dc_law_cell_at pm_law_cell_at an_law_cell_at cd_law_cell_at ct_law_cell_at), sl_law_cell_at⟩) (c_law_cell_at : PySem.W.codeIn K cd_law_cell_at "_law_cell_at" = true) (k_law_cell_at : PySem.W.keepIn K (.ref f_law_cell_at) = true) (a_law_names : PySem.W.nsIn K mainGlobals "_law_names" = some (some (.ref f_law_names))) (l_law_names : K.lookup f_law_names = some ⟨oc_law_names, od_law_names, .func (PySem.W.fnOf "_law_names" "_law_names" (defArgs s_law_names) (defBody s_law_names) (defScope s_law_names) .none kV_law_names dc_law_names pm_law_names an_law_names cd_law_names ct_law_names), sl_law_names⟩) (c_law_names : PySem.W.codeIn K cd_law_names "_law_names" = true) (k_law_names : PySem.W.keepIn K (.ref f_law_names) = true) (a_law_lowest : PySem.W.nsIn K mainGlobals "_law_lowest" = some (some (.ref f_law_lowest))) (l_law_lowest : K.lookup f_law_lowest = some ⟨oc_law_lowest, od_law_lowest, .func (PySem.W.fnOf "_law_lowest" "_law_lowest" (defArgs s_law_lowest) (defBody s_law_lowest) (defScope s_law_lowest) .none kV_law_lowest dc_law_lowest pm_law_lowest an_law_lowest cd_law_lowest ct_law_lowest), sl_law_lowest⟩) (c_law_lowest : PySem.W.codeIn K cd_law_lowest "_law_lowest" = true) (k_law_lowest : PySem.W.keepIn K (.ref f_law_lowest) = true) (a_law_drawn : PySem.W.nsIn K mainGlobals "_law_drawn" = some (some (.ref f_law_drawn))) (l_law_drawn : K.lookup f_law_drawn = some ⟨oc_law_drawn, od_law_drawn, .func (PySem.W.fnOf "_law_drawn" "_law_drawn" (defArgs s_law_drawn) (defBody s_law_drawn) (defScope s_law_drawn) .none kV_law_drawn dc_law_drawn pm_law_drawn an_law_drawn cd_law_drawn ct_law_drawn), sl_law_drawn⟩) (c_law_drawn : PySem.W.codeIn K cd_law_drawn "_law_drawn" = true) (k_law_drawn : PySem.W.keepIn K (.ref f_law_drawn) = true) (a_law_hold : PySem.W.nsIn K mainGlobals "_law_hold" = some (some (.ref f_law_hold))) (l_law_hold : K.lookup f_law_hold = some ⟨oc_law_hold, od_law_hold, .func (PySem.W.fnOf "_law_hold" "_law_hold" (defArgs s_law_hold) (defBody s_law_hold) (defScope s_law_hold) .none kV_law_hold dc_law_hold pm_law_hold an_law_hold cd_law_hold ct_law_hold), sl_law_hold⟩) (c_law_hold : PySem.W.codeIn K cd_law_hold "_law_hold" = true) (k_law_hold : PySem.W.keepIn K (.ref f_law_hold) = true) (a_law_ways : PySem.W.nsIn K mainGlobals "_law_ways" = some (some (.ref f_law_ways))) (l_law_ways : K.lookup f_law_ways = some ⟨oc_law_ways, od_law_ways, .func (PySem.W.fnOf "_law_ways" "_law_ways" (defArgs s_law_ways) (defBody s_law_ways) (defScope s_law_ways) .none kV_law_ways dc_law_ways pm_law_ways an_law_ways cd_law_ways ct_law_ways), sl_law_ways⟩) (c_law_ways : PySem.W.codeIn K cd_law_ways "_law_ways" = true) (k_law_ways : PySem.W.keepIn K (.ref f_law_ways) = true) (a_law_alone : PySem.W.nsIn K mainGlobals "_law_alone" = some (some (.ref f_law_alone))) (l_law_alone : K.lookup f_law_alone = some ⟨oc_law_alone, od_law_alone, .func (PySem.W.fnOf "_law_alone" "_law_alone" (defArgs s_law_alone) (defBody s_law_alone) (defScope s_law_alone) .none kV_law_alone dc_law_alone pm_law_alone an_law_alone cd_law_alone ct_law_alone), sl_law_alone⟩) (c_law_alone : PySem.W.codeIn K cd_law_alone "_law_alone" = true) (k_law_alone : PySem.W.keepIn K (.ref f_law_alone) = true) (a_law_put : PySem.W.nsIn K mainGlobals "_law_put" = some (some (.ref f_law_put))) (l_law_put : K.lookup f_law_put = some ⟨oc_law_put, od_law_put, .func (PySem.W.fnOf "_law_put" "_law_put" (defArgs s_law_put) (defBody s_law_put) (defScope s_law_put) .none kV_law_put dc_law_put pm_law_put an_law_put cd_law_put ct_law_put), sl_law_put⟩) (c_law_put : PySem.W.codeIn K cd_law_put "_law_put" = true) (k_law_put : PySem.W.keepIn K (.ref f_law_put) = true) (a_law_taken : PySem.W.nsIn K mainGlobals "_law_taken" = some (some (.ref f_law_taken))) (l_law_taken : K.lookup f_law_taken = some ⟨oc_law_taken, od_law_taken, .func (PySem.W.fnOf "_law_taken" "_law_taken" (defArgs s_law_taken) (defBody s_law_taken) (defScope s_law_taken) .none kV_law_taken dc_law_taken pm_law_taken an_law_taken cd_law_taken ct_law_taken), sl_law_taken⟩) (c_law_taken : PySem.W.codeIn K cd_law_taken "_law_taken" = true) (k_law_taken : PySem.W.keepIn K (.ref f_law_taken) = true) (a_law_due_put : PySem.W.nsIn K mainGlobals "_law_due_put" = some (some (.ref f_law_due_put))) (l_law_due_put : K.lookup f_law_due_put = some ⟨oc_law_due_put, od_law_due_put, .func (PySem.W.fnOf "_law_due_put" "_law_due_put" (defArgs s_law_due_put) (defBody s_law_due_put) (defScope s_law_due_put) .none kV_law_due_put dc_law_due_put pm_law_due_put an_law_due_put cd_law_due_put ct_law_due_put), sl_law_due_put⟩) (c_law_due_put : PySem.W.codeIn K cd_law_due_put "_law_due_put" = true) (k_law_due_put : PySem.W.keepIn K (.ref f_law_due_put) = true) (a_law_place : PySem.W.nsIn K mainGlobals "_law_place" = some (some (.ref f_law_place))) (l_law_place : K.lookup f_law_place = some ⟨oc_law_place, od_law_place, .func (PySem.W.fnOf "_law_place" "_law_place" (defArgs s_law_place) (defBody s_law_place) (defScope s_law_place) .none kV_law_place dc_law_place pm_law_place an_law_place cd_law_place ct_law_place), sl_law_place⟩) (c_law_place : PySem.W.codeIn K cd_law_place "_law_place" = true) (k_law_place : PySem.W.keepIn K (.ref f_law_place) = true) (a_law_held : PySem.W.nsIn K mainGlobals "_law_held" = some (some (.ref f_law_held))) (l_law_held : K.lookup f_law_held = some ⟨oc_law_held, od_law_held, .func (PySem.W.fnOf "_law_held" "_law_held" (defArgs s_law_held) (defBody s_law_held) (defScope s_law_held) .none kV_law_held dc_law_held pm_law_held an_law_held cd_law_held ct_law_held), sl_law_held⟩) (c_law_held : PySem.W.codeIn K cd_law_held "_law_held" = true) (k_law_held : PySem.W.keepIn K (.ref f_law_held) = true) (a_law_asked : PySem.W.nsIn K mainGlobals "_law_asked" = some (some (.ref f_law_asked))) (l_law_asked : K.lookup f_law_asked = some ⟨oc_law_asked, od_law_asked, .func (PySem.W.fnOf "_law_asked" "_law_asked" (defArgs s_law_asked) (defBody s_law_asked) (defScope s_law_asked) .none kV_law_asked dc_law_asked pm_law_asked an_law_asked cd_law_asked ct_law_asked), sl_law_asked⟩) (c_law_asked : PySem.W.codeIn K cd_law_asked "_law_asked" = true) (k_law_asked : PySem.W.keepIn K (.ref f_law_asked) = true) (a_law : PySem.W.nsIn K mainGlobals "law" = some (some (.ref f_law))) (l_law : K.lookup f_law = some ⟨oc_law, od_law, .func (PySem.W.fnOf "law" "law" (defArgs s_law) (defBody s_law) (defScope s_law) .none kV_law dc_law pm_law an_law cd_law ct_law), sl_law⟩) (c_law : PySem.W.codeIn K cd_law "law" = true) (k_law : PySem.W.keepIn K (.ref f_law) = true) (a_MOST_PINS : PySem.W.nsIn K mainGlobals "MOST_PINS" = some (some (.int 24 tk_MOST_PINS))) (z_ValueError : PySem.W.nsIn K mainGlobals "ValueError" = some none) (z_abs : PySem.W.nsIn K mainGlobals "abs" = some none) (z_all : PySem.W.nsIn K mainGlobals "all" = some none) (z_isinstance : PySem.W.nsIn K mainGlobals "isinstance" = some none) (z_len : PySem.W.nsIn K mainGlobals "len" = some none) (z_list : PySem.W.nsIn K mainGlobals "list" = some none) (z_range : PySem.W.nsIn K mainGlobals "range" = some none) (a_YardError : PySem.W.nsIn K mainGlobals "YardError" = some (some (.ref C_YardError))) (a_NoWay : PySem.W.nsIn K mainGlobals "NoWay" = some (some (.ref C_NoWay))) (a_PinThere : PySem.W.nsIn K mainGlobals "PinThere" = some (some (.ref C_PinThere))) (a_SpotTaken : PySem.W.nsIn K mainGlobals "SpotTaken" = some (some (.ref C_SpotTaken))) (a_NoPin : PySem.W.nsIn K mainGlobals "NoPin" = some (some (.ref C_NoPin))) (a_PinBusy : PySem.W.nsIn K mainGlobals "PinBusy" = some (some (.ref C_PinBusy))) (a_BarThere : PySem.W.nsIn K mainGlobals "BarThere" = some (some (.ref C_BarThere))) (a_NoBar : PySem.W.nsIn K mainGlobals "NoBar" = some (some (.ref C_NoBar))) (a_NoLength : PySem.W.nsIn K mainGlobals "NoLength" = some (some (.ref C_NoLength))) (a_TooMany : PySem.W.nsIn K mainGlobals "TooMany" = some (some (.ref C_TooMany))) (a_Frame : PySem.W.nsIn K mainGlobals "Frame" = some (some (.ref C_Frame))) (a_Hold : PySem.W.nsIn K mainGlobals "Hold" = some (some (.ref C_Hold))) (a_Roller : PySem.W.nsIn K mainGlobals "Roller" = some (some (.ref C_Roller))) (a_Fixed : PySem.W.nsIn K mainGlobals "Fixed" = some (some (.ref C_Fixed))) (pg_Frame : PySem.W.plainGet K C_Frame Str.empty = true) (hd_Frame : PySem.W.hasDictIn K C_Frame = true) (po_Frame : PySem.W.plainOver K C_Frame = true) (sa_Frame : PySem.W.findIn K (.ref C_Frame) "__setattr__" = some (some (.builtin "object.__setattr__"))) (mk_Frame : PySem.W.makesIn K C_Frame = true) (kc_Frame : PySem.W.keepIn K (.ref C_Frame) = true) (a_Frame_init : PySem.W.findIn K (.ref C_Frame) "__init__" = some (some (.ref f_Frame_init))) (i_Frame_init : PySem.W.isFn K (.ref f_Frame_init) = true) (l_Frame_init : K.lookup f_Frame_init = some ⟨oc_Frame_init, od_Frame_init, .func (PySem.W.fnOf "__init__" "Frame.__init__" (defArgs s_Frame_init) (defBody s_Frame_init) (defScope s_Frame_init) .none kV_Frame_init dc_Frame_init pm_Frame_init an_Frame_init cd_Frame_init ct_Frame_init), sl_Frame_init⟩) (c_Frame_init : PySem.W.codeIn K cd_Frame_init "Frame.__init__" = true) (k_Frame_init : PySem.W.keepIn K (.ref f_Frame_init) = true) (a_Frame_put_pin : PySem.W.findIn K (.ref C_Frame) "put_pin" = some (some (.ref f_Frame_put_pin))) (i_Frame_put_pin : PySem.W.isFn K (.ref f_Frame_put_pin) = true) (l_Frame_put_pin : K.lookup f_Frame_put_pin = some ⟨oc_Frame_put_pin, od_Frame_put_pin, .func (PySem.W.fnOf "put_pin" "Frame.put_pin" (defArgs s_Frame_put_pin) (defBody s_Frame_put_pin) (defScope s_Frame_put_pin) (.ref td_Frame_put_pin) kV_Frame_put_pin dc_Frame_put_pin pm_Frame_put_pin an_Frame_put_pin cd_Frame_put_pin ct_Frame_put_pin), sl_Frame_put_pin⟩) (t_Frame_put_pin : K.lookup td_Frame_put_pin = some ⟨tc_Frame_put_pin, tdd_Frame_put_pin, .seq #[.none] tn_Frame_put_pin, tsl_Frame_put_pin⟩) (c_Frame_put_pin : PySem.W.codeIn K cd_Frame_put_pin "Frame.put_pin" = true) (k_Frame_put_pin : PySem.W.keepIn K (.ref f_Frame_put_pin) = true) (a_Frame_check_pin : PySem.W.findIn K (.ref C_Frame) "check_pin" = some (some (.ref f_Frame_check_pin))) (i_Frame_check_pin : PySem.W.isFn K (.ref f_Frame_check_pin) = true) (l_Frame_check_pin : K.lookup f_Frame_check_pin = some ⟨oc_Frame_check_pin, od_Frame_check_pin, .func (PySem.W.fnOf "check_pin" "Frame.check_pin" (defArgs s_Frame_check_pin) (defBody s_Frame_check_pin) (defScope s_Frame_check_pin) .none kV_Frame_check_pin dc_Frame_check_pin pm_Frame_check_pin an_Frame_check_pin cd_Frame_check_pin ct_Frame_check_pin), sl_Frame_check_pin⟩) (c_Frame_check_pin : PySem.W.codeIn K cd_Frame_check_pin "Frame.check_pin" = true) (k_Frame_check_pin : PySem.W.keepIn K (.ref f_Frame_check_pin) = true) (a_Frame_take_pin : PySem.W.findIn K (.ref C_Frame) "take_pin" = some (some (.ref f_Frame_take_pin))) (i_Frame_take_pin : PySem.W.isFn K (.ref f_Frame_take_pin) = true) (l_Frame_take_pin : K.lookup f_Frame_take_pin = some ⟨oc_Frame_take_pin, od_Frame_take_pin, .func (PySem.W.fnOf "take_pin" "Frame.take_pin" (defArgs s_Frame_take_pin) (defBody s_Frame_take_pin) (defScope s_Frame_take_pin) .none kV_Frame_take_pin dc_Frame_take_pin pm_Frame_take_pin an_Frame_take_pin cd_Frame_take_pin ct_Frame_take_pin), sl_Frame_take_pin⟩) (c_Frame_take_pin : PySem.W.codeIn K cd_Frame_take_pin "Frame.take_pin" = true) (k_Frame_take_pin : PySem.W.keepIn K (.ref f_Frame_take_pin) = true) (a_Frame_pins : PySem.W.findIn K (.ref C_Frame) "pins" = some (some (.ref f_Frame_pins))) (i_Frame_pins : PySem.W.isFn K (.ref f_Frame_pins) = true) (l_Frame_pins : K.lookup f_Frame_pins = some ⟨oc_Frame_pins, od_Frame_pins, .func (PySem.W.fnOf "pins" "Frame.pins" (defArgs s_Frame_pins) (defBody s_Frame_pins) (defScope s_Frame_pins) .none kV_Frame_pins dc_Frame_pins pm_Frame_pins an_Frame_pins cd_Frame_pins ct_Frame_pins), sl_Frame_pins⟩) (c_Frame_pins : PySem.W.codeIn K cd_Frame_pins "Frame.pins" = true) (k_Frame_pins : PySem.W.keepIn K (.ref f_Frame_pins) = true) (a_Frame_place : PySem.W.findIn K (.ref C_Frame) "place" = some (some (.ref f_Frame_place))) (i_Frame_place : PySem.W.isFn K (.ref f_Frame_place) = true) (l_Frame_place : K.lookup f_Frame_place = some ⟨oc_Frame_place, od_Frame_place, .func (PySem.W.fnOf "place" "Frame.place" (defArgs s_Frame_place) (defBody s_Frame_place) (defScope s_Frame_place) .none kV_Frame_place dc_Frame_place pm_Frame_place an_Frame_place cd_Frame_place ct_Frame_place), sl_Frame_place⟩) (c_Frame_place : PySem.W.codeIn K cd_Frame_place "Frame.place" = true) (k_Frame_place : PySem.W.keepIn K (.ref f_Frame_place) = true) (a_Frame_ways : PySem.W.findIn K (.ref C_Frame) "ways" = some (some (.ref f_Frame_ways))) (i_Frame_ways : PySem.W.isFn K (.ref f_Frame_ways) = true) (l_Frame_ways : K.lookup f_Frame_ways = some ⟨oc_Frame_ways, od_Frame_ways, .func (PySem.W.fnOf "ways" "Frame.ways" (defArgs s_Frame_ways) (defBody s_Frame_ways) (defScope s_Frame_ways) .none kV_Frame_ways dc_Frame_ways pm_Frame_ways an_Frame_ways cd_Frame_ways ct_Frame_ways), sl_Frame_ways⟩) (c_Frame_ways : PySem.W.codeIn K cd_Frame_ways "Frame.ways" = true) (k_Frame_ways : PySem.W.keepIn K (.ref f_Frame_ways) = true) (pg_Hold : PySem.W.plainGet K C_Hold Str.empty = true) (hd_Hold : PySem.W.hasDictIn K C_Hold = true) (po_Hold : PySem.W.plainOver K C_Hold = true) (sa_Hold : PySem.W.findIn K (.ref C_Hold) "__setattr__" = some (some (.builtin "object.__setattr__"))) (mk_Hold : PySem.W.makesIn K C_Hold = true) (kc_Hold : PySem.W.keepIn K (.ref C_Hold) = true) (oi_Hold : PySem.W.findIn K (.ref C_Hold) "__init__" = some (some (.builtin "object.__init__"))) (a_Hold_ways : PySem.W.findIn K (.ref C_Hold) "ways" = some (some (.ref f_Hold_ways))) (i_Hold_ways : PySem.W.isFn K (.ref f_Hold_ways) = true) (l_Hold_ways : K.lookup f_Hold_ways = some ⟨oc_Hold_ways, od_Hold_ways, .func (PySem.W.fnOf "ways" "Hold.ways" (defArgs s_Hold_ways) (defBody s_Hold_ways) (defScope s_Hold_ways) .none kV_Hold_ways dc_Hold_ways pm_Hold_ways an_Hold_ways cd_Hold_ways ct_Hold_ways), sl_Hold_ways⟩) (c_Hold_ways : PySem.W.codeIn K cd_Hold_ways "Hold.ways" = true) (k_Hold_ways : PySem.W.keepIn K (.ref f_Hold_ways) = true) (pg_Roller : PySem.W.plainGet K C_Roller Str.empty = true) (hd_Roller : PySem.W.hasDictIn K C_Roller = true) (po_Roller : PySem.W.plainOver K C_Roller = true) (sa_Roller : PySem.W.findIn K (.ref C_Roller) "__setattr__" = some (some (.builtin "object.__setattr__"))) (mk_Roller : PySem.W.makesIn K C_Roller = true) (kc_Roller : PySem.W.keepIn K (.ref C_Roller) = true) (a_Roller_init : PySem.W.findIn K (.ref C_Roller) "__init__" = some (some (.ref f_Roller_init))) (i_Roller_init : PySem.W.isFn K (.ref f_Roller_init) = true) (l_Roller_init : K.lookup f_Roller_init = some ⟨oc_Roller_init, od_Roller_init, .func (PySem.W.fnOf "__init__" "Roller.__init__" (defArgs s_Roller_init) (defBody s_Roller_init) (defScope s_Roller_init) .none kV_Roller_init dc_Roller_init pm_Roller_init an_Roller_init cd_Roller_init ct_Roller_init), sl_Roller_init⟩) (c_Roller_init : PySem.W.codeIn K cd_Roller_init "Roller.__init__" = true) (k_Roller_init : PySem.W.keepIn K (.ref f_Roller_init) = true) (a_Roller_ways : PySem.W.findIn K (.ref C_Roller) "ways" = some (some (.ref f_Roller_ways))) (i_Roller_ways : PySem.W.isFn K (.ref f_Roller_ways) = true) (l_Roller_ways : K.lookup f_Roller_ways = some ⟨oc_Roller_ways, od_Roller_ways, .func (PySem.W.fnOf "ways" "Roller.ways" (defArgs s_Roller_ways) (defBody s_Roller_ways) (defScope s_Roller_ways) .none kV_Roller_ways dc_Roller_ways pm_Roller_ways an_Roller_ways cd_Roller_ways ct_Roller_ways), sl_Roller_ways⟩) (c_Roller_ways : PySem.W.codeIn K cd_Roller_ways "Roller.ways" = true) (k_Roller_ways : PySem.W.keepIn K (.ref f_Roller_ways) = true) (pg_Fixed : PySem.W.plainGet K C_Fixed Str.empty = true) (hd_Fixed : PySem.W.hasDictIn K C_Fixed = true) (po_Fixed : PySem.W.plainOver K C_Fixed = true) (sa_Fixed : PySem.W.findIn K (.ref C_Fixed) "__setattr__" = some (some (.builtin "object.__setattr__"))) (mk_Fixed : PySem.W.makesIn K C_Fixed = true) (kc_Fixed : PySem.W.keepIn K (.ref C_Fixed) = true) (oi_Fixed : PySem.W.findIn K (.ref C_Fixed) "__init__" = some (some (.builtin "object.__init__"))) (a_Fixed_ways : PySem.W.findIn K (.ref C_Fixed) "ways" = some (some (.ref f_Fixed_ways))) (i_Fixed_ways : PySem.W.isFn K (.ref f_Fixed_ways) = true) (l_Fixed_ways : K.lookup f_Fixed_ways = some ⟨oc_Fixed_ways, od_Fixed_ways, .func (PySem.W.fnOf "ways" "Fixed.ways" (defArgs s_Fixed_ways) (defBody s_Fixed_ways) (defScope s_Fixed_ways) .none kV_Fixed_ways dc_Fixed_ways pm_Fixed_ways an_Fixed_ways cd_Fixed_ways ct_Fixed_ways), sl_Fixed_ways⟩) (c_Fixed_ways : PySem.W.codeIn K cd_Fixed_ways "Fixed.ways" = true) (k_Fixed_ways : PySem.W.keepIn K (.ref f_Fixed_ways) = true) (o_PinThere : K.lookup C_PinThere = some (excClassObj nm_PinThere qn_PinThere C_PinThere N_PinThere bs_PinThere bm_PinThere hd_PinThere sn_PinThere sub_PinThere ab_PinThere col_PinThere dd_PinThere k0_PinThere k1_PinThere k2_PinThere k3_PinThere k5_PinThere "ValueError.__new__")) (tl_PinThere : PySem.W.tailIn K bmV bm_PinThere = true) (kp_PinThere : PySem.W.keepIn K (.ref C_PinThere) = true) (ga_PinThere : PySem.W.findIn K (.ref C_PinThere) "__getattribute__" = some (some (.builtin "BaseException.__getattribute__"))) (gt_PinThere : PySem.W.findIn K (.ref C_PinThere) "__getattr__" = some none) (cl_PinThere : PySem.W.findIn K (.ref C_PinThere) "__class__" = some (some (.builtin "object.__class__"))) (mo_PinThere : PySem.W.mroIn K C_PinThere (.type "object") = some true) (mb_PinThere : PySem.W.mroIn K C_PinThere (.type "BaseException") = some true) (mv_PinThere : PySem.W.mroIn K C_PinThere (.type "ValueError") = some true) (is_PinThere : (PySem.W.clsIn K C_PinThere).isSome = true) (sa_PinThere : PySem.W.findIn K (.ref C_PinThere) "__setattr__" = some (some (.builtin "object.__setattr__"))) (hx_PinThere : PySem.W.hasDictIn K C_PinThere = true) (ov_PinThere : (PySem.W.clsIn K C_PinThere).any (fun cd => TyExc.exOnly cd.mro) = true) (nf_PinThere_pin : PySem.W.findIn K (.ref C_PinThere) "pin" = some none) (a_PinThere_init : PySem.W.findIn K (.ref C_PinThere) "__init__" = some (some (.ref f_PinThere_init))) (i_PinThere_init : PySem.W.isFn K (.ref f_PinThere_init) = true) (l_PinThere_init : K.lookup f_PinThere_init = some ⟨oc_PinThere_init, od_PinThere_init, .func (PySem.W.fnOf "__init__" "PinThere.__init__" (defArgs s_PinThere_init) (defBody s_PinThere_init) (defScope s_PinThere_init) .none kV_PinThere_init dc_PinThere_init pm_PinThere_init an_PinThere_init cd_PinThere_init ct_PinThere_init), sl_PinThere_init⟩) (c_PinThere_init : PySem.W.codeIn K cd_PinThere_init "PinThere.__init__" = true) (k_PinThere_init : PySem.W.keepIn K (.ref f_PinThere_init) = true) (o_SpotTaken : K.lookup C_SpotTaken = some (excClassObj nm_SpotTaken qn_SpotTaken C_SpotTaken N_SpotTaken bs_SpotTaken bm_SpotTaken hd_SpotTaken sn_SpotTaken sub_SpotTaken ab_SpotTaken col_SpotTaken dd_SpotTaken k0_SpotTaken k1_SpotTaken k2_SpotTaken k3_SpotTaken k5_SpotTaken "ValueError.__new__")) (tl_SpotTaken : PySem.W.tailIn K bmV bm_SpotTaken = true) (kp_SpotTaken : PySem.W.keepIn K (.ref C_SpotTaken) = true) (ga_SpotTaken : PySem.W.findIn K (.ref C_SpotTaken) "__getattribute__" = some (some (.builtin "BaseException.__getattribute__"))) (gt_SpotTaken : PySem.W.findIn K (.ref C_SpotTaken) "__getattr__" = some none) (cl_SpotTaken : PySem.W.findIn K (.ref C_SpotTaken) "__class__" = some (some (.builtin "object.__class__"))) (mo_SpotTaken : PySem.W.mroIn K C_SpotTaken (.type "object") = some true) (mb_SpotTaken : PySem.W.mroIn K C_SpotTaken (.type "BaseException") = some true) (mv_SpotTaken : PySem.W.mroIn K C_SpotTaken (.type "ValueError") = some true) (is_SpotTaken : (PySem.W.clsIn K C_SpotTaken).isSome = true) (sa_SpotTaken : PySem.W.findIn K (.ref C_SpotTaken) "__setattr__" = some (some (.builtin "object.__setattr__"))) (hx_SpotTaken : PySem.W.hasDictIn K C_SpotTaken = true) (ov_SpotTaken : (PySem.W.clsIn K C_SpotTaken).any (fun cd => TyExc.exOnly cd.mro) = true) (nf_SpotTaken_pin : PySem.W.findIn K (.ref C_SpotTaken) "pin" = some none) (a_SpotTaken_init : PySem.W.findIn K (.ref C_SpotTaken) "__init__" = some (some (.ref f_SpotTaken_init))) (i_SpotTaken_init : PySem.W.isFn K (.ref f_SpotTaken_init) = true) (l_SpotTaken_init : K.lookup f_SpotTaken_init = some ⟨oc_SpotTaken_init, od_SpotTaken_init, .func (PySem.W.fnOf "__init__" "SpotTaken.__init__" (defArgs s_SpotTaken_init) (defBody s_SpotTaken_init) (defScope s_SpotTaken_init) .none kV_SpotTaken_init dc_SpotTaken_init pm_SpotTaken_init an_SpotTaken_init cd_SpotTaken_init ct_SpotTaken_init), sl_SpotTaken_init⟩) (c_SpotTaken_init : PySem.W.codeIn K cd_SpotTaken_init "SpotTaken.__init__" = true) (k_SpotTaken_init : PySem.W.keepIn K (.ref f_SpotTaken_init) = true) (o_NoPin : K.lookup C_NoPin = some (excClassObj nm_NoPin qn_NoPin C_NoPin N_NoPin bs_NoPin bm_NoPin hd_NoPin sn_NoPin sub_NoPin ab_NoPin col_NoPin dd_NoPin k0_NoPin k1_NoPin k2_NoPin k3_NoPin k5_NoPin "ValueError.__new__")) (tl_NoPin : PySem.W.tailIn K bmV bm_NoPin = true) (kp_NoPin : PySem.W.keepIn K (.ref C_NoPin) = true) (ga_NoPin : PySem.W.findIn K (.ref C_NoPin) "__getattribute__" = some (some (.builtin "BaseException.__getattribute__"))) (gt_NoPin : PySem.W.findIn K (.ref C_NoPin) "__getattr__" = some none) (cl_NoPin : PySem.W.findIn K (.ref C_NoPin) "__class__" = some (some (.builtin "object.__class__"))) (mo_NoPin : PySem.W.mroIn K C_NoPin (.type "object") = some true) (mb_NoPin : PySem.W.mroIn K C_NoPin (.type "BaseException") = some true) (mv_NoPin : PySem.W.mroIn K C_NoPin (.type "ValueError") = some true) (is_NoPin : (PySem.W.clsIn K C_NoPin).isSome = true) (sa_NoPin : PySem.W.findIn K (.ref C_NoPin) "__setattr__" = some (some (.builtin "object.__setattr__"))) (hx_NoPin : PySem.W.hasDictIn K C_NoPin = true) (ov_NoPin : (PySem.W.clsIn K C_NoPin).any (fun cd => TyExc.exOnly cd.mro) = true) (nf_NoPin_pin : PySem.W.findIn K (.ref C_NoPin) "pin" = some none) (a_NoPin_init : PySem.W.findIn K (.ref C_NoPin) "__init__" = some (some (.ref f_NoPin_init))) (i_NoPin_init : PySem.W.isFn K (.ref f_NoPin_init) = true) (l_NoPin_init : K.lookup f_NoPin_init = some ⟨oc_NoPin_init, od_NoPin_init, .func (PySem.W.fnOf "__init__" "NoPin.__init__" (defArgs s_NoPin_init) (defBody s_NoPin_init) (defScope s_NoPin_init) .none kV_NoPin_init dc_NoPin_init pm_NoPin_init an_NoPin_init cd_NoPin_init ct_NoPin_init), sl_NoPin_init⟩) (c_NoPin_init : PySem.W.codeIn K cd_NoPin_init "NoPin.__init__" = true) (k_NoPin_init : PySem.W.keepIn K (.ref f_NoPin_init) = true) (o_PinBusy : K.lookup C_PinBusy = some (excClassObj nm_PinBusy qn_PinBusy C_PinBusy N_PinBusy bs_PinBusy bm_PinBusy hd_PinBusy sn_PinBusy sub_PinBusy ab_PinBusy col_PinBusy dd_PinBusy k0_PinBusy k1_PinBusy k2_PinBusy k3_PinBusy k5_PinBusy "ValueError.__new__")) (tl_PinBusy : PySem.W.tailIn K bmV bm_PinBusy = true) (kp_PinBusy : PySem.W.keepIn K (.ref C_PinBusy) = true) (ga_PinBusy : PySem.W.findIn K (.ref C_PinBusy) "__getattribute__" = some (some (.builtin "BaseException.__getattribute__"))) (gt_PinBusy : PySem.W.findIn K (.ref C_PinBusy) "__getattr__" = some none) (cl_PinBusy : PySem.W.findIn K (.ref C_PinBusy) "__class__" = some (some (.builtin "object.__class__"))) (mo_PinBusy : PySem.W.mroIn K C_PinBusy (.type "object") = some true) (mb_PinBusy : PySem.W.mroIn K C_PinBusy (.type "BaseException") = some true) (mv_PinBusy : PySem.W.mroIn K C_PinBusy (.type "ValueError") = some true) (is_PinBusy : (PySem.W.clsIn K C_PinBusy).isSome = true) (sa_PinBusy : PySem.W.findIn K (.ref C_PinBusy) "__setattr__" = some (some (.builtin "object.__setattr__"))) (hx_PinBusy : PySem.W.hasDictIn K C_PinBusy = true) (ov_PinBusy : (PySem.W.clsIn K C_PinBusy).any (fun cd => TyExc.exOnly cd.mro) = true) (nf_PinBusy_pin : PySem.W.findIn K (.ref C_PinBusy) "pin" = some none) (nf_PinBusy_bar : PySem.W.findIn K (.ref C_PinBusy) "bar" = some none) (a_PinBusy_init : PySem.W.findIn K (.ref C_PinBusy) "__init__" = some (some (.ref f_PinBusy_init))) (i_PinBusy_init : PySem.W.isFn K (.ref f_PinBusy_init) = true) (l_PinBusy_init : K.lookup f_PinBusy_init = some ⟨oc_PinBusy_init, od_PinBusy_init, .func (PySem.W.fnOf "__init__" "PinBusy.__init__" (defArgs s_PinBusy_init) (defBody s_PinBusy_init) (defScope s_PinBusy_init) .none kV_PinBusy_init dc_PinBusy_init pm_PinBusy_init an_PinBusy_init cd_PinBusy_init ct_PinBusy_init), sl_PinBusy_init⟩) (c_PinBusy_init : PySem.W.codeIn K cd_PinBusy_init "PinBusy.__init__" = true) (k_PinBusy_init : PySem.W.keepIn K (.ref f_PinBusy_init) = true) (n_places : PySem.W.findIn K (.ref C_Frame) "pin_places" = some none) (n_ways : PySem.W.findIn K (.ref C_Frame) "pin_ways" = some none) (n_ends : PySem.W.findIn K (.ref C_Frame) "bar_ends" = some none) (y_ga : PySem.W.specialIn K (.ref C_YardError) "__getattribute__" = some (some (.builtin "type.__getattribute__"))) (y_rd : PySem.W.readsIn K C_YardError (.type "type") = true) (y_fi : PySem.W.findCls K (.ref C_YardError) (.type "type") "__init__" = some (.val (.builtin "ValueError.__init__"))) (q_TooMany : PySem.W.excIn K C_TooMany bmV "ValueError.__new__" = true) (em_pp : PySem.W.exmOne K (.ref C_PinThere) (.ref C_PinThere) = some true) (em_sp : PySem.W.exmOne K (.ref C_SpotTaken) (.ref C_PinThere) = some false) (em_ss : PySem.W.exmOne K (.ref C_SpotTaken) (.ref C_SpotTaken) = some true) (em_nn : PySem.W.exmOne K (.ref C_NoPin) (.ref C_NoPin) = some true) (ki_pp : PySem.W.kitOne K (.ref C_PinThere) (.ref C_PinThere) = some true) (ki_ps : PySem.W.kitOne K (.ref C_PinThere) (.ref C_SpotTaken) = some false) (ki_pn : PySem.W.kitOne K (.ref C_PinThere) (.ref C_NoPin) = some false) (ki_pu : PySem.W.kitOne K (.ref C_PinThere) (.ref C_PinBusy) = some false) (ki_pb : PySem.W.kitOne K (.ref C_PinThere) (.ref C_BarThere) = some false) (ki_po : PySem.W.kitOne K (.ref C_PinThere) (.ref C_NoBar) = some false) (ki_pl : PySem.W.kitOne K (.ref C_PinThere) (.ref C_NoLength) = some false) (ki_pt : PySem.W.kitOne K (.ref C_PinThere) (.ref C_TooMany) = some false) (ki_py : PySem.W.kitOne K (.ref C_PinThere) (.ref C_YardError) = some true) (ki_pv : PySem.W.kitOne K (.ref C_PinThere) (.type "ValueError") = some true) (ki_sp : PySem.W.kitOne K (.ref C_SpotTaken) (.ref C_PinThere) = some false) (ki_ss : PySem.W.kitOne K (.ref C_SpotTaken) (.ref C_SpotTaken) = some true) (ki_sn : PySem.W.kitOne K (.ref C_SpotTaken) (.ref C_NoPin) = some false) (ki_su : PySem.W.kitOne K (.ref C_SpotTaken) (.ref C_PinBusy) = some false) (ki_sb : PySem.W.kitOne K (.ref C_SpotTaken) (.ref C_BarThere) = some false) (ki_so : PySem.W.kitOne K (.ref C_SpotTaken) (.ref C_NoBar) = some false) (ki_sl : PySem.W.kitOne K (.ref C_SpotTaken) (.ref C_NoLength) = some false) (ki_st : PySem.W.kitOne K (.ref C_SpotTaken) (.ref C_TooMany) = some false) (ki_sy : PySem.W.kitOne K (.ref C_SpotTaken) (.ref C_YardError) = some true) (ki_sv : PySem.W.kitOne K (.ref C_SpotTaken) (.type "ValueError") = some true) (ki_np : PySem.W.kitOne K (.ref C_NoPin) (.ref C_PinThere) = some false) (ki_ns : PySem.W.kitOne K (.ref C_NoPin) (.ref C_SpotTaken) = some false) (ki_nn : PySem.W.kitOne K (.ref C_NoPin) (.ref C_NoPin) = some true) (ki_nu : PySem.W.kitOne K (.ref C_NoPin) (.ref C_PinBusy) = some false) (ki_nb : PySem.W.kitOne K (.ref C_NoPin) (.ref C_BarThere) = some false) (ki_no : PySem.W.kitOne K (.ref C_NoPin) (.ref C_NoBar) = some false) (ki_nl : PySem.W.kitOne K (.ref C_NoPin) (.ref C_NoLength) = some false) (ki_nt : PySem.W.kitOne K (.ref C_NoPin) (.ref C_TooMany) = some false) (ki_ny : PySem.W.kitOne K (.ref C_NoPin) (.ref C_YardError) = some true) (ki_nv : PySem.W.kitOne K (.ref C_NoPin) (.type "ValueError") = some true) (n_way : PySem.W.findIn K (.ref C_Roller) "way" = some none) :
    ∃ fd : FuncData, (∀ (s : Shared) (v : Value), BindsTo s fd ⟨[v], []⟩ [("_law_script", v)]) ∧ ∀ base : Heap, K.In base → base.Ns mainGlobals mg → FnOk l.prog w K mg base (CXr l.prog w) 10 fa fd ["_law_script"] (spLaw K) := by
  have e := hfa.symm.trans (PySem.W.mg_of X G a_law)
  cases e
  have D_law_cell_at : Def K mg "_law_cell_at" s_law_cell_at ["_law_script", "_law_k"] := Def.of (fun_mk (st := s_law_cell_at) l_law_cell_at c_law_cell_at k_law_cell_at) ((fun_mk (st := s_law_cell_at) l_law_cell_at c_law_cell_at k_law_cell_at).binds (ps := ["_law_script", "_law_k"]) (fun _ _ _ _ _ _ us hl => match us, hl with | [_, _], _ => rfl)) (PySem.W.mg_of X G a_law_cell_at)
  have D_law_names : Def K mg "_law_names" s_law_names ["_law_cell", "_law_many"] := Def.of (fun_mk (st := s_law_names) l_law_names c_law_names k_law_names) ((fun_mk (st := s_law_names) l_law_names c_law_names k_law_names).binds (ps := ["_law_cell", "_law_many"]) (fun _ _ _ _ _ _ us hl => match us, hl with | [_, _], _ => rfl)) (PySem.W.mg_of X G a_law_names)
  have D_law_lowest : Def K mg "_law_lowest" s_law_lowest ["_law_top", "_law_bottom"] := Def.of (fun_mk (st := s_law_lowest) l_law_lowest c_law_lowest k_law_lowest) ((fun_mk (st := s_law_lowest) l_law_lowest c_law_lowest k_law_lowest).binds (ps := ["_law_top", "_law_bottom"]) (fun _ _ _ _ _ _ us hl => match us, hl with | [_, _], _ => rfl)) (PySem.W.mg_of X G a_law_lowest)
  have D_law_drawn : Def K mg "_law_drawn" s_law_drawn ["_law_cell", "_law_large"] := Def.of (fun_mk (st := s_law_drawn) l_law_drawn c_law_drawn k_law_drawn) ((fun_mk (st := s_law_drawn) l_law_drawn c_law_drawn k_law_drawn).binds (ps := ["_law_cell", "_law_large"]) (fun _ _ _ _ _ _ us hl => match us, hl with | [_, _], _ => rfl)) (PySem.W.mg_of X G a_law_drawn)
  have D_law_hold : Def K mg "_law_hold" s_law_hold ["_law_cell", "_law_x"] := Def.of (fun_mk (st := s_law_hold) l_law_hold c_law_hold k_law_hold) ((fun_mk (st := s_law_hold) l_law_hold c_law_hold k_law_hold).binds (ps := ["_law_cell", "_law_x"]) (fun _ _ _ _ _ _ us hl => match us, hl with | [_, _], _ => rfl)) (PySem.W.mg_of X G a_law_hold)
  have D_law_ways : Def K mg "_law_ways" s_law_ways ["_law_cell", "_law_x"] := Def.of (fun_mk (st := s_law_ways) l_law_ways c_law_ways k_law_ways) ((fun_mk (st := s_law_ways) l_law_ways c_law_ways k_law_ways).binds (ps := ["_law_cell", "_law_x"]) (fun _ _ _ _ _ _ us hl => match us, hl with | [_, _], _ => rfl)) (PySem.W.mg_of X G a_law_ways)
  have D_law_alone : Def K mg "_law_alone" s_law_alone ["_law_e"] := Def.of (fun_mk (st := s_law_alone) l_law_alone c_law_alone k_law_alone) ((fun_mk (st := s_law_alone) l_law_alone c_law_alone k_law_alone).binds (ps := ["_law_e"]) (fun _ _ _ _ _ _ us hl => match us, hl with | [_], _ => rfl)) (PySem.W.mg_of X G a_law_alone)
  have D_law_put : Def K mg "_law_put" s_law_put ["_law_frame", "_law_name", "_law_spot", "_law_cell", "_law_x"] := Def.of (fun_mk (st := s_law_put) l_law_put c_law_put k_law_put) ((fun_mk (st := s_law_put) l_law_put c_law_put k_law_put).binds (ps := ["_law_frame", "_law_name", "_law_spot", "_law_cell", "_law_x"]) (fun _ _ _ _ _ _ us hl => match us, hl with | [_, _, _, _, _], _ => rfl)) (PySem.W.mg_of X G a_law_put)
  have D_law_taken : Def K mg "_law_taken" s_law_taken ["_law_frame", "_law_name"] := Def.of (fun_mk (st := s_law_taken) l_law_taken c_law_taken k_law_taken) ((fun_mk (st := s_law_taken) l_law_taken c_law_taken k_law_taken).binds (ps := ["_law_frame", "_law_name"]) (fun _ _ _ _ _ _ us hl => match us, hl with | [_, _], _ => rfl)) (PySem.W.mg_of X G a_law_taken)
  have D_law_due_put : Def K mg "_law_due_put" s_law_due_put ["_law_pins", "_law_name", "_law_spot"] := Def.of (fun_mk (st := s_law_due_put) l_law_due_put c_law_due_put k_law_due_put) ((fun_mk (st := s_law_due_put) l_law_due_put c_law_due_put k_law_due_put).binds (ps := ["_law_pins", "_law_name", "_law_spot"]) (fun _ _ _ _ _ _ us hl => match us, hl with | [_, _, _], _ => rfl)) (PySem.W.mg_of X G a_law_due_put)
  have D_law_place : Def K mg "_law_place" s_law_place ["_law_frame", "_law_name"] := Def.of (fun_mk (st := s_law_place) l_law_place c_law_place k_law_place) ((fun_mk (st := s_law_place) l_law_place c_law_place k_law_place).binds (ps := ["_law_frame", "_law_name"]) (fun _ _ _ _ _ _ us hl => match us, hl with | [_, _], _ => rfl)) (PySem.W.mg_of X G a_law_place)
  have D_law_held : Def K mg "_law_held" s_law_held ["_law_frame", "_law_name"] := Def.of (fun_mk (st := s_law_held) l_law_held c_law_held k_law_held) ((fun_mk (st := s_law_held) l_law_held c_law_held k_law_held).binds (ps := ["_law_frame", "_law_name"]) (fun _ _ _ _ _ _ us hl => match us, hl with | [_, _], _ => rfl)) (PySem.W.mg_of X G a_law_held)
  have D_law_asked : Def K mg "_law_asked" s_law_asked ["_law_frame", "_law_pins", "_law_name", "_law_held_here"] := Def.of (fun_mk (st := s_law_asked) l_law_asked c_law_asked k_law_asked) ((fun_mk (st := s_law_asked) l_law_asked c_law_asked k_law_asked).binds (ps := ["_law_frame", "_law_pins", "_law_name", "_law_held_here"]) (fun _ _ _ _ _ _ us hl => match us, hl with | [_, _, _, _], _ => rfl)) (PySem.W.mg_of X G a_law_asked)
  have cls_Frame : Cls K C_Frame := ⟨pg_Frame, hd_Frame, po_Frame, sa_Frame⟩
  have M_Frame : Mk K C_Frame f_Frame_init := ⟨mk_Frame, a_Frame_init, i_Frame_init, kc_Frame⟩
  have F_Frame_init := fun_mk (st := s_Frame_init) l_Frame_init c_Frame_init k_Frame_init
  have b_Frame_init := F_Frame_init.binds (ps := ["self"]) (fun _ _ _ _ _ _ us hl => match us, hl with | [_], _ => rfl)
  have m_Frame_init : Meth K C_Frame "__init__" f_Frame_init := ⟨a_Frame_init, i_Frame_init, k_Frame_init⟩
  have F_Frame_put_pin := fun_mkD (st := s_Frame_put_pin) l_Frame_put_pin c_Frame_put_pin k_Frame_put_pin
  have b_Frame_put_pin : Binds K (PySem.W.fnOf "put_pin" "Frame.put_pin" (defArgs s_Frame_put_pin) (defBody s_Frame_put_pin) (defScope s_Frame_put_pin) (.ref td_Frame_put_pin) kV_Frame_put_pin dc_Frame_put_pin pm_Frame_put_pin an_Frame_put_pin cd_Frame_put_pin ct_Frame_put_pin) ["self", "name", "x", "y", "hold"] [] := fun s us X hl => match us, hl with | [_, _, _, _, _], _ => BindsTo.of_defaults rfl (X _ _ t_Frame_put_pin) rfl rfl rfl
  have bd_Frame_put_pin : Binds K (PySem.W.fnOf "put_pin" "Frame.put_pin" (defArgs s_Frame_put_pin) (defBody s_Frame_put_pin) (defScope s_Frame_put_pin) (.ref td_Frame_put_pin) kV_Frame_put_pin dc_Frame_put_pin pm_Frame_put_pin an_Frame_put_pin cd_Frame_put_pin ct_Frame_put_pin) ["self", "name", "x", "y", "hold"] [.none] := fun s us X hl => match us, (show us.length = 4 by simpa using hl) with | [_, _, _, _], _ => BindsTo.of_defaults rfl (X _ _ t_Frame_put_pin) rfl rfl rfl
  have m_Frame_put_pin : Meth K C_Frame "put_pin" f_Frame_put_pin := ⟨a_Frame_put_pin, i_Frame_put_pin, k_Frame_put_pin⟩
  have F_Frame_check_pin := fun_mk (st := s_Frame_check_pin) l_Frame_check_pin c_Frame_check_pin k_Frame_check_pin
  have b_Frame_check_pin := F_Frame_check_pin.binds (ps := ["self", "pin"]) (fun _ _ _ _ _ _ us hl => match us, hl with | [_, _], _ => rfl)
  have m_Frame_check_pin : Meth K C_Frame "check_pin" f_Frame_check_pin := ⟨a_Frame_check_pin, i_Frame_check_pin, k_Frame_check_pin⟩
  have F_Frame_take_pin := fun_mk (st := s_Frame_take_pin) l_Frame_take_pin c_Frame_take_pin k_Frame_take_pin
  have b_Frame_take_pin := F_Frame_take_pin.binds (ps := ["self", "name"]) (fun _ _ _ _ _ _ us hl => match us, hl with | [_, _], _ => rfl)
  have m_Frame_take_pin : Meth K C_Frame "take_pin" f_Frame_take_pin := ⟨a_Frame_take_pin, i_Frame_take_pin, k_Frame_take_pin⟩
  have F_Frame_pins := fun_mk (st := s_Frame_pins) l_Frame_pins c_Frame_pins k_Frame_pins
  have b_Frame_pins := F_Frame_pins.binds (ps := ["self"]) (fun _ _ _ _ _ _ us hl => match us, hl with | [_], _ => rfl)
  have m_Frame_pins : Meth K C_Frame "pins" f_Frame_pins := ⟨a_Frame_pins, i_Frame_pins, k_Frame_pins⟩
  have F_Frame_place := fun_mk (st := s_Frame_place) l_Frame_place c_Frame_place k_Frame_place
  have b_Frame_place := F_Frame_place.binds (ps := ["self", "pin"]) (fun _ _ _ _ _ _ us hl => match us, hl with | [_, _], _ => rfl)
  have m_Frame_place : Meth K C_Frame "place" f_Frame_place := ⟨a_Frame_place, i_Frame_place, k_Frame_place⟩
  have F_Frame_ways := fun_mk (st := s_Frame_ways) l_Frame_ways c_Frame_ways k_Frame_ways
  have b_Frame_ways := F_Frame_ways.binds (ps := ["self", "pin"]) (fun _ _ _ _ _ _ us hl => match us, hl with | [_, _], _ => rfl)
  have m_Frame_ways : Meth K C_Frame "ways" f_Frame_ways := ⟨a_Frame_ways, i_Frame_ways, k_Frame_ways⟩
  have cls_Hold : Cls K C_Hold := ⟨pg_Hold, hd_Hold, po_Hold, sa_Hold⟩
  have M_Hold : Mk0 K C_Hold := ⟨mk_Hold, oi_Hold, kc_Hold⟩
  have F_Hold_ways := fun_mk (st := s_Hold_ways) l_Hold_ways c_Hold_ways k_Hold_ways
  have b_Hold_ways := F_Hold_ways.binds (ps := ["self"]) (fun _ _ _ _ _ _ us hl => match us, hl with | [_], _ => rfl)
  have m_Hold_ways : Meth K C_Hold "ways" f_Hold_ways := ⟨a_Hold_ways, i_Hold_ways, k_Hold_ways⟩
  have cls_Roller : Cls K C_Roller := ⟨pg_Roller, hd_Roller, po_Roller, sa_Roller⟩
  have M_Roller : Mk K C_Roller f_Roller_init := ⟨mk_Roller, a_Roller_init, i_Roller_init, kc_Roller⟩
  have F_Roller_init := fun_mk (st := s_Roller_init) l_Roller_init c_Roller_init k_Roller_init
  have b_Roller_init := F_Roller_init.binds (ps := ["self", "x", "y"]) (fun _ _ _ _ _ _ us hl => match us, hl with | [_, _, _], _ => rfl)
  have m_Roller_init : Meth K C_Roller "__init__" f_Roller_init := ⟨a_Roller_init, i_Roller_init, k_Roller_init⟩
  have F_Roller_ways := fun_mk (st := s_Roller_ways) l_Roller_ways c_Roller_ways k_Roller_ways
  have b_Roller_ways := F_Roller_ways.binds (ps := ["self"]) (fun _ _ _ _ _ _ us hl => match us, hl with | [_], _ => rfl)
  have m_Roller_ways : Meth K C_Roller "ways" f_Roller_ways := ⟨a_Roller_ways, i_Roller_ways, k_Roller_ways⟩
  have cls_Fixed : Cls K C_Fixed := ⟨pg_Fixed, hd_Fixed, po_Fixed, sa_Fixed⟩
  have M_Fixed : Mk0 K C_Fixed := ⟨mk_Fixed, oi_Fixed, kc_Fixed⟩
  have F_Fixed_ways := fun_mk (st := s_Fixed_ways) l_Fixed_ways c_Fixed_ways k_Fixed_ways
  have b_Fixed_ways := F_Fixed_ways.binds (ps := ["self"]) (fun _ _ _ _ _ _ us hl => match us, hl with | [_], _ => rfl)
  have m_Fixed_ways : Meth K C_Fixed "ways" f_Fixed_ways := ⟨a_Fixed_ways, i_Fixed_ways, k_Fixed_ways⟩
  have F_PinThere_init := fun_mk (st := s_PinThere_init) l_PinThere_init c_PinThere_init k_PinThere_init
  have b_PinThere_init := F_PinThere_init.binds (ps := ["self", "pin"]) (fun _ _ _ _ _ _ us hl => match us, hl with | [_, _], _ => rfl)
  have ek_PinThere : TyExc.ExcK K C_PinThere := ⟨ga_PinThere, gt_PinThere, cl_PinThere, mo_PinThere, mb_PinThere, is_PinThere⟩
  have xf_PinThere_pin : TyExc.ExcF K C_PinThere "pin" := ⟨ek_PinThere, sa_PinThere, hx_PinThere, ov_PinThere, nf_PinThere_pin⟩
  have X_PinThere : ExcC K C_PinThere f_PinThere_init := ⟨⟨_, _, _, _, _, _, _, _, _, _, _, _, _, _, _, _, o_PinThere, tl_PinThere⟩, a_PinThere_init, i_PinThere_init, kp_PinThere⟩
  have F_SpotTaken_init := fun_mk (st := s_SpotTaken_init) l_SpotTaken_init c_SpotTaken_init k_SpotTaken_init
  have b_SpotTaken_init := F_SpotTaken_init.binds (ps := ["self", "pin"]) (fun _ _ _ _ _ _ us hl => match us, hl with | [_, _], _ => rfl)
  have ek_SpotTaken : TyExc.ExcK K C_SpotTaken := ⟨ga_SpotTaken, gt_SpotTaken, cl_SpotTaken, mo_SpotTaken, mb_SpotTaken, is_SpotTaken⟩
  have xf_SpotTaken_pin : TyExc.ExcF K C_SpotTaken "pin" := ⟨ek_SpotTaken, sa_SpotTaken, hx_SpotTaken, ov_SpotTaken, nf_SpotTaken_pin⟩
  have X_SpotTaken : ExcC K C_SpotTaken f_SpotTaken_init := ⟨⟨_, _, _, _, _, _, _, _, _, _, _, _, _, _, _, _, o_SpotTaken, tl_SpotTaken⟩, a_SpotTaken_init, i_SpotTaken_init, kp_SpotTaken⟩
  have F_NoPin_init := fun_mk (st := s_NoPin_init) l_NoPin_init c_NoPin_init k_NoPin_init
  have b_NoPin_init := F_NoPin_init.binds (ps := ["self", "pin"]) (fun _ _ _ _ _ _ us hl => match us, hl with | [_, _], _ => rfl)
  have ek_NoPin : TyExc.ExcK K C_NoPin := ⟨ga_NoPin, gt_NoPin, cl_NoPin, mo_NoPin, mb_NoPin, is_NoPin⟩
  have xf_NoPin_pin : TyExc.ExcF K C_NoPin "pin" := ⟨ek_NoPin, sa_NoPin, hx_NoPin, ov_NoPin, nf_NoPin_pin⟩
  have X_NoPin : ExcC K C_NoPin f_NoPin_init := ⟨⟨_, _, _, _, _, _, _, _, _, _, _, _, _, _, _, _, o_NoPin, tl_NoPin⟩, a_NoPin_init, i_NoPin_init, kp_NoPin⟩
  have F_PinBusy_init := fun_mk (st := s_PinBusy_init) l_PinBusy_init c_PinBusy_init k_PinBusy_init
  have b_PinBusy_init := F_PinBusy_init.binds (ps := ["self", "pin", "bar"]) (fun _ _ _ _ _ _ us hl => match us, hl with | [_, _, _], _ => rfl)
  have ek_PinBusy : TyExc.ExcK K C_PinBusy := ⟨ga_PinBusy, gt_PinBusy, cl_PinBusy, mo_PinBusy, mb_PinBusy, is_PinBusy⟩
  have xf_PinBusy_pin : TyExc.ExcF K C_PinBusy "pin" := ⟨ek_PinBusy, sa_PinBusy, hx_PinBusy, ov_PinBusy, nf_PinBusy_pin⟩
  have xf_PinBusy_bar : TyExc.ExcF K C_PinBusy "bar" := ⟨ek_PinBusy, sa_PinBusy, hx_PinBusy, ov_PinBusy, nf_PinBusy_bar⟩
  have X_PinBusy : ExcC K C_PinBusy f_PinBusy_init := ⟨⟨_, _, _, _, _, _, _, _, _, _, _, _, _, _, _, _, o_PinBusy, tl_PinBusy⟩, a_PinBusy_init, i_PinBusy_init, kp_PinBusy⟩
  have m_MOST_PINS := PySem.W.mg_of X G a_MOST_PINS
  have m_YardError : mg "YardError" = some (.ref C_YardError) := PySem.W.mg_of X G a_YardError
  have m_NoWay : mg "NoWay" = some (.ref C_NoWay) := PySem.W.mg_of X G a_NoWay
  have m_PinThere : mg "PinThere" = some (.ref C_PinThere) := PySem.W.mg_of X G a_PinThere
  have m_SpotTaken : mg "SpotTaken" = some (.ref C_SpotTaken) := PySem.W.mg_of X G a_SpotTaken
  have m_NoPin : mg "NoPin" = some (.ref C_NoPin) := PySem.W.mg_of X G a_NoPin
  have m_PinBusy : mg "PinBusy" = some (.ref C_PinBusy) := PySem.W.mg_of X G a_PinBusy
  have m_BarThere : mg "BarThere" = some (.ref C_BarThere) := PySem.W.mg_of X G a_BarThere
  have m_NoBar : mg "NoBar" = some (.ref C_NoBar) := PySem.W.mg_of X G a_NoBar
  have m_NoLength : mg "NoLength" = some (.ref C_NoLength) := PySem.W.mg_of X G a_NoLength
  have m_TooMany : mg "TooMany" = some (.ref C_TooMany) := PySem.W.mg_of X G a_TooMany
  have m_Frame : mg "Frame" = some (.ref C_Frame) := PySem.W.mg_of X G a_Frame
  have m_Hold : mg "Hold" = some (.ref C_Hold) := PySem.W.mg_of X G a_Hold
  have m_Roller : mg "Roller" = some (.ref C_Roller) := PySem.W.mg_of X G a_Roller
  have m_Fixed : mg "Fixed" = some (.ref C_Fixed) := PySem.W.mg_of X G a_Fixed
  have m_ValueError : mg "ValueError" = none := PySem.W.mg_none_of X G z_ValueError
  have m_abs : mg "abs" = none := PySem.W.mg_none_of X G z_abs
  have m_all : mg "all" = none := PySem.W.mg_none_of X G z_all
  have m_isinstance : mg "isinstance" = none := PySem.W.mg_none_of X G z_isinstance
  have m_len : mg "len" = none := PySem.W.mg_none_of X G z_len
  have m_list : mg "list" = none := PySem.W.mg_none_of X G z_list
  have m_range : mg "range" = none := PySem.W.mg_none_of X G z_range
  have F := fun_mk (st := s_law) l_law c_law k_law
  refine ⟨PySem.W.fnOf "law" "law" (defArgs s_law) (defBody s_law) (defScope s_law) .none kV_law dc_law pm_law an_law cd_law ct_law, fun s v => .of_eq rfl, fun base _ _ => ?_⟩
  have hM : Mute (CXr l.prog w) := CXr.mute
  have fc : FrC K C_Frame := ⟨cls_Frame, n_places, n_ways, n_ends⟩
  have hY : YardI K C_YardError := ⟨y_ga, y_rd, y_fi⟩
  have ex : ExmK K C_PinThere C_SpotTaken C_NoPin := ⟨em_pp, em_sp, em_ss, em_nn⟩
  have al_p : Alone K C_PinThere C_SpotTaken C_NoPin C_PinBusy C_BarThere C_NoBar C_NoLength C_TooMany C_YardError C_PinThere := ⟨xf_PinThere_pin.k, ⟨_, _, _, _, _, _, _, _, ki_pp, ki_ps, ki_pn, ki_pu, ki_pb, ki_po, ki_pl, ki_pt, rfl⟩, ki_py, ki_pv⟩
  have al_s : Alone K C_PinThere C_SpotTaken C_NoPin C_PinBusy C_BarThere C_NoBar C_NoLength C_TooMany C_YardError C_SpotTaken := ⟨xf_SpotTaken_pin.k, ⟨_, _, _, _, _, _, _, _, ki_sp, ki_ss, ki_sn, ki_su, ki_sb, ki_so, ki_sl, ki_st, rfl⟩, ki_sy, ki_sv⟩
  have al_n : Alone K C_PinThere C_SpotTaken C_NoPin C_PinBusy C_BarThere C_NoBar C_NoLength C_TooMany C_YardError C_NoPin := ⟨xf_NoPin_pin.k, ⟨_, _, _, _, _, _, _, _, ki_np, ki_ns, ki_nn, ki_nu, ki_nb, ki_no, ki_nl, ki_nt, rfl⟩, ki_ny, ki_nv⟩
  have GI := ok_Frame_init (P := l.prog) (w := w) (mg := mg) (base := base) F_Frame_init fc
  have XP := ok_PinThere_init (P := l.prog) (w := w) (mg := mg) (base := base) F_PinThere_init hY m_YardError xf_PinThere_pin mv_PinThere
  have XS := ok_SpotTaken_init (P := l.prog) (w := w) (mg := mg) (base := base) F_SpotTaken_init hY m_YardError xf_SpotTaken_pin mv_SpotTaken
  have XN := ok_NoPin_init (P := l.prog) (w := w) (mg := mg) (base := base) F_NoPin_init hY m_YardError xf_NoPin_pin mv_NoPin
  have XU := ok_PinBusy_init (P := l.prog) (w := w) (mg := mg) (base := base) F_PinBusy_init hY m_YardError xf_PinBusy_pin xf_PinBusy_bar mv_PinBusy
  have MPn : MtdOk l.prog w K mg base (CXr l.prog w) 1 C_Frame "pins" ["self"] (spPins K C_Frame) := ⟨_, _, cls_Frame, m_Frame_pins, ok_Frame_pins F_Frame_pins fc m_list, b_Frame_pins⟩
  have MCp : MtdOk l.prog w K mg base (CXr l.prog w) 3 C_Frame "check_pin" ["self", "pin"] (spCheckPinX K C_Frame C_NoPin) := ⟨_, _, cls_Frame, m_Frame_check_pin, ok_Frame_check_pin F_Frame_check_pin fc m_NoPin X_NoPin XN b_NoPin_init, b_Frame_check_pin⟩
  have okP := ok_Frame_put_pin (P := l.prog) (w := w) (mg := mg) (base := base) F_Frame_put_pin fc m_MOST_PINS m_len m_list m_PinThere X_PinThere XP b_PinThere_init m_SpotTaken X_SpotTaken XS b_SpotTaken_init m_TooMany q_TooMany
  have MPp : MtdOk l.prog w K mg base (CXr l.prog w) 5 C_Frame "put_pin" ["self", "name", "x", "y", "hold"] (spPutPinV l.prog w K mg base C_Frame C_PinThere C_SpotTaken C_TooMany) := ⟨_, _, cls_Frame, m_Frame_put_pin, okP, b_Frame_put_pin⟩
  have MPd : MtdOkD l.prog w K mg base (CXr l.prog w) 5 C_Frame "put_pin" ["self", "name", "x", "y", "hold"] [.none] (spPutPinV l.prog w K mg base C_Frame C_PinThere C_SpotTaken C_TooMany) := ⟨_, _, cls_Frame, m_Frame_put_pin, okP, bd_Frame_put_pin⟩
  have MTp : MtdOk l.prog w K mg base (CXr l.prog w) 4 C_Frame "take_pin" ["self", "name"] (spTakePinB K C_Frame C_NoPin C_PinBusy) := ⟨_, _, cls_Frame, m_Frame_take_pin, ok_Frame_take_pin F_Frame_take_pin fc MCp m_PinBusy X_PinBusy XU b_PinBusy_init, b_Frame_take_pin⟩
  have MPl : MtdOk l.prog w K mg base (CXr l.prog w) 4 C_Frame "place" ["self", "pin"] (spPlaceX K C_Frame C_NoPin) := ⟨_, _, cls_Frame, m_Frame_place, ok_Frame_place F_Frame_place fc MCp, b_Frame_place⟩
  have MWy : MtdOk l.prog w K mg base (CXr l.prog w) 4 C_Frame "ways" ["self", "pin"] (spWaysX K C_Frame C_NoPin) := ⟨_, _, cls_Frame, m_Frame_ways, ok_Frame_ways F_Frame_ways fc m_list MCp, b_Frame_ways⟩
  have wH : MtdOk l.prog w K mg base (CXr l.prog w) 1 C_Hold "ways" ["self"] (spHold K) := ⟨_, _, cls_Hold, m_Hold_ways, ok_Hold_ways F_Hold_ways, b_Hold_ways⟩
  have wR : MtdOk l.prog w K mg base (CXr l.prog w) 1 C_Roller "ways" ["self"] (spRWays K C_Roller) := ⟨_, _, cls_Roller, m_Roller_ways, ok_Roller_ways F_Roller_ways cls_Roller n_way, b_Roller_ways⟩
  have wF : MtdOk l.prog w K mg base (CXr l.prog w) 1 C_Fixed "ways" ["self"] (spFixed K) := ⟨_, _, cls_Fixed, m_Fixed_ways, ok_Fixed_ways F_Fixed_ways, b_Fixed_ways⟩
  have GRI := ok_Roller_init (P := l.prog) (w := w) (mg := mg) (base := base) F_Roller_init cls_Roller n_way
  have GC := ok_law_cell_at (P := l.prog) (w := w) (base := base) (CX := CXr l.prog w) D_law_cell_at m_len
  have GNa := ok_law_names (P := l.prog) (w := w) (base := base) (CX := CXr l.prog w) D_law_names m_range m_len
  have GLo := ok_law_lowest (P := l.prog) (w := w) (base := base) (CX := CXr l.prog w) D_law_lowest m_abs
  have GDr := ok_law_drawn (P := l.prog) (w := w) (base := base) D_law_drawn GLo
  have GA := ok_law_alone (P := l.prog) (w := w) (base := base) D_law_alone m_isinstance m_ValueError m_YardError m_PinThere m_SpotTaken m_NoPin m_PinBusy m_BarThere m_NoBar m_NoLength m_TooMany
  have GH := ok_law_hold D_law_hold m_Hold m_Roller m_Fixed M_Hold M_Fixed M_Roller GRI b_Roller_init (wH.mono (by decide)) (wR.mono (by decide)) (wF.mono (by decide))
  have GW := ok_law_ways (P := l.prog) (w := w) (base := base) D_law_ways
  have GPu := ok_law_put D_law_put m_PinThere m_SpotTaken ex xf_PinThere_pin xf_SpotTaken_pin al_p al_s GA GH MPp MPd
  have GTa := ok_law_taken D_law_taken m_NoPin ex xf_NoPin_pin al_n GA MTp
  have GPl := ok_law_place D_law_place m_NoPin ex xf_NoPin_pin al_n GA MPl
  have GHe := ok_law_held D_law_held m_NoPin ex xf_NoPin_pin al_n GA MWy
  have GDP := ok_law_due_put (P := l.prog) (w := w) (base := base) D_law_due_put
  have GAs := ok_law_asked D_law_asked m_isinstance m_list GHe GPl MPn
  exact ok_law F m_range m_all M_Frame m_Frame GI b_Frame_init GC GNa GDr MPd MPn MPl GDP GPu GW GTa GAs
end T_k12
open PySem PySem.W PyProof.Rows
set_option maxRecDepth 100000 in
set_option maxHeartbeats 0 in
theorem PySem.Challenge.cw_trussyard_k12_pins_put_and_taken_holds : PySem.Challenge.rw_trussyard_k12_pins_put_and_taken.Holds := by
  w_on; o_law; k_head; (case hw => w_witness2)
  k_fill
  refine Ty.walk (l := PySem.Challenge.rw_trussyard_k12_pins_put_and_taken) (x := "_law_script") (k := 10) (CX := fun w => Ty.CXr (PySem.Challenge.rw_trussyard_k12_pins_put_and_taken).prog w) rfl rfl (by first | rfl | decide +kernel) ⟨rfl, by decide, by decide⟩ (fun w h Y => PySem.W.kIn_of Y) (fun w => Ty.CXr.mute) ?F
  case F =>
    intro w mg fa h KX G hmg
    refine' T_k12.all_mk KX G hmg ?a_law_cell_at ?l_law_cell_at ?c_law_cell_at ?k_law_cell_at ?a_law_names ?l_law_names ?c_law_names ?k_law_names ?a_law_lowest ?l_law_lowest ?c_law_lowest ?k_law_lowest ?a_law_drawn ?l_law_drawn ?c_law_drawn ?k_law_drawn ?a_law_hold ?l_law_hold ?c_law_hold ?k_law_hold ?a_law_ways ?l_law_ways ?c_law_ways ?k_law_ways ?a_law_alone ?l_law_alone ?c_law_alone ?k_law_alone ?a_law_put ?l_law_put ?c_law_put ?k_law_put ?a_law_taken ?l_law_taken ?c_law_taken ?k_law_taken ?a_law_due_put ?l_law_due_put ?c_law_due_put ?k_law_due_put ?a_law_place ?l_law_place ?c_law_place ?k_law_place ?a_law_held ?l_law_held ?c_law_held ?k_law_held ?a_law_asked ?l_law_asked ?c_law_asked ?k_law_asked ?a_law ?l_law ?c_law ?k_law ?a_MOST_PINS ?z_ValueError ?z_abs ?z_all ?z_isinstance ?z_len ?z_list ?z_range ?a_YardError ?a_NoWay ?a_PinThere ?a_SpotTaken ?a_NoPin ?a_PinBusy ?a_BarThere ?a_NoBar ?a_NoLength ?a_TooMany ?a_Frame ?a_Hold ?a_Roller ?a_Fixed ?pg_Frame ?hd_Frame ?po_Frame ?sa_Frame ?mk_Frame ?kc_Frame ?a_Frame_init ?i_Frame_init ?l_Frame_init ?c_Frame_init ?k_Frame_init ?a_Frame_put_pin ?i_Frame_put_pin ?l_Frame_put_pin ?t_Frame_put_pin ?c_Frame_put_pin ?k_Frame_put_pin ?a_Frame_check_pin ?i_Frame_check_pin ?l_Frame_check_pin ?c_Frame_check_pin ?k_Frame_check_pin ?a_Frame_take_pin ?i_Frame_take_pin ?l_Frame_take_pin ?c_Frame_take_pin ?k_Frame_take_pin ?a_Frame_pins ?i_Frame_pins ?l_Frame_pins ?c_Frame_pins ?k_Frame_pins ?a_Frame_place ?i_Frame_place ?l_Frame_place ?c_Frame_place ?k_Frame_place ?a_Frame_ways ?i_Frame_ways ?l_Frame_ways ?c_Frame_ways ?k_Frame_ways ?pg_Hold ?hd_Hold ?po_Hold ?sa_Hold ?mk_Hold ?kc_Hold ?oi_Hold ?a_Hold_ways ?i_Hold_ways ?l_Hold_ways ?c_Hold_ways ?k_Hold_ways ?pg_Roller ?hd_Roller ?po_Roller ?sa_Roller ?mk_Roller ?kc_Roller ?a_Roller_init ?i_Roller_init ?l_Roller_init ?c_Roller_init ?k_Roller_init ?a_Roller_ways ?i_Roller_ways ?l_Roller_ways ?c_Roller_ways ?k_Roller_ways ?pg_Fixed ?hd_Fixed ?po_Fixed ?sa_Fixed ?mk_Fixed ?kc_Fixed ?oi_Fixed ?a_Fixed_ways ?i_Fixed_ways ?l_Fixed_ways ?c_Fixed_ways ?k_Fixed_ways ?o_PinThere ?tl_PinThere ?kp_PinThere ?ga_PinThere ?gt_PinThere ?cl_PinThere ?mo_PinThere ?mb_PinThere ?mv_PinThere ?is_PinThere ?sa_PinThere ?hx_PinThere ?ov_PinThere ?nf_PinThere_pin ?a_PinThere_init ?i_PinThere_init ?l_PinThere_init ?c_PinThere_init ?k_PinThere_init ?o_SpotTaken ?tl_SpotTaken ?kp_SpotTaken ?ga_SpotTaken ?gt_SpotTaken ?cl_SpotTaken ?mo_SpotTaken ?mb_SpotTaken ?mv_SpotTaken ?is_SpotTaken ?sa_SpotTaken ?hx_SpotTaken ?ov_SpotTaken ?nf_SpotTaken_pin ?a_SpotTaken_init ?i_SpotTaken_init ?l_SpotTaken_init ?c_SpotTaken_init ?k_SpotTaken_init ?o_NoPin ?tl_NoPin ?kp_NoPin ?ga_NoPin ?gt_NoPin ?cl_NoPin ?mo_NoPin ?mb_NoPin ?mv_NoPin ?is_NoPin ?sa_NoPin ?hx_NoPin ?ov_NoPin ?nf_NoPin_pin ?a_NoPin_init ?i_NoPin_init ?l_NoPin_init ?c_NoPin_init ?k_NoPin_init ?o_PinBusy ?tl_PinBusy ?kp_PinBusy ?ga_PinBusy ?gt_PinBusy ?cl_PinBusy ?mo_PinBusy ?mb_PinBusy ?mv_PinBusy ?is_PinBusy ?sa_PinBusy ?hx_PinBusy ?ov_PinBusy ?nf_PinBusy_pin ?nf_PinBusy_bar ?a_PinBusy_init ?i_PinBusy_init ?l_PinBusy_init ?c_PinBusy_init ?k_PinBusy_init ?n_places ?n_ways ?n_ends ?y_ga ?y_rd ?y_fi ?q_TooMany ?em_pp ?em_sp ?em_ss ?em_nn ?ki_pp ?ki_ps ?ki_pn ?ki_pu ?ki_pb ?ki_po ?ki_pl ?ki_pt ?ki_py ?ki_pv ?ki_sp ?ki_ss ?ki_sn ?ki_su ?ki_sb ?ki_so ?ki_sl ?ki_st ?ki_sy ?ki_sv ?ki_np ?ki_ns ?ki_nn ?ki_nu ?ki_nb ?ki_no ?ki_nl ?ki_nt ?ki_ny ?ki_nv ?n_way
    (case a_law_cell_at => k_is); (case l_law_cell_at => k_is); (case c_law_cell_at => k_is); (case k_law_cell_at => k_is); (case a_law_names => k_is); (case l_law_names => k_is); (case c_law_names => k_is); (case k_law_names => k_is); (case a_law_lowest => k_is); (case l_law_lowest => k_is); (case c_law_lowest => k_is); (case k_law_lowest => k_is); (case a_law_drawn => k_is); (case l_law_drawn => k_is); (case c_law_drawn => k_is); (case k_law_drawn => k_is); (case a_law_hold => k_is); (case l_law_hold => k_is); (case c_law_hold => k_is); (case k_law_hold => k_is); (case a_law_ways => k_is); (case l_law_ways => k_is); (case c_law_ways => k_is); (case k_law_ways => k_is); (case a_law_alone => k_is); (case l_law_alone => k_is); (case c_law_alone => k_is); (case k_law_alone => k_is); (case a_law_put => k_is); (case l_law_put => k_is); (case c_law_put => k_is); (case k_law_put => k_is); (case a_law_taken => k_is); (case l_law_taken => k_is); (case c_law_taken => k_is); (case k_law_taken => k_is); (case a_law_due_put => k_is); (case l_law_due_put => k_is); (case c_law_due_put => k_is); (case k_law_due_put => k_is); (case a_law_place => k_is); (case l_law_place => k_is); (case c_law_place => k_is); (case k_law_place => k_is); (case a_law_held => k_is); (case l_law_held => k_is); (case c_law_held => k_is); (case k_law_held => k_is); (case a_law_asked => k_is); (case l_law_asked => k_is); (case c_law_asked => k_is); (case k_law_asked => k_is); (case a_law => k_is); (case l_law => k_is); (case c_law => k_is); (case k_law => k_is); (case a_MOST_PINS => k_is); (case z_ValueError => k_is); (case z_abs => k_is); (case z_all => k_is); (case z_isinstance => k_is); (case z_len => k_is); (case z_list => k_is); (case z_range => k_is); (case a_YardError => k_is); (case a_NoWay => k_is); (case a_PinThere => k_is); (case a_SpotTaken => k_is); (case a_NoPin => k_is); (case a_PinBusy => k_is); (case a_BarThere => k_is); (case a_NoBar => k_is); (case a_NoLength => k_is); (case a_TooMany => k_is); (case a_Frame => k_is); (case a_Hold => k_is); (case a_Roller => k_is); (case a_Fixed => k_is); (case pg_Frame => k_is); (case hd_Frame => k_is); (case po_Frame => k_is); (case sa_Frame => k_is); (case mk_Frame => k_is); (case kc_Frame => k_is); (case a_Frame_init => k_is); (case i_Frame_init => k_is); (case l_Frame_init => k_is); (case c_Frame_init => k_is); (case k_Frame_init => k_is); (case a_Frame_put_pin => k_is); (case i_Frame_put_pin => k_is); (case l_Frame_put_pin => k_is); (case t_Frame_put_pin => k_is); (case c_Frame_put_pin => k_is); (case k_Frame_put_pin => k_is); (case a_Frame_check_pin => k_is); (case i_Frame_check_pin => k_is); (case l_Frame_check_pin => k_is); (case c_Frame_check_pin => k_is); (case k_Frame_check_pin => k_is); (case a_Frame_take_pin => k_is); (case i_Frame_take_pin => k_is); (case l_Frame_take_pin => k_is); (case c_Frame_take_pin => k_is); (case k_Frame_take_pin => k_is); (case a_Frame_pins => k_is); (case i_Frame_pins => k_is); (case l_Frame_pins => k_is); (case c_Frame_pins => k_is); (case k_Frame_pins => k_is); (case a_Frame_place => k_is); (case i_Frame_place => k_is); (case l_Frame_place => k_is); (case c_Frame_place => k_is); (case k_Frame_place => k_is); (case a_Frame_ways => k_is); (case i_Frame_ways => k_is); (case l_Frame_ways => k_is); (case c_Frame_ways => k_is); (case k_Frame_ways => k_is); (case pg_Hold => k_is); (case hd_Hold => k_is); (case po_Hold => k_is); (case sa_Hold => k_is); (case mk_Hold => k_is); (case kc_Hold => k_is); (case oi_Hold => k_is); (case a_Hold_ways => k_is); (case i_Hold_ways => k_is); (case l_Hold_ways => k_is); (case c_Hold_ways => k_is); (case k_Hold_ways => k_is); (case pg_Roller => k_is); (case hd_Roller => k_is); (case po_Roller => k_is); (case sa_Roller => k_is); (case mk_Roller => k_is); (case kc_Roller => k_is); (case a_Roller_init => k_is); (case i_Roller_init => k_is); (case l_Roller_init => k_is); (case c_Roller_init => k_is); (case k_Roller_init => k_is); (case a_Roller_ways => k_is); (case i_Roller_ways => k_is); (case l_Roller_ways => k_is); (case c_Roller_ways => k_is); (case k_Roller_ways => k_is); (case pg_Fixed => k_is); (case hd_Fixed => k_is); (case po_Fixed => k_is); (case sa_Fixed => k_is); (case mk_Fixed => k_is); (case kc_Fixed => k_is); (case oi_Fixed => k_is); (case a_Fixed_ways => k_is); (case i_Fixed_ways => k_is); (case l_Fixed_ways => k_is); (case c_Fixed_ways => k_is); (case k_Fixed_ways => k_is); (case o_PinThere => k_is); (case tl_PinThere => kernel_rfl); (case kp_PinThere => k_is); (case ga_PinThere => k_is); (case gt_PinThere => k_is); (case cl_PinThere => k_is); (case mo_PinThere => kernel_rfl); (case mb_PinThere => kernel_rfl); (case mv_PinThere => kernel_rfl); (case is_PinThere => kernel_rfl); (case sa_PinThere => k_is); (case hx_PinThere => k_is); (case ov_PinThere => kernel_rfl); (case nf_PinThere_pin => k_is); (case a_PinThere_init => k_is); (case i_PinThere_init => k_is); (case l_PinThere_init => k_is); (case c_PinThere_init => k_is); (case k_PinThere_init => k_is); (case o_SpotTaken => k_is); (case tl_SpotTaken => kernel_rfl); (case kp_SpotTaken => k_is); (case ga_SpotTaken => k_is); (case gt_SpotTaken => k_is); (case cl_SpotTaken => k_is); (case mo_SpotTaken => kernel_rfl); (case mb_SpotTaken => kernel_rfl); (case mv_SpotTaken => kernel_rfl); (case is_SpotTaken => kernel_rfl); (case sa_SpotTaken => k_is); (case hx_SpotTaken => k_is); (case ov_SpotTaken => kernel_rfl); (case nf_SpotTaken_pin => k_is); (case a_SpotTaken_init => k_is); (case i_SpotTaken_init => k_is); (case l_SpotTaken_init => k_is); (case c_SpotTaken_init => k_is); (case k_SpotTaken_init => k_is); (case o_NoPin => k_is); (case tl_NoPin => kernel_rfl); (case kp_NoPin => k_is); (case ga_NoPin => k_is); (case gt_NoPin => k_is); (case cl_NoPin => k_is); (case mo_NoPin => kernel_rfl); (case mb_NoPin => kernel_rfl); (case mv_NoPin => kernel_rfl); (case is_NoPin => kernel_rfl); (case sa_NoPin => k_is); (case hx_NoPin => k_is); (case ov_NoPin => kernel_rfl); (case nf_NoPin_pin => k_is); (case a_NoPin_init => k_is); (case i_NoPin_init => k_is); (case l_NoPin_init => k_is); (case c_NoPin_init => k_is); (case k_NoPin_init => k_is); (case o_PinBusy => k_is); (case tl_PinBusy => kernel_rfl); (case kp_PinBusy => k_is); (case ga_PinBusy => k_is); (case gt_PinBusy => k_is); (case cl_PinBusy => k_is); (case mo_PinBusy => kernel_rfl); (case mb_PinBusy => kernel_rfl); (case mv_PinBusy => kernel_rfl); (case is_PinBusy => kernel_rfl); (case sa_PinBusy => k_is); (case hx_PinBusy => k_is); (case ov_PinBusy => kernel_rfl); (case nf_PinBusy_pin => k_is); (case nf_PinBusy_bar => k_is); (case a_PinBusy_init => k_is); (case i_PinBusy_init => k_is); (case l_PinBusy_init => k_is); (case c_PinBusy_init => k_is); (case k_PinBusy_init => k_is); (case n_places => k_is); (case n_ways => k_is); (case n_ends => k_is); (case y_ga => k_is); (case y_rd => k_is); (case y_fi => kernel_rfl); (case q_TooMany => kernel_rfl); (case em_pp => kernel_rfl); (case em_sp => kernel_rfl); (case em_ss => kernel_rfl); (case em_nn => kernel_rfl); (case ki_pp => kernel_rfl); (case ki_ps => kernel_rfl); (case ki_pn => kernel_rfl); (case ki_pu => kernel_rfl); (case ki_pb => kernel_rfl); (case ki_po => kernel_rfl); (case ki_pl => kernel_rfl); (case ki_pt => kernel_rfl); (case ki_py => kernel_rfl); (case ki_pv => kernel_rfl); (case ki_sp => kernel_rfl); (case ki_ss => kernel_rfl); (case ki_sn => kernel_rfl); (case ki_su => kernel_rfl); (case ki_sb => kernel_rfl); (case ki_so => kernel_rfl); (case ki_sl => kernel_rfl); (case ki_st => kernel_rfl); (case ki_sy => kernel_rfl); (case ki_sv => kernel_rfl); (case ki_np => kernel_rfl); (case ki_ns => kernel_rfl); (case ki_nn => kernel_rfl); (case ki_nu => kernel_rfl); (case ki_nb => kernel_rfl); (case ki_no => kernel_rfl); (case ki_nl => kernel_rfl); (case ki_nt => kernel_rfl); (case ki_ny => kernel_rfl); (case ki_nv => kernel_rfl); (case n_way => k_is)
#print axioms PySem.Challenge.cw_trussyard_k12_pins_put_and_taken_holds


