import PyProof.Rows.All
import Wide.All
import OpenK.AllK
import Wide.FinOn
import Lean
import PyProof.EqAt
import PyProof.EqKinds
import PyProof.TupleCall
import PyProof.ZipIter
import PyProof.SumWalkG
import PyProof.ListCopy
import PyProof.ListStr
import PyProof.DictItems
import PyProof.DictWalks
import PyProof.DictTruth
import PyProof.EnumMake
import PyProof.Rows.SortWalk
import PyProof.ListRange
import PyProof.DictValues
import KE.KRevSl
import KE.KDictOf
import PyProof.DictIter
import PyProof.FactsAll.dict_1
import KE.KDictList
import KE.KItemsList
import PySem.Challenge.RW_trussyard_k16_lengthenings_slips_work
set_option Elab.async false
set_option linter.all false
set_option maxRecDepth 100000
def PySem.W.Fast.tw11262508861310557458 : Unit := ()
def PySem.W.Fast.tw1239075301796577815 : Unit := ()
def PySem.W.Fast.tw3852057289164425034 : Unit := ()
def PySem.W.Fast.tw2471607175040924228 : Unit := ()
def PySem.W.Fast.tw10890621645975621545 : Unit := ()
def PySem.W.Fast.tw14862695315423575445 : Unit := ()
def PySem.W.Fast.tw17123714600577396563 : Unit := ()
def PySem.W.Fast.tw16365924422365429672 : Unit := ()
def PySem.W.Fast.tw16391708342692398785 : Unit := ()
def PySem.W.Fast.tw17226279464155595012 : Unit := ()
def PySem.W.Fast.tw11988106600364730663 : Unit := ()
def PySem.W.Fast.tw2323556823256986753 : Unit := ()
def PySem.W.Fast.tw16038022131218549497 : Unit := ()
def PySem.W.Fast.tw10329713256876454209 : Unit := ()
def PySem.W.Fast.tw14137786036272870485 : Unit := ()
def PySem.W.Fast.tw10812133154757513939 : Unit := ()
def PySem.W.Fast.tw15746718048903972598 : Unit := ()
def PySem.W.Fast.tw2072477027420717649 : Unit := ()
def PySem.W.Fast.tw15737672775448427585 : Unit := ()
def PySem.W.Fast.tw18346888290365668781 : Unit := ()
def PySem.W.Fast.tw212676852016223284 : Unit := ()
def PySem.W.Fast.tw16070666462919665119 : Unit := ()
def PySem.W.Fast.tw9470438961245112340 : Unit := ()
def PySem.W.Fast.tw9505851768480398312 : Unit := ()
def PySem.W.Fast.tw3320747126606979445 : Unit := ()
def PySem.W.Fast.tw1756892015981260719 : Unit := ()
def PySem.W.Fast.tw1330158881023082566 : Unit := ()
def PySem.W.Fast.tw13009743906100553830 : Unit := ()
def PySem.W.Fast.tw13778860553819808398 : Unit := ()
def PySem.W.Fast.tw12270706647320631294 : Unit := ()
def PySem.W.Fast.tw10016497846979607423 : Unit := ()
def PySem.W.Fast.tw4795595885760127423 : Unit := ()
def PySem.W.Fast.tw6831589441737753715 : Unit := ()
def PySem.W.Fast.tw4237452772836399993 : Unit := ()
def PySem.W.Fast.tw6775504119335777876 : Unit := ()
def PySem.W.Fast.tw12505445131645512270 : Unit := ()
def PySem.W.Fast.tw3889825726456670851 : Unit := ()
def PySem.W.Fast.tw13740202528980323411 : Unit := ()
def PySem.W.Fast.tw7616864268461766806 : Unit := ()
def PySem.W.Fast.tw6334306769632867905 : Unit := ()
def PySem.W.Fast.tw17043674489131020888 : Unit := ()
def PySem.W.Fast.tw7839859556194122058 : Unit := ()
def PySem.W.Fast.tw10889572827551973265 : Unit := ()
def PySem.W.Fast.tw6134325657422420210 : Unit := ()
def PySem.W.Fast.tw8362476361016398432 : Unit := ()
def PySem.W.Fast.tw8906308362143598411 : Unit := ()
def PySem.W.Fast.tw15563725078872677695 : Unit := ()
def PySem.W.Fast.tw848485440729437375 : Unit := ()
def PySem.W.Fast.tw864952030650600979 : Unit := ()
def PySem.W.Fast.tw10507677586164155244 : Unit := ()
def PySem.W.Fast.tw599054893898640464 : Unit := ()
def PySem.W.Fast.tw16695137865519914695 : Unit := ()
def PySem.W.Fast.tw11971035832682887538 : Unit := ()
def PySem.W.Fast.tw17905144046066020501 : Unit := ()

namespace L2
open PySem PySem.Spec PyProof.Rows

abbrev Key := Sum Int Str
def keyIs : Key → Value → Bool
  | .inl k, v => Value.isInt k v
  | .inr x, v => Value.isStrOf x v
def keyH (w : World) : Key → Int
  | .inl k => hashInt k
  | .inr x => hashStr w x
theorem keyIs_shape : ∀ {k : Key} {v : Value}, keyIs k v = true → (∃ i t, k = Sum.inl i ∧ v = Value.int i t) ∨ (∃ x t, k = Sum.inr x ∧ v = Value.str x t)
  | .inl i, v, h => by
    obtain ⟨t, e⟩ := Value.isInt_shape (k := i) (v := v) h
    exact .inl ⟨i, t, rfl, e⟩
  | .inr x, v, h => by
    obtain ⟨t, e⟩ := Value.isStrOf_shape (x := x) (v := v) h
    exact .inr ⟨x, t, rfl, e⟩
theorem keyIs_int (i : Int) (t : Tok) : keyIs (.inl i) (.int i t) = true := by simp [keyIs, Value.isInt]
theorem keyIs_str (x : Str) (t : Tok) : keyIs (.inr x) (.str x t) = true := by simp [keyIs, Value.isStrOf]
theorem key_ll (a b : Int) : decide ((Sum.inl a : Key) = Sum.inl b) = (a == b) := by
  by_cases e : a = b
  · subst e; simp
  · have h : ¬ (Sum.inl a : Key) = Sum.inl b := fun q => e (Sum.inl.inj q)
    rw [decide_eq_false h]
    exact (beq_eq_false_iff_ne.mpr e).symm
theorem key_rr (a b : Str) : decide ((Sum.inr a : Key) = Sum.inr b) = decide (a = b) := by
  by_cases e : a = b
  · subst e; simp
  · have h : ¬ (Sum.inr a : Key) = Sum.inr b := fun q => e (Sum.inr.inj q)
    rw [decide_eq_false h, decide_eq_false e]
theorem key_lr (a : Int) (b : Str) : decide ((Sum.inl a : Key) = Sum.inr b) = false := decide_eq_false (fun q => nomatch q)
theorem key_rl (a : Str) (b : Int) : decide ((Sum.inr a : Key) = Sum.inl b) = false := decide_eq_false (fun q => nomatch q)

def mixKind (prog : Program) (w : World) : PySem.KeyKind prog w Key where
  is := keyIs
  hash := keyH w
  inj := fun v a b ha hb => by
    rcases keyIs_shape ha with ⟨i, t, rfl, rfl⟩ | ⟨x, t, rfl, rfl⟩
    · rcases keyIs_shape hb with ⟨j, u, rfl, e⟩ | ⟨y, u, rfl, e⟩
      · injection e with e1 _; rw [e1]
      · exact nomatch e
    · rcases keyIs_shape hb with ⟨j, u, rfl, e⟩ | ⟨y, u, rfl, e⟩
      · exact nomatch e
      · injection e with e1 _; rw [e1]
  byValue := fun k v h => by
    rcases keyIs_shape h with ⟨i, t, rfl, rfl⟩ | ⟨x, t, rfl, rfl⟩ <;> rfl
  pyHash := fun hv h => by
    rcases keyIs_shape hv with ⟨i, t, rfl, rfl⟩ | ⟨x, t, rfl, rfl⟩
    · exact wpAny_pyHash_int h
    · exact wpAny_pyHash_str h
  eqBool := fun hu hv h => by
    rcases keyIs_shape hu with ⟨i, t, rfl, rfl⟩ | ⟨x, t, rfl, rfl⟩
    · rcases keyIs_shape hv with ⟨j, u, rfl, rfl⟩ | ⟨y, u, rfl, rfl⟩
      · rw [key_ll] at h; exact wpAny_eqBool_int h
      · rw [key_lr] at h; exact SeqAt.EqAt.int_str i t y u _ _ _ _ h
    · rcases keyIs_shape hv with ⟨j, u, rfl, rfl⟩ | ⟨y, u, rfl, rfl⟩
      · rw [key_rl] at h; exact SeqAt.EqAt.str_int x t j u _ _ _ _ h
      · rw [key_rr] at h; exact wpAny_eqBool_str h
  «strs» := fun k x t v h => by
    rcases keyIs_shape h with ⟨i, u, rfl, e⟩ | ⟨y, u, rfl, e⟩
    · exact nomatch e
    · injection e with e1 _
      subst e1
      cases v <;> rfl

theorem mixKind_int (prog : Program) (w : World) (i : Int) (t : Tok) : (mixKind prog w).is (.inl i) (.int i t) = true := keyIs_int i t
theorem mixKind_str (prog : Program) (w : World) (x : Str) (t : Tok) : (mixKind prog w).is (.inr x) (.str x t) = true := keyIs_str x t
end L2

namespace L2
open PySem PySem.Spec PyProof.Rows

inductive V where
  | non | bl (b : Bool) | int (i : Int) | str (x : Str) | byt (b : Array UInt8) | flt (b : UInt64) | ref (a : Addr) | ty (n : String)
  deriving DecidableEq

def RelV : V → Value → Prop
  | .non, u => u = Value.none
  | .bl b, u => u = Value.bool b
  | .int i, u => ∃ t, u = Value.int i t
  | .str x, u => ∃ t, u = Value.str x t
  | .byt b, u => ∃ t, u = Value.bytes b t
  | .flt b, u => ∃ t, u = Value.float b t
  | .ref a, u => u = Value.ref a
  | .ty n, u => u = Value.type n

abbrev Vals : List V → List Value → Prop := Paired RelV
theorem Vals.length {xs : List V} {us : List Value} (r : Vals xs us) : xs.length = us.length := Paired.length r
theorem Vals.get : ∀ {xs : List V} {us : List Value} {i : Nat} {x : V}, Vals xs us → xs[i]? = some x → ∃ u, us[i]? = some u ∧ RelV x u
  | _, _, _, _, .nil, e => by simp at e
  | _, _, 0, _, .cons r _, e => by simp at e; subst e; exact ⟨_, rfl, r⟩
  | _, _, i + 1, x, .cons _ t, e => by
    obtain ⟨u, h1, h2⟩ := Vals.get (i := i) (x := x) t (by simpa using e)
    exact ⟨u, by simpa using h1, h2⟩
theorem Vals.set {x : V} {u : Value} (r : RelV x u) : ∀ {xs : List V} {us : List Value} (i : Nat), Vals xs us → Vals (xs.set i x) (us.set i u)
  | _, _, _, .nil => .nil
  | _, _, 0, .cons _ t => .cons r t
  | _, _, i + 1, .cons q t => .cons q (Vals.set r i t)
theorem Vals.append : ∀ {xs ys : List V} {us ws : List Value}, Vals xs us → Vals ys ws → Vals (xs ++ ys) (us ++ ws)
  | _, _, _, _, .nil, s => s
  | _, _, _, _, .cons r t, s => .cons r (Vals.append t s)
theorem Vals.take : ∀ {xs : List V} {us : List Value} (n : Nat), Vals xs us → Vals (xs.take n) (us.take n)
  | _, _, 0, _ => .nil
  | _, _, _ + 1, .nil => .nil
  | _, _, n + 1, .cons r t => .cons r (Vals.take n t)
theorem Vals.drop : ∀ {xs : List V} {us : List Value} (n : Nat), Vals xs us → Vals (xs.drop n) (us.drop n)
  | _, _, 0, r => r
  | _, _, _ + 1, .nil => .nil
  | _, _, n + 1, .cons _ t => Vals.drop n t
theorem Vals.none_of : ∀ {xs : List V} {us : List Value} {i : Nat}, Vals xs us → xs[i]? = none → us[i]? = none := fun {xs us i} r e => by
  have h1 := r.length
  have h2 : xs.length ≤ i := List.getElem?_eq_none_iff.mp e
  exact List.getElem?_eq_none_iff.mpr (by omega)

def RelO : Option V → Option Value → Prop
  | some v, some u => RelV v u
  | none, none => True
  | _, _ => False
def KV {κ : Type} : List (κ × V) → List (κ × Value) → Prop := Paired fun (p : κ × V) (q : κ × Value) => p.1 = q.1 ∧ RelV p.2 q.2

def kV : Key → V
  | .inl i => .int i
  | .inr x => .str x

inductive HO where
  /-- a list -/
  | lst (xs : List V)
  /-- a tuple (never changes) -/
  | tup (xs : List V)
  /-- a dict whose keys are ints and texts; one whose keys are tuples of ints and texts (the empty one is both) -/
  | dK (kvs : List (Key × V)) | dT (kvs : List (List Key × V))
  /-- a set of ints: its members, its size -/
  | set (S : Int → Bool) (n : Nat)
  /-- an instance of the class at C, its dict at dx, its attributes -/
  | ins (C dx : Addr) (fs : List (Str × V))
  /-- the dict of the instance at x -/
  | own (x : Addr)
  /-- the dict of an exception -/
  | xd (fs : List (Str × V))
  /-- a bound method, f of x -/
  | met (f x : Addr)
  /-- a range object lo, lo + 1, .. below hi -/
  | rng (lo hi : Int)
  /-- a thing that is known to the object (the script; a dict while a loop walks it): read, never written while it is so -/
  | frz (o : Obj) (u : HO)
  /-- a code object's table -/
  | tbl (ps : Array Value)
  /-- any other thing, by what is true of its one object (a def of one's own: SetO a S n := HO.ext fun h => ..) -/
  | ext (φ : Heap → Prop)

abbrev Hp := Addr → Option HO
def upd (H : Hp) (a : Addr) (o : HO) : Hp := fun b => if b = a then some o else H b
theorem upd_same {H : Hp} {a : Addr} {o : HO} : upd H a o a = some o := by unfold upd; rw [if_pos rfl]
theorem upd_ne {H : Hp} {a b : Addr} {o : HO} (h : b ≠ a) : upd H a o b = H b := by unfold upd; rw [if_neg h]
theorem ne_of {H : Hp} {a b : Addr} {o u : HO} (h : H a = some o) (h' : H b = some u) (d : o ≠ u) : a ≠ b := by
  intro e; subst e; rw [h] at h'; exact d (Option.some.inj h')
theorem ne_of_none {H : Hp} {a b : Addr} {o : HO} (h : H a = some o) (h' : H b = none) : a ≠ b := by
  intro e; subst e; rw [h] at h'; cases h'

section
variable (P : Program) (w : World)
def ObjOk (H : Hp) (h : Heap) (a : Addr) : HO → Prop
  | .lst xs => xs.length ≤ sizeLine ∧ ∃ (its : List Value) (n : Nat), Vals xs its ∧ h.get? a = some { cls := .type "list", data := .seq its.toArray n }
  | .tup xs => xs.length ≤ sizeLine ∧ ∃ its : List Value, Vals xs its ∧ IsTup h a its.toArray
  | .dK kvs => kvs.length ≤ sizeLine ∧ (a == sysModules) = false ∧ ∃ vs, KV kvs vs ∧ h.DictOf (mixKind P w) a vs
  | .dT kvs => kvs.length ≤ sizeLine ∧ (a == sysModules) = false ∧ ∃ xs : List (List Key × Addr × Value),
      Paired (fun (p : List Key × V) (q : List Key × Addr × Value) => p.1 = q.1 ∧ H q.2.1 = some (.tup (p.1.map kV)) ∧ RelV p.2 q.2.2) kvs xs ∧
      ∃ o es ep, h.get? a = some o ∧ o.ExactDict ∧ o.data = .dict es ep ∧ es.toList = xs.map (entryOfKey (tupleKind (mixKind P w))) ∧ (xs.map (·.1)).Nodup
  | .set S n => h.SetOf (intKind P w) a S n
  | .ins C dx fs => H dx = some (.own a) ∧ fs.length ≤ 1000 ∧ dx ≠ a ∧ h.get? a = some (PySem.W.instObj C dx) ∧
      ∃ mA, h.Ns1 dx mA ∧ (∀ f, RelO (fs.lookup f) (mA f)) ∧ PySem.Within mA (fs.map (·.1))
  | .own _ => ∃ o, h.get? a = some o
  | .xd fs => ∃ mA, h.Ns1 a mA ∧ ∀ f, RelO (fs.lookup f) (mA f)
  | .rng lo hi => ∃ t u v, h.get? a = some { cls := .type "range", data := .fields #[.int lo t, .int hi u, .int 1 v] }
  | .frz o u => h.get? a = some o ∧ ObjOk H h a u
  | .tbl ps => h.get? a = some { cls := .none, data := .fields ps }
  | .met f x => h.get? a = some (PySem.W.methodObj (.ref f) (.ref x))
  | .ext φ => φ h ∧ (∃ o, h.get? a = some o) ∧ ∀ h1 h2 : Heap, φ h1 → (∀ o, h1.get? a = some o → h2.get? a = some o) → φ h2
def HOk (H : Hp) (h : Heap) : Prop := ∀ a o, H a = some o → ObjOk P w H h a o
end

section
variable {P : Program} {w : World} {H H' : Hp} {h h' : Heap} {a : Addr} {o : HO}
theorem ObjOk.lt (x : ObjOk P w H h a o) : a < h.objs.size := by
  cases o with
  | lst xs => obtain ⟨_, _, _, _, e⟩ := x; exact Heap.lt_size e
  | tup xs => obtain ⟨_, _, _, p⟩ := x; exact p.lt
  | dK kvs => obtain ⟨_, _, _, _, o, _, _, e, _⟩ := x; exact Heap.lt_size e
  | dT kvs => obtain ⟨_, _, _, _, o, _, _, e, _⟩ := x; exact Heap.lt_size e
  | set S n => obtain ⟨o, _, _, _, e, _⟩ := x; exact Heap.lt_size e
  | ins C dx fs => obtain ⟨_, _, _, e, _⟩ := x; exact Heap.lt_size e
  | own y => obtain ⟨_, e⟩ := x; exact Heap.lt_size e
  | xd fs => obtain ⟨_, ⟨_, _, _, e, _⟩, _⟩ := x; exact Heap.lt_size e
  | rng lo hi => obtain ⟨_, _, _, e⟩ := x; exact Heap.lt_size e
  | frz ob u => obtain ⟨e, _⟩ := x; exact Heap.lt_size e
  | tbl ps => exact Heap.lt_size (show h.get? a = some _ from x)
  | met f y => exact Heap.lt_size (show h.get? a = some _ from x)
  | ext φ => obtain ⟨_, ⟨_, e⟩, _⟩ := x; exact Heap.lt_size e
theorem Paired.mapP {α β : Type} {F G : α → β → Prop} : ∀ {l₁ : List α} {l₂ : List β}, Paired F l₁ l₂ → (∀ a b, F a b → G a b) → Paired G l₁ l₂
  | _, _, .nil, _ => .nil
  | _, _, .cons r t, f => .cons (f _ _ r) (Paired.mapP t f)
theorem ObjOk.stay (x : ObjOk P w H h a o) (k : ∀ b u, (b = a ∨ H b = some (.own a)) → h.get? b = some u → h'.get? b = some u)
    (ho : ∀ b, H b = some (.own a) → H' b = some (.own a)) (ht : ∀ b xs, H b = some (.tup xs) → H' b = some (.tup xs)) : ObjOk P w H' h' a o := by
  induction o with
  | lst xs => obtain ⟨z, its, n, r, e⟩ := x; exact ⟨z, its, n, r, k _ _ (.inl rfl) e⟩
  | tup xs => obtain ⟨z, its, r, ob, e, c⟩ := x; exact ⟨z, its, r, ob, k _ _ (.inl rfl) e, c⟩
  | dK kvs => obtain ⟨z, y, vs, r, ob, es, ep, e, c⟩ := x; exact ⟨z, y, vs, r, ob, es, ep, k _ _ (.inl rfl) e, c⟩
  | dT kvs =>
    obtain ⟨z, y, xs, r, ob, es, ep, e, c⟩ := x
    exact ⟨z, y, xs, Paired.mapP r fun p q z => ⟨z.1, ht _ _ z.2.1, z.2.2⟩, ob, es, ep, k _ _ (.inl rfl) e, c⟩
  | set S n => obtain ⟨ob, es, ep, t, e, c⟩ := x; exact ⟨ob, es, ep, t, k _ _ (.inl rfl) e, c⟩
  | ins C dx fs =>
    obtain ⟨d, z, ne, e, mA, ⟨od, es, ep, e2, c⟩, r⟩ := x
    exact ⟨ho _ d, z, ne, k _ _ (.inl rfl) e, mA, ⟨od, es, ep, k _ _ (.inr d) e2, c⟩, r⟩
  | own y => obtain ⟨ob, e⟩ := x; exact ⟨ob, k _ _ (.inl rfl) e⟩
  | xd fs => obtain ⟨mA, ⟨od, es, ep, e, c⟩, r⟩ := x; exact ⟨mA, ⟨od, es, ep, k _ _ (.inl rfl) e, c⟩, r⟩
  | rng lo hi => obtain ⟨t, u, v, e⟩ := x; exact ⟨t, u, v, k _ _ (.inl rfl) e⟩
  | frz ob u ih => obtain ⟨e, q⟩ := x; exact ⟨k _ _ (.inl rfl) e, ih q⟩
  | tbl ps =>
    have e : h.get? a = some { cls := .none, data := .fields ps } := x
    show h'.get? a = some { cls := .none, data := .fields ps }
    exact k a _ (.inl rfl) e
  | met f y =>
    have e : h.get? a = some (PySem.W.methodObj (.ref f) (.ref y)) := x
    show h'.get? a = some (PySem.W.methodObj (.ref f) (.ref y))
    exact k a _ (.inl rfl) e
  | ext φ => obtain ⟨p, ⟨o, e⟩, st⟩ := x; exact ⟨st _ _ p fun o q => k _ _ (.inl rfl) q, ⟨o, k _ _ (.inl rfl) e⟩, st⟩
theorem HOk.lt (x : HOk P w H h) (e : H a = some o) : a < h.objs.size := (x a o e).lt
theorem HOk.fresh (x : HOk P w H h) (e : h.objs.size ≤ a) : H a = none := by
  cases q : H a with
  | none => rfl
  | some u => exact absurd (Nat.lt_of_lt_of_le (x.lt q) e) (Nat.lt_irrefl _)
theorem HOk.kept (x : HOk P w H h) (k : ∀ b u, h.get? b = some u → h'.get? b = some u) : HOk P w H h' := fun a o e =>
  (x a o e).stay (fun b u _ q => k b u q) (fun _ q => q) fun _ _ q => q
theorem HOk.laid (x : HOk P w H h) (k : ∀ b u, h.get? b = some u → h'.get? b = some u) (hp : h.objs.size ≤ a) (new : ObjOk P w (upd H a o) h' a o) : HOk P w (upd H a o) h' := fun b u e => by
  have hn := x.fresh hp
  by_cases hb : b = a
  · subst hb; rw [upd_same] at e; cases e; exact new
  · rw [upd_ne hb] at e
    exact (x b u e).stay (fun c v _ q => k c v q) (fun c q => by rw [upd_ne (ne_of_none q hn)]; exact q) fun c xs q => by rw [upd_ne (ne_of_none q hn)]; exact q
end

def Rd (H : Hp) (a : Addr) (u : HO) : Prop := H a = some u ∨ ∃ o, H a = some (.frz o u)
theorem Rd.of {H : Hp} {a : Addr} {u : HO} (h : H a = some u) : Rd H a u := .inl h
theorem Rd.ok {P : Program} {w : World} {H : Hp} {h : Heap} {a : Addr} {u : HO} (r : Rd H a u) (x : HOk P w H h) : ObjOk P w H h a u := by
  rcases r with r | ⟨o, r⟩
  · exact x a u r
  · obtain ⟨_, q⟩ := x a _ r
    exact q
def Mut : Option HO → Prop
  | some (.lst _) => True
  | some (.dK _) => True
  | some (.dT _) => True
  | some (.set _ _) => True
  | some (.ins _ _ _) => True
  | some (.ext _) => True
  | _ => False
section
variable {P : Program} {w : World} {H : Hp} {h h' : Heap} {x e : Addr} {o' : HO}
theorem HOk.write (ok : HOk P w H h) (mu : Mut (H x)) (he : e = x ∨ H e = some (.own x)) (k : ∀ b u, b ≠ e → h.get? b = some u → h'.get? b = some u) (heo : ∃ u, h'.get? e = some u)
    (new : ObjOk P w (upd H x o') h' x o') : HOk P w (upd H x o') h' := fun b u q => by
  have nown : ∀ c y, H c = some (.own y) → c ≠ x := fun c y r z => by subst z; rw [r] at mu; exact mu
  have ntup : ∀ c xs, H c = some (.tup xs) → c ≠ x := fun c xs r z => by subst z; rw [r] at mu; exact mu
  by_cases hb : b = x
  · subst hb; rw [upd_same] at q; cases q; exact new
  · rw [upd_ne hb] at q
    by_cases hbe : b = e
    · have q' : H b = some (.own x) := by
        rcases he with z | z
        · exact absurd (hbe.trans z) hb
        · rw [hbe]; exact z
      rw [q] at q'; cases q'
      obtain ⟨v, hv⟩ := heo
      exact ⟨v, by rw [hbe]; exact hv⟩
    · refine (ok b u q).stay (fun c v hc r => k c v ?_ r) (fun c r => by rw [upd_ne (nown c b r)]; exact r) fun c xs r => by rw [upd_ne (ntup c xs r)]; exact r
      rcases hc with rfl | hc
      · exact hbe
      · rintro rfl
        rcases he with z | z
        · exact nown c b hc z
        · rw [hc] at z; cases z; exact hb rfl
end

structure Un (fs ex : List Addr) (H H' : Hp) (h h' : Heap) : Prop where
  keep : ∀ b o, h.get? b = some o → H b = none → b ∉ fs → b ∉ ex → h'.get? b = some o
  slot : ∀ b o, h.get? b = some o → H b = none → b ∈ fs → b ∉ ex → ∃ sl, h'.get? b = some { o with slots := sl }
  free : ∀ b o, h.get? b = some o → H b = none → b ∉ ex → H' b = none
  there : ∀ b o, h.get? b = some o → b ∉ ex → ∃ o', h'.get? b = some o'
  tups : ∀ b xs, H b = some (.tup xs) → H' b = some (.tup xs)
  frzs : ∀ b o u, H b = some (.frz o u) → H' b = some (.frz o u)
  tbls : ∀ b ps, H b = some (.tbl ps) → ∃ more, H' b = some (.tbl (ps ++ more))
section
variable {fs fs' ex ex' : List Addr} {H H1 H2 : Hp} {h h1 h2 h' : Heap} {a x e : Addr} {o : HO}
theorem Un.any (u : Un fs ex H H1 h h1) {b : Addr} {ob : Obj} (q : h.get? b = some ob) (n : H b = none) (hx : b ∉ ex) : ∃ sl, h1.get? b = some { ob with slots := sl } := by
  by_cases hb : b ∈ fs
  · exact u.slot b ob q n hb hx
  · exact ⟨ob.slots, u.keep b ob q n hb hx⟩
theorem Un.trans (a : Un fs ex H H1 h h1) (b : Un fs ex H1 H2 h1 h2) : Un fs ex H H2 h h2 where
  keep := fun c ob q n hc hx => b.keep c ob (a.keep c ob q n hc hx) (a.free c ob q n hx) hc hx
  slot := fun c ob q n hc hx => by
    obtain ⟨sl, e1⟩ := a.slot c ob q n hc hx
    obtain ⟨sl', e2⟩ := b.slot c _ e1 (a.free c ob q n hx) hc hx
    exact ⟨sl', e2⟩
  free := fun c ob q n hx => by
    obtain ⟨o', e1⟩ := a.there c ob q hx
    exact b.free c o' e1 (a.free c ob q n hx) hx
  there := fun c ob q hx => by
    obtain ⟨o', e1⟩ := a.there c ob q hx
    exact b.there c o' e1 hx
  tups := fun c xs q => b.tups c xs (a.tups c xs q)
  frzs := fun c ob xs q => b.frzs c ob xs (a.frzs c ob xs q)
  tbls := fun c ps q => by
    obtain ⟨m1, e1⟩ := a.tbls c ps q
    obtain ⟨m2, e2⟩ := b.tbls c _ e1
    exact ⟨m1 ++ m2, by rw [e2, Array.append_assoc]⟩
theorem Un.kept (k : ∀ b u, h.get? b = some u → h'.get? b = some u) : Un fs ex H H h h' :=
  ⟨fun b ob q _ _ _ => k b ob q, fun b ob q _ _ _ => ⟨ob.slots, k b ob q⟩, fun _ _ _ n _ => n, fun b ob q _ => ⟨ob, k b ob q⟩, fun _ _ q => q, fun _ _ _ q => q, fun _ ps q => ⟨#[], by rw [q]; simp⟩⟩
theorem Un.refl : Un fs ex H H h h := Un.kept fun _ _ q => q
theorem Un.laid (k : ∀ b u, h.get? b = some u → h'.get? b = some u) (hp : h.objs.size ≤ a) (hn : H a = none) : Un fs ex H (upd H a o) h h' where
  keep := fun b u q _ _ _ => k b u q
  slot := fun b u q _ _ _ => ⟨u.slots, k b u q⟩
  free := fun b u q n _ => by rw [upd_ne (Nat.ne_of_lt (Nat.lt_of_lt_of_le (Heap.lt_size q) hp))]; exact n
  there := fun b u q _ => ⟨u, k b u q⟩
  tups := fun b xs q => by rw [upd_ne (ne_of_none q hn)]; exact q
  frzs := fun b u xs q => by rw [upd_ne (ne_of_none q hn)]; exact q
  tbls := fun b ps q => ⟨#[], by rw [upd_ne (ne_of_none q hn), q]; simp⟩
theorem Un.write (mu : Mut (H x)) (he : e = x ∨ H e = some (.own x)) (k : ∀ b u, b ≠ e → h.get? b = some u → h'.get? b = some u) (heo : ∃ u, h'.get? e = some u) : Un fs ex H (upd H x o) h h' := by
  have hx : ∀ b, H b = none → b ≠ x := fun b n z => by subst z; rw [n] at mu; exact mu
  have hb : ∀ b, H b = none → b ≠ e := fun b n z => by
    subst z
    rcases he with r | r
    · exact hx b n r
    · rw [n] at r; cases r
  have hm : ∀ b u, H b = some u → ¬ Mut (some u) → b ≠ x := fun b u q nm z => by subst z; rw [q] at mu; exact nm mu
  refine ⟨fun b u q n _ _ => k b u (hb b n) q, fun b u q n _ _ => ⟨u.slots, k b u (hb b n) q⟩, fun b u q n _ => by rw [upd_ne (hx b n)]; exact n, fun b u q _ => ?_,
    fun b xs q => by rw [upd_ne (hm b _ q fun z => z)]; exact q, fun b u xs q => by rw [upd_ne (hm b _ q fun z => z)]; exact q, fun b ps q => ⟨#[], by rw [upd_ne (hm b _ q fun z => z), q]; simp⟩⟩
  by_cases hbe : b = e
  · subst hbe; exact heo
  · exact ⟨u, k b u hbe q⟩
theorem Un.mono (u : Un fs ex H H1 h h1) (hs : ∀ b ∈ fs, b ∈ fs') (hx : ∀ b ∈ ex, b ∈ ex') : Un fs' ex' H H1 h h1 :=
  ⟨fun b ob q n hb he => u.keep b ob q n (fun z => hb (hs b z)) fun z => he (hx b z), fun _ _ q n _ he => u.any q n fun z => he (hx _ z), fun b ob q n he => u.free b ob q n fun z => he (hx b z), fun b ob q he => u.there b ob q fun z => he (hx b z), u.tups, u.frzs, u.tbls⟩
end

def trk (h : Heap) (H : Hp) : List Addr := (List.range h.objs.size).filter fun a => (H a).isSome
def hidT (h : Heap) (H : Hp) : Heap := PySem.W.hideAll h (trk h H)
theorem hidT_size (h : Heap) (H : Hp) : (hidT h H).objs.size = h.objs.size := PySem.W.hideAll_size _ _
theorem hidT_get {h : Heap} {H : Hp} {b : Addr} {o : Obj} (e : h.get? b = some o) (n : H b = none) : (hidT h H).get? b = some o :=
  PySem.W.hideAll_get _ e fun hm => by
    have q : (H b).isSome = true := (List.mem_filter.mp hm).2
    rw [n] at q; simp at q
theorem of_hidT {h : Heap} {H : Hp} {b : Addr} {o : Obj} (e : (hidT h H).get? b = some o) : h.get? b = some o ∧ H b = none := by
  have e' : h.get? b = some o := PySem.W.of_hideAll (trk h H) e
  refine ⟨e', ?_⟩
  cases q : H b with
  | none => rfl
  | some x =>
    have hm : b ∈ trk h H := List.mem_filter.mpr ⟨List.mem_range.mpr (Heap.lt_size e'), by simp [q]⟩
    have z : (hidT h H).get? b = none := PySem.W.hideAll_none (trk h H) hm
    rw [z] at e; cases e

def allNews (g h : Heap) (L : Addr) : List (Addr × Obj) := (List.range h.objs.size).filterMap fun a => if a = L ∨ (g.get? a).isSome = true then none else (h.get? a).map fun o => (a, o)
def rest (g h : Heap) (L d : Addr) : List (Addr × Obj) := (allNews g h L).filter fun p => decide (p.1 ≠ d)
end L2

namespace L2
open PySem PySem.Spec PyProof.Rows

structure Mod (K : PySem.W.Frag) (mg : Str → Option Value) (base : Heap) : Prop where
  kin : K.In base
  glob : base.Ns mainGlobals mg
  blt : ∃ mb, base.Ns builtinsNs mb ∧ ∀ x : Str, x ≠ "__name__" → mb x = bootBuiltins x
  nolimit : base.NoLimit
  seer : base.NoSeer

structure Cx where
  prog : Program
  w : World
  K : PySem.W.Frag
  mg : Str → Option Value
  base : Heap
  A : Around
  N : List Str
  s₀ : Shared
  H₀ : Hp
  env : Env
  outer : List Env
  stack : List Env
  ex : List Addr
  fn : Str → Bool
  calm : Bool
  pn : List (Addr × Obj)
  xe : Value → Shared → Prop
def frs (l : List Env) : List Addr := l.filterMap (·.frame)
abbrev Cx.fs (X : Cx) : List Addr := frs X.outer

def Vis (sc : Scope) (x : Str) : Prop := sc.names.lookup x = some .local ∨ sc.names.lookup x = some .cell ∨ sc.names.lookup x = some .free
def Loc (sc : Scope) (x : Str) : Prop := sc.names.lookup x = some .local ∨ sc.names.lookup x = some .cell
def Look (env : Env) (h : Heap) (m : Str → Option Value) (x : Str) (u : Value) : Prop :=
  (env.kindOf x = some .local ∧ m x = some u) ∨ ((env.kindOf x = some .cell ∨ env.kindOf x = some .free) ∧ ∃ c, env.cells.lookup x = some c ∧ h.IsCell c (some u))

structure Cx.Ok (X : Cx) : Prop where
  mod : Mod X.K X.mg X.base
  kind : X.env.scope.kind = .function
  glob : X.env.globals = mainGlobals
  blt : X.env.builtins = builtinsNs
  above : X.s₀.heap.objs.size ≤ X.env.locals
  inj : ∀ x y c, X.env.cells.lookup x = some c → X.env.cells.lookup y = some c → x = y
  has : ∀ x, (X.env.kindOf x = some .cell ∨ X.env.kindOf x = some .free) → ∃ c, X.env.cells.lookup x = some c
  cab : ∀ x c, X.fn x = true → X.env.cells.lookup x = some c → X.s₀.heap.objs.size ≤ c
  hd : X.calm = true → X.A.handled = none
  frames : X.A.frames = some X.stack
  stk : X.stack = X.outer ∨ (X.stack = X.env :: X.outer ∧ X.env.frame = some X.env.locals)
  exf : ∀ b ∈ X.ex, b ≠ X.env.locals ∧ ∀ x c, X.env.cells.lookup x = some c → c ≠ b
  bs : ∀ b o, X.base.get? b = some o → X.s₀.heap.get? b = some o ∧ X.H₀ b = none
  bsz : X.base.objs.size ≤ X.s₀.heap.objs.size
  noex : ∀ b o, X.base.get? b = some o → b ∉ X.ex
  exfs : ∀ b ∈ X.ex, b ∉ X.fs
  funs : X.s₀.heap.FunFrames X.base X.outer
  frf : ∀ b ∈ X.fs, X.H₀ b = none

structure Inv (X : Cx) (pins : List (Addr × Obj)) (σ : List (Option V)) (H : Hp) (s : Shared) : Prop where
  ok : X.Ok
  os : s.os = X.s₀.os
  bare : AllBare s.gens
  base : Un X.fs X.ex X.H₀ H X.s₀.heap s.heap
  loc : ∃ m, s.heap.Ns X.env.locals m ∧ ∀ (i : Nat) (x : Str) (v : V), X.N[i]? = some x → σ[i]? = some (some v) → Vis X.env.scope x → ∃ u, RelV v u ∧ Look X.env s.heap m x u
  cell : ∀ x c, X.env.cells.lookup x = some c → ∃ v, s.heap.IsCell c v
  free : H X.env.locals = none
  freeC : ∀ x c, X.env.cells.lookup x = some c → H c = none
  pin : ∀ p ∈ X.pn ++ pins, s.heap.get? p.1 = some p.2 ∧ H p.1 = none ∧ p.1 ≠ X.env.locals ∧ p.1 ∉ X.fs ∧ ∀ v, p.2.data ≠ .cell v
  hok : HOk X.prog X.w H s.heap
  len : σ.length = X.N.length

section
variable {X : Cx} {pins : List (Addr × Obj)} {σ : List (Option V)} {H H' : Hp} {s : Shared} {h' : Heap}

theorem Cx.Ok.nofr (ok : X.Ok) {b : Addr} {o : Obj} (e : X.base.get? b = some o) : b ∉ X.fs := fun hb => by
  have := (ok.funs.mem hb).1
  rw [e] at this; cases this
theorem Inv.bs (I : Inv X pins σ H s) : ∀ b o, X.base.get? b = some o → s.heap.get? b = some o ∧ H b = none := fun b o e =>
  ⟨I.base.keep b o (I.ok.bs b o e).1 (I.ok.bs b o e).2 (I.ok.nofr e) (I.ok.noex b o e), I.base.free b o (I.ok.bs b o e).1 (I.ok.bs b o e).2 (I.ok.noex b o e)⟩
theorem Inv.bk (I : Inv X pins σ H s) : ∀ b o, X.base.get? b = some o → s.heap.get? b = some o := fun b o e => (I.bs b o e).1
theorem Inv.mod (I : Inv X pins σ H s) : Mod X.K X.mg X.base := I.ok.mod
theorem Inv.kIn (I : Inv X pins σ H s) : X.K.In s.heap := I.ok.mod.kin.keeps I.bk
theorem Inv.nolimit (I : Inv X pins σ H s) : s.heap.NoLimit := I.ok.mod.nolimit.keeps I.bk
theorem Inv.fr (I : Inv X pins σ H s) : ∃ m, Fr X.base X.env.locals s.heap m :=
  let ⟨m, hn, _⟩ := I.loc
  ⟨m, hn, I.bk, Nat.le_trans I.ok.bsz I.ok.above⟩
theorem Inv.lt (I : Inv X pins σ H s) : X.env.locals < s.heap.objs.size := let ⟨_, hn, _⟩ := I.loc; hn.lt
theorem Inv.sz (I : Inv X pins σ H s) : X.s₀.heap.objs.size ≤ s.heap.objs.size := Nat.le_trans I.ok.above (Nat.le_of_lt I.lt)
theorem Inv.nofs (I : Inv X pins σ H s) {a : Addr} (h : s.heap.objs.size ≤ a) : a ∉ X.fs := fun hb => by
  obtain ⟨_, o, ho, _⟩ := I.ok.funs.mem hb
  exact absurd (Nat.lt_of_lt_of_le (Heap.lt_size ho) (Nat.le_trans I.sz h)) (Nat.lt_irrefl _)
theorem Inv.cne (I : Inv X pins σ H s) : ∀ x c, X.env.cells.lookup x = some c → c ≠ X.env.locals := fun x c e z => by
  obtain ⟨v, o, ho, hd⟩ := I.cell x c e
  obtain ⟨m, ⟨o', es, ep, ho', hd', _⟩, _⟩ := I.loc
  rw [z, ho'] at ho; cases ho; rw [hd'] at hd; cases hd
theorem Inv.funs (I : Inv X pins σ H s) : s.heap.FunFrames X.base X.outer := by
  have all : ∀ (l : List Env), (∀ b ∈ frs l, b ∈ X.fs) → X.s₀.heap.FunFrames X.base l → s.heap.FunFrames X.base l := by
    intro l
    induction l with
    | nil => intro _ _; trivial
    | cons env r ih =>
      intro hs hl
      obtain ⟨hk, ⟨L, o, hf, hn, ho, hd⟩, hr⟩ := hl
      have hL : L ∈ X.fs := hs L (by unfold frs; rw [List.filterMap_cons, hf]; exact List.mem_cons_self)
      obtain ⟨sl, e⟩ := I.base.slot L o ho (I.ok.frf L hL) hL fun z => I.ok.exfs L z hL
      exact ⟨hk, ⟨L, _, hf, hn, e, hd⟩, ih (fun b hb => hs b (by unfold frs; rw [List.filterMap_cons, hf]; exact List.mem_cons_of_mem _ hb)) hr⟩
  exact all X.outer (fun _ hb => hb) I.ok.funs

theorem Inv.stack (I : Inv X pins σ H s) : s.heap.FunFrames X.base X.stack := by
  rcases I.ok.stk with e | ⟨e, hf⟩
  · rw [e]; exact I.funs
  · rw [e]
    obtain ⟨m, hn, _⟩ := I.loc
    refine .cons (by rw [I.ok.kind]; decide) hf hn ?_ I.funs
    exact Heap.get?_none_of_le (Nat.le_trans I.ok.bsz I.ok.above)
theorem Inv.stkSub (I : Inv X pins σ H s) : ∀ b ∈ frs X.stack, b ∈ X.env.locals :: X.fs := fun b hb => by
  rcases I.ok.stk with e | ⟨e, hf⟩
  · rw [e] at hb; exact List.mem_cons_of_mem _ hb
  · rw [e] at hb
    unfold frs at hb
    rw [List.filterMap_cons, hf] at hb
    exact hb
theorem Inv.stkFree (I : Inv X pins σ H s) : ∀ b ∈ frs X.stack, H b = none := fun b hb => by
  rcases List.mem_cons.mp (I.stkSub b hb) with e | hb
  · rw [e]; exact I.free
  · obtain ⟨_, o, ho, _⟩ := I.ok.funs.mem hb
    exact I.base.free b o ho (I.ok.frf b hb) fun z => I.ok.exfs b z hb

theorem Inv.step {g' : Array GenState} {t' : Nat} {d' : Drawn} {ch : List Addr} (I : Inv X pins σ H s)
    (hch : ∀ b ∈ ch, (b ∈ X.ex ∨ X.s₀.heap.objs.size ≤ b) ∧ b ≠ X.env.locals ∧ (∀ x c, X.env.cells.lookup x = some c → c ≠ b) ∧ ∀ p ∈ X.pn ++ pins, p.1 ≠ b)
    (keep : ∀ b o, b ≠ X.env.locals → b ∉ X.fs → b ∉ ch → s.heap.get? b = some o → H b = none → h'.get? b = some o)
    (slot : ∀ b o, b ≠ X.env.locals → b ∈ X.fs → b ∉ ch → s.heap.get? b = some o → H b = none → ∃ sl, h'.get? b = some { o with slots := sl }) (free : ∀ b o, b ∉ ch → s.heap.get? b = some o → H b = none → H' b = none)
    (there : ∀ b o, b ∉ ch → s.heap.get? b = some o → ∃ o', h'.get? b = some o')
    (tups : ∀ b xs, H b = some (.tup xs) → H' b = some (.tup xs)) (frzs : ∀ b o u, H b = some (.frz o u) → H' b = some (.frz o u)) (tbls : ∀ b ps, H b = some (.tbl ps) → ∃ more, H' b = some (.tbl (ps ++ more)))
    (ns : ∀ m, s.heap.Ns X.env.locals m → h'.Ns X.env.locals m) (hok : HOk X.prog X.w H' h') (hg : AllBare g') :
    Inv X pins σ H' { s with heap := h', gens := g', drawn := d', toks := t' } := by
  have neL : ∀ b o, X.s₀.heap.get? b = some o → b ≠ X.env.locals := fun b o e => Nat.ne_of_lt (Nat.lt_of_lt_of_le (Heap.lt_size e) I.ok.above)
  have neC : ∀ b o, X.s₀.heap.get? b = some o → b ∉ X.ex → b ∉ ch := fun b o e hx hb => by
    rcases (hch b hb).1 with z | z
    · exact hx z
    · exact absurd (Nat.lt_of_lt_of_le (Heap.lt_size e) z) (Nat.lt_irrefl _)
  have cellK : ∀ x c, X.env.cells.lookup x = some c → ∀ v, s.heap.IsCell c v → h'.IsCell c v := fun x c e v ⟨o, ho, hd⟩ => by
    have nch : c ∉ ch := fun z => (hch c z).2.2.1 x c e rfl
    by_cases hc : c ∈ X.fs
    · obtain ⟨sl, q⟩ := slot c o (I.cne x c e) hc nch ho (I.freeC x c e)
      exact ⟨_, q, hd⟩
    · exact ⟨o, keep c o (I.cne x c e) hc nch ho (I.freeC x c e), hd⟩
  refine ⟨I.ok, I.os, hg, ⟨fun b o e n hb hx => ?_, fun b o e n hb hx => ?_, fun b o e n hx => ?_, fun b o e hx => ?_, fun b xs e => tups b xs (I.base.tups b xs e), fun b o xs e => frzs b o xs (I.base.frzs b o xs e), fun b ps e => ?_⟩, ?_, fun x c e => ?_, ?_, fun x c e => ?_, fun p hp => ?_, hok, I.len⟩
  · exact keep b o (neL b o e) hb (neC b o e hx) (I.base.keep b o e n hb hx) (I.base.free b o e n hx)
  · obtain ⟨sl, e1⟩ := I.base.slot b o e n hb hx
    obtain ⟨sl', e2⟩ := slot b _ (neL b o e) hb (neC b o e hx) e1 (I.base.free b o e n hx)
    exact ⟨sl', e2⟩
  · obtain ⟨o', e1⟩ := I.base.there b o e hx
    exact free b o' (neC b o e hx) e1 (I.base.free b o e n hx)
  · obtain ⟨o', e1⟩ := I.base.there b o e hx
    exact there b o' (neC b o e hx) e1
  · obtain ⟨m1, e1⟩ := I.base.tbls b ps e
    obtain ⟨m2, e2⟩ := tbls b _ e1
    exact ⟨m1 ++ m2, by rw [e2, Array.append_assoc]⟩
  · obtain ⟨m, hn, hl⟩ := I.loc
    refine ⟨m, ns m hn, fun i x v e1 e2 e3 => ?_⟩
    obtain ⟨u, r, l⟩ := hl i x v e1 e2 e3
    refine ⟨u, r, ?_⟩
    rcases l with l | ⟨k, c, e, z⟩
    · exact .inl l
    · exact .inr ⟨k, c, e, cellK x c e _ z⟩
  · obtain ⟨v, z⟩ := I.cell x c e
    exact ⟨v, cellK x c e v z⟩
  · obtain ⟨m, ⟨o, _, _, ho, _⟩, _⟩ := I.loc
    exact free _ o (fun z => (hch _ z).2.1 rfl) ho I.free
  · obtain ⟨v, o, ho, hd⟩ := I.cell x c e
    exact free c o (fun z => (hch c z).2.2.1 x c e rfl) ho (I.freeC x c e)
  · obtain ⟨e, n, ne, nf, d⟩ := I.pin p hp
    have nch : p.1 ∉ ch := fun z => (hch p.1 z).2.2.2 p hp rfl
    exact ⟨keep p.1 p.2 ne nf nch e n, free p.1 p.2 nch e n, ne, nf, d⟩
theorem Inv.un {t' : Nat} (I : Inv X pins σ H s) (u : Un X.fs [] H H' s.heap h') (hok : HOk X.prog X.w H' h') : Inv X pins σ H' { s with heap := h', toks := t' } := by
  obtain ⟨m, ⟨o, es, ep, ho, r⟩, _⟩ := id I.loc
  obtain ⟨sl, hL⟩ := u.any ho I.free (by simp)
  exact I.step (g' := s.gens) (d' := s.drawn) (ch := []) (fun _ z => nomatch z) (fun b o _ hb _ e n => u.keep b o e n hb (by simp)) (fun b o _ hb _ e n => u.slot b o e n hb (by simp)) (fun b o _ e n => u.free b o e n (by simp)) (fun b o _ e => u.there b o e (by simp)) u.tups u.frzs u.tbls (fun m' hm => by
    obtain ⟨o', es', ep', ho', r'⟩ := hm
    rw [ho] at ho'; cases ho'
    exact ⟨_, es', ep', hL, r'⟩) hok I.bare
theorem Inv.call {g' : Array GenState} {t' : Nat} {d' : Drawn} {ch : List Addr} (I : Inv X pins σ H s) (u : Un (frs X.stack) ch H H' s.heap h') (hok : HOk X.prog X.w H' h') (hg : AllBare g')
    (hch : ∀ b ∈ ch, (b ∈ X.ex ∨ X.s₀.heap.objs.size ≤ b) ∧ b ≠ X.env.locals ∧ (∀ x c, X.env.cells.lookup x = some c → c ≠ b) ∧ ∀ p ∈ X.pn ++ pins, p.1 ≠ b) :
    Inv X pins σ H' { s with heap := h', gens := g', drawn := d', toks := t' } := by
  obtain ⟨m, ⟨o, es, ep, ho, r⟩, _⟩ := id I.loc
  obtain ⟨sl, hL⟩ := u.any ho I.free fun z => (hch _ z).2.1 rfl
  exact I.step (ch := ch) hch (fun b o hL hb hc e n => u.keep b o e n (fun z => (List.mem_cons.mp (I.stkSub b z)).elim hL hb) hc) (fun b o _ _ hc e n => u.any e n hc) (fun b o hc e n => u.free b o e n hc) (fun b o hc e => u.there b o e hc) u.tups u.frzs u.tbls (fun m' hm => by
    obtain ⟨o', es', ep', ho', r'⟩ := hm
    rw [ho] at ho'; cases ho'
    exact ⟨_, es', ep', hL, r'⟩) hok hg
theorem Inv.turned {t' : Nat} {it : Addr} (I : Inv X pins σ H s) (k : ∀ b o, b ≠ it → s.heap.get? b = some o → h'.get? b = some o) (hn : H it = none) (hL : it ≠ X.env.locals)
    (h1 : it ∈ X.ex ∨ X.s₀.heap.objs.size ≤ it) (h2 : ∀ x c, X.env.cells.lookup x = some c → c ≠ it) (h3 : ∀ p ∈ X.pn ++ pins, p.1 ≠ it) : Inv X pins σ H { s with heap := h', toks := t' } := by
  have nit : ∀ b u, H b = some u → b ≠ it := fun b u e z => by rw [z, hn] at e; cases e
  refine I.step (g' := s.gens) (d' := s.drawn) (ch := [it]) (fun b hb => ?_) (fun b o _ _ hc e _ => k b o (fun z => hc (by simp [z])) e) (fun b o _ _ hc e _ => ⟨o.slots, k b o (fun z => hc (by simp [z])) e⟩) (fun _ _ _ _ n => n)
    (fun b o hc e => ⟨o, k b o (fun z => hc (by simp [z])) e⟩) (fun _ _ e => e) (fun _ _ _ e => e) (fun b ps e => ⟨#[], by rw [e]; simp⟩) (fun m hm => ?_) (fun b u e => ?_) I.bare
  · have e : b = it := by simpa using hb
    subst e
    exact ⟨h1, hL, h2, h3⟩
  · obtain ⟨o, es, ep, ho, r⟩ := hm
    exact ⟨o, es, ep, k _ o (Ne.symm hL) ho, r⟩
  · refine (I.hok b u e).stay (fun c v hc q => k c v ?_ q) (fun _ q => q) fun _ _ q => q
    rcases hc with z | z
    · rw [z]; exact nit b u e
    · exact nit c _ z
theorem Inv.tok (I : Inv X pins σ H s) (t : Nat) : Inv X pins σ H { s with toks := t } := I.un (h' := s.heap) (t' := t) Un.refl I.hok
theorem Inv.kept {t' : Nat} (I : Inv X pins σ H s) (k : ∀ b u, s.heap.get? b = some u → h'.get? b = some u) : Inv X pins σ H { s with heap := h', toks := t' } := I.un (Un.kept k) (I.hok.kept k)
theorem Inv.laid {a : Addr} {o : HO} {t' : Nat} (I : Inv X pins σ H s) (k : ∀ b u, s.heap.get? b = some u → h'.get? b = some u) (hp : s.heap.objs.size ≤ a) (new : ObjOk X.prog X.w (upd H a o) h' a o) :
    Inv X pins σ (upd H a o) { s with heap := h', toks := t' } := I.un (Un.laid k hp (I.hok.fresh hp)) (I.hok.laid k hp new)
theorem Inv.write {x e : Addr} {o : HO} {t' : Nat} (I : Inv X pins σ H s) (mu : Mut (H x)) (he : e = x ∨ H e = some (.own x)) (k : ∀ b u, b ≠ e → s.heap.get? b = some u → h'.get? b = some u) (heo : ∃ u, h'.get? e = some u)
    (new : ObjOk X.prog X.w (upd H x o) h' x o) : Inv X pins σ (upd H x o) { s with heap := h', toks := t' } := I.un (Un.write mu he k heo) (I.hok.write mu he k heo new)
theorem Inv.pins_of {pins' : List (Addr × Obj)} (I : Inv X pins σ H s) (h : ∀ p ∈ pins', s.heap.get? p.1 = some p.2 ∧ H p.1 = none ∧ p.1 ≠ X.env.locals ∧ p.1 ∉ X.fs ∧ ∀ v, p.2.data ≠ .cell v) : Inv X pins' σ H s :=
  ⟨I.ok, I.os, I.bare, I.base, I.loc, I.cell, I.free, I.freeC, fun p hp => (List.mem_append.mp hp).elim (fun z => I.pin p (List.mem_append_left _ z)) (h p), I.hok, I.len⟩

theorem nodup_ix {N : List Str} (hN : N.Nodup) {i j : Nat} {x : Str} (a : N[i]? = some x) (b : N[j]? = some x) : i = j := by
  obtain ⟨h1, e1⟩ := List.getElem?_eq_some_iff.mp a
  obtain ⟨h2, e2⟩ := List.getElem?_eq_some_iff.mp b
  exact (List.getElem_inj hN).mp (e1.trans e2.symm)

theorem store_ok2 {M : Model} {A : Around} {E : Value → Shared → Prop} {i : Nat} {x : Str} {v : V} {u : Value} {Q : Unit → Shared → Prop} (I : Inv X pins σ H s) (hN : X.N.Nodup) (hi : X.N[i]? = some x) (hx : Loc X.env.scope x) (r : RelV v u)
    (h : ∀ s', Inv X pins (σ.set i (some v)) H s' → (∃ a, Heap.SameBut a s.heap s'.heap ∧ (a = X.env.locals ∨ X.env.cells.lookup x = some a)) → Q () s') (hf : X.fn x = true ∨ X.env.scope.names.lookup x = some .local := by first | exact .inl rfl | exact .inr rfl | assumption) : wpAny M A (storeName X.env x u) Q E s := by
  obtain ⟨m, hn, hl⟩ := id I.loc
  have hcls : (X.env.scope.kind == .class || (X.env.scope.kind == .module && X.env.locals != X.env.globals)) = false := by rw [I.ok.kind]; rfl
  have hiσ : i < σ.length := by rw [I.len]; exact (List.getElem?_eq_some_iff.mp hi).1
  have cne := I.cne
  have tracked : ∀ {a : Addr} {h' : Heap}, (∃ o, s.heap.get? a = some o ∧ H a = none) → Heap.SameBut a s.heap h' → HOk X.prog X.w H h' := fun {a h'} ha hs b ob e => by
    obtain ⟨_, _, hfree⟩ := ha
    refine (I.hok b ob e).stay (fun c w' hc q => (hs.2 c ?_).trans q) (fun _ q => q) fun _ _ q => q
    rintro rfl
    rcases hc with rfl | hc
    · rw [hfree] at e; cases e
    · rw [hfree] at hc; cases hc
  rcases hx with hk | hk
  · refine wpAny_storeName_local hk hn (fun h' hn' hs => ?_) hcls
    obtain ⟨oL, _, _, hoL, _⟩ := id hn
    refine h _ ⟨I.ok, I.os, I.bare, ⟨fun b o e n hb hx => ?_, fun b o e n hb hx => ?_, I.base.free, fun b o e hx => ?_, I.base.tups, I.base.frzs, I.base.tbls⟩, ⟨_, hn', fun j y v' e1 e2 e3 => ?_⟩, fun y c e => ?_, I.free, I.freeC, fun p hp => ?_, tracked ⟨oL, hoL, I.free⟩ hs, by simpa using I.len⟩ ⟨_, hs, .inl rfl⟩
    · exact (hs.2 b (Nat.ne_of_lt (Nat.lt_of_lt_of_le (Heap.lt_size e) I.ok.above))).trans (I.base.keep b o e n hb hx)
    · obtain ⟨sl, e1⟩ := I.base.slot b o e n hb hx
      exact ⟨sl, (hs.2 b (Nat.ne_of_lt (Nat.lt_of_lt_of_le (Heap.lt_size e) I.ok.above))).trans e1⟩
    · obtain ⟨o', e1⟩ := I.base.there b o e hx
      exact ⟨o', (hs.2 b (Nat.ne_of_lt (Nat.lt_of_lt_of_le (Heap.lt_size e) I.ok.above))).trans e1⟩
    · by_cases hj : j = i
      · subst hj
        rw [hi] at e1; cases e1
        rw [List.getElem?_set_self hiσ] at e2
        cases e2
        exact ⟨u, r, .inl ⟨hk, by simp⟩⟩
      · rw [List.getElem?_set_ne (Ne.symm hj)] at e2
        obtain ⟨u', r', q⟩ := hl j y v' e1 e2 e3
        refine ⟨u', r', ?_⟩
        rcases q with ⟨k, e⟩ | ⟨k, c, e, z⟩
        · refine .inl ⟨k, ?_⟩
          have : y ≠ x := fun e => hj (nodup_ix hN e1 (e ▸ hi))
          simp [this, e]
        · exact .inr ⟨k, c, e, z.sameBut hs (cne y c e)⟩
    · obtain ⟨w', z⟩ := I.cell y c e
      exact ⟨w', z.sameBut hs (cne y c e)⟩
    · obtain ⟨e, n, ne, nf, d⟩ := I.pin p hp
      exact ⟨(hs.2 p.1 ne).trans e, n, ne, nf, d⟩
  · have hfn : X.fn x = true := by
      rcases hf with z | z
      · exact z
      · rw [z] at hk; cases hk
    obtain ⟨c, hc⟩ := I.ok.has x (.inl hk)
    obtain ⟨w', z⟩ := I.cell x c hc
    refine wpAny_storeName_cell I.ok.kind hk hc z (fun h' hc' hs => ?_)
    obtain ⟨oc, hoc, hocd⟩ := id z
    refine h { s with heap := h' } ⟨I.ok, I.os, I.bare, ⟨fun b o e n hb hx => ?_, fun b o e n hb hx => ?_, I.base.free, fun b o e hx => ?_, I.base.tups, I.base.frzs, I.base.tbls⟩, ⟨m, hn.sameBut hs (Ne.symm (cne x c hc)), fun j y v' e1 e2 e3 => ?_⟩, fun y c' e => ?_, I.free, I.freeC, fun p hp => ?_, tracked ⟨oc, hoc, I.freeC x c hc⟩ hs, by simpa using I.len⟩ ⟨c, hs, .inr hc⟩
    · exact (hs.2 b (Nat.ne_of_lt (Nat.lt_of_lt_of_le (Heap.lt_size e) (I.ok.cab x c hfn hc)))).trans (I.base.keep b o e n hb hx)
    · obtain ⟨sl, e1⟩ := I.base.slot b o e n hb hx
      exact ⟨sl, (hs.2 b (Nat.ne_of_lt (Nat.lt_of_lt_of_le (Heap.lt_size e) (I.ok.cab x c hfn hc)))).trans e1⟩
    · obtain ⟨o', e1⟩ := I.base.there b o e hx
      exact ⟨o', (hs.2 b (Nat.ne_of_lt (Nat.lt_of_lt_of_le (Heap.lt_size e) (I.ok.cab x c hfn hc)))).trans e1⟩
    · by_cases hj : j = i
      · subst hj
        rw [hi] at e1; cases e1
        rw [List.getElem?_set_self hiσ] at e2
        cases e2
        exact ⟨u, r, .inr ⟨.inl hk, c, hc, hc'⟩⟩
      · rw [List.getElem?_set_ne (Ne.symm hj)] at e2
        obtain ⟨u', r', q⟩ := hl j y v' e1 e2 e3
        refine ⟨u', r', ?_⟩
        rcases q with q | ⟨k, c', e, z'⟩
        · exact .inl q
        · refine .inr ⟨k, c', e, z'.sameBut hs ?_⟩
          rintro rfl
          exact hj (nodup_ix hN e1 (I.ok.inj _ _ _ e hc ▸ hi))
    · by_cases hcc : c' = c
      · subst hcc; exact ⟨_, hc'⟩
      · obtain ⟨w2, z2⟩ := I.cell y c' e
        exact ⟨w2, z2.sameBut hs hcc⟩
    · obtain ⟨e, n, ne, nf, d⟩ := I.pin p hp
      refine ⟨(hs.2 p.1 ?_).trans e, n, ne, nf, d⟩
      intro q
      rw [q, hoc] at e
      have q' : oc = p.2 := Option.some.inj e
      exact d w' (by rw [← q']; exact hocd)
theorem store_ok {M : Model} {A : Around} {E : Value → Shared → Prop} {i : Nat} {x : Str} {v : V} {u : Value} {Q : Unit → Shared → Prop} (I : Inv X pins σ H s) (hN : X.N.Nodup) (hi : X.N[i]? = some x) (hx : Loc X.env.scope x) (r : RelV v u)
    (h : ∀ s', Inv X pins (σ.set i (some v)) H s' → Q () s') (hf : X.fn x = true ∨ X.env.scope.names.lookup x = some .local := by first | exact .inl rfl | exact .inr rfl | assumption) : wpAny M A (storeName X.env x u) Q E s :=
  store_ok2 I hN hi hx r (fun s' I' _ => h s' I') hf
theorem Inv.call' {s' : Shared} {ch : List Addr} (I : Inv X pins σ H s) (ho : s'.os = s.os) (u : Un (frs X.stack) ch H H' s.heap s'.heap) (hok : HOk X.prog X.w H' s'.heap) (hg : AllBare s'.gens)
    (hch : ∀ b ∈ ch, (b ∈ X.ex ∨ X.s₀.heap.objs.size ≤ b) ∧ b ≠ X.env.locals ∧ (∀ x c, X.env.cells.lookup x = some c → c ≠ b) ∧ ∀ p ∈ X.pn ++ pins, p.1 ≠ b) : Inv X pins σ H' s' := by
  obtain ⟨h', g', d', t', o'⟩ := s'
  have e : o' = s.os := ho
  subst e
  exact I.call (g' := g') (t' := t') (d' := d') u hok hg hch
end

abbrev XK := Value → Option Addr → Hp → Prop
abbrev St := List (Option V)
abbrev VK := V → Hp → Prop
abbrev TE := St → Hp → VK → Prop
abbrev TT := St → Hp → (Bool → Hp → Prop) → Prop
abbrev TA := St → Hp → (List V → Hp → Prop) → Prop
structure Ends where
  nx : St → Hp → Prop
  rt : VK
  bk : St → Hp → Prop := fun _ _ => False
  ct : St → Hp → Prop := fun _ _ => False
abbrev TS := Ends → St → Hp → Prop

def EP (X : Cx) (pins : List (Addr × Obj)) (σ : St) (Q : VK) (u : Value) (s' : Shared) : Prop := ∃ v H', Inv X pins σ H' s' ∧ RelV v u ∧ Q v H'
def TP (X : Cx) (pins : List (Addr × Obj)) (σ : St) (Q : Bool → Hp → Prop) (b : Bool) (s' : Shared) : Prop := ∃ H', Inv X pins σ H' s' ∧ Q b H'
def AP (X : Cx) (pins : List (Addr × Obj)) (σ : St) (Q : List V → Hp → Prop) (us : List Value) (s' : Shared) : Prop := ∃ vs H', Inv X pins σ H' s' ∧ Vals vs us ∧ Q vs H'
def SP (X : Cx) (pins : List (Addr × Obj)) (D : Ends) (f : Flow) (s' : Shared) : Prop :=
  match f with
  | .next => ∃ σ' H', Inv X pins σ' H' s' ∧ D.nx σ' H'
  | .brk => ∃ σ' H', Inv X pins σ' H' s' ∧ D.bk σ' H'
  | .cont => ∃ σ' H', Inv X pins σ' H' s' ∧ D.ct σ' H'
  | .ret u => ∃ v σ' H', Inv X pins σ' H' s' ∧ RelV v u ∧ D.rt v H'

def PE (X : Cx) (e : Expr) (t : TE) : Prop :=
  ∀ (pins : List (Addr × Obj)) (s : Shared) (σ : St) (H : Hp) (Q : VK), Inv X pins σ H s → t σ H Q → wpAny (model X.prog X.w) X.A (eval e X.env) (EP X pins σ Q) X.xe s
def PT (X : Cx) (e : Expr) (t : TT) : Prop :=
  ∀ (pins : List (Addr × Obj)) (s : Shared) (σ : St) (H : Hp) (Q : Bool → Hp → Prop), Inv X pins σ H s → t σ H Q → wpAny (model X.prog X.w) X.A (isTrue e X.env (eval e X.env)) (TP X pins σ Q) X.xe s
def PW (X : Cx) (e : Expr) (t : TT) : Prop :=
  ∀ (whole : Sem Value) (pins : List (Addr × Obj)) (s : Shared) (σ : St) (H : Hp) (Q : Bool → Hp → Prop), Inv X pins σ H s → t σ H Q → wpAny (model X.prog X.w) X.A (isTrue e X.env whole) (TP X pins σ Q) X.xe s
theorem PW.pt {X : Cx} {e : Expr} {t : TT} (h : PW X e t) : PT X e t := h _
def PA (X : Cx) (es : List Expr) (t : TA) : Prop :=
  ∀ (pos : Pos) (pins : List (Addr × Obj)) (s : Shared) (σ : St) (H : Hp) (Q : List V → Hp → Prop), Inv X pins σ H s → t σ H Q → wpAny (model X.prog X.w) X.A (spliced (backTo pos (starEach es X.env))) (AP X pins σ Q) X.xe s
def PS (X : Cx) (st : Stmt) (t : TS) : Prop :=
  ∀ (pins : List (Addr × Obj)) (s : Shared) (σ : St) (H : Hp) (D : Ends), Inv X pins σ H s → t D σ H → wpAny (model X.prog X.w) X.A (exec st X.env) (SP X pins D) X.xe s
def PSs (X : Cx) (st : List Stmt) (t : TS) : Prop :=
  ∀ (pins : List (Addr × Obj)) (s : Shared) (σ : St) (H : Hp) (D : Ends), Inv X pins σ H s → t D σ H → wpAny (model X.prog X.w) X.A (execs st X.env) (SP X pins D) X.xe s
theorem thn {α : Type} {t : Sem α} {Q Q' : α → Shared → Prop} {M : Model} {A : Around} {E : Value → Shared → Prop} {s : Shared} (h : wpAny M A t Q E s) (hQ : ∀ a s, Q a s → Q' a s) : wpAny M A t Q' E s := wpAny_mono h hQ fun _ _ x => x
end L2

namespace L2
open PySem PySem.Spec PyProof.Rows
section
variable {X : Cx}

def tVar (i : Nat) : TE := fun σ H Q => ∃ v, σ[i]? = some (some v) ∧ Q v H
def tC (v : V) : TE := fun _ H Q => Q v H
theorem pe_var {i : Nat} {x : Str} {pos : Pos} (hN : X.N[i]? = some x) (hv : Vis X.env.scope x) (hd : (x == ("__debug__" : Str)) = false := by decide) (hcd : (x == ("__classdict__" : Str)) = false := by decide) : PE X (.Name x pos) (tVar i) := by
  intro pins s σ H Q I h
  obtain ⟨v, e, h⟩ := h
  obtain ⟨m, hn, hl⟩ := I.loc
  obtain ⟨u, r, l⟩ := hl i x v hN e hv
  have fin : EP X pins σ Q u s := ⟨v, H, I, r, h⟩
  rcases l with ⟨hk, hm⟩ | ⟨hk, c, hc, hcell⟩
  · exact wpAny_Name (wpAny_loadName_local I.ok.kind hk hn hm fin) hd
  · rcases hk with hk | hk
    · exact wpAny_Name (wpAny_loadName_cell I.ok.kind hk hc hcell fin) hd
    · exact wpAny_Name (wpAny_loadName_free I.ok.kind hk hc hcell fin hcd) hd
theorem pe_int {i j pos} : PE X (.Constant (.int i) j pos) (tC (.int i)) := fun _ _ _ H _ I h => wpAny_Constant_int ⟨.int i, H, I.tok _, ⟨_, rfl⟩, h⟩
theorem pe_bl {b j pos} : PE X (.Constant (.bool b) j pos) (tC (.bl b)) := fun _ _ _ H _ I h => Constant_bool ⟨.bl b, H, I, rfl, h⟩
theorem pe_non {j pos} : PE X (.Constant .none j pos) (tC .non) := fun _ _ _ H _ I h => Constant_none ⟨.non, H, I, rfl, h⟩
theorem pe_str {x j pos} : PE X (.Constant (.str x) j pos) (tC (.str x)) := fun _ _ _ H _ I h => Calls.Constant_str ⟨.str x, H, I.tok _, ⟨_, rfl⟩, h⟩

def Gl (X : Cx) (x : Str) : Prop := X.env.kindOf x = some .globalImplicit
theorem ld_glob {E : Value → Shared → Prop} {pins : List (Addr × Obj)} {s : Shared} {σ : St} {H : Hp} {x : Str} {u : Value} {pos : Pos} {Q : Value → Shared → Prop} (I : Inv X pins σ H s) (hg : Gl X x) (hm : X.mg x = some u) (h : Q u s)
    (hd : (x == ("__debug__" : Str)) = false := by decide) : wpAny (model X.prog X.w) X.A (eval (.Name x pos) X.env) Q E s :=
  Calls.Name_function_global I.ok.kind hg (Calls.loadGlobal_global (by rw [I.ok.glob]; exact I.mod.glob.keeps I.bk) hm h) hd
theorem ld_blt {E : Value → Shared → Prop} {pins : List (Addr × Obj)} {s : Shared} {σ : St} {H : Hp} {x : Str} {u : Value} {pos : Pos} {Q : Value → Shared → Prop} (I : Inv X pins σ H s) (hg : Gl X x) (hm : X.mg x = none) (hv : bootBuiltins x = some u) (h : Q u s)
    (hn : x ≠ "__name__" := by decide) (hd : (x == ("__debug__" : Str)) = false := by decide) : wpAny (model X.prog X.w) X.A (eval (.Name x pos) X.env) Q E s := by
  obtain ⟨mb, h1, h2⟩ := I.mod.blt
  exact Calls.Name_function_global I.ok.kind hg (Calls.loadGlobal_builtin (by rw [I.ok.glob]; exact I.mod.glob.keeps I.bk) hm (by rw [I.ok.blt]; exact h1.keeps I.bk) ((h2 x hn).trans hv) h) hd
theorem pe_glob {x : Str} {v : V} {u : Value} {pos : Pos} (hg : Gl X x) (hm : X.mg x = some u) (r : RelV v u) (hd : (x == ("__debug__" : Str)) = false := by decide) : PE X (.Name x pos) (tC v) :=
  fun _ _ _ H _ I h => ld_glob I hg hm ⟨v, H, I, r, h⟩ hd
theorem pe_bltn {x : Str} {v : V} {u : Value} {pos : Pos} (hg : Gl X x) (hm : X.mg x = none) (hv : bootBuiltins x = some u) (r : RelV v u) (hn : x ≠ "__name__" := by decide) (hd : (x == ("__debug__" : Str)) = false := by decide) : PE X (.Name x pos) (tC v) :=
  fun _ _ _ H _ I h => ld_blt I hg hm hv ⟨v, H, I, r, h⟩ hn hd

def t2I (ta tb : TE) (k : Int → Int → Hp → Prop) : St → Hp → Prop := fun σ H => ta σ H fun x H1 => tb σ H1 fun y H2 => ∃ i j, x = .int i ∧ y = .int j ∧ k i j H2
def tAdd (ta tb : TE) : TE := fun σ H Q => t2I ta tb (fun i j H2 => Q (.int (i + j)) H2) σ H
def tSub (ta tb : TE) : TE := fun σ H Q => t2I ta tb (fun i j H2 => Q (.int (i - j)) H2) σ H
def tMul (ta tb : TE) : TE := fun σ H Q => t2I ta tb (fun i j H2 => (-(2 ^ 64) < i ∧ i < 2 ^ 64) ∧ Q (.int (i * j)) H2) σ H
variable {a b : Expr} {ta tb : TE} {pos : Pos}
def PC (X : Cx) (op : CmpOp) (a b : Expr) (t : TE) : Prop :=
  ∀ (pins : List (Addr × Obj)) (s : Shared) (σ : St) (H : Hp) (Q : VK), Inv X pins σ H s → t σ H Q →
    wpAny (model X.prog X.w) X.A (eval a X.env) (fun v s₁ => wpAny (model X.prog X.w) X.A (eval b X.env) (fun u s₂ => wpAny (model X.prog X.w) X.A (compareOp op v u) (EP X pins σ Q) X.xe s₂) X.xe s₁) X.xe s
theorem nobehind (b : Expr) {op : CmpOp} (h : op ≠ .In) (h2 : op ≠ .NotIn) : behindInMarks op b = false := by
  have e1 : (op == CmpOp.In) = false := by cases op <;> first | rfl | exact absurd rfl h
  have e2 : (op == CmpOp.NotIn) = false := by cases op <;> first | rfl | exact absurd rfl h2
  cases b <;> simp [behindInMarks, e1, e2]
def tCmp (p : Int → Int → Bool) (ta tb : TE) : TE := fun σ H Q => t2I ta tb (fun i j H2 => Q (.bl (p i j)) H2) σ H
abbrev tLt : TE → TE → TE := tCmp fun i j => decide (i < j)
abbrev tLe : TE → TE → TE := tCmp fun i j => decide (i ≤ j)
abbrev tGt : TE → TE → TE := tCmp fun i j => decide (j < i)
abbrev tGe : TE → TE → TE := tCmp fun i j => decide (j ≤ i)
abbrev tEqI : TE → TE → TE := tCmp fun i j => decide (i = j)
abbrev tNeI : TE → TE → TE := tCmp fun i j => !decide (i = j)
def tIsN (ta : TE) : TE := fun σ H Q => ta σ H fun x H1 => Q (.bl (decide (x = .non))) H1
def tNotN (ta : TE) : TE := fun σ H Q => ta σ H fun x H1 => Q (.bl (!decide (x = .non))) H1
def tB (t : TE) : TT := fun σ H Q => t σ H fun x H1 => ∃ c, x = .bl c ∧ Q c H1
theorem pt_cmp {op : CmpOp} {t : TE} (h : PC X op a b t) (h1 : behindInMarks op b = false := by first | exact nobehind _ (by decide) (by decide) | rfl) : PT X (.Compare a [op] [b] pos) (tB t) := by
  intro pins s σ H Q I hw
  refine wpAny_isTrue_Compare1 (thn (h pins s σ H _ I hw) fun v s1 h1 => thn h1 fun u s2 h2 => thn h2 fun c s3 ⟨x, H1, I1, r1, q1⟩ => ?_) h1
  obtain ⟨d, rfl, q⟩ := q1
  cases r1
  exact wpAny_truthy_bool ⟨H1, I1, q⟩
theorem pt_val {e : Expr} {t : TE} (h : PE X e t) (he : ∀ whole, isTrue e X.env whole = (do let v ← whole; standAt e.pos; holding [v] (truthy v)) := by intro _; rfl) : PT X e (tB t) := by
  intro pins s σ H Q I hw
  refine isTrue_plain (thn (h pins s σ H _ I hw) fun v s1 ⟨x, H1, I1, r1, q1⟩ => ?_) (he _)
  obtain ⟨d, rfl, q⟩ := q1
  cases r1
  exact wpAny_truthy_bool ⟨H1, I1, q⟩

variable {tA tB' : TT} {rest : List Expr}
def tAnd (t u : TT) : TT := fun σ H Q => t σ H fun c H1 => if c = true then u σ H1 Q else Q false H1
def tOr (t u : TT) : TT := fun σ H Q => t σ H fun c H1 => if c = true then Q true H1 else u σ H1 Q
def tNot (t : TT) : TT := fun σ H Q => t σ H fun c H1 => Q (!c) H1
theorem pw_and1 (ha : PT X a tA) : PW X (.BoolOp .And [a] pos) tA := by
  intro wh pins s σ H Q I h
  refine isTrue_and (thn (ha pins s σ H Q I h) fun c s1 e => ?_)
  cases c with
  | true => exact isTrue_and_nil e
  | false => exact e
theorem pw_or1 (ha : PT X a tA) : PW X (.BoolOp .Or [a] pos) tA := by
  intro wh pins s σ H Q I h
  refine isTrue_or (thn (ha pins s σ H Q I h) fun c s1 e => ?_)
  cases c with
  | false => exact isTrue_or_nil e
  | true => exact e
theorem pw_and (ha : PT X a tA) (hb : PW X (.BoolOp .And (b :: rest) pos) tB') : PW X (.BoolOp .And (a :: b :: rest) pos) (tAnd tA tB') := by
  intro wh pins s σ H Q I h
  refine isTrue_and (thn (ha pins s σ H _ I h) fun c s1 ⟨H1, I1, q1⟩ => ?_)
  cases c with
  | true => exact hb wh pins s1 σ H1 Q I1 q1
  | false => exact ⟨H1, I1, q1⟩
theorem pw_or (ha : PT X a tA) (hb : PW X (.BoolOp .Or (b :: rest) pos) tB') : PW X (.BoolOp .Or (a :: b :: rest) pos) (tOr tA tB') := by
  intro wh pins s σ H Q I h
  refine isTrue_or (thn (ha pins s σ H _ I h) fun c s1 ⟨H1, I1, q1⟩ => ?_)
  cases c with
  | true => exact ⟨H1, I1, q1⟩
  | false => exact hb wh pins s1 σ H1 Q I1 q1
theorem pt_not (ha : PT X a tA) : PT X (.UnaryOp .Not a pos) (tNot tA) := by
  intro pins s σ H Q I h
  exact isTrue_not (ha pins s σ H (fun c H1 => Q (!c) H1) I h)
def tAndV (ta tb : TE) : TE := fun σ H Q => ta σ H fun x H1 => ∃ c, x = .bl c ∧ if c = true then tb σ H1 Q else Q (.bl false) H1
def tOrV (ta tb : TE) : TE := fun σ H Q => ta σ H fun x H1 => ∃ c, x = .bl c ∧ if c = true then Q (.bl true) H1 else tb σ H1 Q
def tNotV (ta : TE) : TE := fun σ H Q => ta σ H fun x H1 => ∃ c, x = .bl c ∧ Q (.bl (!c)) H1
theorem pe_one {op} {t : TE} (h : PE X a t) : PE X (.BoolOp op [a] pos) t := fun pins s σ H Q I hw => BoolOp_one (h pins s σ H Q I hw)
theorem pe_and (ha : PE X a ta) (hb : PE X (.BoolOp .And (b :: rest) pos) tb) : PE X (.BoolOp .And (a :: b :: rest) pos) (tAndV ta tb) := by
  intro pins s σ H Q I h
  refine BoolOp_and (thn (ha pins s σ H _ I h) fun v s1 ⟨x, H1, I1, r1, q1⟩ => ?_)
  obtain ⟨c, rfl, q1⟩ := q1
  cases r1
  refine wpAny_truthy_bool ?_
  cases c with
  | true => exact hb pins s1 σ H1 Q I1 q1
  | false => exact ⟨.bl false, H1, I1, rfl, q1⟩
theorem pe_not (ha : PE X a ta) : PE X (.UnaryOp .Not a pos) (tNotV ta) := by
  intro pins s σ H Q I h
  refine UnaryOp_ (thn (ha pins s σ H _ I h) fun v s1 ⟨x, H1, I1, r1, q1⟩ => ?_)
  obtain ⟨c, rfl, q1⟩ := q1
  cases r1
  exact not_of (wpAny_truthy_bool ⟨.bl (!c), H1, I1, rfl, q1⟩)
def tIf (t : TT) (ta tb : TE) : TE := fun σ H Q => t σ H fun c H1 => if c = true then ta σ H1 Q else tb σ H1 Q
theorem pe_ifExp {c : Expr} (hc : PT X c tA) (ha : PE X a ta) (hb : PE X b tb) : PE X (.IfExp c a b pos) (tIf tA ta tb) := by
  intro pins s σ H Q I h
  refine wpAny_IfExp (thn (hc pins s σ H _ I h) fun d s1 ⟨H1, I1, q1⟩ => ?_)
  cases d with
  | true => exact ha pins s1 σ H1 Q I1 q1
  | false => exact hb pins s1 σ H1 Q I1 q1
end
end L2

namespace L2
open PySem PySem.Spec PyProof.Rows

def SqL (K : PySem.W.Frag) (H : Hp) (a : Addr) (xs : List V) : Prop :=
  Rd H a (.lst xs) ∨
    ∃ (o : Obj) (its : Array Value) (n : Nat), K.lookup a = some o ∧ o.cls = .type "list" ∧ o.dict = none ∧ o.data = .seq its n ∧ its.size ≤ sizeLine ∧ Vals xs its.toList
def SqT (K : PySem.W.Frag) (H : Hp) (a : Addr) (xs : List V) : Prop :=
  Rd H a (.tup xs) ∨
    ∃ (o : Obj) (its : Array Value) (n : Nat), K.lookup a = some o ∧ o.cls = .type "tuple" ∧ o.data = .seq its n ∧ its.size ≤ sizeLine ∧ Vals xs its.toList
def absV : Value → Option V
  | .none => some .non
  | .bool b => some (.bl b)
  | .int i _ => some (.int i)
  | .str x _ => some (.str x)
  | .bytes b _ => some (.byt b)
  | .float b _ => some (.flt b)
  | .ref a => some (.ref a)
  | .type n => some (.ty n)
  | _ => none
theorem RelV.abs {x : V} {u : Value} (r : RelV x u) : absV u = some x := by
  cases x with
  | non => cases r; rfl
  | bl _ => cases r; rfl
  | int _ => obtain ⟨t, rfl⟩ := r; rfl
  | str _ => obtain ⟨t, rfl⟩ := r; rfl
  | byt _ => obtain ⟨t, rfl⟩ := r; rfl
  | flt _ => obtain ⟨t, rfl⟩ := r; rfl
  | ref _ => cases r; rfl
  | ty _ => cases r; rfl
theorem RelV.inj {x y : V} {u : Value} (r : RelV x u) (q : RelV y u) : x = y := Option.some.inj (r.abs.symm.trans q.abs)
theorem Vals.inj : ∀ {xs ys : List V} {us : List Value}, Vals xs us → Vals ys us → xs = ys
  | _, _, _, .nil, .nil => rfl
  | _, _, _, .cons r t, .cons r' t' => by rw [r.inj r', Vals.inj t t']
section
variable {X : Cx} {pins : List (Addr × Obj)} {σ : St} {H : Hp} {s : Shared} {a : Addr} {xs ys : List V}
theorem SqL.of {K : PySem.W.Frag} (h : H a = some (.lst xs)) : SqL K H a xs := .inl (.inl h)
theorem SqT.of {K : PySem.W.Frag} (h : H a = some (.tup xs)) : SqT K H a xs := .inl (.inl h)
theorem Inv.list (I : Inv X pins σ H s) (h : SqL X.K H a xs) : ∃ its : List Value, Vals xs its ∧ PlainL s.heap a its.toArray ∧ xs.length ≤ sizeLine := by
  rcases h with h | ⟨o, its, n, hk, hc, hd, hs, hz, r⟩
  · obtain ⟨z, its, n, r, e⟩ := h.ok I.hok
    exact ⟨its, r, ⟨_, n, e, rfl, rfl, rfl⟩, z⟩
  · refine ⟨its.toList, r, ⟨o, n, I.kIn a o hk, hc, hd, by simpa using hs⟩, ?_⟩
    have e := r.length
    simp only [Array.length_toList] at e
    omega
theorem Inv.tuple (I : Inv X pins σ H s) (h : SqT X.K H a xs) : ∃ its : List Value, Vals xs its ∧ IsTup s.heap a its.toArray ∧ xs.length ≤ sizeLine := by
  rcases h with h | ⟨o, its, n, hk, hc, hs, hz, r⟩
  · obtain ⟨z, its, r, p⟩ := h.ok I.hok
    exact ⟨its, r, p, z⟩
  · refine ⟨its.toList, r, ⟨o, I.kIn a o hk, hc, n, by simpa using hs⟩, ?_⟩
    have e := r.length
    simp only [Array.length_toList] at e
    omega
theorem Inv.list_inj (I : Inv X pins σ H s) (h : SqL X.K H a xs) (h' : SqL X.K H a ys) : xs = ys := by
  obtain ⟨its, r, ⟨o, n, e, _, _, d⟩, _⟩ := I.list h
  obtain ⟨its', r', ⟨o', n', e', _, _, d'⟩, _⟩ := I.list h'
  rw [e] at e'; cases e'
  rw [d] at d'
  injection d' with d1 _
  have : its = its' := by simpa using congrArg Array.toList d1
  subst this
  exact r.inj r'
theorem Inv.tuple_inj (I : Inv X pins σ H s) (h : SqT X.K H a xs) (h' : SqT X.K H a ys) : xs = ys := by
  obtain ⟨its, r, ⟨o, e, _, n, d⟩, _⟩ := I.tuple h
  obtain ⟨its', r', ⟨o', e', _, n', d'⟩, _⟩ := I.tuple h'
  rw [e] at e'; cases e'
  rw [d] at d'
  injection d' with d1 _
  have : its = its' := by simpa using congrArg Array.toList d1
  subst this
  exact r.inj r'
end

abbrev Cx.wish (X : Cx) (E : Value → Shared → Prop) : Cx := { X with xe := E }
abbrev Cx.nox (X : Cx) : Cx := X.wish fun _ _ => False
theorem Cx.Ok.wish {X : Cx} (ok : X.Ok) (E : Value → Shared → Prop) : (X.wish E).Ok :=
  ⟨ok.mod, ok.kind, ok.glob, ok.blt, ok.above, ok.inj, ok.has, ok.cab, ok.hd, ok.frames, ok.stk, ok.exf, ok.bs, ok.bsz, ok.noex, ok.exfs, ok.funs, ok.frf⟩
theorem Cx.Ok.unwish {X : Cx} {E : Value → Shared → Prop} (ok : (X.wish E).Ok) : X.Ok :=
  ⟨ok.mod, ok.kind, ok.glob, ok.blt, ok.above, ok.inj, ok.has, ok.cab, ok.hd, ok.frames, ok.stk, ok.exf, ok.bs, ok.bsz, ok.noex, ok.exfs, ok.funs, ok.frf⟩
section
variable {X : Cx} {pins : List (Addr × Obj)} {σ : St} {H : Hp} {s : Shared} {E : Value → Shared → Prop}
theorem Inv.wish (I : Inv X pins σ H s) (E : Value → Shared → Prop) : Inv (X.wish E) pins σ H s := ⟨I.ok.wish E, I.os, I.bare, I.base, I.loc, I.cell, I.free, I.freeC, I.pin, I.hok, I.len⟩
theorem Inv.unwish (I : Inv (X.wish E) pins σ H s) : Inv X pins σ H s := ⟨I.ok.unwish, I.os, I.bare, I.base, I.loc, I.cell, I.free, I.freeC, I.pin, I.hok, I.len⟩
theorem SP.unwish {D : Ends} {f : Flow} {s' : Shared} (h : SP (X.wish E) pins D f s') : SP X pins D f s' := by
  cases f with
  | next => obtain ⟨σ', H', I, q⟩ := h; exact ⟨σ', H', I.unwish, q⟩
  | brk => obtain ⟨σ', H', I, q⟩ := h; exact ⟨σ', H', I.unwish, q⟩
  | cont => obtain ⟨σ', H', I, q⟩ := h; exact ⟨σ', H', I.unwish, q⟩
  | ret u => obtain ⟨v, σ', H', I, r, q⟩ := h; exact ⟨v, σ', H', I.unwish, r, q⟩
theorem PE.nox {e : Expr} {t : TE} (h : PE X.nox e t) : PE X e t := fun pins s σ H Q I hw =>
  wpAny_mono (h pins s σ H Q (I.wish _) hw) (fun _ _ ⟨v, H', I', r, q⟩ => ⟨v, H', I'.unwish, r, q⟩) fun _ _ z => False.elim z
theorem PT.nox {e : Expr} {t : TT} (h : PT X.nox e t) : PT X e t := fun pins s σ H Q I hw =>
  wpAny_mono (h pins s σ H Q (I.wish _) hw) (fun _ _ ⟨H', I', q⟩ => ⟨H', I'.unwish, q⟩) fun _ _ z => False.elim z
theorem PSs.nox {st : List Stmt} {t : TS} (h : PSs X.nox st t) : PSs X st t := fun pins s σ H D I hw =>
  wpAny_mono (h pins s σ H D (I.wish _) hw) (fun _ _ q => q.unwish) fun _ _ z => False.elim z
end

section
variable {X : Cx} {st : Stmt} {rest : List Stmt} {t u : TS} {e : Expr} {te : TE} {pos : Pos}
def tNext : TS := fun D σ H => D.nx σ H
def tSeq (t u : TS) : TS := fun D σ H => t { D with nx := u D } σ H
theorem pss_nil : PSs X [] tNext := fun _ _ σ H _ I h => wpAny_execs_nil ⟨σ, H, I, h⟩
theorem pss_cons (h1 : PS X st t) (h2 : PSs X rest u) : PSs X (st :: rest) (tSeq t u) := by
  intro pins s σ H D I h
  refine wpAny_execs_cons (thn (h1 pins s σ H { D with nx := u D } I h) fun f s1 q => ?_)
  cases f with
  | next =>
    obtain ⟨σ', H', I', q⟩ := q
    exact h2 pins s1 σ' H' D I' q
  | ret v => exact q
  | brk => exact q
  | cont => exact q
theorem pss_one (h1 : PS X st t) : PSs X [st] t := by
  intro pins s σ H D I h
  refine wpAny_execs_cons (thn (h1 pins s σ H D I h) fun f s1 q => ?_)
  cases f with
  | next => exact wpAny_execs_nil q
  | ret v => exact q
  | brk => exact q
  | cont => exact q
def tBreak : TS := fun D σ H => D.bk σ H
def tCont : TS := fun D σ H => D.ct σ H
theorem Inv.quiet {pins : List (Addr × Obj)} {σ : St} {H : Hp} {s : Shared} (I : Inv X pins σ H s) : interactive X.env = false := by simp [interactive, I.ok.kind]
def tDrop (te : TE) : TS := fun D σ H => te σ H fun _ H1 => D.nx σ H1
theorem ps_expr (he : PE X e te) (hs : swapsWith e none pos.line X.env = pure false := by rfl) : PS X (.Expr e pos) (tDrop te) := by
  intro pins s σ H D I h
  exact wpAny_Expr_any (thn (he pins s σ H _ I h) fun v s1 ⟨x, H1, I1, r1, q1⟩ => ⟨σ, H1, I1, q1⟩) I.quiet hs
def tRet (te : TE) : TS := fun D σ H => te σ H D.rt
theorem ps_ret (he : PE X e te) : PS X (.Return (some e) pos) (tRet te) := by
  intro pins s σ H D I h
  exact wpAny_Return_some (thn (he pins s σ H _ I h) fun v s1 ⟨x, H1, I1, r1, q1⟩ => ⟨x, σ, H1, I1, r1, q1⟩)
def tRetN : TS := fun D _ H => D.rt .non H
def tIfS (c : TT) (t u : TS) : TS := fun D σ H => c σ H fun b H1 => if b = true then t D σ H1 else u D σ H1
theorem ps_if {c : Expr} {a b : List Stmt} {tc : TT} (hc : PT X c tc) (ha : PSs X a t) (hb : PSs X b u) : PS X (.If c a b pos) (tIfS tc t u) := by
  intro pins s σ H D I h
  refine wpAny_If (thn (hc pins s σ H _ I h) fun d s1 ⟨H1, I1, q1⟩ => ?_)
  cases d with
  | true => exact ha pins s1 σ H1 D I1 q1
  | false => exact hb pins s1 σ H1 D I1 q1
def tNever : TS := fun _ _ _ => False
theorem ps_never : PS X st tNever := fun _ _ _ _ _ _ h => h.elim
end

abbrev TG := V → St → Hp → (St → Hp → Prop) → Prop
abbrev TGs := List V → St → Hp → (St → Hp → Prop) → Prop
def PG (X : Cx) (target : Expr) (t : TG) : Prop :=
  ∀ (pins : List (Addr × Obj)) (s : Shared) (σ : St) (H : Hp) (v : V) (u : Value) (Q : St → Hp → Prop), Inv X pins σ H s → RelV v u → t v σ H Q →
    wpAny (model X.prog X.w) X.A (assign target X.env u) (fun _ s' => ∃ σ' H', Inv X pins σ' H' s' ∧ Q σ' H') X.xe s
def PGs (X : Cx) (ts : List Expr) (t : TGs) : Prop :=
  ∀ (pins : List (Addr × Obj)) (s : Shared) (σ : St) (H : Hp) (vs : List V) (us : List Value) (Q : St → Hp → Prop), Inv X pins σ H s → Vals vs us → t vs σ H Q →
    wpAny (model X.prog X.w) X.A (assignInOrder ((assignEach ts X.env).map (·.2)) us) (fun _ s' => ∃ σ' H', Inv X pins σ' H' s' ∧ Q σ' H') X.xe s
abbrev TSet := V → V → V → Hp → (Hp → Prop) → Prop
def PSet (X : Cx) (t : TSet) : Prop :=
  ∀ (pins : List (Addr × Obj)) (s : Shared) (σ : St) (H : Hp) (o i v : V) (ov iv u : Value) (Q : Hp → Prop), Inv X pins σ H s → RelV o ov → RelV i iv → RelV v u → t o i v H Q →
    wpAny (model X.prog X.w) X.A (setItem ov iv u) (fun _ s' => ∃ H', Inv X pins σ H' s' ∧ Q H') X.xe s
abbrev TIp := V → V → Hp → VK → Prop
def PIp (X : Cx) (op : Operator) (t : TIp) : Prop :=
  ∀ (pins : List (Addr × Obj)) (s : Shared) (σ : St) (H : Hp) (x y : V) (v u : Value) (Q : VK), Inv X pins σ H s → RelV x v → RelV y u → t x y H Q →
    wpAny (model X.prog X.w) X.A (inplaceOp op v u) (EP X pins σ Q) X.xe s
section
variable {X : Cx} {pos : Pos}
def gName (i : Nat) : TG := fun v σ H Q => Q (σ.set i (some v)) H
theorem pg_name {i : Nat} {x : Str} (hN : X.N.Nodup) (hi : X.N[i]? = some x) (hx : Loc X.env.scope x) (hf : X.fn x = true ∨ X.env.scope.names.lookup x = some .local := by first | exact .inl rfl | exact .inr rfl | assumption) : PG X (.Name x pos) (gName i) := by
  intro pins s σ H v u Q I r h
  exact wpAny_assign_Name (store_ok I hN hi hx r (fun s' I' => ⟨_, H, I', h⟩) hf)
def gNil : TGs := fun vs σ H Q => vs = [] ∧ Q σ H
def gCons (t : TG) (u : TGs) : TGs := fun vs σ H Q => ∃ v r, vs = v :: r ∧ t v σ H fun σ' H' => u r σ' H' Q
theorem pgs_nil : PGs X [] gNil := by
  intro pins s σ H vs us Q I r h
  obtain ⟨e, h⟩ := h
  subst e
  cases r
  exact assignInOrder_nil ⟨σ, H, I, h⟩
theorem pgs_cons {e : Expr} {es : List Expr} {t : TG} {u : TGs} (h1 : PG X e t) (h2 : PGs X es u)
    (hs : (assignEach (e :: es) X.env).map (·.2) = assign e X.env :: (assignEach es X.env).map (·.2) := by rfl) : PGs X (e :: es) (gCons t u) := by
  intro pins s σ H vs us Q I r h
  obtain ⟨v, vr, e1, h⟩ := h
  subst e1
  cases r with
  | cons r rr =>
    rw [hs]
    refine assignInOrder_cons (thn (h1 pins s σ H _ _ _ I r h) fun _ s1 ⟨σ1, H1, I1, q1⟩ => ?_)
    exact h2 pins s1 σ1 H1 _ _ Q I1 rr q1
def gTup (K : PySem.W.Frag) (n : Nat) (t : TGs) : TG := fun v σ H Q => ∃ a xs, v = .ref a ∧ SqT K H a xs ∧ xs.length = n ∧ t xs σ H Q
theorem pg_tup {es : List Expr} {k : Nat} {t : TGs} {n : Nat} (hc : X.calm = true) (h : PGs X es t)
    (hn : (assignEach es X.env).length = n := by rfl) (hst : (assignEach es X.env).findIdx? (·.1) = none := by rfl) : PG X (.Tuple es k pos) (gTup X.K n t) := by
  intro pins s σ H v u Q I r hw
  obtain ⟨a, xs, e1, hq, hl, hw⟩ := hw
  subst e1
  cases r
  obtain ⟨its, rv, ht, hz⟩ := I.tuple hq
  refine assign_Tuple_tuple (I.ok.hd hc) ht (by simp [hn, ← hl, rv.length]) hst fun h' hx => ?_
  have I1 : Inv X pins σ H { s with heap := h' } := I.kept (t' := s.toks) fun b o e => hx b o (Nat.ne_of_lt (Heap.lt_size e)) e
  exact h pins _ σ H xs _ Q I1 (by simpa using rv) hw
def gSub (to ti : TE) (t : TSet) : TG := fun v σ H Q => to σ H fun o H1 => ti σ H1 fun i H2 => t o i v H2 fun H3 => Q σ H3
def tAsg (te : TE) (g : TG) : TS := fun D σ H => te σ H fun x H1 => g x σ H1 D.nx
theorem ps_asg {tg e : Expr} {te : TE} {g : TG} (he : PE X e te) (hg : PG X tg g) (hs : swapsWithSole [tg] e pos.line X.env = pure false := by rfl) (hw : swappedStores [tg] e X.env = pure none := by rfl)
    (h1 : (assignEach [tg] X.env).map (·.2) = [assign tg X.env] := by rfl) : PS X (.Assign [tg] e pos) (tAsg te g) := by
  intro pins s σ H D I h
  refine wpAny_Assign_stores (thn (he pins s σ H _ I h) fun v s1 ⟨x, H1, I1, r1, q1⟩ => ?_) hs hw
  rw [h1]
  exact thn (hg pins s1 σ H1 x v _ I1 r1 q1) fun _ s2 q => q
theorem ps_set {i : Nat} {x : Str} {e : Expr} {te : TE} {pos' : Pos} (hN : X.N.Nodup) (hi : X.N[i]? = some x) (hx : Loc X.env.scope x) (he : PE X e te) (hs : swapsWith e (some (.Name x pos')) pos.line X.env = pure false := by rfl) (hf : X.fn x = true ∨ X.env.scope.names.lookup x = some .local := by first | exact .inl rfl | exact .inr rfl | assumption) :
    PS X (.Assign [.Name x pos'] e pos) (tAsg te (gName i)) := by
  intro pins s σ H D I h
  refine wpAny_Assign_Name (thn (he pins s σ H _ I h) fun v s1 ⟨y, H1, I1, r1, q1⟩ => ?_) hs
  exact store_ok I1 hN hi hx r1 (fun s2 I2 => ⟨_, H1, I2, q1⟩) hf
def tPar (i j : Nat) (ta : TA) : TS := fun D σ H => ta σ H fun vs H1 => ∃ v w, vs = [v, w] ∧ D.nx ((σ.set i (some v)).set j (some w)) H1
theorem ps_par {i j : Nat} {x y : Str} {a b : Expr} {ta : TA} {px py pt : Pos} {kt k2 pt2} (hc : X.calm = true) (hN : X.N.Nodup) (hi : X.N[i]? = some x) (hj : X.N[j]? = some y) (hij : i ≠ j)
    (hx : X.env.scope.names.lookup x = some .local) (hy : X.env.scope.names.lookup y = some .local) (ha : PA X [a, b] ta)
    (hw : swappedStores [.Tuple [.Name x px, .Name y py] kt pt] (.Tuple [a, b] k2 pt2) X.env = pure (some [x, y]))
    (hs : swapsWithSole [.Tuple [.Name x px, .Name y py] kt pt] (.Tuple [a, b] k2 pt2) pos.line X.env = pure false := by rfl) :
    PS X (.Assign [.Tuple [.Name x px, .Name y py] kt pt] (.Tuple [a, b] k2 pt2) pos) (tPar i j ta) := by
  intro pins s σ H D I h
  rw [exec_Assign_arm]
  refine wpAny_bind (wpAny_standAt ?_)
  rw [hs]
  refine wpAny_bind (wpAny_pure ?_)
  rw [if_neg (by decide)]
  refine wpAny_bind (Tuple_ (thn (ha _ pins s σ H _ I h) fun us s1 ⟨vs, H1, I1, r1, q1⟩ => ?_))
  obtain ⟨v, w, e1, q1⟩ := q1
  subst e1
  obtain ⟨u1, u2, rfl, rv, rw'⟩ : ∃ u1 u2, us = [u1, u2] ∧ RelV v u1 ∧ RelV w u2 := by
    cases r1 with
    | cons p q =>
      cases q with
      | cons p' q' =>
        cases q'
        exact ⟨_, _, rfl, p, p'⟩
  refine wpAny_newObj_type ?_ (by show 2 ≤ sizeLine; decide)
  have I2 : Inv X pins σ H1 { s1 with heap := s1.heap.push { cls := .type "tuple", data := .seq [u1, u2].toArray } } := I1.kept (t' := s1.toks) fun b o e => Heap.get?_push_of_some _ e
  rw [hw]
  refine wpAny_bind (wpAny_pure ?_)
  show wpAny (model X.prog X.w) X.A (do rule "assign.swapped-stores"; let items ← unpackItems (.ref s1.heap.objs.size) 2 none; assignInOrder [fun v => bindName X.env y v, fun v => bindName X.env x v] items.reverse; pure Flow.next) _ _ _
  refine wpAny_bind (wpAny_rule (wpAny_bind (unpackItems_tuple (items := #[u1, u2]) (I.ok.hd hc) (IsTup.new s1.heap _) fun h' hx' => ?_)))
  have I3 := I2.kept (h' := h') (t' := s1.toks) fun b o e => hx' b o (Nat.ne_of_lt (Heap.lt_size e)) e
  show wpAny _ _ (assignInOrder [fun v => bindName X.env y v, fun v => bindName X.env x v] [u2, u1] >>= fun _ => pure Flow.next) _ _ _
  refine wpAny_bind (assignInOrder_cons (wpAny_bindName (store_ok I3 hN hj (.inl hy) rw' (fun s2 I4 => ?_) (.inr hy))))
  refine assignInOrder_cons (wpAny_bindName (store_ok I4 hN hi (.inl hx) rv (fun s3 I5 => assignInOrder_nil (wpAny_pure ?_)) (.inr hx)))
  rw [List.set_comm _ _ (Ne.symm hij)] at I5
  exact ⟨_, H1, I5, q1⟩
def tAug (i : Nat) (te : TE) (ti : TIp) : TS := fun D σ H => ∃ x, σ[i]? = some (some x) ∧ te σ H fun y H1 => ti x y H1 fun z H2 => D.nx (σ.set i (some z)) H2
def tAugS (to ti te : TE) (tget : V → V → Hp → VK → Prop) (tip : TIp) (tset : TSet) : TS := fun D σ H => to σ H fun o H1 => ti σ H1 fun i H2 => tget o i H2 fun x H3 => te σ H3 fun y H4 => tip x y H4 fun z H5 => tset o i z H5 fun H6 => D.nx σ H6
def PGet (X : Cx) (t : V → V → Hp → VK → Prop) : Prop :=
  ∀ (pins : List (Addr × Obj)) (s : Shared) (σ : St) (H : Hp) (o i : V) (ov iv : Value) (Q : VK), Inv X pins σ H s → RelV o ov → RelV i iv → t o i H Q →
    wpAny (model X.prog X.w) X.A (getItem ov iv) (EP X pins σ Q) X.xe s
def ipI (f : Int → Int → Int) : TIp := fun x y H Q => ∃ i j, x = .int i ∧ y = .int j ∧ Q (.int (f i j)) H
end

section
variable {X : Cx} {pos : Pos}
def tWhile (c : TT) (tb : TS) : TS := fun D σ H => ∃ W : Nat → St → Hp → Prop, (∃ m, W m σ H) ∧ ∀ m σ H, W m σ H →
  c σ H fun b H1 => if b = true then ∃ N : St → Hp → Prop, (∀ σ' H', N σ' H' → ∃ m', m' < m ∧ W m' σ' H') ∧ tb { D with nx := N, ct := N, bk := D.nx } σ H1 else D.nx σ H1
theorem ps_while {c : Expr} {body : List Stmt} {tc : TT} {tb : TS} (hp : PassesOwn (model X.prog X.w) X.A X.env X.xe) (hc : PT X c tc) (hb : PSs X body tb) : PS X (.While c body [] pos) (tWhile tc tb) := by
  intro pins s σ H D I h
  obtain ⟨W, ⟨m0, w0⟩, turn⟩ := h
  refine wpAny_While (codeAny_whileLoop (fun n s' => ∃ σ' H', Inv X pins σ' H' s' ∧ W n σ' H') ?_ m0 ⟨σ, H, I, w0⟩)
  rintro n s1 ⟨σ1, H1, I1, w1⟩
  refine wpAny_passesOwn hp (thn (hc pins s1 σ1 H1 _ I1 (turn n σ1 H1 w1)) fun b s2 ⟨H2, I2, q2⟩ => ?_)
  cases b with
  | true =>
    obtain ⟨N, hN, q2⟩ := q2
    rw [if_pos rfl]
    refine wpAny_passesOwn hp (thn (hb pins s2 σ1 H2 _ I2 q2) fun f s3 q3 => ?_)
    cases f with
    | next =>
      obtain ⟨σ3, H3, I3, n3⟩ := q3
      obtain ⟨m', hm, w3⟩ := hN σ3 H3 n3
      exact ⟨m', hm, σ3, H3, I3, w3⟩
    | cont =>
      obtain ⟨σ3, H3, I3, n3⟩ := q3
      obtain ⟨m', hm, w3⟩ := hN σ3 H3 n3
      exact ⟨m', hm, σ3, H3, I3, w3⟩
    | brk => exact q3
    | ret v => exact q3
  | false =>
    rw [if_neg Bool.false_ne_true]
    exact wpAny_execs_nil ⟨σ1, H2, I2, q2⟩
end

structure It where
  go : Nat → Hp → Prop
  yld : Nat → Hp → V → Hp → Prop
  stop : Nat → Hp → Prop
def FpOk (X : Cx) (pins : List (Addr × Obj)) (H : Hp) (b : Addr) : Prop :=
  H b = none ∧ b ≠ X.env.locals ∧ b ∉ X.fs ∧ (b ∈ X.ex ∨ X.s₀.heap.objs.size ≤ b) ∧ (∀ x c, X.env.cells.lookup x = some c → c ≠ b) ∧ ∀ p ∈ X.pn ++ pins, p.1 ≠ b
theorem Inv.fpOk {X : Cx} {pins : List (Addr × Obj)} {σ : St} {H H' : Hp} {s : Shared} {b : Addr} (I : Inv X pins σ H s) (hb : s.heap.objs.size ≤ b) (hn : H' b = none) : FpOk X pins H' b := by
  refine ⟨hn, Nat.ne_of_gt (Nat.lt_of_lt_of_le I.lt hb), I.nofs hb, .inr (Nat.le_trans I.sz hb), fun x c e z => ?_, fun p hp z => ?_⟩
  · obtain ⟨v, q⟩ := I.cell x c e
    exact absurd (Nat.lt_of_lt_of_le q.lt (by rw [z]; exact hb)) (Nat.lt_irrefl _)
  · exact absurd (Nat.lt_of_lt_of_le (Heap.lt_size (I.pin p hp).1) (by rw [z]; exact hb)) (Nat.lt_irrefl _)
structure Turn (P : Program) (w : World) (K : PySem.W.Frag) (tg : Expr) (J : It) (fp : List Addr) (it : Addr) (tn : Nat → Heap → Prop) : Prop where
  mem : it ∈ fp
  obj : ∀ i h, tn i h → ∀ b ∈ fp, ∃ o, h.get? b = some o ∧ ∀ v, o.data ≠ .cell v
  keep : ∀ i h h', tn i h → (∀ b ∈ fp, ∀ o, h.get? b = some o → h'.get? b = some o) → tn i h'
  item : ∀ (X : Cx), X.prog = P → X.w = w → X.K = K → X.calm = true → ∀ (i : Nat) (pins : List (Addr × Obj)) (s : Shared) (σ : St) (H : Hp) (E : Value → Shared → Prop), Inv X pins σ H s → (∀ b ∈ fp, FpOk X pins H b) → tn i s.heap → J.go i H →
    wpAny (model P w) X.A (pyNext (.ref it)) (fun r s1 => ∃ u, r = some u ∧
      wpAny (model P w) X.A (letOwnedTupleGo tg (.ref it) u) (fun _ s2 => ∃ x H', Inv X pins σ H' s2 ∧ RelV x u ∧ J.yld i H x H' ∧ tn (i + 1) s2.heap ∧ ∀ b ∈ fp, H' b = none) E s1) E s
  done : ∀ (X : Cx), X.prog = P → X.w = w → X.K = K → X.calm = true → ∀ (i : Nat) (pins : List (Addr × Obj)) (s : Shared) (σ : St) (H : Hp) (E : Value → Shared → Prop), Inv X pins σ H s → (∀ b ∈ fp, FpOk X pins H b) → tn i s.heap → J.stop i H →
    wpAny (model P w) X.A (pyNext (.ref it)) (fun r s1 => r = none ∧ Inv X pins σ H s1) E s
  self : ∀ (A : Around) (i : Nat) (s : Shared) (Q : Value → Shared → Prop) (E : Value → Shared → Prop), tn i s.heap → Q (.ref it) s → wpAny (model P w) A (pyIter (.ref it)) Q E s
abbrev TI := St → Hp → (It → Hp → Prop) → Prop
def PIE (X : Cx) (pins : List (Addr × Obj)) (σ : St) (tg : Expr) (R : It → Hp → Prop) (itv : Value) (s2 : Shared) : Prop :=
  ∃ (it : Addr) (fp : List Addr) (tn : Nat → Heap → Prop) (J : It) (H' : Hp), itv = .ref it ∧ Inv X pins σ H' s2 ∧ Turn X.prog X.w X.K tg J fp it tn ∧ tn 0 s2.heap ∧ (∀ b ∈ fp, FpOk X pins H' b) ∧ R J H'
def PI (X : Cx) (tg iter : Expr) (wi : TI) : Prop :=
  ∀ (pins : List (Addr × Obj)) (s : Shared) (σ : St) (H : Hp) (R : It → Hp → Prop), Inv X pins σ H s → wi σ H R →
    wpAny (model X.prog X.w) X.A (eval iter X.env) (fun v s1 => wpAny (model X.prog X.w) X.A (pyIter v) (PIE X pins σ tg R) X.xe s1) X.xe s

theorem go_of {M : Model} {A : Around} {E : Value → Shared → Prop} {s : Shared} {tg : Expr} {it : Addr} {u : Value} {o : Obj} {n : String} {vs : Array Value} {Q : Unit → Shared → Prop} (ho : s.heap.get? it = some o) (hc : o.cls = .type n) (hd : o.data = .fields vs)
    (hn : ["enumerate", "zip", "dict_itemiterator", "dict_reverseitemiterator", "odict_iterator", "itertools.zip_longest", "itertools.pairwise"].contains n = false) (hQ : Q () s) : wpAny M A (letOwnedTupleGo tg (.ref it) u) Q E s := by
  unfold letOwnedTupleGo
  cases tg <;> first
    | exact wpAny_pure hQ
    | (cases u <;> first
        | exact wpAny_pure hQ
        | (refine wpAny_bind (wpAny_load ho ?_)
           rw [hc, hd]
           show wpAny M A (if (["enumerate", "zip", "dict_itemiterator", "dict_reverseitemiterator", "odict_iterator", "itertools.zip_longest", "itertools.pairwise"].contains n && vs[0]? == some (rawInt _)) = true then _ else _) Q E s
           rw [if_neg (by intro h; rw [hn, Bool.false_and] at h; cases h)]
           exact wpAny_pure hQ))

def Itl (K : PySem.W.Frag) (a : Addr) : It :=
  ⟨fun i H => ∃ xs x, SqL K H a xs ∧ xs[i]? = some x, fun i H x H' => H' = H ∧ ∀ xs, SqL K H a xs → xs[i]? = some x, fun i H => ∃ xs, SqL K H a xs ∧ xs.length ≤ i⟩
def Itt (K : PySem.W.Frag) (a : Addr) : It :=
  ⟨fun i H => ∃ xs x, SqT K H a xs ∧ xs[i]? = some x, fun i H x H' => H' = H ∧ ∀ xs, SqT K H a xs → xs[i]? = some x, fun i H => ∃ xs, SqT K H a xs ∧ xs.length ≤ i⟩
def Itr (lo : Int) (n : Nat) : It := ⟨fun i _ => i < n, fun i H x H' => H' = H ∧ x = .int (lo + i), fun i _ => n ≤ i⟩
theorem turn_list {P : Program} {w : World} {K : PySem.W.Frag} {tg : Expr} (a it : Addr) : Turn P w K tg (Itl K a) [it] it (fun i h => h.IsListIter it a i) where
  mem := by simp
  obj := fun i h st b hb => by
    have e : b = it := by simpa using hb
    subst e
    obtain ⟨o, e, c, d⟩ := st
    exact ⟨o, e, fun v z => by rw [d] at z; cases z⟩
  keep := fun i h h' st k => st.at fun o e => k it (by simp) o e
  item := by
    intro X hP hw hK hc i pins s σ H E I hf st hg
    subst hP hw hK
    obtain ⟨xs, x, hq, hx⟩ := hg
    obtain ⟨its, rv, p, hz⟩ := I.list hq
    obtain ⟨u, hu, ru⟩ := rv.get hx
    obtain ⟨f0, f1, f2, f3, f4, f5⟩ := hf it (by simp)
    refine wpAny_pyNext_list_item st p.isList (x := u) (by simpa using hu) fun h' st' sb => ?_
    have I1 : Inv X pins σ H { s with heap := h' } := I.turned (t' := s.toks) (fun b o hb e => (sb.2 b hb).trans e) f0 f1 f3 f4 f5
    obtain ⟨o, e, c, d⟩ := id st'
    exact ⟨u, rfl, go_of (s := { s with heap := h' }) e c d (by decide) ⟨x, H, I1, ru, ⟨rfl, fun ys hy => by rw [I.list_inj hy hq]; exact hx⟩, st', fun b hb => (hf b hb).1⟩⟩
  done := by
    intro X hP hw hK hc i pins s σ H E I hf st hg
    subst hP hw hK
    obtain ⟨xs, hq, hx⟩ := hg
    obtain ⟨its, rv, p, hz⟩ := I.list hq
    obtain ⟨f0, f1, f2, f3, f4, f5⟩ := hf it (by simp)
    have hl := rv.length
    exact wpAny_pyNext_list_end (I.ok.hd hc) st p.isList (by simp; omega) fun h' eb => ⟨rfl, I.turned (t' := s.toks) (fun b o hb e => eb b o hb e) f0 f1 f3 f4 f5⟩
  self := fun _ _ _ _ _ st h => wpAny_pyIter_listiter st h
theorem turn_tuple {P : Program} {w : World} {K : PySem.W.Frag} {tg : Expr} (a it : Addr) : Turn P w K tg (Itt K a) [it] it (fun i h => h.IsTupleIter it a i) where
  mem := by simp
  obj := fun i h st b hb => by
    have e : b = it := by simpa using hb
    subst e
    obtain ⟨o, e, c, d⟩ := st
    exact ⟨o, e, fun v z => by rw [d] at z; cases z⟩
  keep := fun i h h' st k => st.at fun o e => k it (by simp) o e
  item := by
    intro X hP hw hK hc i pins s σ H E I hf st hg
    subst hP hw hK
    obtain ⟨xs, x, hq, hx⟩ := hg
    obtain ⟨its, rv, p, hz⟩ := I.tuple hq
    obtain ⟨u, hu, ru⟩ := rv.get hx
    obtain ⟨f0, f1, f2, f3, f4, f5⟩ := hf it (by simp)
    refine wpAny_pyNext_tuple_item st (show s.heap.IsTuple a its.toArray from p) (x := u) (by simpa using hu) fun h' st' sb => ?_
    have I1 : Inv X pins σ H { s with heap := h' } := I.turned (t' := s.toks) (fun b o hb e => (sb.2 b hb).trans e) f0 f1 f3 f4 f5
    obtain ⟨o, e, c, d⟩ := id st'
    exact ⟨u, rfl, go_of (s := { s with heap := h' }) e c d (by decide) ⟨x, H, I1, ru, ⟨rfl, fun ys hy => by rw [I.tuple_inj hy hq]; exact hx⟩, st', fun b hb => (hf b hb).1⟩⟩
  done := by
    intro X hP hw hK hc i pins s σ H E I hf st hg
    subst hP hw hK
    obtain ⟨xs, hq, hx⟩ := hg
    obtain ⟨its, rv, p, hz⟩ := I.tuple hq
    obtain ⟨f0, f1, f2, f3, f4, f5⟩ := hf it (by simp)
    have hl := rv.length
    exact wpAny_pyNext_tuple_end (I.ok.hd hc) st (show s.heap.IsTuple a its.toArray from p) (by simp; omega) fun h' eb => ⟨rfl, I.turned (t' := s.toks) (fun b o hb e => eb b o hb e) f0 f1 f3 f4 f5⟩
  self := fun _ _ _ _ _ st h => wpAny_pyIter_tupleiter st h
theorem turn_range {P : Program} {w : World} {K : PySem.W.Frag} {tg : Expr} (it : Addr) (lo : Int) (n : Nat) : Turn P w K tg (Itr lo n) [it] it (fun i h => IsRangeIter h it (lo + (i : Nat) * 1) ((n : Int) - (i : Nat)) 1) where
  mem := by simp
  obj := fun i h st b hb => by
    have e : b = it := by simpa using hb
    subst e
    exact ⟨_, st, fun v z => by
      have z' : Data.fields _ = Data.cell v := z
      cases z'⟩
  keep := fun i h h' st k => k it (by simp) _ st
  item := by
    intro X hP hw hK hc i pins s σ H E I hf st hg
    subst hP hw hK
    obtain ⟨f0, f1, f2, f3, f4, f5⟩ := hf it (by simp)
    have W := Walks.range (prog := X.prog) (w := X.w) (I.ok.hd hc) it lo 1 n
    refine W.item i s _ _ hg st fun v h' tk hv st' kk => ?_
    obtain ⟨t, rfl⟩ := hv
    have I1 : Inv X pins σ H { s with heap := h', toks := tk } := I.turned (fun b o hb e => kk b o (by simpa using hb) e) f0 f1 f3 f4 f5
    refine ⟨_, rfl, go_of (s := { s with heap := h', toks := tk }) (n := "range_iterator") st' rfl rfl (by decide) ⟨.int (lo + i), H, I1, ⟨t, ?_⟩, ⟨rfl, rfl⟩, st', fun b hb => (hf b hb).1⟩⟩
    rw [Int.mul_one]
  done := by
    intro X hP hw hK hc i pins s σ H E I hf st hg
    subst hP hw hK
    obtain ⟨f0, f1, f2, f3, f4, f5⟩ := hf it (by simp)
    exact wpAny_pyNext_range_end (I.ok.hd hc) st (by have : n ≤ i := hg; omega) fun h' eb => ⟨rfl, I.turned (t' := s.toks) (fun b o hb e => eb b o hb e) f0 f1 f3 f4 f5⟩
  self := fun _ _ _ _ _ st h => wpAny_pyIter_rangeiter st h
end L2

namespace L2
open PySem PySem.Spec PyProof.Rows
section
variable {X : Cx} {tg : Expr}
def iList (K : PySem.W.Frag) (tl : TE) : TI := fun σ H R => tl σ H fun x H1 => ∃ a, x = .ref a ∧ (∃ xs, SqL K H1 a xs) ∧ R (Itl K a) H1
def iTup (K : PySem.W.Frag) (tl : TE) : TI := fun σ H R => tl σ H fun x H1 => ∃ a, x = .ref a ∧ (∃ xs, SqT K H1 a xs) ∧ R (Itt K a) H1
theorem pi_list {l : Expr} {tl : TE} (hl : PE X l tl) : PI X tg l (iList X.K tl) := by
  intro pins s σ H R I h
  refine thn (hl pins s σ H _ I h) fun v s1 ⟨x, H1, I1, r1, q1⟩ => ?_
  obtain ⟨a, e, ⟨xs, hq⟩, q⟩ := q1
  subst e
  cases r1
  obtain ⟨its, rv, p, hz⟩ := I1.list hq
  refine wpAny_pyIter_list p.isList ?_
  refine ⟨s1.heap.objs.size, [s1.heap.objs.size], _, _, H1, rfl, I1.kept (t' := s1.toks) fun b o e => Heap.get?_push_of_some _ e, turn_list a _, ⟨_, Heap.get?_push_size _ rfl, rfl, rfl⟩, fun b hb => ?_, q⟩
  have e : b = s1.heap.objs.size := by simpa using hb
  subst e
  exact I1.fpOk (Nat.le_refl _) (I1.hok.fresh (Nat.le_refl _))
theorem pi_tup {l : Expr} {tl : TE} (hl : PE X l tl) : PI X tg l (iTup X.K tl) := by
  intro pins s σ H R I h
  refine thn (hl pins s σ H _ I h) fun v s1 ⟨x, H1, I1, r1, q1⟩ => ?_
  obtain ⟨a, e, ⟨xs, hq⟩, q⟩ := q1
  subst e
  cases r1
  obtain ⟨its, rv, p, hz⟩ := I1.tuple hq
  refine wpAny_pyIter_tuple (show s1.heap.IsTuple a its.toArray from p) ?_
  refine ⟨s1.heap.objs.size, [s1.heap.objs.size], _, _, H1, rfl, I1.kept (t' := s1.toks) fun b o e => Heap.get?_push_of_some _ e, turn_tuple a _, ⟨_, Heap.get?_push_size _ rfl, rfl, rfl⟩, fun b hb => ?_, q⟩
  have e : b = s1.heap.objs.size := by simpa using hb
  subst e
  exact I1.fpOk (Nat.le_refl _) (I1.hok.fresh (Nat.le_refl _))
theorem range_it {pins : List (Addr × Obj)} {σ : St} {H : Hp} {s : Shared} {R : It → Hp → Prop} {E : Value → Shared → Prop} {lo hi : Int} {t u v : Tok} {tk : Nat} (I : Inv X pins σ H s) (h1 : -(2 ^ 62) ≤ lo) (h2 : lo < 2 ^ 62) (h3 : -(2 ^ 62) ≤ hi) (h4 : hi < 2 ^ 62)
    (q : R (Itr lo (hi - lo).toNat) H) : wpAny (model X.prog X.w) X.A (pyIter (.ref s.heap.objs.size)) (PIE X pins σ tg R) E { s with heap := s.heap.push { cls := .type "range", data := .fields #[.int lo t, .int hi u, .int 1 v] }, toks := tk } := by
  refine wpAny_pyIter_range (IsRange.new ..) (small_one h1 h2 h3 h4) ?_
  have I1 : Inv X pins σ H { s with heap := s.heap.push { cls := .type "range", data := .fields #[.int lo t, .int hi u, .int 1 v] }, toks := tk } := I.kept fun b o e => Heap.get?_push_of_some _ e
  refine ⟨(s.heap.push { cls := .type "range", data := .fields #[.int lo t, .int hi u, .int 1 v] }).objs.size, [(s.heap.push { cls := .type "range", data := .fields #[.int lo t, .int hi u, .int 1 v] }).objs.size], _, _, H, rfl,
    I1.kept (t' := tk) fun b o e => Heap.get?_push_of_some _ e, turn_range _ lo (hi - lo).toNat, ?_, fun b hb => ?_, q⟩
  · have e1 : lo + ((0 : Nat) : Int) * 1 = lo := by simp
    have e2 : (((hi - lo).toNat : Nat) : Int) - ((0 : Nat) : Int) = Builtin.Range.rangeSize lo hi 1 := by rw [rangeSize_one]; split <;> omega
    show IsRangeIter _ _ (lo + ((0 : Nat) : Int) * 1) ((((hi - lo).toNat : Nat) : Int) - ((0 : Nat) : Int)) 1
    rw [e1, e2]
    exact Heap.get?_push_size _ rfl
  · have e : b = (s.heap.push { cls := .type "range", data := .fields #[.int lo t, .int hi u, .int 1 v] }).objs.size := by simpa using hb
    subst e
    exact I1.fpOk (Nat.le_refl _) (I1.hok.fresh (Nat.le_refl _))
def iRng1 (ta : TA) : TI := fun σ H R => ta σ H fun vs H1 => ∃ j : Int, vs = [.int j] ∧ -(2 ^ 62) ≤ j ∧ j < 2 ^ 62 ∧ R (Itr 0 j.toNat) H1
def iRng2 (ta : TA) : TI := fun σ H R => ta σ H fun vs H1 => ∃ i j : Int, vs = [.int i, .int j] ∧ (-(2 ^ 62) ≤ i ∧ i < 2 ^ 62 ∧ -(2 ^ 62) ≤ j ∧ j < 2 ^ 62) ∧ R (Itr i (j - i).toNat) H1
theorem pi_range1 {a : Expr} {ta : TA} {p pos : Pos} (hg : Gl X "range") (hm : X.mg "range" = none) (ha : PA X [a] ta) (hs : starEach [a] X.env = [(false, eval a X.env)] := by rfl) : PI X tg (.Call (.Name "range" p) [a] [] pos) (iRng1 ta) := by
  intro pins s σ H R I h
  refine Call_ (ld_blt I hg hm boot_range (PyProof.Rows.callWith_type1 (thn (ha pos pins s σ H _ I h) fun us s1 ⟨vs, H1, I1, r1, q1⟩ => ?_) hs rfl))
  obtain ⟨j, e, q1, q2, q⟩ := q1
  subst e
  cases r1 with
  | cons r rr =>
    cases rr
    obtain ⟨t, rfl⟩ := r
    exact call_range_1 (range_it I1 (by omega) (by omega) q1 q2 (by simpa using q))
def tFor (wi : TI) (g : TG) (tb : TS) : TS := fun D σ H => wi σ H fun J H1 => ∃ W : Nat → Nat → St → Hp → Prop, (∃ m, W 0 m σ H1) ∧ ∀ i m σ H, W i m σ H →
  (J.stop i H ∧ D.nx σ H) ∨ (J.go i H ∧ ∃ N : St → Hp → Prop, (∀ σ' H', N σ' H' → ∃ m', m' < m ∧ W (i + 1) m' σ' H') ∧ ∀ x H', J.yld i H x H' → g x σ H' fun σ2 H2 => tb { D with nx := N, ct := N, bk := D.nx } σ2 H2)
def pinsAt (fp : List Addr) (h : Heap) : List (Addr × Obj) := fp.filterMap fun b => (h.get? b).map fun o => (b, o)
theorem mem_pinsAt {fp : List Addr} {h : Heap} {b : Addr} {o : Obj} (hb : b ∈ fp) (e : h.get? b = some o) : (b, o) ∈ pinsAt fp h := List.mem_filterMap.mpr ⟨b, hb, by rw [e]; rfl⟩
theorem of_pinsAt {fp : List Addr} {h : Heap} {p : Addr × Obj} (hp : p ∈ pinsAt fp h) : p.1 ∈ fp ∧ h.get? p.1 = some p.2 := by
  obtain ⟨b, hb, e⟩ := List.mem_filterMap.mp hp
  cases q : h.get? b with
  | none => rw [q] at e; cases e
  | some o =>
    rw [q] at e
    have e' : (b, o) = p := Option.some.inj e
    subst e'
    exact ⟨hb, q⟩
theorem Inv.pinned {pins : List (Addr × Obj)} {σ : St} {H : Hp} {s : Shared} {fp : List Addr} (I : Inv X pins σ H s) (hf : ∀ b ∈ fp, FpOk X pins H b) (ho : ∀ b ∈ fp, ∃ o, s.heap.get? b = some o ∧ ∀ v, o.data ≠ .cell v) : Inv X (pins ++ pinsAt fp s.heap) σ H s :=
  I.pins_of fun p hp => (List.mem_append.mp hp).elim (fun z => I.pin p (List.mem_append_right _ z)) fun z => by
    obtain ⟨hb, e⟩ := of_pinsAt z
    obtain ⟨f0, f1, f2, _⟩ := hf p.1 hb
    obtain ⟨o, e', d⟩ := ho p.1 hb
    rw [e] at e'; cases e'
    exact ⟨e, f0, f1, f2, d⟩
theorem Inv.unpinned {pins pl : List (Addr × Obj)} {σ : St} {H : Hp} {s : Shared} (I : Inv X (pins ++ pl) σ H s) : Inv X pins σ H s := I.pins_of fun p hp => I.pin p (List.mem_append_right _ (List.mem_append_left _ hp))
theorem ps_for {iter : Expr} {body : List Stmt} {wi : TI} {g : TG} {tb : TS} {pos : Pos} (hp : PassesOwn (model X.prog X.w) X.A X.env X.xe) (hc : X.calm = true) (hi : PI X tg iter wi) (hg : PG X tg g) (hb : PSs X body tb)
    (hs : ∀ x, foldedSetIterable iter X.env x = pure x := by intro _; rfl) : PS X (.For tg iter body [] pos) (tFor wi g tb) := by
  intro pins s σ H D I h
  refine wpAny_For (thn (hi pins s σ H _ I h) fun v s1 h1 => thn h1 fun itv s2 h2 => ?_) hs
  obtain ⟨it, fp, tn, J, H2, e, I2, T, st2, f2, W, ⟨m0, w0⟩, turn⟩ := h2
  subst e
  -- what stays true of the iterator's objects through the loop
  have stat : ∀ {H' : Hp}, (∀ b ∈ fp, H' b = none) → ∀ b ∈ fp, FpOk X pins H' b := fun hn b hb => ⟨hn b hb, (f2 b hb).2⟩
  refine codeAny_forLoop_any (fun n s' => ∃ i σ' H', Inv X pins σ' H' s' ∧ tn i s'.heap ∧ (∀ b ∈ fp, H' b = none) ∧ W i n σ' H') ?_ m0 ⟨0, σ, H2, I2, st2, fun b hb => (f2 b hb).1, w0⟩
  rintro n s3 ⟨i, σ3, H3, I3, st3, fr3, w3⟩
  rcases turn i n σ3 H3 w3 with ⟨stop, qn⟩ | ⟨go, N, hN, step⟩
  · refine wpAny_passesOwn hp (thn (T.done X rfl rfl rfl hc i pins s3 σ3 H3 X.xe I3 (stat fr3) st3 stop) fun r s4 ⟨hr, I4⟩ => ?_)
    subst hr
    exact wpAny_execs_nil ⟨σ3, H3, I4, qn⟩
  · refine wpAny_passesOwn hp (thn (T.item X rfl rfl rfl hc i pins s3 σ3 H3 X.xe I3 (stat fr3) st3 go) fun r s4 ⟨u, hr, h4⟩ => ?_)
    subst hr
    refine wpAny_passesOwn hp (thn h4 fun _ s5 ⟨x, H5, I5, r5, y5, st5, fr5⟩ => ?_)
    have I5' := I5.pinned (stat fr5) (T.obj _ _ st5)
    refine wpAny_passesOwn hp (thn (hg _ s5 σ3 H5 x u _ I5' r5 (step x H5 y5)) fun _ s6 ⟨σ6, H6, I6, q6⟩ => ?_)
    refine wpAny_passesOwn hp (thn (hb _ s6 σ6 H6 _ I6 q6) fun f s7 q7 => ?_)
    have again : ∀ {σ7 : St} {H7 : Hp}, Inv X (pins ++ pinsAt fp s5.heap) σ7 H7 s7 → N σ7 H7 → ∃ m, m < n ∧ ∃ i σ' H', Inv X pins σ' H' s7 ∧ tn i s7.heap ∧ (∀ b ∈ fp, H' b = none) ∧ W i m σ' H' := fun {σ7 H7} I7 n7 => by
      obtain ⟨m', hm, w7⟩ := hN σ7 H7 n7
      refine ⟨m', hm, i + 1, σ7, H7, I7.unpinned, T.keep _ _ _ st5 fun b hb o e => (I7.pin (b, o) (List.mem_append_right _ (List.mem_append_right _ (mem_pinsAt hb e)))).1, fun b hb => ?_, w7⟩
      obtain ⟨o, e, d⟩ := T.obj _ _ st5 b hb
      exact (I7.pin (b, o) (List.mem_append_right _ (List.mem_append_right _ (mem_pinsAt hb e)))).2.1
    cases f with
    | next => obtain ⟨σ7, H7, I7, n7⟩ := q7; exact again I7 n7
    | cont => obtain ⟨σ7, H7, I7, n7⟩ := q7; exact again I7 n7
    | brk => obtain ⟨σ7, H7, I7, q7⟩ := q7; exact ⟨σ7, H7, I7.unpinned, q7⟩
    | ret v => obtain ⟨x7, σ7, H7, I7, r7, q7⟩ := q7; exact ⟨x7, σ7, H7, I7.unpinned, r7, q7⟩
end

theorem for_list {K : PySem.W.Frag} {a : Addr} {xs : List V} {g : TG} {tb : TS} {D : Ends} {σ : St} {H : Hp} (Pv : Nat → St → Hp → Prop) (h0 : Pv 0 σ H) (hl : ∀ i σ H, i ≤ xs.length → Pv i σ H → SqL K H a xs)
    (hs : ∀ i x σ H, xs[i]? = some x → Pv i σ H → g x σ H fun σ2 H2 => tb { D with nx := Pv (i + 1), ct := Pv (i + 1), bk := D.nx } σ2 H2) (hd : ∀ σ H, Pv xs.length σ H → D.nx σ H) :
    ∃ W : Nat → Nat → St → Hp → Prop, (∃ m, W 0 m σ H) ∧ ∀ i m σ H, W i m σ H →
      ((Itl K a).stop i H ∧ D.nx σ H) ∨ ((Itl K a).go i H ∧ ∃ N : St → Hp → Prop, (∀ σ' H', N σ' H' → ∃ m', m' < m ∧ W (i + 1) m' σ' H') ∧ ∀ x H', (Itl K a).yld i H x H' → g x σ H' fun σ2 H2 => tb { D with nx := N, ct := N, bk := D.nx } σ2 H2) := by
  refine ⟨fun i m σ H => m = xs.length - i ∧ i ≤ xs.length ∧ Pv i σ H, ⟨xs.length, by simp, Nat.zero_le _, h0⟩, ?_⟩
  rintro i m σ H ⟨rfl, hi, p⟩
  have q := hl i σ H hi p
  by_cases hlt : i < xs.length
  · refine .inr ⟨⟨xs, xs[i], q, by simp [hlt]⟩, Pv (i + 1), fun σ' H' p' => ⟨xs.length - (i + 1), by omega, rfl, hlt, p'⟩, fun x H' y => ?_⟩
    obtain ⟨e, y⟩ := y
    subst e
    exact hs i x σ _ (y xs q) p
  · have e : i = xs.length := by omega
    subst e
    exact .inl ⟨⟨xs, q, Nat.le_refl _⟩, hd σ H p⟩
theorem for_range {lo : Int} {n : Nat} {g : TG} {tb : TS} {D : Ends} {σ : St} {H : Hp} (Pv : Nat → St → Hp → Prop) (h0 : Pv 0 σ H)
    (hs : ∀ i σ H, i < n → Pv i σ H → g (.int (lo + i)) σ H fun σ2 H2 => tb { D with nx := Pv (i + 1), ct := Pv (i + 1), bk := D.nx } σ2 H2) (hd : ∀ σ H, Pv n σ H → D.nx σ H) :
    ∃ W : Nat → Nat → St → Hp → Prop, (∃ m, W 0 m σ H) ∧ ∀ i m σ H, W i m σ H →
      ((Itr lo n).stop i H ∧ D.nx σ H) ∨ ((Itr lo n).go i H ∧ ∃ N : St → Hp → Prop, (∀ σ' H', N σ' H' → ∃ m', m' < m ∧ W (i + 1) m' σ' H') ∧ ∀ x H', (Itr lo n).yld i H x H' → g x σ H' fun σ2 H2 => tb { D with nx := N, ct := N, bk := D.nx } σ2 H2) := by
  refine ⟨fun i m σ H => m = n - i ∧ i ≤ n ∧ Pv i σ H, ⟨n, by simp, Nat.zero_le _, h0⟩, ?_⟩
  rintro i m σ H ⟨rfl, hi, p⟩
  by_cases hlt : i < n
  · refine .inr ⟨hlt, Pv (i + 1), fun σ' H' p' => ⟨n - (i + 1), by omega, rfl, hlt, p'⟩, fun x H' y => ?_⟩
    obtain ⟨e, y⟩ := y
    subst e y
    exact hs i σ _ hlt p
  · have e : i = n := by omega
    subst e
    exact .inl ⟨Nat.le_refl _, hd σ H p⟩
theorem while_by {c : TT} {tb : TS} {D : Ends} {σ : St} {H : Hp} (Pv : St → Hp → Prop) (μ : St → Hp → Nat) (h0 : Pv σ H)
    (hs : ∀ σ H, Pv σ H → c σ H fun b H1 => if b = true then tb { D with nx := fun σ' H' => Pv σ' H' ∧ μ σ' H' < μ σ H, ct := fun σ' H' => Pv σ' H' ∧ μ σ' H' < μ σ H, bk := D.nx } σ H1 else D.nx σ H1)
    (mono : ∀ σ H Q Q', (∀ b H1, Q b H1 → Q' b H1) → c σ H Q → c σ H Q') : tWhile c tb D σ H := by
  refine ⟨fun m σ H => m = μ σ H ∧ Pv σ H, ⟨_, rfl, h0⟩, ?_⟩
  rintro m σ H ⟨rfl, p⟩
  refine mono σ H _ _ (fun b H1 q => ?_) (hs σ H p)
  cases b with
  | true => exact ⟨_, fun σ' H' ⟨p', l⟩ => ⟨_, l, rfl, p'⟩, q⟩
  | false => exact q
end L2

namespace L2
open PySem PySem.Spec PyProof.Rows

abbrev R2 := V → V → Hp → VK → Prop
def OpR (X : Cx) (f : Value → Value → Sem Value) (r : R2) : Prop :=
  ∀ (pins : List (Addr × Obj)) (s : Shared) (σ : St) (H : Hp) (x y : V) (v u : Value) (Q : VK), Inv X pins σ H s → RelV x v → RelV y u → r x y H Q →
    wpAny (model X.prog X.w) X.A (f v u) (EP X pins σ Q) X.xe s
def UnR (X : Cx) (f : Value → Sem Value) (r : V → Hp → VK → Prop) : Prop :=
  ∀ (pins : List (Addr × Obj)) (s : Shared) (σ : St) (H : Hp) (x : V) (v : Value) (Q : VK), Inv X pins σ H s → RelV x v → r x H Q →
    wpAny (model X.prog X.w) X.A (f v) (EP X pins σ Q) X.xe s
def CallR (X : Cx) (f : Value) (r : List V → Hp → VK → Prop) : Prop :=
  ∀ (pins : List (Addr × Obj)) (s : Shared) (σ : St) (H : Hp) (xs : List V) (us : List Value) (Q : VK), Inv X pins σ H s → Vals xs us → r xs H Q →
    wpAny (model X.prog X.w) X.A (call f us) (EP X pins σ Q) X.xe s
def TruR (X : Cx) (r : V → Hp → (Bool → Hp → Prop) → Prop) : Prop :=
  ∀ (pins : List (Addr × Obj)) (s : Shared) (σ : St) (H : Hp) (x : V) (v : Value) (Q : Bool → Hp → Prop), Inv X pins σ H s → RelV x v → r x H Q →
    wpAny (model X.prog X.w) X.A (truthy v) (TP X pins σ Q) X.xe s

def tOp (r : R2) (ta tb : TE) : TE := fun σ H Q => ta σ H fun x H1 => tb σ H1 fun y H2 => r x y H2 Q
def tUn (r : V → Hp → VK → Prop) (ta : TE) : TE := fun σ H Q => ta σ H fun x H1 => r x H1 Q
def rI (C : Int → Int → Prop) (g : Int → Int → V) : R2 := fun x y H Q => ∃ i j, x = .int i ∧ y = .int j ∧ C i j ∧ Q (g i j) H
def rI0 (g : Int → Int → V) : R2 := fun x y H Q => ∃ i j, x = .int i ∧ y = .int j ∧ Q (g i j) H
def rU (g : Int → V) : V → Hp → VK → Prop := fun x H Q => ∃ i, x = .int i ∧ Q (g i) H

section
variable {X : Cx} {a b c : Expr} {ta tb tc : TE} {pos : Pos}

theorem binT (ha : PE X a ta) (hb : PE X b tb) {pins : List (Addr × Obj)} {s : Shared} {σ : St} {H : Hp} {R : V → V → Hp → Prop} (I : Inv X pins σ H s)
    (h : ta σ H fun x H1 => tb σ H1 fun y H2 => R x y H2) {Q : Value → Shared → Prop} {f : Value → Value → Sem Value}
    (hf : ∀ v u s2 x y H2, Inv X pins σ H2 s2 → RelV x v → RelV y u → R x y H2 → wpAny (model X.prog X.w) X.A (f v u) Q X.xe s2) :
    wpAny (model X.prog X.w) X.A (eval a X.env) (fun v s₁ => wpAny (model X.prog X.w) X.A (eval b X.env) (fun u s₂ => wpAny (model X.prog X.w) X.A (f v u) Q X.xe s₂) X.xe s₁) X.xe s := by
  refine thn (ha pins s σ H _ I h) fun v s1 ⟨x, H1, I1, r1, q1⟩ => ?_
  refine thn (hb pins s1 σ H1 _ I1 q1) fun u s2 ⟨y, H2, I2, r2, q2⟩ => ?_
  exact hf v u s2 x y H2 I2 r1 r2 q2

theorem pe_op {op : Operator} {r : R2} (ho : OpR X (binaryOp op) r) (ha : PE X a ta) (hb : PE X b tb) : PE X (.BinOp a op b pos) (tOp r ta tb) := by
  intro pins s σ H Q I h
  exact wpAny_BinOp (binT ha hb I h fun v u s2 x y H2 I2 rx ry q => ho pins s2 σ H2 x y v u Q I2 rx ry q)
theorem pe_un {op : UnaryOp} {r : V → Hp → VK → Prop} (ho : UnR X (unaryOp op) r) (ha : PE X a ta) : PE X (.UnaryOp op a pos) (tUn r ta) := by
  intro pins s σ H Q I h
  exact UnaryOp_ (thn (ha pins s σ H _ I h) fun v s1 ⟨x, H1, I1, r1, q1⟩ => ho pins s1 σ H1 x v Q I1 r1 q1)
theorem opI {f : Value → Value → Sem Value} {C : Int → Int → Prop} {g : Int → Int → Int}
    (rule : ∀ (i j : Int) (t u : Tok) (s : Shared) (Q : Value → Shared → Prop) (E : Value → Shared → Prop), C i j → Q (.int (g i j) s.toks) { s with toks := s.toks + 1 } → wpAny (model X.prog X.w) X.A (f (.int i t) (.int j u)) Q E s) :
    OpR X f (rI C fun i j => .int (g i j)) := by
  intro pins s σ H x y v u Q I rx ry h
  obtain ⟨i, j, rfl, rfl, hc, q⟩ := h
  obtain ⟨t, rfl⟩ := rx
  obtain ⟨t', rfl⟩ := ry
  exact rule i j t t' s _ _ hc ⟨.int (g i j), H, I.tok _, ⟨_, rfl⟩, q⟩
theorem opI0 {f : Value → Value → Sem Value} {g : Int → Int → Int}
    (rule : ∀ (i j : Int) (t u : Tok) (s : Shared) (Q : Value → Shared → Prop) (E : Value → Shared → Prop), Q (.int (g i j) s.toks) { s with toks := s.toks + 1 } → wpAny (model X.prog X.w) X.A (f (.int i t) (.int j u)) Q E s) :
    OpR X f (rI0 fun i j => .int (g i j)) := by
  intro pins s σ H x y v u Q I rx ry h
  obtain ⟨i, j, rfl, rfl, q⟩ := h
  obtain ⟨t, rfl⟩ := rx
  obtain ⟨t', rfl⟩ := ry
  exact rule i j t t' s _ _ ⟨.int (g i j), H, I.tok _, ⟨_, rfl⟩, q⟩
theorem opB0 {f : Value → Value → Sem Value} {g : Int → Int → Bool}
    (rule : ∀ (i j : Int) (t u : Tok) (s : Shared) (Q : Value → Shared → Prop) (E : Value → Shared → Prop), Q (.bool (g i j)) s → wpAny (model X.prog X.w) X.A (f (.int i t) (.int j u)) Q E s) :
    OpR X f (rI0 fun i j => .bl (g i j)) := by
  intro pins s σ H x y v u Q I rx ry h
  obtain ⟨i, j, rfl, rfl, q⟩ := h
  obtain ⟨t, rfl⟩ := rx
  obtain ⟨t', rfl⟩ := ry
  exact rule i j t t' s _ _ ⟨.bl (g i j), H, I, rfl, q⟩

def CDiv (i j : Int) : Prop := 0 < j ∧ j < 1073741824
def CDivN (i j : Int) : Prop := j ≠ 0 ∧ j.natAbs < 1073741824
def CPow (i j : Int) : Prop := 0 ≤ j ∧ j ≤ 1000000 ∧ i.natAbs < 2 ^ 64
def CMul (i j : Int) : Prop := (-(2 ^ 64) < i ∧ i < 2 ^ 64) ∨ (-(2 ^ 64) < j ∧ j < 2 ^ 64)
theorem CMul.ok {i j : Int} (h : CMul i j) : IntMulOk i j := by
  rcases h with ⟨h1, h2⟩ | ⟨h1, h2⟩
  · exact .of_left (intBits_le_64 h1 h2)
  · exact .of_right (intBits_le_64 h1 h2)
theorem op_add : OpR X (binaryOp .Add) (rI0 fun i j => .int (i + j)) := opI0 fun _ _ _ _ _ _ _ q => add_int q
theorem op_sub : OpR X (binaryOp .Sub) (rI0 fun i j => .int (i - j)) := opI0 fun _ _ _ _ _ _ _ q => sub_int q
theorem op_modN : OpR X (binaryOp .Mod) (rI (fun _ j => j ≠ 0) fun i j => .int (i.fmod j)) := opI fun _ _ _ _ _ _ _ hc q => mod_int' hc q
theorem op_pow : OpR X (binaryOp .Pow) (rI CPow fun i j => .int (i ^ j.toNat)) := opI fun _ _ _ _ _ _ _ hc q => pow_int_small hc.1 hc.2.1 hc.2.2 q
theorem unI {f : Value → Sem Value} {g : Int → Int}
    (rule : ∀ (i : Int) (t : Tok) (s : Shared) (Q : Value → Shared → Prop) (E : Value → Shared → Prop), Q (.int (g i) s.toks) { s with toks := s.toks + 1 } → wpAny (model X.prog X.w) X.A (f (.int i t)) Q E s) :
    UnR X f (rU fun i => .int (g i)) := by
  intro pins s σ H x v Q I rx h
  obtain ⟨i, rfl, q⟩ := h
  obtain ⟨t, rfl⟩ := rx
  exact rule i t s _ _ ⟨.int (g i), H, I.tok _, ⟨_, rfl⟩, q⟩
theorem un_neg : UnR X (unaryOp .USub) (rU fun i => .int (-i)) := unI fun _ _ _ _ _ q => neg_int q
end

def scal : V → V → Bool
  | .non, .non => true | .non, .int _ => true | .int _, .non => true | .non, .bl _ => true | .bl _, .non => true | .non, .str _ => true | .str _, .non => true
  | .int _, .int _ => true | .bl _, .bl _ => true | .str _, .str _ => true | .byt _, .byt _ => true
  | .int _, .str _ => true | .str _, .int _ => true | .bl _, .str _ => true | .str _, .bl _ => true
  | _, _ => false
def rEq : R2 := fun x y H Q => scal x y = true ∧ Q (.bl (decide (x = y))) H
def rNe : R2 := fun x y H Q => scal x y = true ∧ Q (.bl (!decide (x = y))) H

theorem dec_int {i j : Int} : decide (V.int i = V.int j) = (i == j) := by
  rw [Bool.eq_iff_iff]
  simp
theorem dec_bl {i j : Bool} : decide (V.bl i = V.bl j) = (i == j) := by
  rw [Bool.eq_iff_iff]
  simp
theorem dec_str {i j : Str} : decide (V.str i = V.str j) = (i == j) := by
  rw [Bool.eq_iff_iff]
  simp
theorem dec_byt {i j : Array UInt8} : decide (V.byt i = V.byt j) = (i.toList == j.toList) := by
  rw [Bool.eq_iff_iff]
  cases i
  cases j
  simp

section
variable {X : Cx} {a b c : Expr} {ta tb tc : TE} {pos : Pos}
theorem fin_bl {pins : List (Addr × Obj)} {σ : St} {H : Hp} {s : Shared} {Q : VK} {k k' : Bool} (I : Inv X pins σ H s) (q : Q (.bl k) H) (e : k = k') : EP X pins σ Q (.bool k') s := by
  subst e
  exact ⟨.bl k, H, I, rfl, q⟩
theorem op_eq : OpR X (compareOp .Eq) rEq := by
  intro pins s σ H x y v u Q I rx ry h
  obtain ⟨hs, q⟩ := h
  cases x with
  | non =>
    cases rx
    cases y with
    | non => cases ry; exact PySem.EqNone.eq_none_none (fin_bl I q (by simp))
    | bl j => cases ry; exact PySem.EqNone.eq_none_bool (fin_bl I q (by simp))
    | int j => obtain ⟨t', rfl⟩ := ry; exact PySem.EqNone.eq_none_int (fin_bl I q (by simp))
    | str j => obtain ⟨t', rfl⟩ := ry; exact PySem.EqNone.eq_none_str (fin_bl I q (by simp))
    | _ => exact absurd (show false = true from hs) Bool.false_ne_true
  | bl i =>
    cases rx
    cases y with
    | non => cases ry; exact PySem.EqNone.eq_bool_none (fin_bl I q (by simp))
    | bl j => cases ry; exact eq_bool (fin_bl I q dec_bl)
    | str j => obtain ⟨t', rfl⟩ := ry; exact PySem.EqMixed.eq_bool_str (fin_bl I q (by simp))
    | _ => exact absurd (show false = true from hs) Bool.false_ne_true
  | int i =>
    obtain ⟨t, rfl⟩ := rx
    cases y with
    | non => cases ry; exact PySem.EqNone.eq_int_none (fin_bl I q (by simp))
    | int j => obtain ⟨t', rfl⟩ := ry; exact eq_int (fin_bl I q dec_int)
    | str j => obtain ⟨t', rfl⟩ := ry; exact PySem.EqMixed.eq_int_str (fin_bl I q (by simp))
    | _ => exact absurd (show false = true from hs) Bool.false_ne_true
  | str i =>
    obtain ⟨t, rfl⟩ := rx
    cases y with
    | non => cases ry; exact PySem.EqNone.eq_str_none (fin_bl I q (by simp))
    | bl j => cases ry; exact PySem.EqMixed.eq_str_bool (fin_bl I q (by simp))
    | int j => obtain ⟨t', rfl⟩ := ry; exact PySem.EqMixed.eq_str_int (fin_bl I q (by simp))
    | str j => obtain ⟨t', rfl⟩ := ry; exact eq_str (fin_bl I q dec_str)
    | _ => exact absurd (show false = true from hs) Bool.false_ne_true
  | byt i =>
    obtain ⟨t, rfl⟩ := rx
    cases y with
    | byt j => obtain ⟨t', rfl⟩ := ry; exact PySem.W.eq_bytes (fin_bl I q dec_byt)
    | _ => exact absurd (show false = true from hs) Bool.false_ne_true
  | _ => cases y <;> exact absurd (show false = true from hs) Bool.false_ne_true
theorem op_ne : OpR X (compareOp .NotEq) rNe := by
  intro pins s σ H x y v u Q I rx ry h
  obtain ⟨hs, q⟩ := h
  cases x with
  | non =>
    cases rx
    cases y with
    | non => cases ry; exact PySem.EqNone.ne_none_none (fin_bl I q (by simp))
    | bl j => cases ry; exact PySem.EqNone.ne_none_bool (fin_bl I q (by simp))
    | int j => obtain ⟨t', rfl⟩ := ry; exact PySem.EqNone.ne_none_int (fin_bl I q (by simp))
    | str j => obtain ⟨t', rfl⟩ := ry; exact PySem.EqNone.ne_none_str (fin_bl I q (by simp))
    | _ => exact absurd (show false = true from hs) Bool.false_ne_true
  | bl i =>
    cases rx
    cases y with
    | non => cases ry; exact PySem.EqNone.ne_bool_none (fin_bl I q (by simp))
    | bl j => cases ry; exact ne_bool (fin_bl I q (congrArg not dec_bl))
    | str j => obtain ⟨t', rfl⟩ := ry; exact PySem.EqMixed.ne_bool_str (fin_bl I q (by simp))
    | _ => exact absurd (show false = true from hs) Bool.false_ne_true
  | int i =>
    obtain ⟨t, rfl⟩ := rx
    cases y with
    | non => cases ry; exact PySem.EqNone.ne_int_none (fin_bl I q (by simp))
    | int j => obtain ⟨t', rfl⟩ := ry; exact ne_int (fin_bl I q (congrArg not dec_int))
    | str j => obtain ⟨t', rfl⟩ := ry; exact PySem.EqMixed.ne_int_str (fin_bl I q (by simp))
    | _ => exact absurd (show false = true from hs) Bool.false_ne_true
  | str i =>
    obtain ⟨t, rfl⟩ := rx
    cases y with
    | non => cases ry; exact PySem.EqNone.ne_str_none (fin_bl I q (by simp))
    | bl j => cases ry; exact PySem.EqMixed.ne_str_bool (fin_bl I q (by simp))
    | int j => obtain ⟨t', rfl⟩ := ry; exact PySem.EqMixed.ne_str_int (fin_bl I q (by simp))
    | str j => obtain ⟨t', rfl⟩ := ry; exact ne_str (fin_bl I q (congrArg not dec_str))
    | _ => exact absurd (show false = true from hs) Bool.false_ne_true
  | byt i =>
    obtain ⟨t, rfl⟩ := rx
    cases y with
    | byt j => obtain ⟨t', rfl⟩ := ry; exact PySem.W.ne_bytes (fin_bl I q (congrArg not dec_byt))
    | _ => exact absurd (show false = true from hs) Bool.false_ne_true
  | _ => cases y <;> exact absurd (show false = true from hs) Bool.false_ne_true

theorem op_lt : OpR X (compareOp .Lt) (rI0 fun i j => .bl (decide (i < j))) := opB0 fun _ _ _ _ _ _ _ q => lt_int q
theorem op_le : OpR X (compareOp .LtE) (rI0 fun i j => .bl (decide (i ≤ j))) := opB0 fun _ _ _ _ _ _ _ q => le_int q
theorem op_gt : OpR X (compareOp .Gt) (rI0 fun i j => .bl (decide (j < i))) := opB0 fun _ _ _ _ _ _ _ q => gt_int q
theorem op_ge : OpR X (compareOp .GtE) (rI0 fun i j => .bl (decide (j ≤ i))) := opB0 fun _ _ _ _ _ _ _ q => ge_int q
theorem op_isN : OpR X (compareOp .Is) (fun x y H Q => y = .non ∧ Q (.bl (decide (x = .non))) H) := by
  intro pins s σ H x y v u Q I rx ry h
  obtain ⟨rfl, q⟩ := h
  cases ry
  refine is_none_gen (fin_bl I q ?_)
  cases x <;> first
    | (cases rx; rfl)
    | (obtain ⟨t, rfl⟩ := rx; rfl)
theorem op_notN : OpR X (compareOp .IsNot) (fun x y H Q => y = .non ∧ Q (.bl (!decide (x = .non))) H) := by
  intro pins s σ H x y v u Q I rx ry h
  obtain ⟨rfl, q⟩ := h
  cases ry
  refine isnot_none_gen (fin_bl I q ?_)
  cases x <;> first
    | (cases rx; rfl)
    | (obtain ⟨t, rfl⟩ := rx; rfl)

def isObj : HO → Bool
  | .lst _ => true
  | .ins _ _ _ => true
  | _ => false
theorem OpR.or {f : Value → Value → Sem Value} {r r' : R2} (h : OpR X f r) (h' : OpR X f r') : OpR X f (fun x y H Q => r x y H Q ∨ r' x y H Q) := by
  intro pins s σ H x y v u Q I rx ry q
  rcases q with q | q
  · exact h pins s σ H x y v u Q I rx ry q
  · exact h' pins s σ H x y v u Q I rx ry q

theorem nomark (b : Expr) {op : CmpOp} (h : op ≠ .In := by decide) (h2 : op ≠ .NotIn := by decide) : behindInMarks op b = false := by
  have e1 : (op == CmpOp.In) = false := by cases op <;> first | rfl | exact absurd rfl h
  have e2 : (op == CmpOp.NotIn) = false := by cases op <;> first | rfl | exact absurd rfl h2
  cases b <;> simp [behindInMarks, e1, e2]
theorem pe_cmpR {op : CmpOp} {r : R2} (ho : OpR X (compareOp op) r) (ha : PE X a ta) (hb : PE X b tb) (hm : behindInMarks op b = false) : PE X (.Compare a [op] [b] pos) (tOp r ta tb) := by
  intro pins s σ H Q I h
  exact wpAny_Compare1 (binT ha hb I h fun v u s2 x y H2 I2 rx ry q => ho pins s2 σ H2 x y v u Q I2 rx ry q) hm
def tTest (t : TE) : TT := fun σ H Q => t σ H fun x H' => ∃ k, x = .bl k ∧ Q k H'
theorem pt_cmpR {op : CmpOp} {r : R2} (ho : OpR X (compareOp op) r) (ha : PE X a ta) (hb : PE X b tb) (hm : behindInMarks op b = false) : PT X (.Compare a [op] [b] pos) (tTest (tOp r ta tb)) := by
  intro pins s σ H Q I h
  refine wpAny_isTrue_Compare1 (thn (ha pins s σ H _ I h) fun v s1 ⟨x, H1, I1, r1, q1⟩ => thn (hb pins s1 σ H1 _ I1 q1) fun u s2 ⟨y, H2, I2, r2, q2⟩ =>
    thn (ho pins s2 σ H2 x y v u _ I2 r1 r2 q2) fun c s3 ⟨z, H3, I3, r3, k, e, q3⟩ => ?_) hm
  subst e
  cases r3
  exact wpAny_truthy_bool ⟨H3, I3, q3⟩
def tChain (r r' : R2) (ta tb tc : TE) : TE := fun σ H Q => ta σ H fun x H1 => tb σ H1 fun y H2 => r x y H2 fun z H3 => ∃ k, z = .bl k ∧
  (if k = true then tc σ H3 fun w' H4 => r' y w' H4 Q else Q (.bl false) H3)
theorem pt_chain {op op' : CmpOp} {r r' : R2} (ho : OpR X (compareOp op) r) (ho' : OpR X (compareOp op') r') (ha : PE X a ta) (hb : PE X b tb) (hc : PE X c tc)
    (hm : lastMarks [op, op'] [b, c] = false := by with_unfolding_all rfl) : PT X (.Compare a [op, op'] [b, c] pos) (tTest (tChain r r' ta tb tc)) := by
  intro pins s σ H Q I h
  refine isTrue_chain (thn (ha pins s σ H _ I h) fun v s1 ⟨x, H1, I1, r1, q1⟩ => test_link (thn (hb pins s1 σ H1 _ I1 q1) fun u s2 ⟨y, H2, I2, r2, q2⟩ =>
    thn (ho pins s2 σ H2 x y v u _ I2 r1 r2 q2) fun d s3 ⟨z, H3, I3, r3, k, e, q3⟩ => ?_)) hm
  subst e
  cases r3
  refine wpAny_truthy_bool ?_
  cases k with
  | false =>
    obtain ⟨k', e', q'⟩ := q3
    cases e'
    exact ite_ff ⟨H3, I3, q'⟩
  | true =>
    refine ite_tt (test_last (thn (hc pins s3 σ H3 _ I3 q3) fun w' s4 ⟨z', H4, I4, r4, q4⟩ => thn (ho' pins s4 σ H4 y z' u w' _ I4 r2 r4 q4) fun d' s5 ⟨z2, H5, I5, r5, k2, e2, q5⟩ => ?_))
    subst e2
    cases r5
    exact wpAny_truthy_bool ⟨H5, I5, q5⟩

def TruV (K : PySem.W.Frag) (x : V) (H : Hp) (k : Bool) : Prop :=
  match x with
  | .non => k = false
  | .bl b => k = b
  | .int i => k = (i != 0)
  | .str y => y.length ≤ sizeLine ∧ k = ((y.length : Int) != 0)
  | .byt y => y.size ≤ sizeLine ∧ k = ((y.size : Int) != 0)
  | .ref p => (∃ xs, SqL K H p xs ∧ k = !xs.isEmpty) ∨ (∃ xs, SqT K H p xs ∧ k = !xs.isEmpty) ∨ ∃ kvs, H p = some (.dK kvs) ∧ k = !kvs.isEmpty
  | _ => False
theorem line63 : (sizeLine : Nat) < 2 ^ 63 := by rw [sizeLine_eq]; decide
theorem op_add_str : OpR X (binaryOp .Add) (fun x y H Q => ∃ i j, x = .str i ∧ y = .str j ∧ i.length + j.length ≤ sizeLine ∧ Q (.str (i ++ j)) H) := by
  intro pins s σ H x y v u Q I rx ry h
  obtain ⟨i, j, rfl, rfl, hz, q⟩ := h
  obtain ⟨t, rfl⟩ := rx
  obtain ⟨t', rfl⟩ := ry
  exact add_str (fun t' tk => ⟨.str (i ++ j), H, I.tok _, ⟨_, rfl⟩, q⟩) hz
def PlainIxT (b : Expr) : Prop := ∀ o i, subscripted b false o i = operate [o, i] (getItem o i)
theorem vals1 {x : V} {us : List Value} (r : Vals [x] us) : ∃ u, us = [u] ∧ RelV x u := by
  cases r with
  | cons r1 r2 => cases r2; exact ⟨_, rfl, r1⟩
theorem vals2 {x y : V} {us : List Value} (r : Vals [x, y] us) : ∃ u w', us = [u, w'] ∧ RelV x u ∧ RelV y w' := by
  cases r with
  | cons r1 r2 =>
    cases r2 with
    | cons r3 r4 => cases r4; exact ⟨_, _, rfl, r1, r3⟩
theorem call_abs : CallR X (.builtin "abs") (fun xs H Q => ∃ i, xs = [.int i] ∧ Q (.int (if i < 0 then -i else i)) H) := by
  intro pins s σ H xs us Q I r h
  obtain ⟨i, rfl, q⟩ := h
  obtain ⟨u, rfl, t, rfl⟩ := vals1 r
  exact call_abs_int fun u tk => ⟨.int (if i < 0 then -i else i), H, I.tok _, ⟨_, rfl⟩, q⟩
theorem call_int1 : CallR X (.type "int") (fun xs H Q => (∃ i, xs = [.int i] ∧ Q (.int i) H) ∨ ∃ k, xs = [.bl k] ∧ Q (.int (if k then 1 else 0)) H) := by
  intro pins s σ H xs us Q I r h
  rcases h with ⟨i, rfl, q⟩ | ⟨k, rfl, q⟩
  · obtain ⟨u, rfl, t, rfl⟩ := vals1 r
    exact call_int_int ⟨.int i, H, I, ⟨_, rfl⟩, q⟩
  · obtain ⟨u, rfl, r1⟩ := vals1 r
    cases r1
    exact call_int_bool ⟨.int (if k then 1 else 0), H, I.tok _, ⟨_, rfl⟩, q⟩
def LenV (K : PySem.W.Frag) (x : V) (H : Hp) (n : Nat) : Prop :=
  match x with
  | .str y => y.length ≤ sizeLine ∧ n = y.length
  | .byt y => y.size ≤ sizeLine ∧ n = y.size
  | .ref p => (∃ xs, SqL K H p xs ∧ n = xs.length) ∨ ∃ xs, SqT K H p xs ∧ n = xs.length
  | _ => False
end
end L2

namespace L2
open PySem PySem.Spec PyProof.Rows

structure ObjM (h : Heap) (x dx C : Addr) (mA : Str → Option Value) : Prop where
  obj : h.get? x = some (PySem.W.instObj C dx)
  ns : h.Ns1 dx mA
  ne : dx ≠ x

theorem lookIn_ns {h : Heap} {dx : Addr} {mA : Str → Option Value} (n : h.Ns1 dx mA) : ∃ od, h.get? dx = some od ∧ ∀ name, PySem.W.lookIn name od = some (mA name) := by
  obtain ⟨o, es, ep, ho, hd, hk, _, hm⟩ := n
  refine ⟨o, ho, fun name => ?_⟩
  have e := hm name
  unfold nsFind findBy at e
  rw [← Array.find?_toList] at e
  unfold PySem.W.lookIn
  rw [hd]
  dsimp only
  split
  · rename_i y q
    rw [q] at e
    exact congrArg some e
  · rename_i q
    rw [q] at e
    have a : es.toList.any (·.refKey) = false := by
      rw [List.any_eq_false]
      intro y hy
      obtain ⟨z, t, hkey⟩ := hk y (Array.mem_toList_iff.mp hy)
      simp [DictEntry.refKey, hkey]
    have a' : ¬ es.toList.any (·.refKey) = true := by rw [a]; exact Bool.false_ne_true
    rw [if_neg a']
    exact congrArg some e

theorem ObjM.look {h : Heap} {x dx C : Addr} {mA : Str → Option Value} (I : ObjM h x dx C mA) : ∃ od, PySem.W.InstAt h x (PySem.W.instObj C dx) C (some od) ∧ ∀ name, PySem.W.lookIn name od = some (mA name) :=
  let ⟨od, ho, hl⟩ := lookIn_ns I.ns
  ⟨od, ⟨I.obj, rfl, rfl, ho⟩, hl⟩

section
variable {prog : Program} {w : World} {A : Around} {E : Value → Shared → Prop} {s : Shared} {K : PySem.W.Frag} {x dx C f : Addr} {mA : Str → Option Value} {name : Str} {v : Value}

theorem get_map {expr : Bool} {Q : Value → Shared → Prop} (X : K.In s.heap) (I : ObjM s.heap x dx C mA) (hg : PySem.W.plainGet K C name = true) (hh : PySem.W.hasDictIn K C = true)
    (ha : PySem.W.findIn K (.ref C) name = some none) (hv : mA name = some v) (hv' : PySem.W.handedIn v = true) (h : Q v { s with toks := s.toks + 1 }) :
    wpAny (model prog w) A (getAttr (.ref x) name expr) Q E s := by
  obtain ⟨od, J, hl⟩ := I.look
  exact PySem.W.get_value X J (PySem.W.plainGet_of hg).1 (PySem.W.findObj_own hh ha rfl (by rw [hl, hv])) hv' h

theorem get_meth {pl : Sem Bool} {Q : Value × List Value → Shared → Prop} (X : K.In s.heap) (I : ObjM s.heap x dx C mA) (hg : PySem.W.plainGet K C name = true)
    (hf : PySem.W.findIn K (.ref C) name = some (some (.ref f))) (ht : PySem.W.isFn K (.ref f) = true) (hv : mA name = none) (h : Q (.ref f, [.ref x]) s) :
    wpAny (model prog w) A (getMethod (.ref x) name pl) Q E s := by
  obtain ⟨od, J, hl⟩ := I.look
  exact PySem.W.method_fn X J (PySem.W.plainGet_of hg).1 (PySem.W.plainGet_of hg).2 hf (beq_iff_eq.mp ht) (by show (PySem.W.lookIn name od).map (·.isSome) = some false; rw [hl, hv]; rfl) h

theorem set_map {ns : List Str} {Q : Unit → Shared → Prop} (X : K.In s.heap) (I : ObjM s.heap x dx C mA)
    (hs : PySem.W.findIn K (.ref C) "__setattr__" = some (some (.builtin "object.__setattr__"))) (hp : PySem.W.plainOver K C = true) (ht : PySem.W.takerIn K C name = some none) (hh : PySem.W.hasDictIn K C = true)
    (hw : PySem.Within mA ns) (hsz : ns.length ≤ sizeLine)
    (h : ∀ h', ObjM h' x dx C (fun y => if y = name then some v else mA y) → Heap.SameBut dx s.heap h' → Q () { s with heap := h', toks := s.toks + 2 }) :
    wpAny (model prog w) A (setAttr (.ref x) name v) Q E s := by
  obtain ⟨od, J, hl⟩ := I.look
  refine PySem.W.set_plain X J hs (PySem.W.osa_open (s := { s with toks := s.toks + 1 }) (r := none) X J hp ht fun b => ?_)
  obtain ⟨cd, hc, hd'⟩ := PySem.W.any_some hh
  have hx : s.heap.get? x = some ⟨.ref C, some dx, .plain, #[]⟩ := I.obj
  refine wpAny_bind (wpAny_pure (wpAny_bind (wpAny_bind (wpAny_loadPart hx (wpAny_bind (PySem.W.Looks.here (s := { s with toks := s.toks + 1 }) (PySem.W.looks_clsIn X hc) ?_))))))
  rw [hd']
  refine wpAny_pure (a := some dx) (wpAny_bind (wpAny_pure (wpAny_bind ?_)))
  refine wpAny_nsSet1 (s := { s with toks := s.toks + 1 }) I.ns fun h' hn2 hs2 => ?_
  obtain ⟨oD, esD, epD, hoD, hdD, hcD⟩ := hn2.count (PySem.Within.cons name v hw)
  refine wpAny_bind (wpAny_lookBehind hoD (by rw [hdD]; exact pastItsLine_dict (Nat.le_trans hcD (by rw [List.length_cons]; omega))) ?_)
  exact wpAny_pure (h _ ⟨(hs2.2 _ (Ne.symm I.ne)).trans I.obj, hn2, I.ne⟩ hs2)

theorem make_map {R : Result → Shared → Prop} {vs : List Value} {kw : List (Str × Value)} (X : K.In s.heap) (hm : PySem.W.makesIn K C = true)
    (hi : PySem.W.findIn K (.ref C) "__init__" = some (some (.ref f))) (hf : PySem.W.typeIn K (.ref f) = some (.type "function"))
    (h : codeAny (model prog w) (A.under (.builtin "type.__call__" ⟨.ref C :: vs, kw⟩)) (.call (.ref f) ⟨.ref (s.heap.objs.size + 1) :: vs, kw⟩) (PySem.W.InitBack (s.heap.objs.size + 1) R)
      { s with heap := (s.heap.push PySem.W.emptyDict).push (PySem.W.instObj C s.heap.objs.size) }) :
    codeAny (model prog w) A (.call (.ref C) ⟨vs, kw⟩) R s := by
  obtain ⟨hh, g, d, t, os⟩ := s
  exact PySem.W.make_core (PySem.W.makes_of X hm) (PySem.W.looks_findIn X hi) (fun self => PySem.W.bind_fn X self hf) (.inl rfl) h
theorem make_map0 {R : Result → Shared → Prop} (X : K.In s.heap) (hm : PySem.W.makesIn K C = true)
    (hi : PySem.W.findIn K (.ref C) "__init__" = some (some (.builtin "object.__init__")))
    (hb : ∀ self, PySem.W.Looks (model prog w) s.heap (bindSpecial (.builtin "object.__init__") self) (.builtin "object.__init__", [self]))
    (h : codeAny (model prog w) (A.under (.builtin "type.__call__" ⟨[.ref C], []⟩)) (.call (.builtin "object.__init__") ⟨[.ref (s.heap.objs.size + 1)], []⟩) (PySem.W.InitBack (s.heap.objs.size + 1) R)
      { s with heap := (s.heap.push PySem.W.emptyDict).push (PySem.W.instObj C s.heap.objs.size) }) :
    codeAny (model prog w) A (.call (.ref C) ⟨[], []⟩) R s := by
  obtain ⟨hh, g, d, t, os⟩ := s
  exact PySem.W.make_core (PySem.W.makes_of X hm) (PySem.W.looks_findIn X hi) hb (.inr ⟨rfl, rfl⟩) h
end

def putF (f : Str) (v : V) : List (Str × V) → List (Str × V)
  | [] => [(f, v)]
  | (g, x) :: r => if g = f then (g, v) :: r else (g, x) :: putF f v r
theorem lookup_putF (f g : Str) (v : V) : ∀ fs : List (Str × V), (putF f v fs).lookup g = if g = f then some v else fs.lookup g
  | [] => by
    show List.lookup g [(f, v)] = _
    by_cases h : g = f
    · have hb : (g == f) = true := beq_iff_eq.mpr h
      simp only [List.lookup, hb, if_pos h]
    · have hb : (g == f) = false := beq_eq_false_iff_ne.mpr h
      simp only [List.lookup, hb, if_neg h]
  | (k, x) :: r => by
    have ih := lookup_putF f g v r
    rw [show putF f v ((k, x) :: r) = (if k = f then (k, v) :: r else (k, x) :: putF f v r) from rfl]
    by_cases hk : k = f
    · rw [if_pos hk]
      by_cases h : g = k
      · have hb : (g == k) = true := beq_iff_eq.mpr h
        simp only [List.lookup, hb, if_pos (h.trans hk)]
      · have hb : (g == k) = false := beq_eq_false_iff_ne.mpr h
        simp only [List.lookup, hb, if_neg (fun e : g = f => h (e.trans hk.symm))]
    · rw [if_neg hk]
      by_cases h : g = k
      · have hb : (g == k) = true := beq_iff_eq.mpr h
        simp only [List.lookup, hb, if_neg (fun e : g = f => hk (h.symm.trans e))]
      · have hb : (g == k) = false := beq_eq_false_iff_ne.mpr h
        simp only [List.lookup, hb]
        exact ih
theorem keys_putF (f : Str) (v : V) : ∀ fs : List (Str × V), f ∈ (putF f v fs).map (·.1) ∧ ∀ g, g ∈ fs.map (·.1) → g ∈ (putF f v fs).map (·.1)
  | [] => ⟨by simp [putF], fun g h => by simp at h⟩
  | (k, x) :: r => by
    obtain ⟨i1, i2⟩ := keys_putF f v r
    rw [show putF f v ((k, x) :: r) = (if k = f then (k, v) :: r else (k, x) :: putF f v r) from rfl]
    by_cases hk : k = f
    · rw [if_pos hk]
      subst hk
      exact ⟨by simp, fun g h => by simpa using h⟩
    · rw [if_neg hk]
      refine ⟨?_, fun g h => ?_⟩
      · rw [List.map_cons]
        exact List.mem_cons_of_mem _ i1
      · rw [List.map_cons] at h ⊢
        rcases List.mem_cons.mp h with e | e
        · exact List.mem_cons.mpr (.inl e)
        · exact List.mem_cons_of_mem _ (i2 g e)
theorem length_putF (f : Str) (v : V) : ∀ fs : List (Str × V), (putF f v fs).length ≤ fs.length + 1
  | [] => by simp [putF]
  | (k, x) :: r => by
    have ih := length_putF f v r
    rw [show putF f v ((k, x) :: r) = (if k = f then (k, v) :: r else (k, x) :: putF f v r) from rfl]
    by_cases hk : k = f
    · rw [if_pos hk, List.length_cons, List.length_cons]; omega
    · rw [if_neg hk, List.length_cons, List.length_cons]; omega

theorem RelO.some_of {v : V} {o : Option Value} (r : RelO (some v) o) : ∃ u, o = some u ∧ RelV v u := by
  cases o with
  | none => exact (show False from r).elim
  | some u => exact ⟨u, rfl, r⟩
theorem RelO.none_of {o : Option Value} (r : RelO none o) : o = none := by
  cases o with
  | none => rfl
  | some u => exact (show False from r).elim
theorem handed_of {v : V} {u : Value} (r : RelV v u) : PySem.W.handedIn u = true := by
  cases v with
  | non => cases (show u = Value.none from r); rfl
  | bl b => cases (show u = Value.bool b from r); rfl
  | int i => obtain ⟨t, e⟩ := (show ∃ t, u = Value.int i t from r); cases e; rfl
  | str x => obtain ⟨t, e⟩ := (show ∃ t, u = Value.str x t from r); cases e; rfl
  | byt b => obtain ⟨t, e⟩ := (show ∃ t, u = Value.bytes b t from r); cases e; rfl
  | flt b => obtain ⟨t, e⟩ := (show ∃ t, u = Value.float b t from r); cases e; rfl
  | ref a => cases (show u = Value.ref a from r); rfl
  | ty n => cases (show u = Value.type n from r); rfl

section
variable {P : Program} {w : World} {H H' : Hp} {h h' : Heap} {a C dx : Addr} {fs fs' : List (Str × V)}
theorem ins_get (hok : HOk P w H h) (e : H a = some (.ins C dx fs)) : ∃ mA, ObjM h a dx C mA ∧ (∀ f, RelO (fs.lookup f) (mA f)) ∧ PySem.Within mA (fs.map (·.1)) ∧ fs.length ≤ 1000 ∧ H dx = some (.own a) := by
  obtain ⟨d, z, ne, ob, mA, n, r, q⟩ := (show ObjOk P w H h a (.ins C dx fs) from hok a _ e)
  exact ⟨mA, ⟨ob, n, ne⟩, r, q, z, d⟩
end

structure Cls (K : PySem.W.Frag) (C : Addr) : Prop where
  pg : PySem.W.plainGet K C Str.empty = true
  hd : PySem.W.hasDictIn K C = true
  po : PySem.W.plainOver K C = true
  sa : PySem.W.findIn K (.ref C) "__setattr__" = some (some (.builtin "object.__setattr__"))
theorem Cls.get {K : PySem.W.Frag} {C : Addr} (c : Cls K C) (f : Str) : PySem.W.plainGet K C f = true := c.pg
def NoAttr (K : PySem.W.Frag) (C : Addr) (f : Str) : Prop := PySem.W.findIn K (.ref C) f = some none
theorem NoAttr.taker {K : PySem.W.Frag} {C : Addr} {f : Str} (n : NoAttr K C f) : PySem.W.takerIn K C f = some none := by
  unfold PySem.W.takerIn
  rw [show PySem.W.findIn K (.ref C) f = some none from n]
  rfl
structure Con (K : PySem.W.Frag) (C : Addr) (f : Str) (v : V) (u : Value) : Prop where
  at_ : PySem.W.findIn K (.ref C) f = some (some u)
  rel : RelV v u
  get : PySem.W.specialIn K u "__get__" = some none
  cp : PySem.W.copiedNames.contains f = false
structure Meth (K : PySem.W.Frag) (C : Addr) (m : Str) (f : Addr) : Prop where
  at_ : PySem.W.findIn K (.ref C) m = some (some (.ref f))
  fn : PySem.W.isFn K (.ref f) = true
  kp : PySem.W.keepIn K (.ref f) = true

section
variable {X : Cx} {pins : List (Addr × Obj)} {σ : St} {H : Hp} {s : Shared} {a C dx : Addr} {fs : List (Str × V)} {f : Str} {v : V} {A : Around} {E : Value → Shared → Prop}

theorem getattr_ok {b : Bool} {Q : Value → Shared → Prop} (I : Inv X pins σ H s) (e : H a = some (.ins C dx fs)) (c : Cls X.K C) (n : NoAttr X.K C f) (l : fs.lookup f = some v)
    (h : ∀ u s', Inv X pins σ H s' → RelV v u → Q u s') : wpAny (model X.prog X.w) A (getAttr (.ref a) f b) Q E s := by
  obtain ⟨mA, O, r, _, _, _⟩ := ins_get I.hok e
  obtain ⟨u, hu, ru⟩ := RelO.some_of (v := v) (o := mA f) (by rw [← l]; exact r f)
  exact get_map I.kIn O (c.get f) c.hd n hu (handed_of ru) (h u _ (I.tok _) ru)

theorem getmeth_ok {m : Str} {g : Addr} {pl : Sem Bool} {Q : Value × List Value → Shared → Prop} (I : Inv X pins σ H s) (e : H a = some (.ins C dx fs)) (c : Cls X.K C) (k : Meth X.K C m g) (l : fs.lookup m = none)
    (h : Q (.ref g, [.ref a]) s) : wpAny (model X.prog X.w) A (getMethod (.ref a) m pl) Q E s := by
  obtain ⟨mA, O, r, _, _, _⟩ := ins_get I.hok e
  have hn : mA m = none := RelO.none_of (by rw [← l]; exact r m)
  exact get_meth I.kIn O (c.get m) k.at_ k.fn hn h

theorem setattr_ok {y : V} {u : Value} {Q : Unit → Shared → Prop} (I : Inv X pins σ H s) (e : H a = some (.ins C dx fs)) (c : Cls X.K C) (n : NoAttr X.K C f) (hl : fs.length < 1000) (ry : RelV y u)
    (h : ∀ s', Inv X pins σ (upd H a (.ins C dx (putF f y fs))) s' → Q () s') : wpAny (model X.prog X.w) A (setAttr (.ref a) f u) Q E s := by
  obtain ⟨mA, O, r, wi, _, ho⟩ := ins_get I.hok e
  have hz : (fs.map (·.1)).length ≤ sizeLine := by rw [List.length_map, sizeLine_eq]; omega
  refine set_map I.kIn O c.sa c.po n.taker c.hd wi hz fun h' O' sb => h _ ?_
  have hd : ∃ o, h'.get? dx = some o := let ⟨o, _, _, e', _⟩ := O'.ns; ⟨o, e'⟩
  refine I.write (x := a) (e := dx) (by rw [e]; exact True.intro) (.inr ho) (fun b q hb z => (sb.2 b hb).trans z) hd ?_
  refine ⟨by rw [upd_ne O.ne]; exact ho, ?_, O.ne, O'.obj, _, O'.ns, fun g => ?_, fun g hg => ?_⟩
  · have := length_putF f y fs; omega
  · show RelO ((putF f y fs).lookup g) (if g = f then some u else mA g)
    rw [lookup_putF]
    by_cases q : g = f
    · rw [if_pos q, if_pos q]; exact ry
    · rw [if_neg q, if_neg q]; exact r g
  · by_cases q : g = f
    · rw [q]; exact (keys_putF f y fs).1
    · refine (keys_putF f y fs).2 g (wi g fun z => hg ?_)
      show (if g = f then some u else mA g) = none
      rw [if_neg q]; exact z

theorem Inv.made (I : Inv X pins σ H s) : Inv X pins σ (upd (upd H s.heap.objs.size (.own (s.heap.objs.size + 1))) (s.heap.objs.size + 1) (.ins C s.heap.objs.size []))
    { s with heap := (s.heap.push PySem.W.emptyDict).push (PySem.W.instObj C s.heap.objs.size) } := by
  have e1 : (s.heap.push PySem.W.emptyDict).get? s.heap.objs.size = some PySem.W.emptyDict := Heap.get?_push_size s.heap rfl
  have e2 : ((s.heap.push PySem.W.emptyDict).push (PySem.W.instObj C s.heap.objs.size)).get? (s.heap.objs.size + 1) = some (PySem.W.instObj C s.heap.objs.size) := by
    have := Heap.get?_push_size (s.heap.push PySem.W.emptyDict) (o := PySem.W.instObj C s.heap.objs.size) rfl
    rwa [Heap.size_push] at this
  have e3 : (s.heap.push PySem.W.emptyDict).Ns s.heap.objs.size (fun _ => none) := ⟨PySem.W.emptyDict, #[], _, e1, rfl, (fun e he => absurd he (by simp)), fun _ => rfl⟩
  have I1 := I.laid (a := s.heap.objs.size) (o := .own (s.heap.objs.size + 1)) (h' := s.heap.push PySem.W.emptyDict) (t' := s.toks) (fun b u q => Heap.get?_push_of_some _ q) (Nat.le_refl _) ⟨_, e1⟩
  refine I1.laid (a := s.heap.objs.size + 1) (o := .ins C s.heap.objs.size []) (t' := s.toks) (fun b u q => Heap.get?_push_of_some _ q) (Nat.le_of_eq (Heap.size_push _ _)) ?_
  have ne : s.heap.objs.size ≠ s.heap.objs.size + 1 := Nat.ne_of_lt (Nat.lt_succ_self _)
  refine ⟨by rw [upd_ne ne, upd_same], Nat.zero_le _, ne, e2, fun _ => none, (Heap.Ns1.of_empty e3).at fun o q => Heap.get?_push_of_some _ q, fun _ => True.intro, fun y hy => absurd rfl hy⟩

theorem attr_of {prog : Program} {w : World} {env : Env} {e : Expr} {f : Str} {pos : Pos} {s : Shared} {Q : Value → Shared → Prop} (hb : attributeBase e f env (eval e env) = eval e env)
    (h : wpAny (model prog w) A (eval e env) (fun o s₁ => wpAny (model prog w) A (getAttr o f true) Q E s₁) E s) : wpAny (model prog w) A (eval (.Attribute e f pos) env) Q E s :=
  Attribute_any_ h (by rw [arm_eval_Attribute, hb])
end

def tFld (K : PySem.W.Frag) (ta : TE) (f : Str) : TE := fun σ H Q => ta σ H fun x H1 => ∃ a C dx fs v, x = .ref a ∧ H1 a = some (.ins C dx fs) ∧ Cls K C ∧ NoAttr K C f ∧ fs.lookup f = some v ∧ Q v H1
def tCon (K : PySem.W.Frag) (ta : TE) (f : Str) : TE := fun σ H Q => ta σ H fun x H1 => ∃ a C dx fs v u, x = .ref a ∧ H1 a = some (.ins C dx fs) ∧ Cls K C ∧ Con K C f v u ∧ fs.lookup f = none ∧ Q v H1
def sFld (K : PySem.W.Frag) (ta tv : TE) (f : Str) : TS := fun D σ H => tv σ H fun y H1 => ta σ H1 fun x H2 => ∃ a C dx fs, x = .ref a ∧ H2 a = some (.ins C dx fs) ∧ Cls K C ∧ NoAttr K C f ∧ fs.length < 1000 ∧
  D.nx σ (upd H2 a (.ins C dx (putF f y fs)))
def InOp (X : Cx) (op : Operator) (rd : V → V → Hp → VK → Prop) : Prop :=
  ∀ (pins : List (Addr × Obj)) (s : Shared) (σ : St) (H : Hp) (x y : V) (u v : Value) (Q : VK), Inv X pins σ H s → RelV x u → RelV y v → rd x y H Q → wpAny (model X.prog X.w) X.A (inplaceOp op u v) (EP X pins σ Q) X.xe s
def sFldAug (K : PySem.W.Frag) (ta tv : TE) (rd : V → V → Hp → VK → Prop) (f : Str) : TS := fun D σ H => ta σ H fun x H1 => ∃ a C dx fs v, x = .ref a ∧ H1 a = some (.ins C dx fs) ∧ Cls K C ∧ NoAttr K C f ∧ fs.lookup f = some v ∧
  tv σ H1 fun y H2 => rd v y H2 fun z H3 => ∃ dx' fs', H3 a = some (.ins C dx' fs') ∧ fs'.length < 1000 ∧ D.nx σ (upd H3 a (.ins C dx' (putF f z fs')))

section
variable {X : Cx} {o e value : Expr} {f : Str} {pos pos' tpos : Pos} {ta tv : TE}
theorem pe_fld (he : PE X e ta) (hb : attributeBase e f X.env (eval e X.env) = eval e X.env) : PE X (.Attribute e f pos) (tFld X.K ta f) := by
  intro pins s σ H Q I h
  refine attr_of hb (thn (he pins s σ H _ I h) fun u s1 ⟨x, H1, I1, rx, a, C, dx, fs, v, ex, ea, c, n, l, q⟩ => ?_)
  subst ex
  obtain rfl : u = Value.ref a := rx
  exact getattr_ok I1 ea c n l fun u' s2 I2 ru => ⟨v, H1, I2, ru, q⟩
theorem ps_fld (ha : PE X o ta) (hv : PE X value tv) (hs : swapsWith value (some (.Attribute o f pos')) pos.line X.env = pure false) : PS X (.Assign [.Attribute o f pos'] value pos) (sFld X.K ta tv f) := by
  intro pins s σ H D I h
  refine plainObj_wpAny_Assign_Attribute (thn (hv pins s σ H _ I h) fun u s1 ⟨y, H1, I1, ry, q⟩ => thn (ha pins s1 σ H1 _ I1 q) fun ov s2 ⟨x, H2, I2, rx, a, C, dx, fs, ex, ea, c, n, l, q2⟩ => ?_) hs
  subst ex
  obtain rfl : ov = Value.ref a := rx
  exact setattr_ok I2 ea c n l ry fun s3 I3 => ⟨σ, _, I3, q2⟩
def rAdd : V → V → Hp → VK → Prop := fun x y H Q => ∃ i j, x = .int i ∧ y = .int j ∧ Q (.int (i + j)) H
def rSub : V → V → Hp → VK → Prop := fun x y H Q => ∃ i j, x = .int i ∧ y = .int j ∧ Q (.int (i - j)) H
end

section
variable {X : Cx} {pins : List (Addr × Obj)} {σ : St} {H : Hp} {s : Shared} {A : Around} {E : Value → Shared → Prop} {Q : Value → Shared → Prop} {c : Value} {b : Bool}
inductive TyOf (K : PySem.W.Frag) (H : Hp) : V → Value → Prop where
  | non : TyOf K H .non (.type "NoneType")
  | bl (x : Bool) : TyOf K H (.bl x) (.type "bool")
  | int (i : Int) : TyOf K H (.int i) (.type "int")
  | str (x : Str) : TyOf K H (.str x) (.type "str")
  | flt (x : UInt64) : TyOf K H (.flt x) (.type "float")
  | lst {a : Addr} {xs : List V} (e : H a = some (.lst xs)) : TyOf K H (.ref a) (.type "list")
  | frz {a : Addr} {o : Obj} {xs : List V} (e : H a = some (.frz o (.lst xs))) : TyOf K H (.ref a) (.type "list")
  | tup {a : Addr} {xs : List V} (e : H a = some (.tup xs)) : TyOf K H (.ref a) (.type "tuple")
  | dK {a : Addr} {kvs : List (Key × V)} (e : H a = some (.dK kvs)) : TyOf K H (.ref a) (.type "dict")
  | dT {a : Addr} {kvs : List (List Key × V)} (e : H a = some (.dT kvs)) : TyOf K H (.ref a) (.type "dict")
  | ins {a C dx : Addr} {fs : List (Str × V)} (e : H a = some (.ins C dx fs)) (cl : Cls K C) (ha : PySem.W.findIn K (.ref C) "__class__" = some (some (.builtin "object.__class__")))
      (hn : PySem.W.specialIn K (.builtin "object.__class__") "__get__" = some (some (.builtin "getset_descriptor.__get__"))) (htk : PySem.W.takesIn K (.builtin "object.__class__") = some true)
      (hm : PySem.W.mroIn K C (.type "object") = some true) : TyOf K H (.ref a) (.ref C)
theorem isinst_ok {x : V} {u t : Value} (I : Inv X pins σ H s) (rx : RelV x u) (ty : TyOf X.K H x t) (e : PySem.W.kitOne X.K t c = some b) (h : ∀ tk, Q (.bool b) { s with toks := tk }) :
    wpAny (model X.prog X.w) A (call (.builtin "isinstance") [u, c]) Q E s := by
  cases ty with
  | non => cases (show u = Value.none from rx); exact PySem.W.kia_one PySem.W.kitx_none I.kIn True.intro e (fun z => nomatch z) h
  | bl y => cases (show u = Value.bool y from rx); exact PySem.W.kia_one PySem.W.kitx_bool I.kIn True.intro e (fun z => nomatch z) h
  | int i => obtain ⟨t, q⟩ := (show ∃ t, u = Value.int i t from rx); cases q; exact PySem.W.kia_one PySem.W.kitx_int I.kIn True.intro e (fun z => nomatch z) h
  | str y => obtain ⟨t, q⟩ := (show ∃ t, u = Value.str y t from rx); cases q; exact PySem.W.kia_one PySem.W.kitx_str I.kIn True.intro e (fun z => nomatch z) h
  | flt y => obtain ⟨t, q⟩ := (show ∃ t, u = Value.float y t from rx); cases q; exact PySem.W.kia_one PySem.W.kitx_float I.kIn True.intro e (fun z => nomatch z) h
  | @lst a xs ea =>
    cases (show u = Value.ref a from rx)
    obtain ⟨_, _, n, _, h1⟩ := (show ObjOk X.prog X.w H s.heap a (.lst xs) from I.hok a _ ea)
    exact PySem.W.kia_one PySem.W.kitx_list I.kIn ⟨_, h1, rfl⟩ e (fun z => nomatch z) h
  | @frz a ob xs ea =>
    cases (show u = Value.ref a from rx)
    obtain ⟨_, _, _, n, _, h1⟩ := (show ObjOk X.prog X.w H s.heap a (.frz ob (.lst xs)) from I.hok a _ ea)
    exact PySem.W.kia_one PySem.W.kitx_list I.kIn ⟨_, h1, rfl⟩ e (fun z => nomatch z) h
  | @tup a xs ea =>
    cases (show u = Value.ref a from rx)
    obtain ⟨_, _, _, p⟩ := (show ObjOk X.prog X.w H s.heap a (.tup xs) from I.hok a _ ea)
    obtain ⟨o, h1, h2, _⟩ := p
    exact PySem.W.kia_one PySem.W.kitx_tuple I.kIn ⟨o, h1, h2⟩ e (fun z => nomatch z) h
  | @dK a kvs ea =>
    cases (show u = Value.ref a from rx)
    obtain ⟨_, _, vs, _, p⟩ := (show ObjOk X.prog X.w H s.heap a (.dK kvs) from I.hok a _ ea)
    obtain ⟨o, es, ep, h1, h2, _⟩ := p
    exact PySem.W.kia_one PySem.W.kitx_dict I.kIn ⟨o, h1, h2.1⟩ e (fun z => nomatch z) h
  | @dT a kvs ea =>
    cases (show u = Value.ref a from rx)
    obtain ⟨_, _, xs, _, o, es, ep, h1, h2, _⟩ := (show ObjOk X.prog X.w H s.heap a (.dT kvs) from I.hok a _ ea)
    exact PySem.W.kia_one PySem.W.kitx_dict I.kIn ⟨o, h1, h2.1⟩ e (fun z => nomatch z) h
  | @ins a C dx fs ea cl ha hn htk hm =>
    cases (show u = Value.ref a from rx)
    obtain ⟨mA, O, _⟩ := ins_get I.hok ea
    obtain ⟨od, J, _⟩ := O.look
    exact PySem.W.kia_one (PySem.W.kitx_own (cl.get _) cl.hd ha hn htk hm) I.kIn J e (fun z => nomatch z) h
end
end L2

namespace L2
open PySem PySem.Spec PyProof.Rows

structure Room (k : Nat) (A : Around) : Prop where
  hd : A.handled = none
  dp : A.depth + 3 * k + 5 < recursionLimit
  un : A.units + 16 * k + 200 < cLine
theorem Room.mono {j k : Nat} {A : Around} (r : Room k A) (h : j ≤ k) : Room j A := ⟨r.hd, by have := r.dp; omega, by have := r.un; omega⟩
theorem Room.deeper {k : Nat} {A : Around} (r : Room (k + 1) A) (env : Env) : Room k (A.deeper env) :=
  ⟨r.hd, by have := r.dp; show A.depth + 1 + 3 * k + 5 < _; omega, by have := r.un; show A.units + 3 + 16 * k + 200 < _; omega⟩
theorem Room.in1 {k : Nat} {A : Around} (r : Room (k + 1) A) : Room k A.in1 :=
  ⟨r.hd, by have := r.dp; show A.depth + 3 * k + 5 < _; omega, by have := r.un; show A.units + 1 + 16 * k + 200 < _; omega⟩
theorem make_depth {A : Around} {C : Addr} {us : List Value} {kw : List (Str × Value)} : (A.under (.builtin "type.__call__" ⟨.ref C :: us, kw⟩)).depth = A.depth + 1 := by
  first | rfl | simp [Around.under, Code.weight, Code.isCreation, Code.isGuard, Code.isCaller, Code.frames, Code.isFrame, guardIds]
theorem make_units {A : Around} {C : Addr} {us : List Value} {kw : List (Str × Value)} : (A.under (.builtin "type.__call__" ⟨.ref C :: us, kw⟩)).units = A.units + 1 := by
  first | rfl | simp [Around.under, Code.cUnits, Code.frames, Code.isFrame]
theorem Room.make {k : Nat} {A : Around} (r : Room (k + 1) A) (C : Addr) (us : List Value) (kw : List (Str × Value)) : Room k (A.under (.builtin "type.__call__" ⟨.ref C :: us, kw⟩)) :=
  ⟨r.hd, by have := r.dp; rw [make_depth]; omega, by have := r.un; rw [make_units]; omega⟩
theorem Room.depth {k : Nat} {A : Around} (r : Room k A) : A.depth < recursionLimit := by have := r.dp; omega
theorem Room.units {k : Nat} {A : Around} (r : Room k A) : A.units + 64 < cLine := by have := r.un; omega
def tNil : TA := fun _ H Q => Q [] H
def tCons (ta : TE) (tr : TA) : TA := fun σ H Q => ta σ H fun x H1 => tr σ H1 fun xs H2 => Q (x :: xs) H2
section
variable {X : Cx} {e : Expr} {es : List Expr} {te : TE} {t : TA} {pos : Pos}
theorem pa_nil : PA X [] tNil := fun _ _ _ _ H Q I h => Calls.spliced_nil ⟨[], H, I, .nil, h⟩
theorem pa_cons (ha : PE X e te) (hr : PA X es t) (hs : starEach (e :: es) X.env = (false, eval e X.env) :: starEach es X.env := by rfl) : PA X (e :: es) (tCons te t) := by
  intro pos pins s σ H Q I h
  rw [hs]
  show wpAny _ _ (spliced ((false, eval e X.env) :: backTo pos (starEach es X.env))) _ _ s
  refine Calls.spliced_cons (thn (ha pins s σ H _ I h) fun u s1 ⟨x, H1, I1, r1, q1⟩ => ?_)
  exact thn (hr pos pins s1 σ H1 _ I1 q1) fun us s2 ⟨xs, H2, I2, r2, q2⟩ => ⟨x :: xs, H2, I2, .cons r1 r2, q2⟩

def tTup (t : TA) : TE := fun σ H Q => t σ H fun xs H1 => xs.length ≤ sizeLine ∧ ∀ p, H1 p = none → Q (.ref p) (upd H1 p (.tup xs))
def tLst (t : TA) : TE := fun σ H Q => t σ H fun xs H1 => xs.length ≤ sizeLine ∧ ∀ p, H1 p = none → Q (.ref p) (upd H1 p (.lst xs))
theorem pe_tup {x1} (h : PA X es t) : PE X (.Tuple es x1 pos) (tTup t) := by
  intro pins s σ H Q I hq
  refine wpAny_Tuple_spliced (thn (h pos pins s σ H _ I hq) fun us s1 ⟨xs, H1, I1, r, z, q⟩ => ⟨by rw [← r.length]; exact z, ?_⟩)
  have hf : H1 s1.heap.objs.size = none := I1.hok.fresh (Nat.le_refl _)
  refine ⟨.ref s1.heap.objs.size, upd H1 s1.heap.objs.size (.tup xs), I1.laid (t' := s1.toks) (fun b u e => Heap.get?_push_of_some _ e) (Nat.le_refl _) ?_, rfl, q _ hf⟩
  exact ⟨z, us, r, ⟨_, Heap.get?_push_size _ rfl, rfl, _, rfl⟩⟩
theorem pe_lst (h : PA X es t) : PE X (.List es pos) (tLst t) := by
  intro pins s σ H Q I hq
  refine wpAny_List_spliced (thn (h pos pins s σ H _ I hq) fun us s1 ⟨xs, H1, I1, r, z, q⟩ => ⟨by rw [← r.length]; exact z, ?_⟩)
  have hf : H1 s1.heap.objs.size = none := I1.hok.fresh (Nat.le_refl _)
  refine ⟨.ref s1.heap.objs.size, upd H1 s1.heap.objs.size (.lst xs), I1.laid (t' := s1.toks) (fun b u e => Heap.get?_push_of_some _ e) (Nat.le_refl _) ?_, rfl, q _ hf⟩
  exact ⟨z, us, 0, r, Heap.get?_push_size _ rfl⟩
end

abbrev Sp := List V → Hp → VK → XK → Prop
abbrev CXT := List Env → Hp → Shared → XK → Value → Shared → Prop

structure Env0 (P : Program) (w : World) (K : PySem.W.Frag) (mg : Str → Option Value) (base : Heap) (A : Around) (outer : List Env) (s : Shared) (H : Hp) : Prop where
  frames : A.frames = some outer
  mod : Mod K mg base
  bs : ∀ b o, base.get? b = some o → s.heap.get? b = some o ∧ H b = none
  bsz : base.objs.size ≤ s.heap.objs.size
  funs : s.heap.FunFrames base outer
  frf : ∀ b ∈ frs outer, H b = none
  hok : HOk P w H s.heap
  bare : AllBare s.gens
def CE (outer : List Env) (P : Program) (w : World) (H : Hp) (s : Shared) (Q : VK) (u : Value) (s' : Shared) : Prop :=
  ∃ v H', s'.os = s.os ∧ AllBare s'.gens ∧ Un (frs outer) [] H H' s.heap s'.heap ∧ HOk P w H' s'.heap ∧ RelV v u ∧ Q v H'
def CR (CX : CXT) (outer : List Env) (P : Program) (w : World) (H : Hp) (s : Shared) (Q : VK) (E : XK) (r : Result) (s' : Shared) : Prop :=
  match r with
  | .ok (.ret u) => CE outer P w H s Q u s'
  | .ok _ => False
  | .error e => CX outer H s E e s'
structure FnOk (P : Program) (w : World) (K : PySem.W.Frag) (mg : Str → Option Value) (base : Heap) (CX : CXT) (k : Nat) (f : Addr) (fd : FuncData) (ps : List Str) (sp : Sp) : Prop where
  len : ∀ vs H Q E, sp vs H Q E → vs.length = ps.length
  run : ∀ (A : Around) (outer : List Env) (s : Shared) (H : Hp) (args : Args) (us : List Value) (vs : List V) (Q : VK) (E : XK), Room k A → Env0 P w K mg base A outer s H → BindsTo s fd args (ps.zip us) → Vals vs us → sp vs H Q E →
    codeAny (model P w) A (.call (.ref f) args) (CR CX outer P w H s Q E) s
theorem FnOk.mono {P : Program} {w : World} {K : PySem.W.Frag} {mg : Str → Option Value} {base : Heap} {CX : CXT} {j k : Nat} {f : Addr} {fd : FuncData} {ps : List Str} {sp : Sp} (F : FnOk P w K mg base CX j f fd ps sp) (h : j ≤ k) :
    FnOk P w K mg base CX k f fd ps sp := ⟨F.len, fun A outer s H args us vs Q E hr => F.run A outer s H args us vs Q E (hr.mono h)⟩
theorem FnOk.imp {P : Program} {w : World} {K : PySem.W.Frag} {mg : Str → Option Value} {base : Heap} {CX : CXT} {k : Nat} {f : Addr} {fd : FuncData} {ps : List Str} {sp sp' : Sp} (F : FnOk P w K mg base CX k f fd ps sp)
    (h : ∀ vs H Q E, sp' vs H Q E → sp vs H Q E) : FnOk P w K mg base CX k f fd ps sp' :=
  ⟨fun vs H Q E q => F.len vs H Q E (h _ _ _ _ q), fun A outer s H args us vs Q E hr he hb hv hs => F.run A outer s H args us vs Q E hr he hb hv (h _ _ _ _ hs)⟩

theorem Env0.make {P : Program} {w : World} {K : PySem.W.Frag} {mg : Str → Option Value} {base : Heap} {A : Around} {outer : List Env} {s : Shared} {H : Hp} (e : Env0 P w K mg base A outer s H) (C : Addr) (us : List Value) (kw : List (Str × Value)) :
    Env0 P w K mg base (A.under (.builtin "type.__call__" ⟨.ref C :: us, kw⟩)) outer s H := ⟨by first | exact e.frames | (simpa [Around.under, Code.envs, Code.isFrame, pushEnvs] using e.frames), e.mod, e.bs, e.bsz, e.funs, e.frf, e.hok, e.bare⟩
theorem Env0.in1 {P : Program} {w : World} {K : PySem.W.Frag} {mg : Str → Option Value} {base : Heap} {A : Around} {outer : List Env} {s : Shared} {H : Hp} (e : Env0 P w K mg base A outer s H) :
    Env0 P w K mg base A.in1 outer s H := ⟨e.frames, e.mod, e.bs, e.bsz, e.funs, e.frf, e.hok, e.bare⟩

section
variable {X : Cx} {pins : List (Addr × Obj)} {σ : St} {H : Hp} {s s' : Shared}
theorem Inv.env0 (I : Inv X pins σ H s) : Env0 X.prog X.w X.K X.mg X.base X.A X.stack s H :=
  ⟨I.ok.frames, I.ok.mod, I.bs, Nat.le_trans I.ok.bsz I.sz, I.stack, I.stkFree, I.hok, I.bare⟩
theorem Inv.after {Q : VK} {u : Value} (I : Inv X pins σ H s) (h : CE X.stack X.prog X.w H s Q u s') : EP X pins σ Q u s' := by
  obtain ⟨v, H', os, bare, un, hok, r, q⟩ := h
  obtain ⟨hh, g, d, t, os'⟩ := s'
  obtain rfl : os' = s.os := os
  exact ⟨v, H', I.call (h' := hh) (g' := g) (d' := d) (t' := t) (ch := []) un hok bare (fun b z => absurd z (by simp)), r, q⟩
end

def tCall (sp : Sp) (dvs : List V) (E : XK) (t : TA) : TE := fun σ H Q => t σ H fun vs H1 => sp (vs ++ dvs) H1 Q E
def tMeth (C : Addr) (m : Str) (sp : Sp) (dvs : List V) (E : XK) (ta : TE) (t : TA) : TE := fun σ H Q => ta σ H fun x H1 => ∃ a dx fs, x = .ref a ∧ H1 a = some (.ins C dx fs) ∧ fs.lookup m = none ∧
  t σ H1 fun vs H2 => sp (x :: (vs ++ dvs)) H2 Q E
def tMake (C : Addr) (sp : Sp) (dvs : List V) (E : XK) (t : TA) : TE := fun σ H Q => t σ H fun vs H1 => ∀ x dx, H1 x = none → H1 dx = none → dx ≠ x →
  sp (.ref x :: (vs ++ dvs)) (upd (upd H1 dx (.own x)) x (.ins C dx [])) (fun v H2 => v = .non ∧ Q (.ref x) H2) E

def Binds (K : PySem.W.Frag) (fd : FuncData) (ps : List Str) (ds : List Value) : Prop :=
  ∀ (s : Shared) (us : List Value), K.In s.heap → (us ++ ds).length = ps.length → BindsTo s fd ⟨us, []⟩ (ps.zip (us ++ ds))
theorem Binds.all {K : PySem.W.Frag} {fd : FuncData} {ps : List Str} (h : ∀ us : List Value, us.length = ps.length → bindArgs fd ⟨us, []⟩ = pure (ps.zip us)) : Binds K fd ps [] := fun s us _ hl => by
  rw [List.append_nil] at hl ⊢
  exact .of_eq (h us hl)

def Passes (CX : CXT) (X : Cx) (E : XK) : Prop := ∀ (pins : List (Addr × Obj)) (σ : St) (H : Hp) (s : Shared) (e : Value) (s' : Shared), Inv X pins σ H s → CX X.stack H s E e s' → X.xe e s'

section
variable {X : Cx} {CX : CXT} {k : Nat} {f C : Addr} {fd : FuncData} {ps : List Str} {sp : Sp} {dvs : List V} {ds : List Value} {E : XK} {x m : Str} {p pos apos : Pos} {e o : Expr} {es : List Expr} {ta : TE} {t : TA}

theorem run_fn {pins : List (Addr × Obj)} {σ : St} {H : Hp} {s : Shared} {Q : VK} {us : List Value} {vs : List V} (F : FnOk X.prog X.w X.K X.mg X.base CX k f fd ps sp) (hr : Room k X.A) (hb : Binds X.K fd ps ds) (hd : Vals dvs ds) (hx : Passes CX X E)
    (I : Inv X pins σ H s) (r : Vals vs us) (h : sp (vs ++ dvs) H Q E) : wpAny (model X.prog X.w) X.A (call (.ref f) us) (EP X pins σ Q) X.xe s := by
  have r2 : Vals (vs ++ dvs) (us ++ ds) := r.append hd
  have hl : (us ++ ds).length = ps.length := by rw [← r2.length]; exact F.len _ _ _ _ h
  refine wpAny_call (codeAny_mono (F.run X.A X.stack s H ⟨us, []⟩ (us ++ ds) (vs ++ dvs) Q E hr I.env0 (hb s us I.kIn hl) r2 h) fun r s' hq => ?_)
  cases r with
  | error e => exact hx pins σ H s e s' I hq
  | ok fl =>
    cases fl with
    | ret u => exact I.after hq
    | next => exact False.elim hq
    | brk => exact False.elim hq
    | cont => exact False.elim hq

theorem pe_call (F : FnOk X.prog X.w X.K X.mg X.base CX k f fd ps sp) (hr : Room k X.A) (hg : Gl X x) (hm : X.mg x = some (.ref f)) (hk : PySem.W.keepIn X.K (.ref f) = true) (hb : Binds X.K fd ps ds) (hd : Vals dvs ds) (hx : Passes CX X E)
    (ha : PA X (e :: es) t) (hdb : (x == ("__debug__" : Str)) = false := by decide) (he : starEach (e :: es) X.env = (false, eval e X.env) :: starEach es X.env := by rfl) (hpl : (backTo pos (starEach es X.env)).any (·.1) = false := by rfl) :
    PE X (.Call (.Name x p) (e :: es) [] pos) (tCall sp dvs E t) := by
  intro pins s σ H Q I h
  refine wpAny_Call_Name_kw (ld_glob I hg hm ?_ hdb)
  refine PySem.W.callWith_K (h₀ := X.base) I.ok.mod.kin hk (thn (ha pos pins s σ H _ I h) fun us s1 ⟨vs, H1, I1, r, q⟩ => ⟨I1.kIn, ?_⟩) he hpl
  exact run_fn F hr hb hd hx I1 r q
structure Mk (K : PySem.W.Frag) (C f : Addr) : Prop where
  makes : PySem.W.makesIn K C = true
  init : PySem.W.findIn K (.ref C) "__init__" = some (some (.ref f))
  fn : PySem.W.isFn K (.ref f) = true
  kp : PySem.W.keepIn K (.ref C) = true

theorem run_make {pins : List (Addr × Obj)} {σ : St} {H : Hp} {s : Shared} {Q : VK} {us : List Value} {vs : List V} (M : Mk X.K C f) (F : FnOk X.prog X.w X.K X.mg X.base CX k f fd ps sp) (hr : Room (k + 1) X.A) (hb : Binds X.K fd ps ds) (hd : Vals dvs ds)
    (hx : Passes CX X E) (I : Inv X pins σ H s) (r : Vals vs us)
    (h : ∀ x dx, H x = none → H dx = none → dx ≠ x → sp (.ref x :: (vs ++ dvs)) (upd (upd H dx (.own x)) x (.ins C dx [])) (fun v H2 => v = .non ∧ Q (.ref x) H2) E) :
    wpAny (model X.prog X.w) X.A (call (.ref C) us) (EP X pins σ Q) X.xe s := by
  have hq := h (s.heap.objs.size + 1) s.heap.objs.size (I.hok.fresh (Nat.le_succ _)) (I.hok.fresh (Nat.le_refl _)) (Nat.ne_of_lt (Nat.lt_succ_self _))
  have I2 := Inv.made (C := C) I
  have r2 : Vals (V.ref (s.heap.objs.size + 1) :: (vs ++ dvs)) (Value.ref (s.heap.objs.size + 1) :: (us ++ ds)) := .cons rfl (r.append hd)
  have hl : (Value.ref (s.heap.objs.size + 1) :: us ++ ds).length = ps.length := by
    have e := r2.length
    rw [F.len _ _ _ _ hq] at e
    exact e.symm
  refine wpAny_call (make_map (f := f) I.kIn M.makes M.init (beq_iff_eq.mp M.fn) (codeAny_mono (F.run _ X.stack _ _ ⟨Value.ref (s.heap.objs.size + 1) :: us, []⟩ (Value.ref (s.heap.objs.size + 1) :: (us ++ ds)) _ _ E (hr.make C us [])
    (I2.env0.make C us []) (hb _ (Value.ref (s.heap.objs.size + 1) :: us) I2.kIn hl) r2 hq) fun r s' hq' => ?_))
  cases r with
  | error e => exact hx pins σ _ _ e s' I2 hq'
  | ok fl =>
    cases fl with
    | ret u =>
      obtain ⟨v, H', I3, rv, ev, q3⟩ := I2.after hq'
      subst ev
      exact ⟨rv, ⟨V.ref (s.heap.objs.size + 1), H', I3, rfl, q3⟩⟩
    | next => exact False.elim hq'
    | brk => exact False.elim hq'
    | cont => exact False.elim hq'
theorem pe_make (M : Mk X.K C f) (F : FnOk X.prog X.w X.K X.mg X.base CX k f fd ps sp) (hr : Room (k + 1) X.A) (hg : Gl X x) (hm : X.mg x = some (.ref C)) (hb : Binds X.K fd ps ds) (hd : Vals dvs ds) (hx : Passes CX X E)
    (ha : PA X (e :: es) t) (hdb : (x == ("__debug__" : Str)) = false := by decide) (he : starEach (e :: es) X.env = (false, eval e X.env) :: starEach es X.env := by rfl) (hpl : (backTo pos (starEach es X.env)).any (·.1) = false := by rfl) :
    PE X (.Call (.Name x p) (e :: es) [] pos) (tMake C sp dvs E t) := by
  intro pins s σ H Q I h
  refine wpAny_Call_Name_kw (ld_glob I hg hm ?_ hdb)
  refine PySem.W.callWith_K (h₀ := X.base) I.ok.mod.kin M.kp (thn (ha pos pins s σ H _ I h) fun us s1 ⟨vs, H1, I1, r, q⟩ => ⟨I1.kIn, ?_⟩) he hpl
  exact run_make M F hr hb hd hx I1 r q
theorem pe_make0 (M : Mk X.K C f) (F : FnOk X.prog X.w X.K X.mg X.base CX k f fd ps sp) (hr : Room (k + 1) X.A) (hg : Gl X x) (hm : X.mg x = some (.ref C)) (hb : Binds X.K fd ps ds) (hd : Vals dvs ds) (hx : Passes CX X E)
    (hdb : (x == ("__debug__" : Str)) = false := by decide) : PE X (.Call (.Name x p) [] [] pos) (tMake C sp dvs E tNil) := by
  intro pins s σ H Q I h
  refine wpAny_Call_Name_kw (ld_glob I hg hm ?_ hdb)
  exact PySem.W.callWith_K0 I.kIn M.kp (run_make (us := []) M F hr hb hd hx I .nil h)
end

def PK (X : Cx) (kws : List Keyword) (t : TA) : Prop :=
  ∀ (pos : Pos) (pins : List (Addr × Obj)) (s : Shared) (σ : St) (H : Hp) (Q : List V → Hp → Prop), Inv X pins σ H s → t σ H Q → wpAny (model X.prog X.w) X.A (evalAll ((backToKw pos (keywordEach kws X.env)).map (·.2))) (AP X pins σ Q) X.xe s
section
variable {X : Cx} {CX : CXT} {k : Nat} {f C : Addr} {fd : FuncData} {ps ks : List Str} {sp : Sp} {E : XK} {x m : Str} {p pos apos kpos : Pos} {e o : Expr} {es : List Expr} {kws : List Keyword} {te ta : TE} {t tk : TA} {nm : Option Str}
structure KBinds (K : PySem.W.Frag) (fd : FuncData) (ps ks : List Str) (g : List Value → List Value → List Value) (gV : List V → List V → List V) : Prop where
  to : ∀ (s : Shared) (us ws : List Value), K.In s.heap → (g us ws).length = ps.length → BindsTo s fd ⟨us, ks.zip ws⟩ (ps.zip (g us ws))
  rel : ∀ {vs : List V} {us : List Value} {zs : List V} {ws : List Value}, Vals vs us → Vals zs ws → Vals (gV vs zs) (g us ws)
def tCallK (sp : Sp) (gV : List V → List V → List V) (E : XK) (t tk : TA) : TE := fun σ H Q => t σ H fun vs H1 => tk σ H1 fun zs H2 => sp (gV vs zs) H2 Q E
variable {g : List Value → List Value → List Value} {gV : List V → List V → List V}
end

structure FnScope (N P : List Str) (sc : Scope) : Prop where
  kind : sc.kind = .function
  co : sc.isCoroutine = false
  gen : sc.isGenerator = false
  nd : N.Nodup
  pre : N.take P.length = P
  par : ∀ x ∈ P, sc.names.lookup x = some .local ∨ sc.names.lookup x = some .cell
  nofree : ∀ y ∈ sc.names, y.2 ≠ .free

theorem bindL_out {kindOf : Str → Option NameKind} {x : Str} : ∀ {binds : List (Str × Value)} {m : Str → Option Value}, (∀ v, (x, v) ∉ binds) → bindL kindOf binds m x = m x
  | [], _, _ => rfl
  | (n, v) :: r, m, h => by
    unfold bindL
    rw [bindL_out fun w hw => h w (List.mem_cons_of_mem _ hw)]
    split
    · have : x ≠ n := by rintro rfl; exact h v List.mem_cons_self
      simp [this]
    · rfl
theorem bindC_out {kindOf : Str → Option NameKind} {x : Str} : ∀ {binds : List (Str × Value)} {m : Str → Option Value}, (∀ v, (x, v) ∉ binds) → bindC kindOf binds m x = m x
  | [], _, _ => rfl
  | (n, v) :: r, m, h => by
    unfold bindC
    rw [bindC_out fun w hw => h w (List.mem_cons_of_mem _ hw)]
    split
    · rfl
    · have : x ≠ n := by rintro rfl; exact h v List.mem_cons_self
      simp [this]
theorem bindL_get {kindOf : Str → Option NameKind} {x : Str} {v : Value} : ∀ {P : List Str} {vs : List Value} {i : Nat} {m : Str → Option Value}, P.Nodup → P[i]? = some x → vs[i]? = some v → kindOf x = some .local →
    bindL kindOf (P.zip vs) m x = some v
  | [], _, _, _, _, h, _, _ => by simp at h
  | _ :: _, [], _, _, _, _, h, _ => by simp at h
  | p :: P, w :: vs, 0, m, nd, h1, h2, hk => by
    simp at h1 h2; subst h1; subst h2
    show bindL kindOf ((p, w) :: P.zip vs) m p = _
    unfold bindL
    rw [bindL_out fun v hv => (List.nodup_cons.mp nd).1 (List.of_mem_zip hv).1, if_pos hk]
    simp
  | p :: P, w :: vs, i + 1, m, nd, h1, h2, hk => by
    show bindL kindOf ((p, w) :: P.zip vs) m x = _
    unfold bindL
    exact bindL_get (i := i) (List.nodup_cons.mp nd).2 (by simpa using h1) (by simpa using h2) hk
theorem bindC_get {kindOf : Str → Option NameKind} {x : Str} {v : Value} : ∀ {P : List Str} {vs : List Value} {i : Nat} {m : Str → Option Value}, P.Nodup → P[i]? = some x → vs[i]? = some v → kindOf x ≠ some .local →
    bindC kindOf (P.zip vs) m x = some v
  | [], _, _, _, _, h, _, _ => by simp at h
  | _ :: _, [], _, _, _, _, h, _ => by simp at h
  | p :: P, w :: vs, 0, m, nd, h1, h2, hk => by
    simp at h1 h2; subst h1; subst h2
    show bindC kindOf ((p, w) :: P.zip vs) m p = _
    unfold bindC
    rw [bindC_out fun v hv => (List.nodup_cons.mp nd).1 (List.of_mem_zip hv).1, if_neg hk]
    simp
  | p :: P, w :: vs, i + 1, m, nd, h1, h2, hk => by
    show bindC kindOf ((p, w) :: P.zip vs) m x = _
    unfold bindC
    exact bindC_get (i := i) (List.nodup_cons.mp nd).2 (by simpa using h1) (by simpa using h2) hk

def start (N : List Str) (vs : List V) : St := vs.map some ++ List.replicate (N.length - vs.length) none

def cxOf (CX : CXT) (P : Program) (w : World) (K : PySem.W.Frag) (mg : Str → Option Value) (base : Heap) (N : List Str) (qual : Str) (scope : Scope) (f : Addr) (cd : Value) (A : Around) (outer : List Env) (s : Shared) (H : Hp) (E : XK) : Cx where
  prog := P
  w := w
  K := K
  mg := mg
  base := base
  A := A.deeper (envOfC qual scope s.heap.objs.size f cd)
  N := N
  s₀ := s
  H₀ := H
  env := envOfC qual scope s.heap.objs.size f cd
  outer := outer
  stack := envOfC qual scope s.heap.objs.size f cd :: outer
  ex := []
  calm := true
  fn := fun _ => true
  pn := []
  xe := fun e s' => wpAny (model P w) (A.deeper (envOfC qual scope s.heap.objs.size f cd)) (leaving (envOfC qual scope s.heap.objs.size f cd) e) (fun _ s'' => CX outer H s E e s'') (fun e' s'' => CX outer H s E e' s'') s'

theorem cell_has {sc : Scope} {n : Nat} {x : Str} (h : sc.names.lookup x = some .cell) : ∃ c, (cellsFrom n sc.names []).lookup x = some c := by
  have q := PySem.W.cellsFrom_some sc.names n [] (.inl h)
  exact Option.isSome_iff_exists.mp q

theorem inv_start {CX : CXT} {P : Program} {w : World} {K : PySem.W.Frag} {mg : Str → Option Value} {base : Heap} {N ps : List Str} {qual : Str} {scope : Scope} {f : Addr} {cd : Value} {A : Around} {outer : List Env} {s s1 : Shared} {H : Hp} {E : XK} {us : List Value} {vs : List V}
    (S : FnScope N ps scope) (hd : A.handled = none) (e0 : Env0 P w K mg base A outer s H) (hl : vs.length = ps.length) (r : Vals vs us)
    (x : InCallC s s.heap.objs.size (bindL (envOfC qual scope s.heap.objs.size f cd).kindOf (ps.zip us) fun _ => none) (cellsFrom (s.heap.objs.size + 1) scope.names []) (bindC (envOfC qual scope s.heap.objs.size f cd).kindOf (ps.zip us) fun _ => none) s1) :
    Inv (cxOf CX P w K mg base N qual scope f cd A outer s H E) [] (start N vs) H s1 := by
  have hpl : ps.length ≤ N.length := by have := congrArg List.length S.pre; rw [List.length_take] at this; omega
  obtain ⟨h1, tk, rfl, hk⟩ := x.done
  have noA : ∀ b : Addr, b ∉ (cxOf CX P w K mg base N qual scope f cd A outer s H E).ex := fun b z => absurd (show b ∈ ([] : List Addr) from z) (by simp)
  refine ⟨⟨e0.mod, S.kind, rfl, rfl, Nat.le_refl _, fun y z c h1 h2 => ?_, fun y hy => ?_, fun y c _ h => ?_, fun _ => hd, Around.frames_deeper e0.frames, .inr ⟨rfl, rfl⟩, fun b z => absurd z (noA b), e0.bs, e0.bsz, fun b _ _ => noA b, fun b z => absurd z (noA b), e0.funs, e0.frf⟩,
    rfl, e0.bare, Un.kept hk, ⟨_, x.toInCall.ns, fun i y v h1 h2 h3 => ?_⟩, fun y c h => ⟨_, x.cell y c h⟩, e0.hok.fresh (Nat.le_refl _), fun y c h => ?_, fun p hp => absurd (show p ∈ ([] : List (Addr × Obj)) from hp) (by simp), e0.hok.kept hk, ?_⟩
  · exact name_of_addr x.apart (PySem.mem_of_lookup h1) (PySem.mem_of_lookup h2)
  · have hy : scope.names.lookup y = some .cell ∨ scope.names.lookup y = some .free := hy
    rcases hy with hy | hy
    · exact cell_has hy
    · exact absurd rfl (S.nofree _ (PySem.mem_of_lookup hy))
  · exact Nat.le_of_lt (x.above y c (PySem.mem_of_lookup h))
  · have hi : i < vs.length := by
      unfold start at h2
      by_cases hi : i < vs.length
      · exact hi
      · rw [List.getElem?_append_right (by simpa using hi)] at h2
        rw [List.getElem?_replicate] at h2
        split at h2 <;> cases h2
    have ha : vs[i]? = some v := by
      unfold start at h2
      rw [List.getElem?_append_left (by simpa using hi), List.getElem?_map] at h2
      cases e : vs[i]? with
      | none => rw [e] at h2; cases h2
      | some a => rw [e] at h2; cases h2; rfl
    obtain ⟨u, hu, rv⟩ := r.get ha
    have hp : ps[i]? = some y := by
      rw [← S.pre, List.getElem?_take_of_lt (by omega)]; exact h1
    have ndP : ps.Nodup := by rw [← S.pre]; exact S.nd.sublist (List.take_sublist _ _)
    refine ⟨u, rv, ?_⟩
    rcases S.par y (List.mem_of_getElem? hp) with k | k
    · exact .inl ⟨k, bindL_get ndP hp hu k⟩
    · obtain ⟨c, e⟩ := cell_has (n := s.heap.objs.size + 1) k
      refine .inr ⟨.inl k, c, e, ?_⟩
      have q := x.cell y c e
      rw [bindC_get ndP hp hu (by show scope.names.lookup y ≠ _; rw [k]; decide)] at q
      exact q
  · exact e0.hok.fresh (Nat.le_of_lt (x.above y c (PySem.mem_of_lookup h)))
  · unfold start
    show _ = N.length
    rw [List.length_append, List.length_map, List.length_replicate]
    omega

theorem fn_of {CX : CXT} {P : Program} {w : World} {K : PySem.W.Frag} {mg : Str → Option Value} {base : Heap} {k : Nat} {f : Addr} {name qual : Str} {params : Arguments} {body : List Stmt} {scope : Scope} {dV kV doc pm cdv ct oc : Value} {an od : Option Addr}
    {osl : Array (Option Value)} {N ps : List Str} {sp : Sp} (lk : K.lookup f = some ⟨oc, od, .func (PySem.W.fnOf name qual params body scope dV kV doc pm an cdv ct), osl⟩) (hcd : PySem.W.codeIn K cdv qual = true) (S : FnScope N ps scope)
    (len : ∀ vs H Q E, sp vs H Q E → vs.length = ps.length)
    (hbody : ∀ (A : Around) (outer : List Env) (s : Shared) (H : Hp) (vs : List V) (Q : VK) (E : XK), Room k (A.deeper (envOfC qual scope s.heap.objs.size f cdv)) → sp vs H Q E →
      ∃ t, PSs (cxOf CX P w K mg base N qual scope f cdv A outer s H E) body t ∧ t { nx := fun _ H' => Q .non H', rt := Q } (start N vs) H) :
    FnOk P w K mg base CX (k + 1) f (PySem.W.fnOf name qual params body scope dV kV doc pm an cdv ct) ps sp := by
  refine ⟨len, fun A outer s H args us vs Q E hr e0 hb r hsp => ?_⟩
  have hl := len _ _ _ _ hsp
  have KX : K.In s.heap := e0.mod.kin.keeps fun b o e => (e0.bs b o e).1
  have lim : s.heap.NoLimit := e0.mod.nolimit.keeps fun b o e => (e0.bs b o e).1
  have hkind : ∀ y ∈ ps.zip us, scope.names.lookup y.1 = some .local ∨ (scope.names.lookup y.1 = some .cell ∧ ((cellsFrom (s.heap.objs.size + 1) scope.names []).lookup y.1).isSome = true) := fun ⟨n, v⟩ hy => by
    rcases S.par n (List.of_mem_zip hy).1 with q | q
    · exact .inl q
    · exact .inr ⟨q, PySem.W.cellsFrom_some _ _ _ (.inl q)⟩
  refine codeAny_call_function hr.depth (KX _ _ lk) rfl S.co S.gen rfl (PySem.W.codeRec_of KX hcd) (hb _ _ _ _ ?_)
  refine wpAny_newFunctionEnv_cells S.kind hkind fun env he s1 x => ?_
  subst he
  refine ⟨lim.keeps x.toInCall.keep, codeAny_func ?_⟩
  obtain ⟨t, ht, hq⟩ := hbody A outer s H vs Q E (hr.deeper _) hsp
  have I : Inv (cxOf CX P w K mg base N qual scope f cdv A outer s H E) [] (start N vs) H s1 := inv_start S hr.hd e0 hl r x
  refine wpAny_mono (ht [] s1 (start N vs) H _ I hq) (fun fl s' hs => ?_) fun e s' hs => hs
  have fin : ∀ {σ' : St} {H' : Hp} {v : V} {u : Value}, Inv (cxOf CX P w K mg base N qual scope f cdv A outer s H E) [] σ' H' s' → RelV v u → Q v H' → CE outer P w H s Q u s' :=
    fun {σ' H' v u} J rv q => ⟨v, H', J.os, J.bare, J.base, J.hok, rv, q⟩
  cases fl with
  | ret u =>
    obtain ⟨v, σ', H', J, rv, q⟩ := hs
    exact fin J rv q
  | next =>
    obtain ⟨σ', H', J, q⟩ := hs
    exact fin (v := V.non) (u := Value.none) J rfl q
  | brk =>
    obtain ⟨_, _, _, q⟩ := hs
    exact False.elim q
  | cont =>
    obtain ⟨_, _, _, q⟩ := hs
    exact False.elim q
end L2

namespace L2
open PySem PySem.Spec PyProof.Rows
section
variable {X : Cx} {x : Str} {p pos : Pos} {e : Expr} {es : List Expr} {t : TA} {id T : String} {r : List V → Hp → VK → Prop}

def tCB (r : List V → Hp → VK → Prop) (t : TA) : TE := fun σ H Q => t σ H fun vs H1 => r vs H1 Q
theorem pe_callB (hc : CallR X (.builtin id) r) (hg : Gl X x) (hm : X.mg x = none) (hv : bootBuiltins x = some (.builtin id)) (ha : PA X (e :: es) t) (hn : x ≠ "__name__" := by decide) (hdb : (x == ("__debug__" : Str)) = false := by decide)
    (he : starEach (e :: es) X.env = (false, eval e X.env) :: starEach es X.env := by rfl) (hpl : (backTo pos (starEach es X.env)).any (·.1) = false := by rfl) : PE X (.Call (.Name x p) (e :: es) [] pos) (tCB r t) := by
  intro pins s σ H Q I h
  refine wpAny_Call_Name_kw (ld_blt I hg hm hv ?_ hn hdb)
  exact PyProof.Rows.callWith_builtin1 (thn (ha pos pins s σ H _ I h) fun us s1 ⟨vs, H1, I1, r1, q1⟩ => hc pins s1 σ H1 vs us Q I1 r1 q1) he hpl
theorem pe_callTy (hc : CallR X (.type T) r) (hg : Gl X x) (hm : X.mg x = none) (hv : bootBuiltins x = some (.type T)) (ha : PA X (e :: es) t) (hn : x ≠ "__name__" := by decide) (hdb : (x == ("__debug__" : Str)) = false := by decide)
    (he : starEach (e :: es) X.env = (false, eval e X.env) :: starEach es X.env := by rfl) (hpl : (backTo pos (starEach es X.env)).any (·.1) = false := by rfl) : PE X (.Call (.Name x p) (e :: es) [] pos) (tCB r t) := by
  intro pins s σ H Q I h
  refine wpAny_Call_Name_kw (ld_blt I hg hm hv ?_ hn hdb)
  exact PyProof.Rows.callWith_type1 (thn (ha pos pins s σ H _ I h) fun us s1 ⟨vs, H1, I1, r1, q1⟩ => hc pins s1 σ H1 vs us Q I1 r1 q1) he hpl
end
end L2

namespace HT
open PySem PyProof.Rows

def lexLt : List Int → List Int → Bool
  | [], [] => false
  | [], _ :: _ => true
  | _ :: _, [] => false
  | x :: xs, y :: ys => if x = y then lexLt xs ys else decide (x < y)
section
open PySem.SeqAt
open PySem.AutoSeq1 (wpAny_loadPart')
open PySem.MeetsSeq PySem.MeetsSeq2 PySem.MeetsSeq3

end

section
variable {prog : Program} {w : World} {A : Around} {E : Value → Shared → Prop} {s : Shared}

def sIx (n d : Nat) : Option Int → Nat
  | none => d
  | some v => if v < 0 then (v + (n : Int)).toNat else min v.toNat n
end
end HT

namespace L2
open PySem PySem.Spec PyProof.Rows

abbrev TO := St → Hp → (Option Int → Hp → Prop) → Prop
def PO (X : Cx) (e : Option Expr) (t : TO) : Prop :=
  ∀ (pins : List (Addr × Obj)) (s : Shared) (σ : St) (H : Hp) (Q : Option Int → Hp → Prop), Inv X pins σ H s → t σ H Q →
    wpAny (model X.prog X.w) X.A (evalPart e X.env) (fun u s' => ∃ o H', Inv X pins σ H' s' ∧ IsPart u o ∧ Q o H') X.xe s
def tNoPart : TO := fun _ H Q => Q none H
def tPart (t : TE) : TO := fun σ H Q => t σ H fun x H1 => ∃ i, x = .int i ∧ Q (some i) H1

section
variable {X : Cx} {e : Expr} {te : TE} {lo hi : Option Expr} {tl th : TO} {pos p2 : Pos}

theorem po_none : PO X none tNoPart := by
  intro pins s σ H Q I h
  rw [evalPart_none]
  exact wpAny_pure ⟨none, H, I, .none, h⟩
theorem po_some (h : PE X e te) : PO X (some e) (tPart te) := by
  intro pins s σ H Q I hw
  rw [evalPart_some]
  refine thn (h pins s σ H _ I hw) fun u s1 ⟨x, H1, I1, r1, q1⟩ => ?_
  obtain ⟨i, rfl, q⟩ := q1
  obtain ⟨t, rfl⟩ := r1
  exact ⟨some i, H1, I1, .int i t, q⟩

def SlR (X : Cx) (r : V → Option Int → Option Int → Hp → VK → Prop) : Prop :=
  ∀ (pins : List (Addr × Obj)) (s : Shared) (σ : St) (H : Hp) (x : V) (v vl vu : Value) (lo hi : Option Int) (sl : Addr) (Q : VK), Inv X pins σ H s → RelV x v → s.heap.IsSliceOf sl vl vu .none → IsPart vl lo → IsPart vu hi → r x lo hi H Q →
    ∃ T id, typeLookup (.type T) "__getitem__" = pure (some (.builtin id)) ∧ s.TypeIs v T ∧ wpAny (model X.prog X.w) X.A (getItem v (.ref sl)) (EP X pins σ Q) X.xe s
theorem SlR.or {r r' : V → Option Int → Option Int → Hp → VK → Prop} (h : SlR X r) (h' : SlR X r') : SlR X (fun x lo hi H Q => r x lo hi H Q ∨ r' x lo hi H Q) := by
  intro pins s σ H x v vl vu lo hi sl Q I rx hs pl pu q
  rcases q with q | q
  · exact h pins s σ H x v vl vu lo hi sl Q I rx hs pl pu q
  · exact h' pins s σ H x v vl vu lo hi sl Q I rx hs pl pu q
def tSl (r : V → Option Int → Option Int → Hp → VK → Prop) (te : TE) (tl th : TO) : TE := fun σ H Q => te σ H fun x H1 => tl σ H1 fun l H2 => th σ H2 fun u H3 => r x l u H3 Q
theorem pe_slice {r : V → Option Int → Option Int → Hp → VK → Prop} (hr : SlR X r) (he : PE X e te) (hl : PO X lo tl) (hu : PO X hi th) : PE X (.Subscript e (.Slice lo hi none p2) pos) (tSl r te tl th) := by
  intro pins s σ H Q I h
  refine Subscript_ (thn (he pins s σ H _ I h) fun v s1 ⟨x, H1, I1, r1, q1⟩ => ?_)
  refine wpAny_Slice (thn (hl pins s1 σ H1 _ I1 q1) fun vl s2 ⟨l, H2, I2, pl, q2⟩ => thn (hu pins s2 σ H2 _ I2 q2) fun vu s3 ⟨u, H3, I3, pu, q3⟩ => ?_)
  rw [evalPart_none]
  refine wpAny_pure ?_
  have I4 : Inv X pins σ H3 { s3 with heap := s3.heap.push { cls := .type "slice", data := .fields #[vl, vu, .none] } } := I3.kept (t' := s3.toks) fun b ob q => Heap.get?_push_of_some _ q
  obtain ⟨T, id, hT, ht, hg⟩ := hr pins { s3 with heap := s3.heap.push { cls := .type "slice", data := .fields #[vl, vu, .none] } } σ H3 x v vl vu l u s3.heap.objs.size Q I4 r1 (Heap.IsSliceOf.new ..) pl pu q3
  show wpAny (model X.prog X.w) X.A (subscriptTail e (.Slice lo hi none p2) v (.ref s3.heap.objs.size)) (EP X pins σ Q) X.xe { s3 with heap := s3.heap.push { cls := .type "slice", data := .fields #[vl, vu, .none] } }
  exact tail_any (ops := [.ref s3.heap.objs.size, v]) ht hT hg (by with_unfolding_all rfl)

def cutV (xs : List V) (lo hi : Option Int) : List V := (xs.drop (HT.sIx xs.length 0 lo)).take (HT.sIx xs.length xs.length hi - HT.sIx xs.length 0 lo)
def rSlT (K : PySem.W.Frag) : V → Option Int → Option Int → Hp → VK → Prop := fun x lo hi H Q => ∃ a xs, x = .ref a ∧ SqT K H a xs ∧
  ¬ (HT.sIx xs.length 0 lo = 0 ∧ HT.sIx xs.length xs.length hi = xs.length) ∧ ∀ p, H p = none → Q (.ref p) (upd H p (.tup (cutV xs lo hi)))
def rLtT (K : PySem.W.Frag) : R2 := fun x y H Q => ∃ a b ns ms, x = .ref a ∧ y = .ref b ∧ SqT K H a (ns.map V.int) ∧ SqT K H b (ms.map V.int) ∧ Q (.bl (HT.lexLt ns ms)) H
def rCatT (K : PySem.W.Frag) : R2 := fun x y H Q => ∃ a b xs ys, x = .ref a ∧ y = .ref b ∧ SqT K H a xs ∧ SqT K H b ys ∧ xs ≠ [] ∧ xs.length + ys.length ≤ sizeLine ∧
  (ys = [] → Q (.ref a) H) ∧ (ys ≠ [] → ∀ p, H p = none → Q (.ref p) (upd H p (.tup (xs ++ ys))))
end
end L2

namespace L2
open PySem PySem.Spec PyProof.Rows

def ixN (n : Nat) (i : Int) : Option Nat := if 0 ≤ i then (if i < n then some i.toNat else none) else if -(n : Int) ≤ i then some (i + n).toNat else none
def atI {α : Type} (xs : List α) (i : Int) : Option α := (ixN xs.length i).bind fun j => xs[j]?
theorem ixN_seq {n : Nat} {i : Int} {j : Nat} (h : ixN n i = some j) : seqIndex? i n = some j ∧ j < n ∧ -(n : Int) ≤ i ∧ i < n := by
  unfold ixN at h
  by_cases h0 : 0 ≤ i
  · rw [if_pos h0] at h
    by_cases h1 : i < n
    · rw [if_pos h1] at h
      have e : i.toNat = j := Option.some.inj h
      exact ⟨by rw [seqIndex_of h0 h1, e], by omega, by omega, h1⟩
    · rw [if_neg h1] at h; cases h
  · rw [if_neg h0] at h
    by_cases h1 : -(n : Int) ≤ i
    · rw [if_pos h1] at h
      have e : (i + n).toNat = j := Option.some.inj h
      exact ⟨by rw [seqIndex_neg (by omega) h1, e], by omega, h1, by omega⟩
    · rw [if_neg h1] at h; cases h
theorem atI_get {α : Type} {xs : List α} {i : Int} {v : α} (h : atI xs i = some v) : ∃ j, seqIndex? i xs.length = some j ∧ xs[j]? = some v ∧ j < xs.length ∧ -(xs.length : Int) ≤ i ∧ i < xs.length := by
  unfold atI at h
  cases e : ixN xs.length i with
  | none => rw [e] at h; cases h
  | some j =>
    rw [e] at h
    obtain ⟨h1, h2, h3, h4⟩ := ixN_seq e
    exact ⟨j, h1, h, h2, h3, h4⟩
theorem atI_nat {α : Type} {xs : List α} {j : Nat} {v : α} (h : xs[j]? = some v) : atI xs (j : Int) = some v := by
  have hj : j < xs.length := (List.getElem?_eq_some_iff.mp h).1
  have e : ixN xs.length (j : Int) = some j := by
    unfold ixN
    rw [if_pos (by omega), if_pos (by omega)]; simp
  unfold atI; rw [e]; exact h
def PlainIx (b : Expr) : Prop := ∀ o i, subscripted b false o i = operate [o, i] (getItem o i)
def IxR (X : Cx) (r : R2) : Prop :=
  ∀ (value slice : Expr) (pins : List (Addr × Obj)) (s : Shared) (σ : St) (H : Hp) (x y : V) (v u : Value) (Q : VK), Inv X pins σ H s → RelV x v → RelV y u → r x y H Q →
    subscripted slice false v u = operate [v, u] (getItem v u) → wpAny (model X.prog X.w) X.A (subscriptTail value slice v u) (EP X pins σ Q) X.xe s
def MtR (X : Cx) (id : String) (r : V → List V → Hp → VK → Prop) : Prop :=
  ∀ (pins : List (Addr × Obj)) (s : Shared) (σ : St) (H : Hp) (x : V) (xs : List V) (v : Value) (us : List Value) (Q : VK), Inv X pins σ H s → RelV x v → Vals xs us → r x xs H Q →
    wpAny (model X.prog X.w) X.A (call (.builtin id) (v :: us)) (EP X pins σ Q) X.xe s
section
variable {X : Cx} {a b : Expr} {ta tb : TE} {pos : Pos}
theorem IxR.or {r r' : R2} (h : IxR X r) (h' : IxR X r') : IxR X (fun x y H Q => r x y H Q ∨ r' x y H Q) := by
  intro value slice pins s σ H x y v u Q I rx ry q hs
  rcases q with q | q
  · exact h value slice pins s σ H x y v u Q I rx ry q hs
  · exact h' value slice pins s σ H x y v u Q I rx ry q hs
theorem MtR.or {id : String} {r r' : V → List V → Hp → VK → Prop} (h : MtR X id r) (h' : MtR X id r') : MtR X id (fun x xs H Q => r x xs H Q ∨ r' x xs H Q) := by
  intro pins s σ H x xs v us Q I rx rs q
  rcases q with q | q
  · exact h pins s σ H x xs v us Q I rx rs q
  · exact h' pins s σ H x xs v us Q I rx rs q
theorem pe_ix {r : R2} (hr : IxR X r) (ha : PE X a ta) (hb : PE X b tb) (hs : PlainIx b) : PE X (.Subscript a b pos) (tOp r ta tb) := by
  intro pins s σ H Q I h
  exact Subscript_ (binT ha hb I h fun v u s2 x y H2 I2 rx ry q => hr a b pins s2 σ H2 x y v u Q I2 rx ry q (hs _ _))

def rIxL (K : PySem.W.Frag) : R2 := fun x y H Q => ∃ p xs i v, x = .ref p ∧ y = .int i ∧ SqL K H p xs ∧ atI xs i = some v ∧ Q v H
def rIxT (K : PySem.W.Frag) : R2 := fun x y H Q => ∃ p xs i v, x = .ref p ∧ y = .int i ∧ SqT K H p xs ∧ atI xs i = some v ∧ Q v H
def rIxS : R2 := fun x y H Q => ∃ z i c, x = .str z ∧ y = .int i ∧ z.length ≤ sizeLine ∧ atI z.cps.toList i = some c ∧ Q (.str ⟨#[c]⟩) H
theorem ix_list : IxR X (rIxL X.K) := by
  intro value slice pins s σ H x y v u Q I rx ry h hs
  obtain ⟨p, xs, i, z, rfl, rfl, hq, he, q⟩ := h
  cases rx
  obtain ⟨t, rfl⟩ := ry
  obtain ⟨its, r, pl, hz⟩ := I.list hq
  obtain ⟨j, h1, h2, h3, h4, h5⟩ := atI_get he
  obtain ⟨w, ew, rw'⟩ := r.get h2
  have hl := r.length
  have hn := line63
  have fin : EP X pins σ Q w s := ⟨z, H, I, rw', q⟩
  by_cases h0 : 0 ≤ i
  · have hj : i.toNat = j := by
      rw [seqIndex_of h0 h5] at h1
      exact Option.some.inj h1
    exact item_listR pl.isList h0 (by omega) (by rw [hj]; simpa using ew) fin hs
  · have hj : (i + (its.toArray.size : Int)).toNat = j := by
      rw [seqIndex_neg (by omega) h4] at h1
      rw [List.size_toArray, ← hl]
      exact Option.some.inj h1
    exact subscriptTail_builtinR (x := w) pl.isList.typeIs slot_list_getitem.lookup
      (wpAny_getItem_list_neg (Q := fun r s' => r = w ∧ EP X pins σ Q r s') pl.isList (by omega) (by rw [List.size_toArray] <;> omega) (by omega) (by rw [hj]; simpa using ew) ⟨rfl, fin⟩) hs
theorem ix_tup : IxR X (rIxT X.K) := by
  intro value slice pins s σ H x y v u Q I rx ry h hs
  obtain ⟨p, xs, i, z, rfl, rfl, hq, he, q⟩ := h
  cases rx
  obtain ⟨t, rfl⟩ := ry
  obtain ⟨its, r, pl, hz⟩ := I.tuple hq
  obtain ⟨j, h1, h2, h3, h4, h5⟩ := atI_get he
  obtain ⟨w, ew, rw'⟩ := r.get h2
  have hl := r.length
  have hn := line63
  have fin : EP X pins σ Q w s := ⟨z, H, I, rw', q⟩
  exact subscriptTail_builtinR (x := w) pl.typeIs slot_tuple_getitem.lookup
    (getItem_tuple (j := j) (Q := fun r s' => r = w ∧ EP X pins σ Q r s') pl (by omega) (by omega) (by rw [List.size_toArray, ← hl]; exact h1) (by simpa using ew) ⟨rfl, fin⟩) hs
theorem ix_str : IxR X rIxS := by
  intro value slice pins s σ H x y v u Q I rx ry h hs
  obtain ⟨z, i, c, rfl, rfl, hz, he, q⟩ := h
  obtain ⟨t, rfl⟩ := rx
  obtain ⟨t', rfl⟩ := ry
  obtain ⟨j, h1, h2, h3, h4, h5⟩ := atI_get he
  have hl : z.cps.toList.length = z.length := by simp [Str.length]
  rw [hl] at h1 h4 h5
  have hn := line63
  exact tail_any (typeIs_str s z t) slot_str_getitem.lookup (getItem_str (c := c) (by
    have e1 : decide (i < -(2 ^ 63 : Int)) = false := decide_eq_false (by omega)
    have e2 : decide (i ≥ 2 ^ 63) = false := decide_eq_false (by omega)
    rw [e1, e2, Bool.or_false]) (by rw [h1]; simpa using h2) ⟨.str ⟨#[c]⟩, H, I.tok _, ⟨_, rfl⟩, q⟩) hs
def rIx (K : PySem.W.Frag) : R2 := fun x y H Q => rIxL K x y H Q ∨ rIxT K x y H Q ∨ rIxS x y H Q
theorem Inv.lst {pins : List (Addr × Obj)} {σ : St} {H : Hp} {s : Shared} {p : Addr} {xs : List V} (I : Inv X pins σ H s) (h : H p = some (.lst xs)) :
    ∃ (its : List Value) (n : Nat), Vals xs its ∧ s.heap.get? p = some { cls := .type "list", data := .seq its.toArray n } ∧ xs.length ≤ sizeLine := by
  obtain ⟨z, its, n, r, e⟩ := I.hok p _ h
  exact ⟨its, n, r, e, z⟩
def rSetL : V → V → V → Hp → (Hp → Prop) → Prop := fun o i v H Q => ∃ p xs k j, o = .ref p ∧ i = .int k ∧ H p = some (.lst xs) ∧ ixN xs.length k = some j ∧ Q (upd H p (.lst (xs.set j v)))
def rSlL (K : PySem.W.Frag) : V → Option Int → Option Int → Hp → VK → Prop := fun x lo hi H Q => ∃ a xs, x = .ref a ∧ SqL K H a xs ∧ ∀ p, H p = none → Q (.ref p) (upd H p (.lst (cutV xs lo hi)))
def flatV : V → Bool
  | .non => true
  | .bl _ => true
  | .int _ => true
  | .str _ => true
  | _ => false
def eqV : V → V → Bool
  | .non, .non => true
  | .bl a, .bl b => a == b
  | .bl a, .int b => (if a then 1 else 0) == b
  | .int a, .bl b => a == (if b then 1 else 0)
  | .int a, .int b => a == b
  | .str a, .str b => a == b
  | _, _ => false
theorem eqAt_V {A : Around} {s : Shared} {y x : V} {u v : Value} (ry : RelV y u) (rx : RelV x v) (fy : flatV y = true) (fx : flatV x = true) : SeqAt.EqAt A s u v (eqV y x) := by
  cases y with
  | non =>
    cases ry
    cases x with
    | non => cases rx; exact SeqAt.EqAt.same _
    | bl b => cases rx; exact SeqAt.EqAt.none_bool b
    | int b => obtain ⟨t, rfl⟩ := rx; exact SeqAt.EqAt.none_int b t
    | str b => obtain ⟨t, rfl⟩ := rx; exact SeqAt.EqAt.none_str b t
    | _ => exact absurd (show false = true from fx) Bool.false_ne_true
  | bl a =>
    cases ry
    cases x with
    | non => cases rx; exact SeqAt.EqAt.bool_none a
    | bl b => cases rx; exact SeqAt.EqAt.bool_bool a b
    | int b => obtain ⟨t, rfl⟩ := rx; exact SeqAt.EqAt.bool_int a b t
    | str b => obtain ⟨t, rfl⟩ := rx; exact SeqAt.EqAt.bool_str a b t
    | _ => exact absurd (show false = true from fx) Bool.false_ne_true
  | int a =>
    obtain ⟨t', rfl⟩ := ry
    cases x with
    | non => cases rx; exact SeqAt.EqAt.int_none a t'
    | bl b => cases rx; exact SeqAt.EqAt.int_bool a t' b
    | int b => obtain ⟨t, rfl⟩ := rx; exact SeqAt.EqAt.int_int a t' b t
    | str b => obtain ⟨t, rfl⟩ := rx; exact SeqAt.EqAt.int_str a t' b t
    | _ => exact absurd (show false = true from fx) Bool.false_ne_true
  | str a =>
    obtain ⟨t', rfl⟩ := ry
    cases x with
    | non => cases rx; exact SeqAt.EqAt.str_none a t'
    | bl b => cases rx; exact SeqAt.EqAt.str_bool a t' b
    | int b => obtain ⟨t, rfl⟩ := rx; exact SeqAt.EqAt.str_int a t' b t
    | str b => obtain ⟨t, rfl⟩ := rx; exact SeqAt.EqAt.str_str a t' b t
    | _ => exact absurd (show false = true from fx) Bool.false_ne_true
  | _ => exact absurd (show false = true from fy) Bool.false_ne_true
def eqU (x : V) (u : Value) : Bool := match u with
  | .none => eqV .non x
  | .bool b => eqV (.bl b) x
  | .int i _ => eqV (.int i) x
  | .str z _ => eqV (.str z) x
  | _ => false
theorem eqU_of {x y : V} {u : Value} (r : RelV y u) (f : flatV y = true) : eqU x u = eqV y x := by
  cases y with
  | non => cases r; rfl
  | bl b => cases r; rfl
  | int i => obtain ⟨t, rfl⟩ := r; rfl
  | str z => obtain ⟨t, rfl⟩ := r; rfl
  | _ => exact absurd (show false = true from f) Bool.false_ne_true
theorem any_eqU {x : V} : ∀ {xs : List V} {us : List Value}, Vals xs us → xs.all flatV = true → us.any (eqU x) = xs.any fun y => eqV y x
  | _, _, .nil, _ => rfl
  | y :: xs, u :: us, .cons r t, f => by
    rw [List.all_cons, Bool.and_eq_true] at f
    rw [List.any_cons, List.any_cons, eqU_of r f.1, any_eqU t f.2]
theorem mem_eqAt {A : Around} {s : Shared} {x : V} {v : Value} (rx : RelV x v) (fx : flatV x = true) : ∀ {xs : List V} {us : List Value}, Vals xs us → xs.all flatV = true → ∀ u ∈ us, SeqAt.EqAt A s u v (eqU x u)
  | _, _, .nil, _ => fun u hu => by cases hu
  | y :: xs, u :: us, .cons r t, f => fun u' hu => by
    rw [List.all_cons, Bool.and_eq_true] at f
    rcases List.mem_cons.mp hu with rfl | hu
    · rw [eqU_of r f.1]; exact eqAt_V r rx f.1 fx
    · exact mem_eqAt rx fx t f.2 u' hu
def inV (x : V) (xs : List V) : Bool := xs.any fun y => eqV y x
def rIn (K : PySem.W.Frag) (neg : Bool) : R2 := fun x y H Q => ∃ p xs, y = .ref p ∧ (SqL K H p xs ∨ SqT K H p xs) ∧ flatV x = true ∧ xs.all flatV = true ∧ Q (.bl (if neg then !inV x xs else inV x xs)) H
theorem op_in_seq : OpR X (compareOp .In) (rIn X.K false) := by
  intro pins s σ H x y v u Q I rx ry h
  obtain ⟨p, xs, rfl, hq, fx, fs, q⟩ := h
  cases ry
  rcases hq with hq | hq
  · obtain ⟨its, r, pl, hz⟩ := I.list hq
    refine SeqAt.in_listAt (eqU x) pl.isList (fun w hw => mem_eqAt rx fx r fs w (by simpa using hw)) ⟨.bl _, H, I, rfl, ?_⟩
    rw [show its.toArray.any (eqU x) = its.any (eqU x) by simp, any_eqU r fs]
    exact q
  · obtain ⟨its, r, pl, hz⟩ := I.tuple hq
    refine SeqAt.in_tupleAt (eqU x) pl (fun w hw => mem_eqAt rx fx r fs w (by simpa using hw)) ⟨.bl _, H, I, rfl, ?_⟩
    rw [show its.toArray.any (eqU x) = its.any (eqU x) by simp, any_eqU r fs]
    exact q
theorem call_len_seq : CallR X (.builtin "len") (fun xs H Q => ∃ p ys, xs = [.ref p] ∧ (SqL X.K H p ys ∨ SqT X.K H p ys) ∧ Q (.int ys.length) H) := by
  intro pins s σ H xs us Q I r h
  obtain ⟨p, ys, rfl, hq, q⟩ := h
  obtain ⟨u, rfl, rx⟩ := vals1 r
  cases rx
  have hn := line63
  rcases hq with hq | hq
  · obtain ⟨its, r', pl, hz⟩ := I.list hq
    have hlen := r'.length
    exact Calls.call_len_list pl.isList (by simp only [List.size_toArray] <;> omega) ⟨.int ys.length, H, I.tok _, ⟨s.toks + 1, by rw [List.size_toArray, hlen]⟩, q⟩
  · obtain ⟨its, r', pl, hz⟩ := I.tuple hq
    have hlen := r'.length
    exact len_tuple pl (by simp only [List.size_toArray] <;> omega) ⟨.int ys.length, H, I.tok _, ⟨s.toks + 1, by rw [List.size_toArray, hlen]⟩, q⟩
theorem call_len_str : CallR X (.builtin "len") (fun xs H Q => ∃ z, xs = [.str z] ∧ z.length ≤ sizeLine ∧ Q (.int z.length) H) := by
  intro pins s σ H xs us Q I r h
  obtain ⟨z, rfl, hz, q⟩ := h
  obtain ⟨u, rfl, t, rfl⟩ := vals1 r
  have hn := line63
  exact len_str (by omega) ⟨.int z.length, H, I.tok _, ⟨_, rfl⟩, q⟩
theorem CallR.or {f : Value} {r r' : List V → Hp → VK → Prop} (h : CallR X f r) (h' : CallR X f r') : CallR X f (fun xs H Q => r xs H Q ∨ r' xs H Q) := by
  intro pins s σ H xs us Q I rs q
  rcases q with q | q
  · exact h pins s σ H xs us Q I rs q
  · exact h' pins s σ H xs us Q I rs q
def tyV (K : PySem.W.Frag) (T : String) (x : V) (H : Hp) : Prop := match x with
  | .str _ => T = "str"
  | .int _ => T = "int"
  | .ref p => (T = "list" ∧ ∃ xs, SqL K H p xs) ∨ (T = "tuple" ∧ ∃ o, K.lookup p = some o ∧ o.cls = .type "tuple" ∧ o.dict = none) ∨
      (T = "dict" ∧ ((∃ kvs, H p = some (.dK kvs)) ∨ ∃ kvs, H p = some (.dT kvs))) ∨ (T = "set" ∧ ∃ S n, H p = some (.set S n))
  | _ => False
theorem tyV_is {pins : List (Addr × Obj)} {σ : St} {H : Hp} {s : Shared} {T : String} {x : V} {v : Value} (I : Inv X pins σ H s) (r : RelV x v) (ty : tyV X.K T x H) :
    s.TypeIs v T ∧ ∀ a, v = .ref a → ∃ ob, s.heap.get? a = some ob ∧ ob.dict = none := by
  cases x with
  | str z =>
    obtain ⟨t, rfl⟩ := r
    cases (show T = "str" from ty)
    exact ⟨typeIs_str s z t, fun _ e => nomatch e⟩
  | int i =>
    obtain ⟨t, rfl⟩ := r
    cases (show T = "int" from ty)
    exact ⟨typeIs_int s i t, fun _ e => nomatch e⟩
  | ref p =>
    cases r
    rcases ty with ⟨rfl, xs, hq⟩ | ⟨rfl, o, hk, hc, hd⟩ | ⟨rfl, hk⟩ | ⟨rfl, S, n, hk⟩
    · obtain ⟨its, _, pl, _⟩ := I.list hq
      refine ⟨pl.isList.typeIs, fun a e => ?_⟩
      cases e
      obtain ⟨o, n, e, c, hd, _⟩ := pl
      exact ⟨o, e, hd⟩
    · refine ⟨⟨o, I.kIn p o hk, hc⟩, fun a e => ?_⟩
      cases e
      exact ⟨o, I.kIn _ o hk, hd⟩
    · have z : ∃ o, s.heap.get? p = some o ∧ o.ExactDict := by
        rcases hk with ⟨kvs, hk⟩ | ⟨kvs, hk⟩
        · obtain ⟨_, _, _, _, o, _, _, e, ex, _⟩ := I.hok p _ hk
          exact ⟨o, e, ex⟩
        · obtain ⟨_, _, _, _, o, _, _, e, ex, _⟩ := I.hok p _ hk
          exact ⟨o, e, ex⟩
      obtain ⟨o, e, ex⟩ := z
      refine ⟨⟨o, e, ex.1⟩, fun a e2 => ?_⟩
      cases e2
      exact ⟨o, e, ex.2.1⟩
    · obtain ⟨o, _, _, _, e, ex, _⟩ := I.hok p _ hk
      refine ⟨⟨o, e, ex.1⟩, fun a e2 => ?_⟩
      cases e2
      exact ⟨o, e, ex.2.1⟩
  | _ => exact False.elim ty
def tBM0 (K : PySem.W.Frag) (T : String) (r : V → List V → Hp → VK → Prop) (to : TE) : TE := fun σ H Q => to σ H fun x H1 => tyV K T x H1 ∧ r x [] H1 Q
def tBM (K : PySem.W.Frag) (T : String) (r : V → List V → Hp → VK → Prop) (to : TE) (t : TA) : TE := fun σ H Q => to σ H fun x H1 => tyV K T x H1 ∧ t σ H1 fun xs H2 => r x xs H2 Q
variable {o e : Expr} {es : List Expr} {to : TE} {t : TA} {name : Str} {apos cpos : Pos} {T id : String} {r : V → List V → Hp → VK → Prop}
theorem pe_bm (pa : PlainAttrs T) (slot : Slot T name id) (hty : typeOf (.builtin id) = pure (.type "method_descriptor")) (hm : MtR X id r) (ho : PE X o to) (ha : PA X (e :: es) t)
    (hbase : attributeBase o name X.env (eval o X.env) = eval o X.env := by rfl)
    (hfew : ((backTo cpos (starEach (e :: es) X.env)).all (fun x => !x.1) && (backToKw cpos (keywordEach [] X.env)).all (fun x => x.1.isSome)
      && decide ((e :: es).length + ([] : List Keyword).length + (if ([] : List Keyword).isEmpty then 0 else 1) < 30)) = true := by rfl)
    (hline : (apos.endLine == cpos.line) = true := by rfl) (hs : starEach (e :: es) X.env = (false, eval e X.env) :: starEach es X.env := by rfl) (hplain : (backTo cpos (starEach es X.env)).any (·.1) = false := by rfl) :
    PE X (.Call (.Attribute o name apos) (e :: es) [] cpos) (tBM X.K T r to t) := by
  intro pins s σ H Q I h
  refine wpAny_Call_method_late hbase hfew hline rfl (thn (ho pins s σ H _ I h) fun v s1 ⟨x, H1, I1, r1, ty, q1⟩ => ?_)
  obtain ⟨h1, h2⟩ := tyV_is I1 r1 ty
  refine ⟨T, id, pa, slot, hty, h1, h2, ?_⟩
  have hA := ha cpos pins s1 σ H1 _ I1 q1
  rw [hs] at hA ⊢
  refine Calls.callWith_builtin (by show (false || (backTo cpos (starEach es X.env)).any (·.1)) = false; rw [hplain] <;> rfl) (Calls.evalArgs_plain ?_)
  exact thn hA fun us s2 ⟨vs, H2, I2, r2, q2⟩ => hm pins s2 σ H2 x vs v us Q I2 r1 r2 q2
end
end L2

namespace L2
open PySem PySem.Spec PyProof.Rows

def MtM (X : Cx) (id : String) (r : V → List V → Hp → VK → Prop) : Prop :=
  ∀ (pins : List (Addr × Obj)) (s : Shared) (σ : St) (H : Hp) (x : V) (xs : List V) (v : Value) (us : List Value) (Q : VK), Inv X pins σ H s → RelV x v → Vals xs us → r x xs H Q →
    wpAny (model X.prog X.w) X.A (call (.builtin id) (v :: us)) (EP X pins σ Q) X.xe s

theorem Vals.one : ∀ {x : V} {us : List Value}, Vals [x] us → ∃ u, us = [u] ∧ RelV x u
  | _, _, .cons r .nil => ⟨_, rfl, r⟩
theorem Vals.two : ∀ {x y : V} {us : List Value}, Vals [x, y] us → ∃ u v, us = [u, v] ∧ RelV x u ∧ RelV y v
  | _, _, _, .cons r (.cons q .nil) => ⟨_, _, rfl, r, q⟩
theorem Vals.zero : ∀ {us : List Value}, Vals [] us → us = []
  | _, .nil => rfl
theorem Vals.dropLast {xs : List V} {us : List Value} (h : Vals xs us) : Vals xs.dropLast us.dropLast := by
  induction h with
  | nil => exact .nil
  | cons r t ih =>
    cases t with
    | nil => exact .nil
    | cons q t' => exact .cons r ih
theorem Vals.eraseIdx : ∀ {xs : List V} {us : List Value} (i : Nat), Vals xs us → Vals (xs.eraseIdx i) (us.eraseIdx i)
  | _, _, _, .nil => .nil
  | _, _, 0, .cons _ t => t
  | _, _, i + 1, .cons r t => .cons r (Vals.eraseIdx i t)
theorem Vals.reverse {xs : List V} {us : List Value} (h : Vals xs us) : Vals xs.reverse us.reverse := by
  induction h with
  | nil => exact .nil
  | cons r t ih => rw [List.reverse_cons, List.reverse_cons]; exact Vals.append ih (.cons r .nil)
theorem len_erase {α : Type} : ∀ (l : List α) (i : Nat), (l.eraseIdx i).length ≤ l.length
  | [], _ => Nat.le_refl _
  | _ :: _, 0 => Nat.le_succ _
  | _ :: r, i + 1 => Nat.succ_le_succ (len_erase r i)
section
variable {X : Cx} {pins : List (Addr × Obj)} {σ : St} {H : Hp} {s : Shared} {l b : Addr} {xs ys zs : List V}

theorem Inv.lset {its its' : List Value} {n : Nat} {f : Array Value → Array Value} {t' : Nat} (I : Inv X pins σ H s) (hH : H l = some (.lst xs))
    (e : s.heap.get? l = some { cls := .type "list", data := .seq its.toArray n }) (hf : f its.toArray = its'.toArray) (hv : Vals ys its') (hz : ys.length ≤ sizeLine) :
    Inv X pins σ (upd H l (.lst ys)) { s with heap := s.heap.update l (Obj.mapSeq f), toks := t' } := by
  have q := PySem.IsL.update e f
  rw [hf] at q
  refine I.write (x := l) (e := l) (by rw [hH]; exact trivial) (.inl rfl) (fun b' u hb hu => (Heap.get?_update_other s.heap (Obj.mapSeq f) (Ne.symm hb)).trans hu) ⟨_, q⟩ ?_
  exact ⟨hz, its', _, hv, q⟩
theorem Inv.lnew {its : List Value} {t' : Nat} (I : Inv X pins σ H s) (hv : Vals ys its) (hz : ys.length ≤ sizeLine) :
    Inv X pins σ (upd H s.heap.objs.size (.lst ys)) { s with heap := s.heap.push { cls := .type "list", data := .seq its.toArray }, toks := t' } :=
  I.laid (fun _ _ q => Heap.get?_push_of_some _ q) (Nat.le_refl _) ⟨hz, its, 0, hv, Heap.get?_push_size _ rfl⟩
theorem Inv.fresh (I : Inv X pins σ H s) : H s.heap.objs.size = none := I.hok.fresh (Nat.le_refl _)
theorem Inv.lstM (I : Inv X pins σ H s) (hH : H l = some (.lst xs)) : xs.length ≤ sizeLine ∧ ∃ (its : List Value) (n : Nat), Vals xs its ∧ xs.length = its.length ∧ s.heap.get? l = some { cls := .type "list", data := .seq its.toArray n } := by
  obtain ⟨z, its, n, r, e⟩ := I.hok l _ hH
  exact ⟨z, its, n, r, r.length, e⟩

end

section
variable {X : Cx}

def rAppend : V → List V → Hp → VK → Prop := fun x vs H Q => ∃ l xs y, x = .ref l ∧ vs = [y] ∧ H l = some (.lst xs) ∧ xs.length < sizeLine ∧ Q .non (upd H l (.lst (xs ++ [y])))
theorem mt_append : MtM X "list.append" rAppend := by
  intro pins s σ H x vs v us Q I rx rv h
  obtain ⟨l, xs, y, rfl, rfl, hH, hz, q⟩ := h
  cases rx
  obtain ⟨u, rfl, ru⟩ := rv.one
  obtain ⟨z, its, n, r, hl, e⟩ := I.lstM hH
  refine call_meets F.slot_list_append ⟨_, e, rfl⟩ F.entry_list_append (F.args_list_append_2 _ _) (PySem.list_append l its.toArray n u (by rw [List.size_toArray]; omega)) ⟨e, ?_⟩
  refine ⟨.non, _, I.lset (its' := its ++ [u]) hH e (by simp) (r.append (.cons ru .nil)) ?_, rfl, q⟩
  rw [List.length_append, List.length_singleton]
  omega

def rExtend : V → List V → Hp → VK → Prop := fun x vs H Q => ∃ l b xs zs, x = .ref l ∧ vs = [.ref b] ∧ H l = some (.lst xs) ∧ H b = some (.lst zs) ∧ xs.length + zs.length ≤ sizeLine ∧ Q .non (upd H l (.lst (xs ++ zs)))
def rPop : V → List V → Hp → VK → Prop := fun x vs H Q => ∃ l xs y, x = .ref l ∧ vs = [] ∧ H l = some (.lst xs) ∧ xs[xs.length - 1]? = some y ∧ Q y (upd H l (.lst xs.dropLast))
def rPopAt : V → List V → Hp → VK → Prop := fun x vs H Q => ∃ l xs i k y, x = .ref l ∧ vs = [.int i] ∧ H l = some (.lst xs) ∧ -(2 ^ 63) ≤ i ∧ i < 2 ^ 63 ∧ seqIndex? i xs.length = some k ∧ xs[k]? = some y ∧ Q y (upd H l (.lst (xs.eraseIdx k)))
theorem mt_popAt : MtM X "list.pop" rPopAt := by
  intro pins s σ H x vs v us Q I rx rv h
  obtain ⟨l, xs, i, k, y, rfl, rfl, hH, h1, h2, hk, hy, q⟩ := h
  cases rx
  obtain ⟨u, rfl, ru⟩ := rv.one
  obtain ⟨t, rfl⟩ := ru
  obtain ⟨z, its, n, r, hl, e⟩ := I.lstM hH
  obtain ⟨w, hw, rw'⟩ := r.get hy
  refine call_meets F.slot_list_pop ⟨_, e, rfl⟩ F.entry_list_pop (F.args_list_pop_2 _ _)
    (MeetsSeq.list_pop_at l its.toArray n i t k w (fitsIndex_both h1 h2) (by rw [List.size_toArray, ← hl]; exact hk) (by rw [← Array.getElem?_toList]; exact hw) (by rw [List.size_toArray]; omega)) ⟨e, ?_⟩
  refine ⟨y, _, I.lset (its' := its.eraseIdx k) hH e ?_ (r.eraseIdx k) ?_, rw', q⟩
  · show its.toArray.eraseIdxIfInBounds k = (its.eraseIdx k).toArray
    rw [List.eraseIdxIfInBounds_toArray]
  · have := len_erase xs k
    omega

def rReverse : V → List V → Hp → VK → Prop := fun x vs H Q => ∃ l xs, x = .ref l ∧ vs = [] ∧ H l = some (.lst xs) ∧ Q .non (upd H l (.lst xs.reverse))
def rClear : V → List V → Hp → VK → Prop := fun x vs H Q => ∃ l xs, x = .ref l ∧ vs = [] ∧ H l = some (.lst xs) ∧ Q .non (upd H l (.lst []))
def rCat : R2 := fun x y H Q => ∃ l b xs zs, x = .ref l ∧ y = .ref b ∧ H l = some (.lst xs) ∧ H b = some (.lst zs) ∧ xs.length + zs.length ≤ sizeLine ∧ ∀ p, H p = none → Q (.ref p) (upd H p (.lst (xs ++ zs)))
def rRep : R2 := fun x y H Q => ∃ l k xs, x = .ref l ∧ y = .int k ∧ H l = some (.lst xs) ∧ -(2 ^ 63) ≤ k ∧ k < 2 ^ 63 ∧ xs.length * k.toNat ≤ sizeLine ∧
  ∀ p, H p = none → Q (.ref p) (upd H p (.lst (List.replicate k.toNat xs).flatten))
end

section
variable {prog : Program} {w : World} {A : Around} {E : Value → Shared → Prop} {s : Shared}
set_option maxRecDepth 100000 in
end

section
variable {X : Cx}
end
end L2

namespace Att
open PySem PySem.W PySem.Calls PyProof.Rows

theorem ints_of_wellAll {P : Params} {h : Heap} : ∀ (ns : List Int) (vs : List Value), WellAll P h vs (ns.map WData.int) → IntsAre vs ns := by
  intro ns
  induction ns with
  | nil =>
    intro vs w
    rw [List.map_nil] at w
    cases w
    exact .nil
  | cons n ns ih =>
    intro vs w
    rw [List.map_cons] at w
    cases w with
    | cons a b =>
      cases a
      exact .cons _ _ (ih _ b)

theorem script_of {l : OpenLaw} {n : Nat} (hn : l.most = some n) {P : Params} {h : Heap} {args : List WData} {vals : List Value}
    (hpre : l.row.toRowW.claim.pre args = true) (hwl : WellAll P h vals args) :
    ∃ a vs ns, vals = [Value.ref a] ∧ args = [WData.list (ns.map WData.int)] ∧ h.get? a = some { cls := .type "list", data := .seq vs.toArray } ∧ IntsAre vs ns ∧ ns.length ≤ n := by
  have hsh : WShape.hasAll [] args [.list .int] = true := (pre_splitW hpre).1
  have hc : l.pre.holds [] { args := args } = true := (pre_splitW hpre).2
  obtain ⟨d, r, rfl, h1, h2⟩ := hasAllW_cons hsh
  obtain rfl := hasAllW_nil h2
  obtain ⟨xs, rfl, h3⟩ := hasW_list h1
  obtain ⟨ns, rfl⟩ := items_int h3
  have hlen : ns.length ≤ n := by
    unfold OpenLaw.pre at hc
    have h4 : (WTm.not (.lt (.lit (.int (n : Int))) (.len (.arg 0)))).holds [] { args := [.list (ns.map .int)] } = true := by
      have h4 := (holds_andW hc).1
      rw [hn] at h4
      exact h4
    have h5 := condW_of h4 (w_not (w_lt w_lit (w_len_list (w_arg rfl))))
    rw [List.length_map] at h5
    refine Nat.le_of_not_lt fun q => ?_
    have q' : (n : Int) < ((ns.length : Nat) : Int) := by omega
    first
      | (rw [decide_eq_true q'] at h5; exact absurd h5 (by decide))
      | (simp at h5; omega)
  cases hwl with
  | cons w1 w2 =>
    cases w2
    cases w1 with
    | list ho hall => exact ⟨_, _, ns, rfl, rfl, ho, ints_of_wellAll ns _ hall, hlen⟩

theorem post_true (l : OpenLaw) (args : List WData) : l.row.toRowW.claim.post args (.bool true) args = true :=
  postW_of (r := l.row.toRowW) (X := (true == true))
    (show WShape.has [] (.bool true) .bool = true by first | rfl | decide | simp [WShape.has, WShape.arms, WShape.armsAll])
    (show (WTm.eq .res (.lit (.bool true))).value [] { args := args, res := some (.bool true), after := args } = some (.bool (true == true)) from w_eq_bool (w_res rfl) w_lit) rfl

section
variable {prog : Program} {w : World} {A : Around} {E : Value → Shared → Prop} {s : Shared} {K : Frag}

def noObjs (h : Heap) : Heap := { h with objs := #[] }
def ledger (h : Heap) (L d : Addr) : List (Addr × Obj) := (List.range h.objs.size).filterMap fun a => if a = L ∨ a = d then none else (h.get? a).map fun o => (a, o)
end
end Att

namespace L2
open PySem PySem.Spec PyProof.Rows

theorem vals_ints : ∀ {vs : List Value} {ns : List Int}, IntsAre vs ns → Vals (ns.map V.int) vs
  | _, _, .nil => .nil
  | _, _, .cons n t h => .cons ⟨t, rfl⟩ (vals_ints h)

def Only (H : Hp) : Prop := ∀ b, H b = none ∨ ∃ o xs, H b = some (.frz o (.lst xs))

theorem law_call {P : Program} {w : World} {K : PySem.W.Frag} {mg mb : Str → Option Value} {CX : CXT} {k : Nat} {fa a : Addr} {fd : FuncData} {x : Str} {sp : Sp} {s₁ : Shared} {vs : List Value} {ns : List Int}
    (KX : K.In s₁.heap) (hns : s₁.heap.Ns mainGlobals mg) (hb : s₁.heap.Ns builtinsNs mb) (hbb : ∀ x : Str, x ≠ "__name__" → mb x = bootBuiltins x) (hlim : s₁.heap.NoLimit) (hsee : s₁.heap.NoSeer) (hg : s₁.gens = #[])
    (ha : s₁.heap.get? a = some { cls := .type "list", data := .seq vs.toArray }) (hi : IntsAre vs ns) (hl : ns.length ≤ sizeLine) (hr : Room k callerA)
    (F : ∀ base : Heap, K.In base → base.Ns mainGlobals mg → FnOk P w K mg base CX k fa fd [x] sp) (hbind : ∀ (s : Shared) (u : Value), BindsTo s fd ⟨[u], []⟩ [(x, u)])
    (hsp : ∀ H : Hp, Only H → SqL K H a (ns.map V.int) → sp [.ref a] H (fun v _ => v = .bl true) fun _ _ _ => False)
    (hCX : ∀ H e s', CX [] H s₁ (fun _ _ _ => False) e s' → False) :
    codeAny (model P w) callerA (.call (.ref fa) ⟨[.ref a], []⟩) (fun r s' => r = .ok (.ret (.bool true)) ∧ OldK s₁.heap s'.heap ∧ s'.os = s₁.os ∧ AllBare s'.gens) s₁ := by
  have rv := vals_ints hi
  have lenV := hi.length
  -- from an abstract heap in which nothing but the script may be tracked
  have core : ∀ H : Hp, Only H → SqL K H a (ns.map V.int) → HOk P w H s₁.heap → (∀ b, H b ≠ none → b = a) → (H a ≠ none → K.lookup a = none) →
      codeAny (model P w) callerA (.call (.ref fa) ⟨[.ref a], []⟩) (fun r s' => r = .ok (.ret (.bool true)) ∧ OldK s₁.heap s'.heap ∧ s'.os = s₁.os ∧ AllBare s'.gens) s₁ := by
    intro H hO hS hok hA hK
    have base_of : ∀ {b : Addr} {o : Obj}, s₁.heap.get? b = some o → H b = none → (hidT s₁.heap H).get? b = some o := fun e n => hidT_get e n
    have noA : ∀ {b : Addr} {o : Obj} {es : Array DictEntry} {ep : Nat}, s₁.heap.get? b = some o → o.data = .dict es ep → H b = none := fun {b o es ep} e d => by
      cases q : H b with
      | none => rfl
      | some u =>
        have e' : b = a := hA b (by rw [q]; simp)
        subst e'
        rw [ha] at e; cases e
        have d' : Data.seq vs.toArray _ = Data.dict es ep := d
        cases d'
    have nsK : ∀ {b : Addr} {m : Str → Option Value}, s₁.heap.Ns b m → (hidT s₁.heap H).Ns b m := fun {b m} ⟨o, es, ep, e, d, r⟩ => ⟨o, es, ep, base_of e (noA e d), d, r⟩
    have hKb : K.In (hidT s₁.heap H) := fun b o e => base_of (KX b o e) (by
      cases q : H b with
      | none => rfl
      | some u =>
        have e' : b = a := hA b (by rw [q]; simp)
        subst e'
        rw [hK (by rw [q]; simp)] at e; cases e)
    have hM : Mod K mg (hidT s₁.heap H) := ⟨hKb, nsK hns, ⟨mb, nsK hb, hbb⟩, let ⟨mc, h1, h2⟩ := hlim; ⟨mc, nsK h1, h2⟩,
      ⟨let ⟨mc, h1, h2⟩ := hsee.statics; ⟨mc, nsK h1, h2⟩, let ⟨mc, h1, h2⟩ := hsee.mods; ⟨mc, nsK h1, h2⟩, let ⟨mc, h1, h2⟩ := hsee.imp; ⟨mc, nsK h1, h2⟩,
        let ⟨mg', bm, ob, h1, h2, h3, h4, h5⟩ := hsee.main; ⟨mg', bm, ob, nsK h1, h2, base_of h3 (by
          cases q : H bm with
          | none => rfl
          | some u =>
            have e' : bm = a := hA bm (by rw [q]; simp)
            subst e'
            rw [ha] at h3
            cases h3
            have h4' : Value.type "list" = Value.type "module" := h4
            injection h4' with e9
            exact absurd e9 (by decide)), h4, h5⟩⟩⟩
    have e0 : Env0 P w K mg (hidT s₁.heap H) callerA [] s₁ H := ⟨rfl, hM, fun b o e => of_hidT e, Nat.le_of_eq (hidT_size _ _), trivial, fun b hb => absurd (show b ∈ ([] : List Addr) from hb) (by simp), hok, .of_eq hg⟩
    refine codeAny_mono ((F _ hKb (nsK hns)).run callerA [] s₁ H ⟨[.ref a], []⟩ [.ref a] [.ref a] _ _ hr e0 (hbind s₁ (.ref a)) (.cons rfl .nil) (hsp H hO hS)) fun r s' h => ?_
    cases r with
    | error e => exact (hCX H e s' h).elim
    | ok fl =>
      cases fl with
      | next => exact False.elim h
      | brk => exact False.elim h
      | cont => exact False.elim h
      | ret u =>
        obtain ⟨v, H', os, bare, un, hok', r', q⟩ := h
        have q' : v = .bl true := q
        subst q'
        obtain rfl : u = Value.bool true := r'
        refine ⟨rfl, OldK.of_keep fun b o e => ?_, os, bare⟩
        cases q : H b with
        | none => exact un.keep b o e q (by intro z; exact absurd (show b ∈ ([] : List Addr) from z) (by simp)) (by simp)
        | some u =>
          rcases hO b with z | ⟨ob, xs, z⟩
          · rw [q] at z; cases z
          · have z2 := un.frzs b ob _ z
            obtain ⟨e1, _⟩ := hok b _ z
            obtain ⟨e2, _⟩ := hok' b _ z2
            rw [e] at e1; cases e1
            exact e2
  cases hk : K.lookup a with
  | some o =>
    -- the script is one of the module's own objects
    have e := KX a o hk
    rw [ha] at e
    cases e
    refine core (fun _ => none) (fun _ => .inl rfl) (.inr ⟨_, vs.toArray, _, hk, rfl, rfl, rfl, by rw [List.size_toArray, lenV]; exact hl, by simpa using rv⟩) (fun b u z => by have z' : (none : Option HO) = some u := z; cases z') (fun b z => absurd rfl z) fun z => absurd rfl z
  | none =>
    refine core (fun b => if b = a then some (.frz { cls := .type "list", data := .seq vs.toArray } (.lst (ns.map V.int))) else none) (fun b => ?_) (.inl (.inr ⟨{ cls := .type "list", data := .seq vs.toArray }, if_pos rfl⟩)) (fun b u z => ?_) (fun b z => ?_) fun _ => hk
    · by_cases hb : b = a
      · exact .inr ⟨_, _, if_pos hb⟩
      · exact .inl (if_neg hb)
    · by_cases hb : b = a
      · have z' := (if_pos hb).symm.trans z
        cases z'
        subst hb
        exact ⟨ha, by rw [List.length_map]; exact hl, vs, _, rv, ha⟩
      · have z' := (if_neg hb).symm.trans z
        cases z'
    · by_cases hb : b = a
      · exact hb
      · exact absurd (if_neg hb) z
end L2

namespace L2
open PySem PySem.Spec PyProof.Rows

abbrev KOf {K : PySem.W.Frag} {h : Heap} (_ : K.In h) : PySem.W.Frag := K


end L2

/- THE LAST THEOREM (shape; LID, My.* are yours):
   My.Adr: a structure of the addresses that your layer names (classes, functions); My.Txt K t: a structure (Prop) of the equations over K;
   My.txt_mk : {K} {implicit addresses ..} (e1 : nsIn K mainGlobals "law" = some (some (.ref f))) (e2 : K.lookup f = some ⟨oc, od, .func (fnOf "law" "law" params body scope dV kV doc pm an cdv ct), sl⟩) (e3 : codeIn K cdv "law" = true) .. : ∃ t, My.Txt K t

set_option maxRecDepth 100000 in
set_option maxHeartbeats 0 in
theorem PySem.Challenge.cw_LID_holds : PySem.Challenge.rw_LID.Holds := by
  w_on; o_law; k_head; (case hw => w_witness2)
  k_fill
  refine L2.walk_of (l := PySem.Challenge.rw_LID) (n := 63) (k := 40) (x := "script") (CX := fun w => ..) (sp := fun _ => My.sp_law) rfl (by decide) rfl ⟨rfl, by decide, by decide⟩ (fun w h Y => PySem.W.kIn_of Y) ?F ?S ?C
  case F =>
    intro w mg fa h KX G hmg
    have T : ∃ t, My.Txt (L2.KOf KX) t := by
      dsimp only [L2.KOf]                          -- K must stand as «<heap const> w.params» for k_is
      refine' My.txt_mk ?e1 ?e2 ?e3 ..
      (case e1 => PySem.W.k_is)                    -- in the order: a name -> its address -> its object -> its parts
      (case e2 => PySem.W.k_is)
      ..
    obtain ⟨t, T⟩ := T
    have e0 := hmg.symm.trans (PySem.W.mg_of KX G T.law)
    cases e0                                       -- fa is the law's own address
    exact ⟨_, fun s u => .of_eq rfl, fun base kb nb => My.law_fn T kb nb⟩     -- if «.of_eq rfl» comes too early: refine' ⟨_, ?b, fun base kb nb => My.law_fn T kb nb⟩; exact fun s u => .of_eq rfl
  case S => exact fun w H a ns hl hO hS => ..
  case C => exact ..
(the tactic k_is has no namespace: write k_is) -/

namespace L2
open PySem PySem.Spec PyProof.Rows

def inClass (s : Stmt) (j : Nat) : Stmt := match s with
  | .ClassDef _ _ _ body _ _ _ _ _ _ _ => body.getD j (.Pass ⟨0, 0, 0, 0⟩)
  | _ => .Pass ⟨0, 0, 0, 0⟩
def defArgs (s : Stmt) : Arguments := match s with
  | .FunctionDef _ a _ _ _ _ _ _ _ _ => a
  | _ => { posonlyargs := [], args := [], vararg := none, kwonlyargs := [], kw_defaults := [], kwarg := none, defaults := [] }
def defBody (s : Stmt) : List Stmt := match s with
  | .FunctionDef _ _ b _ _ _ _ _ _ _ => b
  | _ => []
def defScope (s : Stmt) : Scope := match s with
  | .FunctionDef _ _ _ _ _ _ sc _ _ _ => sc
  | _ => { kind := .function, names := [], isGenerator := false, isCoroutine := false }

abbrev CX0 : CXT := fun _ _ _ _ _ _ => False
abbrev E0 : XK := fun _ _ _ => False
structure Fun (K : PySem.W.Frag) (x qual : Str) (st : Stmt) (f : Addr) (fd : FuncData) : Prop where
  ex : ∃ (oc : Value) (od : Option Addr) (kV doc pm : Value) (an : Option Addr) (cdv ct : Value) (osl : Array (Option Value)),
    fd = PySem.W.fnOf x qual (defArgs st) (defBody st) (defScope st) .none kV doc pm an cdv ct ∧ K.lookup f = some ⟨oc, od, .func fd, osl⟩ ∧ PySem.W.codeIn K cdv qual = true
  kp : PySem.W.keepIn K (.ref f) = true
section
variable {P : Program} {w : World} {K : PySem.W.Frag} {mg : Str → Option Value} {base : Heap}
theorem Fun.ok {x qual : Str} {st : Stmt} {f : Addr} {fd : FuncData} {N ps : List Str} {k : Nat} {sp : Sp} (F : Fun K x qual st f fd) (S : FnScope N ps (defScope st)) (len : ∀ vs H Q E, sp vs H Q E → vs.length = ps.length)
    (hbody : ∀ (cdv : Value) (A : Around) (outer : List Env) (s : Shared) (H : Hp) (vs : List V) (Q : VK) (E : XK), Room k (A.deeper (envOfC qual (defScope st) s.heap.objs.size f cdv)) → sp vs H Q E →
      ∃ t, PSs (cxOf CX0 P w K mg base N qual (defScope st) f cdv A outer s H E).nox (defBody st) t ∧ t { nx := fun _ H' => Q .non H', rt := Q } (start N vs) H) : FnOk P w K mg base CX0 (k + 1) f fd ps sp := by
  obtain ⟨oc, od, kV, doc, pm, an, cdv, ct, osl, rfl, lk, hcd⟩ := F.ex
  refine fn_of lk hcd S len fun A outer s H vs Q E hr hsp => ?_
  obtain ⟨t, h, q⟩ := hbody cdv A outer s H vs Q E hr hsp
  exact ⟨t, h.nox, q⟩
theorem Fun.binds {x qual : Str} {st : Stmt} {f : Addr} {fd : FuncData} {ps : List Str} (F : Fun K x qual st f fd)
    (h : ∀ (kV doc pm : Value) (an : Option Addr) (cdv ct : Value) (us : List Value), us.length = ps.length → bindArgs (PySem.W.fnOf x qual (defArgs st) (defBody st) (defScope st) .none kV doc pm an cdv ct) ⟨us, []⟩ = pure (ps.zip us)) : Binds K fd ps [] := by
  obtain ⟨oc, od, kV, doc, pm, an, cdv, ct, osl, rfl, lk, hcd⟩ := F.ex
  exact .all (h kV doc pm an cdv ct)
theorem fun_mk {x qual : Str} {st : Stmt} {f : Addr} {oc : Value} {od an : Option Addr} {osl : Array (Option Value)} {kV doc pm cdv ct : Value} (l : K.lookup f = some ⟨oc, od, .func (PySem.W.fnOf x qual (defArgs st) (defBody st) (defScope st) .none kV doc pm an cdv ct), osl⟩)
    (c : PySem.W.codeIn K cdv qual = true) (k : PySem.W.keepIn K (.ref f) = true) : Fun K x qual st f (PySem.W.fnOf x qual (defArgs st) (defBody st) (defScope st) .none kV doc pm an cdv ct) := ⟨⟨oc, od, kV, doc, pm, an, cdv, ct, osl, rfl, l, c⟩, k⟩
end
theorem hu_of {A : Around} {k : Nat} (hr : Room k A) : A.units + 1 < cLine := Nat.lt_of_le_of_lt (Nat.add_le_add_left (by decide : 1 ≤ 64) _) hr.units
section
variable {X : Cx}
theorem pv (i : Nat) {x : Str} {pos : Pos} (hN : X.N[i]? = some x := by rfl) (hv : Vis X.env.scope x := by first | exact Or.inl rfl | exact Or.inr (Or.inl rfl) | exact Or.inr (Or.inr rfl)) (hd : (x == ("__debug__" : Str)) = false := by decide)
    (hcd : (x == ("__classdict__" : Str)) = false := by decide) : PE X (.Name x pos) (tVar i) := pe_var hN hv hd hcd
end

theorem iteF {A B : Prop} (h : B) : if false = true then A else B := by
  rw [if_neg Bool.false_ne_true]
  exact h
theorem ite2 {c A B : Prop} [Decidable c] (h1 : c → A) (h2 : ¬ c → B) : if c then A else B := by
  by_cases h : c
  · rw [if_pos h]
    exact h1 h
  · rw [if_neg h]
    exact h2 h
theorem iteNS {c A B : Prop} [Decidable c] (hc : c) (h : B) : if (!decide c) = true then A else B := by
  rw [decide_eq_true hc]
  exact iteF h

def Same (H H' : Hp) : Prop := ∀ b o, H b = some o → H' b = some o
theorem Same.refl (H : Hp) : Same H H := fun _ _ h => h
theorem Same.trans {H H1 H2 : Hp} (a : Same H H1) (b : Same H1 H2) : Same H H2 := fun c o h => b c o (a c o h)
theorem Same.free {H H' : Hp} (e : Same H H') {l : Addr} (h : H' l = Option.none) : H l = Option.none := by
  cases q : H l with
  | none => rfl
  | some o =>
    rw [e l o q] at h
    cases h
theorem Same.seq {K : PySem.W.Frag} {H H' : Hp} {a : Addr} {xs : List V} (e : Same H H') (h : SqL K H a xs) : SqL K H' a xs := by
  rcases h with (h | ⟨o, h⟩) | h
  · exact .inl (.inl (e _ _ h))
  · exact .inl (.inr ⟨o, e _ _ h⟩)
  · exact .inr h

end L2

namespace Ty
def gz (t b : Int) : Int := (Int.gcd t b : Nat)
def sg (t b : Int) : Int := if b < 0 then -gz t b else gz t b
def low (t b : Int) : Int × Int := (t.fdiv (sg t b), b.fdiv (sg t b))

theorem gcd_step (a b : Int) : Int.gcd b (a.fmod b) = Int.gcd a b := by
  rw [Int.fmod_def, Int.gcd_sub_mul_left_right, Int.gcd_comm]
theorem fmod_less {a b : Int} (h : b ≠ 0) : (a.fmod b).natAbs < b.natAbs := by
  rcases Int.lt_trichotomy b 0 with q | q | q
  · have h1 : (-a).fmod (-b) = -(a.fmod b) := by
      rw [Int.fmod_def, Int.fmod_def, Int.neg_fdiv_neg, Int.neg_mul]
      omega
    have h2 := Int.fmod_nonneg_of_pos (-a) (show 0 < -b by omega)
    have h3 := Int.fmod_lt_of_pos (-a) (show 0 < -b by omega)
    omega
  · exact absurd q h
  · have h2 := Int.fmod_nonneg_of_pos a q
    have h3 := Int.fmod_lt_of_pos a q
    omega
theorem gz_pos {t b : Int} (h : b ≠ 0) : 0 < gz t b := by
  have := Int.gcd_pos_iff.mpr (Or.inr h : t ≠ 0 ∨ b ≠ 0)
  show (0 : Int) < ((Int.gcd t b : Nat) : Int)
  omega
theorem sg_ne {t b : Int} (h : b ≠ 0) : sg t b ≠ 0 := by
  have := gz_pos (t := t) h
  unfold sg
  split <;> omega
theorem sg_abs {t b : Int} : (sg t b).natAbs = (gz t b).natAbs := by
  unfold sg
  split
  · exact Int.natAbs_neg _
  · rfl
theorem sg_dvd_left (t b : Int) : sg t b ∣ t := by
  unfold sg gz
  split
  · exact Int.neg_dvd.mpr (Int.gcd_dvd_left t b)
  · exact Int.gcd_dvd_left t b
theorem sg_dvd_right (t b : Int) : sg t b ∣ b := by
  unfold sg gz
  split
  · exact Int.neg_dvd.mpr (Int.gcd_dvd_right t b)
  · exact Int.gcd_dvd_right t b
theorem fdiv_of_dvd {a g : Int} (h : g ≠ 0) (d : g ∣ a) : a = g * a.fdiv g := by
  obtain ⟨c, hc⟩ := d
  have := Int.fdiv_eq_of_eq_mul_right h hc
  rw [this]
  exact hc
theorem low_top {t b : Int} (h : b ≠ 0) : t = sg t b * (low t b).1 := fdiv_of_dvd (sg_ne h) (sg_dvd_left t b)
theorem low_bot {t b : Int} (h : b ≠ 0) : b = sg t b * (low t b).2 := fdiv_of_dvd (sg_ne h) (sg_dvd_right t b)
theorem low_pos {t b : Int} (h : b ≠ 0) : 0 < (low t b).2 := by
  have e := low_bot (t := t) h
  have g := gz_pos (t := t) h
  rcases Int.lt_trichotomy (low t b).2 0 with q | q | q
  · exfalso
    by_cases c : b < 0
    · have s : sg t b = -gz t b := by unfold sg; rw [if_pos c]
      rw [s] at e
      have := Int.mul_pos_of_neg_of_neg (show -gz t b < 0 by omega) q
      omega
    · have s : sg t b = gz t b := by unfold sg; rw [if_neg c]
      rw [s] at e
      have := Int.mul_neg_of_pos_of_neg g q
      omega
  · exfalso
    rw [q, Int.mul_zero] at e
    exact h e
  · exact q
theorem low_cross {t b : Int} (h : b ≠ 0) : (low t b).1 * b = t * (low t b).2 := by
  have e1 := low_top (t := t) h
  have e2 := low_bot (t := t) h
  calc (low t b).1 * b = (low t b).1 * (sg t b * (low t b).2) := by rw [← e2]
    _ = sg t b * (low t b).1 * (low t b).2 := by rw [← Int.mul_assoc, Int.mul_comm (low t b).1]
    _ = t * (low t b).2 := by rw [← e1]
theorem low_gcd {t b : Int} (h : b ≠ 0) : Int.gcd (low t b).1 (low t b).2 = 1 := by
  have e1 := low_top (t := t) h
  have e2 := low_bot (t := t) h
  have k : Int.gcd t b = (sg t b).natAbs * Int.gcd (low t b).1 (low t b).2 := by
    have q := Int.gcd_mul_left (sg t b) (low t b).1 (low t b).2
    rw [← e1, ← e2] at q
    exact q
  have g : (sg t b).natAbs = Int.gcd t b := by
    rw [sg_abs]
    rfl
  have p := Int.gcd_pos_iff.mpr (Or.inr h : t ≠ 0 ∨ b ≠ 0)
  rw [g] at k
  have k' : Int.gcd t b * 1 = Int.gcd t b * Int.gcd (low t b).1 (low t b).2 := by rw [Nat.mul_one]; exact k
  exact (Nat.eq_of_mul_eq_mul_left p k').symm
theorem natAbs_factor {g a : Int} (h : g ≠ 0) : a.natAbs ≤ (g * a).natAbs := by
  rw [Int.natAbs_mul]
  have : 1 ≤ g.natAbs := by omega
  have := Nat.mul_le_mul_right a.natAbs this
  omega
theorem low_top_le {t b : Int} (h : b ≠ 0) : (low t b).1.natAbs ≤ t.natAbs := by
  have e := low_top (t := t) h
  have := natAbs_factor (g := sg t b) (a := (low t b).1) (sg_ne h)
  rw [← e] at this
  exact this
theorem low_bot_le {t b : Int} (h : b ≠ 0) : (low t b).2.natAbs ≤ b.natAbs := by
  have e := low_bot (t := t) h
  have := natAbs_factor (g := sg t b) (a := (low t b).2) (sg_ne h)
  rw [← e] at this
  exact this
theorem low_of {t b g x y : Int} (hg : g ≠ 0) (ht : t = g * x) (hb : b = g * y) (hy : 0 < y) (h1 : Int.gcd x y = 1) : low t b = (x, y) := by
  have hbn : b ≠ 0 := by
    rw [hb]
    exact Int.mul_ne_zero hg (by omega)
  have gg : Int.gcd t b = g.natAbs := by
    rw [ht, hb, Int.gcd_mul_left, h1, Nat.mul_one]
  have s : sg t b = g := by
    unfold sg gz
    rw [gg]
    by_cases c : g < 0
    · have : b < 0 := by rw [hb]; exact Int.mul_neg_of_neg_of_pos c hy
      rw [if_pos this]
      omega
    · have : ¬ b < 0 := by
        have := Int.mul_nonneg (show 0 ≤ g by omega) (show 0 ≤ y by omega)
        omega
      rw [if_neg this]
      omega
  unfold low
  rw [s]
  rw [Int.fdiv_eq_of_eq_mul_right hg ht, Int.fdiv_eq_of_eq_mul_right hg hb]
theorem low_self {x y : Int} (hy : 0 < y) (h : Int.gcd x y = 1) : low x y = (x, y) := low_of (g := 1) (by decide) (by omega) (by omega) hy h
theorem low_scale {t b k : Int} (hk : k ≠ 0) (h : b ≠ 0) : low (k * t) (k * b) = low t b := by
  refine low_of (g := k * sg t b) (Int.mul_ne_zero hk (sg_ne h)) ?_ ?_ (low_pos h) (low_gcd h)
  · rw [Int.mul_assoc]
    exact congrArg (k * ·) (low_top h)
  · rw [Int.mul_assoc]
    exact congrArg (k * ·) (low_bot h)
theorem low_cross_iff {t b u c : Int} (hb : b ≠ 0) (hc : c ≠ 0) (h : t * c = u * b) : low t b = low u c := by
  rw [← low_scale (t := t) (b := b) hc hb, ← low_scale (t := u) (b := c) hb hc]
  rw [Int.mul_comm c t, h, Int.mul_comm u b, Int.mul_comm c b]
end Ty

set_option maxHeartbeats 4000000
namespace Ty
open PySem PySem.Spec PyProof.Rows L2
open Builtin.Int (intBits)
section
variable {X : Cx}
def CMulB (i j : Int) : Prop := intBits i ≤ 33554432 ∧ intBits j ≤ 33554432
theorem op_mulB : OpR X (binaryOp .Mult) (rI CMulB fun i j => .int (i * j)) :=
  opI fun _ _ _ _ _ _ _ hc q => mul_int q (IntMulOk.of_le hc.1 hc.2 (by decide))
def CDivB (i j : Int) : Prop := j ≠ 0 ∧ intBits j ≤ 9000
theorem noPy {i j : Int} (h : intBits j ≤ 9000) : Builtin.divisionGoesByPylong i j = false := by
  refine PyProof.noPylong_of_log2 ?_
  have h1 := intBits_le_iff.mp h
  by_cases h0 : j.natAbs = 0
  · rw [h0]
    decide +kernel
  · exact (Nat.log2_lt h0).mpr h1
theorem op_fdivB : OpR X (binaryOp .FloorDiv) (rI CDivB fun i j => .int (i.fdiv j)) :=
  opI fun _ _ _ _ _ _ _ hc q => floordiv_int hc.1 q (.inl (noPy hc.2))
end
inductive Da where
  | v (x : V)
  | t (ds : List Da)
  | l (ds : List Da)
mutual
def Is (K : PySem.W.Frag) (H : Hp) : Da → V → Prop
  | .v x, u => u = x ∧ flatV x = true
  | .t ds, u => ∃ p xs, u = .ref p ∧ SqT K H p xs ∧ Iss K H ds xs
  | .l ds, u => ∃ p xs, u = .ref p ∧ SqL K H p xs ∧ Iss K H ds xs
def Iss (K : PySem.W.Frag) (H : Hp) : List Da → List V → Prop
  | [], [] => True
  | d :: ds, x :: xs => Is K H d x ∧ Iss K H ds xs
  | _, _ => False
end
mutual
def eqDa : Da → Da → Bool
  | .v x, .v y => eqV x y
  | .t ds, .t es => eqDas ds es
  | .l ds, .l es => eqDas ds es
  | _, _ => false
def eqDas : List Da → List Da → Bool
  | [], [] => true
  | d :: ds, e :: es => eqDa d e && eqDas ds es
  | _, _ => false
end
mutual
def alike : Da → Da → Bool
  | .v _, .v _ => true
  | .t ds, .t es => alikes ds es
  | .l ds, .l es => alikes ds es
  | _, _ => false
def alikes : List Da → List Da → Bool
  | d :: ds, e :: es => alike d e && alikes ds es
  | _, _ => true
end
mutual
def dep : Da → Nat
  | .v _ => 0
  | .t ds => deps ds + 1
  | .l ds => deps ds + 1
def deps : List Da → Nat
  | [] => 0
  | d :: ds => max (dep d) (deps ds)
end
theorem Iss.length {K : PySem.W.Frag} {H : Hp} : ∀ {ds : List Da} {xs : List V}, Iss K H ds xs → ds.length = xs.length
  | [], [], _ => rfl
  | _ :: _, _ :: _, h => congrArg (· + 1) (Iss.length (by unfold Iss at h; exact h.2))
  | [], _ :: _, h => by unfold Iss at h; exact h.elim
  | _ :: _, [], h => by unfold Iss at h; exact h.elim
def bitDa (ds es : List Da) (j : Nat) : Bool := match ds[j]?, es[j]? with
  | some d, some e => eqDa d e
  | _, _ => true
theorem eqDas_bits : ∀ ds es : List Da, eqDas ds es = ((List.range (min ds.length es.length)).all (bitDa ds es) && ds.length == es.length)
  | [], [] => rfl
  | [], _ :: _ => by simp [eqDas]
  | _ :: _, [] => by simp [eqDas]
  | d :: ds, e :: es => by
    have ih := eqDas_bits ds es
    have r : min (d :: ds).length (e :: es).length = min ds.length es.length + 1 := by simp [Nat.succ_min_succ]
    rw [r, List.range_succ_eq_map, List.all_cons, List.all_map]
    have b0 : bitDa (d :: ds) (e :: es) 0 = eqDa d e := rfl
    have b1 : (bitDa (d :: ds) (e :: es) ∘ Nat.succ) = bitDa ds es := by
      funext j
      rfl
    have l1 : ((d :: ds).length == (e :: es).length) = (ds.length == es.length) := by simp
    rw [b0, b1, l1, Bool.and_assoc, ← ih]
    rfl
section
variable {X : Cx} {pins : List (Addr × Obj)} {σ : L2.St} {H : Hp} {s : Shared}
theorem eqV_refl {x : V} (h : flatV x = true) : eqV x x = true := by
  cases x <;> first | rfl | (simp [eqV]; done) | (cases h; done)
mutual
theorem is_same (I : Inv X pins σ H s) : ∀ (d e : Da) (x : V), Is X.K H d x → Is X.K H e x → alike d e = true → eqDa d e = true
  | .v a, .v b, x, h1, h2, _ => by
    unfold Is at h1 h2
    obtain ⟨rfl, f⟩ := h1
    obtain ⟨rfl, _⟩ := h2
    unfold eqDa
    exact eqV_refl f
  | .t ds, .t es, x, h1, h2, a => by
    unfold Is at h1 h2
    obtain ⟨p, xs, rfl, q1, k1⟩ := h1
    obtain ⟨p', ys, e', q2, k2⟩ := h2
    cases e'
    cases I.tuple_inj q1 q2
    unfold eqDa
    unfold alike at a
    exact iss_same I ds es xs k1 k2 a
  | .l ds, .l es, x, h1, h2, a => by
    unfold Is at h1 h2
    obtain ⟨p, xs, rfl, q1, k1⟩ := h1
    obtain ⟨p', ys, e', q2, k2⟩ := h2
    cases e'
    cases I.list_inj q1 q2
    unfold eqDa
    unfold alike at a
    exact iss_same I ds es xs k1 k2 a
  | .v _, .t _, _, _, _, a => by unfold alike at a; cases a
  | .v _, .l _, _, _, _, a => by unfold alike at a; cases a
  | .t _, .v _, _, _, _, a => by unfold alike at a; cases a
  | .t _, .l _, _, _, _, a => by unfold alike at a; cases a
  | .l _, .v _, _, _, _, a => by unfold alike at a; cases a
  | .l _, .t _, _, _, _, a => by unfold alike at a; cases a
theorem iss_same (I : Inv X pins σ H s) : ∀ (ds es : List Da) (xs : List V), Iss X.K H ds xs → Iss X.K H es xs → alikes ds es = true → eqDas ds es = true
  | [], [], _, _, _, _ => by unfold eqDas; rfl
  | d :: ds, e :: es, x :: xs, h1, h2, a => by
    unfold Iss at h1 h2
    unfold alikes at a
    rw [Bool.and_eq_true] at a
    unfold eqDas
    rw [is_same I d e x h1.1 h2.1 a.1, iss_same I ds es xs h1.2 h2.2 a.2]
    rfl
  | [], _ :: _, [], _, h2, _ => by unfold Iss at h2; exact h2.elim
  | [], _ :: _, _ :: _, h1, _, _ => by unfold Iss at h1; exact h1.elim
  | _ :: _, [], [], h1, _, _ => by unfold Iss at h1; exact h1.elim
  | _ :: _, [], _ :: _, _, h2, _ => by unfold Iss at h2; exact h2.elim
  | _ :: _, _ :: _, [], h1, _, _ => by unfold Iss at h1; exact h1.elim
end
theorem in1_units (A : Around) : A.in1.units = A.units + 1 := rfl
mutual
theorem eqAt_da (I : Inv X pins σ H s) : ∀ (d e : Da) (x y : V) (u w : Value) (A : Around), Is X.K H d x → Is X.K H e y → alike d e = true → RelV x u → RelV y w → A.units + dep d < cLine → SeqAt.EqAt A s u w (eqDa d e)
  | .v a, .v b, x, y, u, w, A, h1, h2, _, r1, r2, _ => by
    unfold Is at h1 h2
    obtain ⟨rfl, f1⟩ := h1
    obtain ⟨rfl, f2⟩ := h2
    unfold eqDa
    exact eqAt_V r1 r2 f1 f2
  | .t ds, .t es, x, y, u, w, A, h1, h2, a, r1, r2, hu => by
    have h1' := h1
    have h2' := h2
    unfold Is at h1 h2
    obtain ⟨p, xs, rfl, q1, k1⟩ := h1
    obtain ⟨p', ys, rfl, q2, k2⟩ := h2
    cases r1
    cases r2
    by_cases e : p = p'
    · subst e
      rw [is_same I _ _ _ h1' h2' a]
      exact .same _
    · refine .of_refs e ?_
      obtain ⟨its, v1, t1, _⟩ := I.tuple q1
      obtain ⟨its2, v2, t2, _⟩ := I.tuple q2
      unfold eqDa
      rw [eqDas_bits, k1.length, k2.length, v1.length, v2.length]
      have z := SeqAt.RcAt.tuples (A := A) (e := bitDa ds es) t1 t2 (by unfold dep at hu; omega) fun j g1 g2 => by
        unfold dep at hu
        unfold alike at a
        exact eqAt_das I ds es xs ys its its2 A.in1 k1 k2 a v1 v2 (by rw [in1_units]; omega) j (by simpa using g1) (by simpa using g2)
      simpa using z
  | .l ds, .l es, x, y, u, w, A, h1, h2, a, r1, r2, hu => by
    have h1' := h1
    have h2' := h2
    unfold Is at h1 h2
    obtain ⟨p, xs, rfl, q1, k1⟩ := h1
    obtain ⟨p', ys, rfl, q2, k2⟩ := h2
    cases r1
    cases r2
    by_cases e : p = p'
    · subst e
      rw [is_same I _ _ _ h1' h2' a]
      exact .same _
    · refine .of_refs e ?_
      obtain ⟨its, v1, t1, _⟩ := I.list q1
      obtain ⟨its2, v2, t2, _⟩ := I.list q2
      unfold eqDa
      unfold dep at hu
      unfold alike at a
      by_cases el : its.length = its2.length
      · rw [eqDas_bits, k1.length, k2.length, v1.length, v2.length]
        have z := SeqAt.RcAt.lists (A := A) (e := bitDa ds es) t1.isList t2.isList (by simpa using el) (by omega) fun j g1 g2 =>
          eqAt_das I ds es xs ys its its2 A.in1 k1 k2 a v1 v2 (by rw [in1_units]; omega) j (by simpa using g1) (by simpa using g2)
        rw [el, Nat.min_self, beq_self_eq_true, Bool.and_true]
        rw [List.size_toArray, el] at z
        exact z
      · have ne : eqDas ds es = false := by
          rw [eqDas_bits, k1.length, k2.length, v1.length, v2.length, beq_eq_false_iff_ne.mpr el, Bool.and_false]
        rw [ne]
        exact SeqAt.RcAt.lists_lengths t1.isList t2.isList (by simpa using el) (by omega)
  | .v _, .t _, _, _, _, _, _, _, _, a, _, _, _ => by unfold alike at a; cases a
  | .v _, .l _, _, _, _, _, _, _, _, a, _, _, _ => by unfold alike at a; cases a
  | .t _, .v _, _, _, _, _, _, _, _, a, _, _, _ => by unfold alike at a; cases a
  | .t _, .l _, _, _, _, _, _, _, _, a, _, _, _ => by unfold alike at a; cases a
  | .l _, .v _, _, _, _, _, _, _, _, a, _, _, _ => by unfold alike at a; cases a
  | .l _, .t _, _, _, _, _, _, _, _, a, _, _, _ => by unfold alike at a; cases a
theorem eqAt_das (I : Inv X pins σ H s) : ∀ (ds es : List Da) (xs ys : List V) (us ws : List Value) (A : Around), Iss X.K H ds xs → Iss X.K H es ys → alikes ds es = true → Vals xs us → Vals ys ws → A.units + deps ds < cLine →
    ∀ (j : Nat) (h1 : j < us.length) (h2 : j < ws.length), SeqAt.EqAt A s us[j] ws[j] (bitDa ds es j)
  | d :: ds, e :: es, x :: xs, y :: ys, u :: us, w :: ws, A, k1, k2, a, .cons r1 v1, .cons r2 v2, hu, 0, _, _ => by
    unfold Iss at k1 k2
    unfold alikes at a
    rw [Bool.and_eq_true] at a
    unfold deps at hu
    exact eqAt_da I d e x y u w A k1.1 k2.1 a.1 r1 r2 (by omega)
  | d :: ds, e :: es, x :: xs, y :: ys, u :: us, w :: ws, A, k1, k2, a, .cons r1 v1, .cons r2 v2, hu, j + 1, h1, h2 => by
    unfold Iss at k1 k2
    unfold alikes at a
    rw [Bool.and_eq_true] at a
    unfold deps at hu
    exact eqAt_das I ds es xs ys us ws A k1.2 k2.2 a.2 v1 v2 (by omega) j (by simpa using h1) (by simpa using h2)
  | [], _, [], _, _, _, _, _, _, _, .nil, _, _, _, h1, _ => absurd h1 (Nat.not_lt_zero _)
  | _, [], _, [], _, _, _, _, _, _, _, .nil, _, _, _, h2 => absurd h2 (Nat.not_lt_zero _)
  | [], _, _ :: _, _, _, _, _, k1, _, _, _, _, _, _, _, _ => by unfold Iss at k1; exact k1.elim
  | _ :: _, _, [], _, _, _, _, k1, _, _, _, _, _, _, _, _ => by unfold Iss at k1; exact k1.elim
  | _, [], _, _ :: _, _, _, _, _, k2, _, _, _, _, _, _, _ => by unfold Iss at k2; exact k2.elim
  | _, _ :: _, _, [], _, _, _, _, k2, _, _, _, _, _, _, _ => by unfold Iss at k2; exact k2.elim
end
end

section
variable {X : Cx}
def rEqDa (K : PySem.W.Frag) : R2 := fun x y H Q => ∃ ds es, ((Is K H (.t ds) x ∧ Is K H (.t es) y) ∨ (Is K H (.l ds) x ∧ Is K H (.l es) y)) ∧ alikes ds es = true ∧ deps ds ≤ 60 ∧ Q (.bl (eqDas ds es)) H
def rNeDa (K : PySem.W.Frag) : R2 := fun x y H Q => ∃ ds es, ((Is K H (.t ds) x ∧ Is K H (.t es) y) ∨ (Is K H (.l ds) x ∧ Is K H (.l es) y)) ∧ alikes ds es = true ∧ deps ds ≤ 60 ∧ Q (.bl (!eqDas ds es)) H
theorem op_eqDa (hu : X.A.units + 64 < cLine) : OpR X (compareOp .Eq) (rEqDa X.K) := by
  intro pins s σ H x y v u Q I rx ry h
  obtain ⟨ds, es, h, a, hd, q⟩ := h
  rcases h with ⟨h1, h2⟩ | ⟨h1, h2⟩
  · unfold Is at h1 h2
    obtain ⟨p, xs, rfl, q1, k1⟩ := h1
    obtain ⟨p', ys, rfl, q2, k2⟩ := h2
    cases rx
    cases ry
    obtain ⟨its, v1, t1, _⟩ := I.tuple q1
    obtain ⟨its2, v2, t2, _⟩ := I.tuple q2
    have z := SeqAt.RcAt.tuples (A := X.A) (e := bitDa ds es) t1 t2 (by omega) fun j g1 g2 =>
      eqAt_das I ds es xs ys its its2 X.A.in1 k1 k2 a v1 v2 (by rw [in1_units]; omega) j (by simpa using g1) (by simpa using g2)
    refine z X.prog X.w X.xe _ ⟨.bl _, H, I, rfl, ?_⟩
    have e := eqDas_bits ds es
    rw [k1.length, k2.length, v1.length, v2.length] at e
    simpa [e] using q
  · unfold Is at h1 h2
    obtain ⟨p, xs, rfl, q1, k1⟩ := h1
    obtain ⟨p', ys, rfl, q2, k2⟩ := h2
    cases rx
    cases ry
    obtain ⟨its, v1, t1, _⟩ := I.list q1
    obtain ⟨its2, v2, t2, _⟩ := I.list q2
    have e := eqDas_bits ds es
    rw [k1.length, k2.length, v1.length, v2.length] at e
    by_cases el : its.length = its2.length
    · have z := SeqAt.RcAt.lists (A := X.A) (e := bitDa ds es) t1.isList t2.isList (by simpa using el) (by omega) fun j g1 g2 =>
        eqAt_das I ds es xs ys its its2 X.A.in1 k1 k2 a v1 v2 (by rw [in1_units]; omega) j (by simpa using g1) (by simpa using g2)
      refine z X.prog X.w X.xe _ ⟨.bl _, H, I, rfl, ?_⟩
      rw [el, Nat.min_self, beq_self_eq_true, Bool.and_true] at e
      simpa [e, el] using q
    · have ne : eqDas ds es = false := by rw [e, beq_eq_false_iff_ne.mpr el, Bool.and_false]
      rw [ne] at q
      exact SeqAt.RcAt.lists_lengths t1.isList t2.isList (by simpa using el) (by omega) X.prog X.w X.xe _ ⟨.bl _, H, I, rfl, q⟩
theorem op_neDa (hu : X.A.units + 64 < cLine) : OpR X (compareOp .NotEq) (rNeDa X.K) := by
  intro pins s σ H x y v u Q I rx ry h
  obtain ⟨ds, es, h, a, hd, q⟩ := h
  rcases h with ⟨h1, h2⟩ | ⟨h1, h2⟩
  · unfold Is at h1 h2
    obtain ⟨p, xs, rfl, q1, k1⟩ := h1
    obtain ⟨p', ys, rfl, q2, k2⟩ := h2
    cases rx
    cases ry
    obtain ⟨its, v1, t1, _⟩ := I.tuple q1
    obtain ⟨its2, v2, t2, _⟩ := I.tuple q2
    have z := SeqAt.RcNeAt.tuples (A := X.A) (e := bitDa ds es) t1 t2 (by omega) fun j g1 g2 =>
      eqAt_das I ds es xs ys its its2 X.A.in1 k1 k2 a v1 v2 (by rw [in1_units]; omega) j (by simpa using g1) (by simpa using g2)
    refine z X.prog X.w X.xe _ ⟨.bl _, H, I, rfl, ?_⟩
    have e := eqDas_bits ds es
    rw [k1.length, k2.length, v1.length, v2.length] at e
    simpa [e] using q
  · unfold Is at h1 h2
    obtain ⟨p, xs, rfl, q1, k1⟩ := h1
    obtain ⟨p', ys, rfl, q2, k2⟩ := h2
    cases rx
    cases ry
    obtain ⟨its, v1, t1, _⟩ := I.list q1
    obtain ⟨its2, v2, t2, _⟩ := I.list q2
    have e := eqDas_bits ds es
    rw [k1.length, k2.length, v1.length, v2.length] at e
    by_cases el : its.length = its2.length
    · have z := SeqAt.RcNeAt.lists (A := X.A) (e := bitDa ds es) t1.isList t2.isList (by simpa using el) (by omega) fun j g1 g2 =>
        eqAt_das I ds es xs ys its its2 X.A.in1 k1 k2 a v1 v2 (by rw [in1_units]; omega) j (by simpa using g1) (by simpa using g2)
      refine z X.prog X.w X.xe _ ⟨.bl _, H, I, rfl, ?_⟩
      rw [el, Nat.min_self, beq_self_eq_true, Bool.and_true] at e
      simpa [e, el] using q
    · have ne : eqDas ds es = false := by rw [e, beq_eq_false_iff_ne.mpr el, Bool.and_false]
      rw [ne] at q
      exact SeqAt.RcNeAt.lists_lengths t1.isList t2.isList (by simpa using el) (by omega) X.prog X.w X.xe _ ⟨.bl _, H, I, rfl, q⟩
def clsV : V → Value
  | .ty n => .type n
  | .ref a => .ref a
  | _ => .none
def isCls : V → Bool
  | .ty _ => true
  | .ref _ => true
  | _ => false
theorem cls_rel {c : V} {u : Value} (h : isCls c = true) (r : RelV c u) : u = clsV c := by
  cases c <;> first | exact r | (cases h; done)
def rIsi (K : PySem.W.Frag) : List V → Hp → VK → Prop := fun xs H Q => ∃ x c t b, xs = [x, c] ∧ isCls c = true ∧ TyOf K H x t ∧ PySem.W.kitOne K t (clsV c) = some b ∧ Q (.bl b) H
theorem call_isi : CallR X (.builtin "isinstance") (rIsi X.K) := by
  intro pins s σ H xs us Q I r h
  obtain ⟨x, c, t, b, rfl, hc, ty, e, q⟩ := h
  obtain ⟨u, w, rfl, r1, r2⟩ := vals2 r
  obtain rfl := cls_rel hc r2
  exact isinst_ok I r1 ty e fun tk => ⟨.bl b, H, I.tok tk, rfl, q⟩
end
section
variable {K : PySem.W.Frag}
theorem kind_sub {a b : String} {v : Bool} (h : ((Value.type a == Value.type b) = true → v = true) ∧ ((Value.type a == Value.type b) = false → PySem.W.kitMeta b = true ∧ (fastBuiltinMro a).map (·.contains (Value.type b)) = some v)) : PySem.W.kitOne K (.type a) (.type b) = some v := by
  unfold PySem.W.kitOne
  by_cases e : (Value.type a == Value.type b) = true
  · rw [if_pos e, h.1 e]
  · rw [if_neg e]
    obtain ⟨h1, h2⟩ := h.2 (by simpa using e)
    unfold PySem.W.kitCls
    dsimp only
    rw [if_pos h1]
    exact h2
end
theorem b_len : bootBuiltins "len" = some (.builtin "len") := by decide +kernel
theorem b_abs : bootBuiltins "abs" = some (.builtin "abs") := by decide +kernel
theorem b_isinstance : bootBuiltins "isinstance" = some (.builtin "isinstance") := by decide +kernel
theorem b_all : bootBuiltins "all" = some (.builtin "all") := by decide +kernel
theorem b_int : bootBuiltins "int" = some (.type "int") := by decide +kernel
theorem b_bool : bootBuiltins "bool" = some (.type "bool") := by decide +kernel
theorem b_list : bootBuiltins "list" = some (.type "list") := by decide +kernel
theorem b_tuple : bootBuiltins "tuple" = some (.type "tuple") := by decide +kernel
theorem b_dict : bootBuiltins "dict" = some (.type "dict") := by decide +kernel
theorem pe_ty {X : Cx} {x : Str} {n : String} {pos : Pos} (hg : Gl X x) (hm : X.mg x = none) (hv : bootBuiltins x = some (.type n)) (hn : x ≠ "__name__" := by decide) (hd : (x == ("__debug__" : Str)) = false := by decide) : PE X (.Name x pos) (tC (.ty n)) := pe_bltn (v := .ty n) hg hm hv rfl hn hd
def CMod (_ j : Int) : Prop := j ≠ 0
theorem nz {i j : Int} (h : j ≠ 0) : CMod i j := h
theorem op_modB {X : Cx} : OpR X (binaryOp .Mod) (rI CMod fun i j => .int (i.fmod j)) := op_modN
theorem dep_num {a b : V} : deps [.v a, .v b] ≤ 60 := by simp [deps, dep]
end Ty

set_option maxHeartbeats 4000000
namespace TyAtt
open PySem PySem.W PySem.Calls PyProof.Rows
open Builtin.Int (intBits)
theorem bits_item {ns : List Int} {n : Int} (h : (WData.list (ns.map WData.int)).layable = true) (hn : n ∈ ns) : intBits n ≤ 1048576 := by
  obtain ⟨_, _, hw⟩ := layableW_iff.mp h
  have a : ∀ (l : List Int), n ∈ l → intBits n ≤ WData.weightAll (l.map WData.int) := by
    intro l
    induction l with
    | nil => intro q; cases q
    | cons y r ih =>
      intro q
      rw [List.map_cons]
      unfold WData.weightAll
      rcases List.mem_cons.mp q with z | z
      · subst z
        have : intBits n ≤ WData.weight (.int n) := by
          unfold WData.weight
          exact Nat.le_refl _
        omega
      · have := ih z
        omega
  have b := a ns hn
  unfold WData.weight at hw
  omega
theorem attach_bits {l : OpenLaw} {n : Nat} {q : Program} {loose : List Str} {XP : (Str → Option Value) → Heap → Prop} {YP : World → Heap → Prop} {d : DefRec}
    (hn : l.most = some n) (hdf : d.params.defaults = [])
    (call : ∀ (w : World) (s₀ s₁ : Shared) (mg mb : Str → Option Value) (fa : Addr) (o : Obj) (pm cd doc : Value) (a : Addr) (vs : List Value) (ns : List Int),
      Ground q loose [] XP w s₀ mg mb s₁.heap → YP w s₁.heap →
      s₁.heap.get? fa = some o → o.data = .func (docDef d.name d.params d.body d.scope pm cd doc) → s₁.heap.CodeRec cd d.name → mg d.name = some (.ref fa) →
      s₁.heap.get? a = some { cls := .type "list", data := .seq vs.toArray } → IntsAre vs ns → ns.length ≤ n → (∀ i ∈ ns, intBits i ≤ 1048576) → s₁.gens = #[] →
      codeAny (model l.prog w) callerA (.call (.ref fa) ⟨[.ref a], []⟩) (fun r s' => r = .ok (.ret (.bool true)) ∧ OldK s₁.heap s'.heap ∧ s'.os = s₁.os ∧ AllBare s'.gens) s₁) :
    WalkO q loose XP YP l.row.toRowW d [] (fun f vs => PySem.call f vs) := by
  intro w s₀ s₁ mg mb G Y fa o pm cd doc dV kV ho hd hcd hD hmg hg args vals as hpre hlay hrd hwl hlo
  obtain rfl : dV = .none := Dflts.none hD hdf
  obtain rfl : kV = .none := Dflts.noKw hD
  obtain ⟨a, vs, ns, rfl, rfl, hobj, hints, hlen⟩ := Att.script_of hn hpre hwl
  have hb : ∀ i ∈ ns, intBits i ≤ 1048576 := fun i hi => bits_item (layW_cons hlay).1 hi
  refine enter_call (codeAny_mono (call w s₀ s₁ mg mb fa o pm cd doc a vs ns G Y ho (fd_plain hd) hcd hmg hobj hints hlen hb hg) fun r s' hq => ?_)
  obtain ⟨rfl, h2, h3, h4⟩ := hq
  exact ⟨.inl ⟨.bool true, .bool true, [], rfl, fun _ => rfl, .bool true, Att.post_true l _, fun _ => ⟨List.Pairwise.nil, fun _ hm => (nomatch hm)⟩⟩, h2, h3, h4⟩
end TyAtt
namespace Ty
open PySem PySem.Spec PyProof.Rows L2
open Builtin.Int (intBits)
structure Fn (P : Program) (w : World) (K : PySem.W.Frag) (mg : Str → Option Value) (base : Heap) (CX : CXT) (k : Nat) (x : Str) (ps : List Str) (sp : Sp) : Prop where
  ex : ∃ (f : Addr) (fd : FuncData), FnOk P w K mg base CX k f fd ps sp ∧ Binds K fd ps [] ∧ mg x = some (.ref f) ∧ PySem.W.keepIn K (.ref f) = true
structure Def (K : PySem.W.Frag) (mg : Str → Option Value) (x : Str) (st : Stmt) (ps : List Str) : Prop where
  ex : ∃ (f : Addr) (dV oc : Value) (od : Option Addr) (kV doc pm : Value) (an : Option Addr) (cdv ct : Value) (osl : Array (Option Value)),
    K.lookup f = some ⟨oc, od, .func (PySem.W.fnOf x x (defArgs st) (defBody st) (defScope st) dV kV doc pm an cdv ct), osl⟩ ∧ PySem.W.codeIn K cdv x = true ∧ PySem.W.keepIn K (.ref f) = true ∧
    Binds K (PySem.W.fnOf x x (defArgs st) (defBody st) (defScope st) dV kV doc pm an cdv ct) ps [] ∧ mg x = some (.ref f)
theorem Def.of {K : PySem.W.Frag} {mg : Str → Option Value} {x : Str} {st : Stmt} {ps : List Str} {f : Addr} {fd : FuncData} (F : Fun K x x st f fd) (b : Binds K fd ps []) (m : mg x = some (.ref f)) : Def K mg x st ps := by
  obtain ⟨oc, od, kV, doc, pm, an, cdv, ct, osl, rfl, lk, hcd⟩ := F.ex
  exact ⟨f, .none, oc, od, kV, doc, pm, an, cdv, ct, osl, lk, hcd, F.kp, b, m⟩
structure DefD (K : PySem.W.Frag) (mg : Str → Option Value) (x : Str) (st : Stmt) (ps : List Str) (ds : List Value) : Prop where
  ex : ∃ (f : Addr) (dV oc : Value) (od : Option Addr) (kV doc pm : Value) (an : Option Addr) (cdv ct : Value) (osl : Array (Option Value)),
    K.lookup f = some ⟨oc, od, .func (PySem.W.fnOf x x (defArgs st) (defBody st) (defScope st) dV kV doc pm an cdv ct), osl⟩ ∧ PySem.W.codeIn K cdv x = true ∧ PySem.W.keepIn K (.ref f) = true ∧
    Binds K (PySem.W.fnOf x x (defArgs st) (defBody st) (defScope st) dV kV doc pm an cdv ct) ps [] ∧ Binds K (PySem.W.fnOf x x (defArgs st) (defBody st) (defScope st) dV kV doc pm an cdv ct) ps ds ∧ mg x = some (.ref f)
section
variable {P : Program} {w : World} {K : PySem.W.Frag} {mg : Str → Option Value} {base : Heap} {CX : CXT}
theorem Fn.mono {j k : Nat} {x : Str} {ps : List Str} {sp : Sp} (F : Fn P w K mg base CX j x ps sp) (h : j ≤ k) : Fn P w K mg base CX k x ps sp := by
  obtain ⟨f, fd, a, b⟩ := F.ex
  exact ⟨f, fd, a.mono h, b⟩
theorem Def.ok {x : Str} {st : Stmt} {N ps : List Str} {k : Nat} {sp : Sp} (D : Def K mg x st ps) (S : FnScope N ps (defScope st)) (len : ∀ vs H Q E, sp vs H Q E → vs.length = ps.length)
    (hbody : ∀ (f : Addr) (cdv : Value) (A : Around) (outer : List Env) (s : Shared) (H : Hp) (vs : List V) (Q : VK) (E : XK), Room k (A.deeper (envOfC x (defScope st) s.heap.objs.size f cdv)) → sp vs H Q E →
      ∃ t, PSs (cxOf CX P w K mg base N x (defScope st) f cdv A outer s H E).nox (defBody st) t ∧ t { nx := fun _ H' => Q .non H', rt := Q } (start N vs) H) : Fn P w K mg base CX (k + 1) x ps sp := by
  obtain ⟨f, dV, oc, od, kV, doc, pm, an, cdv, ct, osl, lk, hcd, kp, b, m⟩ := D.ex
  refine ⟨f, _, fn_of lk hcd S len fun A outer s H vs Q E hr hsp => ?_, b, m, kp⟩
  obtain ⟨t, h, q⟩ := hbody f cdv A outer s H vs Q E hr hsp
  exact ⟨t, h.nox, q⟩
theorem _root_.L2.Fun.okG {x : Str} {st : Stmt} {f : Addr} {fd : FuncData} {N ps : List Str} {k : Nat} {sp : Sp} (F : Fun K x x st f fd) (S : FnScope N ps (defScope st)) (len : ∀ vs H Q E, sp vs H Q E → vs.length = ps.length)
    (hbody : ∀ (cdv : Value) (A : Around) (outer : List Env) (s : Shared) (H : Hp) (vs : List V) (Q : VK) (E : XK), Room k (A.deeper (envOfC x (defScope st) s.heap.objs.size f cdv)) → sp vs H Q E →
      ∃ t, PSs (cxOf CX P w K mg base N x (defScope st) f cdv A outer s H E).nox (defBody st) t ∧ t { nx := fun _ H' => Q .non H', rt := Q } (start N vs) H) : FnOk P w K mg base CX (k + 1) f fd ps sp := by
  obtain ⟨oc, od, kV, doc, pm, an, cdv, ct, osl, rfl, lk, hcd⟩ := F.ex
  refine fn_of lk hcd S len fun A outer s H vs Q E hr hsp => ?_
  obtain ⟨t, h, q⟩ := hbody cdv A outer s H vs Q E hr hsp
  exact ⟨t, h.nox, q⟩
def Mute (CX : CXT) : Prop := ∀ outer H s e s', CX outer H s E0 e s' → False
theorem passM {X : Cx} (h : Mute CX) : Passes CX X.nox E0 := fun _ _ _ _ _ _ _ q => (h _ _ _ _ _ q).elim
section
variable {X : Cx} {k : Nat} {ps : List Str} {sp : Sp} {E : XK} {x : Str} {p pos : Pos} {e : Expr} {es : List Expr} {t : TA}
theorem pe_fn (F : Fn X.prog X.w X.K X.mg X.base CX k x ps sp) (hr : Room k X.A) (hx : Passes CX X E) (ha : PA X (e :: es) t) (hg : Gl X x := by rfl) (hdb : (x == ("__debug__" : Str)) = false := by decide)
    (he : starEach (e :: es) X.env = (false, eval e X.env) :: starEach es X.env := by rfl) (hpl : (backTo pos (starEach es X.env)).any (·.1) = false := by rfl) : PE X (.Call (.Name x p) (e :: es) [] pos) (tCall sp [] E t) := by
  obtain ⟨f, fd, G, b, m, kp⟩ := F.ex
  exact pe_call G hr hg m kp b .nil hx ha hdb he hpl
structure FnD (P : Program) (w : World) (K : PySem.W.Frag) (mg : Str → Option Value) (base : Heap) (CX : CXT) (k : Nat) (x : Str) (ps : List Str) (ds : List Value) (sp : Sp) : Prop where
  ex : ∃ (f : Addr) (fd : FuncData), FnOk P w K mg base CX k f fd ps sp ∧ Binds K fd ps ds ∧ mg x = some (.ref f) ∧ PySem.W.keepIn K (.ref f) = true
end
end
def spLaw (K : PySem.W.Frag) : Sp := fun vs H Q _ => ∃ (a : Addr) (ns : List Int), vs = [.ref a] ∧ SqL K H a (ns.map V.int) ∧ ns.length ≤ 63 ∧ (∀ i ∈ ns, intBits i ≤ 1048576) ∧ ∀ H', Q (.bl true) H'
theorem walk {l : PySem.W.OpenLaw} {q : Program} {loose : List Str} {XP : (Str → Option Value) → Heap → Prop} {YP : World → Heap → Prop} {d : DefRec} {K : Params → PySem.W.Frag} {CX : World → CXT} {x : Str} {k : Nat}
    (hn : l.most = some 63) (hdf : d.params.defaults = []) (hi : importsNone q = true) (hr : Room k callerA)
    (hY : ∀ (w : World) (h : Heap), YP w h → (K w.params).In h) (hm : ∀ w, Mute (CX w))
    (F : ∀ (w : World) (mg : Str → Option Value) (fa : Addr) (h : Heap), (K w.params).In h → h.Ns mainGlobals mg → mg d.name = some (.ref fa) →
      ∃ fd : FuncData, (∀ (s : Shared) (u : Value), BindsTo s fd ⟨[u], []⟩ [(x, u)]) ∧
        ∀ base : Heap, (K w.params).In base → base.Ns mainGlobals mg → FnOk l.prog w (K w.params) mg base (CX w) k fa fd [x] (spLaw (K w.params))) :
    PySem.W.WalkO q loose XP YP l.row.toRowW d [] (fun f vs => PySem.call f vs) := by
  refine TyAtt.attach_bits hn hdf fun w s₀ s₁ mg mb fa o pm cd doc a vs ns G Y ho hd hcd hmg hobj hints hlen hb hg => ?_
  have KX := hY w _ Y
  obtain ⟨fd, hbd, hF⟩ := F w mg fa _ KX G.T.g hmg
  exact law_call KX G.T.g G.T.b G.T.builtins G.T.nolimit (G.T.seer hi) hg hobj hints (Nat.le_trans hlen (by decide)) hr hF hbd (fun H hO hS => ⟨a, ns, rfl, hS, hlen, hb, fun _ => rfl⟩) fun H e s' => hm w [] H s₁ e s'
end Ty

set_option maxHeartbeats 4000000
namespace Ty
open PySem PySem.Spec PyProof.Rows
def KD (h h' : Heap) : Prop := ∀ b o, h.get? b = some o → ∃ o', h'.get? b = some o' ∧ o'.dict = o.dict
theorem KD.refl {h : Heap} : KD h h := fun b o e => ⟨o, e, rfl⟩
theorem KD.trans {h1 h2 h3 : Heap} (a : KD h1 h2) (b : KD h2 h3) : KD h1 h3 := fun c o e => by
  obtain ⟨o1, e1, d1⟩ := a c o e
  obtain ⟨o2, e2, d2⟩ := b c o1 e1
  exact ⟨o2, e2, d2.trans d1⟩
theorem KD.keeps {h h' : Heap} (k : ∀ b o, h.get? b = some o → h'.get? b = some o) : KD h h' := fun b o e => ⟨o, k b o e, rfl⟩
theorem not_freed {h : Heap} {a : Addr} {o : Obj} (e : h.get? a = some o) : o.isFreed = false := by
  unfold Heap.get? at e
  split at e
  · cases e
  · rename_i o' hn
    unfold Obj.isFreed
    split
    · rename_i c d sl
      exact absurd e (hn c d sl)
    · rfl
theorem KD.update {h : Heap} {a : Addr} {f : Obj → Obj} (hf : ∀ o, (f o).dict = o.dict ∧ (f o).isFreed = o.isFreed) : KD h (h.update a f) := fun b o e => by
  by_cases c : b = a
  · subst c
    exact ⟨f o, Heap.get?_update_self f e ((hf o).2.trans (not_freed e)), (hf o).1⟩
  · exact ⟨o, (Heap.get?_update_other h f (fun z => c z.symm)).trans e, rfl⟩
def Kp {α : Type} : Sem α → Prop
  | .pure _ => True
  | .raise _ => True
  | .unsupported _ => True
  | .finish _ => True
  | .rule _ k => Kp (k ())
  | .at _ k => Kp (k ())
  | .load _ _ k => ∀ o, Kp (k o)
  | .update _ _ f k => (∀ o, (f o).dict = o.dict ∧ (f o).isFreed = o.isFreed) ∧ Kp (k ())
  | .alloc _ k => ∀ a, Kp (k a)
  | .loadIfAlive _ k => ∀ o, Kp (k o)
  | .point _ k => Kp (k ())
  | .fresh k => ∀ t, Kp (k t)
  | .ask k => ∀ t, Kp (k t)
  | .handled _ k => ∀ t, Kp (k t)
  | .stack k => ∀ t, Kp (k t)
  | .thread k => ∀ t, Kp (k t)
  | _ => False
theorem Kp.bind {α β : Type} : ∀ {m : Sem α} {f : α → Sem β}, Kp m → (∀ a, Kp (f a)) → Kp (m.bind f) := by
  intro m f
  induction m with
  | pure a => exact fun _ h => h a
  | raise e => exact fun _ _ => trivial
  | unsupported w => exact fun _ _ => trivial
  | finish e => exact fun _ _ => trivial
  | rule t k ih => exact fun h hf => ih () h hf
  | «at» p k ih => exact fun h hf => ih () h hf
  | load a p k ih => exact fun h hf o => ih o (h o) hf
  | update a p g k ih => exact fun h hf => ⟨h.1, ih () h.2 hf⟩
  | alloc o k ih => exact fun h hf a => ih a (h a) hf
  | loadIfAlive a k ih => exact fun h hf o => ih o (h o) hf
  | point l k ih => exact fun h hf => ih () h hf
  | fresh k ih => exact fun h hf o => ih o (h o) hf
  | ask k ih => exact fun h hf o => ih o (h o) hf
  | handled o k ih => exact fun h hf o => ih o (h o) hf
  | stack k ih => exact fun h hf o => ih o (h o) hf
  | thread k ih => exact fun h hf o => ih o (h o) hf
  | _ => exact fun h => h.elim
theorem Kp.wp {α : Type} {M : Model} {Γ : PySem.Ctx} : ∀ {t : Sem α} {P : α → Pos → Shared → Prop} {E : Value → Pos → Shared → Prop} {p : Pos} {s : Shared} {h0 : Heap}, Kp t → KD h0 s.heap → Sem.wp M Γ t P E p s → Sem.wp M Γ t (fun a p' s' => P a p' s' ∧ KD h0 s'.heap) E p s := by
  intro t
  induction t with
  | pure a => exact fun _ kd h => ⟨h, kd⟩
  | raise e => exact fun _ _ h => h
  | unsupported w => exact fun _ _ h => h
  | finish e => exact fun _ _ h => h
  | rule t k ih => exact fun hk kd h => ih () hk kd h
  | «at» p k ih => exact fun hk kd h => ih () hk kd h
  | load a p k ih => exact fun hk kd h => by obtain ⟨o, e, h⟩ := h; exact ⟨o, e, ih o (hk o) kd h⟩
  | update a p g k ih => exact fun hk kd h => ⟨h.1, ih () hk.2 (kd.trans (KD.update hk.1)) h.2⟩
  | alloc o k ih => exact fun hk kd h => ih _ (hk _) (kd.trans (KD.keeps fun b o e => Heap.get?_push_of_some _ e)) h
  | loadIfAlive a k ih => exact fun hk kd h => ih _ (hk _) kd h
  | point l k ih => exact fun hk kd h => ih () hk kd h
  | fresh k ih => exact fun hk kd h => ih _ (hk _) kd h
  | ask k ih => exact fun hk kd h => ih _ (hk _) kd h
  | handled o k ih => exact fun hk kd h => ih _ (hk _) kd h
  | stack k ih => exact fun hk kd h => ih _ (hk _) kd h
  | thread k ih => exact fun hk kd h => ih _ (hk _) kd h
  | _ => exact fun hk => hk.elim
theorem Kp.any {α : Type} {M : Model} {A : Around} {t : Sem α} {Q : α → Shared → Prop} {E : Value → Shared → Prop} {s : Shared} (k : Kp t) (h : wpAny M A t Q E s) : wpAny M A t (fun a s' => Q a s' ∧ KD s.heap s'.heap) E s :=
  fun Γ p hΓ => Kp.wp k KD.refl (h Γ p hΓ)
end Ty

set_option maxHeartbeats 4000000
namespace Ty
open PySem PySem.Spec PyProof.Rows L2
def DictAt (h : Heap) (a : Addr) (dx : Option Addr) : Prop := ∃ o, h.get? a = some o ∧ o.dict = dx
theorem DictAt.kd {h h' : Heap} {a : Addr} {dx : Option Addr} (d : DictAt h a dx) (k : KD h h') : DictAt h' a dx := by
  obtain ⟨o, e, d⟩ := d
  obtain ⟨o', e', d'⟩ := k a o e
  exact ⟨o', e', d'.trans d⟩
def CXr (P : Program) (w : World) : CXT := fun outer H s E e s' => ∃ (a : Addr) (cls a0 : Value) (dx : Option Addr) (H' : Hp) (B : Heap),
  e = .ref a ∧ Heap.FlyingW B outer a cls a0 s'.heap ∧ DictAt s'.heap a dx ∧ Un (frs outer) [] H H' s.heap s'.heap ∧ HOk P w H' s'.heap ∧ s'.os = s.os ∧ AllBare s'.gens ∧
  (∀ b o, s.heap.get? b = some o → b ∉ frs outer → ∃ o', B.get? b = some o') ∧ (∀ b u, H' b = some u → ∃ o, B.get? b = some o) ∧ E cls dx H'
theorem CXr.mute {P : Program} {w : World} : Mute (CXr P w) := fun _ _ _ _ _ ⟨_, _, _, _, _, _, _, _, _, _, _, _, _, _, _, z⟩ => z
section
variable {P : Program} {w : World} {K : PySem.W.Frag} {mg : Str → Option Value} {base : Heap} {N : List Str} {qual : Str} {scope : Scope} {f : Addr} {cdv : Value} {A : Around} {outer : List Env} {s0 : Shared} {H0 : Hp} {E : XK}
abbrev cxr (P : Program) (w : World) (K : PySem.W.Frag) (mg : Str → Option Value) (base : Heap) (N : List Str) (qual : Str) (scope : Scope) (f : Addr) (cdv : Value) (A : Around) (outer : List Env) (s0 : Shared) (H0 : Hp) (E : XK) : Cx := cxOf (CXr P w) P w K mg base N qual scope f cdv A outer s0 H0 E
def tRaise (C : Addr) (E : XK) (ta : TA) : TS := fun _ σ H => ta σ H fun vs H1 => vs.length ≤ sizeLine ∧ E (.ref C) none H1
end
end Ty

set_option maxHeartbeats 4000000
namespace Ty
open PySem PySem.Spec PyProof.Rows L2
section
variable {X : Cx} {pins : List (Addr × Obj)} {σ : L2.St} {H H' : Hp} {s : Shared}
abbrev hnd (X : Cx) (a : Addr) : Cx := { X with A := X.A.mark (some (.ref a)), calm := false, xe := fun _ _ => False }
def excO (cls : Value) (a : Addr) (dx : Option Addr) : HO := .ext fun h => ∃ o vs, h.get? a = some o ∧ o.cls = cls ∧ o.data = .fields vs ∧ o.dict = dx
structure Ld (X : Cx) (pins : List (Addr × Obj)) (σ : L2.St) (H : Hp) (a : Addr) (cls : Value) (dx : Option Addr) (s : Shared) : Prop where
  ex : ∃ (H0 : Hp) (s0 : Shared) (a0 : Value) (B : Heap), Inv X pins σ H0 s0 ∧ Heap.FlyingW B X.stack a cls a0 s.heap ∧ DictAt s.heap a dx ∧ Un (frs X.stack) [] H0 H s0.heap s.heap ∧ HOk X.prog X.w H s.heap ∧ s.os = s0.os ∧ AllBare s.gens ∧
    (∀ b o, s0.heap.get? b = some o → b ∉ frs X.stack → ∃ o', B.get? b = some o') ∧ (∀ b u, H b = some u → ∃ o, B.get? b = some o)
theorem Ld.inv {a : Addr} {cls : Value} {dx : Option Addr} (L : Ld X pins σ H a cls dx s) : Inv X pins σ H s := by
  obtain ⟨H0, s0, a0, B, I, fl, da, un, ok, os, bare, th, tr⟩ := L.ex
  exact I.call' (ch := []) os un ok bare fun b z => absurd z (by simp)
theorem Ld.free {a : Addr} {cls : Value} {dx : Option Addr} (L : Ld X pins σ H a cls dx s) : H a = none := by
  obtain ⟨H0, s0, a0, B, I, fl, da, un, ok, os, bare, th, tr⟩ := L.ex
  cases q : H a with
  | none => rfl
  | some u =>
    obtain ⟨o, e⟩ := tr a u q
    rw [fl.2.1] at e
    cases e
abbrev TH := Value → Option Addr → Ends → L2.St → Hp → Prop
def PH (X : Cx) (hs : List ExceptHandler) (t : TH) : Prop :=
  ∀ (pins : List (Addr × Obj)) (s : Shared) (σ : L2.St) (H : Hp) (a : Addr) (cls : Value) (dx : Option Addr) (D : Ends), Ld X pins σ H a cls dx s → t cls dx D σ H → wpAny (model X.prog X.w) X.A (handleBy (.ref a) X.env hs) (SP X pins D) X.xe s
structure ClsN (X : Cx) (c : Str) (cv : Value) : Prop where
  ld : ∀ (a : Addr) (pins : List (Addr × Obj)) (s : Shared) (σ : L2.St) (H : Hp) (np : Pos) (Q : Value → Shared → Prop) (E : Value → Shared → Prop), Inv (hnd X a) pins σ H s → Q cv s → wpAny (model X.prog X.w) (X.A.mark (some (.ref a))) (eval (.Name c np) X.env) Q E s
theorem ClsN.own {c : Str} {C : Addr} (hm : X.mg c = some (.ref C)) (hg : Gl X c := by rfl) (hd : (c == ("__debug__" : Str)) = false := by decide) : ClsN X c (.ref C) :=
  ⟨fun a pins s σ H np Q E I h => ld_glob (X := hnd X a) I hg hm h hd⟩
def tAs (i : Nat) (cv : Value) (K : PySem.W.Frag) (ts : TS) (tr : TH) : TH := fun cls dx D σ H => ∃ b, PySem.W.exmOne K cls cv = some b ∧
  if b = true then ∀ a, H a = none → ts { nx := fun σ2 H2 => D.nx (σ2.set i none) H2, rt := D.rt, bk := fun σ2 H2 => D.bk (σ2.set i none) H2, ct := fun σ2 H2 => D.ct (σ2.set i none) H2 } (σ.set i (some (.ref a))) (upd H a (excO cls a dx)) else tr cls dx D σ H
def XP (X : Cx) (pins : List (Addr × Obj)) (σ : L2.St) (E : XK) (e : Value) (s' : Shared) : Prop := ∃ H s, Inv X pins σ H s ∧ CXr X.prog X.w X.stack H s E e s'
abbrev TEx := L2.St → Hp → VK → XK → Prop
abbrev TSx := Ends → (L2.St → XK) → L2.St → Hp → Prop
def PEx (X : Cx) (e : Expr) (t : TEx) : Prop :=
  ∀ (pins : List (Addr × Obj)) (s : Shared) (σ : L2.St) (H : Hp) (Q : VK) (E : XK), Inv X pins σ H s → t σ H Q E → wpAny (model X.prog X.w) X.A (eval e X.env) (EP X pins σ Q) (XP X pins σ E) s
def PSx (X : Cx) (st : Stmt) (t : TSx) : Prop :=
  ∀ (pins : List (Addr × Obj)) (s : Shared) (σ : L2.St) (H : Hp) (D : Ends) (E : L2.St → XK), Inv X pins σ H s → t D E σ H → wpAny (model X.prog X.w) X.A (exec st X.env) (SP X pins D) (fun e s' => ∃ σ', XP X pins σ' (E σ') e s') s
end
end Ty

set_option maxHeartbeats 4000000
namespace TyExc
open PySem PySem.W PySem.Calls PyProof.Rows Builtin Builtin.ObjectAttr Builtin.Getset_descriptor
structure ExcK (K : Frag) (C : Addr) : Prop where
  ga : findIn K (.ref C) "__getattribute__" = some (some (.builtin "BaseException.__getattribute__"))
  gt : findIn K (.ref C) "__getattr__" = some none
  cl : findIn K (.ref C) "__class__" = some (some (.builtin "object.__class__"))
  mo : mroIn K C (.type "object") = some true
  mb : mroIn K C (.type "BaseException") = some true
  is : (clsIn K C).isSome = true
section
variable {prog : Program} {w : World} {A : Around} {E : Value → Shared → Prop} {K : Frag} {h : Heap} {g : Array GenState} {d : Drawn} {t : Nat} {os : OsState} {a C : Addr} {o : Obj}
end
def ExcAt (a C : Addr) (h : Heap) : Prop := ∃ o vs, h.get? a = some o ∧ o.cls = .ref C ∧ o.data = .fields vs
end TyExc

set_option maxHeartbeats 4000000
namespace Ty
open PySem PySem.Spec PyProof.Rows L2
section
variable {X : Cx}
def rIsiX (K : PySem.W.Frag) : List V → Hp → VK → Prop := fun xs H Q => ∃ a C c b dx, xs = [.ref a, c] ∧ isCls c = true ∧ H a = some (excO (.ref C) a dx) ∧ TyExc.ExcK K C ∧ PySem.W.kitOne K (.ref C) (clsV c) = some b ∧ Q (.bl b) H
def rCount (K : PySem.W.Frag) : V → List V → Hp → VK → Prop := fun x vs H Q => ∃ l xs y, x = .ref l ∧ vs = [y] ∧ SqL K H l xs ∧ flatV y = true ∧ xs.all flatV = true ∧ Q (.int (xs.countP (fun z => eqV z y) : Nat)) H
end
structure RoomH (k : Nat) (A : Around) : Prop where
  dp : A.depth + 3 * k + 5 < recursionLimit
  un : A.units + 16 * k + 200 < cLine
theorem RoomH.of {k : Nat} {A : Around} (r : Room k A) : RoomH k A := ⟨r.dp, r.un⟩
theorem RoomH.mono {j k : Nat} {A : Around} (r : RoomH k A) (h : j ≤ k) : RoomH j A := ⟨by have := r.dp; omega, by have := r.un; omega⟩
theorem RoomH.deeper {k : Nat} {A : Around} (r : RoomH (k + 1) A) (env : Env) : RoomH k (A.deeper env) :=
  ⟨by have := r.dp; show A.depth + 1 + 3 * k + 5 < _; omega, by have := r.un; show A.units + 3 + 16 * k + 200 < _; omega⟩
theorem RoomH.mark {k : Nat} {A : Around} (r : Room k A) (e : Option Value) : RoomH k (A.mark e) := ⟨r.dp, r.un⟩
theorem RoomH.units {k : Nat} {A : Around} (r : RoomH k A) : A.units + 64 < cLine := by have := r.un; omega
structure FnOkH (P : Program) (w : World) (K : PySem.W.Frag) (mg : Str → Option Value) (base : Heap) (k : Nat) (f : Addr) (fd : FuncData) (ps : List Str) (sp : Sp) : Prop where
  len : ∀ vs H Q E, sp vs H Q E → vs.length = ps.length
  run : ∀ (A : Around) (outer : List Env) (s : Shared) (H : Hp) (args : Args) (us : List Value) (vs : List V) (Q : VK), RoomH k A → Env0 P w K mg base A outer s H → BindsTo s fd args (ps.zip us) → Vals vs us → sp vs H Q E0 →
    codeAny (model P w) A (.call (.ref f) args) (CR CX0 outer P w H s Q E0) s
def cxh (P : Program) (w : World) (K : PySem.W.Frag) (mg : Str → Option Value) (base : Heap) (N : List Str) (qual : Str) (scope : Scope) (f : Addr) (cdv : Value) (A : Around) (outer : List Env) (s : Shared) (H : Hp) : Cx :=
  { cxOf CX0 P w K mg base N qual scope f cdv A outer s H E0 with calm := false, xe := fun _ _ => False }
structure FnH (P : Program) (w : World) (K : PySem.W.Frag) (mg : Str → Option Value) (base : Heap) (k : Nat) (x : Str) (ps : List Str) (sp : Sp) : Prop where
  ex : ∃ (f : Addr) (fd : FuncData), FnOkH P w K mg base k f fd ps sp ∧ Binds K fd ps [] ∧ mg x = some (.ref f) ∧ PySem.W.keepIn K (.ref f) = true
theorem Def.okX {P : Program} {w : World} {K : PySem.W.Frag} {mg : Str → Option Value} {base : Heap} {x : Str} {st : Stmt} {N ps : List Str} {k : Nat} {sp : Sp} (D : Def K mg x st ps) (S : FnScope N ps (defScope st)) (len : ∀ vs H Q E, sp vs H Q E → vs.length = ps.length)
    (hbody : ∀ (f : Addr) (cdv : Value) (A : Around) (outer : List Env) (s : Shared) (H : Hp) (vs : List V) (Q : VK) (E : XK), Room k (A.deeper (envOfC x (defScope st) s.heap.objs.size f cdv)) → sp vs H Q E →
      ∃ t, PSs (cxr P w K mg base N x (defScope st) f cdv A outer s H E) (defBody st) t ∧ t { nx := fun _ H' => Q .non H', rt := Q } (start N vs) H) : Fn P w K mg base (CXr P w) (k + 1) x ps sp := by
  obtain ⟨f, dV, oc, od, kV, doc, pm, an, cdv, ct, osl, lk, hcd, kp, b, m⟩ := D.ex
  exact ⟨f, _, fn_of lk hcd S len fun A outer s H vs Q E hr hsp => hbody f cdv A outer s H vs Q E hr hsp, b, m, kp⟩
theorem DefD.okX {P : Program} {w : World} {K : PySem.W.Frag} {mg : Str → Option Value} {base : Heap} {x : Str} {st : Stmt} {N ps : List Str} {ds : List Value} {k : Nat} {sp : Sp} (D : DefD K mg x st ps ds) (S : FnScope N ps (defScope st)) (len : ∀ vs H Q E, sp vs H Q E → vs.length = ps.length)
    (hbody : ∀ (f : Addr) (cdv : Value) (A : Around) (outer : List Env) (s : Shared) (H : Hp) (vs : List V) (Q : VK) (E : XK), Room k (A.deeper (envOfC x (defScope st) s.heap.objs.size f cdv)) → sp vs H Q E →
      ∃ t, PSs (cxr P w K mg base N x (defScope st) f cdv A outer s H E) (defBody st) t ∧ t { nx := fun _ H' => Q .non H', rt := Q } (start N vs) H) : Fn P w K mg base (CXr P w) (k + 1) x ps sp ∧ FnD P w K mg base (CXr P w) (k + 1) x ps ds sp := by
  obtain ⟨f, dV, oc, od, kV, doc, pm, an, cdv, ct, osl, lk, hcd, kp, b, b2, m⟩ := D.ex
  have F := fn_of (CX := CXr P w) (P := P) (w := w) (mg := mg) (base := base) lk hcd S len fun A outer s H vs Q E hr hsp => hbody f cdv A outer s H vs Q E hr hsp
  exact ⟨⟨f, _, F, b, m, kp⟩, ⟨f, _, F, b2, m, kp⟩⟩
abbrev bmVE : List Value := [.type "ValueError", .type "Exception", .type "BaseException", .type "object"]
end Ty

set_option maxHeartbeats 4000000
namespace Ty
open PySem PySem.Spec PyProof.Rows L2
section
variable {prog : Program} {w : World} {A : Around} {R : Result → Shared → Prop} {s : Shared}
theorem compLoop_any {elt target iter : Expr} {ifs : List Expr} {scope : Scope} {pos : Pos} {it acc : Value} {env : Env} (I : Nat → Shared → Prop)
    (turn : ∀ n s, I n s → wpAny (model prog w) A (pyNext it) (fun r s₁ => match r with
      | none => R (.ok .next) s₁
      | some v => wpAny (model prog w) A (letOwnedTupleGo target it v) (fun _ s₁' => wpAny (model prog w) A (assign target env v) (fun _ s₂ =>
          wpAny (model prog w) A (forIn ifs true fun c r => if r = true then do let ok ← isTrue c env (eval c env); pure (ForInStep.yield ok) else pure (ForInStep.yield r)) (fun ok s₃ =>
            if ok = true then wpAny (model prog w) A (eval elt env) (fun x s₄ =>
              wpAny (model prog w) A (call (.builtin "list.append") [acc, x]) (fun _ s₅ => ∃ m, m < n ∧ I m s₅) (fun _ _ => False) s₄) (fun _ _ => False) s₃
            else ∃ m, m < n ∧ I m s₃) (fun _ _ => False) s₂) (fun _ _ => False) s₁') (fun _ _ => False) s₁) (fun _ _ => False) s)
    (n : Nat) (h : I n s) :
    codeAny (model prog w) A (.compLoop (.ListComp elt [⟨target, iter, ifs, 0⟩] scope pos) 0 it acc env) R s := by
  refine codeAny_loop rfl I (fun n s hI => ?_) n h
  show wpAny _ A ((compTurn (.ListComp elt [⟨target, iter, ifs, 0⟩] scope pos) 0 it acc env).onRaise (fun x => do noteFrame x env; theTreesLotGoes x)) _ _ s
  refine wpAny_noted ?_
  rw [compTurn_list]
  refine wpAny_bind (wpAny_standAt (wpAny_bind (wpAny_mono (turn n s hI) (fun r s₁ h₁ => ?_) fun _ _ h' => h'.elim)))
  cases r with
  | none => exact wpAny_pure h₁
  | some v =>
    refine wpAny_bind (wpAny_mono h₁ (fun _ s₁' h₁' => ?_) fun _ _ h' => h'.elim)
    refine wpAny_bind (wpAny_mono h₁' (fun _ s₂ h₂ => wpAny_bind (wpAny_mono h₂ (fun ok s₃ h₃ => ?_) fun _ _ h' => h'.elim)) fun _ _ h' => h'.elim)
    cases ok with
    | false => exact wpAny_pure ⟨rfl, h₃⟩
    | true =>
      exact wpAny_bind (wpAny_bind (wpAny_mono h₃ (fun x s₄ h₄ => wpAny_bind (wpAny_mono h₄ (fun _ s₅ h₅ => wpAny_pure (wpAny_pure ⟨rfl, h₅⟩)) fun _ _ h' => h'.elim)) fun _ _ h' => h'.elim))
end
def capCl (env : Env) (fr : List Str) : List (Str × Addr) := fr.filterMap fun n => (env.cells.lookup n).map fun c => (n, c)
theorem lookup_mem {α : Type} {x : Str} {c : α} : ∀ {l : List (Str × α)}, l.lookup x = some c → (x, c) ∈ l
  | [], h => by simp at h
  | (y, d) :: r, h => by
    rw [List.lookup_cons] at h
    cases e : x == y with
    | true =>
      rw [e] at h
      have e1 : x = y := by simpa using e
      cases h
      rw [e1]
      exact List.mem_cons_self
    | false =>
      rw [e] at h
      exact List.mem_cons_of_mem _ (lookup_mem h)
theorem capCl_mem {env : Env} {fr : List Str} {x : Str} {c : Addr} (h : (x, c) ∈ capCl env fr) : env.cells.lookup x = some c := by
  obtain ⟨n, _, e⟩ := List.mem_filterMap.mp h
  cases q : env.cells.lookup n with
  | none => rw [q] at e; cases e
  | some d =>
    rw [q] at e
    have e' : (n, d) = (x, c) := Option.some.inj e
    cases e'
    exact q
theorem capCl_get {env : Env} {fr : List Str} {x : Str} {c : Addr} (h : (capCl env fr).lookup x = some c) : env.cells.lookup x = some c := capCl_mem (lookup_mem h)
theorem capCl_has {env : Env} {x : Str} {c : Addr} (q : env.cells.lookup x = some c) : ∀ {fr : List Str}, x ∈ fr → (capCl env fr).lookup x = some c
  | [], h => nomatch h
  | y :: r, h => by
    unfold capCl
    rw [List.filterMap_cons]
    by_cases e : x = y
    · subst e
      rw [q]
      simp
    · have hr : x ∈ r := by
        rcases List.mem_cons.mp h with z | z
        · exact absurd z e
        · exact z
      have ih := capCl_has q hr
      cases z : env.cells.lookup y with
      | none => exact ih
      | some d =>
        show List.lookup x ((y, d) :: _) = _
        rw [List.lookup_cons]
        have ne : (x == y) = false := by simpa using e
        rw [ne]
        exact ih
def AllCap (env : Env) : List Str → Prop
  | [] => True
  | y :: r => (env.kindOf y = some .cell ∨ env.kindOf y = some .free) ∧ AllCap env r
theorem AllCap.at {env : Env} {x : Str} : ∀ {fr : List Str}, AllCap env fr → x ∈ fr → env.kindOf x = some .cell ∨ env.kindOf x = some .free
  | [], _, h => nomatch h
  | y :: r, a, h => by
    rcases List.mem_cons.mp h with z | z
    · rw [z]
      exact a.1
    · exact AllCap.at a.2 z
section
variable {X : Cx}
def cxB (X : Cx) (NB : List Str) (scope : Scope) (cl : List (Str × Addr)) (C : Addr) (s : Shared) (H : Hp) (fp : List Addr) : Cx :=
  { prog := X.prog, w := X.w, K := X.K, mg := X.mg, base := X.base, A := X.A, N := NB, s₀ := s, H₀ := H, env := compEnvC scope cl C X.env, outer := X.stack, stack := X.stack, ex := fp, fn := fun _ => false, calm := X.calm, pn := [], xe := fun _ _ => False }
structure BlkS (X : Cx) (scope : Scope) (fr : List Str) (caps : List Nat) : Prop where
  clos : closureFor scope X.env = pure (capCl X.env fr)
  cell : ∀ y ∈ scope.names, y.2 ≠ .cell
  kind : scope.kind = .function
  names : ∀ y ∈ scope.names, y.2 = .local → scope.names.lookup y.1 = some .local
  free : ∀ y ∈ scope.names, y.2 = .free → y.1 ∈ fr
  caps : caps.map (fun i => X.N[i]?) = fr.map some
  out : AllCap X.env fr
  inn : AllCap (compEnvC scope [] 0 X.env) fr
def PF (X : Cx) (ifs : List Expr) (t : TT) : Prop :=
  ∀ (pins : List (Addr × Obj)) (s : Shared) (σ : L2.St) (H : Hp) (Q : Bool → Hp → Prop), Inv X pins σ H s → t σ H Q →
    wpAny (model X.prog X.w) X.A (forIn ifs true fun c r => if r = true then do let ok ← isTrue c X.env (eval c X.env); pure (ForInStep.yield ok) else pure (ForInStep.yield r)) (TP X pins σ Q) X.xe s
def tYes : TT := fun _ H Q => Q true H
theorem pf_nil : PF X [] tYes := fun _ _ _ H _ I h => wpAny_tests_nil ⟨H, I, h⟩
theorem pf_one {c : Expr} {t : TT} (h : PT X c t) : PF X [c] t := fun pins s σ H Q I q => wpAny_tests_one (h pins s σ H Q I q)
def sB (k : Nat) (caps : List Nat) (σ : L2.St) : L2.St := List.replicate k none ++ caps.map fun i => (σ[i]?).getD none
def tBlk (D : Addr) (g : TG) (tt : TT) (te : TE) (J : It) (σ0 : L2.St) (H1 : Hp) (Q : VK) : Prop := ∃ W : Nat → Nat → L2.St → List V → Hp → Prop,
  (∃ m, W 0 m σ0 [] (upd H1 D (.lst []))) ∧ ∀ i m σ2 ys H2, W i m σ2 ys H2 → (J.stop i H2 ∧ Q (.ref D) H2) ∨ (J.go i H2 ∧ ∀ x H3, J.yld i H2 x H3 → g x σ2 H3 fun σ4 H4 => tt σ4 H4 fun b H5 =>
    if b = true then te σ4 H5 fun v H6 => H6 D = some (.lst ys) ∧ ys.length < sizeLine ∧ ∃ m', m' < m ∧ W (i + 1) m' σ4 (ys ++ [v]) (upd H6 D (.lst (ys ++ [v]))) else ∃ m', m' < m ∧ W (i + 1) m' σ4 ys H5)
def tComp (k : Nat) (caps : List Nat) (wi : TI) (g : TG) (tt : TT) (te : TE) : TE := fun σ H Q => wi σ H fun J H1 => ∀ D, H1 D = none → tBlk D g tt te J (sB k caps σ) H1 Q
theorem sB_get {k : Nat} {caps : List Nat} {σ : L2.St} {i : Nat} {v : V} (h : (sB k caps σ)[i]? = some (some v)) : k ≤ i ∧ ∃ j, caps[i - k]? = some j ∧ σ[j]? = some (some v) := by
  unfold sB at h
  by_cases c : i < k
  · rw [List.getElem?_append_left (by simpa using c), List.getElem?_replicate, if_pos c] at h
    cases h
  · rw [List.getElem?_append_right (by simpa using Nat.le_of_not_lt c), List.length_replicate, List.getElem?_map] at h
    refine ⟨Nat.le_of_not_lt c, ?_⟩
    cases e : caps[i - k]? with
    | none => rw [e] at h; cases h
    | some j =>
      rw [e] at h
      refine ⟨j, rfl, ?_⟩
      have h' : (σ[j]?).getD none = some v := Option.some.inj h
      cases z : σ[j]? with
      | none => rw [z] at h'; cases h'
      | some o =>
        rw [z] at h'
        exact congrArg some h'
theorem comp_block {elt target iter : Expr} {ifs : List Expr} {scope : Scope} {pos : Pos} {tn fr : List Str} {caps : List Nat} {g : TG} {tt : TT} {te : TE} {pins : List (Addr × Obj)} {σ : L2.St} {H2 : Hp} {s2 : Shared} {J : It} {fp : List Addr} {it : Addr}
    {tnn : Nat → Heap → Prop} {Q : VK} {RR : Value → Addr → Result → Shared → Prop} {E : Value → Shared → Prop} (hc : X.calm = true) (B : BlkS X scope fr caps)
    (hg : ∀ C s H fp, PG (cxB X (tn ++ fr) scope (capCl X.env fr) C s H fp) target g) (ht : ∀ C s H fp, PF (cxB X (tn ++ fr) scope (capCl X.env fr) C s H fp) ifs tt) (he : ∀ C s H fp, PE (cxB X (tn ++ fr) scope (capCl X.env fr) C s H fp) elt te)
    (I2 : Inv X pins σ H2 s2) (T : Turn X.prog X.w X.K target J fp it tnn) (st2 : tnn 0 s2.heap) (f2 : ∀ b ∈ fp, FpOk X pins H2 b) (q : ∀ D, H2 D = none → tBlk D g tt te J (sB tn.length caps σ) H2 Q)
    (fin : ∀ D C H' s' m, Inv X pins σ H' s' → s'.heap.Ns C m → FpOk X pins H' C → Q (.ref D) H' → RR (.ref D) C (.ok .next) s') :
    wpAny (model X.prog X.w) X.A (newList []) (fun acc s₃ => wpAny (model X.prog X.w) X.A (newFunctionEnv scope X.env.globals (capCl X.env fr) [] X.env.qual none .none (some X.env)) (fun cenv s₄ =>
      codeAny (model X.prog X.w) X.A (.compStart (.ListComp elt [⟨target, iter, ifs, 0⟩] scope pos) 0 (.ref it) acc { cenv with scope := relabel scope X.env }) (RR acc cenv.locals) s₄) E s₃) E s2 := by
  refine wpAny_newObj_type (wpAny_newFunctionEnv B.cell (by intro y hy; simp at hy) (fun h₁ hns₁ hsb₁ => ?_) B.kind)
  have I3 : Inv X pins σ (upd H2 s2.heap.objs.size (.lst [])) { s2 with heap := s2.heap.push { cls := .type "list", data := .seq ([] : List Value).toArray } } := I2.lnew (t' := s2.toks) (its := []) .nil (Nat.zero_le _)
  obtain ⟨W, ⟨m0, w0⟩, turn⟩ := q s2.heap.objs.size (I2.hok.fresh (Nat.le_refl _))
  generalize hH3 : upd H2 s2.heap.objs.size (.lst []) = H3 at I3 w0
  have f3 : ∀ b ∈ fp, FpOk X pins H3 b := fun b hb => by
    obtain ⟨a0, a1⟩ := f2 b hb
    refine ⟨?_, a1⟩
    obtain ⟨o, e, _⟩ := T.obj _ _ st2 b hb
    rw [← hH3, upd_ne (Nat.ne_of_lt (Heap.lt_size e))]
    exact a0
  generalize hD : s2.heap.objs.size = D at *
  generalize hs3 : ({ s2 with heap := s2.heap.push { cls := .type "list", data := .seq ([] : List Value).toArray } } : Shared) = s3 at *
  have e3 : s3.heap = s2.heap.push { cls := .type "list", data := .seq ([] : List Value).toArray } := by rw [← hs3]
  have st3 : tnn 0 s3.heap := T.keep _ _ _ st2 fun b _ o e => by rw [e3]; exact Heap.get?_push_of_some _ e
  have kept : ∀ b o, s3.heap.get? b = some o → h₁.get? b = some o := fun b o e => (hsb₁.2 b (Nat.ne_of_lt (Heap.lt_size e))).trans (Heap.get?_push_of_some _ e)
  generalize hC : s3.heap.objs.size = C at *
  have hCs : s3.heap.objs.size ≤ C := Nat.le_of_eq hC
  have I4 : Inv X pins σ H3 { s3 with heap := h₁, toks := s3.toks + ([] : List (Str × Value)).length } := I3.kept kept
  have fpC : ∀ b ∈ fp, b ≠ C := fun b hb z => by
    obtain ⟨o, e, _⟩ := T.obj _ _ st3 b hb
    exact absurd z (Nat.ne_of_lt (Nat.lt_of_lt_of_le (Heap.lt_size e) hCs))
  have nst : ∀ b ∈ fp, b ∉ frs X.stack := fun b hb z => (List.mem_cons.mp (I3.stkSub b z)).elim (f3 b hb).2.1 (f3 b hb).2.2.1
  have okB : (cxB X (tn ++ fr) scope (capCl X.env fr) C s3 H3 fp).Ok := by
    refine ⟨I3.ok.mod, B.kind, I3.ok.glob, I3.ok.blt, hCs, fun x y c e1 e2 => I3.ok.inj x y c (capCl_get e1) (capCl_get e2), fun x hx => ?_, fun x c z => (nomatch z), I3.ok.hd, I3.ok.frames, .inl rfl,
      fun b hb => ⟨fpC b hb, fun x c e => (f3 b hb).2.2.2.2.1 x c (capCl_get e)⟩, I3.bs, Nat.le_trans I3.ok.bsz I3.sz, fun b o e hb => ?_, nst, I3.stack, I3.stkFree⟩
    · have hm : ∃ k, (x, k) ∈ scope.names ∧ k ≠ .local ∧ (k = .cell ∨ k = .free) := by
        have : ∃ k', (relabel scope X.env).names.lookup x = some k' ∧ (k' = .cell ∨ k' = .free) := by
          rcases hx with z | z
          · exact ⟨_, z, .inl rfl⟩
          · exact ⟨_, z, .inr rfl⟩
        obtain ⟨k', e', h'⟩ := this
        obtain ⟨⟨n, k⟩, hn, en⟩ := List.mem_map.mp (lookup_mem e')
        dsimp only at en
        by_cases cc : (k == NameKind.free && X.env.scope.kind == .function && X.env.kindOf n == some .cell) = true
        · rw [if_pos cc] at en
          cases en
          have kf : k = .free := by
            rw [Bool.and_eq_true, Bool.and_eq_true] at cc
            simpa using cc.1.1
          exact ⟨k, hn, (by intro z; rw [kf] at z; cases z), .inr kf⟩
        · rw [if_neg cc] at en
          cases en
          exact ⟨k', hn, fun z' => by rcases h' with y | y <;> (rw [y] at z'; cases z'), h'⟩
      obtain ⟨k, hk, _, h2⟩ := hm
      rcases h2 with z | z
      · exact absurd z (B.cell _ hk)
      · have hf := B.free _ hk z
        obtain ⟨c, ec⟩ := I3.ok.has x (B.out.at hf)
        exact ⟨c, capCl_has ec hf⟩
    · obtain ⟨_, _, _, h1, _⟩ := f3 b hb
      rcases h1 with z | z
      · exact I3.ok.noex b o e z
      · exact Nat.lt_irrefl _ (Nat.lt_of_lt_of_le (Nat.lt_of_lt_of_le (Heap.lt_size e) I3.ok.bsz) z)
  have IB : Inv (cxB X (tn ++ fr) scope (capCl X.env fr) C s3 H3 fp) [] (sB tn.length caps σ) H3 { s3 with heap := h₁, toks := s3.toks + ([] : List (Str × Value)).length } := by
    refine ⟨okB, rfl, I3.bare, Un.kept kept, ⟨_, hns₁, fun i x v e1 e2 _ => ?_⟩, fun x c e => I4.cell x c (capCl_get e), ?_, fun x c e => I3.freeC x c (capCl_get e), fun p hp => (nomatch hp), I3.hok.kept kept, ?_⟩
    · obtain ⟨hk, j, ej, es⟩ := sB_get e2
      have e1' : fr[i - tn.length]? = some x := by
        have z : (tn ++ fr)[i]? = some x := e1
        rw [List.getElem?_append_right hk] at z
        exact z
      have hx : x ∈ fr := List.mem_of_getElem? e1'
      have eN : X.N[j]? = some x := by
        have z := congrArg (fun l : List (Option Str) => l[i - tn.length]?) B.caps
        simp only [List.getElem?_map, ej, e1', Option.map_some] at z
        exact Option.some.inj z
      have ko := B.out.at hx
      obtain ⟨m, hn, hl⟩ := I4.loc
      obtain ⟨u, r, lk⟩ := hl j x v eN es (by rcases ko with z | z; exact .inr (.inl z); exact .inr (.inr z))
      refine ⟨u, r, ?_⟩
      rcases lk with ⟨k1, _⟩ | ⟨_, c, ec, ic⟩
      · rcases ko with z | z <;> (rw [z] at k1; cases k1)
      · exact .inr ⟨B.inn.at hx, c, capCl_has ec hx, ic⟩
    · exact I3.hok.fresh hCs
    · have := congrArg List.length B.caps
      simp only [List.length_map] at this
      show (sB tn.length caps σ).length = (tn ++ fr).length
      unfold sB
      simp [this]
  have statB : ∀ {H' : Hp}, (∀ b ∈ fp, H' b = none) → ∀ b ∈ fp, FpOk (cxB X (tn ++ fr) scope (capCl X.env fr) C s3 H3 fp) [] H' b := fun hn b hb =>
    ⟨hn b hb, fpC b hb, nst b hb, .inl hb, fun x c e => (f3 b hb).2.2.2.2.1 x c (capCl_get e), fun p hp => (nomatch hp)⟩
  have st4 : tnn 0 h₁ := T.keep _ _ _ st3 fun b _ o e => kept b o e
  have loop : codeAny (model X.prog X.w) X.A (.compLoop (.ListComp elt [⟨target, iter, ifs, 0⟩] scope pos) 0 (.ref it) (.ref D) (compEnvC scope (capCl X.env fr) C X.env)) (RR (.ref D) C) { s3 with heap := h₁, toks := s3.toks + ([] : List (Str × Value)).length } := by
    refine compLoop_any (fun n s' => ∃ i σ' ys H', Inv (cxB X (tn ++ fr) scope (capCl X.env fr) C s3 H3 fp) [] σ' H' s' ∧ tnn i s'.heap ∧ (∀ b ∈ fp, H' b = none) ∧ W i n σ' ys H') ?_ m0 ⟨0, _, [], H3, IB, st4, fun b hb => (f3 b hb).1, w0⟩
    rintro n s5 ⟨i, σ5, ys, H5, I5, st5, fr5, w5⟩
    rcases turn i n σ5 ys H5 w5 with ⟨stop, qn⟩ | ⟨go, step⟩
    · refine wpAny_mono (T.done (cxB X (tn ++ fr) scope (capCl X.env fr) C s3 H3 fp) rfl rfl rfl hc i [] s5 σ5 H5 (fun _ _ => False) I5 (statB fr5) st5 stop) (fun r s6 ⟨hr, I6⟩ => ?_) fun _ _ z => z
      subst hr
      obtain ⟨m, hn, _⟩ := I6.loc
      have J6 : Inv X pins σ H5 s6 := I3.call' (ch := fp) I6.os I6.base I6.hok I6.bare fun b hb => ⟨(f3 b hb).2.2.2.1, (f3 b hb).2.1, (f3 b hb).2.2.2.2.1, (f3 b hb).2.2.2.2.2⟩
      exact fin D C H5 s6 m J6 hn (I3.fpOk hCs I6.free) qn
    · refine wpAny_mono (T.item (cxB X (tn ++ fr) scope (capCl X.env fr) C s3 H3 fp) rfl rfl rfl hc i [] s5 σ5 H5 (fun _ _ => False) I5 (statB fr5) st5 go) (fun r s6 ⟨u, hr, h6⟩ => ?_) fun _ _ z => z
      subst hr
      refine wpAny_mono h6 (fun _ s7 ⟨x, H7, I7, r7, y7, st7, fr7⟩ => ?_) fun _ _ z => z
      have I7' := I7.pinned (statB fr7) (T.obj _ _ st7)
      have held : ∀ {σ' : L2.St} {H' : Hp} {s' : Shared}, Inv (cxB X (tn ++ fr) scope (capCl X.env fr) C s3 H3 fp) ([] ++ pinsAt fp s7.heap) σ' H' s' → tnn (i + 1) s'.heap ∧ ∀ b ∈ fp, H' b = none := fun {σ' H' s'} I' => by
        refine ⟨T.keep _ _ _ st7 fun b hb o e => (I'.pin (b, o) (List.mem_append_right _ (List.mem_append_right _ (mem_pinsAt hb e)))).1, fun b hb => ?_⟩
        obtain ⟨o, e, d⟩ := T.obj _ _ st7 b hb
        exact (I'.pin (b, o) (List.mem_append_right _ (List.mem_append_right _ (mem_pinsAt hb e)))).2.1
      refine wpAny_mono (hg C s3 H3 fp _ s7 σ5 H7 x u _ I7' r7 (step x H7 y7)) (fun _ s8 ⟨σ8, H8, I8, q8⟩ => ?_) fun _ _ z => z
      refine wpAny_mono (ht C s3 H3 fp _ s8 σ8 H8 _ I8 q8) (fun ok s9 ⟨H9, I9, q9⟩ => ?_) fun _ _ z => z
      cases ok with
      | false =>
        rw [if_neg Bool.false_ne_true] at q9
        obtain ⟨m', hm, w9⟩ := q9
        rw [if_neg Bool.false_ne_true]
        obtain ⟨a, b⟩ := held I9
        exact ⟨m', hm, i + 1, σ8, ys, H9, I9.unpinned, a, b, w9⟩
      | true =>
        rw [if_pos rfl] at q9
        rw [if_pos rfl]
        refine wpAny_mono (he C s3 H3 fp _ s9 σ8 H9 _ I9 q9) (fun v s10 ⟨y, H10, I10, r10, hDD, hl, m', hm, w10⟩ => ?_) fun _ _ z => z
        refine wpAny_mono (mt_append (X := cxB X (tn ++ fr) scope (capCl X.env fr) C s3 H3 fp) _ s10 σ8 H10 (.ref D) [y] (.ref D) [v] (fun _ H' => W (i + 1) m' σ8 (ys ++ [y]) H') I10 rfl (.cons r10 .nil) ⟨D, ys, y, rfl, rfl, hDD, hl, w10⟩) (fun _ s11 ⟨z, H11, I11, _, q11⟩ => ?_) fun _ _ z => z
        obtain ⟨a, b⟩ := held I11
        exact ⟨m', hm, i + 1, σ8, ys ++ [y], H11, I11.unpinned, a, b, q11⟩
  exact codeAny_compStart_list loop (T.self X.A 0 _ _ _ st4 loop)
theorem pe_comp {elt target iter : Expr} {ifs : List Expr} {scope : Scope} {pos : Pos} {tn fr : List Str} {caps : List Nat} {wi : TI} {g : TG} {tt : TT} {te : TE} (hc : X.calm = true) (B : BlkS X scope fr caps) (hi : PI X target iter wi)
    (hg : ∀ C s H fp, PG (cxB X (tn ++ fr) scope (capCl X.env fr) C s H fp) target g) (ht : ∀ C s H fp, PF (cxB X (tn ++ fr) scope (capCl X.env fr) C s H fp) ifs tt) (he : ∀ C s H fp, PE (cxB X (tn ++ fr) scope (capCl X.env fr) C s H fp) elt te)
    (hs : ∀ x, foldedSetIterable iter X.env x = pure x := by intro _; rfl) : PE X (.ListComp elt [⟨target, iter, ifs, 0⟩] scope pos) (tComp tn.length caps wi g tt te) := by
  intro pins s σ H Q I h
  rw [eval_ListComp]
  refine wpAny_comprehension_free (use := none) rfl hs B.clos B.kind B.names (thn (hi pins s σ H _ I h) fun v s1 h1 => thn h1 fun itv s2 h2 => ?_)
  obtain ⟨it, fp, tnn, J, H2, rfl, I2, T, st2, f2, q⟩ := h2
  refine comp_block (Q := Q) (RR := fun acc C => compPost (model X.prog X.w) X.A X.xe none (EP X pins σ Q) acc C) hc B hg ht he I2 T st2 f2 q ?_
  intro D C H' s' m I' hn fc qq
  obtain ⟨g0, g1, g2, g3, g4, g5⟩ := fc
  exact ⟨m, hn, fun h' hs' => ⟨.ref D, H', I'.turned (t' := s'.toks) (fun b o hb e => (hs'.2 b hb).trans e) g0 g1 g3 g4 g5, rfl, qq⟩⟩
theorem ps_setC {i : Nat} {y : Str} {py : Pos} {spos : Pos} {elt target iter : Expr} {ifs : List Expr} {scope : Scope} {pos : Pos} {tn fr : List Str} {caps : List Nat} {wi : TI} {g : TG} {tt : TT} {te : TE} (hN : X.N.Nodup) (hiN : X.N[i]? = some y) (hx : Loc X.env.scope y)
    (hc : X.calm = true) (B : BlkS X scope fr caps) (hi : PI X target iter wi)
    (hg : ∀ C s H fp, PG (cxB X (tn ++ fr) scope (capCl X.env fr) C s H fp) target g) (ht : ∀ C s H fp, PF (cxB X (tn ++ fr) scope (capCl X.env fr) C s H fp) ifs tt) (he : ∀ C s H fp, PE (cxB X (tn ++ fr) scope (capCl X.env fr) C s H fp) elt te)
    (hsw : swapsWith (.ListComp elt [⟨target, iter, ifs, 0⟩] scope pos) (some (.Name y py)) spos.line X.env = pure true := by rfl)
    (hs : ∀ x, foldedSetIterable iter X.env x = pure x := by intro _; rfl) (hf : X.fn y = true ∨ X.env.scope.names.lookup y = some .local := by first | exact .inl rfl | exact .inr rfl | assumption) :
    PS X (.Assign [.Name y py] (.ListComp elt [⟨target, iter, ifs, 0⟩] scope pos) spos) (tAsg (tComp tn.length caps wi g tt te) (gName i)) := by
  intro pins s σ H D I h
  rw [exec_Assign_Name_used _ _ _ _ hsw]
  refine wpAny_bind (wpAny_standAt (wpAny_bind ?_))
  show wpAny _ X.A (do let _ ← comprehension (.ListComp elt [⟨target, iter, ifs, 0⟩] scope pos) scope X.env _ (newList []) false (eval iter X.env) (some (assign (.Name y py) X.env))) _ _ s
  refine wpAny_bind (wpAny_mono (wpAny_comprehension_free (use := some (assign (.Name y py) X.env)) (Q := fun _ s' => SP X pins D .next s') rfl hs B.clos B.kind B.names
    (thn (hi pins s σ H _ I h) fun v s1 h1 => thn h1 fun itv s2 h2 => ?_)) (fun _ s' hq => wpAny_pure (wpAny_pure hq)) fun _ _ e => e)
  obtain ⟨it, fp, tnn, J, H2, rfl, I2, T, st2, f2, q⟩ := h2
  refine comp_block (Q := fun v H1 => gName i v σ H1 D.nx) (RR := fun acc C => compPost (model X.prog X.w) X.A X.xe (some (assign (.Name y py) X.env)) (fun _ s' => SP X pins D .next s') acc C) hc B hg ht he I2 T st2 f2 q ?_
  intro DD C H' s' m I' hn fc qq
  obtain ⟨g0, g1, g2, g3, g4, g5⟩ := fc
  show wpAny _ X.A (assign (.Name y py) X.env (.ref DD)) _ _ _
  refine wpAny_assign_Name (store_ok2 I' hN hiN hx (v := .ref DD) (u := .ref DD) rfl (fun s'' I'' ⟨a, sb, ha⟩ => ?_) hf)
  have hCa : C ≠ a := by
    rcases ha with z | z
    · rw [z]
      exact g1
    · exact fun e => g4 y a z e.symm
  exact ⟨m, hn.sameBut sb hCa, fun h' hs' => ⟨_, H', I''.turned (t' := s''.toks) (fun b o hb e => (hs'.2 b hb).trans e) g0 g1 g3 g4 g5, qq⟩⟩
end
section
variable {D : Addr} {te : TE} {cap : L2.St} {H1 : Hp} {Q : VK}
theorem blk_of {J : It} (n : Nat) (xs : Nat → V) (Pv : Nat → List V → Hp → Prop) (h0 : Pv 0 [] (upd H1 D (.lst [])))
    (go : ∀ i ys H, i < n → Pv i ys H → J.go i H ∧ ∀ x H', J.yld i H x H' → H' = H ∧ x = xs i) (stop : ∀ ys H, Pv n ys H → J.stop n H)
    (hs : ∀ i ys H (R : VK), i < n → Pv i ys H → H D = some (.lst ys) → (∀ v H6, H6 D = some (.lst ys) → ys.length < sizeLine → Pv (i + 1) (ys ++ [v]) (upd H6 D (.lst (ys ++ [v]))) → R v H6) → te (some (xs i) :: cap) H R)
    (hd : ∀ ys H, Pv n ys H → H D = some (.lst ys) → Q (.ref D) H) : tBlk D (gName 0) tYes te J (none :: cap) H1 Q := by
  refine ⟨fun i m σ ys H => m = n - i ∧ i ≤ n ∧ (∃ o, σ = o :: cap) ∧ Pv i ys H ∧ H D = some (.lst ys), ⟨n, by simp, Nat.zero_le _, ⟨none, rfl⟩, h0, upd_same⟩, ?_⟩
  rintro i m σ ys H ⟨rfl, hi, ⟨o, rfl⟩, p, hD⟩
  by_cases hlt : i < n
  · obtain ⟨g1, g2⟩ := go i ys H hlt p
    refine .inr ⟨g1, fun x H' y => ?_⟩
    obtain ⟨e1, e2⟩ := g2 x H' y
    subst e1 e2
    unfold gName tYes
    dsimp only
    rw [if_pos rfl]
    exact hs i ys _ _ hlt p hD fun v H6 a b c => ⟨a, b, n - (i + 1), by omega, rfl, by omega, ⟨_, rfl⟩, c, upd_same⟩
  · have e : i = n := by omega
    subst e
    exact .inl ⟨stop ys H p, hd ys H p hD⟩
end
def Its (x : Str) : It := ⟨fun i _ => i < x.cps.size, fun i H v H' => H' = H ∧ ∃ c, x.cps[i]? = some c ∧ v = .str ⟨#[c]⟩, fun i _ => i = x.cps.size⟩
section
variable {X : Cx} {tg : Expr}
def iStr (tl : TE) : TI := fun σ H R => tl σ H fun x H1 => ∃ z, x = .str z ∧ R (Its z) H1
end
end Ty

set_option maxHeartbeats 4000000
namespace Ty
open PySem PySem.Spec PyProof.Rows L2
section
variable {prog : Program} {w : World} {A : Around} {E : Value → Shared → Prop}
end
def gLst (K : PySem.W.Frag) (n : Nat) (t : TGs) : TG := fun v σ H Q => ∃ a xs, v = .ref a ∧ SqL K H a xs ∧ xs.length = n ∧ t xs σ H Q
structure Mk0 (K : PySem.W.Frag) (C : Addr) : Prop where
  makes : PySem.W.makesIn K C = true
  init : PySem.W.findIn K (.ref C) "__init__" = some (some (.builtin "object.__init__"))
  kp : PySem.W.keepIn K (.ref C) = true
def tMk0 (C : Addr) : TE := fun _ H Q => ∀ x dx, H x = none → H dx = none → dx ≠ x → Q (.ref x) (upd (upd H dx (.own x)) x (.ins C dx []))
section
variable {X : Cx}
theorem run_mk0 {pins : List (Addr × Obj)} {σ : L2.St} {H : Hp} {s : Shared} {Q : VK} {C : Addr} (M : Mk0 X.K C) (I : Inv X pins σ H s) (h : tMk0 C σ H Q) : wpAny (model X.prog X.w) X.A (call (.ref C) []) (EP X pins σ Q) X.xe s := by
  have hq := h (s.heap.objs.size + 1) s.heap.objs.size (I.hok.fresh (Nat.le_succ _)) (I.hok.fresh (Nat.le_refl _)) (Nat.ne_of_lt (Nat.lt_succ_self _))
  have I2 := Inv.made (C := C) I
  have Y := PySem.W.makes_of (M := model X.prog X.w) I.kIn M.makes
  refine wpAny_call (make_map0 I.kIn M.makes M.init (fun self => PySem.W.Looks.of_pure (PySem.W.oi_bind self)) ?_)
  have ho : ((s.heap.push PySem.W.emptyDict).push (PySem.W.instObj C s.heap.objs.size)).get? (s.heap.objs.size + 1) = some (PySem.W.instObj C s.heap.objs.size) := by
    have := Heap.get?_push_size (s.heap.push PySem.W.emptyDict) (o := PySem.W.instObj C s.heap.objs.size) rfl
    rwa [Heap.size_push] at this
  have t1 : PySem.W.Looks (model X.prog X.w) ((s.heap.push PySem.W.emptyDict).push (PySem.W.instObj C s.heap.objs.size)) (typeOf (.ref (s.heap.objs.size + 1))) (.ref C) := (PySem.W.Looks.ld ho).andThen .now
  have t2 : PySem.W.Looks (model X.prog X.w) ((s.heap.push PySem.W.emptyDict).push (PySem.W.instObj C s.heap.objs.size)) (isInstance (.ref (s.heap.objs.size + 1)) (.type "object")) true :=
    t1.andThen (Y.top.keeps fun b o e => Heap.get?_push_of_some _ (Heap.get?_push_of_some _ e))
  refine codeAny_call_builtin PySem.W.oi_plain PySem.W.entry_oi (@PySem.W.check_slot (model X.prog X.w) _ _ _ "object.__init__" "object" "__init__" (.ref (s.heap.objs.size + 1)) [] [] _ PySem.W.oi_kind PySem.W.oi_split t2 (PySem.W.oi_args (.ref (s.heap.objs.size + 1))) ?_)
  rw [PySem.W.oi_run]
  exact wpAny_pure (And.intro rfl ⟨V.ref (s.heap.objs.size + 1), _, I2, rfl, hq⟩)
theorem pe_mk0 {x : Str} {p pos : Pos} {C : Addr} (M : Mk0 X.K C) (hg : Gl X x) (hm : X.mg x = some (.ref C)) (hdb : (x == ("__debug__" : Str)) = false := by decide) : PE X (.Call (.Name x p) [] [] pos) (tMk0 C) := by
  intro pins s σ H Q I h
  refine wpAny_Call_Name_kw (ld_glob I hg hm ?_ hdb)
  exact PySem.W.callWith_K0 I.kIn M.kp (run_mk0 M I h)
end
structure MtdOk (P : Program) (w : World) (K : PySem.W.Frag) (mg : Str → Option Value) (base : Heap) (CX : CXT) (k : Nat) (C : Addr) (m : Str) (ps : List Str) (sp : Sp) : Prop where
  ex : ∃ (f : Addr) (fd : FuncData), Cls K C ∧ Meth K C m f ∧ FnOk P w K mg base CX k f fd ps sp ∧ Binds K fd ps []
theorem MtdOk.mono {P : Program} {w : World} {K : PySem.W.Frag} {mg : Str → Option Value} {base : Heap} {CX : CXT} {j k : Nat} {C : Addr} {m : Str} {ps : List Str} {sp : Sp} (M : MtdOk P w K mg base CX j C m ps sp) (h : j ≤ k) : MtdOk P w K mg base CX k C m ps sp := by
  obtain ⟨f, fd, a, b, c, d⟩ := M.ex
  exact ⟨f, fd, a, b, c.mono h, d⟩
section
variable {X : Cx} {CX : CXT} {k : Nat} {E : XK} {m : Str} {pos apos : Pos} {e o : Expr} {es : List Expr} {ta : TE} {t : TA}
def tMtd (P : Program) (w : World) (K : PySem.W.Frag) (mg : Str → Option Value) (base : Heap) (CX : CXT) (k : Nat) (m : Str) (E : XK) (ta : TE) (t : TA) : TE := fun σ H Q => ta σ H fun x H1 => ∃ a C dx fs ps sp, x = .ref a ∧ H1 a = some (.ins C dx fs) ∧ fs.lookup m = none ∧
  MtdOk P w K mg base CX k C m ps sp ∧ t σ H1 fun vs H2 => sp (x :: vs) H2 Q E
theorem pe_mtd0 {pl : Sem Bool} (he : PE X o ta) (hr : Room k X.A) (hx : Passes CX X E)
    (ht : eval (.Call (.Attribute o m apos) [] [] pos) X.env = (do
      let ov ← eval o X.env
      standAt apos.atName
      let (f, first) ← holding [ov] (getMethod ov m pl)
      callWith pos f first (backTo pos (starEach [] X.env)) (backToKw pos (keywordEach [] X.env))) := by rfl) :
    PE X (.Call (.Attribute o m apos) [] [] pos) (tMtd X.prog X.w X.K X.mg X.base CX k m E ta tNil) := by
  intro pins s σ H Q I h
  refine PySem.W.methodCall_KW (pl := pl) (thn (he pins s σ H _ I h) fun u s1 ⟨x, H1, I1, rx, a, C, dx, fs, ps, sp, ex, ea, l, M, q⟩ => ?_) ht
  subst ex
  obtain rfl : u = Value.ref a := rx
  obtain ⟨f, fd, c, hm, F, hb⟩ := M.ex
  refine getmeth_ok I1 ea c hm l ?_
  exact PySem.W.callWith_K0 (first := [.ref a]) I1.kIn hm.kp (run_fn (us := [.ref a]) (vs := [.ref a]) (dvs := []) F hr hb .nil hx I1 (.cons rfl .nil) q)
theorem pe_mtd {pl : Sem Bool} (he : PE X o ta) (hr : Room k X.A) (hx : Passes CX X E) (ha : PA X (e :: es) t)
    (hst : starEach (e :: es) X.env = (false, eval e X.env) :: starEach es X.env := by rfl) (hpl : (backTo pos (starEach es X.env)).any (·.1) = false := by rfl)
    (ht : eval (.Call (.Attribute o m apos) (e :: es) [] pos) X.env = (do
      let ov ← eval o X.env
      standAt apos.atName
      let (f, first) ← holding [ov] (getMethod ov m pl)
      callWith pos f first (backTo pos (starEach (e :: es) X.env)) (backToKw pos (keywordEach [] X.env))) := by rfl) :
    PE X (.Call (.Attribute o m apos) (e :: es) [] pos) (tMtd X.prog X.w X.K X.mg X.base CX k m E ta t) := by
  intro pins s σ H Q I h
  refine PySem.W.methodCall_KW (pl := pl) (thn (he pins s σ H _ I h) fun u s1 ⟨x, H1, I1, rx, a, C, dx, fs, ps, sp, ex, ea, l, M, q⟩ => ?_) ht
  subst ex
  obtain rfl : u = Value.ref a := rx
  obtain ⟨f, fd, c, hm, F, hb⟩ := M.ex
  refine getmeth_ok I1 ea c hm l ?_
  refine PySem.W.callWith_K (first := [.ref a]) (h₀ := X.base) I.ok.mod.kin hm.kp (thn (ha pos pins s1 σ H1 _ I1 q) fun us s2 ⟨vs, H2, I2, r, q2⟩ => ⟨I2.kIn, ?_⟩) hst hpl
  refine run_fn (us := .ref a :: us) (vs := .ref a :: vs) (dvs := []) F hr hb .nil hx I2 (.cons rfl r) ?_
  rw [List.append_nil]
  exact q2
end
theorem passB {X : Cx} {CX : CXT} (h : Mute CX) (e : X.xe = fun _ _ => False) : Passes CX X E0 := fun _ _ _ _ _ _ _ q => (h _ _ _ _ _ q).elim
end Ty

set_option maxHeartbeats 4000000
namespace Ty
open PySem PySem.Spec PyProof.Rows L2
section
variable {σ : L2.St} {H : Hp} {Q : VK} {QB : Bool → Hp → Prop} {QA : List V → Hp → Prop} {D : Ends} {t u : TS} {ta tb te : TE} {tc td : TT} {t1 : TA}
end
end Ty

set_option maxHeartbeats 4000000
namespace Ty
open PySem PySem.Spec PyProof.Rows L2
section
variable {X : Cx}
def tFmt (te : TE) : TE := fun σ H Q => te σ H fun x H1 => ∃ z, x = .str z ∧ z.length ≤ sizeLine ∧ Q (.str z) H1
abbrev TJ := L2.St → Hp → (List Str → Hp → Prop) → Prop
def PJ (X : Cx) (es : List Expr) (t : TJ) : Prop :=
  ∀ (pins : List (Addr × Obj)) (s : Shared) (σ : L2.St) (H : Hp) (acc : Str) (Q : List Str → Hp → Prop), Inv X pins σ H s → acc.length + 5000 * es.length ≤ sizeLine → t σ H Q →
    Joins (model X.prog X.w) X.A X.xe (evalEach es X.env) acc (fun out s1 => ∃ ys H1, Inv X pins σ H1 s1 ∧ out = ys.foldl (· ++ ·) acc ∧ out.length ≤ sizeLine ∧ Q ys H1) s
def jNil : TJ := fun _ H Q => Q [] H
def jCons (te : TE) (t : TJ) : TJ := fun σ H Q => te σ H fun x H1 => ∃ z, x = .str z ∧ z.length ≤ 5000 ∧ t σ H1 fun ys H2 => Q (z :: ys) H2
def tJoin (t : TJ) : TE := fun σ H Q => t σ H fun ys H1 => Q (.str (ys.foldl (· ++ ·) Str.empty)) H1
def rStarts : V → List V → Hp → VK → Prop := fun x vs H Q => ∃ z y, x = .str z ∧ vs = [.str y] ∧ Q (.bl (Txt.startswith z y)) H
def rFind : V → List V → Hp → VK → Prop := fun x vs H Q => ∃ z y, x = .str z ∧ vs = [.str y] ∧ Q (.int (Txt.find z y)) H
def rPartition : V → List V → Hp → VK → Prop := fun x vs H Q => ∃ z y, x = .str z ∧ vs = [.str y] ∧ (y.length == 0) = false ∧ z.length ≤ sizeLine ∧
  ∀ p, H p = none → Q (.ref p) (upd H p (.tup [.str (Txt.partition z y).1, .str (Txt.partition z y).2.1, .str (Txt.partition z y).2.2]))
def rSlS : V → Option Int → Option Int → Hp → VK → Prop := fun x lo hi H Q => ∃ z, x = .str z ∧ z.length ≤ sizeLine ∧ Q (.str (Txt.slice z lo hi)) H
theorem sl_str : SlR X rSlS := by
  intro pins s σ H x v vl vu lo hi sl Q I rx hs pl pu h
  obtain ⟨z, rfl, hz, q⟩ := h
  obtain ⟨t, rfl⟩ := rx
  refine ⟨"str", _, F.slot_str_getitem.lookup, typeIs_str _ _ _, ?_⟩
  cases pl <;> cases pu
  · exact wpAny_getItem_str_slice (l := none) (u := none) (st := none) hs rfl (post_val_or_str ⟨Nat.le_trans (Txt.slice_le z _ _) hz, fun t' k => ⟨.str _, H, I.tok k, ⟨t', rfl⟩, q⟩⟩)
  · rename_i j uj
    exact wpAny_getItem_str_slice (l := none) (u := some (j, uj)) (st := none) hs rfl (post_val_or_str ⟨Nat.le_trans (Txt.slice_le z _ _) hz, fun t' k => ⟨.str _, H, I.tok k, ⟨t', rfl⟩, q⟩⟩)
  · rename_i i ui
    exact wpAny_getItem_str_slice (l := some (i, ui)) (u := none) (st := none) hs rfl (post_val_or_str ⟨Nat.le_trans (Txt.slice_le z _ _) hz, fun t' k => ⟨.str _, H, I.tok k, ⟨t', rfl⟩, q⟩⟩)
  · rename_i i ui j uj
    exact wpAny_getItem_str_slice (l := some (i, ui)) (u := some (j, uj)) (st := none) hs rfl (post_val_or_str ⟨Nat.le_trans (Txt.slice_le z _ _) hz, fun t' k => ⟨.str _, H, I.tok k, ⟨t', rfl⟩, q⟩⟩)
def rIntText : List V → Hp → VK → Prop := fun xs H Q => ∃ z n, xs = [.str z] ∧ PySem.intText? z = some n ∧ z.length ≤ 640 ∧ Q (.int n) H
def rMulS : R2 := fun x y H Q => ∃ z n, x = .str z ∧ y = .int n ∧ MulOk z n ∧ Q (.str (Txt.mul z n)) H
theorem op_mulS : OpR X (binaryOp .Mult) rMulS := by
  intro pins s σ H x y v u Q I rx ry h
  obtain ⟨z, n, rfl, rfl, ok, q⟩ := h
  obtain ⟨t, rfl⟩ := rx
  obtain ⟨t', rfl⟩ := ry
  exact SB.mul ok fun t' k => ⟨.str _, H, I.tok k, ⟨t', rfl⟩, q⟩
theorem all_range (bs : List Bool) : (List.range bs.length).all (fun i => (bs[i]?).getD true) = bs.all id := by
  induction bs with
  | nil => rfl
  | cons b r ih =>
    rw [List.length_cons, List.range_succ_eq_map, List.all_cons, List.all_map, List.all_cons, ← ih]
    rfl
def rAll (K : PySem.W.Frag) : List V → Hp → VK → Prop := fun xs H Q => ∃ (p : Addr) (bs : List Bool), xs = [.ref p] ∧ SqL K H p (bs.map V.bl) ∧ Q (.bl (bs.all id)) H
theorem call_allB (hc : X.calm = true) : CallR X (.builtin "all") (rAll X.K) := by
  intro pins s σ H xs us Q I r h
  obtain ⟨p, bs, rfl, hq, q⟩ := h
  obtain ⟨u, rfl, r1⟩ := vals1 r
  cases r1
  obtain ⟨its, rv, pl, hz⟩ := I.list hq
  refine call_all_walk (wpAny_pyIter_list pl.isList ?_)
  have hne : p ≠ s.heap.objs.size := by obtain ⟨o, ho, _⟩ := pl.isList; exact Nat.ne_of_lt (Heap.lt_size ho)
  have I1 : Inv X pins σ H { s with heap := s.heap.push { cls := .type "list_iterator", data := .fields #[.ref p, .int 0 0] } } := I.kept (t' := s.toks) fun b o e => Heap.get?_push_of_some _ e
  obtain ⟨f0, f1, f2, f3, f4, f5⟩ := I.fpOk (H' := H) (Nat.le_refl s.heap.objs.size) (I.hok.fresh (Nat.le_refl _))
  have hl : its.length = bs.length := by rw [← rv.length, List.length_map]
  refine ⟨s.heap.objs.size, _, _, _, _, _, fun i => (bs[i]?).getD true, rfl, Walks.list (A := X.A.in1) (I.ok.hd hc) s.heap.objs.size p hne its.toArray, ⟨⟨_, Heap.get?_push_size _ rfl, rfl, rfl⟩, pl.isList.at fun o e => Heap.get?_push_of_some _ e⟩, ?_, fun h' tk kk => ?_⟩
  · intro i v s' Q' E' hv hq'
    have hv' : its[i]? = some v := by simpa using hv
    have hi : i < bs.length := by rw [← hl]; exact (List.getElem?_eq_some_iff.mp hv').1
    have eb : (bs.map V.bl)[i]? = some (.bl bs[i]) := by rw [List.getElem?_map, List.getElem?_eq_getElem hi]; rfl
    obtain ⟨u, eu, ru⟩ := rv.get eb
    rw [hv'] at eu
    cases eu
    cases ru
    dsimp only at hq'
    rw [List.getElem?_eq_getElem hi] at hq'
    exact wpAny_truthy_bool hq'
  · refine ⟨.bl (bs.all id), H, I1.turned (t' := tk) (it := s.heap.objs.size) (fun b o hb e => kk b o (by simpa using hb) e) f0 f1 f3 f4 f5, ?_, q⟩
    show _ = _
    rw [← all_range bs, List.size_toArray, hl]
end
end Ty

set_option maxHeartbeats 4000000
namespace Ty
open PySem PySem.Spec PyProof.Rows L2 PySem.NumText
theorem cps_append (x y : Str) : (x ++ y).cps.toList = x.cps.toList ++ y.cps.toList := by
  show (x.cps ++ y.cps).toList = _
  simp
def dg (m : Nat) : List Nat := (Nat.toDigits 10 m).map Char.toNat
def tx (n : Int) : Str := Str.ofString (toString n)
def slash : Str := Str.ofString "/"
def nt (q : Int × Int) : Str := if q.2 = 1 then tx q.1 else tx q.1 ++ slash ++ tx q.2
theorem one_sign (c : Nat) : (⟨#[c]⟩ : Str).length = 1 := rfl
end Ty

set_option maxHeartbeats 4000000
namespace Ty
open PySem PySem.Spec PyProof.Rows L2 PySem.NumText
structure Txk (x : Str) : Prop where
  len : x.length ≤ 400
  cod : ∀ c ∈ x.cps.toList, c < 1000
section
variable {X : Cx}
def tRep (te : TE) : TE := fun σ H Q => te σ H fun x H1 => ∃ z, x = .str z ∧ Txk z ∧ ∀ y : Str, y.length ≤ 5000 → Q (.str y) H1
def rJoinL (K : PySem.W.Frag) : V → List V → Hp → VK → Prop := fun x vs H Q => ∃ (z : Str) (p : Addr) (ys : List Str), x = .str z ∧ vs = [.ref p] ∧ SqL K H p (ys.map V.str) ∧ (ys.map (·.length)).sum + ys.length * z.length ≤ 16777216 ∧ Q (.str (Txt.join z ys)) H
end
def isStar : Expr → Bool
  | .Starred .. => true
  | _ => false
theorem star_cons {e : Expr} {es : List Expr} {env : Env} (h : isStar e = false) : starEach (e :: es) env = (false, eval e env) :: starEach es env := by
  cases e <;> first | rfl | (cases h; done)
theorem pac {X : Cx} {e : Expr} {es : List Expr} {te : TE} {t : TA} (ha : PE X e te) (hr : PA X es t) (h : isStar e = false := by rfl) : PA X (e :: es) (tCons te t) := pa_cons ha hr (star_cons h)
def writs : List Expr → Option (List Str)
  | [] => some []
  | .Constant (.str x) _ _ :: r => (writs r).map (x :: ·)
  | _ => none
def tStrs (xs : List Str) : TA := fun _ H Q => Q (xs.map V.str) H
end Ty

set_option maxHeartbeats 4000000
namespace Ty
open PySem PySem.Spec PyProof.Rows L2
section
variable {D : Addr} {te : TE} {cap : L2.St} {H1 : Hp} {Q : VK}
def KSame (D : Addr) (H H' : Hp) : Prop := ∀ b o, b ≠ D → H b = some o → H' b = some o
theorem KSame.of {H H' : Hp} (s : Same H H') : KSame D H H' := fun b o _ e => s b o e
theorem KSame.upd {H : Hp} {o : HO} : KSame D H (upd H D o) := fun b o' n e => by rw [upd_ne n]; exact e
theorem comp_gen {J : It} (n : Nat) (xs : Nat → V) (Rel : Nat → V → Hp → Prop) (nD : H1 D = none) (hn : n < sizeLine)
    (go : ∀ i H, i < n → Same H1 H → J.go i H ∧ ∀ x H', J.yld i H x H' → H' = H ∧ x = xs i) (stop : ∀ H, Same H1 H → J.stop n H)
    (hR : ∀ i v H H' ys, H D = some (.lst ys) → KSame D H H' → Rel i v H → Rel i v H')
    (he : ∀ i H (R : VK), i < n → Same H1 H → (∀ v H6, Same H H6 → Rel i v H6 → R v H6) → te (some (xs i) :: cap) H R)
    (hd : ∀ ys H, ys.length = n → (∀ i v, ys[i]? = some v → Rel i v H) → Same H1 H → H D = some (.lst ys) → Q (.ref D) H) :
    tBlk D (gName 0) tYes te J (none :: cap) H1 Q := by
  refine blk_of n xs (fun i ys H => ys.length = i ∧ (∀ i v, ys[i]? = some v → Rel i v H) ∧ Same H1 H) ⟨rfl, fun i v e => by simp at e, fun b o e => by rw [upd_ne (ne_of_none e nD)]; exact e⟩ ?_ ?_ ?_ ?_
  · rintro i ys H hi ⟨_, _, s⟩
    exact go i H hi s
  · rintro ys H ⟨_, _, s⟩
    exact stop H s
  · rintro i ys H R hi ⟨l, r, s⟩ hD k
    refine he i H R hi s fun v H6 s6 rv => k v H6 (s6 _ _ hD) (by omega) ⟨by simp [l], fun j u e => ?_, fun b o e => ?_⟩
    · by_cases c : j < ys.length
      · rw [List.getElem?_append_left c] at e
        have ru := hR j u H H6 ys hD (KSame.of s6) (r j u e)
        exact hR j u H6 _ ys (s6 _ _ hD) KSame.upd ru
      · rw [List.getElem?_append_right (by omega)] at e
        have ej : j = i := by
          by_cases z : j - ys.length = 0
          · omega
          · rw [List.getElem?_eq_none (by simp; omega)] at e
            cases e
        subst ej
        have : v = u := by
          rw [show j - ys.length = 0 by omega] at e
          exact Option.some.inj e
        subst this
        exact hR j v H6 _ ys (s6 _ _ hD) KSame.upd rv
    · rw [upd_ne (ne_of_none e nD)]
      exact s6 _ _ (s _ _ e)
  · rintro ys H ⟨l, r, s⟩ hD
    exact hd ys H l r s hD
theorem comp_list {K : PySem.W.Frag} {a : Addr} {xs : List V} (Rel : Nat → V → Hp → Prop) (nD : H1 D = none) (hn : xs.length < sizeLine) (hS : ∀ H, Same H1 H → SqL K H a xs)
    (hR : ∀ i v H H' ys, H D = some (.lst ys) → KSame D H H' → Rel i v H → Rel i v H')
    (he : ∀ i x H (R : VK), xs[i]? = some x → Same H1 H → (∀ v H6, Same H H6 → Rel i v H6 → R v H6) → te (some x :: cap) H R)
    (hd : ∀ ys H, ys.length = xs.length → (∀ i v, ys[i]? = some v → Rel i v H) → Same H1 H → H D = some (.lst ys) → Q (.ref D) H) :
    tBlk D (gName 0) tYes te (Itl K a) (none :: cap) H1 Q := by
  refine comp_gen xs.length (fun i => (xs[i]?).getD .non) Rel nD hn (fun i H hi s => ⟨⟨xs, xs[i], hS H s, List.getElem?_eq_getElem hi⟩, fun x H' y => ⟨y.1, ?_⟩⟩) (fun H s => ⟨xs, hS H s, Nat.le_refl _⟩) hR (fun i H R hi s k => ?_) hd
  · rw [y.2 xs (hS H s)]; rfl
  · have e : xs[i]? = some xs[i] := List.getElem?_eq_getElem hi
    have k' := he i _ H R e s k
    rw [← (show (xs[i]?).getD .non = xs[i] by rw [e]; rfl)] at k'
    exact k'
theorem comp_range {lo : Int} {n : Nat} (Rel : Nat → V → Hp → Prop) (nD : H1 D = none) (hn : n < sizeLine)
    (hR : ∀ i v H H' ys, H D = some (.lst ys) → KSame D H H' → Rel i v H → Rel i v H')
    (he : ∀ (i : Nat) H (R : VK), i < n → Same H1 H → (∀ v H6, Same H H6 → Rel i v H6 → R v H6) → te (some (.int (lo + i)) :: cap) H R)
    (hd : ∀ ys H, ys.length = n → (∀ i v, ys[i]? = some v → Rel i v H) → Same H1 H → H D = some (.lst ys) → Q (.ref D) H) :
    tBlk D (gName 0) tYes te (Itr lo n) (none :: cap) H1 Q :=
  comp_gen n (fun i => .int (lo + i)) Rel nD hn (fun i H hi s => ⟨hi, fun x H' y => y⟩) (fun H s => Nat.le_refl n) hR he hd
end
end Ty

set_option maxHeartbeats 4000000
namespace Ty
open PySem PySem.Spec PyProof.Rows L2
section
variable {X : Cx} {pins : List (Addr × Obj)} {σ : L2.St} {H : Hp} {s : Shared} {h' : Heap}
theorem Inv.turnedT {t' : Nat} {fp : List Addr} {T : Addr} {xs : List V} {its : List Value} (I : Inv X pins σ H s) (k : ∀ b o, b ∉ fp → s.heap.get? b = some o → h'.get? b = some o) (hf : ∀ b ∈ fp, FpOk X pins H b) (hT : s.heap.objs.size ≤ T)
    (hz : xs.length ≤ sizeLine) (rv : Vals xs its) (ht : IsTup h' T its.toArray) : Inv X pins σ (upd H T (.tup xs)) { s with heap := h', toks := t' } := by
  have hn := I.hok.fresh hT
  have nit : ∀ b u, H b = some u → b ∉ fp := fun b u e z => by rw [(hf b z).1] at e; cases e
  have ne : ∀ b o, s.heap.get? b = some o → b ≠ T := fun b o e => Nat.ne_of_lt (Nat.lt_of_lt_of_le (Heap.lt_size e) hT)
  refine I.step (g' := s.gens) (d' := s.drawn) (ch := fp) (fun b hb => ?_) (fun b o _ _ hc e _ => k b o hc e) (fun b o _ _ hc e _ => ⟨o.slots, k b o hc e⟩) (fun b o _ e n => by rw [upd_ne (ne b o e)]; exact n)
    (fun b o hc e => ⟨o, k b o hc e⟩) (fun b ys e => by rw [upd_ne (ne_of_none e hn)]; exact e) (fun b o u e => by rw [upd_ne (ne_of_none e hn)]; exact e) (fun b ps e => ⟨#[], by rw [upd_ne (ne_of_none e hn), e]; simp⟩) (fun m hm => ?_) (fun b u e => ?_) I.bare
  · obtain ⟨f0, f1, f2, f3, f4, f5⟩ := hf b hb
    exact ⟨f3, f1, f4, f5⟩
  · obtain ⟨o, es, ep, ho, r⟩ := hm
    exact ⟨o, es, ep, k _ o (fun z => (hf _ z).2.1 rfl) ho, r⟩
  · by_cases hb : b = T
    · subst hb
      rw [upd_same] at e
      cases e
      exact ⟨hz, its, rv, ht⟩
    · rw [upd_ne hb] at e
      refine (I.hok b u e).stay (fun c v hc q => k c v ?_ q) (fun c q => by rw [upd_ne (ne_of_none q hn)]; exact q) fun c ys q => by rw [upd_ne (ne_of_none q hn)]; exact q
      rcases hc with z | z
      · rw [z]; exact nit b u e
      · exact nit c _ z
end
def Itz (K : PySem.W.Frag) (a b : Addr) : It :=
  ⟨fun i H => ∃ xs ys x y, SqL K H a xs ∧ SqL K H b ys ∧ xs[i]? = some x ∧ ys[i]? = some y,
   fun i H v H' => ∃ p x y, (∀ xs, SqL K H a xs → xs[i]? = some x) ∧ (∀ ys, SqL K H b ys → ys[i]? = some y) ∧ v = .ref p ∧ H p = none ∧ H' = upd H p (.tup [x, y]),
   fun i H => ∃ xs ys, SqL K H a xs ∧ SqL K H b ys ∧ (xs.length ≤ i ∨ ys.length ≤ i)⟩
section
variable {X : Cx}
def iZip (K : PySem.W.Frag) (ta : TA) : TI := fun σ H R => ta σ H fun vs H1 => ∃ a b, vs = [.ref a, .ref b] ∧ (∃ xs, SqL K H1 a xs) ∧ (∃ ys, SqL K H1 b ys) ∧ R (Itz K a b) H1
def rSum (K : PySem.W.Frag) : List V → Hp → VK → Prop := fun xs H Q => ∃ (p : Addr) (ns : List Int), xs = [.ref p] ∧ SqL K H p (ns.map V.int) ∧ Q (.int ns.sum) H
def rListL (K : PySem.W.Frag) : List V → Hp → VK → Prop := fun xs H Q => ∃ (p : Addr) (ys : List V), xs = [.ref p] ∧ SqL K H p ys ∧ ∀ l, H l = none → Q (.ref l) (upd H l (.lst ys))
theorem call_listL : CallR X (.type "list") (rListL X.K) := by
  intro pins s σ H xs us Q I r h
  obtain ⟨p, ys, rfl, hq, q⟩ := h
  obtain ⟨u, rfl, r1⟩ := vals1 r
  cases r1
  obtain ⟨its, rv, ⟨o, n, e, c, d1, d⟩, hz⟩ := I.list hq
  have hlen := rv.length
  refine call_list_seq p (.inl rfl) e c d (fun h' c' hk hl => ?_) (by simp; omega)
  have hn := I.hok.fresh (Nat.le_refl s.heap.objs.size)
  have I2 : Inv X pins σ (upd H s.heap.objs.size (.lst ys)) { s with heap := h', toks := s.toks } := I.laid (t' := s.toks) hk (Nat.le_refl _) ⟨hz, its, c', rv, hl⟩
  exact ⟨.ref _, _, I2, rfl, q _ hn⟩
end
section
variable {X : Cx} {K : PySem.W.Frag}
theorem ix_tupK (h : X.K = K) : IxR X (rIxT K) := by subst h; exact ix_tup
end
section
variable {D : Addr} {te : TE} {cap : L2.St} {H1 : Hp} {Q : VK}
end
end Ty

set_option maxHeartbeats 4000000
namespace Ty
open PySem PySem.Spec PyProof.Rows L2
open Builtin.Int (intBits)
def vl (q : Int × Int) : Rat := (q.1 : Rat) / (q.2 : Rat)
structure Sm (T B : Nat) (q : Int × Int) : Prop where
  pos : 0 < q.2
  low : Int.gcd q.1 q.2 = 1
  top : q.1.natAbs ≤ 2 ^ T
  bot : q.2.natAbs ≤ 2 ^ B
theorem ratne {b : Int} (h : b ≠ 0) : (b : Rat) ≠ 0 := by simpa using h
theorem vl_low {t b : Int} (h : b ≠ 0) : vl (low t b) = (t : Rat) / (b : Rat) := by
  have c := low_cross (t := t) h
  have p := low_pos (t := t) h
  have h1 := ratne h
  have h2 := ratne (b := (low t b).2) (by omega)
  have c' : ((low t b).1 : Rat) * b = t * (low t b).2 := by exact_mod_cast c
  unfold vl
  grind
theorem cross_of_vl {t b u c : Int} (hb : b ≠ 0) (hc : c ≠ 0) (h : (t : Rat) / b = (u : Rat) / c) : t * c = u * b := by
  have h1 := ratne hb
  have h2 := ratne hc
  have : (t : Rat) * c = u * b := by grind
  exact_mod_cast this
theorem vl_inj {q r : Int × Int} (hq : 0 < q.2) (hr : 0 < r.2) (gq : Int.gcd q.1 q.2 = 1) (gr : Int.gcd r.1 r.2 = 1) (h : vl q = vl r) : q = r := by
  have c := cross_of_vl (t := q.1) (b := q.2) (u := r.1) (c := r.2) (by omega) (by omega) h
  have e := low_cross_iff (t := q.1) (b := q.2) (u := r.1) (c := r.2) (by omega) (by omega) c
  rw [low_self hq gq, low_self hr gr] at e
  exact Prod.ext (congrArg Prod.fst e) (congrArg Prod.snd e)
def dotZ (xs ys : List Int) : Int := (List.zipWith (fun a b => a * b) xs ys).sum
def dotQ (xs ys : List (Int × Int)) : Rat := (List.zipWith (fun a b => vl a * vl b) xs ys).sum
def Whole (ts : List Int) (qs : List (Int × Int)) (b : Int) : Prop := ts.length = qs.length ∧ ∀ (i : Nat) (t : Int) (q : Int × Int), ts[i]? = some t → qs[i]? = some q → (t : Rat) = vl q * b
theorem Whole.tail {t : Int} {ts : List Int} {q : Int × Int} {qs : List (Int × Int)} {b : Int} (h : Whole (t :: ts) (q :: qs) b) : Whole ts qs b := ⟨by simpa using h.1, fun i t' q' e1 e2 => h.2 (i + 1) t' q' (by simpa using e1) (by simpa using e2)⟩
theorem pw_up {a : Int} {m n : Nat} (h : a.natAbs ≤ 2 ^ m) (hm : m ≤ n) : a.natAbs ≤ 2 ^ n := Nat.le_trans h (Nat.pow_le_pow_right (by decide) hm)
theorem Sm.up {T B T' B' : Nat} {q : Int × Int} (h : Sm T B q) (hT : T ≤ T') (hB : B ≤ B') : Sm T' B' q := ⟨h.pos, h.low, pw_up h.top hT, pw_up h.bot hB⟩
end Ty

set_option maxHeartbeats 4000000
namespace Ty
open PySem PySem.Spec PyProof.Rows L2
section
variable {D : Addr} {te : TE} {cap : L2.St} {H1 : Hp} {Q : VK}
end
section
variable {X : Cx}
def cxB1 (X : Cx) (NB : List Str) (scope : Scope) (y : Str) (cl : List (Str × Addr)) (C : Addr) (s : Shared) (H : Hp) (fp : List Addr) : Cx :=
  { prog := X.prog, w := X.w, K := X.K, mg := X.mg, base := X.base, A := X.A, N := NB, s₀ := s, H₀ := H, env := compEnvC scope ((y, C + 1) :: cl) C X.env, outer := X.stack, stack := X.stack, ex := fp, fn := fun x => x == y, calm := X.calm, pn := [], xe := fun _ _ => False }
structure Blk1 (X : Cx) (scope : Scope) (y : Str) (fr : List Str) (caps : List Nat) : Prop where
  clos : closureFor scope X.env = pure (capCl X.env fr)
  kind : scope.kind = .function
  names : ∀ y ∈ scope.names, y.2 = .local → scope.names.lookup y.1 = some .local
  free : ∀ y ∈ scope.names, y.2 = .free → y.1 ∈ fr
  caps : caps.map (fun i => X.N[i]?) = fr.map some
  out : AllCap X.env fr
  inn : AllCap (compEnvC scope [] 0 X.env) fr
  cells1 : ∀ n acc, cellsFrom n scope.names acc = (y, n) :: acc
  push1 : ∀ h, pushCells h scope.names = h.push { cls := .type "cell", data := .cell none }
  only : ∀ z ∈ scope.names, z.2 = .cell → z.1 = y
  ny : y ∉ fr
end
end Ty

namespace L2
open PySem PySem.Spec PyProof.Rows

section
variable {κ : Type} [DecidableEq κ]
def valV (kvs : List (κ × V)) (k : κ) : Option V := (kvs.find? fun kv => decide (kv.1 = k)).map (·.2)
def putK (kvs : List (κ × V)) (k : κ) (v : V) : List (κ × V) :=
  if (kvs.any fun kv => decide (kv.1 = k)) = true then kvs.map (fun kv => if kv.1 = k then (kv.1, v) else kv) else kvs ++ [(k, v)]
def dropK (kvs : List (κ × V)) (k : κ) : List (κ × V) := kvs.filter fun kv => decide (kv.1 ≠ k)

theorem valV_pos {p : κ × V} {r : List (κ × V)} {k : κ} (e : p.1 = k) : valV (p :: r) k = some p.2 := by simp [valV, List.find?_cons, e]
theorem valV_neg {p : κ × V} {r : List (κ × V)} {k : κ} (e : ¬ p.1 = k) : valV (p :: r) k = valV r k := by simp [valV, List.find?_cons, e]
theorem valV_any (k : κ) : ∀ kvs : List (κ × V), (kvs.any fun kv => decide (kv.1 = k)) = (valV kvs k).isSome
  | [] => rfl
  | p :: r => by
    rw [List.any_cons]
    by_cases e : p.1 = k
    · simp only [valV_pos e, decide_eq_true e, Bool.true_or, Option.isSome_some]
    · rw [valV_neg e, decide_eq_false e, Bool.false_or]; exact valV_any k r
theorem valV_map (k j : κ) (y : V) : ∀ kvs : List (κ × V), valV (kvs.map fun kv => if kv.1 = k then (kv.1, y) else kv) j = (valV kvs j).map fun x => if j = k then y else x
  | [] => rfl
  | p :: r => by
    have ih := valV_map k j y r
    rw [List.map_cons]
    by_cases h : p.1 = k
    · rw [if_pos h]
      by_cases e : p.1 = j
      · rw [valV_pos (p := (p.1, y)) e, valV_pos e, Option.map_some, if_pos (e.symm.trans h)]
      · rw [valV_neg (p := (p.1, y)) e, valV_neg e, ih]
    · rw [if_neg h]
      by_cases e : p.1 = j
      · rw [valV_pos (p := p) e, valV_pos e, Option.map_some, if_neg (fun z => h (e.trans z))]
      · rw [valV_neg (p := p) e, valV_neg e, ih]
theorem valV_snoc (k j : κ) (y : V) : ∀ kvs : List (κ × V), valV kvs k = none → valV (kvs ++ [(k, y)]) j = if j = k then some y else valV kvs j
  | [], _ => by
    by_cases e : k = j
    · rw [if_pos e.symm]; exact valV_pos (p := (k, y)) e
    · rw [if_neg (fun z => e z.symm)]; exact valV_neg (p := (k, y)) e
  | p :: r, hn => by
    rw [List.cons_append]
    have hk : ¬ p.1 = k := fun z => by rw [valV_pos z] at hn; cases hn
    rw [valV_neg hk] at hn
    have ih := valV_snoc k j y r hn
    by_cases e : p.1 = j
    · rw [valV_pos e, valV_pos e, if_neg (fun z => hk (e.trans z))]
    · rw [valV_neg e, valV_neg e, ih]
theorem valV_put (kvs : List (κ × V)) (k j : κ) (y : V) : valV (putK kvs k y) j = if j = k then some y else valV kvs j := by
  unfold putK
  by_cases a : (kvs.any fun kv => decide (kv.1 = k)) = true
  · rw [if_pos a, valV_map]
    rw [valV_any] at a
    by_cases e : j = k
    · obtain ⟨x, hx⟩ := Option.isSome_iff_exists.mp a
      rw [if_pos e, e, hx, Option.map_some, if_pos rfl]
    · rw [if_neg e]
      cases valV kvs j with
      | none => rfl
      | some x => rw [Option.map_some, if_neg e]
  · rw [if_neg a]
    refine valV_snoc k j y kvs ?_
    rw [valV_any] at a
    cases q : valV kvs k with
    | none => rfl
    | some x => rw [q] at a; exact (a rfl).elim
theorem length_putK (kvs : List (κ × V)) (k : κ) (v : V) : (putK kvs k v).length ≤ kvs.length + 1 := by
  unfold putK
  split
  · rw [List.length_map]; omega
  · rw [List.length_append, List.length_cons, List.length_nil]; omega
theorem putK_new {kvs : List (κ × V)} {k : κ} (v : V) (h : valV kvs k = none) : putK kvs k v = kvs ++ [(k, v)] := by
  unfold putK
  rw [valV_any, h]
  exact if_neg (by decide)

theorem RelO.isSome_eq {o : Option V} {u : Option Value} (r : RelO o u) : o.isSome = u.isSome := by
  cases o with
  | none => cases u with
    | none => rfl
    | some _ => exact (show False from r).elim
  | some _ => cases u with
    | none => exact (show False from r).elim
    | some _ => rfl
theorem RelO.getD {o : Option V} {u : Option Value} {d : V} {d' : Value} (r : RelO o u) (rd : RelV d d') : RelV (o.getD d) (u.getD d') := by
  cases o with
  | none => cases u with
    | none => exact rd
    | some _ => exact (show False from r).elim
  | some _ => cases u with
    | none => exact (show False from r).elim
    | some _ => exact r

theorem KV.val {kvs : List (κ × V)} {vs : List (κ × Value)} (r : KV kvs vs) (k : κ) : RelO (valV kvs k) (valueAt vs k) := by
  unfold KV at r
  induction r with
  | nil => exact True.intro
  | @cons p q ps qs h t ih =>
    obtain ⟨h1, h2⟩ := h
    by_cases e : p.1 = k
    · have e' : q.1 = k := h1.symm.trans e
      have b : valueAt (q :: qs) k = some q.2 := by simp [valueAt, List.find?_cons, e']
      rw [valV_pos e, b]; exact h2
    · have e' : ¬ q.1 = k := fun z => e (h1.trans z)
      have b : valueAt (q :: qs) k = valueAt qs k := by simp [valueAt, List.find?_cons, e']
      rw [valV_neg e, b]; exact ih
theorem KV.any {kvs : List (κ × V)} {vs : List (κ × Value)} (r : KV kvs vs) (k : κ) : (kvs.any fun kv => decide (kv.1 = k)) = vs.any fun kv => decide (kv.1 = k) := by
  unfold KV at r
  induction r with
  | nil => rfl
  | cons h t ih => rw [List.any_cons, List.any_cons, ih, h.1]
theorem KV.repl {kvs : List (κ × V)} {vs : List (κ × Value)} (r : KV kvs vs) (k : κ) {y : V} {u : Value} (ry : RelV y u) :
    KV (kvs.map fun kv => if kv.1 = k then (kv.1, y) else kv) (vs.map fun kv => if kv.1 = k then (kv.1, u) else kv) := by
  unfold KV at r ⊢
  induction r with
  | nil => exact .nil
  | @cons p q ps qs h t ih =>
    rw [List.map_cons, List.map_cons]
    refine .cons ?_ ih
    obtain ⟨h1, h2⟩ := h
    by_cases e : p.1 = k
    · rw [if_pos e, if_pos (h1.symm.trans e)]; exact ⟨h1, ry⟩
    · rw [if_neg e, if_neg (fun z => e (h1.trans z))]; exact ⟨h1, h2⟩
theorem KV.put {kvs : List (κ × V)} {vs : List (κ × Value)} (r : KV kvs vs) (k : κ) {y : V} {u : Value} (ry : RelV y u) : KV (putK kvs k y) (stored vs k u) := by
  unfold putK stored
  rw [r.any k]
  by_cases e : (vs.any fun kv => decide (kv.1 = k)) = true
  · rw [if_pos e, if_pos e]; exact r.repl k ry
  · rw [if_neg e, if_neg e]; exact Paired.snoc r ⟨rfl, ry⟩
theorem KV.drop {kvs : List (κ × V)} {vs : List (κ × Value)} (r : KV kvs vs) (k : κ) : KV (dropK kvs k) (without vs k) := by
  unfold KV at r ⊢
  unfold dropK without
  induction r with
  | nil => exact .nil
  | @cons p q ps qs h t ih =>
    obtain ⟨h1, h2⟩ := h
    rw [List.filter_cons, List.filter_cons]
    by_cases e : p.1 = k
    · have a : ¬ decide (p.1 ≠ k) = true := by simp [e]
      have b : ¬ decide (q.1 ≠ k) = true := by simp [h1.symm.trans e]
      rw [if_neg a, if_neg b]; exact ih
    · have e' : ¬ q.1 = k := fun z => e (h1.trans z)
      have a : decide (p.1 ≠ k) = true := by simp [e]
      have b : decide (q.1 ≠ k) = true := by simp [e']
      rw [if_pos a, if_pos b]; exact .cons ⟨h1, h2⟩ ih
theorem KV.keys {kvs : List (κ × V)} {vs : List (κ × Value)} (r : KV kvs vs) : kvs.map (·.1) = vs.map (·.1) := by
  unfold KV at r
  induction r with
  | nil => rfl
  | cons h t ih => rw [List.map_cons, List.map_cons, ih, h.1]
theorem KV.length {kvs : List (κ × V)} {vs : List (κ × Value)} (r : KV kvs vs) : kvs.length = vs.length := Paired.length r
theorem dropK_le (kvs : List (κ × V)) (k : κ) : (dropK kvs k).length ≤ kvs.length := List.length_filter_le _ _
end


theorem kV_is {P : Program} {w : World} {k : Key} {u : Value} (r : RelV (kV k) u) : (mixKind P w).is k u = true := by
  cases k with
  | inl i => obtain ⟨t, e⟩ := (show ∃ t, u = Value.int i t from r); subst e; exact mixKind_int P w i t
  | inr x => obtain ⟨t, e⟩ := (show ∃ t, u = Value.str x t from r); subst e; exact mixKind_str P w x t
theorem items_are {P : Program} {w : World} : ∀ {ks : List Key} {us : List Value}, Vals (ks.map kV) us → ItemsAre (mixKind P w) ks us
  | [], _, r => by rw [List.map_nil] at r; cases r; exact .nil
  | k :: ks, _, r => by
    rw [List.map_cons] at r
    cases r with
    | cons h t => exact .cons (kV_is h) (items_are t)

abbrev KT (H : Hp) : List (List Key × V) → List (List Key × Addr × Value) → Prop := Paired fun p q => p.1 = q.1 ∧ H q.2.1 = some (.tup (p.1.map kV)) ∧ RelV p.2 q.2.2
theorem KT.val {H : Hp} {kvs : List (List Key × V)} {xs : List (List Key × Addr × Value)} (r : KT H kvs xs) (k : List Key) : RelO (valV kvs k) ((atKey xs k).map (·.2)) := by
  induction r with
  | nil => exact True.intro
  | @cons p q ps qs h t ih =>
    obtain ⟨h1, _, h2⟩ := h
    by_cases e : p.1 = k
    · have e' : q.1 = k := h1.symm.trans e
      have b : atKey (q :: qs) k = some q.2 := by simp [atKey, List.find?_cons, e']
      rw [valV_pos e, b]; exact h2
    · have e' : ¬ q.1 = k := fun z => e (h1.trans z)
      have b : atKey (q :: qs) k = atKey qs k := by simp [atKey, List.find?_cons, e']
      rw [valV_neg e, b]; exact ih
theorem KT.repl {H : Hp} {kvs : List (List Key × V)} {xs : List (List Key × Addr × Value)} (r : KT H kvs xs) (k : List Key) {y : V} {u : Value} (ry : RelV y u) :
    KT H (kvs.map fun kv => if kv.1 = k then (kv.1, y) else kv) (xs.map (putAt k u)) := by
  induction r with
  | nil => exact .nil
  | @cons p q ps qs h t ih =>
    rw [List.map_cons, List.map_cons]
    refine .cons ?_ ih
    obtain ⟨h1, h2, h3⟩ := h
    unfold putAt
    by_cases e : p.1 = k
    · rw [if_pos e, if_pos (h1.symm.trans e)]; exact ⟨h1, h2, ry⟩
    · rw [if_neg e, if_neg (fun z => e (h1.trans z))]; exact ⟨h1, h2, h3⟩
theorem KT.put {H : Hp} {kvs : List (List Key × V)} {xs : List (List Key × Addr × Value)} (r : KT H kvs xs) (k : List Key) {b : Addr} {y : V} {u : Value} (hb : H b = some (.tup (k.map kV))) (ry : RelV y u) :
    KT H (putK kvs k y) (storedH xs k b u) := by
  have e : (kvs.any fun kv => decide (kv.1 = k)) = (atKey xs k).isSome := by
    rw [valV_any, (r.val k).isSome_eq, Option.isSome_map]
  unfold putK storedH
  rw [e]
  by_cases q : (atKey xs k).isSome = true
  · rw [if_pos q, if_pos q]; exact r.repl k ry
  · rw [if_neg q, if_neg q]; exact Paired.snoc r ⟨rfl, hb, ry⟩
theorem KT.keeps {H H' : Hp} {kvs : List (List Key × V)} {xs : List (List Key × Addr × Value)} (r : KT H kvs xs) (ht : ∀ b ys, H b = some (.tup ys) → H' b = some (.tup ys)) : KT H' kvs xs :=
  Paired.mapP r fun _ _ z => ⟨z.1, ht _ _ z.2.1, z.2.2⟩

section
variable {P : Program} {w : World} {H : Hp} {h : Heap} {a : Addr}
theorem rd_of {u : HO} (ok : HOk P w H h) (e : Rd H a u) : ObjOk P w H h a u := e.ok ok
theorem dk_rd {kvs : List (Key × V)} (ok : HOk P w H h) (e : Rd H a (.dK kvs)) : kvs.length ≤ sizeLine ∧ (a == sysModules) = false ∧ ∃ vs, KV kvs vs ∧ h.DictOf (mixKind P w) a vs :=
  show ObjOk P w H h a (.dK kvs) from rd_of ok e
theorem dk_of {kvs : List (Key × V)} (ok : HOk P w H h) (e : H a = some (.dK kvs)) : kvs.length ≤ sizeLine ∧ (a == sysModules) = false ∧ ∃ vs, KV kvs vs ∧ h.DictOf (mixKind P w) a vs := dk_rd ok (.inl e)
theorem key_of {ks : List Key} (ok : HOk P w H h) (e : H a = some (.tup (ks.map kV))) : (tupleKind (mixKind P w)).is h ks a := by
  obtain ⟨_, its, r, o, h1, h2, n, h3⟩ := (show ObjOk P w H h a (.tup (ks.map kV)) from ok a _ e)
  exact ⟨o, its.toArray, n, h1, h2, h3, by simpa using items_are r⟩
theorem dt_rd {kvs : List (List Key × V)} (ok : HOk P w H h) (e : Rd H a (.dT kvs)) : kvs.length ≤ sizeLine ∧ (a == sysModules) = false ∧
    ∃ xs, KT H kvs xs ∧ h.DictOfH (tupleKind (mixKind P w)) a xs := by
  obtain ⟨z, y, xs, r, o, es, ep, h1, h2, h3, h4, h5⟩ := (show ObjOk P w H h a (.dT kvs) from rd_of ok e)
  refine ⟨z, y, xs, r, o, es, ep, h1, h2, h3, h4, fun x hx => ?_, h5⟩
  have all : ∀ {l : List (List Key × V)} {m : List (List Key × Addr × Value)}, KT H l m → ∀ x ∈ m, (tupleKind (mixKind P w)).is h x.1 x.2.1 := by
    intro l m q
    induction q with
    | nil => intro x hx; exact nomatch hx
    | @cons p q ps qs hq t ih =>
      intro x hx
      rcases List.mem_cons.mp hx with e | hx
      · subst e
        exact key_of ok (by rw [← hq.1]; exact hq.2.1)
      · exact ih x hx
  exact all r x hx
theorem dt_of {kvs : List (List Key × V)} (ok : HOk P w H h) (e : H a = some (.dT kvs)) : kvs.length ≤ sizeLine ∧ (a == sysModules) = false ∧
    ∃ xs, KT H kvs xs ∧ h.DictOfH (tupleKind (mixKind P w)) a xs := dt_rd ok (.inl e)
end

def DGet (H : Hp) (a : Addr) (y : V) (r : Option V) : Prop :=
  (∃ kvs k, Rd H a (.dK kvs) ∧ y = kV k ∧ r = valV kvs k) ∨ ∃ kvs k b, Rd H a (.dT kvs) ∧ y = .ref b ∧ H b = some (.tup (k.map kV)) ∧ r = valV kvs k
def DPut (H : Hp) (a : Addr) (y v : V) (H' : Hp) : Prop :=
  (∃ kvs k, H a = some (.dK kvs) ∧ y = kV k ∧ kvs.length < sizeLine ∧ H' = upd H a (.dK (putK kvs k v))) ∨
  ∃ kvs k b, H a = some (.dT kvs) ∧ y = .ref b ∧ H b = some (.tup (k.map kV)) ∧ kvs.length < sizeLine ∧ H' = upd H a (.dT (putK kvs k v))
theorem DGet.k {H : Hp} {a : Addr} {kvs : List (Key × V)} {k : Key} (e : H a = some (.dK kvs)) : DGet H a (kV k) (valV kvs k) := .inl ⟨kvs, k, .inl e, rfl, rfl⟩
theorem DGet.t {H : Hp} {a b : Addr} {kvs : List (List Key × V)} {k : List Key} (e : H a = some (.dT kvs)) (eb : H b = some (.tup (k.map kV))) : DGet H a (.ref b) (valV kvs k) := .inr ⟨kvs, k, b, .inl e, rfl, eb, rfl⟩
theorem DPut.k {H : Hp} {a : Addr} {kvs : List (Key × V)} {k : Key} {v : V} (e : H a = some (.dK kvs)) (hl : kvs.length < sizeLine) : DPut H a (kV k) v (upd H a (.dK (putK kvs k v))) := .inl ⟨kvs, k, e, rfl, hl, rfl⟩
theorem DPut.t {H : Hp} {a b : Addr} {kvs : List (List Key × V)} {k : List Key} {v : V} (e : H a = some (.dT kvs)) (eb : H b = some (.tup (k.map kV))) (hl : kvs.length < sizeLine) :
    DPut H a (.ref b) v (upd H a (.dT (putK kvs k v))) := .inr ⟨kvs, k, b, e, rfl, eb, hl, rfl⟩


section
variable {X : Cx} {pins : List (Addr × Obj)} {σ : St} {H : Hp} {s : Shared} {a : Addr} {y v : V} {u r : Value} {o : Option V} {A : Around} {E : Value → Shared → Prop}

theorem Inv.big (I : Inv X pins σ H s) : sysModules < s.heap.objs.size := by
  have h : mainGlobals < s.heap.objs.size := (I.mod.glob.keeps I.bk).lt
  exact Nat.lt_trans (by decide) h

theorem d_getItem {Q : Value → Shared → Prop} (hu : A.units + 1 < cLine) (I : Inv X pins σ H s) (g : DGet H a y (some v)) (ry : RelV y u) (h : ∀ w' s', Inv X pins σ H s' → RelV v w' → Q w' s') :
    wpAny (model X.prog X.w) A (getItem (.ref a) u) Q E s := by
  rcases g with ⟨kvs, k, e, ey, l⟩ | ⟨kvs, k, b, e, ey, eb, l⟩
  · subst ey
    obtain ⟨z, hd, vs, rel, dd⟩ := dk_rd I.hok e
    obtain ⟨w', hw, rw'⟩ := RelO.some_of (v := v) (o := valueAt vs k) (by rw [l]; exact rel.val k)
    exact wpAny_getItem_of (kV_is ry) dd.mapOf hw (h w' _ (I.tok _) rw')
  · subst ey
    cases (show u = Value.ref b from ry)
    obtain ⟨z, hd, xs, rel, dd⟩ := dt_rd I.hok e
    obtain ⟨w', hw, rw'⟩ := RelO.some_of (v := v) (o := (atKey xs k).map (·.2)) (by rw [l]; exact rel.val k)
    obtain ⟨p, hp, hp2⟩ := Option.map_eq_some_iff.mp hw
    refine wpAny_getItem_heap (tupleKind_room_in1 hu) (key_of I.hok eb) dd hp ?_
    rw [hp2]
    exact h w' _ (I.tok _) rw'
theorem d_in {Q : Value → Shared → Prop} (hu : A.units + 1 < cLine) (I : Inv X pins σ H s) (g : DGet H a y o) (ry : RelV y u) (h : ∀ s', Inv X pins σ H s' → Q (.bool o.isSome) s') :
    wpAny (model X.prog X.w) A (compareOp .In u (.ref a)) Q E s := by
  rcases g with ⟨kvs, k, e, ey, l⟩ | ⟨kvs, k, b, e, ey, eb, l⟩
  · subst ey
    obtain ⟨z, hd, vs, rel, dd⟩ := dk_rd I.hok e
    refine wpAny_in_of (kV_is ry) hd dd.mapOf ?_
    rw [← (rel.val k).isSome_eq, ← l]
    exact h _ (I.tok _)
  · subst ey
    cases (show u = Value.ref b from ry)
    obtain ⟨z, hd, xs, rel, dd⟩ := dt_rd I.hok e
    refine wpAny_in_heap (tupleKind_room_in1 hu) (key_of I.hok eb) hd dd ?_
    have q := (rel.val k).isSome_eq
    rw [Option.isSome_map] at q
    rw [← q, ← l]
    exact h _ (I.tok _)
theorem d_notIn {Q : Value → Shared → Prop} (hu : A.units + 1 < cLine) (I : Inv X pins σ H s) (g : DGet H a y o) (ry : RelV y u) (h : ∀ s', Inv X pins σ H s' → Q (.bool (!o.isSome)) s') :
    wpAny (model X.prog X.w) A (compareOp .NotIn u (.ref a)) Q E s := by
  rcases g with ⟨kvs, k, e, ey, l⟩ | ⟨kvs, k, b, e, ey, eb, l⟩
  · subst ey
    obtain ⟨z, hd, vs, rel, dd⟩ := dk_rd I.hok e
    refine wpAny_notIn_of (kV_is ry) hd dd.mapOf ?_
    rw [← (rel.val k).isSome_eq, ← l]
    exact h _ (I.tok _)
  · subst ey
    cases (show u = Value.ref b from ry)
    obtain ⟨z, hd, xs, rel, dd⟩ := dt_rd I.hok e
    refine wpAny_notIn_heap (tupleKind_room_in1 hu) (key_of I.hok eb) hd dd ?_
    have q := (rel.val k).isSome_eq
    rw [Option.isSome_map] at q
    rw [← q, ← l]
    exact h _ (I.tok _)
theorem d_write {h' : Heap} {t' : Nat} {ob : HO} (I : Inv X pins σ H s) (mu : Mut (H a)) (hs : Heap.SameBut a s.heap h') (he : ∃ q, h'.get? a = some q) (new : ObjOk X.prog X.w (upd H a ob) h' a ob) :
    Inv X pins σ (upd H a ob) { s with heap := h', toks := t' } :=
  I.write (x := a) (e := a) mu (.inl rfl) (fun b q hb z => (hs.2 b hb).trans z) he new
theorem dk_new {P : Program} {w : World} {H' : Hp} {h' : Heap} {kvs : List (Key × V)} {vs : List (Key × Value)} (z : kvs.length ≤ sizeLine) (hd : (a == sysModules) = false) (rel : KV kvs vs) (dd : h'.DictOf (mixKind P w) a vs) :
    ObjOk P w H' h' a (.dK kvs) := ⟨z, hd, vs, rel, dd⟩
theorem d_setItem {H' : Hp} {Q : Unit → Shared → Prop} (hu : A.units + 1 < cLine) (I : Inv X pins σ H s) (g : DPut H a y v H') (ry : RelV y u) (rv : RelV v r) (h : ∀ s', Inv X pins σ H' s' → Q () s') :
    wpAny (model X.prog X.w) A (setItem (.ref a) u r) Q E s := by
  rcases g with ⟨kvs, k, e, ey, l, eH⟩ | ⟨kvs, k, b, e, ey, eb, l, eH⟩
  · subst ey eH
    obtain ⟨z, hd, vs, rel, dd⟩ := dk_of I.hok e
    have hz : vs.length ≤ sizeLine := by rw [← rel.length]; exact z
    have hl : (putK kvs k v).length ≤ sizeLine := by have := length_putK kvs k v; omega
    refine wpAny_setItem_pairs (hsz := hz) (kV_is ry) dd fun h' dd' hs => h _ ?_
    have he : ∃ q, h'.get? a = some q := let ⟨q, _, _, hq, _⟩ := dd'; ⟨q, hq⟩
    exact d_write I (by rw [e]; exact True.intro) hs he (dk_new hl hd (rel.put k rv) dd')
  · subst ey eH
    cases (show u = Value.ref b from ry)
    obtain ⟨z, hd, xs, rel, dd⟩ := dt_of I.hok e
    have hz : xs.length ≤ sizeLine := by rw [← Paired.length rel]; exact z
    have hl : (putK kvs k v).length ≤ sizeLine := by have := length_putK kvs k v; omega
    refine wpAny_setItem_heap (hsz := hz) (tupleKind_room_in1 hu) (key_of I.hok eb) dd fun h' dd' hs => h _ ?_
    obtain ⟨q, es, ep, hq, h2, h3, h4, _, h5⟩ := dd'
    refine d_write I (by rw [e]; exact True.intro) hs ⟨q, hq⟩ ⟨hl, hd, _, (rel.put k eb rv).keeps fun c ys ec => ?_, q, es, ep, hq, h2, h3, h4, h5⟩
    rw [upd_ne (ne_of ec e (fun z => nomatch z))]
    exact ec
end

section
variable {X : Cx} {pins : List (Addr × Obj)} {σ : St} {H : Hp} {s : Shared} {a : Addr} {kvs : List (Key × V)} {k : Key} {u : Value} {A : Around} {E : Value → Shared → Prop}
theorem d_pop {v : V} {more : List Value} {Q : Value → Shared → Prop} (I : Inv X pins σ H s) (e : H a = some (.dK kvs)) (ry : RelV (kV k) u) (l : valV kvs k = some v) (hm : more = [] ∨ ∃ x, more = [x])
    (h : ∀ w' s', Inv X pins σ (upd H a (.dK (dropK kvs k))) s' → RelV v w' → Q w' s') : wpAny (model X.prog X.w) A (call (.builtin "dict.pop") (.ref a :: u :: more)) Q E s := by
  obtain ⟨z, hd, vs, rel, dd⟩ := dk_of I.hok e
  obtain ⟨w', hw, rw'⟩ := RelO.some_of (v := v) (o := valueAt vs k) (by rw [← l]; exact rel.val k)
  have hp : (keyPart u).isSome = true := by
    cases k with
    | inl i => obtain ⟨t, q⟩ := (show ∃ t, u = Value.int i t from ry); subst q; rfl
    | inr x => obtain ⟨t, q⟩ := (show ∃ t, u = Value.str x t from ry); subst q; rfl
  have ha : argsOk "dict.pop" ⟨.ref a :: u :: more, []⟩ := by
    rcases hm with q | ⟨x, q⟩
    · subst q; exact PySem.F.args_dict_pop_2 _ _
    · subst q; exact PySem.F.args_dict_pop_3 _ _ _
  refine call_meetsIn PySem.F.slot_dict_pop dd.typeIs PySem.F.entry_dict_pop ha (meets_dict_pop_there (mixKind X.prog X.w) a (kV_is ry) more hm hp)
    ⟨vs, w', dd, by rw [← rel.length]; exact z, hw, fun h' dd' hs => h w' _ ?_ rw'⟩
  have he : ∃ q, h'.get? a = some q := let ⟨q, _, _, hq, _⟩ := dd'; ⟨q, hq⟩
  exact d_write I (by rw [e]; exact True.intro) hs he (dk_new (Nat.le_trans (dropK_le kvs k) z) hd (rel.drop k) dd')
theorem d_len {Q : Value → Shared → Prop} (I : Inv X pins σ H s) (e : Rd H a (.dK kvs)) (h : ∀ t s', Inv X pins σ H s' → Q (.int kvs.length t) s') : wpAny (model X.prog X.w) A (call (.builtin "len") [.ref a]) Q E s := by
  obtain ⟨z, hd, vs, rel, dd⟩ := dk_rd I.hok e
  refine call_len_dict hd dd (by rw [← rel.length]; rw [sizeLine_eq] at z; omega) ?_
  rw [← rel.length]
  exact h _ _ (I.tok _)
end


def NoSl (i : Expr) : Prop := ∀ ov iv, subscripted i false ov iv = operate [ov, iv] (getItem ov iv)
theorem subD_of {prog : Program} {w : World} {A : Around} {E : Value → Shared → Prop} {s : Shared} {env : Env} {value slice : Expr} {pos : Pos} {T id : String} {Q : Value → Shared → Prop}
    (hl : typeLookup (.type T) "__getitem__" = pure (some (.builtin id))) (hs : NoSl slice)
    (h : wpAny (model prog w) A (eval value env) (fun o s₁ => wpAny (model prog w) A (eval slice env) (fun i s₂ => s₂.TypeIs o T ∧ wpAny (model prog w) A (getItem o i) Q E s₂) E s₁) E s) :
    wpAny (model prog w) A (eval (.Subscript value slice pos) env) Q E s := by
  refine Subscript_ (wpAny_mono h (fun o s₁ h₁ => wpAny_mono h₁ (fun i s₂ h₂ => ?_) fun _ _ x => x) fun _ _ x => x)
  obtain ⟨hT, h₂⟩ := h₂
  unfold subscriptTail
  refine wpAny_bind ?_
  rw [getitemInPython_of_ne hT.not_modules]
  refine wpAny_bind (wpAny_specialOf hT hl ?_)
  have fin : wpAny (model prog w) A (subscripted slice false o i) (fun r s₃ => wpAny (model prog w) A (letTemporaryGo value o r >>= fun _ => pure r) Q E s₃) E s₂ := by
    rw [hs o i]
    exact wpAny_operating (wpAny_mono h₂ (fun r s₃ h₃ => wpAny_bind (wpAny_letTemporaryGo (wpAny_pure h₃))) fun _ _ x => x)
  first
    | exact wpAny_pure (wpAny_bind fin)
    | exact wpAny_bind (wpAny_pure (wpAny_bind fin))
    | exact wpAny_bind fin

theorem dict_typeIs {X : Cx} {pins : List (Addr × Obj)} {σ : St} {H : Hp} {s : Shared} {a : Addr} {y : V} {o : Option V} (I : Inv X pins σ H s) (g : DGet H a y o) : s.TypeIs (.ref a) "dict" := by
  rcases g with ⟨kvs, k, e, _, _⟩ | ⟨kvs, k, b, e, _, _, _⟩
  · obtain ⟨_, _, vs, _, dd⟩ := dk_rd I.hok e
    exact dd.typeIs
  · obtain ⟨_, _, xs, _, dd⟩ := dt_rd I.hok e
    exact dd.typeIs
def tDGet (td ty : TE) : TE := fun σ H Q => td σ H fun x H1 => ty σ H1 fun y H2 => ∃ a v, x = .ref a ∧ DGet H2 a y (some v) ∧ Q v H2
def tDIn (ty td : TE) : TE := fun σ H Q => ty σ H fun y H1 => td σ H1 fun x H2 => ∃ a o, x = .ref a ∧ DGet H2 a y o ∧ Q (.bl o.isSome) H2
def tDNotIn (ty td : TE) : TE := fun σ H Q => ty σ H fun y H1 => td σ H1 fun x H2 => ∃ a o, x = .ref a ∧ DGet H2 a y o ∧ Q (.bl (!o.isSome)) H2
def sDPut (td ty tv : TE) : TS := fun D σ H => tv σ H fun v H1 => td σ H1 fun x H2 => ty σ H2 fun y H3 => ∃ a H4, x = .ref a ∧ DPut H3 a y v H4 ∧ D.nx σ H4
def sDAug (td ty tv : TE) (rd : V → V → Hp → VK → Prop) : TS := fun D σ H => td σ H fun x H1 => ty σ H1 fun y H2 => ∃ a v, x = .ref a ∧ DGet H2 a y (some v) ∧
  tv σ H2 fun y2 H3 => rd v y2 H3 fun z H4 => ∃ H5, DPut H4 a y z H5 ∧ D.nx σ H5
def sDDel (td ty : TE) : TS := fun D σ H => td σ H fun x H1 => ty σ H1 fun y H2 => ∃ a kvs k, x = .ref a ∧ H2 a = some (.dK kvs) ∧ y = kV k ∧ (valV kvs k).isSome = true ∧ D.nx σ (upd H2 a (.dK (dropK kvs k)))

section
variable {X : Cx} {o i e value : Expr} {pos pos' tpos : Pos} {td ty tv : TE}
theorem pe_dget (hu : X.A.units + 1 < cLine) (ho : PE X o td) (hi : PE X i ty) (hs : NoSl i) : PE X (.Subscript o i pos) (tDGet td ty) := by
  intro pins s σ H Q I h
  refine subD_of PySem.F.slot_dict_getitem.lookup hs (thn (ho pins s σ H _ I h) fun u s1 ⟨x, H1, I1, rx, q1⟩ => thn (hi pins s1 σ H1 _ I1 q1) fun iv s2 ⟨y, H2, I2, ry, a, v, ex, g, q2⟩ => ?_)
  subst ex
  obtain rfl : u = Value.ref a := rx
  exact ⟨dict_typeIs I2 g, d_getItem hu I2 g ry fun w' s3 I3 rw' => ⟨v, H2, I3, rw', q2⟩⟩
theorem pc_din (hu : X.A.units + 1 < cLine) (hi : PE X i ty) (ho : PE X o td) : PC X .In i o (tDIn ty td) := by
  intro pins s σ H Q I h
  refine thn (hi pins s σ H _ I h) fun iv s1 ⟨y, H1, I1, ry, q1⟩ => thn (ho pins s1 σ H1 _ I1 q1) fun u s2 ⟨x, H2, I2, rx, a, ov, ex, g, q2⟩ => ?_
  subst ex
  obtain rfl : u = Value.ref a := rx
  exact d_in hu I2 g ry fun s3 I3 => ⟨.bl ov.isSome, H2, I3, rfl, q2⟩
theorem pc_dnotin (hu : X.A.units + 1 < cLine) (hi : PE X i ty) (ho : PE X o td) : PC X .NotIn i o (tDNotIn ty td) := by
  intro pins s σ H Q I h
  refine thn (hi pins s σ H _ I h) fun iv s1 ⟨y, H1, I1, ry, q1⟩ => thn (ho pins s1 σ H1 _ I1 q1) fun u s2 ⟨x, H2, I2, rx, a, ov, ex, g, q2⟩ => ?_
  subst ex
  obtain rfl : u = Value.ref a := rx
  exact d_notIn hu I2 g ry fun s3 I3 => ⟨.bl (!ov.isSome), H2, I3, rfl, q2⟩
theorem ps_dput (hu : X.A.units + 1 < cLine) (ho : PE X o td) (hi : PE X i ty) (hv : PE X value tv) (hs : swapsWith value (some (.Subscript o i pos')) pos.line X.env = pure false) :
    PS X (.Assign [.Subscript o i pos'] value pos) (sDPut td ty tv) := by
  intro pins s σ H D I h
  refine wpAny_Assign_Subscript (thn (hv pins s σ H _ I h) fun r s1 ⟨v, H1, I1, rv, q1⟩ => thn (ho pins s1 σ H1 _ I1 q1) fun u s2 ⟨x, H2, I2, rx, q2⟩ => thn (hi pins s2 σ H2 _ I2 q2) fun iv s3 ⟨y, H3, I3, ry, a, H4, ex, g, q3⟩ => ?_) hs
  subst ex
  obtain rfl : u = Value.ref a := rx
  exact d_setItem hu I3 g ry rv fun s4 I4 => ⟨σ, H4, I4, q3⟩
end


theorem dk_empty {P : Program} {w : World} {H : Hp} (h : Heap) (hb : sysModules < h.objs.size) : ObjOk P w H (h.push { cls := .type "dict", data := .dict #[] }) h.objs.size (.dK []) :=
  ⟨Nat.zero_le _, beq_eq_false_iff_ne.mpr (Ne.symm (Nat.ne_of_lt hb)), [], .nil, Heap.DictOf.new h⟩
def tDNewK : TE := fun _ H Q => ∀ p, H p = none → Q (.ref p) (upd H p (.dK []))
def tDNewT : TE := fun _ H Q => ∀ p, H p = none → Q (.ref p) (upd H p (.dT []))
section
variable {X : Cx} {pos : Pos}
theorem pe_dnewK : PE X (.Dict [] [] pos) tDNewK := fun pins s σ H Q I h =>
  wpAny_Dict_empty ⟨.ref s.heap.objs.size, _, I.laid (a := s.heap.objs.size) (o := .dK []) (t' := s.toks) (fun _ _ q => Heap.get?_push_of_some _ q) (Nat.le_refl _) (dk_empty s.heap I.big), rfl, h _ (I.hok.fresh (Nat.le_refl _))⟩
end

def tPairs : List (TE × TE) → St → Hp → (List (V × V) → Hp → Prop) → Prop
  | [], _, H, Q => Q [] H
  | (tk, tv) :: r, σ, H, Q => tk σ H fun x H1 => tv σ H1 fun y H2 => tPairs r σ H2 fun ps H3 => Q ((x, y) :: ps) H3
abbrev VV : List (V × V) → List (Value × Value) → Prop := Paired fun p q => RelV p.1 q.1 ∧ RelV p.2 q.2
def PPs (X : Cx) (pos : Pos) (keys : List (Option Expr)) (values : List Expr) (trs : List (TE × TE)) : Prop :=
  ∀ (pins : List (Addr × Obj)) (s : Shared) (σ : St) (H : Hp) (Q : List (V × V) → Hp → Prop), Inv X pins σ H s → tPairs trs σ H Q →
    wpAny (model X.prog X.w) X.A (evalPairs (pairTrees keys values X.env pos)) (fun vs s' => ∃ ps H', Inv X pins σ H' s' ∧ VV ps vs ∧ Q ps H') X.xe s
def mergeK (kvs more : List (Key × V)) : List (Key × V) := more.foldl (fun acc kv => putK acc kv.1 kv.2) kvs
def tDisp (trs : List (TE × TE)) : TE := fun σ H Q => ∀ p, H p = none → tPairs trs σ (upd H p (.dK [])) fun ps H2 => H2 p = some (.dK []) ∧ ∃ kvs : List (Key × V), ps = kvs.map (fun kv => (kV kv.1, kv.2)) ∧ kvs.length ≤ 15 ∧ Q (.ref p) (upd H2 p (.dK (mergeK [] kvs)))
structure M1 (X : Cx) (o : Expr) (m : Str) (apos : Pos) (e : Expr) (cpos : Pos) : Prop where
  base : attributeBase o m X.env (eval o X.env) = eval o X.env
  few : ((backTo cpos (starEach [e] X.env)).all (fun x => !x.1) && (backToKw cpos (keywordEach [] X.env)).all (fun x => x.1.isSome)
    && decide (([e] : List Expr).length + ([] : List Keyword).length + (if ([] : List Keyword).isEmpty then 0 else 1) < 30)) = true
  line : (apos.endLine == cpos.line) = true
  trees : backTo cpos (starEach [e] X.env) = [(false, eval e X.env)]
structure M2 (X : Cx) (o : Expr) (m : Str) (apos : Pos) (e f : Expr) (cpos : Pos) : Prop where
  base : attributeBase o m X.env (eval o X.env) = eval o X.env
  few : ((backTo cpos (starEach [e, f] X.env)).all (fun x => !x.1) && (backToKw cpos (keywordEach [] X.env)).all (fun x => x.1.isSome)
    && decide (([e, f] : List Expr).length + ([] : List Keyword).length + (if ([] : List Keyword).isEmpty then 0 else 1) < 30)) = true
  line : (apos.endLine == cpos.line) = true
  trees : backTo cpos (starEach [e, f] X.env) = [(false, eval e X.env), (false, eval f X.env)]

def IsD (H : Hp) (a : Addr) : Prop := (∃ kvs, Rd H a (.dK kvs)) ∨ ∃ kvs, Rd H a (.dT kvs)
theorem isD_at {X : Cx} {pins : List (Addr × Obj)} {σ : St} {H : Hp} {s : Shared} {a : Addr} (I : Inv X pins σ H s) (d : IsD H a) :
    s.TypeIs (.ref a) "dict" ∧ (∀ b, Value.ref a = .ref b → ∃ ob, s.heap.get? b = some ob ∧ ob.dict = none) ∧ (a == sysModules) = false := by
  rcases d with ⟨kvs, e⟩ | ⟨kvs, e⟩
  · obtain ⟨_, hd, vs, _, dd⟩ := dk_rd I.hok e
    refine ⟨dd.typeIs, fun b q => ?_, hd⟩
    cases q
    obtain ⟨ob, _, _, h1, h2, _⟩ := dd
    exact ⟨ob, h1, h2.2.1⟩
  · obtain ⟨_, hd, xs, _, dd⟩ := dt_rd I.hok e
    refine ⟨dd.typeIs, fun b q => ?_, hd⟩
    cases q
    obtain ⟨ob, _, _, h1, h2, _⟩ := dd
    exact ⟨ob, h1, h2.2.1⟩

section
variable {X : Cx} {pins : List (Addr × Obj)} {σ : St} {H : Hp} {s : Shared} {a : Addr} {y d : V} {u r : Value} {o : Option V} {A : Around} {E : Value → Shared → Prop}
theorem d_get2 {Q : Value → Shared → Prop} (hu : A.units + 1 < cLine) (I : Inv X pins σ H s) (g : DGet H a y o) (ry : RelV y u) (rd : RelV d r) (h : ∀ w' s', Inv X pins σ H s' → RelV (o.getD d) w' → Q w' s') :
    wpAny (model X.prog X.w) A (call (.builtin "dict.get") [.ref a, u, r]) Q E s := by
  rcases g with ⟨kvs, k, e, ey, l⟩ | ⟨kvs, k, b, e, ey, eb, l⟩
  · subst ey
    obtain ⟨z, hd, vs, rel, dd⟩ := dk_rd I.hok e
    refine call_meetsIn PySem.F.slot_dict_get dd.typeIs PySem.F.entry_dict_get (PySem.F.args_dict_get_3 _ _ _) (meets_dict_get_default (mixKind X.prog X.w) a (kV_is ry) hd r) ⟨_, dd.mapOf, h _ _ (I.tok _) ?_⟩
    rw [l]
    exact (rel.val k).getD rd
  · subst ey
    cases (show u = Value.ref b from ry)
    obtain ⟨z, hd, xs, rel, dd⟩ := dt_rd I.hok e
    refine call_meetsIn PySem.F.slot_dict_get dd.typeIs PySem.F.entry_dict_get (PySem.F.args_dict_get_3 _ _ _) (meetsH_dict_get_default (tupleKind (mixKind X.prog X.w)) a b hd r) ⟨tupleKind_room_in1 hu, k, xs, key_of I.hok eb, dd, h _ _ (I.tok _) ?_⟩
    rw [l]
    exact (rel.val k).getD rd
end

def tDGet1 (td ty : TE) : TE := fun σ H Q => td σ H fun x H1 => ∃ a, x = .ref a ∧ IsD H1 a ∧ ty σ H1 fun y H2 => ∃ o, DGet H2 a y o ∧ Q (o.getD .non) H2
def tDGet2 (td ty tx : TE) : TE := fun σ H Q => td σ H fun x H1 => ∃ a, x = .ref a ∧ IsD H1 a ∧ ty σ H1 fun y H2 => tx σ H2 fun z H3 => ∃ o, DGet H3 a y o ∧ Q (o.getD z) H3
def tDPop1 (td ty : TE) : TE := fun σ H Q => td σ H fun x H1 => ∃ a, x = .ref a ∧ IsD H1 a ∧ ty σ H1 fun y H2 => ∃ kvs k v, H2 a = some (.dK kvs) ∧ y = kV k ∧ valV kvs k = some v ∧ Q v (upd H2 a (.dK (dropK kvs k)))
def tDPop2 (td ty tx : TE) : TE := fun σ H Q => td σ H fun x H1 => ∃ a, x = .ref a ∧ IsD H1 a ∧ ty σ H1 fun y H2 => tx σ H2 fun z H3 => ∃ kvs k, H3 a = some (.dK kvs) ∧ y = kV k ∧
  (∀ v, valV kvs k = some v → Q v (upd H3 a (.dK (dropK kvs k)))) ∧ (valV kvs k = none → Q z H3)
section
variable {X : Cx} {o e f : Expr} {apos cpos : Pos} {td ty tx : TE}
theorem pe_dget2 (hu : X.A.units + 1 < cLine) (ho : PE X o td) (he : PE X e ty) (hf : PE X f tx) (m : M2 X o "get" apos e f cpos) : PE X (.Call (.Attribute o "get" apos) [e, f] [] cpos) (tDGet2 td ty tx) := by
  intro pins s σ H Q I h
  refine wpAny_Call_method m.base m.few m.line PySem.F.plainAttrs_dict PySem.F.slot_dict_get PySem.F.type_dict_get (thn (ho pins s σ H _ I h) fun u s1 ⟨x, H1, I1, rx, a, ex, d, q1⟩ => ?_)
  subst ex
  obtain rfl : u = Value.ref a := rx
  obtain ⟨t1, t2, _⟩ := isD_at I1 d
  refine ⟨t1, t2, ?_⟩
  rw [m.trees]
  refine Calls.callWith_builtin rfl (Calls.evalArgs_plain (Calls.spliced_cons (thn (he pins s1 σ H1 _ I1 q1) fun iv s2 ⟨y, H2, I2, ry, q2⟩ =>
    Calls.spliced_cons (thn (hf pins s2 σ H2 _ I2 q2) fun fv s3 ⟨z, H3, I3, rz, ov, g, q3⟩ => Calls.spliced_nil ?_))))
  exact d_get2 hu I3 g ry rz fun w' s4 I4 rw' => ⟨_, H3, I4, rw', q3⟩
theorem pe_dpop1 (ho : PE X o td) (he : PE X e ty) (m : M1 X o "pop" apos e cpos) : PE X (.Call (.Attribute o "pop" apos) [e] [] cpos) (tDPop1 td ty) := by
  intro pins s σ H Q I h
  refine wpAny_Call_method m.base m.few m.line PySem.F.plainAttrs_dict PySem.F.slot_dict_pop PySem.F.type_dict_pop (thn (ho pins s σ H _ I h) fun u s1 ⟨x, H1, I1, rx, a, ex, d, q1⟩ => ?_)
  subst ex
  obtain rfl : u = Value.ref a := rx
  obtain ⟨t1, t2, _⟩ := isD_at I1 d
  refine ⟨t1, t2, ?_⟩
  rw [m.trees]
  refine Calls.callWith_builtin rfl (Calls.evalArgs_plain (Calls.spliced_cons (thn (he pins s1 σ H1 _ I1 q1) fun iv s2 ⟨y, H2, I2, ry, kvs, k, v, ea, ey, l, q2⟩ => Calls.spliced_nil ?_)))
  subst ey
  exact d_pop I2 ea ry l (.inl rfl) fun w' s3 I3 rw' => ⟨v, _, I3, rw', q2⟩
end

section
variable {X : Cx} {pins : List (Addr × Obj)} {σ : St} {H : Hp} {s : Shared} {a : Addr} {kvs : List (Key × V)} {A : Around} {E : Value → Shared → Prop}
end


section
variable {X : Cx} {pins : List (Addr × Obj)} {σ : St} {H : Hp} {s : Shared} {a : Addr} {y : V} {u : Value} {A : Around} {E : Value → Shared → Prop}
end
end L2

set_option maxHeartbeats 4000000
namespace Ty
open PySem PySem.Spec PyProof.Rows L2
section
variable {X : Cx}
theorem seer_of {pins : List (Addr × Obj)} {σ : L2.St} {H : Hp} {s : Shared} (I : Inv X pins σ H s) : s.heap.NoSeer := I.ok.mod.seer.keeps I.bk
theorem Room.py {k : Nat} {A : Around} (r : Room k A) (h : 32 ≤ k) : A.depth + Builtin.pylongFrames < recursionLimit := by
  have := r.dp
  have : Builtin.pylongFrames = 100 := rfl
  omega
theorem op_fdivU {env : Env} {l : List Env} (ht : X.prog.given.tree = none) (hd : X.A.depth + Builtin.pylongFrames < recursionLimit) (hst : X.stack = env :: l) (h1 : env.scope.isGenerator = false) (h2 : env.scope.isCoroutine = false) (h3 : env.builtins = builtinsNs) (h4 : env.globals = mainGlobals) :
    OpR X (binaryOp .FloorDiv) (rI CMod fun i j => .int (i.fdiv j)) := by
  intro pins s σ H x y v u Q I rx ry h
  obtain ⟨i, j, rfl, rfl, hc, q⟩ := h
  obtain ⟨t, rfl⟩ := rx
  obtain ⟨t', rfl⟩ := ry
  exact floordiv_int hc ⟨.int _, H, I.tok _, ⟨_, rfl⟩, q⟩ (.inr (PylongRoom.of I.nolimit hd (SeerAt.of (seer_of I) ht (by rw [I.ok.frames, hst]) h1 h2 h3 h4)))
end
end Ty

set_option maxHeartbeats 4000000
namespace Ty
open PySem PySem.Spec PyProof.Rows L2
section
variable {prog : Program} {w : World} {A : Around} {E : Value → Shared → Prop} {s : Shared} {KK : Type} [DecidableEq KK] {knd : KeyKind prog w KK}
theorem hint_dict {d : Addr} {kvs : List (KK × Value)} {Q : Bool → Shared → Prop} (hm : s.heap.DictOf knd d kvs) (h : Q false s) : wpAny (model prog w) A (Builtin.List.listLengthHint (.ref d)) Q E s := by
  unfold Builtin.List.listLengthHint
  refine wpAny_bind (wpAny_specialOf (name := Str.ofString "__len__") hm.typeIs F.slot_dict_len.lookup ?_)
  generalize hid : ("dict.__len__" : String) = id0
  wp_delta
  rw [show splitId id0 = some ("dict", "__len__") from by subst hid; decide +kernel]
  subst hid
  refine wpAny_bind (wpAny_isInstance (T := "dict") (b := true) hm.typeIs (by rw [isSubtype_type]; kernel_rfl) ?_)
  refine wpAny_ite_split (fun hab => absurd hab (by decide)) (fun _ => ?_)
  refine wpAny_ite_split (fun _ => ?_) (fun hab => absurd (by decide +kernel) hab)
  refine wpAny_bind (wpAny_typeOf (T := "dict") hm.typeIs ?_)
  exact wpAny_pure h
theorem extend_dict {R : Result → Shared → Prop} {d : Addr} {kvs : List (KK × Value)} {ep : Nat} (hh : A.handled = none) (hd : (d == sysModules) = false) (hm : s.heap.DictAt knd d kvs ep) (hlen : kvs.length ≤ sizeLine) (S : Addr) (res : Value) (c₀ : Nat) (hS : s.heap.get? S = some { cls := .type "list", data := .seq #[] c₀ })
    (hR : ∀ h' tk acc' c', (∀ b o, b ≠ S → s.heap.get? b = some o → h'.get? b = some o) → h'.get? S = some { cls := .type "list", dict := none, data := .seq acc' c', slots := #[] } →
      ItemsOf (fun i v => ∃ k x, kvs[i]? = some (k, x) ∧ knd.is k v = true) acc' kvs.length → R (.ok (.ret res)) { s with heap := h', toks := tk }) :
    wpAny (model prog w) A.in1 (Builtin.List.listExtendWith (.ref S) (.ref d) res)
      (fun fin s' => match fin with | .done f => R (.ok f) s' | .again c' => c'.quiet = true ∧ codeAny (model prog w) A c' R s') (fun e s' => R (.error e) s') s := by
  obtain ⟨od, es, hod, hcd, hdat, hk0, hp0, hn0⟩ := id hm
  have hT : s.TypeIs (.ref d) "dict" := hm.dictOf.typeIs
  have hSd : S ≠ d := fun e => by
    rw [e] at hS
    rw [hS] at hod
    cases hod
    cases hdat
  have hdI : d ≠ s.heap.objs.size := Nat.ne_of_lt (Heap.lt_size hod)
  have hSI : S ≠ s.heap.objs.size := Nat.ne_of_lt (Heap.lt_size hS)
  have hSf : S ∉ [s.heap.objs.size, d] := fun hm => by
    rcases List.mem_cons.mp hm with z | z
    · exact hSI z
    · exact hSd (List.mem_singleton.mp z)
  have W := (Walks.dictKeys (knd := knd) (A := A.in1) hh s.heap.objs.size d hdI kvs ep).toS
  unfold Builtin.List.listExtendWith
  refine wpAny_bind (wpAny_typeOf (T := "dict") hT ?_)
  have h1 : Builtin.List.listSameRef (.ref S) (.ref d) = false := by simp [Builtin.List.listSameRef, hSd]
  have h2 : (Value.type "dict" == Value.type "list") = false := by decide
  have h3 : (Value.type "dict" == Value.type "tuple") = false := by decide
  simp only [h1, h2, h3, Bool.or_false, Bool.false_eq_true, if_false]
  refine wpAny_bind (wpAny_pyIter_dict hd hm ?_)
  have hm1 : (s.heap.push { cls := .type "dict_keyiterator", data := .fields #[.ref d, .int 0 0, .int kvs.length 0, .int ep 0] }).DictAt knd d kvs ep := hm.at' fun o e => Heap.get?_push_of_some _ e
  refine wpAny_bind (wpAny_holding (hint_dict (knd := knd) hm1.dictOf ?_))
  have hS₁ := Heap.get?_push_of_some { cls := .type "dict_keyiterator", data := .fields #[.ref d, .int 0 0, .int kvs.length 0, .int ep 0] } hS
  have it₁ : (s.heap.push { cls := .type "dict_keyiterator", data := .fields #[.ref d, .int 0 0, .int kvs.length 0, .int ep 0] }).IsKeyIter s.heap.objs.size d 0 kvs.length ep := ⟨_, Heap.get?_push_size _ rfl, rfl, rfl⟩
  have key : ∀ (h : Heap) (c₁ tk : Nat), h.IsKeyIter s.heap.objs.size d 0 kvs.length ep → h.DictAt knd d kvs ep → (∀ b o, b ≠ S → s.heap.get? b = some o → h.get? b = some o) →
      h.get? S = some { cls := .type "list", data := .seq #[] c₁ } → codeAny (model prog w) A (.builtin "list.extend.loop" ⟨[.ref S, .ref s.heap.objs.size, res], []⟩) R { s with heap := h, toks := tk } := by
    intro h c₁ tk hit hdm hk hS₁
    refine codeAny_extend_loopS W hlen S hSf res kvs.length 0 _ #[] c₁ rfl (Nat.zero_le _) ⟨hit, hdm⟩ hS₁ (ItemsOf.nil _) fun s' acc' c' hm' hS' hacc => ?_
    rw [Moved.eq_with hm']
    refine hR s'.heap s'.toks acc' c' (fun b o hb e => hm'.heap b o (fun hmem => ?_) (hk b o hb e)) hS' hacc
    rcases List.mem_cons.mp hmem with e' | hmem
    · exact hb e'
    · exact absurd (Heap.lt_size e) (by rw [List.mem_singleton.mp hmem]; exact Nat.lt_irrefl _)
  refine wpAny_ite_split (fun _ => ?_) (fun _ => wpAny_pure ⟨plainId_quiet F.plain_extend_loop _, key _ c₀ _ it₁ hm1 (fun b o _ e => Heap.get?_push_of_some _ e) hS₁⟩)
  refine wpAny_bind (wpAny_rule ?_)
  refine wpAny_bind ?_
  show wpAny _ _ (updateSeq S (·.push .none) >>= fun _ => updateSeq S (·.pop)) _ _ _
  refine wpAny_bind (wpAny_updateSeq hS₁ rfl ?_)
  have hS₂ := Heap.get?_update_self (Obj.mapSeq (·.push Value.none)) hS₁ rfl
  refine wpAny_updateSeq (hz := by seq_fits) hS₂ rfl ?_
  have hS₃ := Heap.get?_update_self (Obj.mapSeq (·.pop)) hS₂ rfl
  refine wpAny_pure ⟨plainId_quiet F.plain_extend_loop _, key _ _ _ (it₁.at fun o e => ?_) (hm1.at' fun o e => ?_) (fun b o hb e => ?_) hS₃⟩
  · exact (Heap.get?_update_other _ _ hSI).trans ((Heap.get?_update_other _ _ hSI).trans e)
  · exact (Heap.get?_update_other _ _ hSd).trans ((Heap.get?_update_other _ _ hSd).trans e)
  · exact (Heap.get?_update_other _ _ (Ne.symm hb)).trans ((Heap.get?_update_other _ _ (Ne.symm hb)).trans (Heap.get?_push_of_some _ e))
theorem list_init_dict {R : Result → Shared → Prop} {d : Addr} {kvs : List (KK × Value)} {ep : Nat} (hh : A.handled = none) (hd : (d == sysModules) = false) (hm : s.heap.DictAt knd d kvs ep) (hlen : kvs.length ≤ sizeLine) (S : Addr) (hS : s.heap.get? S = some { cls := .type "list", data := .seq #[] })
    (hR : ∀ h' tk acc' c', (∀ b o, b ≠ S → s.heap.get? b = some o → h'.get? b = some o) → h'.get? S = some { cls := .type "list", dict := none, data := .seq acc' c', slots := #[] } →
      ItemsOf (fun i v => ∃ k x, kvs[i]? = some (k, x) ∧ knd.is k v = true) acc' kvs.length → R (.ok (.ret .none)) { s with heap := h', toks := tk }) :
    wpAny (model prog w) A.in1 (Builtin.«list.__init__» ⟨[.ref S, .ref d], []⟩)
      (fun fin s' => match fin with | .done f => R (.ok f) s' | .again c' => c'.quiet = true ∧ codeAny (model prog w) A c' R s') (fun e s' => R (.error e) s') s := by
  obtain ⟨od, es, hod, hcd, hdat, hk0, hp0, hn0⟩ := id hm
  have hSd : S ≠ d := fun e => by
    rw [e] at hS
    rw [hS] at hod
    cases hod
    cases hdat
  show wpAny _ _ (do let old ← Builtin.List.listItems (.ref S); Builtin.List.listUpdate (.ref S) (fun _ => #[]); letGo old.toList.reverse; Builtin.List.listExtendWith (.ref S) (.ref d) .none) _ _ s
  refine wpAny_bind ?_
  unfold Builtin.List.listItems
  refine wpAny_bind (wpAny_seqItems hS rfl (wpAny_pure ?_))
  show wpAny _ _ (updateSeq S (fun _ => #[]) >>= fun _ => letGo (#[] : Array Value).toList.reverse >>= fun _ => Builtin.List.listExtendWith (.ref S) (.ref d) .none) _ _ s
  refine wpAny_bind (wpAny_updateSeq hS rfl ?_)
  have hS₂ := Heap.get?_update_self (Obj.mapSeq (fun _ => (#[] : Array Value))) hS rfl
  have oth : ∀ b o, b ≠ S → s.heap.get? b = some o → (s.heap.update S (Obj.mapSeq (fun _ => (#[] : Array Value)))).get? b = some o :=
    fun b o hb e => (Heap.get?_update_other _ _ (Ne.symm hb)).trans e
  refine wpAny_bind (wpAny_letGo ?_)
  refine extend_dict hh hd (hm.at' fun o e => oth d o (Ne.symm hSd) e) hlen S .none _ hS₂ fun h' tk acc' c' hk hS' hacc => ?_
  exact hR h' tk acc' c' (fun b o hb e => hk b o hb (oth b o hb e)) hS' hacc
theorem call_list_dict {Q : Value → Shared → Prop} {d : Addr} {kvs : List (KK × Value)} {ep : Nat} (hh : A.handled = none) (hd : (d == sysModules) = false) (hm : s.heap.DictAt knd d kvs ep) (hlen : kvs.length ≤ sizeLine)
    (hQ : ∀ h' tk acc' c', (∀ b o, s.heap.get? b = some o → h'.get? b = some o) →
      h'.get? s.heap.objs.size = some { cls := .type "list", dict := none, data := .seq acc' c', slots := #[] } → ItemsOf (fun i v => ∃ k x, kvs[i]? = some (k, x) ∧ knd.is k v = true) acc' kvs.length → Q (.ref s.heap.objs.size) { s with heap := h', toks := tk }) :
    wpAny (model prog w) A (call (.type "list") [.ref d]) Q E s := by
  refine callType_codes (Q₁ := fun obj s₁ => obj = .ref s.heap.objs.size ∧ s₁ = { s with heap := s.heap.push { cls := .type "list", data := .seq #[] } }) F.called_list (F.typeCall_list_1 _) F.entry_list_init
    (code_list_new _ ⟨rfl, rfl⟩) fun obj s₁ h₁ => ?_
  obtain ⟨rfl, rfl⟩ := h₁
  have hS : (s.heap.push { cls := .type "list", data := .seq #[] }).get? s.heap.objs.size = some { cls := .type "list", data := .seq #[] } := Heap.get?_push_size _ rfl
  refine ⟨⟨_, hS, rfl⟩, F.args_list_init_2 _ _, list_init_dict (A := A.in1) hh hd (hm.at' fun o e => Heap.get?_push_of_some _ e) hlen _ hS fun h' tk acc' c' hk hS' hacc => ?_⟩
  exact ⟨rfl, hQ h' tk acc' c' (fun b o e => hk b o (Nat.ne_of_lt (Heap.lt_size e)) (Heap.get?_push_of_some _ e)) hS' hacc⟩
end
theorem paired_get {α β : Type} {F : α → β → Prop} : ∀ {l₁ : List α} {l₂ : List β} {i : Nat} {a : α}, Paired F l₁ l₂ → l₁[i]? = some a → ∃ b, l₂[i]? = some b ∧ F a b
  | _, _, _, _, .nil, h => by simp at h
  | _, _, 0, _, .cons r _, h => by
    cases h
    exact ⟨_, rfl, r⟩
  | _, _, i + 1, _, .cons _ t, h => by
    obtain ⟨b, e, f⟩ := paired_get (i := i) t (by simpa using h)
    exact ⟨b, by simpa using e, f⟩
theorem paired_of {α β : Type} {F : α → β → Prop} : ∀ {l₁ : List α} {l₂ : List β}, l₁.length = l₂.length → (∀ (i : Nat) (a : α) (b : β), l₁[i]? = some a → l₂[i]? = some b → F a b) → Paired F l₁ l₂
  | [], [], _, _ => .nil
  | a :: l₁, b :: l₂, h, f => .cons (f 0 a b rfl rfl) (paired_of (by simpa using h) fun i a b e1 e2 => f (i + 1) a b (by simpa using e1) (by simpa using e2))
  | [], _ :: _, h, _ => by simp at h
  | _ :: _, [], h, _ => by simp at h
theorem key_rel {P : Program} {w : World} {k : Key} {u : Value} (h : (mixKind P w).is k u = true) : RelV (kV k) u := by
  rcases keyIs_shape h with ⟨i, t, rfl, rfl⟩ | ⟨x, t, rfl, rfl⟩
  · exact ⟨t, rfl⟩
  · exact ⟨t, rfl⟩
section
variable {X : Cx}
def rListD : List V → Hp → VK → Prop := fun xs H Q => ∃ (p : Addr) (kvs : List (Key × V)), xs = [.ref p] ∧ Rd H p (.dK kvs) ∧ ∀ l, H l = none → Q (.ref l) (upd H l (.lst (kvs.map fun kv => kV kv.1)))
theorem call_listD (hc : X.calm = true) : CallR X (.type "list") rListD := by
  intro pins s σ H xs us Q I r h
  obtain ⟨p, kvs, rfl, hq, q⟩ := h
  obtain ⟨u, rfl, r1⟩ := vals1 r
  cases r1
  obtain ⟨z, hd, vs, rel, o, es, ep, ho, hx, hdat, hk, hp, hn⟩ := dk_rd I.hok hq
  have hl := rel.length
  refine call_list_dict (knd := mixKind X.prog X.w) (I.ok.hd hc) hd ⟨o, es, ho, hx, hdat, hk, hp, hn⟩ (by omega) fun h' tk acc' c' kk hS hacc => ?_
  have hn' := I.hok.fresh (Nat.le_refl s.heap.objs.size)
  have rv : Vals (kvs.map fun kv => kV kv.1) acc'.toList := paired_of (by have := hacc.1; simp; omega) fun i a b e1 e2 => by
    rw [List.getElem?_map] at e1
    obtain ⟨kv, ek, rfl⟩ := Option.map_eq_some_iff.mp e1
    obtain ⟨q', eq, e3, _⟩ := paired_get rel ek
    obtain ⟨k, x, e4, e5⟩ := hacc.2 i b (by simpa using e2)
    rw [eq] at e4
    cases e4
    rw [e3]
    exact key_rel e5
  have I2 : Inv X pins σ (upd H s.heap.objs.size (.lst (kvs.map fun kv => kV kv.1))) { s with heap := h', toks := tk } := I.laid (t' := tk) kk (Nat.le_refl _) ⟨by rw [List.length_map]; exact z, acc'.toList, c', rv, by simpa using hS⟩
  exact ⟨.ref _, _, I2, rfl, q _ hn'⟩
theorem Inv.freeze {pins : List (Addr × Obj)} {σ : L2.St} {H : Hp} {s : Shared} {d : Addr} {kvs : List (Key × V)} {o : Obj} (I : Inv X pins σ H s) (e : H d = some (.dK kvs)) (ho : s.heap.get? d = some o) : Inv X pins σ (upd H d (.frz o (.dK kvs))) s := by
  have nx : ∀ b u, H b = some u → b ≠ d → upd H d (.frz o (.dK kvs)) b = some u := fun b u q n => by rw [upd_ne n]; exact q
  refine I.step (g' := s.gens) (t' := s.toks) (d' := s.drawn) (ch := []) (fun _ z => nomatch z) (fun b o _ _ _ e _ => e) (fun b o _ _ _ e _ => ⟨o.slots, e⟩) (fun b o _ _ n => by rw [upd_ne (fun z => by rw [z, e] at n; cases n)]; exact n) (fun b o _ e => ⟨o, e⟩)
    (fun b xs q => nx b _ q fun z => by rw [z, e] at q; cases q) (fun b o' u q => nx b _ q fun z => by rw [z, e] at q; cases q) (fun b ps q => ⟨#[], by rw [nx b _ q fun z => by rw [z, e] at q; cases q]; simp⟩) (fun m hm => hm) (fun b u q => ?_) I.bare
  by_cases hb : b = d
  · subst hb
    rw [upd_same] at q
    cases q
    exact ⟨ho, I.hok b _ e⟩
  · rw [upd_ne hb] at q
    exact (I.hok b u q).stay (fun _ _ _ k => k) (fun c k => nx c _ k fun z => by rw [z, e] at k; cases k) fun c xs k => nx c _ k fun z => by rw [z, e] at k; cases k
def Itd (d : Addr) (o : Obj) (kvs : List (Key × V)) : It :=
  ⟨fun i H => H d = some (.frz o (.dK kvs)) ∧ i < kvs.length,
   fun i H v H' => ∃ p k x, kvs[i]? = some (k, x) ∧ v = .ref p ∧ H p = none ∧ H' = upd H p (.tup [kV k, x]),
   fun i H => H d = some (.frz o (.dK kvs)) ∧ kvs.length ≤ i⟩
theorem frz_at {P : Program} {w : World} {H : Hp} {h : Heap} {d : Addr} {o : Obj} {kvs : List (Key × V)} {es0 : Array DictEntry} {ep : Nat} (ok : HOk P w H h) (e : H d = some (.frz o (.dK kvs))) (he : o.data = .dict es0 ep) :
    (d == sysModules) = false ∧ ∃ vs, KV kvs vs ∧ h.DictAt (mixKind P w) d vs ep ∧ kvs.length ≤ sizeLine := by
  obtain ⟨h1, z, hd, vs, rel, o', es, ep', ho, hx, hdat, hk, hp, hn⟩ := ok d _ e
  rw [h1] at ho
  cases ho
  rw [he] at hdat
  cases hdat
  exact ⟨hd, vs, rel, ⟨o, es0, h1, hx, he, hk, hp, hn⟩, z⟩
theorem entry_iter_items : entryFor table "dict_itemiterator.__iter__" = some Builtin.«dict_keyiterator.__iter__» :=
  entryFor_alias (id' := "dict_keyiterator.__iter__") (by kernel_rfl) (by first | rfl | decide +kernel | (unfold String.splitOn; simp +decide [String.splitOnAux])) (by decide +kernel) (by kernel_rfl)
theorem iter_items {P : Program} {w : World} {A : Around} {E : Value → Shared → Prop} {s : Shared} {it d : Addr} {i n ep : Nat} {ok ov : Value} {Q : Value → Shared → Prop} (st : IsItemIter s.heap it d i n ep ok ov) (h : Q (.ref it) s) : wpAny (model P w) A (pyIter (.ref it)) Q E s := by
  have hT : s.TypeIs (.ref it) "dict_itemiterator" := ⟨_, st, rfl⟩
  refine wpAny_pyIter_slot hT F.slot_dict_itemiterator_iter (wpAny_call_entry F.slot_dict_itemiterator_iter hT entry_iter_items ?_ (F.args_dict_itemiterator_iter_1 _))
  show wpAny _ _ (ret (.ref it)) _ _ s
  exact wpAny_pure ⟨_, rfl, "dict_itemiterator", _, hT, F.slot_dict_itemiterator_next.lookup, h⟩
theorem turn_items {P : Program} {w : World} {K : PySem.W.Frag} {es : List Expr} {k : Nat} {pos : Pos} (d it : Addr) (o : Obj) (kvs : List (Key × V)) {es0 : Array DictEntry} {ep : Nat} (he : o.data = .dict es0 ep) (hne : it ≠ d) :
    Turn P w K (.Tuple es k pos) (Itd d o kvs) [it] it (fun i h => ∃ ok ov, IsItemIter h it d i kvs.length ep ok ov) where
  mem := by simp
  obj := fun i h st b hb => by
    have e : b = it := by simpa using hb
    subst e
    obtain ⟨ok, ov, st⟩ := st
    exact ⟨_, st, fun v z => by cases z⟩
  keep := fun i h h' st k => by
    obtain ⟨ok, ov, st⟩ := st
    exact ⟨ok, ov, k it (by simp) _ st⟩
  item := by
    intro X hP hw hK hc i pins s σ H E I hf st hg
    subst hP hw hK
    obtain ⟨ok, ov, st⟩ := st
    obtain ⟨fz, hi⟩ := hg
    obtain ⟨hd, vs, rel, da, _⟩ := frz_at I.hok fz he
    have ek : kvs[i]? = some kvs[i] := List.getElem?_eq_getElem hi
    obtain ⟨⟨k', u⟩, ev, e1, ru⟩ := paired_get rel ek
    have lv := rel.length
    rw [lv] at st
    refine wpAny_pyNext_items_item st da ev fun key h' hkey out tup sz kk => ?_
    refine ⟨_, rfl, wpAny_letOwnedTupleGo_items (s := { s with heap := h' }) out fun h'' it'' sb => ?_⟩
    have hsz : ∀ c o, s.heap.get? c = some o → s.heap.objs.size ≠ c := fun c o e => Nat.ne_of_gt (Heap.lt_size e)
    have tz : s.heap.objs.size ≠ it := hsz _ _ st
    have nz : ∀ c, c ≠ it → ∀ o, h'.get? c = some o → h''.get? c = some o := fun c hc o e => (sb.2 c hc).trans e
    have hn := I.hok.fresh (Nat.le_refl s.heap.objs.size)
    have e1' : kvs[i].1 = k' := e1
    have I2 : Inv X pins σ (upd H s.heap.objs.size (.tup [kV kvs[i].1, kvs[i].2])) { s with heap := h'', toks := s.toks } :=
      Inv.turnedT I (fun b o hb e => nz b (by simpa using hb) o (kk b o (by simpa using hb) e)) hf (Nat.le_refl _) (by show 2 ≤ sizeLine; decide) (its := [key, u]) (.cons (by rw [e1']; exact key_rel hkey) (.cons ru .nil)) ⟨_, nz _ tz _ tup, rfl, _, rfl⟩
    refine ⟨.ref s.heap.objs.size, _, I2, rfl, ⟨s.heap.objs.size, kvs[i].1, kvs[i].2, ek, rfl, hn, rfl⟩, ⟨_, _, by rw [lv]; exact it''⟩, fun b hb => ?_⟩
    have eb : b = it := by simpa using hb
    rw [upd_ne (by rw [eb]; exact Ne.symm tz)]
    exact (hf b hb).1
  done := by
    intro X hP hw hK hc i pins s σ H E I hf st hg
    subst hP hw hK
    obtain ⟨ok, ov, st⟩ := st
    obtain ⟨fz, hi⟩ := hg
    obtain ⟨hd, vs, rel, da, _⟩ := frz_at I.hok fz he
    have lv := rel.length
    rw [lv] at st
    obtain ⟨f0, f1, f2, f3, f4, f5⟩ := hf it (by simp)
    exact wpAny_pyNext_items_end (I.ok.hd hc) st da (List.getElem?_eq_none (by omega)) fun h' eb => ⟨rfl, I.turned (t' := s.toks) (fun b o hb e => eb b o hb e) f0 f1 f3 f4 f5⟩
  self := fun _ _ _ _ _ st h => by
    obtain ⟨ok, ov, st⟩ := st
    exact iter_items st h
def iItems (te : TE) : TI := fun σ H R => te σ H fun x H1 => ∃ d kvs, x = .ref d ∧ H1 d = some (.dK kvs) ∧ ∀ o, R (Itd d o kvs) (upd H1 d (.frz o (.dK kvs)))
theorem pi_items {e : Expr} {te : TE} {apos cpos : Pos} {es : List Expr} {k : Nat} {tpos : Pos} (ho : PE X e te) (hbase : attributeBase e "items" X.env (eval e X.env) = eval e X.env := by rfl) (hline : (apos.endLine == cpos.line) = true := by rfl) :
    PI X (.Tuple es k tpos) (.Call (.Attribute e "items" apos) [] [] cpos) (iItems te) := by
  intro pins s σ H R I h
  refine wpAny_Call_method0_late hbase hline (thn (ho pins s σ H _ I h) fun v s1 ⟨x, H1, I1, r1, q1⟩ => ?_)
  obtain ⟨d, kvs, rfl, e, q⟩ := q1
  cases r1
  obtain ⟨z, hd, vs, rel, o, es1, ep, ho1, hx, hdat, hk, hp, hn⟩ := dk_of I1.hok e
  obtain ⟨h1, h2⟩ := tyV_is (T := "dict") I1 (show RelV (.ref d) (.ref d) from rfl) (.inr (.inr (.inl ⟨rfl, .inl ⟨kvs, e⟩⟩)))
  have da : s1.heap.DictAt (mixKind X.prog X.w) d vs ep := ⟨o, es1, ho1, hx, hdat, hk, hp, hn⟩
  have lv := rel.length
  refine ⟨"dict", "dict.items", F.plainAttrs_dict, F.slot_dict_items, F.type_dict_items, h1, h2, Calls.callWith_builtin rfl (PySem.evalArgs_none ?_)⟩
  refine call_meetsIn F.slot_dict_items h1 F.entry_dict_items (F.args_dict_items_1 _) (meets_dict_items (mixKind X.prog X.w) d hd) ⟨⟨vs, da.dictOf⟩, ?_⟩
  have I2 := Inv.freeze I1 e ho1
  have da2 : (s1.heap.push { cls := .type "dict_items", data := .fields #[.ref d] }).DictAt (mixKind X.prog X.w) d vs ep := da.at' fun o e => Heap.get?_push_of_some _ e
  show wpAny (model X.prog X.w) X.A (pyIter (.ref s1.heap.objs.size)) _ _ _
  refine wpAny_pyIter_items (s := { s1 with heap := s1.heap.push { cls := .type "dict_items", data := .fields #[.ref d] } }) ⟨_, Heap.get?_push_size _ rfl, rfl, rfl⟩ da2 ?_
  have sz : (s1.heap.push { cls := .type "dict_items", data := .fields #[.ref d] }).objs.size = s1.heap.objs.size + 1 := Heap.size_push ..
  have ne : (s1.heap.push { cls := .type "dict_items", data := .fields #[.ref d] }).objs.size ≠ d := by
    rw [sz]
    exact Ne.symm (Nat.ne_of_lt (Nat.lt_succ_of_lt (Heap.lt_size ho1)))
  have I3 : Inv X pins σ (upd H1 d (.frz o (.dK kvs))) { s1 with heap := (s1.heap.push { cls := .type "dict_items", data := .fields #[.ref d] }).push { cls := .type "dict_itemiterator", data := .fields #[.none, .bool false, .ref d, .int 0 0, .int vs.length 0, .int ep 0, .none, .none] } } := I2.kept (t' := s1.toks) fun b o e => Heap.get?_push_of_some _ (Heap.get?_push_of_some _ e)
  refine ⟨_, [_], _, _, _, rfl, I3, turn_items d _ o kvs hdat ne, ⟨_, _, by rw [lv]; exact Heap.get?_push_size _ rfl⟩, fun b hb => ?_, q o⟩
  have eb : b = (s1.heap.push { cls := .type "dict_items", data := .fields #[.ref d] }).objs.size := by simpa using hb
  have le : s1.heap.objs.size ≤ b := by rw [eb, sz]; exact Nat.le_succ _
  exact I2.fpOk le (I2.hok.fresh le)
end
end Ty

set_option maxHeartbeats 4000000
namespace Ty
def ev : List Int → (Nat → Rat) → Rat
  | [], _ => 0
  | a :: r, z => (a : Rat) * z 0 + ev r (fun i => z (i + 1))
theorem ev_lin {s t u : Int} : ∀ {new line lead : List Int}, new.length = line.length → lead.length = line.length → (∀ j, s * new.getD j 0 = t * line.getD j 0 - u * lead.getD j 0) → ∀ z : Nat → Rat, (s : Rat) * ev new z = t * ev line z - u * ev lead z
  | [], [], [], _, _, _, z => by simp [ev]; grind
  | a :: new, b :: line, c :: lead, h1, h2, h, z => by
    have h0 := h 0
    have ih := ev_lin (by simpa using h1) (by simpa using h2) (fun j => by simpa using h (j + 1)) (fun i => z (i + 1))
    simp at h0
    have h0' : (s : Rat) * a = t * b - u * c := by exact_mod_cast h0
    simp only [ev]
    grind
  | [], _ :: _, _, h, _, _, _ => by simp at h
  | _ :: _, [], _, h, _, _, _ => by simp at h
  | _, [], _ :: _, _, h, _, _ => by simp at h
  | _, _ :: _, [], _, h, _, _ => by simp at h
def csum : List Rat → List (List Int) → Nat → Rat
  | c :: y, o :: os, j => c * ((o.getD j 0 : Int) : Rat) + csum y os j
  | _, _, _ => 0
def Comb (os : List (List Int)) (l : List Int) : Prop := ∃ y : List Rat, y.length = os.length ∧ ∀ j, ((l.getD j 0 : Int) : Rat) = csum y os j
def zOf (y : List Rat) : Nat → Rat := fun i => if i < y.length then y.getD i 0 else -1
structure Clr (line lead new : List Int) (c : Nat) : Prop where
  len : new.length = line.length
  nought : new.getD c 0 = 0
  lin : ∃ s t u : Int, s ≠ 0 ∧ t ≠ 0 ∧ ∀ j, s * new.getD j 0 = t * line.getD j 0 - u * lead.getD j 0
theorem Clr.zero {line lead new : List Int} {c : Nat} (h : Clr line lead new c) {j : Nat} (h1 : line.getD j 0 = 0) (h2 : lead.getD j 0 = 0) : new.getD j 0 = 0 := by
  obtain ⟨s, t, u, hs, _, e⟩ := h.lin
  have := e j
  rw [h1, h2, Int.mul_zero, Int.mul_zero, Int.sub_self] at this
  rcases Int.mul_eq_zero.mp this with z | z
  · exact absurd z hs
  · exact z
theorem Clr.at {line lead new : List Int} {c : Nat} (h : Clr line lead new c) {j : Nat} (h2 : lead.getD j 0 = 0) (h1 : line.getD j 0 ≠ 0) : new.getD j 0 ≠ 0 := by
  obtain ⟨s, t, u, hs, ht, e⟩ := h.lin
  have := e j
  rw [h2] at this
  intro z
  rw [z, Int.mul_zero, Int.mul_zero, Int.sub_zero] at this
  rcases Int.mul_eq_zero.mp this.symm with y | y
  · exact ht y
  · exact h1 y
theorem Clr.ev {line lead new : List Int} {c : Nat} (h : Clr line lead new c) (hl : lead.length = line.length) {z : Nat → Rat} (h2 : Ty.ev lead z = 0) : Ty.ev new z = 0 ↔ Ty.ev line z = 0 := by
  obtain ⟨s, t, u, hs, ht, e⟩ := h.lin
  have k := ev_lin h.len hl e z
  rw [h2] at k
  have hs' := ratne hs
  have ht' := ratne ht
  constructor
  · intro w
    rw [w] at k
    grind
  · intro w
    rw [w] at k
    grind
end Ty

set_option maxHeartbeats 4000000
namespace Ty
open PySem PySem.Spec PyProof.Rows L2
def Itn (K : PySem.W.Frag) (a : Addr) : It :=
  ⟨fun i H => ∃ xs x, SqL K H a xs ∧ xs[i]? = some x,
   fun i H v H' => ∃ p x, (∀ xs, SqL K H a xs → xs[i]? = some x) ∧ v = .ref p ∧ H p = none ∧ H' = upd H p (.tup [.int (i : Int), x]),
   fun i H => ∃ xs, SqL K H a xs ∧ xs.length ≤ i⟩
section
variable {X : Cx}
def iEnum (K : PySem.W.Frag) (ta : TA) : TI := fun σ H R => ta σ H fun vs H1 => ∃ a, vs = [.ref a] ∧ (∃ xs, SqL K H1 a xs) ∧ R (Itn K a) H1
def rAny (K : PySem.W.Frag) : List V → Hp → VK → Prop := fun xs H Q => ∃ (p : Addr) (bs : List Bool), xs = [.ref p] ∧ SqL K H p (bs.map V.bl) ∧ Q (.bl (bs.any id)) H
end
theorem for_items {d : Addr} {o : Obj} {kvs : List (Key × V)} {g : TG} {tb : TS} {D : Ends} {σ : L2.St} {H : Hp} (Pv : Nat → L2.St → Hp → Prop) (h0 : Pv 0 σ H) (hl : ∀ i σ H, i ≤ kvs.length → Pv i σ H → H d = some (.frz o (.dK kvs)))
    (hs : ∀ i k x σ H p, kvs[i]? = some (k, x) → Pv i σ H → H p = none → g (.ref p) σ (upd H p (.tup [kV k, x])) fun σ2 H2 => tb { D with nx := Pv (i + 1), ct := Pv (i + 1), bk := D.nx } σ2 H2) (hd : ∀ σ H, Pv kvs.length σ H → D.nx σ H) :
    ∃ W : Nat → Nat → L2.St → Hp → Prop, (∃ m, W 0 m σ H) ∧ ∀ i m σ H, W i m σ H →
      ((Itd d o kvs).stop i H ∧ D.nx σ H) ∨ ((Itd d o kvs).go i H ∧ ∃ N : L2.St → Hp → Prop, (∀ σ' H', N σ' H' → ∃ m', m' < m ∧ W (i + 1) m' σ' H') ∧ ∀ x H', (Itd d o kvs).yld i H x H' → g x σ H' fun σ2 H2 => tb { D with nx := N, ct := N, bk := D.nx } σ2 H2) := by
  refine ⟨fun i m σ H => m = kvs.length - i ∧ i ≤ kvs.length ∧ Pv i σ H, ⟨kvs.length, by simp, Nat.zero_le _, h0⟩, ?_⟩
  rintro i m σ H ⟨rfl, hi, p⟩
  have q := hl i σ H hi p
  by_cases hlt : i < kvs.length
  · refine .inr ⟨⟨q, hlt⟩, Pv (i + 1), fun σ' H' z => ⟨kvs.length - (i + 1), by omega, rfl, by omega, z⟩, fun x H' y => ?_⟩
    obtain ⟨pp, k, x', y1, rfl, np, rfl⟩ := y
    exact hs i k x' σ H pp y1 p np
  · have e : i = kvs.length := by omega
    subst e
    exact .inl ⟨⟨q, Nat.le_refl _⟩, hd σ H p⟩
end Ty

set_option maxHeartbeats 4000000
namespace Ty
open PySem PySem.Spec PyProof.Rows L2
open Builtin.Int (intBits)
section
variable {X : Cx}
def CMulS (i j : Int) : Prop := intBits i + intBits j ≤ 134217728
def rIsiT (K : PySem.W.Frag) : List V → Hp → VK → Prop := fun xs H Q => ∃ p ys, xs = [.ref p, .ty "tuple"] ∧ SqT K H p ys ∧ Q (.bl true) H
theorem call_isiT : CallR X (.builtin "isinstance") (rIsiT X.K) := by
  intro pins s σ H xs us Q I r h
  obtain ⟨p, ys, rfl, hq, q⟩ := h
  obtain ⟨u, w, rfl, r1, r2⟩ := vals2 r
  obtain rfl := cls_rel (c := .ty "tuple") rfl r2
  cases r1
  obtain ⟨its, rv, ⟨o, h1, h2, _⟩, _⟩ := I.tuple hq
  have e : PySem.W.kitOne X.K (.type "tuple") (clsV (.ty "tuple")) = some true := by unfold PySem.W.kitOne; rw [if_pos (by decide)]
  exact PySem.W.kia_one PySem.W.kitx_tuple I.kIn ⟨o, h1, h2⟩ e (fun z => nomatch z) fun tk => ⟨.bl true, H, I.tok tk, rfl, q⟩
end
theorem Same.seqT {K : PySem.W.Frag} {H H' : Hp} {a : Addr} {xs : List V} (e : Same H H') (h : SqT K H a xs) : SqT K H' a xs := by
  rcases h with (h | ⟨o, h⟩) | h
  · exact .inl (.inl (e _ _ h))
  · exact .inl (.inr ⟨o, e _ _ h⟩)
  · exact .inr h
section
variable {D : Addr} {te : TE} {cap : L2.St} {H1 : Hp} {Q : VK}
end
def NmK (K : PySem.W.Frag) (H : Hp) (v : V) (q : Int × Int) : Prop := ∃ p, v = .ref p ∧ SqT K H p [.int q.1, .int q.2]
theorem NmK.same {K : PySem.W.Frag} {H H' : Hp} {v : V} {q : Int × Int} (h : NmK K H v q) (s : Same H H') : NmK K H' v q := by
  obtain ⟨p, e, k⟩ := h
  exact ⟨p, e, Ty.Same.seqT s k⟩
def NmsK (K : PySem.W.Frag) (H : Hp) (us : List V) (qs : List (Int × Int)) : Prop := us.length = qs.length ∧ ∀ (i : Nat) (u : V) (q : Int × Int), us[i]? = some u → qs[i]? = some q → NmK K H u q
theorem NmsK.same {K : PySem.W.Frag} {H H' : Hp} {us : List V} {qs : List (Int × Int)} (h : NmsK K H us qs) (s : Same H H') : NmsK K H' us qs := ⟨h.1, fun i u q e1 e2 => (h.2 i u q e1 e2).same s⟩
theorem NmsK.at {K : PySem.W.Frag} {H : Hp} {us : List V} {qs : List (Int × Int)} (h : NmsK K H us qs) {i : Nat} {u : V} (e : us[i]? = some u) : ∃ q, qs[i]? = some q ∧ NmK K H u q := by
  have hi : i < us.length := (List.getElem?_eq_some_iff.mp e).1
  have hl := h.1
  have e2 : qs[i]? = some (qs[i]'(by omega)) := List.getElem?_eq_getElem (by omega)
  exact ⟨_, e2, h.2 i u _ e e2⟩
theorem NmsK.at' {K : PySem.W.Frag} {H : Hp} {us : List V} {qs : List (Int × Int)} (h : NmsK K H us qs) {i : Nat} {q : Int × Int} (e : qs[i]? = some q) : ∃ u, us[i]? = some u ∧ NmK K H u q := by
  have hi : i < qs.length := (List.getElem?_eq_some_iff.mp e).1
  have hl := h.1
  have e2 : us[i]? = some (us[i]'(by omega)) := List.getElem?_eq_getElem (by omega)
  exact ⟨_, e2, h.2 i _ q e2 e⟩
theorem NmsK.set {K : PySem.W.Frag} {H : Hp} {us : List V} {qs : List (Int × Int)} {j : Nat} {v : V} {q : Int × Int} (h : NmsK K H us qs) (n : NmK K H v q) : NmsK K H (us.set j v) (qs.set j q) := by
  refine ⟨by simp [h.1], fun i u q' e1 e2 => ?_⟩
  rw [List.getElem?_set] at e1 e2
  by_cases c : j = i
  · subst c
    rw [if_pos rfl] at e1 e2
    have l := h.1
    by_cases hj : j < us.length
    · rw [if_pos hj] at e1
      rw [if_pos (by omega)] at e2
      cases e1
      cases e2
      exact n
    · rw [if_neg hj] at e1
      cases e1
  · rw [if_neg c] at e1 e2
    exact h.2 i u q' e1 e2
def RowK (K : PySem.W.Frag) (H : Hp) (a : Addr) (qs : List (Int × Int)) : Prop := ∃ us, SqL K H a us ∧ NmsK K H us qs
theorem RowK.same {K : PySem.W.Frag} {H H' : Hp} {a : Addr} {qs : List (Int × Int)} (h : RowK K H a qs) (s : Same H H') : RowK K H' a qs := by
  obtain ⟨us, h1, h2⟩ := h
  exact ⟨us, s.seq h1, h2.same s⟩
def sumTo : Nat → (Nat → Rat) → Rat
  | 0, _ => 0
  | n + 1, f => f 0 + sumTo n (fun i => f (i + 1))
end Ty

set_option maxHeartbeats 4000000
namespace Ty
open PySem PySem.Spec PyProof.Rows L2
section
variable {X : Cx}
def iItemsR (te : TE) : TI := fun σ H R => te σ H fun x H1 => ∃ d kvs, x = .ref d ∧ Rd H1 d (.dK kvs) ∧ ∀ o, R (Itd d o kvs) (upd H1 d (.frz o (.dK kvs)))
end
section
variable {D : Addr} {te : TE} {cap : L2.St} {H1 : Hp} {Q : VK}
end
end Ty

set_option maxHeartbeats 4000000
namespace Ty
open PySem PySem.Spec PyProof.Rows L2
section
variable {X : Cx}
theorem vals_ints : ∀ {us : List Value} {ns : List Int}, IntsAre us ns → Vals (ns.map V.int) us
  | _, _, .nil => .nil
  | _, _, .cons n t h => .cons ⟨t, rfl⟩ (vals_ints h)
def rSorted (K : PySem.W.Frag) : List V → Hp → VK → Prop := fun xs H Q => ∃ (p : Addr) (ns : List Int), xs = [.ref p] ∧ SqL K H p (ns.map V.int) ∧ ns.length < 64 ∧ ∀ (l : Addr) (ms : List Int), H l = none → ms.Perm ns → ms.Pairwise (· ≤ ·) → Q (.ref l) (upd H l (.lst (ms.map V.int)))
def tListR (ta : TA) : TE := fun σ H Q => ta σ H fun vs H1 => ∃ n : Nat, vs = [.int (n : Int)] ∧ n ≤ 1000 ∧ ∀ l, H1 l = none → Q (.ref l) (upd H1 l (.lst ((List.range n).map fun (i : Nat) => V.int (i : Int))))
def Itv (d : Addr) (o : Obj) (kvs : List (Key × V)) : It :=
  ⟨fun i H => H d = some (.frz o (.dK kvs)) ∧ i < kvs.length,
   fun i H v H' => H' = H ∧ ∃ k, kvs[i]? = some (k, v),
   fun i H => H d = some (.frz o (.dK kvs)) ∧ kvs.length ≤ i⟩
theorem turn_vals {P : Program} {w : World} {K : PySem.W.Frag} {tg : Expr} (d it : Addr) (o : Obj) (kvs : List (Key × V)) {es0 : Array DictEntry} {ep : Nat} (he : o.data = .dict es0 ep) :
    Turn P w K tg (Itv d o kvs) [it] it (fun i h => h.IsValIter it d i kvs.length ep) where
  mem := by simp
  obj := fun i h st b hb => by
    have e : b = it := by simpa using hb
    subst e
    obtain ⟨o, e, c, d⟩ := st
    exact ⟨o, e, fun v z => by rw [d] at z; cases z⟩
  keep := fun i h h' st k => st.at fun o e => k it (by simp) o e
  item := by
    intro X hP hw hK hc i pins s σ H E I hf st hg
    subst hP hw hK
    obtain ⟨fz, hi⟩ := hg
    obtain ⟨hd, vs, rel, da, _⟩ := frz_at I.hok fz he
    have ek : kvs[i]? = some kvs[i] := List.getElem?_eq_getElem hi
    obtain ⟨⟨k', u⟩, ev, e1, ru⟩ := paired_get rel ek
    have lv := rel.length
    rw [lv] at st
    obtain ⟨f0, f1, f2, f3, f4, f5⟩ := hf it (by simp)
    refine wpAny_pyNext_values_item st da ev fun h' st' sb => ?_
    have I1 : Inv X pins σ H { s with heap := h' } := I.turned (t' := s.toks) (fun b o hb e => (sb.2 b hb).trans e) f0 f1 f3 f4 f5
    rw [← lv] at st'
    obtain ⟨o', e', c', d'⟩ := id st'
    exact ⟨u, rfl, go_of (s := { s with heap := h' }) e' c' d' (by decide) ⟨kvs[i].2, H, I1, ru, ⟨rfl, kvs[i].1, ek⟩, st', fun b hb => (hf b hb).1⟩⟩
  done := by
    intro X hP hw hK hc i pins s σ H E I hf st hg
    subst hP hw hK
    obtain ⟨fz, hi⟩ := hg
    obtain ⟨hd, vs, rel, da, _⟩ := frz_at I.hok fz he
    have lv := rel.length
    rw [lv] at st
    obtain ⟨f0, f1, f2, f3, f4, f5⟩ := hf it (by simp)
    exact wpAny_pyNext_values_end (I.ok.hd hc) st da (List.getElem?_eq_none (by omega)) fun h' eb => ⟨rfl, I.turned (t' := s.toks) (fun b o hb e => eb b o hb e) f0 f1 f3 f4 f5⟩
  self := fun _ _ _ _ _ st h => wpAny_pyIter_valiter st h
def iVals (te : TE) : TI := fun σ H R => te σ H fun x H1 => ∃ d o kvs, x = .ref d ∧ H1 d = some (.frz o (.dK kvs)) ∧ R (Itv d o kvs) H1
theorem for_vals {d : Addr} {o : Obj} {kvs : List (Key × V)} {g : TG} {tb : TS} {D : Ends} {σ : L2.St} {H : Hp} (Pv : Nat → L2.St → Hp → Prop) (h0 : Pv 0 σ H) (hl : ∀ i σ H, i ≤ kvs.length → Pv i σ H → H d = some (.frz o (.dK kvs)))
    (hs : ∀ i k x σ H, kvs[i]? = some (k, x) → Pv i σ H → g x σ H fun σ2 H2 => tb { D with nx := Pv (i + 1), ct := Pv (i + 1), bk := D.nx } σ2 H2) (hd : ∀ σ H, Pv kvs.length σ H → D.nx σ H) :
    ∃ W : Nat → Nat → L2.St → Hp → Prop, (∃ m, W 0 m σ H) ∧ ∀ i m σ H, W i m σ H →
      ((Itv d o kvs).stop i H ∧ D.nx σ H) ∨ ((Itv d o kvs).go i H ∧ ∃ N : L2.St → Hp → Prop, (∀ σ' H', N σ' H' → ∃ m', m' < m ∧ W (i + 1) m' σ' H') ∧ ∀ x H', (Itv d o kvs).yld i H x H' → g x σ H' fun σ2 H2 => tb { D with nx := N, ct := N, bk := D.nx } σ2 H2) := by
  refine ⟨fun i m σ H => m = kvs.length - i ∧ i ≤ kvs.length ∧ Pv i σ H, ⟨kvs.length, by simp, Nat.zero_le _, h0⟩, ?_⟩
  rintro i m σ H ⟨rfl, hi, p⟩
  have q := hl i σ H hi p
  by_cases hlt : i < kvs.length
  · refine .inr ⟨⟨q, hlt⟩, Pv (i + 1), fun σ' H' z => ⟨kvs.length - (i + 1), by omega, rfl, by omega, z⟩, fun x H' y => ?_⟩
    obtain ⟨rfl, k, ek⟩ := y
    exact hs i k x σ _ ek p
  · have e : i = kvs.length := by omega
    subst e
    exact .inl ⟨⟨q, Nat.le_refl _⟩, hd σ H p⟩
def tClear (H0 : Hp) (te : TE) : TE := fun σ H Q => te σ H fun x H1 => ∃ d o kvs, x = .ref d ∧ H1 d = some (.frz o (.dK kvs)) ∧ H0 d = none ∧ Q .non (upd H1 d (.dK []))
end
end Ty

set_option maxHeartbeats 4000000
namespace Ty
open PySem PySem.Spec PyProof.Rows L2
section
variable {X : Cx}
theorem vals_rev {xs : List V} {us : List Value} (h : Vals xs us) : Vals xs.reverse us.reverse := by
  have hl := h.length
  refine paired_of (by simp [hl]) fun i a b e1 e2 => ?_
  have hi : i < xs.length := by
    have := (List.getElem?_eq_some_iff.mp e1).1
    simpa using this
  rw [List.getElem?_reverse hi] at e1
  rw [List.getElem?_reverse (by omega), ← hl] at e2
  obtain ⟨b', e3, r⟩ := paired_get h e1
  rw [e2] at e3
  cases e3
  exact r
def tRev (K : PySem.W.Frag) (te ts : TE) : TE := fun σ H Q => te σ H fun x H1 => ts σ H1 fun y H2 => y = .int (-1) ∧ ∃ l xs, x = .ref l ∧ SqL K H2 l xs ∧ ∀ p, H2 p = none → Q (.ref p) (upd H2 p (.lst xs.reverse))
theorem pe_rev {K : PySem.W.Frag} {e st : Expr} {te ts : TE} {p2 pos : Pos} (hK : X.K = K) (he : PE X e te) (hs : PE X st ts) : PE X (.Subscript e (.Slice none none (some st) p2) pos) (tRev K te ts) := by
  subst hK
  intro pins s σ H Q I h
  refine Subscript_ (thn (he pins s σ H _ I h) fun v s1 ⟨x, H1, I1, r1, q1⟩ => ?_)
  refine wpAny_Slice ?_
  rw [evalPart_none]
  refine wpAny_pure (wpAny_pure ?_)
  rw [evalPart_some]
  refine thn (hs pins s1 σ H1 _ I1 q1) fun vk s3 ⟨y, H3, I3, ry, q3⟩ => ?_
  obtain ⟨rfl, l, xs, rfl, hx, q⟩ := q3
  obtain ⟨t, rfl⟩ := ry
  cases r1
  have I4 : Inv X pins σ H3 { s3 with heap := s3.heap.push { cls := .type "slice", data := .fields #[.none, .none, .int (-1) t] } } := I3.kept (t' := s3.toks) fun b ob q => Heap.get?_push_of_some _ q
  obtain ⟨its, r, ht, hz⟩ := I4.list hx
  have hlen := r.length
  show wpAny (model X.prog X.w) X.A (subscriptTail e (.Slice none none (some st) p2) (.ref l) (.ref s3.heap.objs.size)) (EP X pins σ Q) X.xe { s3 with heap := s3.heap.push { cls := .type "slice", data := .fields #[.none, .none, .int (-1) t] } }
  refine tail_any (ops := [.ref l, .ref s3.heap.objs.size]) ht.isList.typeIs slot_list_getitem.lookup ?_ (by with_unfolding_all rfl)
  refine wpAny_getItem_list_slice ht.isList (Heap.IsSliceOf.new ..) .none .none (.int (-1) t) (by decide) ?_ (by rw [List.size_toArray] <;> omega)
  rw [PySem.W.krv_pick]
  refine ⟨.ref _, _, I4.laid (t' := s3.toks) (o := .lst xs.reverse) (fun b ob q => Heap.get?_push_of_some _ q) (Nat.le_refl _) ?_, rfl, q _ (I4.hok.fresh (Nat.le_refl _))⟩
  exact ⟨by rw [List.length_reverse]; exact hz, its.reverse, 0, vals_rev r, Heap.get?_push_size _ rfl⟩
def rLenD : List V → Hp → VK → Prop := fun xs H Q => ∃ (p : Addr) (kvs : List (Key × V)), xs = [.ref p] ∧ Rd H p (.dK kvs) ∧ Q (.int (kvs.length : Int)) H
theorem call_lenD : CallR X (.builtin "len") rLenD := by
  intro pins s σ H xs us Q I r h
  obtain ⟨p, kvs, rfl, hq, q⟩ := h
  obtain ⟨u, rfl, r1⟩ := vals1 r
  cases r1
  exact d_len I hq fun t s' I' => ⟨.int _, H, I', ⟨t, rfl⟩, q⟩
end
section
variable {D : Addr} {te : TE} {cap : L2.St} {H1 : Hp} {Q : VK}
end
end Ty

set_option maxHeartbeats 4000000
namespace Ty
open PySem PySem.Spec PyProof.Rows L2
section
variable {X : Cx}
theorem Inv.thawG {pins : List (Addr × Obj)} {σ : L2.St} {H : Hp} {s : Shared} {d : Addr} {u : HO} {o : Obj} (I : Inv X pins σ H s) (e : H d = some (.frz o u)) (n : ∀ o' u', X.H₀ d ≠ some (.frz o' u')) (nt : ∀ xs, u ≠ .tup xs) : Inv X pins σ (upd H d u) s := by
  have nx : ∀ b u', H b = some u' → b ≠ d → upd H d u b = some u' := fun b u q n => by rw [upd_ne n]; exact q
  have nn : ∀ b, H b = none → upd H d u b = none := fun b q => by rw [upd_ne (fun z => by rw [z, e] at q; cases q)]; exact q
  refine ⟨I.ok, I.os, I.bare, ⟨I.base.keep, I.base.slot, fun b ob q z hx => nn b (I.base.free b ob q z hx), I.base.there, fun b xs q => ?_, fun b ob u' q => ?_, fun b ps q => ?_⟩, I.loc, I.cell, nn _ I.free, fun x c q => nn _ (I.freeC x c q), fun p hp => ?_, ?_, I.len⟩
  · have z := I.base.tups b xs q
    exact nx b _ z fun y => by rw [y, e] at z; cases z
  · have z := I.base.frzs b ob u' q
    exact nx b _ z fun y => by rw [y] at q; exact n _ _ q
  · obtain ⟨m, z⟩ := I.base.tbls b ps q
    exact ⟨m, nx b _ z fun y => by rw [y, e] at z; cases z⟩
  · obtain ⟨a1, a2, a3⟩ := I.pin p hp
    exact ⟨a1, nn _ a2, a3⟩
  · have st : ∀ {b u'}, ObjOk X.prog X.w H s.heap b u' → ObjOk X.prog X.w (upd H d u) s.heap b u' := fun {b u'} k => k.stay (fun _ _ _ z => z) (fun c z => nx c _ z fun y => by rw [y, e] at z; cases z) fun c xs z => nx c _ z fun y => by rw [y, e] at z; cases z
    intro b u' q
    by_cases hb : b = d
    · subst hb
      rw [upd_same] at q
      cases q
      exact st (I.hok b _ e).2
    · rw [upd_ne hb] at q
      exact st (I.hok b u' q)
def tThaw (H0 : Hp) (t : TS) : TS := fun D σ H => t { D with nx := fun σ' H' => ∃ d o kvs, H' d = some (.frz o (.dK kvs)) ∧ (∀ o' u', H0 d ≠ some (.frz o' u')) ∧ D.nx σ' (upd H' d (.dK kvs)) } σ H
theorem ps_thaw {st : Stmt} {t : TS} (h : PS X st t) : PS X st (tThaw X.H₀ t) := by
  intro pins s σ H D I q
  refine wpAny_mono (h pins s σ H _ I q) (fun f s' z => ?_) fun _ _ z => z
  cases f with
  | next =>
    obtain ⟨σ', H', I', d, o, kvs, e, n, k⟩ := z
    exact ⟨σ', _, Inv.thawG I' e n (fun _ z => nomatch z), k⟩
  | brk => exact z
  | cont => exact z
  | ret u => exact z
def Itk (d : Addr) (o : Obj) (kvs : List (Key × V)) : It :=
  ⟨fun i H => H d = some (.frz o (.dK kvs)) ∧ i < kvs.length,
   fun i H v H' => H' = H ∧ ∃ k x, kvs[i]? = some (k, x) ∧ v = kV k,
   fun i H => H d = some (.frz o (.dK kvs)) ∧ kvs.length ≤ i⟩
def iKeys (te : TE) : TI := fun σ H R => te σ H fun x H1 => ∃ d kvs, x = .ref d ∧ H1 d = some (.dK kvs) ∧ ∀ o, R (Itk d o kvs) (upd H1 d (.frz o (.dK kvs)))
def rDictD : List V → Hp → VK → Prop := fun xs H Q => ∃ (p : Addr) (kvs : List (Key × V)), xs = [.ref p] ∧ Rd H p (.dK kvs) ∧ ∀ l, H l = none → Q (.ref l) (upd H l (.dK kvs))
end
end Ty

set_option maxHeartbeats 4000000
namespace Ty
open PySem PySem.Spec PyProof.Rows L2
section
variable {prog : Program} {w : World} {KK : Type} [DecidableEq KK] {knd : KeyKind prog w KK} {A : Around} {E : Value → Shared → Prop} {s : Shared}
def EqIn (prog : Program) (w : World) (A : Around) (s : Shared) (y x : Value) : Prop := ∀ (E : Value → Shared → Prop) (Q : Bool → Shared → Prop), Q true s → wpAny (model prog w) A (eqBool y x) Q E s
theorem EqIn.of {y x : Value} (h : SeqAt.EqAt A s y x true) : EqIn prog w A s y x := fun E Q q => h prog w E Q q
open MeetsSeq MeetsSeq2 MeetsSeq3 SeqRoads2 in
open MeetsSeq MeetsSeq2 MeetsSeq3 SeqRoads2 in
end
section
variable {X : Cx}
def SameD (H : Hp) (u v : V) : Prop := ∃ a b kvs, u = .ref a ∧ v = .ref b ∧ Rd H a (.dK kvs) ∧ Rd H b (.dK kvs) ∧ ∀ kv ∈ kvs, flatV kv.2 = true ∨ ∃ c, kv.2 = .ref c
def rEqLD (K : PySem.W.Frag) : R2 := fun x y H Q => ∃ p p' xs ys, x = .ref p ∧ y = .ref p' ∧ SqL K H p xs ∧ SqL K H p' ys ∧ xs.length = ys.length ∧ (∀ (j : Nat) (u v : V), xs[j]? = some u → ys[j]? = some v → SameD H u v) ∧ Q (.bl true) H
end
end Ty

set_option maxHeartbeats 4000000
namespace Ty
open PySem PySem.Spec PyProof.Rows L2
structure FunD (K : PySem.W.Frag) (x qual : Str) (st : Stmt) (f : Addr) (fd : FuncData) : Prop where
  ex : ∃ (dV oc : Value) (od : Option Addr) (kV doc pm : Value) (an : Option Addr) (cdv ct : Value) (osl : Array (Option Value)),
    fd = PySem.W.fnOf x qual (defArgs st) (defBody st) (defScope st) dV kV doc pm an cdv ct ∧ K.lookup f = some ⟨oc, od, .func fd, osl⟩ ∧ PySem.W.codeIn K cdv qual = true
  kp : PySem.W.keepIn K (.ref f) = true
section
variable {P : Program} {w : World} {K : PySem.W.Frag} {mg : Str → Option Value} {base : Heap} {CX : CXT}
theorem fun_mkD {x qual : Str} {st : Stmt} {f : Addr} {dV oc : Value} {od an : Option Addr} {osl : Array (Option Value)} {kV doc pm cdv ct : Value} (l : K.lookup f = some ⟨oc, od, .func (PySem.W.fnOf x qual (defArgs st) (defBody st) (defScope st) dV kV doc pm an cdv ct), osl⟩)
    (c : PySem.W.codeIn K cdv qual = true) (k : PySem.W.keepIn K (.ref f) = true) : FunD K x qual st f (PySem.W.fnOf x qual (defArgs st) (defBody st) (defScope st) dV kV doc pm an cdv ct) := ⟨⟨dV, oc, od, kV, doc, pm, an, cdv, ct, osl, rfl, l, c⟩, k⟩
theorem fun_okF {name qual : Str} {st : Stmt} {f : Addr} {fd : FuncData} {N ps : List Str} {k : Nat} {sp : Sp} (F : Fun K name qual st f fd) (S : FnScope N ps (defScope st)) (len : ∀ vs H Q E, sp vs H Q E → vs.length = ps.length)
    (hbody : ∀ (cdv : Value) (A : Around) (outer : List Env) (s : Shared) (H : Hp) (vs : List V) (Q : VK) (E : XK), Room k (A.deeper (envOfC qual (defScope st) s.heap.objs.size f cdv)) → sp vs H Q E →
      ∃ t, PSs (cxr P w K mg base N qual (defScope st) f cdv A outer s H E).nox (defBody st) t ∧ t { nx := fun _ H' => Q .non H', rt := Q } (start N vs) H) : FnOk P w K mg base (CXr P w) (k + 1) f fd ps sp := by
  obtain ⟨oc, od, kV, doc, pm, an, cdv, ct, osl, rfl, lk, hcd⟩ := F.ex
  exact fn_of lk hcd S len fun A outer s H vs Q E hr hsp => by
    obtain ⟨t, h, q⟩ := hbody cdv A outer s H vs Q E hr hsp
    exact ⟨t, h.nox, q⟩
theorem fun_okFD {name qual : Str} {st : Stmt} {f : Addr} {fd : FuncData} {N ps : List Str} {k : Nat} {sp : Sp} (F : FunD K name qual st f fd) (S : FnScope N ps (defScope st)) (len : ∀ vs H Q E, sp vs H Q E → vs.length = ps.length)
    (hbody : ∀ (cdv : Value) (A : Around) (outer : List Env) (s : Shared) (H : Hp) (vs : List V) (Q : VK) (E : XK), Room k (A.deeper (envOfC qual (defScope st) s.heap.objs.size f cdv)) → sp vs H Q E →
      ∃ t, PSs (cxr P w K mg base N qual (defScope st) f cdv A outer s H E).nox (defBody st) t ∧ t { nx := fun _ H' => Q .non H', rt := Q } (start N vs) H) : FnOk P w K mg base (CXr P w) (k + 1) f fd ps sp := by
  obtain ⟨dV, oc, od, kV, doc, pm, an, cdv, ct, osl, rfl, lk, hcd⟩ := F.ex
  exact fn_of lk hcd S len fun A outer s H vs Q E hr hsp => by
    obtain ⟨t, h, q⟩ := hbody cdv A outer s H vs Q E hr hsp
    exact ⟨t, h.nox, q⟩
end
structure MtdOkD (P : Program) (w : World) (K : PySem.W.Frag) (mg : Str → Option Value) (base : Heap) (CX : CXT) (k : Nat) (C : Addr) (m : Str) (ps : List Str) (ds : List Value) (sp : Sp) : Prop where
  ex : ∃ (f : Addr) (fd : FuncData), Cls K C ∧ Meth K C m f ∧ FnOk P w K mg base CX k f fd ps sp ∧ Binds K fd ps ds
section
variable {X : Cx} {CX : CXT} {k : Nat} {E : XK} {m : Str} {pos apos : Pos} {e o : Expr} {es : List Expr} {ta : TE} {t : TA}
def tMtdD (P : Program) (w : World) (K : PySem.W.Frag) (mg : Str → Option Value) (base : Heap) (CX : CXT) (k : Nat) (m : Str) (E : XK) (ta : TE) (t : TA) : TE := fun σ H Q => ta σ H fun x H1 => ∃ a C dx fs ps sp, x = .ref a ∧ H1 a = some (.ins C dx fs) ∧ fs.lookup m = none ∧
  MtdOkD P w K mg base CX k C m ps [.none] sp ∧ t σ H1 fun vs H2 => sp (x :: vs ++ [.non]) H2 Q E
end
theorem valV_drop {κ : Type} [DecidableEq κ] (k j : κ) : ∀ kvs : List (κ × V), valV (dropK kvs k) j = if j = k then none else valV kvs j
  | [] => by
    show none = _
    split <;> rfl
  | p :: r => by
    have ih := valV_drop k j r
    unfold dropK at ih ⊢
    rw [List.filter_cons]
    by_cases h : p.1 = k
    · rw [if_neg (by simp [h]), ih]
      by_cases e : j = k
      · rw [if_pos e, if_pos e]
      · rw [if_neg e, if_neg e, valV_neg (fun z => e (z.symm.trans h))]
    · rw [if_pos (by simp [h])]
      by_cases e : p.1 = j
      · rw [valV_pos e, valV_pos e, if_neg (fun z => h (e.trans z))]
      · rw [valV_neg e, valV_neg e, ih]
theorem valV_mem {κ : Type} [DecidableEq κ] {k : κ} {v : V} : ∀ {kvs : List (κ × V)}, valV kvs k = some v → (k, v) ∈ kvs
  | p :: r, h => by
    by_cases e : p.1 = k
    · rw [valV_pos e] at h
      cases h
      subst e
      exact List.mem_cons_self ..
    · rw [valV_neg e] at h
      exact List.mem_cons_of_mem _ (valV_mem h)
theorem valV_none {κ : Type} [DecidableEq κ] {k : κ} : ∀ {kvs : List (κ × V)}, k ∉ kvs.map (·.1) → valV kvs k = none
  | [], _ => rfl
  | p :: r, h => by
    rw [List.map_cons, List.mem_cons, not_or] at h
    rw [valV_neg (fun e => h.1 e.symm)]
    exact valV_none h.2
theorem valV_some {κ : Type} [DecidableEq κ] {k : κ} : ∀ {kvs : List (κ × V)}, k ∈ kvs.map (·.1) → ∃ v, valV kvs k = some v
  | p :: r, h => by
    by_cases e : p.1 = k
    · exact ⟨_, valV_pos e⟩
    · rw [valV_neg e]
      rw [List.map_cons, List.mem_cons] at h
      rcases h with h | h
      · exact absurd h.symm e
      · exact valV_some h
def tDPopN (td ty tx : TE) : TE := fun σ H Q => td σ H fun x H1 => ∃ a, x = .ref a ∧ IsD H1 a ∧ ty σ H1 fun y H2 => tx σ H2 fun z H3 => ∃ kvs k, H3 a = some (.dK kvs) ∧ y = kV k ∧ ∀ v, Q v (upd H3 a (.dK (dropK kvs k)))
def NmD (K : PySem.W.Frag) (H : Hp) (kvs : List (Key × V)) (F : Str → Option (Int × Int)) : Prop :=
  ∀ nm, (valV kvs (.inr nm) = none ∧ F nm = none) ∨ ∃ v q, valV kvs (.inr nm) = some v ∧ F nm = some q ∧ NmK K H v q
theorem NmD.same {K : PySem.W.Frag} {H H' : Hp} {kvs : List (Key × V)} {F : Str → Option (Int × Int)} (h : NmD K H kvs F) (s : Same H H') : NmD K H' kvs F := fun nm => by
  rcases h nm with h | ⟨v, q, h1, h2, h3⟩
  · exact .inl h
  · exact .inr ⟨v, q, h1, h2, h3.same s⟩
theorem NmD.nil {K : PySem.W.Frag} {H : Hp} : NmD K H [] (fun _ => none) := fun nm => .inl ⟨rfl, rfl⟩
theorem NmD.put {K : PySem.W.Frag} {H : Hp} {kvs : List (Key × V)} {F : Str → Option (Int × Int)} (h : NmD K H kvs F) {x : Str} {v : V} {q : Int × Int} (n : NmK K H v q) : NmD K H (putK kvs (.inr x) v) (fun nm => if nm = x then some q else F nm) := fun nm => by
  rw [valV_put]
  by_cases e : nm = x
  · subst e
    exact .inr ⟨v, q, by rw [if_pos rfl], by show (if nm = nm then some q else F nm) = some q; rw [if_pos rfl], n⟩
  · have e' : (Sum.inr nm : Key) ≠ .inr x := fun z => e (Sum.inr.inj z)
    show (_ ∧ (if nm = x then some q else F nm) = none) ∨ ∃ v' q', _ ∧ (if nm = x then some q else F nm) = some q' ∧ _
    rw [if_neg e', if_neg e]
    exact h nm
theorem NmD.drop {K : PySem.W.Frag} {H : Hp} {kvs : List (Key × V)} {F : Str → Option (Int × Int)} (h : NmD K H kvs F) (x : Str) : NmD K H (dropK kvs (.inr x)) (fun nm => if nm = x then none else F nm) := fun nm => by
  rw [valV_drop]
  by_cases e : nm = x
  · subst e
    exact .inl ⟨by rw [if_pos rfl], by show (if nm = nm then none else F nm) = none; rw [if_pos rfl]⟩
  · have e' : (Sum.inr nm : Key) ≠ .inr x := fun z => e (Sum.inr.inj z)
    show (_ ∧ (if nm = x then none else F nm) = none) ∨ ∃ v' q', _ ∧ (if nm = x then none else F nm) = some q' ∧ _
    rw [if_neg e', if_neg e]
    exact h nm
theorem NmD.dget {K : PySem.W.Frag} {H : Hp} {kvs : List (Key × V)} {G : Str → Option (Int × Int)} (h : NmD K H kvs G) {x : Str} {v : V} {q : Int × Int} (n : NmK K H v q) : NmK K H ((valV kvs (.inr x)).getD v) ((G x).getD q) := by
  rcases h x with ⟨h1, h2⟩ | ⟨u, q', h1, h2, h3⟩
  · rw [h1, h2]
    exact n
  · rw [h1, h2]
    exact h3
structure FrC (K : PySem.W.Frag) (C : Addr) : Prop where
  cls : Cls K C
  pl : NoAttr K C "pin_places"
  wy : NoAttr K C "pin_ways"
  br : NoAttr K C "bar_ends"
abbrev frF (pP pW pB : Addr) : List (Str × V) := [("pin_places", .ref pP), ("pin_ways", .ref pW), ("bar_ends", .ref pB)]
abbrev Pt := (Int × Int) × (Int × Int)
abbrev spotD (p : Pt) : List Da := [.t [.v (.int p.1.1), .v (.int p.1.2)], .t [.v (.int p.2.1), .v (.int p.2.2)]]
def SameT (H H' : Hp) : Prop := ∀ b xs, Rd H b (.tup xs) → Rd H' b (.tup xs)
theorem SameT.of {H H' : Hp} (s : Same H H') : SameT H H' := fun b xs e => by
  rcases e with e | ⟨o, e⟩
  · exact .inl (s _ _ e)
  · exact .inr ⟨o, s _ _ e⟩
theorem SameT.trans {H H1 H2 : Hp} (a : SameT H H1) (b : SameT H1 H2) : SameT H H2 := fun c xs e => b c xs (a c xs e)
theorem SameT.dict {H : Hp} {d : Addr} {kvs : List (Key × V)} {o : HO} (e : H d = some (.dK kvs)) : SameT H (upd H d o) := fun b xs r => by
  rcases r with r | ⟨o, r⟩
  · exact .inl (by rw [upd_ne (fun z => by rw [z, e] at r; cases r)]; exact r)
  · exact .inr ⟨o, by rw [upd_ne (fun z => by rw [z, e] at r; cases r)]; exact r⟩
theorem SameT.list {H : Hp} {d : Addr} {xs : List V} {o : HO} (e : H d = some (.lst xs)) : SameT H (upd H d o) := fun b xs r => by
  rcases r with r | ⟨o, r⟩
  · exact .inl (by rw [upd_ne (fun z => by rw [z, e] at r; cases r)]; exact r)
  · exact .inr ⟨o, by rw [upd_ne (fun z => by rw [z, e] at r; cases r)]; exact r⟩
theorem SameT.seqT {K : PySem.W.Frag} {H H' : Hp} (s : SameT H H') {p : Addr} {xs : List V} (q : SqT K H p xs) : SqT K H' p xs := by
  rcases q with q | q
  · exact .inl (s _ _ q)
  · exact .inr q
theorem NmK.sameT {K : PySem.W.Frag} {H H' : Hp} {v : V} {q : Int × Int} (h : NmK K H v q) (s : SameT H H') : NmK K H' v q := by
  obtain ⟨p, e, k⟩ := h
  exact ⟨p, e, s.seqT k⟩
theorem NmD.sameT {K : PySem.W.Frag} {H H' : Hp} {kvs : List (Key × V)} {F : Str → Option (Int × Int)} (h : NmD K H kvs F) (s : SameT H H') : NmD K H' kvs F := fun nm => by
  rcases h nm with h | ⟨v, q, h1, h2, h3⟩
  · exact .inl h
  · exact .inr ⟨v, q, h1, h2, h3.sameT s⟩
def Spot (K : PySem.W.Frag) (H : Hp) (v : V) (p : Pt) : Prop := ∃ a u1 u2, v = .ref a ∧ SqT K H a [u1, u2] ∧ NmK K H u1 p.1 ∧ NmK K H u2 p.2
theorem Spot.sameT {K : PySem.W.Frag} {H H' : Hp} {v : V} {p : Pt} (h : Spot K H v p) (s : SameT H H') : Spot K H' v p := by
  obtain ⟨a, u1, u2, e, h1, h2, h3⟩ := h
  exact ⟨a, u1, u2, e, s.seqT h1, h2.sameT s, h3.sameT s⟩
theorem is_numF {K : PySem.W.Frag} {H : Hp} {v : V} {q : Int × Int} (h : NmK K H v q) : Is K H (.t [.v (.int q.1), .v (.int q.2)]) v := by
  obtain ⟨p, rfl, e⟩ := h
  unfold Is
  refine ⟨p, _, rfl, e, ?_⟩
  unfold Iss
  refine ⟨by unfold Is; exact ⟨rfl, rfl⟩, ?_⟩
  unfold Iss
  refine ⟨by unfold Is; exact ⟨rfl, rfl⟩, ?_⟩
  unfold Iss
  trivial
theorem Spot.is {K : PySem.W.Frag} {H : Hp} {v : V} {p : Pt} (h : Spot K H v p) : Is K H (.t (spotD p)) v := by
  obtain ⟨a, u1, u2, rfl, h1, h2, h3⟩ := h
  unfold Is
  refine ⟨a, _, rfl, h1, ?_⟩
  unfold Iss
  refine ⟨is_numF h2, ?_⟩
  unfold Iss
  refine ⟨is_numF h3, ?_⟩
  unfold Iss
  trivial
theorem eq_spots (p q : Pt) : eqDas (spotD p) (spotD q) = decide (p = q) := by
  have e : eqDas (spotD p) (spotD q) = ((p.1.1 == q.1.1 && (p.1.2 == q.1.2 && true)) && ((p.2.1 == q.2.1 && (p.2.2 == q.2.2 && true)) && true)) := by
    simp only [spotD, eqDas, eqDa, eqV]
  rw [e]
  obtain ⟨⟨a, b⟩, c, d⟩ := p
  obtain ⟨⟨a', b'⟩, c', d'⟩ := q
  by_cases h : a = a' <;> by_cases h1 : b = b' <;> by_cases h2 : c = c' <;> by_cases h3 : d = d' <;> simp [h, h1, h2, h3, Prod.mk.injEq]
theorem alike_spots (p q : Pt) : alikes (spotD p) (spotD q) = true := by simp [spotD, alikes, alike]
theorem dep_spots (p : Pt) : deps (spotD p) ≤ 60 := by simp [spotD, deps, dep]
structure FrR (K : PySem.W.Frag) (H : Hp) (C a dx pP pW pB : Addr) (ps : List (Str × Pt)) (bs : List (Str × Str × Str)) (kP kW kB : List (Key × V)) : Prop where
  obj : H a = some (.ins C dx (frF pP pW pB))
  pl : H pP = some (.dK kP)
  wy : H pW = some (.dK kW)
  br : H pB = some (.dK kB)
  ne1 : pP ≠ pW
  ne2 : pP ≠ pB
  ne3 : pW ≠ pB
  rp : Paired (fun (p : Str × Pt) (kv : Key × V) => kv.1 = .inr p.1 ∧ Spot K H kv.2 p.2) ps kP
  rb : Paired (fun (b : Str × Str × Str) (kv : Key × V) => kv.1 = .inr b.1 ∧ ∃ p, kv.2 = .ref p ∧ Rd H p (.tup [.str b.2.1, .str b.2.2])) bs kB
section
variable {K : PySem.W.Frag} {H H' : Hp} {C a dx pP pW pB : Addr} {ps : List (Str × Pt)} {bs : List (Str × Str × Str)} {kP kW kB : List (Key × V)}
theorem paired_keys {α : Type} {R : (Str × α) → (Key × V) → Prop} : ∀ {l : List (Str × α)} {kvs : List (Key × V)}, Paired (fun b kv => kv.1 = .inr b.1 ∧ R b kv) l kvs → kvs.map (·.1) = l.map (fun b => (Sum.inr b.1 : Key))
  | _, _, .nil => rfl
  | _, _, .cons h t => by rw [List.map_cons, List.map_cons, h.1, paired_keys t]
theorem key_mem {l : List Str} {x : Str} : (Sum.inr x : Key) ∈ l.map (fun b => (Sum.inr b : Key)) ↔ x ∈ l := by
  constructor
  · intro h
    obtain ⟨y, hy, e⟩ := List.mem_map.mp h
    exact Sum.inr.inj e ▸ hy
  · exact fun h => List.mem_map.mpr ⟨x, h, rfl⟩
theorem FrR.sameT_of (R : FrR K H C a dx pP pW pB ps bs kP kW kB) (s : SameT H H') (h1 : H' a = H a) (h2 : H' pP = H pP) (h3 : H' pW = H pW) (h4 : H' pB = H pB) : FrR K H' C a dx pP pW pB ps bs kP kW kB :=
  ⟨h1.trans R.obj, h2.trans R.pl, h3.trans R.wy, h4.trans R.br, R.ne1, R.ne2, R.ne3, Paired.mapP R.rp fun _ _ h => ⟨h.1, h.2.sameT s⟩, Paired.mapP R.rb fun _ _ h => ⟨h.1, by obtain ⟨p, e, k⟩ := h.2; exact ⟨p, e, s _ _ k⟩⟩⟩
theorem FrR.same (R : FrR K H C a dx pP pW pB ps bs kP kW kB) (s : Same H H') : FrR K H' C a dx pP pW pB ps bs kP kW kB :=
  R.sameT_of (.of s) ((s _ _ R.obj).trans R.obj.symm) ((s _ _ R.pl).trans R.pl.symm) ((s _ _ R.wy).trans R.wy.symm) ((s _ _ R.br).trans R.br.symm)
theorem FrR.keysB (R : FrR K H C a dx pP pW pB ps bs kP kW kB) : kB.map (·.1) = (bs.map (·.1)).map (fun b => (Sum.inr b : Key)) := by
  rw [paired_keys R.rb, List.map_map]
  rfl
theorem FrR.keysP (R : FrR K H C a dx pP pW pB ps bs kP kW kB) : kP.map (·.1) = (ps.map (·.1)).map (fun b => (Sum.inr b : Key)) := by
  rw [paired_keys R.rp, List.map_map]
  rfl
theorem FrR.bar (R : FrR K H C a dx pP pW pB ps bs kP kW kB) (x : Str) : (valV kB (.inr x)).isSome = decide (x ∈ bs.map (·.1)) := by
  by_cases h : x ∈ bs.map (·.1)
  · obtain ⟨v, e⟩ := valV_some (kvs := kB) (k := .inr x) (by rw [R.keysB]; exact key_mem.mpr h)
    rw [e, decide_eq_true h]
    rfl
  · rw [valV_none (by rw [R.keysB]; exact fun z => h (key_mem.mp z)), decide_eq_false h]
    rfl
theorem FrR.pin (R : FrR K H C a dx pP pW pB ps bs kP kW kB) (x : Str) : (valV kP (.inr x)).isSome = decide (x ∈ ps.map (·.1)) := by
  by_cases h : x ∈ ps.map (·.1)
  · obtain ⟨v, e⟩ := valV_some (kvs := kP) (k := .inr x) (by rw [R.keysP]; exact key_mem.mpr h)
    rw [e, decide_eq_true h]
    rfl
  · rw [valV_none (by rw [R.keysP]; exact fun z => h (key_mem.mp z)), decide_eq_false h]
    rfl
theorem FrR.ab (R : FrR K H C a dx pP pW pB ps bs kP kW kB) : a ≠ pP ∧ a ≠ pW ∧ a ≠ pB :=
  ⟨fun z => (by have h := R.obj; rw [z, R.pl] at h; cases h), fun z => (by have h := R.obj; rw [z, R.wy] at h; cases h), fun z => (by have h := R.obj; rw [z, R.br] at h; cases h)⟩
theorem FrR.putBar (R : FrR K H C a dx pP pW pB ps bs kP kW kB) {x one other : Str} {t : Addr} (ht : Rd H t (.tup [.str one, .str other])) :
    FrR K (upd H pB (.dK (kB ++ [(.inr x, .ref t)]))) C a dx pP pW pB ps (bs ++ [(x, one, other)]) kP kW (kB ++ [(.inr x, .ref t)]) := by
  have s : SameT H (upd H pB (.dK (kB ++ [(.inr x, .ref t)]))) := .dict R.br
  exact ⟨by rw [upd_ne R.ab.2.2]; exact R.obj, by rw [upd_ne R.ne2]; exact R.pl, by rw [upd_ne R.ne3]; exact R.wy, upd_same, R.ne1, R.ne2, R.ne3, Paired.mapP R.rp fun _ _ h => ⟨h.1, h.2.sameT s⟩,
    Paired.snoc (Paired.mapP R.rb fun _ _ h => ⟨h.1, by obtain ⟨p, e, k⟩ := h.2; exact ⟨p, e, s _ _ k⟩⟩) ⟨rfl, t, rfl, s _ _ ht⟩⟩
theorem paired_drop {α : Type} {R : (Str × α) → (Key × V) → Prop} (x : Str) : ∀ {l : List (Str × α)} {kvs : List (Key × V)}, Paired (fun b kv => kv.1 = .inr b.1 ∧ R b kv) l kvs → Paired (fun b kv => kv.1 = .inr b.1 ∧ R b kv) (l.filter fun b => decide (b.1 ≠ x)) (dropK kvs (.inr x))
  | _, _, .nil => .nil
  | b :: _, kv :: _, .cons h t => by
    unfold dropK
    rw [List.filter_cons, List.filter_cons]
    have ih := paired_drop x t
    unfold dropK at ih
    by_cases e : b.1 = x
    · have e' : kv.1 = .inr x := by rw [h.1, e]
      rw [if_neg (by simp [e]), if_neg (by simp [e'])]
      exact ih
    · have e' : ¬ kv.1 = .inr x := fun z => e (Sum.inr.inj (h.1.symm.trans z))
      rw [if_pos (by simp [e]), if_pos (by simp [e'])]
      exact .cons h ih
theorem FrR.dropBar (R : FrR K H C a dx pP pW pB ps bs kP kW kB) (x : Str) :
    FrR K (upd H pB (.dK (dropK kB (.inr x)))) C a dx pP pW pB ps (bs.filter fun b => decide (b.1 ≠ x)) kP kW (dropK kB (.inr x)) := by
  have s : SameT H (upd H pB (.dK (dropK kB (.inr x)))) := .dict R.br
  exact ⟨by rw [upd_ne R.ab.2.2]; exact R.obj, by rw [upd_ne R.ne2]; exact R.pl, by rw [upd_ne R.ne3]; exact R.wy, upd_same, R.ne1, R.ne2, R.ne3, Paired.mapP R.rp fun _ _ h => ⟨h.1, h.2.sameT s⟩,
    paired_drop x (Paired.mapP R.rb fun _ _ h => ⟨h.1, by obtain ⟨p, e, k⟩ := h.2; exact ⟨p, e, s _ _ k⟩⟩)⟩
theorem paired_flip {α β : Type} {R : α → β → Prop} : ∀ {l : List α} {m : List β}, Paired R l m → Paired (fun b a => R a b) m l
  | _, _, .nil => .nil
  | _, _, .cons h t => .cons h (paired_flip t)
theorem FrR.putPin (R : FrR K H C a dx pP pW pB ps bs kP kW kB) {x : Str} {p : Pt} {t : Addr} (ht : Spot K H (.ref t) p) :
    FrR K (upd H pP (.dK (kP ++ [(.inr x, .ref t)]))) C a dx pP pW pB (ps ++ [(x, p)]) bs (kP ++ [(.inr x, .ref t)]) kW kB := by
  have s : SameT H (upd H pP (.dK (kP ++ [(.inr x, .ref t)]))) := .dict R.pl
  exact ⟨by rw [upd_ne R.ab.1]; exact R.obj, upd_same, by rw [upd_ne (Ne.symm R.ne1)]; exact R.wy, by rw [upd_ne (Ne.symm R.ne2)]; exact R.br, R.ne1, R.ne2, R.ne3,
    Paired.snoc (Paired.mapP R.rp fun _ _ h => ⟨h.1, h.2.sameT s⟩) ⟨rfl, ht.sameT s⟩, Paired.mapP R.rb fun _ _ h => ⟨h.1, by obtain ⟨p, e, k⟩ := h.2; exact ⟨p, e, s _ _ k⟩⟩⟩
theorem FrR.putWays (R : FrR K H C a dx pP pW pB ps bs kP kW kB) (kW' : List (Key × V)) : FrR K (upd H pW (.dK kW')) C a dx pP pW pB ps bs kP kW' kB := by
  have s : SameT H (upd H pW (.dK kW')) := .dict R.wy
  exact ⟨by rw [upd_ne R.ab.2.1]; exact R.obj, by rw [upd_ne R.ne1]; exact R.pl, upd_same, by rw [upd_ne (Ne.symm R.ne3)]; exact R.br, R.ne1, R.ne2, R.ne3,
    Paired.mapP R.rp fun _ _ h => ⟨h.1, h.2.sameT s⟩, Paired.mapP R.rb fun _ _ h => ⟨h.1, by obtain ⟨p, e, k⟩ := h.2; exact ⟨p, e, s _ _ k⟩⟩⟩
end
end Ty

set_option maxHeartbeats 4000000
namespace Ty
open PySem PySem.Spec PyProof.Rows L2
open Builtin.Int (intBits)
def qr (r : Rat) : Int × Int := (r.num, (r.den : Int))
theorem qr_pos (r : Rat) : 0 < (qr r).2 := by
  have := r.den_pos
  show (0 : Int) < (r.den : Int)
  omega
theorem qr_gcd (r : Rat) : Int.gcd (qr r).1 (qr r).2 = 1 := by
  have := r.reduced
  show Int.gcd r.num (r.den : Int) = 1
  unfold Int.gcd
  simpa [Nat.Coprime] using this
theorem vl_qr (r : Rat) : vl (qr r) = r := by
  show (r.num : Rat) / ((r.den : Int) : Rat) = r
  rw [← Rat.divInt_eq_div]
  exact Rat.num_divInt_den r
theorem qr_of {q : Int × Int} (h : 0 < q.2) (g : Int.gcd q.1 q.2 = 1) : q = qr (vl q) := vl_inj h (qr_pos _) g (qr_gcd _) (vl_qr _).symm
theorem low_qr {t b : Int} (h : b ≠ 0) : low t b = qr ((t : Rat) / (b : Rat)) := by
  rw [← vl_low h]
  exact qr_of (low_pos h) (low_gcd h)
theorem qr_inj {a b : Rat} (h : qr a = qr b) : a = b := by
  rw [← vl_qr a, ← vl_qr b, h]
theorem qr_int (i : Int) : qr (i : Rat) = (i, 1) := by
  have e : (i, (1 : Int)) = qr (vl (i, 1)) := qr_of (by show (0 : Int) < 1; decide) (by show Int.gcd i 1 = 1; simp)
  have v : vl (i, (1 : Int)) = (i : Rat) := by
    unfold vl
    show (i : Rat) / ((1 : Int) : Rat) = i
    have : ((1 : Int) : Rat) = 1 := by rfl
    rw [this]
    grind
  rw [e, v]
theorem qr_neg (r : Rat) : qr (-r) = (-(qr r).1, (qr r).2) := by
  have e : ((-(qr r).1, (qr r).2) : Int × Int) = qr (vl (-(qr r).1, (qr r).2)) := qr_of (qr_pos r) (by
    have := qr_gcd r
    show Int.gcd (-(qr r).1) (qr r).2 = 1
    rw [Int.neg_gcd]
    exact this)
  have v : vl (-(qr r).1, (qr r).2) = -r := by
    have h := vl_qr r
    unfold vl at h ⊢
    push_cast
    rw [← h]
    grind
  rw [e, v]
theorem ratz {r : Rat} : ((qr r).2 : Rat) ≠ 0 := ratne (Int.ne_of_gt (qr_pos r))
theorem qr_add (a b : Rat) : low ((qr a).1 * (qr b).2 + (qr b).1 * (qr a).2) ((qr a).2 * (qr b).2) = qr (a + b) := by
  have ha := qr_pos a
  have hb := qr_pos b
  rw [low_qr (Int.ne_of_gt (Int.mul_pos ha hb))]
  have e1 := vl_qr a
  have e2 := vl_qr b
  have z1 := ratz (r := a)
  have z2 := ratz (r := b)
  unfold vl at e1 e2
  congr 1
  push_cast
  grind
theorem qr_sub (a b : Rat) : low ((qr a).1 * (qr b).2 - (qr b).1 * (qr a).2) ((qr a).2 * (qr b).2) = qr (a - b) := by
  have ha := qr_pos a
  have hb := qr_pos b
  rw [low_qr (Int.ne_of_gt (Int.mul_pos ha hb))]
  have e1 := vl_qr a
  have e2 := vl_qr b
  have z1 := ratz (r := a)
  have z2 := ratz (r := b)
  unfold vl at e1 e2
  congr 1
  push_cast
  grind
theorem qr_mul (a b : Rat) : low ((qr a).1 * (qr b).1) ((qr a).2 * (qr b).2) = qr (a * b) := by
  have ha := qr_pos a
  have hb := qr_pos b
  rw [low_qr (Int.ne_of_gt (Int.mul_pos ha hb))]
  have e1 := vl_qr a
  have e2 := vl_qr b
  have z1 := ratz (r := a)
  have z2 := ratz (r := b)
  unfold vl at e1 e2
  congr 1
  push_cast
  grind
structure Sz (k : Nat) (r : Rat) : Prop where
  top : intBits (qr r).1 ≤ k
  bot : intBits (qr r).2 ≤ k
theorem Sz.up {k l : Nat} {r : Rat} (h : Sz k r) (kl : k ≤ l) : Sz l r := ⟨Nat.le_trans h.top kl, Nat.le_trans h.bot kl⟩
theorem bits_addF {a b : Int} {k : Nat} (ha : intBits a ≤ k) (hb : intBits b ≤ k) : intBits (a + b) ≤ k + 1 := by
  rw [intBits_le_iff] at ha hb ⊢
  have := Int.natAbs_add_le a b
  rw [Nat.pow_succ]
  omega
theorem bits_subF {a b : Int} {k : Nat} (ha : intBits a ≤ k) (hb : intBits b ≤ k) : intBits (a - b) ≤ k + 1 := by
  rw [intBits_le_iff] at ha hb ⊢
  have := Int.natAbs_sub_le a b
  rw [Nat.pow_succ]
  omega
theorem sz_low {t b : Int} {k : Nat} (hb : b ≠ 0) (h1 : intBits t ≤ k) (h2 : intBits b ≤ k) : Sz k ((t : Rat) / (b : Rat)) := by
  rw [← vl_low hb]
  have e := qr_of (low_pos (t := t) hb) (low_gcd hb)
  exact ⟨by rw [← e]; exact intBits_le_of_natAbs (low_top_le hb) h1, by rw [← e]; exact intBits_le_of_natAbs (low_bot_le hb) h2⟩
theorem sz_of {t b : Int} {k : Nat} {r : Rat} (hb : b ≠ 0) (e : low t b = qr r) (h1 : intBits t ≤ k) (h2 : intBits b ≤ k) : Sz k r := by
  have z := low_qr (t := t) hb
  rw [z] at e
  have := qr_inj e
  rw [← this]
  exact sz_low hb h1 h2
theorem Sz.add {k l : Nat} {a b : Rat} (ha : Sz k a) (hb : Sz l b) : Sz (k + l + 1) (a + b) :=
  sz_of (Int.ne_of_gt (Int.mul_pos (qr_pos a) (qr_pos b))) (qr_add a b) (bits_addF (intBits_mul_le ha.top hb.bot) (by rw [Nat.add_comm]; exact intBits_mul_le hb.top ha.bot)) (Nat.le_succ_of_le (intBits_mul_le ha.bot hb.bot))
theorem Sz.sub {k l : Nat} {a b : Rat} (ha : Sz k a) (hb : Sz l b) : Sz (k + l + 1) (a - b) :=
  sz_of (Int.ne_of_gt (Int.mul_pos (qr_pos a) (qr_pos b))) (qr_sub a b) (bits_subF (intBits_mul_le ha.top hb.bot) (by rw [Nat.add_comm]; exact intBits_mul_le hb.top ha.bot)) (Nat.le_succ_of_le (intBits_mul_le ha.bot hb.bot))
theorem Sz.mul {k l : Nat} {a b : Rat} (ha : Sz k a) (hb : Sz l b) : Sz (k + l) (a * b) :=
  sz_of (Int.ne_of_gt (Int.mul_pos (qr_pos a) (qr_pos b))) (qr_mul a b) (intBits_mul_le ha.top hb.top) (intBits_mul_le ha.bot hb.bot)
theorem Sz.neg {k : Nat} {a : Rat} (ha : Sz k a) : Sz k (-a) := by
  refine ⟨?_, ?_⟩
  · rw [qr_neg]
    have := ha.top
    rw [intBits_le_iff] at this ⊢
    show (-(qr a).1).natAbs < 2 ^ k
    rw [Int.natAbs_neg]
    exact this
  · rw [qr_neg]
    exact ha.bot
theorem sz_int {i : Int} {k : Nat} (h : i.natAbs < 2 ^ k) (hk : 1 ≤ k) : Sz k (i : Rat) := by
  refine ⟨?_, ?_⟩
  · rw [qr_int]
    exact intBits_le_iff.mpr h
  · rw [qr_int]
    refine intBits_le_iff.mpr ?_
    show 1 < 2 ^ k
    exact Nat.one_lt_two_pow (by omega)
def NmR (K : PySem.W.Frag) (H : Hp) (v : V) (r : Rat) : Prop := NmK K H v (qr r)
def PtR (K : PySem.W.Frag) (H : Hp) (v : V) (p : Rat × Rat) : Prop := ∃ a u1 u2, v = .ref a ∧ SqT K H a [u1, u2] ∧ NmR K H u1 p.1 ∧ NmR K H u2 p.2
section
variable {K : PySem.W.Frag} {H H' : Hp} {v : V} {r : Rat} {p : Rat × Rat}
theorem NmR.sameT (h : NmR K H v r) (s : SameT H H') : NmR K H' v r := NmK.sameT h s
theorem NmR.same (h : NmR K H v r) (s : Same H H') : NmR K H' v r := NmK.same h s
theorem PtR.sameT (h : PtR K H v p) (s : SameT H H') : PtR K H' v p := by
  obtain ⟨a, u1, u2, e, h1, h2, h3⟩ := h
  exact ⟨a, u1, u2, e, s.seqT h1, h2.sameT s, h3.sameT s⟩
theorem PtR.same (h : PtR K H v p) (s : Same H H') : PtR K H' v p := h.sameT (.of s)
abbrev ptQ (p : Rat × Rat) : Pt := (qr p.1, qr p.2)
theorem PtR.spot (h : PtR K H v p) : Spot K H v (ptQ p) := h
def PtsR (K : PySem.W.Frag) (H : Hp) (us : List V) (ps : List (Rat × Rat)) : Prop := Paired (PtR K H) us ps
theorem PtsR.sameT {us : List V} {ps : List (Rat × Rat)} (h : PtsR K H us ps) (s : SameT H H') : PtsR K H' us ps := Paired.mapP h fun _ _ z => z.sameT s
theorem PtsR.same {us : List V} {ps : List (Rat × Rat)} (h : PtsR K H us ps) (s : Same H H') : PtsR K H' us ps := h.sameT (.of s)
end
section
variable {X : Cx}
theorem ptR_inj {pins : List (Addr × Obj)} {σ : L2.St} {H : Hp} {s : Shared} {v : V} {p q : Rat × Rat} (I : Inv X pins σ H s) (h1 : PtR X.K H v p) (h2 : PtR X.K H v q) : p = q := by
  obtain ⟨a, u1, u2, rfl, t1, ⟨b1, rfl, n1⟩, b2, rfl, n2⟩ := h1
  obtain ⟨a', w1, w2, e, t2, ⟨c1, rfl, m1⟩, c2, rfl, m2⟩ := h2
  cases e
  cases I.tuple_inj t1 t2
  have e1 := I.tuple_inj n1 m1
  have e2 := I.tuple_inj n2 m2
  simp only [List.cons.injEq, V.int.injEq, and_true] at e1 e2
  exact Prod.ext (qr_inj (Prod.ext e1.1 e1.2)) (qr_inj (Prod.ext e2.1 e2.2))
def rInPt (K : PySem.W.Frag) (neg : Bool) : R2 := fun x y H Q => ∃ p l us ps, y = .ref l ∧ SqL K H l us ∧ PtR K H x p ∧ PtsR K H us ps ∧ Q (.bl (if neg then !decide (p ∈ ps) else decide (p ∈ ps))) H
theorem in_pt {pins : List (Addr × Obj)} {σ : L2.St} {H : Hp} {s : Shared} {A : Around} {x : V} {v : Value} {p : Rat × Rat} {us : List V} {its : List Value} {ps : List (Rat × Rat)} (I : Inv X pins σ H s) (hu : A.units + 60 < cLine) (hx : PtR X.K H x p) (rx : RelV x v) (hp : PtsR X.K H us ps) (rv : Vals us its) :
    ∃ e : Value → Bool, (∀ y, y ∈ its.toArray → SeqAt.EqAt A s y v (e y)) ∧ its.toArray.any e = decide (p ∈ ps) := by
  have key : ∀ (j : Nat) (y : Value), its[j]? = some y → ∃ u q, us[j]? = some u ∧ ps[j]? = some q ∧ RelV u y ∧ PtR X.K H u q := fun j y ey => by
    obtain ⟨u, eu, ru⟩ := paired_get (paired_flip rv) ey
    obtain ⟨q, eq, hq⟩ := paired_get hp eu
    exact ⟨u, q, eu, eq, ru, hq⟩
  refine ⟨fun y => @decide (∃ u q, RelV u y ∧ PtR X.K H u q ∧ q = p) (Classical.propDecidable _), fun y hy => ?_, ?_⟩
  · obtain ⟨j, hj, ey⟩ := List.mem_iff_getElem.mp (by simpa using hy : y ∈ its)
    obtain ⟨u, q, eu, eq, ru, hq⟩ := key j y (by rw [List.getElem?_eq_getElem hj, ey])
    have z := eqAt_da (A := A) I (.t (spotD (ptQ q))) (.t (spotD (ptQ p))) u x y v hq.spot.is hx.spot.is (by unfold alike; exact alike_spots _ _) ru rx (by have := dep_spots (ptQ q); unfold dep; simp only [spotD, deps, dep] at this ⊢; omega)
    have e : eqDa (.t (spotD (ptQ q))) (.t (spotD (ptQ p))) = @decide (∃ u q, RelV u y ∧ PtR X.K H u q ∧ q = p) (Classical.propDecidable _) := by
      unfold eqDa
      rw [eq_spots]
      by_cases c : q = p
      · subst c
        rw [decide_eq_true rfl]
        symm
        exact @decide_eq_true _ (Classical.propDecidable _) ⟨u, q, ru, hq, rfl⟩
      · rw [decide_eq_false (fun z => c (Prod.ext (qr_inj (congrArg Prod.fst z)) (qr_inj (congrArg Prod.snd z))))]
        symm
        refine @decide_eq_false _ (Classical.propDecidable _) fun ⟨u', q', ru', hq', e'⟩ => ?_
        obtain ⟨a, _, _, rfl, _⟩ := id hq
        obtain ⟨a', _, _, rfl, _⟩ := id hq'
        have r1 : y = Value.ref a := ru
        have r2 : y = Value.ref a' := ru'
        rw [r1] at r2
        cases r2
        exact c ((ptR_inj I hq hq').trans e')
    rw [e] at z
    exact z
  · rw [Bool.eq_iff_iff, decide_eq_true_iff]
    simp only [List.any_toArray, List.any_eq_true]
    constructor
    · rintro ⟨y, hy, ey⟩
      obtain ⟨j, hj, ej⟩ := List.mem_iff_getElem.mp hy
      obtain ⟨u, q, eu, eq, ru, hq⟩ := key j y (by rw [List.getElem?_eq_getElem hj, ej])
      obtain ⟨u', q', ru', hq', e'⟩ := @of_decide_eq_true _ (Classical.propDecidable _) ey
      obtain ⟨a, _, _, rfl, _⟩ := id hq
      obtain ⟨a', _, _, rfl, _⟩ := id hq'
      have r1 : y = Value.ref a := ru
      have r2 : y = Value.ref a' := ru'
      rw [r1] at r2
      cases r2
      rw [← e', ← ptR_inj I hq hq']
      exact List.mem_of_getElem? eq
    · intro hm
      obtain ⟨j, hj, ej⟩ := List.mem_iff_getElem.mp hm
      have lu : us.length = ps.length := Paired.length hp
      have li : us.length = its.length := rv.length
      have hj' : j < its.length := by omega
      refine ⟨its[j], List.getElem_mem hj', ?_⟩
      obtain ⟨u, q, eu, eq, ru, hq⟩ := key j its[j] (List.getElem?_eq_getElem hj')
      rw [List.getElem?_eq_getElem hj, ej] at eq
      cases eq
      exact @decide_eq_true _ (Classical.propDecidable _) ⟨u, p, ru, hq, rfl⟩
theorem op_notInPt (hu : X.A.units + 64 < cLine) : OpR X (compareOp .NotIn) (rInPt X.K true) := by
  intro pins s σ H x y v u Q I rx ry h
  obtain ⟨p, l, us, ps, rfl, hq, hx, hp, q⟩ := h
  cases ry
  obtain ⟨its, rv, pl, hz⟩ := I.list hq
  obtain ⟨e, he, ea⟩ := in_pt (A := X.A.in1) I (by rw [in1_units]; omega) hx rx hp rv
  refine SeqAt.notIn_listAt e pl.isList he ⟨.bl _, H, I, rfl, ?_⟩
  rw [ea]
  exact q
end
end Ty

set_option maxHeartbeats 4000000
namespace Ty
open PySem PySem.Spec PyProof.Rows L2
theorem paired_val {α : Type} {R : (Str × α) → (Key × V) → Prop} {x : Str} {y : α} : ∀ {l : List (Str × α)} {kvs : List (Key × V)}, Paired (fun b kv => kv.1 = .inr b.1 ∧ R b kv) l kvs → (l.map (·.1)).Nodup → (x, y) ∈ l → ∃ v, valV kvs (.inr x) = some v ∧ R (x, y) (.inr x, v)
  | _ :: _, kv :: _, .cons h t, nd, m => by
    rw [List.map_cons, List.nodup_cons] at nd
    rcases List.mem_cons.mp m with e | m
    · subst e
      have h1 : kv.1 = .inr x := h.1
      refine ⟨kv.2, valV_pos h1, ?_⟩
      have h2 := h.2
      rw [← h1]
      exact h2
    · obtain ⟨v, e, r⟩ := paired_val t nd.2 m
      refine ⟨v, ?_, r⟩
      rw [valV_neg (fun z => ?_)]
      · exact e
      · rw [h.1] at z
        exact nd.1 (Sum.inr.inj z ▸ List.mem_map.mpr ⟨_, m, rfl⟩)
def WyR (K : PySem.W.Frag) (H : Hp) (pw : List (Str × List (Rat × Rat))) (kW : List (Key × V)) : Prop :=
  Paired (fun (p : Str × List (Rat × Rat)) (kv : Key × V) => kv.1 = .inr p.1 ∧ ∃ l us, kv.2 = .ref l ∧ H l = some (.lst us) ∧ PtsR K H us p.2) pw kW
theorem WyR.same {K : PySem.W.Frag} {H H' : Hp} {pw : List (Str × List (Rat × Rat))} {kW : List (Key × V)} (h : WyR K H pw kW) (s : Same H H') : WyR K H' pw kW :=
  Paired.mapP h fun _ _ z => ⟨z.1, by obtain ⟨l, us, e1, e2, e3⟩ := z.2; exact ⟨l, us, e1, s _ _ e2, e3.same s⟩⟩
theorem WyR.dict {K : PySem.W.Frag} {H : Hp} {pw : List (Str × List (Rat × Rat))} {kW kvs : List (Key × V)} {d : Addr} {o : HO} (h : WyR K H pw kW) (e : H d = some (.dK kvs)) : WyR K (upd H d o) pw kW :=
  Paired.mapP h fun _ _ z => ⟨z.1, by
    obtain ⟨l, us, e1, e2, e3⟩ := z.2
    exact ⟨l, us, e1, by rw [upd_ne (fun q => by rw [q, e] at e2; cases e2)]; exact e2, e3.sameT (.dict e)⟩⟩
theorem WyR.keys {K : PySem.W.Frag} {H : Hp} {pw : List (Str × List (Rat × Rat))} {kW : List (Key × V)} (h : WyR K H pw kW) : kW.map (·.1) = (pw.map (·.1)).map (fun b => (Sum.inr b : Key)) := by
  rw [paired_keys h, List.map_map]
  rfl
theorem FrR.ends {K : PySem.W.Frag} {H : Hp} {C a dx pP pW pB : Addr} {ps : List (Str × Pt)} {bs : List (Str × Str × Str)} {kP kW kB : List (Key × V)} (R : FrR K H C a dx pP pW pB ps bs kP kW kB) (nd : (bs.map (·.1)).Nodup) {x one other : Str} (m : (x, one, other) ∈ bs) :
    ∃ p, valV kB (.inr x) = some (.ref p) ∧ Rd H p (.tup [.str one, .str other]) := by
  obtain ⟨v, e, p, ep, r⟩ := paired_val R.rb nd m
  have ep' : v = .ref p := ep
  exact ⟨p, by rw [e, ep'], r⟩
theorem FrR.place {K : PySem.W.Frag} {H : Hp} {C a dx pP pW pB : Addr} {ps : List (Str × Pt)} {bs : List (Str × Str × Str)} {kP kW kB : List (Key × V)} (R : FrR K H C a dx pP pW pB ps bs kP kW kB) (nd : (ps.map (·.1)).Nodup) {x : Str} {p : Pt} (m : (x, p) ∈ ps) :
    ∃ v, valV kP (.inr x) = some v ∧ Spot K H v p := paired_val R.rp nd m
end Ty
namespace Ty
open PySem PySem.Spec PyProof.Rows L2
structure PinD where
  nm : Str
  sp : Rat × Rat
  ws : List (Rat × Rat)
structure BarD where
  nm : Str
  one : PinD
  other : PinD
structure FrA (K : PySem.W.Frag) (H : Hp) (C a : Addr) (pins : List PinD) (bars : List BarD) : Prop where
  ex : ∃ (dx pP pW pB : Addr) (kP kW kB : List (Key × V)), FrR K H C a dx pP pW pB (pins.map fun p => (p.nm, ptQ p.sp)) (bars.map fun b => (b.nm, b.one.nm, b.other.nm)) kP kW kB ∧ WyR K H (pins.map fun p => (p.nm, p.ws)) kW
structure GoodF (pins : List PinD) (bars : List BarD) : Prop where
  np : (pins.map (·.nm)).Nodup
  nb : (bars.map (·.nm)).Nodup
  ends : ∀ b ∈ bars, b.one ∈ pins ∧ b.other ∈ pins ∧ b.one.nm ≠ b.other.nm
  sz : ∀ p ∈ pins, Sz 100 p.sp.1 ∧ Sz 100 p.sp.2 ∧ ∀ w ∈ p.ws, Sz 50 w.1 ∧ Sz 50 w.2
  lp : pins.length ≤ 6
  lb : bars.length ≤ 8
  lw : ∀ p ∈ pins, p.ws.length ≤ 2
theorem FrA.same {K : PySem.W.Frag} {H H' : Hp} {C a : Addr} {pins : List PinD} {bars : List BarD} (h : FrA K H C a pins bars) (s : Same H H') : FrA K H' C a pins bars := by
  obtain ⟨dx, pP, pW, pB, kP, kW, kB, R, W⟩ := h.ex
  exact ⟨dx, pP, pW, pB, kP, kW, kB, R.same s, W.same s⟩
def PtD (K : PySem.W.Frag) (H : Hp) (kvs : List (Key × V)) (F : Str → Option (Rat × Rat)) : Prop :=
  ∀ nm, (valV kvs (.inr nm) = none ∧ F nm = none) ∨ ∃ v p, valV kvs (.inr nm) = some v ∧ F nm = some p ∧ PtR K H v p
def RtD (K : PySem.W.Frag) (H : Hp) (kvs : List (Key × V)) (F : Str → Option Rat) : Prop :=
  ∀ nm, (valV kvs (.inr nm) = none ∧ F nm = none) ∨ ∃ v p, valV kvs (.inr nm) = some v ∧ F nm = some p ∧ NmR K H v p
def LtD (K : PySem.W.Frag) (H : Hp) (kvs : List (Key × V)) (F : Str → Option (List Rat)) : Prop :=
  ∀ nm, (valV kvs (.inr nm) = none ∧ F nm = none) ∨ ∃ l us rs, valV kvs (.inr nm) = some (.ref l) ∧ F nm = some rs ∧ H l = some (.lst us) ∧ Paired (NmR K H) us rs
section
variable {K : PySem.W.Frag} {H H' : Hp} {kvs : List (Key × V)}
theorem PtD.same {F : Str → Option (Rat × Rat)} (h : PtD K H kvs F) (s : Same H H') : PtD K H' kvs F := fun nm => by
  rcases h nm with h | ⟨v, q, h1, h2, h3⟩
  · exact .inl h
  · exact .inr ⟨v, q, h1, h2, h3.same s⟩
theorem RtD.same {F : Str → Option Rat} (h : RtD K H kvs F) (s : Same H H') : RtD K H' kvs F := fun nm => by
  rcases h nm with h | ⟨v, q, h1, h2, h3⟩
  · exact .inl h
  · exact .inr ⟨v, q, h1, h2, h3.same s⟩
theorem LtD.same {F : Str → Option (List Rat)} (h : LtD K H kvs F) (s : Same H H') : LtD K H' kvs F := fun nm => by
  rcases h nm with h | ⟨l, us, q, h1, h2, h3, h4⟩
  · exact .inl h
  · exact .inr ⟨l, us, q, h1, h2, s _ _ h3, Paired.mapP h4 fun _ _ z => z.same s⟩
theorem PtD.dget {F : Str → Option (Rat × Rat)} (h : PtD K H kvs F) {x : Str} {v : V} {q : Rat × Rat} (n : PtR K H v q) : PtR K H ((valV kvs (.inr x)).getD v) ((F x).getD q) := by
  rcases h x with ⟨h1, h2⟩ | ⟨u, q', h1, h2, h3⟩
  · rw [h1, h2]
    exact n
  · rw [h1, h2]
    exact h3
theorem RtD.dget {F : Str → Option Rat} (h : RtD K H kvs F) {x : Str} {v : V} {q : Rat} (n : NmR K H v q) : NmR K H ((valV kvs (.inr x)).getD v) ((F x).getD q) := by
  rcases h x with ⟨h1, h2⟩ | ⟨u, q', h1, h2, h3⟩
  · rw [h1, h2]
    exact n
  · rw [h1, h2]
    exact h3
end
end Ty
namespace Ty
open PySem PySem.Spec PyProof.Rows L2
end Ty
namespace Ty
open PySem PySem.Spec PyProof.Rows L2
theorem nm_inj {α : Type} {nm : α → Str} {l : List α} (nd : (l.map nm).Nodup) {b b' : α} (h : b ∈ l) (h' : b' ∈ l) (e : nm b = nm b') : b = b' := by
  obtain ⟨i, hi, ei⟩ := List.mem_iff_getElem.mp h
  obtain ⟨j, hj, ej⟩ := List.mem_iff_getElem.mp h'
  have q1 : (l.map nm)[i]? = some (nm b) := by rw [List.getElem?_map, List.getElem?_eq_getElem hi, ei]; rfl
  have q2 : (l.map nm)[j]? = some (nm b) := by rw [List.getElem?_map, List.getElem?_eq_getElem hj, ej, e]; rfl
  have ij := (List.getElem?_inj (by rw [List.length_map]; exact hi) nd).mp (q1.trans q2.symm)
  subst ij
  rw [← ei, ← ej]
theorem take_new {α : Type} {nm : α → Str} {l : List α} (nd : (l.map nm).Nodup) {i : Nat} {b b' : α} (h : l[i]? = some b) (m : b' ∈ l.take i) : nm b' ≠ nm b := fun e => by
  have il := (List.getElem?_eq_some_iff.mp h).1
  obtain ⟨j, hj, ej⟩ := List.mem_iff_getElem.mp m
  rw [List.getElem_take] at ej
  rw [List.length_take] at hj
  have q1 : (l.map nm)[j]? = some (nm b) := by rw [List.getElem?_map, List.getElem?_eq_getElem (by omega), ej, ← e]; rfl
  have q2 : (l.map nm)[i]? = some (nm b) := by rw [List.getElem?_map, h]; rfl
  have := (List.getElem?_inj (by rw [List.length_map]; omega) nd).mp (q1.trans q2.symm)
  omega
theorem take_snoc {α : Type} {l : List α} {i : Nat} {b : α} (h : l[i]? = some b) : l.take (i + 1) = l.take i ++ [b] := by rw [List.take_add_one, h]; rfl
end Ty
namespace Ty
open PySem PySem.Spec PyProof.Rows L2
theorem valV_at' {κ : Type} [DecidableEq κ] : ∀ {kvs : List (κ × V)} {t : Nat} {k : κ} {y : V}, (kvs.map (·.1)).Nodup → kvs[t]? = some (k, y) → valV kvs k = some y
  | p :: r, 0, k, y, nd, e => by
    cases e
    exact valV_pos rfl
  | p :: r, t + 1, k, y, nd, e => by
    rw [List.map_cons, List.nodup_cons] at nd
    have e' : r[t]? = some (k, y) := e
    rw [valV_neg (fun z => nd.1 (z ▸ List.mem_map.mpr ⟨_, List.mem_of_getElem? e', rfl⟩))]
    exact valV_at' nd.2 e'
theorem nodup_inr {xs : List Str} (h : xs.Nodup) : (xs.map fun x => (Sum.inr x : Key)).Nodup := by
  unfold List.Nodup
  rw [List.pairwise_map]
  exact List.Pairwise.imp (fun h e => h (Sum.inr.inj e)) h
end Ty

set_option maxHeartbeats 4000000
namespace Ty
open PySem PySem.Spec PyProof.Rows L2
theorem sm_tr {H1 H2 H3 : Hp} (a : Same H1 H2) (b : Same H2 H3) : Same H1 H3 := fun c o z => b _ _ (a _ _ z)
theorem none_back {H H' : Hp} (s : Same H H') {p : Addr} (n : H' p = none) : H p = none := by
  cases e : H p with
  | none => rfl
  | some o => rw [s _ _ e] at n; cases n
theorem nodup_range_map {α : Type} {f : Nat → α} {n : Nat} (h : ∀ i j, i < n → j < n → f i = f j → i = j) : ((List.range n).map f).Nodup := by
  unfold List.Nodup
  rw [List.pairwise_map]
  refine List.Pairwise.imp_of_mem ?_ (List.nodup_range (n := n))
  intro a b ha hb hne e
  exact hne (h a b (List.mem_range.mp ha) (List.mem_range.mp hb) e)
theorem list_of_rel {α : Type} {f : Nat → α} {n : Nat} {ys : List α} (hl : ys.length = n) (h : ∀ i v, ys[i]? = some v → v = f i) : ys = (List.range n).map f := by
  refine List.ext_getElem? fun i => ?_
  by_cases hi : i < n
  · have e : ys[i]? = some ys[i] := List.getElem?_eq_getElem (by omega)
    rw [e, h i _ e, List.getElem?_map, List.getElem?_range hi]
    rfl
  · rw [List.getElem?_eq_none (by omega), List.getElem?_eq_none (by simp; omega)]
theorem foldl_size (a : Array Nat) : ∀ (n : Nat) (acc : Array Nat), ((List.replicate n a).foldl (· ++ ·) acc).size = acc.size + n * a.size
  | 0, acc => by simp
  | n + 1, acc => by
    rw [List.replicate_succ, List.foldl_cons, foldl_size a n, Array.size_append, Nat.succ_mul]
    omega
theorem mul_len {x : Str} {n : Nat} (h : x.length = 1) : (Txt.mul x (n : Int)).length = n := by
  unfold Txt.mul
  have hs : x.cps.size = 1 := h
  by_cases h0 : (n : Int) < 1
  · rw [if_pos h0]
    have : n = 0 := by omega
    subst this
    rfl
  rw [if_neg h0]
  by_cases h1 : ((n : Int) == 1 || x.length == 0) = true
  · rw [if_pos h1]
    rw [h] at h1 ⊢
    have : (n : Int) = 1 := by simpa using h1
    omega
  · rw [if_neg h1]
    show ((List.replicate (n : Int).toNat x.cps).foldl (· ++ ·) #[]).size = n
    rw [foldl_size, hs]
    simp
theorem mulOk1 {x : Str} {n : Nat} (h : x.length = 1) (hn : n < 20) : MulOk x (n : Int) := by
  unfold MulOk
  rw [h]
  revert n
  decide +kernel
end Ty
namespace Ty
open PySem PySem.Spec PyProof.Rows L2
section
variable {X : Cx}
def rTupL (K : PySem.W.Frag) : List V → Hp → VK → Prop := fun xs H Q => ∃ (p : Addr) (ys : List V), xs = [.ref p] ∧ SqL K H p ys ∧ ∀ t, H t = none → Q (.ref t) (upd H t (.tup ys))
theorem call_tupL : CallR X (.type "tuple") (rTupL X.K) := by
  intro pins s σ H xs us Q I r h
  obtain ⟨p, ys, rfl, hq, q⟩ := h
  obtain ⟨u, rfl, r1⟩ := vals1 r
  cases r1
  obtain ⟨its, rv, pl, hz⟩ := I.list hq
  have hlen := rv.length
  refine call_tuple_list pl.isList (fun h' hk => ?_) (by simp; omega)
  have I2 : Inv X pins σ H { s with heap := h', toks := s.toks } := I.kept (t' := s.toks) hk
  have hn := I2.hok.fresh (Nat.le_refl h'.objs.size)
  have I3 : Inv X pins σ (upd H h'.objs.size (.tup ys)) { s with heap := h'.push { cls := .type "tuple", data := .seq its.toArray }, toks := s.toks } :=
    I2.laid (t' := s.toks) (fun b u e => Heap.get?_push_of_some _ e) (Nat.le_refl _) ⟨hz, its, rv, ⟨_, Heap.get?_push_size _ rfl, rfl, _, rfl⟩⟩
  exact ⟨.ref _, _, I3, rfl, q _ hn⟩
end
section
variable {D : Addr} {te : TE} {cap : L2.St} {H1 : Hp} {Q : VK}
theorem comp_tup {K : PySem.W.Frag} {a : Addr} {xs : List V} (Rel : Nat → V → Hp → Prop) (nD : H1 D = none) (hn : xs.length < sizeLine) (hS : ∀ H, Same H1 H → SqT K H a xs)
    (hR : ∀ i v H H' ys, H D = some (.lst ys) → KSame D H H' → Rel i v H → Rel i v H')
    (he : ∀ i x H (R : VK), xs[i]? = some x → Same H1 H → (∀ v H6, Same H H6 → Rel i v H6 → R v H6) → te (some x :: cap) H R)
    (hd : ∀ ys H, ys.length = xs.length → (∀ i v, ys[i]? = some v → Rel i v H) → Same H1 H → H D = some (.lst ys) → Q (.ref D) H) :
    tBlk D (gName 0) tYes te (Itt K a) (none :: cap) H1 Q := by
  refine comp_gen xs.length (fun i => (xs[i]?).getD .non) Rel nD hn (fun i H hi s => ⟨⟨xs, xs[i], hS H s, List.getElem?_eq_getElem hi⟩, fun x H' y => ⟨y.1, ?_⟩⟩) (fun H s => ⟨xs, hS H s, Nat.le_refl _⟩) hR (fun i H R hi s k => ?_) hd
  · rw [y.2 xs (hS H s)]; rfl
  · have e : xs[i]? = some xs[i] := List.getElem?_eq_getElem hi
    have k' := he i _ H R e s k
    rw [← (show (xs[i]?).getD .non = xs[i] by rw [e]; rfl)] at k'
    exact k'
end
end Ty

set_option maxHeartbeats 4000000
namespace Ty
open PySem PySem.Spec PyProof.Rows L2
abbrev IsZipB (h : Heap) (z TI TO : Addr) (f0 : Value) (fb : Bool) : Prop :=
  h.get? z = some { cls := .type "zip", dict := none, data := .fields #[f0, .bool fb, .bool false, .ref TI, .ref TO], slots := #[] }
section
variable {prog : Program} {w : World} {A : Around} {E : Value → Shared → Prop} {s : Shared}
theorem wpAny_alive {a : Addr} {o : Obj} {Q : Option Obj → Shared → Prop} (h : s.heap.get? a = some o) (q : Q (some o) s) : wpAny (model prog w) A (loadIfAlive a) Q E s := fun Γ p _ => by
  show Sem.wp _ _ (.loadIfAlive a .pure) _ _ _ _
  rw [Sem.wp_loadIfAlive, h]
  exact q
theorem not_free {z TI TO T : Addr} {fb : Bool} {o : Obj} {Q : Bool → Shared → Prop} (hz : IsZipB s.heap z TI TO (rawInt T) fb) (hT : s.heap.get? T = some o)
    (hQ : ∀ h', IsZipB h' z TI TO (rawInt T) true → Heap.SameBut z s.heap h' → Q false { s with heap := h' }) : wpAny (model prog w) A (Builtin.SmallTypes.ownedTupleIsFree (.ref z)) Q E s := by
  unfold Builtin.SmallTypes.ownedTupleIsFree
  refine wpAny_bind (wpAny_field hz rfl (x := rawInt T) rfl ?_)
  show wpAny _ _ (loadIfAlive ((T : Int)).toNat >>= _) _ _ _
  refine wpAny_bind (wpAny_alive (o := o) (by simpa using hT) ?_)
  simp only [Option.isNone_some, Bool.false_eq_true, if_false]
  refine wpAny_bind (wpAny_field hz rfl (x := .bool fb) rfl ?_)
  cases fb with
  | true =>
    show wpAny _ _ (if (Value.bool true != Value.bool true) = true then _ else _) _ _ _
    rw [if_neg (by decide)]
    exact wpAny_pure (hQ s.heap hz ⟨rfl, fun _ _ => rfl⟩)
  | false =>
    show wpAny _ _ (if (Value.bool false != Value.bool true) = true then _ else _) _ _ _
    rw [if_pos (by decide)]
    refine wpAny_bind (wpAny_setField_rec hz (by simp) fun h' hz' hs' => wpAny_pure (hQ h' hz' hs'))
theorem zip_item2 {z TI TO T i1 i2 l1 l2 : Addr} {fb : Bool} {o : Obj} {k1 k2 : Nat} {xs ys : Array Value} {x y : Value} {Q : Value → Shared → Prop} (D : ZipApart z TI TO i1 i2 l1 l2)
    (hz : IsZipB s.heap z TI TO (rawInt T) fb) (hT : s.heap.get? T = some o) (hTI : IsPair s.heap TI (.ref i1) (.ref i2))
    (h1 : s.heap.IsListIter i1 l1 k1) (h2 : s.heap.IsListIter i2 l2 k2) (hl1 : s.heap.IsList l1 xs) (hl2 : s.heap.IsList l2 ys) (hx : xs[k1]? = some x) (hy : ys[k2]? = some y)
    (hQ : ∀ h', IsZipB h' z TI TO (rawInt T) true → h'.IsListIter i1 l1 (k1 + 1) → h'.IsListIter i2 l2 (k2 + 1) → IsPair h' s.heap.objs.size x y → h'.objs.size = s.heap.objs.size + 1 →
      (∀ c o, c ≠ z → c ≠ i1 → c ≠ i2 → s.heap.get? c = some o → h'.get? c = some o) → Q (.ref s.heap.objs.size) { s with heap := h' }) :
    wpAny (model prog w) A (Builtin.«zip.__next__» ⟨[.ref z], []⟩) (fun fin s' => ∃ v, fin = .done (.ret v) ∧ Q v s') E s := by
  show wpAny _ _ (field (.ref z) 2 >>= _) _ _ _
  refine wpAny_bind (wpAny_field hz rfl (x := .bool false) rfl ?_)
  show wpAny _ _ (field (.ref z) 3 >>= _) _ _ _
  refine wpAny_bind (wpAny_field hz rfl (x := .ref TI) rfl ?_)
  refine wpAny_bind (wpAny_seqItems hTI rfl ?_)
  show wpAny _ _ (Builtin.SmallTypes.ownedTupleIsFree (.ref z) >>= _) _ _ _
  refine wpAny_bind (not_free hz hT fun h₁ hz₁ hs₁ => ?_)
  simp only [Bool.false_eq_true, if_false]
  refine wpAny_bind ?_
  show wpAny _ _ (forIn [Value.ref i1, Value.ref i2].toArray _ _) _ _ _
  rw [List.forIn_toArray]
  simp only [List.forIn_cons, List.forIn_nil]
  refine wpAny_bind (wpAny_bind (wpAny_holding ?_))
  show wpAny _ _ (Builtin.SmallTypes.nextOf (.ref i1) >>= _) _ _ _
  refine wpAny_bind (wpAny_nextOf_list_item (h1.extBut hs₁.extBut D.i1z) (hl1.extBut hs₁.extBut D.l1z) hx fun h₂ h1₂ hs₂ => wpAny_pure ?_)
  refine wpAny_pure ?_
  refine wpAny_bind (wpAny_bind (wpAny_holding ?_))
  show wpAny _ _ (Builtin.SmallTypes.nextOf (.ref i2) >>= _) _ _ _
  refine wpAny_bind (wpAny_nextOf_list_item ((h2.extBut hs₁.extBut D.i2z).extBut hs₂.extBut D.i12.symm) ((hl2.extBut hs₁.extBut D.l2z).extBut hs₂.extBut D.l2i1) hy fun h₄ h2₄ hs₄ => wpAny_pure ?_)
  refine wpAny_pure (wpAny_pure ?_)
  refine wpAny_bind (wpAny_newTuple (hsz := (by show 2 ≤ sizeLine; decide)) ?_)
  have hsz : h₄.objs.size = s.heap.objs.size := by rw [hs₄.1, hs₂.1, hs₁.1]
  refine wpAny_pure ⟨_, rfl, ?_⟩
  have hz₄ : IsZipB h₄ z TI TO (rawInt T) true := hs₄.extBut _ _ D.i2z.symm (hs₂.extBut _ _ D.i1z.symm hz₁)
  show Q (.ref h₄.objs.size) _
  rw [hsz]
  refine hQ _ (Heap.get?_push_of_some _ hz₄) ((h1₂.extBut hs₄.extBut D.i12).at fun o e => Heap.get?_push_of_some _ e) (h2₄.at fun o e => Heap.get?_push_of_some _ e) ?_ (by rw [Heap.size_push, hsz]) fun c o c1 c3 c4 e => Heap.get?_push_of_some _ (hs₄.extBut _ _ c4 (hs₂.extBut _ _ c3 (hs₁.extBut _ _ c1 e)))
  show (h₄.push _).get? _ = _
  rw [← hsz]
  exact Heap.get?_push_size _ rfl
theorem zip_end2 {z TI TO T i1 i2 l1 l2 : Addr} {fb : Bool} {o : Obj} {k1 k2 : Nat} {xs ys : Array Value} {Q : Fin → Shared → Prop} (hh : A.handled = none) (D : ZipApart z TI TO i1 i2 l1 l2)
    (hz : IsZipB s.heap z TI TO (rawInt T) fb) (hT : s.heap.get? T = some o) (hTI : IsPair s.heap TI (.ref i1) (.ref i2))
    (h1 : s.heap.IsListIter i1 l1 k1) (h2 : s.heap.IsListIter i2 l2 k2) (hl1 : s.heap.IsList l1 xs) (hl2 : s.heap.IsList l2 ys) (hend : xs[k1]? = none ∨ ys[k2]? = none)
    (hE : ∀ h' e, (∀ c o, c ≠ z → c ≠ i1 → c ≠ i2 → s.heap.get? c = some o → h'.get? c = some o) → (∃ o, h'.get? e = some o ∧ o.cls = .type "StopIteration") → E (.ref e) { s with heap := h' }) :
    wpAny (model prog w) A (Builtin.«zip.__next__» ⟨[.ref z], []⟩) Q E s := by
  show wpAny _ _ (field (.ref z) 2 >>= _) _ _ _
  refine wpAny_bind (wpAny_field hz rfl (x := .bool false) rfl ?_)
  show wpAny _ _ (field (.ref z) 3 >>= _) _ _ _
  refine wpAny_bind (wpAny_field hz rfl (x := .ref TI) rfl ?_)
  refine wpAny_bind (wpAny_seqItems hTI rfl ?_)
  show wpAny _ _ (Builtin.SmallTypes.ownedTupleIsFree (.ref z) >>= _) _ _ _
  refine wpAny_bind (not_free hz hT fun h₁ hz₁ hs₁ => ?_)
  simp only [Bool.false_eq_true, if_false]
  refine wpAny_bind ?_
  show wpAny _ _ (forIn [Value.ref i1, Value.ref i2].toArray _ _) _ _ _
  rw [List.forIn_toArray]
  simp only [List.forIn_cons, List.forIn_nil]
  refine wpAny_bind (wpAny_bind (wpAny_holding ?_))
  show wpAny _ _ (Builtin.SmallTypes.nextOf (.ref i1) >>= _) _ _ _
  cases hx : xs[k1]? with
  | none =>
    refine wpAny_bind (wpAny_nextOf_list_end hh (h1.extBut hs₁.extBut D.i1z) (hl1.extBut hs₁.extBut D.l1z) hx fun h₂ e hs₂ he => ?_)
    exact hE h₂ e (fun c o c1 c3 _ x => hs₂ _ _ c3 (hs₁.extBut _ _ c1 x)) he
  | some x =>
    have hy : ys[k2]? = none := by rcases hend with h | h; rw [hx] at h; cases h; exact h
    refine wpAny_bind (wpAny_nextOf_list_item (h1.extBut hs₁.extBut D.i1z) (hl1.extBut hs₁.extBut D.l1z) hx fun h₂ h1₂ hs₂ => wpAny_pure ?_)
    refine wpAny_pure ?_
    refine wpAny_bind (wpAny_bind (wpAny_holding ?_))
    show wpAny _ _ (Builtin.SmallTypes.nextOf (.ref i2) >>= _) _ _ _
    refine wpAny_bind (wpAny_nextOf_list_end hh ((h2.extBut hs₁.extBut D.i2z).extBut hs₂.extBut D.i12.symm) ((hl2.extBut hs₁.extBut D.l2z).extBut hs₂.extBut D.l2i1) hy fun h₄ e hs₄ he => ?_)
    exact hE h₄ e (fun c o c1 c3 c4 x => hs₄ _ _ c4 (hs₂.extBut _ _ c3 (hs₁.extBut _ _ c1 x))) he
theorem next_item2 {z TI TO T i1 i2 l1 l2 : Addr} {fb : Bool} {o : Obj} {k1 k2 : Nat} {xs ys : Array Value} {x y : Value} {Q : Option Value → Shared → Prop} (D : ZipApart z TI TO i1 i2 l1 l2)
    (hz : IsZipB s.heap z TI TO (rawInt T) fb) (hT : s.heap.get? T = some o) (hTI : IsPair s.heap TI (.ref i1) (.ref i2))
    (h1 : s.heap.IsListIter i1 l1 k1) (h2 : s.heap.IsListIter i2 l2 k2) (hl1 : s.heap.IsList l1 xs) (hl2 : s.heap.IsList l2 ys) (hx : xs[k1]? = some x) (hy : ys[k2]? = some y)
    (hQ : ∀ h', IsZipB h' z TI TO (rawInt T) true → h'.IsListIter i1 l1 (k1 + 1) → h'.IsListIter i2 l2 (k2 + 1) → IsPair h' s.heap.objs.size x y → h'.objs.size = s.heap.objs.size + 1 →
      (∀ c o, c ≠ z → c ≠ i1 → c ≠ i2 → s.heap.get? c = some o → h'.get? c = some o) → Q (some (.ref s.heap.objs.size)) { s with heap := h' }) :
    wpAny (model prog w) A (pyNext (.ref z)) Q E s := by
  have hT' : s.TypeIs (.ref z) "zip" := ⟨_, hz, rfl⟩
  unfold pyNext
  exact wpAny_bind (wpAny_attempt (wpAny_callSpecial?_slot (name := Str.ofString "__next__") hT' F.slot_zip_next
    (wpAny_call_entry F.slot_zip_next hT' F.entry_zip_next
      (zip_item2 D hz hT hTI h1 h2 hl1 hl2 hx hy fun h' a1 a3 a4 a5 a6 a7 => wpAny_pure (hQ h' a1 a3 a4 a5 a6 a7)) (F.args_zip_next_1 _))))
theorem next_end2 {z TI TO T i1 i2 l1 l2 : Addr} {fb : Bool} {o : Obj} {k1 k2 : Nat} {xs ys : Array Value} {Q : Option Value → Shared → Prop} (hh : A.handled = none) (D : ZipApart z TI TO i1 i2 l1 l2)
    (hz : IsZipB s.heap z TI TO (rawInt T) fb) (hT : s.heap.get? T = some o) (hTI : IsPair s.heap TI (.ref i1) (.ref i2))
    (h1 : s.heap.IsListIter i1 l1 k1) (h2 : s.heap.IsListIter i2 l2 k2) (hl1 : s.heap.IsList l1 xs) (hl2 : s.heap.IsList l2 ys) (hend : xs[k1]? = none ∨ ys[k2]? = none)
    (hQ : ∀ h', (∀ c o, c ≠ z → c ≠ i1 → c ≠ i2 → s.heap.get? c = some o → h'.get? c = some o) → Q none { s with heap := h' }) : wpAny (model prog w) A (pyNext (.ref z)) Q E s := by
  have hT' : s.TypeIs (.ref z) "zip" := ⟨_, hz, rfl⟩
  unfold pyNext
  refine wpAny_bind (wpAny_attempt (wpAny_callSpecial?_slot (name := Str.ofString "__next__") hT' F.slot_zip_next
    (wpAny_call_entry F.slot_zip_next hT' F.entry_zip_next (zip_end2 hh D hz hT hTI h1 h2 hl1 hl2 hend fun h' e hk he => ?_) (F.args_zip_next_1 _))))
  obtain ⟨o, ho, hc⟩ := he
  refine wpAny_bind (wpAny_isInstance (T := "StopIteration") (b := true) ⟨o, ho, hc⟩ isSubtype_stop ?_)
  exact wpAny_pure (hQ _ hk)
end
def ZSt (h : Heap) (z TI TO i1 i2 a b S : Addr) (i : Nat) : Prop := (IsZipB h z TI TO .none false ∨ ∃ (T : Addr) (o : Obj) (fb : Bool), IsZipB h z TI TO (rawInt T) fb ∧ h.get? T = some o ∧ T ≠ z ∧ T ≠ TO ∧ T ≠ i1 ∧ T ≠ i2 ∧ T ≠ S) ∧ IsPair h TI (.ref i1) (.ref i2) ∧ (∃ x y, IsPair h TO x y) ∧ h.IsListIter i1 a i ∧ h.IsListIter i2 b i
section
variable {prog : Program} {w : World} {A : Around} {E : Value → Shared → Prop} {s : Shared} {z TI TO i1 i2 a b S : Addr} {i : Nat}
theorem ZSt.frame {h h' : Heap} (st : ZSt h z TI TO i1 i2 a b S i) (k : ∀ c o, c ≠ S → h.get? c = some o → h'.get? c = some o) (nz : z ≠ S) (n1 : TI ≠ S) (n2 : TO ≠ S) (n3 : i1 ≠ S) (n4 : i2 ≠ S) : ZSt h' z TI TO i1 i2 a b S i := by
  obtain ⟨hz, hTI, ⟨x, y, hTO⟩, h1, h2⟩ := st
  refine ⟨?_, k _ _ n1 hTI, ⟨x, y, k _ _ n2 hTO⟩, h1.at fun o e => k _ o n3 e, h2.at fun o e => k _ o n4 e⟩
  rcases hz with hz | ⟨T, o, fb, hz, hT, t1, t2, t3, t4, t5⟩
  · exact .inl (k _ _ nz hz)
  · exact .inr ⟨T, o, fb, k _ _ nz hz, k _ _ t5 hT, t1, t2, t3, t4, t5⟩
theorem ZSt.item {oS : Obj} {xs ys : Array Value} {x y : Value} {Q : Option Value → Shared → Prop} (D : ZipApart z TI TO i1 i2 a b) (st : ZSt s.heap z TI TO i1 i2 a b S i) (hS : s.heap.get? S = some oS)
    (hl1 : s.heap.IsList a xs) (hl2 : s.heap.IsList b ys) (hx : xs[i]? = some x) (hy : ys[i]? = some y)
    (hQ : ∀ h', ZSt h' z TI TO i1 i2 a b S (i + 1) → IsPair h' s.heap.objs.size x y → (∀ c o, c ∉ [z, TI, TO, i1, i2] → s.heap.get? c = some o → h'.get? c = some o) → Q (some (.ref s.heap.objs.size)) { s with heap := h' }) :
    wpAny (model prog w) A (pyNext (.ref z)) Q E s := by
  obtain ⟨hz, hTI, ⟨x0, y0, hTO⟩, h1, h2⟩ := st
  have lt : ∀ {c o}, s.heap.get? c = some o → s.heap.objs.size ≠ c := fun e => Nat.ne_of_gt (Heap.lt_size e)
  have e1 : ∃ o, s.heap.get? i1 = some o := by obtain ⟨o, e, _⟩ := h1; exact ⟨o, e⟩
  have e2 : ∃ o, s.heap.get? i2 = some o := by obtain ⟨o, e, _⟩ := h2; exact ⟨o, e⟩
  obtain ⟨o1, e1⟩ := e1
  obtain ⟨o2, e2⟩ := e2
  have nin : ∀ {c : Addr}, c ∉ [z, TI, TO, i1, i2] → c ≠ z ∧ c ≠ TI ∧ c ≠ TO ∧ c ≠ i1 ∧ c ≠ i2 := fun h => by simpa using h
  rcases hz with hz | ⟨T, o, fb, hz, hT, t1, t2, t3, t4, t5⟩
  · refine wpAny_pyNext_zip_item D hz hTI hTO h1 h2 hl1 hl2 hx hy fun h' a1 a2 a3 a4 a5 a6 a7 => ?_
    refine hQ h' ⟨.inr ⟨_, _, false, a1, a5, lt hz, lt hTO, lt e1, lt e2, lt hS⟩, a7 _ _ D.TIz D.TITO D.TIi1 D.TIi2 hTI, ⟨_, _, a2⟩, a3, a4⟩ a5 fun c o hc e => ?_
    obtain ⟨c1, c2, c3, c4, c5⟩ := nin hc
    exact a7 c o c1 c3 c4 c5 e
  · refine next_item2 D hz hT hTI h1 h2 hl1 hl2 hx hy fun h' a1 a3 a4 a5 a6 a7 => ?_
    refine hQ h' ⟨.inr ⟨T, o, true, a1, a7 _ _ t1 t3 t4 hT, t1, t2, t3, t4, t5⟩, a7 _ _ D.TIz D.TIi1 D.TIi2 hTI, ⟨_, _, a7 _ _ D.TOz D.TOi1 D.TOi2 hTO⟩, a3, a4⟩ a5 fun c o hc e => ?_
    obtain ⟨c1, c2, c3, c4, c5⟩ := nin hc
    exact a7 c o c1 c4 c5 e
theorem ZSt.fin {xs ys : Array Value} {Q : Option Value → Shared → Prop} (hh : A.handled = none) (D : ZipApart z TI TO i1 i2 a b) (st : ZSt s.heap z TI TO i1 i2 a b S i)
    (hl1 : s.heap.IsList a xs) (hl2 : s.heap.IsList b ys) (hend : xs[i]? = none ∨ ys[i]? = none)
    (hQ : ∀ h', (∀ c o, c ∉ [z, TI, TO, i1, i2] → s.heap.get? c = some o → h'.get? c = some o) → Q none { s with heap := h' }) : wpAny (model prog w) A (pyNext (.ref z)) Q E s := by
  obtain ⟨hz, hTI, ⟨x0, y0, hTO⟩, h1, h2⟩ := st
  have nin : ∀ {c : Addr}, c ∉ [z, TI, TO, i1, i2] → c ≠ z ∧ c ≠ TI ∧ c ≠ TO ∧ c ≠ i1 ∧ c ≠ i2 := fun h => by simpa using h
  rcases hz with hz | ⟨T, o, fb, hz, hT, t1, t2, t3, t4, t5⟩
  · refine wpAny_pyNext_zip_end hh D hz hTI hTO h1 h2 hl1 hl2 hend fun h' kk => hQ h' fun c o hc e => ?_
    obtain ⟨c1, c2, c3, c4, c5⟩ := nin hc
    exact kk c o c1 c3 c4 c5 e
  · refine next_end2 hh D hz hT hTI h1 h2 hl1 hl2 hend fun h' kk => hQ h' fun c o hc e => ?_
    obtain ⟨c1, c2, c3, c4, c5⟩ := nin hc
    exact kk c o c1 c4 c5 e
end
end Ty
namespace Ty
open PySem PySem.Spec PyProof.Rows L2
section
variable {X : Cx} {pins : List (Addr × Obj)} {σ : L2.St}
def ZLs (H : Hp) (xs ys us : List V) : Prop := ∀ (j : Nat) (u : V), us[j]? = some u → ∃ (x y : V) (p : Addr), xs[j]? = some x ∧ ys[j]? = some y ∧ u = .ref p ∧ H p = some (.tup [x, y])
def tListZ (ta : TA) : TE := fun σ H Q => ta σ H fun vs H1 => ∃ (a b : Addr) (xs ys : List V), vs = [.ref a, .ref b] ∧ H1 a = some (.lst xs) ∧ H1 b = some (.lst ys) ∧
  ∀ (l : Addr) (us : List V) (H' : Hp), Same H1 H' → H1 l = none → H' l = some (.lst us) → us.length = min xs.length ys.length → ZLs H' xs ys us → Q (.ref l) H'
theorem boot_list : bootBuiltins "list" = some (.type "list") := by decide +kernel
end
end Ty

set_option maxHeartbeats 4000000
namespace Ty
open PySem PySem.Spec PyProof.Rows L2
section
variable {X : Cx} {pins : List (Addr × Obj)} {σ : L2.St} {H : Hp} {s : Shared}
theorem Inv.laidIn {a : Addr} {o : HO} (I : Inv X pins σ H s) (f : FpOk X pins H a) (new : ObjOk X.prog X.w (upd H a o) s.heap a o) : Inv X pins σ (upd H a o) s := by
  obtain ⟨f0, f1, f2, f3, f4, f5⟩ := f
  have nx : ∀ b u, H b = some u → upd H a o b = some u := fun b u q => by rw [upd_ne (fun z => by rw [z, f0] at q; cases q)]; exact q
  refine ⟨I.ok, I.os, I.bare, ⟨I.base.keep, I.base.slot, fun b ob q z hx => ?_, I.base.there, fun b xs q => nx b _ (I.base.tups b xs q), fun b ob u' q => nx b _ (I.base.frzs b ob u' q), fun b ps q => ?_⟩, I.loc, I.cell, ?_, fun x c q => ?_, fun p hp => ?_, ?_, I.len⟩
  · rw [upd_ne (fun e => ?_)]
    · exact I.base.free b ob q z hx
    · rcases f3 with f3 | f3
      · exact hx (e ▸ f3)
      · exact absurd (Heap.lt_size q) (by rw [e]; exact Nat.not_lt.mpr f3)
  · obtain ⟨m, z⟩ := I.base.tbls b ps q
    exact ⟨m, nx b _ z⟩
  · rw [upd_ne (Ne.symm f1)]
    exact I.free
  · rw [upd_ne (f4 x c q)]
    exact I.freeC x c q
  · obtain ⟨a1, a2, a3⟩ := I.pin p hp
    exact ⟨a1, by rw [upd_ne (f5 p hp)]; exact a2, a3⟩
  · intro b u q
    by_cases hb : b = a
    · subst hb
      rw [upd_same] at q
      cases q
      exact new
    · rw [upd_ne hb] at q
      exact (I.hok b u q).stay (fun _ _ _ z => z) (fun c z => nx c _ z) fun c xs z => nx c _ z
theorem lay_pairs : ∀ (as : List Addr) (kvs : List (Key × V)) (H : Hp), Inv X pins σ H s → as.Pairwise (· < ·) → (∀ a ∈ as, FpOk X pins H a) → as.length = kvs.length →
    (∀ (j : Nat) (a : Addr) (kv : Key × V), as[j]? = some a → kvs[j]? = some kv → ∃ its, Vals [kV kv.1, kv.2] its ∧ IsTup s.heap a its.toArray) →
    ∃ H', Inv X pins σ H' s ∧ (∀ b, b ∉ as → H' b = H b) ∧ ∀ (j : Nat) (a : Addr) (kv : Key × V), as[j]? = some a → kvs[j]? = some kv → H' a = some (.tup [kV kv.1, kv.2])
  | [], kvs, H, I, _, _, _, _ => ⟨H, I, fun _ _ => rfl, fun j a kv e => by simp at e⟩
  | a :: as, [], H, _, _, _, hl, _ => by simp at hl
  | a :: as, kv :: kvs, H, I, hr, hf, hl, hp => by
    obtain ⟨r1, r2⟩ := List.pairwise_cons.mp hr
    obtain ⟨its, v, t⟩ := hp 0 a kv rfl rfl
    have I2 := Inv.laidIn (o := .tup [kV kv.1, kv.2]) I (hf a List.mem_cons_self) ⟨by show 2 ≤ sizeLine; decide, its, v, t⟩
    obtain ⟨H', I', k', t'⟩ := lay_pairs as kvs _ I2 r2 (fun b hb => by
      obtain ⟨f0, f1⟩ := hf b (List.mem_cons_of_mem _ hb)
      exact ⟨by rw [upd_ne (Nat.ne_of_gt (r1 b hb))]; exact f0, f1⟩) (by simpa using hl) (fun j b kv' e1 e2 => hp (j + 1) b kv' (by simpa using e1) (by simpa using e2))
    have na : a ∉ as := fun z => Nat.lt_irrefl _ (r1 a z)
    refine ⟨H', I', fun b hb => ?_, fun j b kv' e1 e2 => ?_⟩
    · rw [k' b (fun z => hb (List.mem_cons_of_mem _ z)), upd_ne (fun z => hb (by rw [z]; exact List.mem_cons_self))]
    · cases j with
      | zero =>
        cases e1
        cases e2
        rw [k' a na, upd_same]
      | succ j => exact t' j b kv' (by simpa using e1) (by simpa using e2)
def tListKs (te : TE) : TE := fun σ H Q => te σ H fun x H1 => ∃ d kvs, x = .ref d ∧ H1 d = some (.dK kvs) ∧ ∀ l, H1 l = none → Q (.ref l) (upd H1 l (.lst (kvs.map fun kv => kV kv.1)))
theorem pe_listKs {e : Expr} {te : TE} {apos cpos p pos : Pos} (hc : X.calm = true) (hg : Gl X "list") (hm : X.mg "list" = none) (ho : PE X e te) (hbase : attributeBase e "keys" X.env (eval e X.env) = eval e X.env := by rfl) (hline : (apos.endLine == cpos.line) = true := by rfl)
    (hs : starEach [(.Call (.Attribute e "keys" apos) [] [] cpos : Expr)] X.env = [(false, eval (.Call (.Attribute e "keys" apos) [] [] cpos) X.env)] := by rfl) :
    PE X (.Call (.Name "list" p) [.Call (.Attribute e "keys" apos) [] [] cpos] [] pos) (tListKs te) := by
  intro pins s σ H Q I h
  refine Call_ (ld_blt I hg hm boot_list (PyProof.Rows.callWith_type1 ?_ hs rfl))
  rw [hs]
  show wpAny _ _ (spliced ((false, eval (.Call (.Attribute e "keys" apos) [] [] cpos) X.env) :: [])) _ _ s
  refine Calls.spliced_cons ?_
  refine wpAny_Call_method0_late hbase hline (thn (ho pins s σ H _ I h) fun v s1 ⟨x, H1, I1, r1, q1⟩ => ?_)
  obtain ⟨d, kvs, rfl, e, q⟩ := q1
  cases r1
  obtain ⟨h1, h2, hd⟩ := isD_at I1 (.inl ⟨kvs, .inl e⟩)
  obtain ⟨z, hd', vs, rel, o, es1, ep, ho1, hx, hdat, hk, hp, hn⟩ := dk_of I1.hok e
  have da : s1.heap.DictAt (mixKind X.prog X.w) d vs ep := ⟨o, es1, ho1, hx, hdat, hk, hp, hn⟩
  have lv := rel.length
  refine ⟨"dict", "dict.keys", F.plainAttrs_dict, F.slot_dict_keys, F.type_dict_keys, h1, h2, Calls.callWith_builtin rfl (PySem.evalArgs_none ?_)⟩
  refine call_meetsIn F.slot_dict_keys h1 F.entry_dict_keys (F.args_dict_keys_1 _) (PySem.W.kdl_meets_keys (mixKind X.prog X.w) d hd) ⟨⟨vs, da.dictOf⟩, Calls.spliced_nil ?_⟩
  have da2 : (s1.heap.push { cls := .type "dict_keys", data := .fields #[.ref d] }).DictAt (mixKind X.prog X.w) d vs ep := da.at' fun o e => Heap.get?_push_of_some _ e
  have I2 : Inv X pins σ H1 { s1 with heap := s1.heap.push { cls := .type "dict_keys", data := .fields #[.ref d] }, toks := s1.toks } := I1.kept (t' := s1.toks) fun b o e => Heap.get?_push_of_some _ e
  refine PySem.W.kdl_call (s := { s1 with heap := s1.heap.push { cls := .type "dict_keys", data := .fields #[.ref d] } }) (PySem.W.kdl_keys (knd := mixKind X.prog X.w) (r := s1.heap.objs.size) (kvs := vs) (ep := ep)) (I1.ok.hd hc) ⟨⟨_, Heap.get?_push_size _ rfl, rfl, rfl⟩, da2⟩ (by omega) fun h' tk acc' c' kk hS hacc => ?_
  have hn' := I2.hok.fresh (Nat.le_refl (s1.heap.push { cls := .type "dict_keys", data := .fields #[.ref d] }).objs.size)
  have rv : Vals (kvs.map fun kv => kV kv.1) acc'.toList := paired_of (by have := hacc.1; simp; omega) fun i a b e1 e2 => by
    rw [List.getElem?_map] at e1
    obtain ⟨kv, ek, rfl⟩ := Option.map_eq_some_iff.mp e1
    obtain ⟨q', eq, e3, _⟩ := paired_get rel ek
    obtain ⟨k, x, e4, e5⟩ := hacc.2 i b (by simpa using e2)
    rw [eq] at e4
    cases e4
    rw [e3]
    exact key_rel e5
  have I3 := I2.laid (t' := tk) (o := .lst (kvs.map fun kv => kV kv.1)) kk (Nat.le_refl _) ⟨by rw [List.length_map]; exact z, acc'.toList, c', rv, by simpa using hS⟩
  exact ⟨.ref _, _, I3, rfl, q _ hn'⟩
def tListIs (te : TE) : TE := fun σ H Q => te σ H fun x H1 => ∃ d kvs, x = .ref d ∧ H1 d = some (.dK kvs) ∧
  ∀ (l : Addr) (us : List V) (H' : Hp), Same H1 H' → H1 l = none → H' l = some (.lst us) → Paired (fun u (kv : Key × V) => ∃ p, u = .ref p ∧ H' p = some (.tup [kV kv.1, kv.2])) us kvs → Q (.ref l) H'
theorem pe_listIs {e : Expr} {te : TE} {apos cpos p pos : Pos} (hc : X.calm = true) (hg : Gl X "list") (hm : X.mg "list" = none) (ho : PE X e te) (hbase : attributeBase e "items" X.env (eval e X.env) = eval e X.env := by rfl) (hline : (apos.endLine == cpos.line) = true := by rfl)
    (hs : starEach [(.Call (.Attribute e "items" apos) [] [] cpos : Expr)] X.env = [(false, eval (.Call (.Attribute e "items" apos) [] [] cpos) X.env)] := by rfl) :
    PE X (.Call (.Name "list" p) [.Call (.Attribute e "items" apos) [] [] cpos] [] pos) (tListIs te) := by
  intro pins s σ H Q I h
  refine Call_ (ld_blt I hg hm boot_list (PyProof.Rows.callWith_type1 ?_ hs rfl))
  rw [hs]
  show wpAny _ _ (spliced ((false, eval (.Call (.Attribute e "items" apos) [] [] cpos) X.env) :: [])) _ _ s
  refine Calls.spliced_cons ?_
  refine wpAny_Call_method0_late hbase hline (thn (ho pins s σ H _ I h) fun v s1 ⟨x, H1, I1, r1, q1⟩ => ?_)
  obtain ⟨d, kvs, rfl, e, q⟩ := q1
  cases r1
  obtain ⟨h1, h2, hd⟩ := isD_at I1 (.inl ⟨kvs, .inl e⟩)
  obtain ⟨z, hd', vs, rel, o, es1, ep, ho1, hx, hdat, hk, hp, hn⟩ := dk_of I1.hok e
  have da : s1.heap.DictAt (mixKind X.prog X.w) d vs ep := ⟨o, es1, ho1, hx, hdat, hk, hp, hn⟩
  have lv := rel.length
  refine ⟨"dict", "dict.items", F.plainAttrs_dict, F.slot_dict_items, F.type_dict_items, h1, h2, Calls.callWith_builtin rfl (PySem.evalArgs_none ?_)⟩
  refine call_meetsIn F.slot_dict_items h1 F.entry_dict_items (F.args_dict_items_1 _) (meets_dict_items (mixKind X.prog X.w) d hd) ⟨⟨vs, da.dictOf⟩, Calls.spliced_nil ?_⟩
  have da2 : (s1.heap.push { cls := .type "dict_items", data := .fields #[.ref d] }).DictAt (mixKind X.prog X.w) d vs ep := da.at' fun o e => Heap.get?_push_of_some _ e
  have I2 : Inv X pins σ H1 { s1 with heap := s1.heap.push { cls := .type "dict_items", data := .fields #[.ref d] }, toks := s1.toks } := I1.kept (t' := s1.toks) fun b o e => Heap.get?_push_of_some _ e
  refine PySem.W.kdx_call (s := { s1 with heap := s1.heap.push { cls := .type "dict_items", data := .fields #[.ref d] } }) (knd := mixKind X.prog X.w) (r := s1.heap.objs.size) (kvs := vs) (ep := ep) (I1.ok.hd hc) ⟨_, Heap.get?_push_size _ rfl, rfl, rfl⟩ da2 (by omega) fun h' tk acc c as kk hS hl hG hacc => ?_
  generalize hs2 : (s1.heap.push { cls := .type "dict_items", data := .fields #[.ref d] }) = h2' at *
  have hn' := I2.hok.fresh (Nat.le_refl h2'.objs.size)
  have sz : as.length ≤ sizeLine := by omega
  have I3 : Inv X pins σ H1 { s1 with heap := h', toks := tk } := I2.kept (t' := tk) kk
  have fp : ∀ {b : Addr}, h2'.objs.size ≤ b → FpOk X pins H1 b := fun {b} hb => I2.fpOk hb (I2.hok.fresh hb)
  have I4 := Inv.laidIn (o := .lst (as.map V.ref)) I3 (fp (Nat.le_refl _)) ⟨by rw [List.length_map]; exact sz, acc.toList, c, by
    rw [hacc]
    exact paired_of (by simp) fun i a b e1 e2 => by
      rw [List.getElem?_map] at e1 e2
      obtain ⟨x, ex, rfl⟩ := Option.map_eq_some_iff.mp e1
      rw [ex] at e2
      cases e2
      rfl, by simpa using hS⟩
  obtain ⟨H', I5, k5, t5⟩ := lay_pairs as kvs _ I4 hG.rise (fun a ha => by
    obtain ⟨f0, f1⟩ := fp (Nat.le_of_lt (hG.above a ha))
    exact ⟨by rw [upd_ne (Nat.ne_of_gt (hG.above a ha))]; exact f0, f1⟩) (by omega) (fun j a kv e1 e2 => by
    obtain ⟨key, k, x, g1, g2, g3⟩ := hG.pairs j a e1
    obtain ⟨q', eq, e3, e4⟩ := paired_get rel e2
    rw [eq] at g1
    cases g1
    exact ⟨[key, x], .cons (by rw [e3]; exact key_rel g2) (.cons e4 .nil), ⟨_, g3, rfl, _, rfl⟩⟩)
  have nS : h2'.objs.size ∉ as := fun z => Nat.lt_irrefl _ (hG.above _ z)
  refine ⟨.ref _, H', I5, rfl, q _ (as.map V.ref) H' (fun b o eb => ?_) hn' (by rw [k5 _ nS, upd_same]) (paired_of (by rw [List.length_map]; omega) fun i u kv e1 e2 => ?_)⟩
  · have nb : ∀ {b' : Addr}, h2'.objs.size ≤ b' → b ≠ b' := fun {b'} hb z => by rw [z, (fp hb).1] at eb; cases eb
    rw [k5 b (fun z => nb (Nat.le_of_lt (hG.above b z)) rfl), upd_ne (nb (Nat.le_refl _))]
    exact eb
  · rw [List.getElem?_map] at e1
    obtain ⟨a, ea, rfl⟩ := Option.map_eq_some_iff.mp e1
    exact ⟨a, rfl, t5 i a kv ea e2⟩
def iValsF (te : TE) : TI := fun σ H R => te σ H fun x H1 => ∃ d kvs, x = .ref d ∧ H1 d = some (.dK kvs) ∧ ∀ o, R (Itv d o kvs) (upd H1 d (.frz o (.dK kvs)))
theorem pi_valsF {e : Expr} {te : TE} {apos cpos : Pos} {tg : Expr} (ho : PE X e te) (hbase : attributeBase e "values" X.env (eval e X.env) = eval e X.env := by rfl) (hline : (apos.endLine == cpos.line) = true := by rfl) :
    PI X tg (.Call (.Attribute e "values" apos) [] [] cpos) (iValsF te) := by
  intro pins s σ H R I h
  refine wpAny_Call_method0_late hbase hline (thn (ho pins s σ H _ I h) fun v s1 ⟨x, H1, I1, r1, q1⟩ => ?_)
  obtain ⟨d, kvs, rfl, e, q⟩ := q1
  cases r1
  obtain ⟨h1, h2, hd⟩ := isD_at I1 (.inl ⟨kvs, .inl e⟩)
  obtain ⟨z, hd', vs, rel, o, es1, ep, ho1, hx, hdat, hk, hp, hn⟩ := dk_of I1.hok e
  have da : s1.heap.DictAt (mixKind X.prog X.w) d vs ep := ⟨o, es1, ho1, hx, hdat, hk, hp, hn⟩
  have lv := rel.length
  have I1' := Inv.freeze I1 e ho1
  refine ⟨"dict", "dict.values", F.plainAttrs_dict, F.slot_dict_values, F.type_dict_values, h1, h2, Calls.callWith_builtin rfl (PySem.evalArgs_none ?_)⟩
  refine call_meetsIn F.slot_dict_values h1 F.entry_dict_values (F.args_dict_values_1 _) (meets_dict_values (mixKind X.prog X.w) d hd) ⟨⟨vs, da.dictOf⟩, ?_⟩
  have da2 : (s1.heap.push { cls := .type "dict_values", data := .fields #[.ref d] }).DictAt (mixKind X.prog X.w) d vs ep := da.at' fun o e => Heap.get?_push_of_some _ e
  show wpAny (model X.prog X.w) X.A (pyIter (.ref s1.heap.objs.size)) _ _ _
  refine wpAny_pyIter_values (s := { s1 with heap := s1.heap.push { cls := .type "dict_values", data := .fields #[.ref d] } }) ⟨_, Heap.get?_push_size _ rfl, rfl, rfl⟩ da2 ?_
  have sz : (s1.heap.push { cls := .type "dict_values", data := .fields #[.ref d] }).objs.size = s1.heap.objs.size + 1 := Heap.size_push ..
  have I3 : Inv X pins σ (upd H1 d (.frz o (.dK kvs))) { s1 with heap := (s1.heap.push { cls := .type "dict_values", data := .fields #[.ref d] }).push { cls := .type "dict_valueiterator", data := .fields #[.ref d, .int 0 0, .int vs.length 0, .int ep 0] } } := I1'.kept (t' := s1.toks) fun b o e => Heap.get?_push_of_some _ (Heap.get?_push_of_some _ e)
  refine ⟨_, [_], _, _, _, rfl, I3, turn_vals d _ o kvs hdat, (show Heap.IsValIter _ _ d 0 kvs.length ep from ⟨_, Heap.get?_push_size _ rfl, rfl, by rw [lv]; rfl⟩), fun b hb => ?_, q o⟩
  have eb : b = (s1.heap.push { cls := .type "dict_values", data := .fields #[.ref d] }).objs.size := by simpa using hb
  have le : s1.heap.objs.size ≤ b := by rw [eb, sz]; exact Nat.le_succ _
  exact I1'.fpOk le (I1'.hok.fresh le)
theorem call_isiK {K : PySem.W.Frag} (h : X.K = K) : CallR X (.builtin "isinstance") (rIsi K) := by subst h; exact call_isi
theorem op_in_seqK {K : PySem.W.Frag} (h : X.K = K) : OpR X (compareOp .In) (rIn K false) := by subst h; exact op_in_seq
def rInBy (K : PySem.W.Frag) (neg : Bool) : R2 := fun x y H Q => ∃ (l : Addr) (us : List V) (ds : List Da) (n : Str) (d : List Da) (b : Bool), y = .ref l ∧ SqL K H l us ∧ Iss K H ds us ∧ Is K H (.t (.v (.str n) :: d)) x ∧
  (∀ e ∈ ds, ∃ m r, e = Da.t (.v (.str m) :: r) ∧ alikes r d = true ∧ dep e ≤ 60 ∧ (m = n → eqDas r d = true)) ∧ (b = true ↔ ∃ r, Da.t (.v (.str n) :: r) ∈ ds) ∧ Q (.bl (if neg then !b else b)) H
theorem iss_get {K : PySem.W.Frag} : ∀ {ds : List Da} {us : List V} {j : Nat} {u : V}, Iss K H ds us → us[j]? = some u → ∃ d, ds[j]? = some d ∧ Is K H d u
  | _ :: _, _ :: _, 0, _, h, e => by
    unfold Iss at h
    cases e
    exact ⟨_, rfl, h.1⟩
  | _ :: _, _ :: _, j + 1, _, h, e => by
    unfold Iss at h
    obtain ⟨d, e1, e2⟩ := iss_get (j := j) h.2 (by simpa using e)
    exact ⟨d, by simpa using e1, e2⟩
  | [], [], _, _, _, e => by simp at e
  | [], _ :: _, _, _, h, _ => by unfold Iss at h; exact h.elim
  | _ :: _, [], _, _, h, _ => by unfold Iss at h; exact h.elim
theorem in_by {A : Around} {x : V} {v : Value} {us : List V} {its : List Value} {ds d : List Da} {n : Str} {b : Bool} (I : Inv X pins σ H s) (hu : A.units + 60 < cLine) (hx : Is X.K H (.t (.v (.str n) :: d)) x) (rx : RelV x v) (hp : Iss X.K H ds us) (rv : Vals us its)
    (hd : ∀ e ∈ ds, ∃ m r, e = Da.t (.v (.str m) :: r) ∧ alikes r d = true ∧ dep e ≤ 60 ∧ (m = n → eqDas r d = true)) (hb : b = true ↔ ∃ r, Da.t (.v (.str n) :: r) ∈ ds) :
    ∃ e : Value → Bool, (∀ y, y ∈ its.toArray → SeqAt.EqAt A s y v (e y)) ∧ its.toArray.any e = b := by
  let Nn : Value → Prop := fun y => ∃ p r, y = .ref p ∧ SqT X.K H p (.str n :: r)
  have key : ∀ (j : Nat) (y : Value), its[j]? = some y → ∃ u m r, ds[j]? = some (Da.t (.v (.str m) :: r)) ∧ RelV u y ∧ Is X.K H (.t (.v (.str m) :: r)) u ∧ alikes r d = true ∧ dep (.t (.v (.str m) :: r)) ≤ 60 ∧ (m = n → eqDas r d = true) ∧ (Nn y ↔ m = n) := fun j y ey => by
    obtain ⟨u, eu, ru⟩ := paired_get (paired_flip rv) ey
    obtain ⟨e, ee, he⟩ := iss_get hp eu
    obtain ⟨m, r, rfl, a1, a2, a3⟩ := hd e (List.mem_of_getElem? ee)
    refine ⟨u, m, r, ee, ru, he, a1, a2, a3, ?_⟩
    unfold Is at he
    obtain ⟨p, xs, rfl, hq, hk⟩ := he
    cases xs with
    | nil => unfold Iss at hk; exact hk.elim
    | cons x0 xs =>
      unfold Iss at hk
      have e0 := hk.1
      unfold Is at e0
      obtain ⟨e0, _⟩ := e0
      cases ru
      constructor
      · rintro ⟨p', r', e', t'⟩
        cases e'
        have z := I.tuple_inj hq t'
        rw [e0] at z
        simp only [List.cons.injEq, V.str.injEq] at z
        exact z.1
      · rintro rfl
        exact ⟨p, xs, rfl, by rw [e0] at hq; exact hq⟩
  refine ⟨fun y => @decide (Nn y) (Classical.propDecidable _), fun y hy => ?_, ?_⟩
  · obtain ⟨j, hj, ey⟩ := List.mem_iff_getElem.mp (by simpa using hy : y ∈ its)
    obtain ⟨u, m, r, _, ru, hi, a1, a2, a3, a4⟩ := key j y (by rw [List.getElem?_eq_getElem hj, ey])
    have z := eqAt_da (A := A) I (.t (.v (.str m) :: r)) (.t (.v (.str n) :: d)) u x y v hi hx (by unfold alike alikes; simp only [alike, a1, Bool.and_self, Bool.true_and]) ru rx (by omega)
    have e : eqDa (.t (.v (.str m) :: r)) (.t (.v (.str n) :: d)) = @decide (Nn y) (Classical.propDecidable _) := by
      unfold eqDa eqDas
      by_cases c : m = n
      · rw [a3 c, @decide_eq_true _ (Classical.propDecidable _) (a4.mpr c)]
        subst c
        simp [eqDa, eqV]
      · rw [@decide_eq_false _ (Classical.propDecidable _) (fun z => c (a4.mp z))]
        simp [eqDa, eqV, c]
    rw [e] at z
    exact z
  · rw [Bool.eq_iff_iff, hb]
    simp only [List.any_toArray, List.any_eq_true]
    constructor
    · rintro ⟨y, hy, ey⟩
      obtain ⟨j, hj, ej⟩ := List.mem_iff_getElem.mp hy
      obtain ⟨u, m, r, em, ru, hi, a1, a2, a3, a4⟩ := key j y (by rw [List.getElem?_eq_getElem hj, ej])
      have mn := a4.mp (@of_decide_eq_true _ (Classical.propDecidable _) ey)
      subst mn
      exact ⟨r, List.mem_of_getElem? em⟩
    · rintro ⟨r, hm⟩
      obtain ⟨j, hj, ej⟩ := List.mem_iff_getElem.mp hm
      have lu := hp.length
      have li : us.length = its.length := rv.length
      have hj' : j < its.length := by omega
      refine ⟨its[j], List.getElem_mem hj', ?_⟩
      obtain ⟨u, m, r', em, ru, hi, a1, a2, a3, a4⟩ := key j its[j] (List.getElem?_eq_getElem hj')
      rw [List.getElem?_eq_getElem hj, ej] at em
      simp only [Option.some.injEq, Da.t.injEq, List.cons.injEq, Da.v.injEq, V.str.injEq] at em
      exact @decide_eq_true _ (Classical.propDecidable _) (a4.mpr em.1.symm)
theorem op_notInBy {K : PySem.W.Frag} (hK : X.K = K) (hu : X.A.units + 64 < cLine) : OpR X (compareOp .NotIn) (rInBy K true) := by
  subst hK
  intro pins s σ H x y v u Q I rx ry h
  obtain ⟨l, us, ds, n, d, b, rfl, hq, hi, hx, hd, hb, q⟩ := h
  cases ry
  obtain ⟨its, rv, pl, hz⟩ := I.list hq
  obtain ⟨e, he, ea⟩ := in_by (A := X.A.in1) I (by rw [in1_units]; omega) hx rx hi rv hd hb
  refine SeqAt.notIn_listAt e pl.isList he ⟨.bl _, H, I, rfl, ?_⟩
  rw [ea]
  exact q
end
theorem comp_listF {K : PySem.W.Frag} {D : Addr} {te : TE} {tt : TT} {cap : L2.St} {H1 : Hp} {Q : VK} {a : Addr} {α : Type} {xs : List V} {zs : List α} {Rl : V → α → Prop} (p : α → Bool) (hp : Paired Rl xs zs) (nD : H1 D = none) (hn : xs.length < sizeLine) (hS : ∀ H, Same H1 H → SqL K H a xs)
    (ht : ∀ x z H (R : Bool → Hp → Prop), Rl x z → z ∈ zs → Same H1 H → (∀ H', Same H H' → R (p z) H') → tt (some x :: cap) H R)
    (he : ∀ x z H (R : VK), Rl x z → Same H1 H → R x H → te (some x :: cap) H R)
    (hd : ∀ ys H, Paired Rl ys (zs.filter p) → Same H1 H → H D = some (.lst ys) → Q (.ref D) H) :
    tBlk D (gName 0) tt te (Itl K a) (none :: cap) H1 Q := by
  have lz : xs.length = zs.length := Paired.length hp
  have ps : ∀ {l₁ : List V} {l₂ : List α} {a : V} {b : α}, Paired Rl l₁ l₂ → Rl a b → Paired Rl (l₁ ++ [a]) (l₂ ++ [b]) := fun {l₁ l₂ a b} h h' => by
    induction h with
    | nil => exact .cons h' .nil
    | cons x _ ih => exact .cons x ih
  refine ⟨fun i m σ ys H => m = xs.length - i ∧ i ≤ xs.length ∧ (∃ o, σ = o :: cap) ∧ Same H1 H ∧ H D = some (.lst ys) ∧ Paired Rl ys ((zs.take i).filter p) ∧ ys.length ≤ i, ⟨xs.length, by simp, Nat.zero_le _, ⟨none, rfl⟩, fun b o e => by rw [upd_ne (ne_of_none e nD)]; exact e, upd_same, by simpa using Paired.nil, Nat.le_refl _⟩, ?_⟩
  rintro i m σ ys H ⟨rfl, hi, ⟨o, rfl⟩, s, hD, ey, ly⟩
  by_cases hlt : i < xs.length
  · refine .inr ⟨⟨xs, xs[i], hS H s, List.getElem?_eq_getElem hlt⟩, fun v H' y => ?_⟩
    obtain ⟨rfl, y2⟩ := y
    have q1 := y2 xs (hS _ s)
    obtain ⟨z, ez, hz⟩ := paired_get hp q1
    have er : (zs.take (i + 1)).filter p = (zs.take i).filter p ++ (if p z = true then [z] else []) := by
      rw [take_snoc ez, List.filter_append]
      by_cases c : p z = true
      · rw [if_pos c, List.filter_cons_of_pos c]
        rfl
      · rw [if_neg c, List.filter_cons_of_neg c]
        rfl
    unfold gName
    refine ht v z _ _ hz (List.mem_of_getElem? ez) s fun H2 s2 => ?_
    have s12 : Same H1 H2 := fun b o e => s2 _ _ (s _ _ e)
    have hD2 := s2 _ _ hD
    by_cases c : p z = true
    · rw [if_pos c]
      rw [if_pos c] at er
      refine he v z _ _ hz s12 ⟨hD2, by omega, xs.length - (i + 1), by omega, rfl, by omega, ⟨_, rfl⟩, ?_, upd_same, ?_, by simp; omega⟩
      · exact fun b o e => by
          rw [upd_ne (ne_of_none e nD)]
          exact s12 _ _ e
      · rw [er]
        exact ps ey hz
    · rw [if_neg c]
      rw [if_neg c, List.append_nil] at er
      exact ⟨xs.length - (i + 1), by omega, rfl, by omega, ⟨_, rfl⟩, s12, hD2, by rw [er]; exact ey, by omega⟩
  · have e : i = xs.length := by omega
    subst e
    refine .inl ⟨⟨xs, hS _ s, Nat.le_refl _⟩, hd ys H ?_ s hD⟩
    rw [lz, List.take_length] at ey
    exact ey
theorem seq_rest {t u : TS} {D : Ends} {σ : L2.St} {H : Hp} (inv : L2.St → Hp → Prop) (h1 : ∀ N : L2.St → Hp → Prop, (∀ σ' H', inv σ' H' → N σ' H') → t { D with nx := N } σ H) (h2 : ∀ σ' H', inv σ' H' → u D σ' H') : tSeq t u D σ H := h1 _ h2
end Ty

set_option maxHeartbeats 4000000
namespace T_k16
open PySem PySem.Spec PyProof.Rows L2 Ty
open Builtin.Int (intBits)
seal L2.PE L2.PS L2.PSs L2.PA
def top (i : Nat) : Stmt := PySem.Challenge.pw_trussyard_k16_lengthenings_slips_work.main.body.getD i (.Pass ⟨0, 0, 0, 0⟩)
abbrev s_YardError : Stmt := top 1
abbrev s_NoWay : Stmt := top 2
abbrev s_PinThere : Stmt := top 3
abbrev s_SpotTaken : Stmt := top 4
abbrev s_NoPin : Stmt := top 5
abbrev s_PinBusy : Stmt := top 6
abbrev s_BarThere : Stmt := top 7
abbrev s_NoBar : Stmt := top 8
abbrev s_NoLength : Stmt := top 9
abbrev s_TooMany : Stmt := top 10
abbrev s_sum_of : Stmt := top 13
abbrev s_difference_of : Stmt := top 14
abbrev s_product_of : Stmt := top 15
abbrev s_lowest_terms : Stmt := top 16
abbrev s_greatest_shared : Stmt := top 17
abbrev s_lengthenings : Stmt := top 20
abbrev s_slips : Stmt := top 21
abbrev s_work_of : Stmt := top 22
abbrev s_arm_between : Stmt := top 23
abbrev s_pair_difference : Stmt := top 24
abbrev s_pair_product : Stmt := top 25
abbrev s_Frame : Stmt := top 29
abbrev s_Hold : Stmt := top 31
abbrev s_Roller : Stmt := top 32
abbrev s_Fixed : Stmt := top 33
abbrev s_law_cell_at : Stmt := top 35
abbrev s_law_part : Stmt := top 36
abbrev s_law_lowest : Stmt := top 37
abbrev s_law_plus : Stmt := top 38
abbrev s_law_times : Stmt := top 39
abbrev s_law_drawn : Stmt := top 40
abbrev s_law_names : Stmt := top 41
abbrev s_law_ways : Stmt := top 42
abbrev s_law_pins : Stmt := top 43
abbrev s_law_bars : Stmt := top 44
abbrev s_law_put_pin : Stmt := top 45
abbrev s_law_frame : Stmt := top 46
abbrev s_law_put_anew : Stmt := top 47
abbrev s_law_handed : Stmt := top 48
abbrev s_law_moved : Stmt := top 49
abbrev s_law_along : Stmt := top 50
abbrev s_law_less : Stmt := top 51
abbrev s_law_number : Stmt := top 52
abbrev s_law_longer : Stmt := top 53
abbrev s_law_slipped : Stmt := top 54
abbrev s_law_told : Stmt := top 55
abbrev s_law_work : Stmt := top 56
abbrev s_law : Stmt := top 57
abbrev s_Frame_init : Stmt := inClass (top 29) 0
abbrev s_Frame_put_pin : Stmt := inClass (top 29) 1
abbrev s_Frame_put_bar : Stmt := inClass (top 29) 2
abbrev s_Frame_check_bar : Stmt := inClass (top 29) 3
abbrev s_Frame_check_pin : Stmt := inClass (top 29) 4
abbrev s_Frame_take_bar : Stmt := inClass (top 29) 5
abbrev s_Frame_take_pin : Stmt := inClass (top 29) 6
abbrev s_Frame_pins : Stmt := inClass (top 29) 7
abbrev s_Frame_bars : Stmt := inClass (top 29) 8
abbrev s_Frame_place : Stmt := inClass (top 29) 9
abbrev s_Frame_ways : Stmt := inClass (top 29) 10
abbrev s_Frame_ends : Stmt := inClass (top 29) 11
abbrev s_Hold_ways : Stmt := inClass (top 31) 0
abbrev s_Roller_init : Stmt := inClass (top 32) 0
abbrev s_Roller_ways : Stmt := inClass (top 32) 1
abbrev s_Fixed_ways : Stmt := inClass (top 33) 0
section
variable {P : Program} {w : World} {K : PySem.W.Frag} {mg : Str → Option Value} {base : Heap} {CX : CXT}
def Nm (H : Hp) (v : V) (q : Int × Int) : Prop := ∃ p, v = .ref p ∧ H p = some (.tup [.int q.1, .int q.2])
theorem Nm.same {H H' : Hp} {v : V} {q : Int × Int} (h : Nm H v q) (s : Same H H') : Nm H' v q := by
  obtain ⟨p, e, k⟩ := h
  exact ⟨p, e, s _ _ k⟩
structure Okn (k : Nat) (q : Int × Int) : Prop where
  pos : 0 < q.2
  top : intBits q.1 ≤ k
  bot : intBits q.2 ≤ k
theorem same_new {H : Hp} {p : Addr} (h : H p = none) (o : HO) : Same H (upd H p o) := fun b u q => by rw [upd_ne (ne_of_none q h)]; exact q
def gives (H : Hp) (Q : VK) (q : Int × Int) : Prop := ∀ (p : Addr) (H' : Hp), Same H H' → H' p = some (.tup [.int q.1, .int q.2]) → Q (.ref p) H'
def spShared : Sp := fun vs H Q _ => ∃ a b : Int, vs = [.int a, .int b] ∧ Q (.int (gz a b)) H
def spLowest : Sp := fun vs H Q _ => ∃ t b : Int, vs = [.int t, .int b] ∧ b ≠ 0 ∧ intBits b ≤ 9000 ∧ gives H Q (low t b)
def spBin (f : Int × Int → Int × Int → Int × Int) : Sp := fun vs H Q _ => ∃ (u v : V) (x y : Int × Int), vs = [u, v] ∧ Nm H u x ∧ Nm H v y ∧ Okn 4000 x ∧ Okn 4000 y ∧ gives H Q (f x y)
def addQ (x y : Int × Int) : Int × Int := low (x.1 * y.2 + y.1 * x.2) (x.2 * y.2)
def subQ (x y : Int × Int) : Int × Int := low (x.1 * y.2 - y.1 * x.2) (x.2 * y.2)
def mulQ (x y : Int × Int) : Int × Int := low (x.1 * y.1) (x.2 * y.2)
theorem pos_mul {x y : Int × Int} {k l : Nat} (hx : Okn k x) (hy : Okn l y) : x.2 * y.2 ≠ 0 := Int.ne_of_gt (Int.mul_pos hx.pos hy.pos)
theorem at0 {a b : V} : atI [a, b] 0 = some a := rfl
theorem at1 {a b : V} : atI [a, b] 1 = some b := rfl
theorem sc_greatest_shared : FnScope ["one", "other", "left"] ["one", "other"] (defScope s_greatest_shared) := ⟨rfl, rfl, rfl, by decide +kernel, rfl, by decide +kernel, by decide +kernel⟩
theorem ok_greatest_shared (D : Def K mg "greatest_shared" s_greatest_shared ["one", "other"]) (m_abs : mg "abs" = none) : Fn P w K mg base CX 1 "greatest_shared" ["one", "other"] spShared := by
  refine D.ok sc_greatest_shared (fun vs H Q E h => ?_) (fun f cdv A outer s H vs Q E hr h => ?_)
  · obtain ⟨a, b, rfl, _⟩ := h
    rfl
  obtain ⟨a, b, rfl, q⟩ := h
  refine ⟨_, (pss_cons (ps_while PassesOwn.never (pt_cmpR op_ne (pv 1) pe_int (nomark _)) (pss_cons (ps_set (i := 2) sc_greatest_shared.nd rfl (Or.inl rfl) (pe_op op_modB (pv 0) (pv 1)))
      (pss_cons (ps_set (i := 0) sc_greatest_shared.nd rfl (Or.inl rfl) (pv 1))
      (pss_one (ps_set (i := 1) sc_greatest_shared.nd rfl (Or.inl rfl) (pv 2))))))
    (pss_one (ps_ret (pe_callB call_abs rfl m_abs b_abs (pac (pv 0) pa_nil))))), ?_⟩
  refine while_by (fun σ H' => ∃ (x y : Int) (l : Option V), σ = [some (.int x), some (.int y), l] ∧ H' = H ∧ Int.gcd x y = Int.gcd a b) (fun σ _ => match σ with | [_, some (.int y), _] => y.natAbs | _ => 0) ⟨a, b, none, rfl, rfl, rfl⟩ ?_ ?_
  · rintro σ H' ⟨x, y, l, rfl, rfl, g⟩
    refine ⟨_, rfl, rfl, _, rfl, ?_⟩
    refine ite2 (fun c => ?_) (fun c => ?_)
    · have hy : y ≠ 0 := by
        intro z
        subst z
        simp at c
      refine ⟨_, rfl, _, rfl, _, _, rfl, rfl, hy, ?_⟩
      refine ⟨_, rfl, _, rfl, ?_⟩
      exact ⟨⟨_, _, _, rfl, rfl, by rw [gcd_step]; exact g⟩, fmod_less hy⟩
    · have hy : y = 0 := by
        have := Bool.eq_false_iff.mpr c
        simp at this
        exact this
      subst hy
      refine ⟨_, rfl, x, rfl, ?_⟩
      have e : (if x < 0 then -x else x) = gz a b := by
        rw [Int.gcd_zero_right] at g
        unfold gz
        rw [← g]
        split <;> omega
      rw [e]
      exact q
  · rintro σ H' Q1 Q2 h ⟨v, e1, e2, k, ek, z⟩
    exact ⟨v, e1, e2, k, ek, h _ _ z⟩
def spLowestU : Sp := fun vs H Q _ => ∃ t b : Int, vs = [.int t, .int b] ∧ b ≠ 0 ∧ gives H Q (low t b)
theorem sc_lowest_terms : FnScope ["top", "bottom", "shared"] ["top", "bottom"] (defScope s_lowest_terms) := ⟨rfl, rfl, rfl, by decide +kernel, rfl, by decide +kernel, by decide +kernel⟩
theorem ok_lowest_terms (ht : P.given.tree = none) (D : Def K mg "lowest_terms" s_lowest_terms ["top", "bottom"]) (G_greatest_shared : Fn P w K mg base (CXr P w) 1 "greatest_shared" ["one", "other"] spShared) : Fn P w K mg base (CXr P w) 33 "lowest_terms" ["top", "bottom"] spLowestU := by
  refine D.ok sc_lowest_terms (fun vs H Q E h => ?_) (fun f cdv A outer s H vs Q E hr h => ?_)
  · obtain ⟨t, b, rfl, _⟩ := h
    rfl
  obtain ⟨t, b, rfl, hb, q⟩ := h
  have px := passM (X := (cxOf (CXr P w) P w K mg base ["top", "bottom", "shared"] "lowest_terms" (defScope s_lowest_terms) f cdv A outer s H E)) (CXr.mute (P := P) (w := w))
  have tail2 : ∃ tt, PSs (cxOf (CXr P w) P w K mg base ["top", "bottom", "shared"] "lowest_terms" (defScope s_lowest_terms) f cdv A outer s H E).nox ((defBody s_lowest_terms).drop 2) tt ∧ ∀ g : Int, g = sg t b → tt { nx := fun _ H' => Q .non H', rt := Q } [some (.int t), some (.int b), some (.int g)] H := by
    refine ⟨_, (pss_one (ps_ret (pe_tup (pac (pe_op (op_fdivU ht (Ty.Room.py hr (by decide)) rfl rfl rfl rfl rfl) (pv 0) (pv 2)) (pac (pe_op (op_fdivU ht (Ty.Room.py hr (by decide)) rfl rfl rfl rfl rfl) (pv 1) (pv 2)) pa_nil))))), ?_⟩
    rintro g rfl
    have c := sg_ne (t := t) hb
    refine ⟨_, rfl, _, rfl, _, _, rfl, rfl, c, _, rfl, _, rfl, _, _, rfl, rfl, c, (by show 2 ≤ sizeLine; decide), fun p hp => ?_⟩
    exact q p _ (same_new hp _) upd_same
  obtain ⟨t2, p2, q2⟩ := tail2
  refine ⟨_, (pss_cons (ps_set (i := 2) sc_lowest_terms.nd rfl (Or.inl rfl) (pe_fn G_greatest_shared (hr.mono (by decide)) px (pac (pv 0) (pac (pv 1) pa_nil)))) (pss_cons (ps_if (pt_cmpR op_lt (pv 1) pe_int (nomark _)) (pss_one (ps_set (i := 2) sc_lowest_terms.nd rfl (Or.inl rfl) (pe_un un_neg (pv 2)))) pss_nil) p2)), ?_⟩
  refine ⟨_, rfl, _, rfl, t, b, rfl, ?_⟩
  refine ⟨_, rfl, _, _, rfl, rfl, _, rfl, ?_⟩
  refine ite2 (fun c => ?_) (fun c => ?_)
  · refine ⟨_, rfl, _, rfl, q2 _ ?_⟩
    have c' : b < 0 := of_decide_eq_true c
    unfold sg
    rw [if_pos c']
  · refine q2 _ ?_
    have c' : ¬ b < 0 := of_decide_eq_false (Bool.eq_false_iff.mpr c)
    unfold sg
    rw [if_neg c']
def spBinK (K : PySem.W.Frag) (f : Int × Int → Int × Int → Int × Int) : Sp := fun vs H Q _ => ∃ (u v : V) (x y : Int × Int), vs = [u, v] ∧ NmK K H u x ∧ NmK K H v y ∧ Okn 100000 x ∧ Okn 100000 y ∧ gives H Q (f x y)
theorem sc_sum_of : FnScope ["one", "other"] ["one", "other"] (defScope s_sum_of) := ⟨rfl, rfl, rfl, by decide +kernel, rfl, by decide +kernel, by decide +kernel⟩
theorem ok_sum_of (hM : Mute CX) (D : Def K mg "sum_of" s_sum_of ["one", "other"]) (G_lowest_terms : Fn P w K mg base CX 33 "lowest_terms" ["top", "bottom"] spLowestU) : Fn P w K mg base CX 34 "sum_of" ["one", "other"] (spBinK K addQ) := by
  refine D.ok sc_sum_of (fun vs H Q E h => ?_) (fun f cdv A outer s H vs Q E hr h => ?_)
  · obtain ⟨u, v, x, y, rfl, _⟩ := h
    rfl
  obtain ⟨u, v, x, y, rfl, ⟨p1, rfl, h1⟩, ⟨p2, rfl, h2⟩, k1, k2, q⟩ := h
  have px := passM (X := cxOf CX P w K mg base ["one", "other"] "sum_of" (defScope s_sum_of) f cdv A outer s H E) hM
  refine ⟨_, (pss_one (ps_ret (pe_fn G_lowest_terms (hr.mono (by decide)) px (pac (pe_op op_add (pe_op op_mulB (pe_ix ix_tup (pv 0) pe_int (fun _ _ => rfl)) (pe_ix ix_tup (pv 1) pe_int (fun _ _ => rfl))) (pe_op op_mulB (pe_ix ix_tup (pv 1) pe_int (fun _ _ => rfl)) (pe_ix ix_tup (pv 0) pe_int (fun _ _ => rfl)))) (pac (pe_op op_mulB (pe_ix ix_tup (pv 0) pe_int (fun _ _ => rfl)) (pe_ix ix_tup (pv 1) pe_int (fun _ _ => rfl))) pa_nil))))), ?_⟩
  have b1 := k1.top
  have b2 := k1.bot
  have b3 := k2.top
  have b4 := k2.bot
  have c : ∀ {i j : Int}, intBits i ≤ 100000 → intBits j ≤ 100000 → CMulB i j := fun a b => ⟨Nat.le_trans a (by decide), Nat.le_trans b (by decide)⟩
  refine ⟨_, rfl, p1, _, _, _, rfl, rfl, h1, at0, _, rfl, p2, _, _, _, rfl, rfl, h2, at1, _, _, rfl, rfl, c b1 b4, ?_⟩
  refine ⟨_, rfl, p2, _, _, _, rfl, rfl, h2, at0, _, rfl, p1, _, _, _, rfl, rfl, h1, at1, _, _, rfl, rfl, c b3 b2, ?_⟩
  refine ⟨_, _, rfl, rfl, ?_⟩
  refine ⟨_, rfl, p1, _, _, _, rfl, rfl, h1, at1, _, rfl, p2, _, _, _, rfl, rfl, h2, at1, _, _, rfl, rfl, c b2 b4, ?_⟩
  exact ⟨_, _, rfl, pos_mul k1 k2, q⟩
theorem sc_difference_of : FnScope ["one", "other"] ["one", "other"] (defScope s_difference_of) := ⟨rfl, rfl, rfl, by decide +kernel, rfl, by decide +kernel, by decide +kernel⟩
theorem ok_difference_of (hM : Mute CX) (D : Def K mg "difference_of" s_difference_of ["one", "other"]) (G_lowest_terms : Fn P w K mg base CX 33 "lowest_terms" ["top", "bottom"] spLowestU) : Fn P w K mg base CX 34 "difference_of" ["one", "other"] (spBinK K subQ) := by
  refine D.ok sc_difference_of (fun vs H Q E h => ?_) (fun f cdv A outer s H vs Q E hr h => ?_)
  · obtain ⟨u, v, x, y, rfl, _⟩ := h
    rfl
  obtain ⟨u, v, x, y, rfl, ⟨p1, rfl, h1⟩, ⟨p2, rfl, h2⟩, k1, k2, q⟩ := h
  have px := passM (X := cxOf CX P w K mg base ["one", "other"] "difference_of" (defScope s_difference_of) f cdv A outer s H E) hM
  refine ⟨_, (pss_one (ps_ret (pe_fn G_lowest_terms (hr.mono (by decide)) px (pac (pe_op op_sub (pe_op op_mulB (pe_ix ix_tup (pv 0) pe_int (fun _ _ => rfl)) (pe_ix ix_tup (pv 1) pe_int (fun _ _ => rfl))) (pe_op op_mulB (pe_ix ix_tup (pv 1) pe_int (fun _ _ => rfl)) (pe_ix ix_tup (pv 0) pe_int (fun _ _ => rfl)))) (pac (pe_op op_mulB (pe_ix ix_tup (pv 0) pe_int (fun _ _ => rfl)) (pe_ix ix_tup (pv 1) pe_int (fun _ _ => rfl))) pa_nil))))), ?_⟩
  have b1 := k1.top
  have b2 := k1.bot
  have b3 := k2.top
  have b4 := k2.bot
  have c : ∀ {i j : Int}, intBits i ≤ 100000 → intBits j ≤ 100000 → CMulB i j := fun a b => ⟨Nat.le_trans a (by decide), Nat.le_trans b (by decide)⟩
  refine ⟨_, rfl, p1, _, _, _, rfl, rfl, h1, at0, _, rfl, p2, _, _, _, rfl, rfl, h2, at1, _, _, rfl, rfl, c b1 b4, ?_⟩
  refine ⟨_, rfl, p2, _, _, _, rfl, rfl, h2, at0, _, rfl, p1, _, _, _, rfl, rfl, h1, at1, _, _, rfl, rfl, c b3 b2, ?_⟩
  refine ⟨_, _, rfl, rfl, ?_⟩
  refine ⟨_, rfl, p1, _, _, _, rfl, rfl, h1, at1, _, rfl, p2, _, _, _, rfl, rfl, h2, at1, _, _, rfl, rfl, c b2 b4, ?_⟩
  exact ⟨_, _, rfl, pos_mul k1 k2, q⟩
theorem sc_product_of : FnScope ["one", "other"] ["one", "other"] (defScope s_product_of) := ⟨rfl, rfl, rfl, by decide +kernel, rfl, by decide +kernel, by decide +kernel⟩
theorem ok_product_of (hM : Mute CX) (D : Def K mg "product_of" s_product_of ["one", "other"]) (G_lowest_terms : Fn P w K mg base CX 33 "lowest_terms" ["top", "bottom"] spLowestU) : Fn P w K mg base CX 34 "product_of" ["one", "other"] (spBinK K mulQ) := by
  refine D.ok sc_product_of (fun vs H Q E h => ?_) (fun f cdv A outer s H vs Q E hr h => ?_)
  · obtain ⟨u, v, x, y, rfl, _⟩ := h
    rfl
  obtain ⟨u, v, x, y, rfl, ⟨p1, rfl, h1⟩, ⟨p2, rfl, h2⟩, k1, k2, q⟩ := h
  have px := passM (X := cxOf CX P w K mg base ["one", "other"] "product_of" (defScope s_product_of) f cdv A outer s H E) hM
  refine ⟨_, (pss_one (ps_ret (pe_fn G_lowest_terms (hr.mono (by decide)) px (pac (pe_op op_mulB (pe_ix ix_tup (pv 0) pe_int (fun _ _ => rfl)) (pe_ix ix_tup (pv 1) pe_int (fun _ _ => rfl))) (pac (pe_op op_mulB (pe_ix ix_tup (pv 0) pe_int (fun _ _ => rfl)) (pe_ix ix_tup (pv 1) pe_int (fun _ _ => rfl))) pa_nil))))), ?_⟩
  have b1 := k1.top
  have b2 := k1.bot
  have b3 := k2.top
  have b4 := k2.bot
  have c : ∀ {i j : Int}, intBits i ≤ 100000 → intBits j ≤ 100000 → CMulB i j := fun a b => ⟨Nat.le_trans a (by decide), Nat.le_trans b (by decide)⟩
  refine ⟨_, rfl, p1, _, _, _, rfl, rfl, h1, at0, _, rfl, p2, _, _, _, rfl, rfl, h2, at0, _, _, rfl, rfl, c b1 b3, ?_⟩
  refine ⟨_, rfl, p1, _, _, _, rfl, rfl, h1, at1, _, rfl, p2, _, _, _, rfl, rfl, h2, at1, _, _, rfl, rfl, c b2 b4, ?_⟩
  exact ⟨_, _, rfl, pos_mul k1 k2, q⟩
def givesR (H : Hp) (Q : VK) (r : Rat) : Prop := gives H Q (qr r)
def spBinR (K : PySem.W.Frag) (f : Rat → Rat → Rat) : Sp := fun vs H Q _ => ∃ (u v : V) (x y : Rat), vs = [u, v] ∧ NmR K H u x ∧ NmR K H v y ∧ Sz 100000 x ∧ Sz 100000 y ∧ gives H Q (qr (f x y))
theorem okn_qr {k : Nat} {r : Rat} (h : Sz k r) : Okn k (qr r) := ⟨qr_pos r, h.top, h.bot⟩
theorem fn_add {k : Nat} {x : Str} {ps : List Str} (F : Fn P w K mg base CX k x ps (spBinK K addQ)) : Fn P w K mg base CX k x ps (spBinR K fun a b => a + b) := by
  obtain ⟨f, fd, G, r⟩ := F.ex
  refine ⟨f, fd, G.imp fun vs H Q E h => ?_, r⟩
  obtain ⟨u, v, a, b, e, h1, h2, k1, k2, q⟩ := h
  refine ⟨u, v, qr a, qr b, e, h1, h2, okn_qr k1, okn_qr k2, ?_⟩
  unfold addQ
  rw [qr_add]
  exact q
theorem fn_sub {k : Nat} {x : Str} {ps : List Str} (F : Fn P w K mg base CX k x ps (spBinK K subQ)) : Fn P w K mg base CX k x ps (spBinR K fun a b => a - b) := by
  obtain ⟨f, fd, G, r⟩ := F.ex
  refine ⟨f, fd, G.imp fun vs H Q E h => ?_, r⟩
  obtain ⟨u, v, a, b, e, h1, h2, k1, k2, q⟩ := h
  refine ⟨u, v, qr a, qr b, e, h1, h2, okn_qr k1, okn_qr k2, ?_⟩
  unfold subQ
  rw [qr_sub]
  exact q
theorem fn_mul {k : Nat} {x : Str} {ps : List Str} (F : Fn P w K mg base CX k x ps (spBinK K mulQ)) : Fn P w K mg base CX k x ps (spBinR K fun a b => a * b) := by
  obtain ⟨f, fd, G, r⟩ := F.ex
  refine ⟨f, fd, G.imp fun vs H Q E h => ?_, r⟩
  obtain ⟨u, v, a, b, e, h1, h2, k1, k2, q⟩ := h
  refine ⟨u, v, qr a, qr b, e, h1, h2, okn_qr k1, okn_qr k2, ?_⟩
  unfold mulQ
  rw [qr_mul]
  exact q
def givesP (K : PySem.W.Frag) (H : Hp) (Q : VK) (p : Rat × Rat) : Prop := ∀ (v : V) (H' : Hp), Same H H' → PtR K H' v p → Q v H'
def spPair (K : PySem.W.Frag) (f : Rat → Rat → Rat) : Sp := fun vs H Q _ => ∃ (u v : V) (x y : Rat × Rat), vs = [u, v] ∧ PtR K H u x ∧ PtR K H v y ∧ Sz 100000 x.1 ∧ Sz 100000 x.2 ∧ Sz 100000 y.1 ∧ Sz 100000 y.2 ∧ givesP K H Q (f x.1 y.1, f x.2 y.2)
theorem sc_pair_difference : FnScope ["one", "other"] ["one", "other"] (defScope s_pair_difference) := ⟨rfl, rfl, rfl, by decide +kernel, rfl, by decide +kernel, by decide +kernel⟩
theorem ok_pair_difference (hM : Mute CX) (D : Def K mg "pair_difference" s_pair_difference ["one", "other"]) (G_difference_of : Fn P w K mg base CX 34 "difference_of" ["one", "other"] (spBinR K fun a b => a - b)) : Fn P w K mg base CX 35 "pair_difference" ["one", "other"] (spPair K fun a b => a - b) := by
  refine D.ok sc_pair_difference (fun vs H Q E h => ?_) (fun f cdv A outer s H vs Q E hr h => ?_)
  · obtain ⟨u, v, x, y, rfl, _⟩ := h
    rfl
  obtain ⟨u, v, x, y, rfl, ⟨p1, a1, a2, rfl, h1, n1, n2⟩, ⟨p2, b1, b2, rfl, h2, m1, m2⟩, k1, k2, l1, l2, q⟩ := h
  have px := passM (X := (cxOf (CXr P w) P w K mg base ["one", "other"] "pair_difference" (defScope s_pair_difference) f cdv A outer s H E)) hM
  refine ⟨_, (pss_one (ps_ret (pe_tup (pac (pe_fn G_difference_of (hr.mono (by decide)) px (pac (pe_ix ix_tup (pv 0) pe_int (fun _ _ => rfl)) (pac (pe_ix ix_tup (pv 1) pe_int (fun _ _ => rfl)) pa_nil))) (pac (pe_fn G_difference_of (hr.mono (by decide)) px (pac (pe_ix ix_tup (pv 0) pe_int (fun _ _ => rfl)) (pac (pe_ix ix_tup (pv 1) pe_int (fun _ _ => rfl)) pa_nil))) pa_nil))))), ?_⟩
  refine ⟨_, rfl, p1, _, _, _, rfl, rfl, h1, at0, _, rfl, p2, _, _, _, rfl, rfl, h2, at0, a1, b1, _, _, rfl, n1, m1, k1, l1, fun c1 H1 s1 e1 => ?_⟩
  refine ⟨_, rfl, p1, _, _, _, rfl, rfl, Ty.Same.seqT s1 h1, at1, _, rfl, p2, _, _, _, rfl, rfl, Ty.Same.seqT s1 h2, at1, a2, b2, _, _, rfl, n2.same s1, m2.same s1, k2, l2, fun c2 H2 s2 e2 => ?_⟩
  refine ⟨(by show 2 ≤ sizeLine; decide), fun c3 n3 => ?_⟩
  have s3 := same_new n3 (.tup [.ref c1, .ref c2])
  exact q (.ref c3) _ (fun b o z => s3 _ _ (s2 _ _ (s1 _ _ z))) ⟨c3, _, _, rfl, SqT.of upd_same, ⟨c1, rfl, SqT.of (s3 _ _ (s2 _ _ e1))⟩, ⟨c2, rfl, SqT.of (s3 _ _ e2)⟩⟩
def dotP (x y : Rat × Rat) : Rat := x.1 * y.1 + x.2 * y.2
def spDot (K : PySem.W.Frag) : Sp := fun vs H Q _ => ∃ (u v : V) (x y : Rat × Rat), vs = [u, v] ∧ PtR K H u x ∧ PtR K H v y ∧ Sz 40000 x.1 ∧ Sz 40000 x.2 ∧ Sz 40000 y.1 ∧ Sz 40000 y.2 ∧ gives H Q (qr (dotP x y))
theorem sc_pair_product : FnScope ["one", "other"] ["one", "other"] (defScope s_pair_product) := ⟨rfl, rfl, rfl, by decide +kernel, rfl, by decide +kernel, by decide +kernel⟩
theorem ok_pair_product (hM : Mute CX) (D : Def K mg "pair_product" s_pair_product ["one", "other"]) (G_sum_of : Fn P w K mg base CX 34 "sum_of" ["one", "other"] (spBinR K fun a b => a + b)) (G_product_of : Fn P w K mg base CX 34 "product_of" ["one", "other"] (spBinR K fun a b => a * b)) : Fn P w K mg base CX 35 "pair_product" ["one", "other"] (spDot K) := by
  refine D.ok sc_pair_product (fun vs H Q E h => ?_) (fun f cdv A outer s H vs Q E hr h => ?_)
  · obtain ⟨u, v, x, y, rfl, _⟩ := h
    rfl
  obtain ⟨u, v, x, y, rfl, ⟨p1, a1, a2, rfl, h1, n1, n2⟩, ⟨p2, b1, b2, rfl, h2, m1, m2⟩, k1, k2, l1, l2, q⟩ := h
  have px := passM (X := (cxOf (CXr P w) P w K mg base ["one", "other"] "pair_product" (defScope s_pair_product) f cdv A outer s H E)) hM
  refine ⟨_, (pss_one (ps_ret (pe_fn G_sum_of (hr.mono (by decide)) px (pac (pe_fn G_product_of (hr.mono (by decide)) px (pac (pe_ix ix_tup (pv 0) pe_int (fun _ _ => rfl)) (pac (pe_ix ix_tup (pv 1) pe_int (fun _ _ => rfl)) pa_nil))) (pac (pe_fn G_product_of (hr.mono (by decide)) px (pac (pe_ix ix_tup (pv 0) pe_int (fun _ _ => rfl)) (pac (pe_ix ix_tup (pv 1) pe_int (fun _ _ => rfl)) pa_nil))) pa_nil))))), ?_⟩
  refine ⟨_, rfl, p1, _, _, _, rfl, rfl, h1, at0, _, rfl, p2, _, _, _, rfl, rfl, h2, at0, a1, b1, _, _, rfl, n1, m1, k1.up (by decide), l1.up (by decide), fun c1 H1 s1 e1 => ?_⟩
  refine ⟨_, rfl, p1, _, _, _, rfl, rfl, Ty.Same.seqT s1 h1, at1, _, rfl, p2, _, _, _, rfl, rfl, Ty.Same.seqT s1 h2, at1, a2, b2, _, _, rfl, n2.same s1, m2.same s1, k2.up (by decide), l2.up (by decide), fun c2 H2 s2 e2 => ?_⟩
  refine ⟨.ref c1, .ref c2, _, _, rfl, ⟨c1, rfl, SqT.of (s2 _ _ e1)⟩, ⟨c2, rfl, SqT.of e2⟩, (k1.mul l1).up (by decide), (k2.mul l2).up (by decide), fun c3 H3 s3 e3 => ?_⟩
  exact q c3 H3 (fun b o z => s3 _ _ (s2 _ _ (s1 _ _ z))) e3
def spFInit (K : PySem.W.Frag) (C : Addr) : Sp := fun vs H Q _ => ∃ (a dx : Addr), vs = [.ref a] ∧ H a = some (.ins C dx []) ∧
  ∀ (pP pW pB : Addr) (H' : Hp), KSame a H H' → H pP = none → H pW = none → H pB = none → FrR K H' C a dx pP pW pB [] [] [] [] [] → Q .non H'
theorem putF_p1 {x : V} : putF "pin_places" x [] = ([("pin_places", x)] : List (Str × V)) := rfl
theorem putF_w1 {x y : V} : putF "pin_ways" y [("pin_places", x)] = ([("pin_places", x), ("pin_ways", y)] : List (Str × V)) := by
  simp only [putF]
  rw [if_neg (by decide)]
theorem putF_e1 {x y z : V} : putF "bar_ends" z [("pin_places", x), ("pin_ways", y)] = ([("pin_places", x), ("pin_ways", y), ("bar_ends", z)] : List (Str × V)) := by
  simp only [putF]
  rw [if_neg (by decide), if_neg (by decide)]
theorem sc_Frame_init : FnScope ["self"] ["self"] (defScope s_Frame_init) := ⟨rfl, rfl, rfl, by decide +kernel, rfl, by decide +kernel, by decide +kernel⟩
theorem ok_Frame_init {f : Addr} {fd : FuncData} {C : Addr} (F : Fun K "__init__" "Frame.__init__" s_Frame_init f fd) (fc : FrC K C) : FnOk P w K mg base (CXr P w) 1 f fd ["self"] (spFInit K C) := by
  refine fun_okF F sc_Frame_init (fun vs H Q E h => ?_) (fun cdv A outer s H vs Q E hr h => ?_)
  · obtain ⟨a, dx, rfl, _⟩ := h
    rfl
  obtain ⟨a, dx, rfl, ha, q⟩ := h
  refine ⟨_, (pss_cons (ps_fld (pv 0) pe_dnewK rfl)
    (pss_cons (ps_fld (pv 0) pe_dnewK rfl)
    (pss_one (ps_fld (pv 0) pe_dnewK rfl)))), ?_⟩
  intro pP nP
  have aP : a ≠ pP := ne_of_none ha nP
  refine ⟨_, rfl, a, C, dx, _, rfl, (by rw [upd_ne aP]; exact ha), fc.cls, fc.pl, (by show 0 < 1000; decide), ?_⟩
  rw [putF_p1]
  generalize e1 : upd (upd H pP (.dK [])) a (.ins C dx [("pin_places", .ref pP)]) = H1
  have o1 : H1 a = some (.ins C dx [("pin_places", .ref pP)]) := by rw [← e1, upd_same]
  have p1 : H1 pP = some (.dK []) := by rw [← e1, upd_ne (Ne.symm aP), upd_same]
  have k1 : ∀ b o, b ≠ a → H b = some o → H1 b = some o := fun b o n e => by rw [← e1, upd_ne n, upd_ne (ne_of_none e nP)]; exact e
  intro pW nW
  have aW : a ≠ pW := ne_of_none o1 nW
  refine ⟨_, rfl, a, C, dx, _, rfl, (by rw [upd_ne aW]; exact o1), fc.cls, fc.wy, (by show 1 < 1000; decide), ?_⟩
  rw [putF_w1]
  generalize e2 : upd (upd H1 pW (.dK [])) a (.ins C dx [("pin_places", .ref pP), ("pin_ways", .ref pW)]) = H2
  have PW : pP ≠ pW := ne_of_none p1 nW
  have o2 : H2 a = some (.ins C dx [("pin_places", .ref pP), ("pin_ways", .ref pW)]) := by rw [← e2, upd_same]
  have w2 : H2 pW = some (.dK []) := by rw [← e2, upd_ne (Ne.symm aW), upd_same]
  have k2 : ∀ b o, b ≠ a → H1 b = some o → H2 b = some o := fun b o n e => by rw [← e2, upd_ne n, upd_ne (ne_of_none e nW)]; exact e
  intro pB nB
  have aB : a ≠ pB := ne_of_none o2 nB
  have p2 := k2 _ _ (Ne.symm aP) p1
  refine ⟨_, rfl, a, C, dx, _, rfl, (by rw [upd_ne aB]; exact o2), fc.cls, fc.br, (by show 2 < 1000; decide), ?_⟩
  rw [putF_e1]
  have PB : pP ≠ pB := ne_of_none p2 nB
  have WB : pW ≠ pB := ne_of_none w2 nB
  have k3 : ∀ b o, b ≠ a → H2 b = some o → (upd (upd H2 pB (.dK [])) a (.ins C dx [("pin_places", .ref pP), ("pin_ways", .ref pW), ("bar_ends", .ref pB)])) b = some o := fun b o n e => by rw [upd_ne n, upd_ne (ne_of_none e nB)]; exact e
  have f1 : ∀ b, b ≠ a → H1 b = none → H b = none := fun b n e => by
    cases z : H b with
    | none => rfl
    | some o => rw [k1 b o n z] at e; cases e
  have f2 : ∀ b, b ≠ a → H2 b = none → H b = none := fun b n e => by
    cases z : H b with
    | none => rfl
    | some o => rw [k2 b o n (k1 b o n z)] at e; cases e
  refine q pP pW pB _ (fun b o n e => k3 b o n (k2 b o n (k1 b o n e))) nP (f1 _ (Ne.symm aW) nW) (f2 _ (Ne.symm aB) nB) ⟨upd_same, k3 _ _ (Ne.symm aP) p2, k3 _ _ (Ne.symm aW) w2, ?_, PW, PB, WB, .nil, .nil⟩
  rw [upd_ne (Ne.symm aB), upd_same]
def spBars (K : PySem.W.Frag) (C : Addr) : Sp := fun vs H Q _ => ∃ (a dx pP pW pB : Addr) (ps : List (Str × Pt)) (bs : List (Str × Str × Str)) (kP kW kB : List (Key × V)), vs = [.ref a] ∧ FrR K H C a dx pP pW pB ps bs kP kW kB ∧
  ∀ (l : Addr) (H' : Hp), Same H H' → H l = none → H' l = some (.lst ((bs.map (·.1)).map V.str)) → Q (.ref l) H'
theorem sc_Frame_bars : FnScope ["self"] ["self"] (defScope s_Frame_bars) := ⟨rfl, rfl, rfl, by decide +kernel, rfl, by decide +kernel, by decide +kernel⟩
theorem ok_Frame_bars {f : Addr} {fd : FuncData} {C : Addr} (F : Fun K "bars" "Frame.bars" s_Frame_bars f fd) (fc : FrC K C) (m_list : mg "list" = none) : FnOk P w K mg base (CXr P w) 1 f fd ["self"] (spBars K C) := by
  refine fun_okF F sc_Frame_bars (fun vs H Q E h => ?_) (fun cdv A outer s H vs Q E hr h => ?_)
  · obtain ⟨a, dx, pP, pW, pB, ps, bs, kP, kW, kB, rfl, _⟩ := h
    rfl
  obtain ⟨a, dx, pP, pW, pB, ps, bs, kP, kW, kB, rfl, R, q⟩ := h
  refine ⟨_, (pss_one (ps_ret (pe_callTy (call_listD rfl) rfl m_list b_list (pac (pe_fld (pv 0) rfl) pa_nil)))), ?_⟩
  refine ⟨_, rfl, a, C, dx, _, _, rfl, R.obj, fc.cls, fc.br, rfl, pB, kB, rfl, .inl R.br, fun l nl => ?_⟩
  refine q l _ (same_new nl _) nl ?_
  rw [upd_same]
  have e : kB.map (fun kv => kV kv.1) = (bs.map (·.1)).map V.str := by
    have z : kB.map (fun kv => kV kv.1) = (kB.map (·.1)).map kV := by rw [List.map_map]; rfl
    rw [z, R.keysB, List.map_map]
    rfl
  rw [e]
def spPins (K : PySem.W.Frag) (C : Addr) : Sp := fun vs H Q _ => ∃ (a dx pP pW pB : Addr) (ps : List (Str × Pt)) (bs : List (Str × Str × Str)) (kP kW kB : List (Key × V)), vs = [.ref a] ∧ FrR K H C a dx pP pW pB ps bs kP kW kB ∧
  ∀ (l : Addr) (H' : Hp), Same H H' → H l = none → H' l = some (.lst ((ps.map (·.1)).map V.str)) → Q (.ref l) H'
theorem sc_Frame_pins : FnScope ["self"] ["self"] (defScope s_Frame_pins) := ⟨rfl, rfl, rfl, by decide +kernel, rfl, by decide +kernel, by decide +kernel⟩
theorem ok_Frame_pins {f : Addr} {fd : FuncData} {C : Addr} (F : Fun K "pins" "Frame.pins" s_Frame_pins f fd) (fc : FrC K C) (m_list : mg "list" = none) : FnOk P w K mg base (CXr P w) 1 f fd ["self"] (spPins K C) := by
  refine fun_okF F sc_Frame_pins (fun vs H Q E h => ?_) (fun cdv A outer s H vs Q E hr h => ?_)
  · obtain ⟨a, dx, pP, pW, pB, ps, bs, kP, kW, kB, rfl, _⟩ := h
    rfl
  obtain ⟨a, dx, pP, pW, pB, ps, bs, kP, kW, kB, rfl, R, q⟩ := h
  refine ⟨_, (pss_one (ps_ret (pe_callTy (call_listD rfl) rfl m_list b_list (pac (pe_fld (pv 0) rfl) pa_nil)))), ?_⟩
  refine ⟨_, rfl, a, C, dx, _, _, rfl, R.obj, fc.cls, fc.pl, rfl, pP, kP, rfl, .inl R.pl, fun l nl => ?_⟩
  refine q l _ (same_new nl _) nl ?_
  rw [upd_same]
  have e : kP.map (fun kv => kV kv.1) = (ps.map (·.1)).map V.str := by
    have z : kP.map (fun kv => kV kv.1) = (kP.map (·.1)).map kV := by rw [List.map_map]; rfl
    rw [z, R.keysP, List.map_map]
    rfl
  rw [e]
def spCheckPin (K : PySem.W.Frag) (C : Addr) : Sp := fun vs H Q _ => ∃ (a dx pP pW pB : Addr) (ps : List (Str × Pt)) (bs : List (Str × Str × Str)) (kP kW kB : List (Key × V)) (x : Str), vs = [.ref a, .str x] ∧ FrR K H C a dx pP pW pB ps bs kP kW kB ∧ x ∈ ps.map (·.1) ∧ Q .non H
theorem sc_Frame_check_pin : FnScope ["self", "pin"] ["self", "pin"] (defScope s_Frame_check_pin) := ⟨rfl, rfl, rfl, by decide +kernel, rfl, by decide +kernel, by decide +kernel⟩
theorem ok_Frame_check_pin {f : Addr} {fd : FuncData} {C : Addr} (F : Fun K "check_pin" "Frame.check_pin" s_Frame_check_pin f fd) (fc : FrC K C) : FnOk P w K mg base (CXr P w) 1 f fd ["self", "pin"] (spCheckPin K C) := by
  refine fun_okF F sc_Frame_check_pin (fun vs H Q E h => ?_) (fun cdv A outer s H vs Q E hr h => ?_)
  · obtain ⟨a, dx, pP, pW, pB, ps, bs, kP, kW, kB, x, rfl, _⟩ := h
    rfl
  obtain ⟨a, dx, pP, pW, pB, ps, bs, kP, kW, kB, x, rfl, R, hx, q⟩ := h
  refine ⟨_, (pss_one (ps_if (pt_cmp (pc_dnotin (hu_of hr) (pv 1) (pe_fld (pv 0) rfl))) (pss_one (ps_never)) pss_nil)), ?_⟩
  refine ⟨_, rfl, _, rfl, a, C, dx, _, _, rfl, R.obj, fc.cls, fc.pl, rfl, pP, _, rfl, DGet.k (k := .inr x) R.pl, _, rfl, ?_⟩
  rw [R.pin x, decide_eq_true hx]
  exact q
def spCheckBar (K : PySem.W.Frag) (C : Addr) : Sp := fun vs H Q _ => ∃ (a dx pP pW pB : Addr) (ps : List (Str × Pt)) (bs : List (Str × Str × Str)) (kP kW kB : List (Key × V)) (x one other : Str), vs = [.ref a, .str x, .str one, .str other] ∧ FrR K H C a dx pP pW pB ps bs kP kW kB ∧
  x ∉ bs.map (·.1) ∧ one ∈ ps.map (·.1) ∧ other ∈ ps.map (·.1) ∧ one ≠ other ∧ bs.length < 60 ∧ Q .non H
theorem sc_Frame_check_bar : FnScope ["self", "name", "one", "other"] ["self", "name", "one", "other"] (defScope s_Frame_check_bar) := ⟨rfl, rfl, rfl, by decide +kernel, rfl, by decide +kernel, by decide +kernel⟩
theorem ok_Frame_check_bar {f : Addr} {fd : FuncData} {C : Addr} (F : Fun K "check_bar" "Frame.check_bar" s_Frame_check_bar f fd) (fc : FrC K C) {tkB : Tok} (m_MOST_BARS : mg "MOST_BARS" = some (.int 60 tkB)) (m_len : mg "len" = none)
    (MC : MtdOk P w K mg base (CXr P w) 1 C "check_pin" ["self", "pin"] (spCheckPin K C)) : FnOk P w K mg base (CXr P w) 2 f fd ["self", "name", "one", "other"] (spCheckBar K C) := by
  refine fun_okF F sc_Frame_check_bar (fun vs H Q E h => ?_) (fun cdv A outer s H vs Q E hr h => ?_)
  · obtain ⟨a, dx, pP, pW, pB, ps, bs, kP, kW, kB, x, one, other, rfl, _⟩ := h
    rfl
  obtain ⟨a, dx, pP, pW, pB, ps, bs, kP, kW, kB, x, one, other, rfl, R, hx, h1, h2, ne, hl, q⟩ := h
  have px := passM (X := (cxr P w K mg base ["self", "name", "one", "other"] "Frame.check_bar" (defScope s_Frame_check_bar) f cdv A outer s H E)) (CXr.mute (P := P) (w := w))
  refine ⟨_, (pss_cons (ps_if (pt_cmp (pc_din (hu_of hr) (pv 1) (pe_fld (pv 0) rfl))) (pss_one (ps_never)) pss_nil)
    (pss_cons (ps_expr (pe_mtd (k := 1) (pv 0) (hr.mono (by decide)) px (pac (pv 2) pa_nil)))
    (pss_cons (ps_expr (pe_mtd (k := 1) (pv 0) (hr.mono (by decide)) px (pac (pv 3) pa_nil)))
    (pss_cons (ps_if (pt_cmpR op_eq (pv 2) (pv 3) (nomark _)) (pss_one (ps_never)) pss_nil)
    (pss_one (ps_if (pt_cmpR op_ge (pe_callB call_lenD rfl m_len b_len (pac (pe_fld (pv 0) rfl) pa_nil)) (pe_glob (v := .int 60) rfl m_MOST_BARS ⟨_, rfl⟩) (nomark _)) (pss_one (ps_never)) pss_nil)))))), ?_⟩
  refine ⟨_, rfl, _, rfl, a, C, dx, _, _, rfl, R.obj, fc.cls, fc.br, rfl, pB, _, rfl, DGet.k (k := .inr x) R.br, _, rfl, ?_⟩
  rw [R.bar x, decide_eq_false hx]
  refine ⟨_, rfl, a, C, dx, _, _, _, rfl, R.obj, rfl, MC, _, rfl, a, dx, pP, pW, pB, ps, bs, kP, kW, kB, one, rfl, R, h1, ?_⟩
  refine ⟨_, rfl, a, C, dx, _, _, _, rfl, R.obj, rfl, MC, _, rfl, a, dx, pP, pW, pB, ps, bs, kP, kW, kB, other, rfl, R, h2, ?_⟩
  refine ⟨_, rfl, _, rfl, rfl, _, rfl, ?_⟩
  refine ite2 (fun c => absurd (by simpa [eqV] using c) ne) (fun _ => ?_)
  have lk : kB.length = bs.length := (Paired.length R.rb).symm
  refine ⟨_, rfl, a, C, dx, _, _, rfl, R.obj, fc.cls, fc.br, rfl, pB, kB, rfl, .inl R.br, _, _, rfl, rfl, _, rfl, ?_⟩
  refine ite2 (fun c => ?_) (fun _ => q)
  have c' : (60 : Int) ≤ (kB.length : Int) := of_decide_eq_true c
  omega
def spPutBar (K : PySem.W.Frag) (C : Addr) : Sp := fun vs H Q _ => ∃ (a dx pP pW pB : Addr) (ps : List (Str × Pt)) (bs : List (Str × Str × Str)) (kP kW kB : List (Key × V)) (x one other : Str), vs = [.ref a, .str x, .str one, .str other] ∧ FrR K H C a dx pP pW pB ps bs kP kW kB ∧
  x ∉ bs.map (·.1) ∧ one ∈ ps.map (·.1) ∧ other ∈ ps.map (·.1) ∧ one ≠ other ∧ bs.length < 60 ∧ ∀ (H' : Hp) (kB' : List (Key × V)), KSame pB H H' → FrR K H' C a dx pP pW pB ps (bs ++ [(x, one, other)]) kP kW kB' → Q .non H'
theorem sc_Frame_put_bar : FnScope ["self", "name", "one", "other"] ["self", "name", "one", "other"] (defScope s_Frame_put_bar) := ⟨rfl, rfl, rfl, by decide +kernel, rfl, by decide +kernel, by decide +kernel⟩
theorem ok_Frame_put_bar {f : Addr} {fd : FuncData} {C : Addr} (F : Fun K "put_bar" "Frame.put_bar" s_Frame_put_bar f fd) (fc : FrC K C)
    (MC : MtdOk P w K mg base (CXr P w) 2 C "check_bar" ["self", "name", "one", "other"] (spCheckBar K C)) : FnOk P w K mg base (CXr P w) 3 f fd ["self", "name", "one", "other"] (spPutBar K C) := by
  refine fun_okF F sc_Frame_put_bar (fun vs H Q E h => ?_) (fun cdv A outer s H vs Q E hr h => ?_)
  · obtain ⟨a, dx, pP, pW, pB, ps, bs, kP, kW, kB, x, one, other, rfl, _⟩ := h
    rfl
  obtain ⟨a, dx, pP, pW, pB, ps, bs, kP, kW, kB, x, one, other, rfl, R, hx, h1, h2, ne, hl, q⟩ := h
  have px := passM (X := (cxr P w K mg base ["self", "name", "one", "other"] "Frame.put_bar" (defScope s_Frame_put_bar) f cdv A outer s H E)) (CXr.mute (P := P) (w := w))
  refine ⟨_, (pss_cons (ps_expr (pe_mtd (k := 2) (pv 0) (hr.mono (by decide)) px (pac (pv 1) (pac (pv 2) (pac (pv 3) pa_nil)))))
    (pss_one (ps_dput (hu_of hr) (pe_fld (pv 0) rfl) (pv 1) (pe_tup (pac (pv 2) (pac (pv 3) pa_nil))) rfl))), ?_⟩
  refine ⟨_, rfl, a, C, dx, _, _, _, rfl, R.obj, rfl, MC, _, rfl, _, rfl, _, rfl, a, dx, pP, pW, pB, ps, bs, kP, kW, kB, x, one, other, rfl, R, hx, h1, h2, ne, hl, ?_⟩
  refine ⟨_, rfl, _, rfl, (by show 2 ≤ sizeLine; decide), fun t nt => ?_⟩
  have s := same_new nt (.tup [.str one, .str other])
  have R' := R.same s
  have lk : kB.length = bs.length := (Paired.length R.rb).symm
  refine ⟨_, rfl, a, C, dx, _, _, rfl, R'.obj, fc.cls, fc.br, rfl, _, rfl, pB, _, rfl, DPut.k (k := .inr x) R'.br (Nat.lt_of_le_of_lt (show kB.length ≤ 1000 by omega) (by decide)), ?_⟩
  have e : putK kB (.inr x) (.ref t) = kB ++ [(.inr x, .ref t)] := putK_new _ (valV_none (by rw [R.keysB]; exact fun z => hx (key_mem.mp z)))
  rw [e]
  refine q _ _ (fun b o n z => ?_) (R'.putBar (.inl upd_same))
  rw [upd_ne n]
  exact s _ _ z
def spPlace (K : PySem.W.Frag) (C : Addr) : Sp := fun vs H Q _ => ∃ (a dx pP pW pB : Addr) (ps : List (Str × Pt)) (bs : List (Str × Str × Str)) (kP kW kB : List (Key × V)) (x : Str) (p : Pt), vs = [.ref a, .str x] ∧ FrR K H C a dx pP pW pB ps bs kP kW kB ∧ (ps.map (·.1)).Nodup ∧ (x, p) ∈ ps ∧ ∀ v, Spot K H v p → Q v H
theorem sc_Frame_place : FnScope ["self", "pin"] ["self", "pin"] (defScope s_Frame_place) := ⟨rfl, rfl, rfl, by decide +kernel, rfl, by decide +kernel, by decide +kernel⟩
theorem ok_Frame_place {f : Addr} {fd : FuncData} {C : Addr} (F : Fun K "place" "Frame.place" s_Frame_place f fd) (fc : FrC K C) (MC : MtdOk P w K mg base (CXr P w) 1 C "check_pin" ["self", "pin"] (spCheckPin K C)) : FnOk P w K mg base (CXr P w) 2 f fd ["self", "pin"] (spPlace K C) := by
  refine fun_okF F sc_Frame_place (fun vs H Q E h => ?_) (fun cdv A outer s H vs Q E hr h => ?_)
  · obtain ⟨a, dx, pP, pW, pB, ps, bs, kP, kW, kB, x, p, rfl, _⟩ := h
    rfl
  obtain ⟨a, dx, pP, pW, pB, ps, bs, kP, kW, kB, x, p, rfl, R, nd, hx, q⟩ := h
  have px := passM (X := (cxr P w K mg base ["self", "pin"] "Frame.place" (defScope s_Frame_place) f cdv A outer s H E)) (CXr.mute (P := P) (w := w))
  refine ⟨_, (pss_cons (ps_expr (pe_mtd (k := 1) (pv 0) (hr.mono (by decide)) px (pac (pv 1) pa_nil)))
    (pss_one (ps_ret (pe_dget (hu_of hr) (pe_fld (pv 0) rfl) (pv 1) (fun _ _ => rfl))))), ?_⟩
  refine ⟨_, rfl, a, C, dx, _, _, _, rfl, R.obj, rfl, MC, _, rfl, a, dx, pP, pW, pB, ps, bs, kP, kW, kB, x, rfl, R, List.mem_map.mpr ⟨_, hx, rfl⟩, ?_⟩
  obtain ⟨v, ev, hv⟩ := R.place nd hx
  exact ⟨_, rfl, a, C, dx, _, _, rfl, R.obj, fc.cls, fc.pl, rfl, _, rfl, pP, v, rfl, (by rw [← ev]; exact DGet.k (k := .inr x) R.pl), q v hv⟩
def spEnds (K : PySem.W.Frag) (C : Addr) : Sp := fun vs H Q _ => ∃ (a dx pP pW pB : Addr) (ps : List (Str × Pt)) (bs : List (Str × Str × Str)) (kP kW kB : List (Key × V)) (x one other : Str), vs = [.ref a, .str x] ∧ FrR K H C a dx pP pW pB ps bs kP kW kB ∧ (bs.map (·.1)).Nodup ∧ (x, one, other) ∈ bs ∧ ∀ p, Rd H p (.tup [.str one, .str other]) → Q (.ref p) H
theorem sc_Frame_ends : FnScope ["self", "bar"] ["self", "bar"] (defScope s_Frame_ends) := ⟨rfl, rfl, rfl, by decide +kernel, rfl, by decide +kernel, by decide +kernel⟩
theorem ok_Frame_ends {f : Addr} {fd : FuncData} {C : Addr} (F : Fun K "ends" "Frame.ends" s_Frame_ends f fd) (fc : FrC K C) : FnOk P w K mg base (CXr P w) 1 f fd ["self", "bar"] (spEnds K C) := by
  refine fun_okF F sc_Frame_ends (fun vs H Q E h => ?_) (fun cdv A outer s H vs Q E hr h => ?_)
  · obtain ⟨a, dx, pP, pW, pB, ps, bs, kP, kW, kB, x, one, other, rfl, _⟩ := h
    rfl
  obtain ⟨a, dx, pP, pW, pB, ps, bs, kP, kW, kB, x, one, other, rfl, R, nd, hx, q⟩ := h
  refine ⟨_, (pss_cons (ps_if (pt_cmp (pc_dnotin (hu_of hr) (pv 1) (pe_fld (pv 0) rfl))) (pss_one (ps_never)) pss_nil)
    (pss_one (ps_ret (pe_dget (hu_of hr) (pe_fld (pv 0) rfl) (pv 1) (fun _ _ => rfl))))), ?_⟩
  have hm : x ∈ bs.map (·.1) := List.mem_map.mpr ⟨_, hx, rfl⟩
  refine ⟨_, rfl, _, rfl, a, C, dx, _, _, rfl, R.obj, fc.cls, fc.br, rfl, pB, _, rfl, DGet.k (k := .inr x) R.br, _, rfl, ?_⟩
  rw [R.bar x, decide_eq_true hm]
  obtain ⟨p, ev, hv⟩ := R.ends nd hx
  exact ⟨_, rfl, a, C, dx, _, _, rfl, R.obj, fc.cls, fc.br, rfl, _, rfl, pB, .ref p, rfl, (by rw [← ev]; exact DGet.k (k := .inr x) R.br), q p hv⟩
def spWays (K : PySem.W.Frag) (C : Addr) : Sp := fun vs H Q _ => ∃ (a dx pP pW pB : Addr) (ps : List (Str × Pt)) (bs : List (Str × Str × Str)) (kP kW kB : List (Key × V)) (pw : List (Str × List (Rat × Rat))) (x : Str) (ws : List (Rat × Rat)), vs = [.ref a, .str x] ∧ FrR K H C a dx pP pW pB ps bs kP kW kB ∧ WyR K H pw kW ∧ (pw.map (·.1)).Nodup ∧ (x, ws) ∈ pw ∧ x ∈ ps.map (·.1) ∧
  ∀ (l : Addr) (us : List V) (H' : Hp), Same H H' → H l = none → H' l = some (.lst us) → PtsR K H' us ws → Q (.ref l) H'
theorem sc_Frame_ways : FnScope ["self", "pin"] ["self", "pin"] (defScope s_Frame_ways) := ⟨rfl, rfl, rfl, by decide +kernel, rfl, by decide +kernel, by decide +kernel⟩
theorem ok_Frame_ways {f : Addr} {fd : FuncData} {C : Addr} (F : Fun K "ways" "Frame.ways" s_Frame_ways f fd) (fc : FrC K C) (m_list : mg "list" = none) (MC : MtdOk P w K mg base (CXr P w) 1 C "check_pin" ["self", "pin"] (spCheckPin K C)) : FnOk P w K mg base (CXr P w) 2 f fd ["self", "pin"] (spWays K C) := by
  refine fun_okF F sc_Frame_ways (fun vs H Q E h => ?_) (fun cdv A outer s H vs Q E hr h => ?_)
  · obtain ⟨a, dx, pP, pW, pB, ps, bs, kP, kW, kB, pw, x, ws, rfl, _⟩ := h
    rfl
  obtain ⟨a, dx, pP, pW, pB, ps, bs, kP, kW, kB, pw, x, ws, rfl, R, W, nd, hx, hp, q⟩ := h
  have px := passM (X := (cxr P w K mg base ["self", "pin"] "Frame.ways" (defScope s_Frame_ways) f cdv A outer s H E)) (CXr.mute (P := P) (w := w))
  refine ⟨_, (pss_cons (ps_expr (pe_mtd (k := 1) (pv 0) (hr.mono (by decide)) px (pac (pv 1) pa_nil)))
    (pss_one (ps_ret (pe_callTy call_listL rfl m_list b_list (pac (pe_dget (hu_of hr) (pe_fld (pv 0) rfl) (pv 1) (fun _ _ => rfl)) pa_nil))))), ?_⟩
  refine ⟨_, rfl, a, C, dx, _, _, _, rfl, R.obj, rfl, MC, _, rfl, a, dx, pP, pW, pB, ps, bs, kP, kW, kB, x, rfl, R, hp, ?_⟩
  obtain ⟨v, ev, l, us, el, hl, pt⟩ := paired_val W nd hx
  have el' : v = .ref l := el
  subst el'
  refine ⟨_, rfl, a, C, dx, _, _, rfl, R.obj, fc.cls, fc.wy, rfl, _, rfl, pW, .ref l, rfl, (by rw [← ev]; exact DGet.k (k := .inr x) R.wy), ?_⟩
  exact ⟨l, us, rfl, SqL.of hl, fun l2 n2 => q l2 us _ (same_new n2 _) n2 upd_same (pt.same (same_new n2 _))⟩
def AnsR (K : PySem.W.Frag) (H : Hp) (Q : VK) (ws : List (Rat × Rat)) : Prop := ∀ (l : Addr) (us : List V) (H' : Hp), Same H H' → H l = none → H' l = some (.lst us) → PtsR K H' us ws → Q (.ref l) H'
def spHold (K : PySem.W.Frag) : Sp := fun vs H Q _ => ∃ a : Addr, vs = [.ref a] ∧ AnsR K H Q []
theorem sc_Hold_ways : FnScope ["self"] ["self"] (defScope s_Hold_ways) := ⟨rfl, rfl, rfl, by decide +kernel, rfl, by decide +kernel, by decide +kernel⟩
theorem ok_Hold_ways {f : Addr} {fd : FuncData} (F : Fun K "ways" "Hold.ways" s_Hold_ways f fd) : FnOk P w K mg base (CXr P w) 1 f fd ["self"] (spHold K) := by
  refine fun_okF F sc_Hold_ways (fun vs H Q E h => ?_) (fun cdv A outer s H vs Q E hr h => ?_)
  · obtain ⟨a, rfl, _⟩ := h
    rfl
  obtain ⟨a, rfl, q⟩ := h
  refine ⟨_, (pss_one (ps_ret (pe_lst pa_nil))), ?_⟩
  exact ⟨(by show 0 ≤ sizeLine; decide), fun l hl => q l [] _ (same_new hl _) hl upd_same .nil⟩
theorem qr_zero {x : Rat} (h : (qr x).1 = 0) : x = 0 := by
  have := vl_qr x
  unfold vl at this
  rw [h] at this
  have z := ratz (r := x)
  have e : ((0 : Int) : Rat) = 0 := by rfl
  rw [e] at this
  grind
def spRInit (K : PySem.W.Frag) (C : Addr) : Sp := fun vs H Q _ => ∃ (a dx : Addr) (ux uy : V) (x y : Rat), vs = [.ref a, ux, uy] ∧ H a = some (.ins C dx []) ∧ NmR K H ux x ∧ NmR K H uy y ∧ ¬ (x = 0 ∧ y = 0) ∧ ∀ p, H p = none → Q .non (upd (upd H p (.tup [ux, uy])) a (.ins C dx [("way", .ref p)]))
theorem sc_Roller_init : FnScope ["self", "x", "y"] ["self", "x", "y"] (defScope s_Roller_init) := ⟨rfl, rfl, rfl, by decide +kernel, rfl, by decide +kernel, by decide +kernel⟩
theorem ok_Roller_init {f : Addr} {fd : FuncData} {C : Addr} (F : Fun K "__init__" "Roller.__init__" s_Roller_init f fd) (cl : Cls K C) (nw : NoAttr K C "way") : FnOk P w K mg base (CXr P w) 1 f fd ["self", "x", "y"] (spRInit K C) := by
  refine fun_okF F sc_Roller_init (fun vs H Q E h => ?_) (fun cdv A outer s H vs Q E hr h => ?_)
  · obtain ⟨a, dx, ux, uy, x, y, rfl, _⟩ := h
    rfl
  obtain ⟨a, dx, ux, uy, x, y, rfl, ha, ⟨p1, rfl, h1⟩, ⟨p2, rfl, h2⟩, nz, q⟩ := h
  have sz : (2 : Nat) ≤ sizeLine := by decide
  refine ⟨_, (pss_cons (ps_if (PW.pt (pw_and (pt_cmpR op_eq (pe_ix ix_tup (pv 1) pe_int (fun _ _ => rfl)) pe_int (nomark _)) (pw_and1 (pt_cmpR op_eq (pe_ix ix_tup (pv 2) pe_int (fun _ _ => rfl)) pe_int (nomark _))))) (pss_one (ps_never)) pss_nil)
    (pss_one (ps_fld (pv 0) (pe_tup (pac (pv 1) (pac (pv 2) pa_nil))) rfl))), ?_⟩
  refine ⟨_, rfl, p1, _, _, _, rfl, rfl, h1, at0, rfl, _, rfl, ?_⟩
  refine ite2 (fun c1 => ?_) (fun c1 => ?_)
  · have e1 : (qr x).1 = 0 := by simpa using of_decide_eq_true c1
    refine ⟨_, rfl, p2, _, _, _, rfl, rfl, h2, at0, rfl, _, rfl, ?_⟩
    refine ite2 (fun c2 => ?_) (fun c2 => ?_)
    · have e2 : (qr y).1 = 0 := by simpa using of_decide_eq_true c2
      exact absurd ⟨qr_zero e1, qr_zero e2⟩ nz
    · exact ⟨_, rfl, _, rfl, sz, fun p hp => ⟨_, rfl, a, C, dx, [], rfl, (by rw [upd_ne (ne_of_none ha hp)]; exact ha), cl, nw, (by show 0 < 1000; decide), q p hp⟩⟩
  · refine iteF ?_
    exact ⟨_, rfl, _, rfl, sz, fun p hp => ⟨_, rfl, a, C, dx, [], rfl, (by rw [upd_ne (ne_of_none ha hp)]; exact ha), cl, nw, (by show 0 < 1000; decide), q p hp⟩⟩
def spRWays (K : PySem.W.Frag) (C : Addr) : Sp := fun vs H Q _ => ∃ (a dx p : Addr) (w : Rat × Rat), vs = [.ref a] ∧ H a = some (.ins C dx [("way", .ref p)]) ∧ PtR K H (.ref p) w ∧ AnsR K H Q [w]
theorem sc_Roller_ways : FnScope ["self"] ["self"] (defScope s_Roller_ways) := ⟨rfl, rfl, rfl, by decide +kernel, rfl, by decide +kernel, by decide +kernel⟩
theorem ok_Roller_ways {f : Addr} {fd : FuncData} {C : Addr} (F : Fun K "ways" "Roller.ways" s_Roller_ways f fd) (cl : Cls K C) (nw : NoAttr K C "way") : FnOk P w K mg base (CXr P w) 1 f fd ["self"] (spRWays K C) := by
  refine fun_okF F sc_Roller_ways (fun vs H Q E h => ?_) (fun cdv A outer s H vs Q E hr h => ?_)
  · obtain ⟨a, dx, p, w, rfl, _⟩ := h
    rfl
  obtain ⟨a, dx, p, w, rfl, ha, hw, q⟩ := h
  refine ⟨_, (pss_one (ps_ret (pe_lst (pac (pe_fld (pv 0) rfl) pa_nil)))), ?_⟩
  refine ⟨_, rfl, a, C, dx, _, .ref p, rfl, ha, cl, nw, (by simp), (by show 1 ≤ sizeLine; decide), fun l hl => ?_⟩
  exact q l [.ref p] _ (same_new hl _) hl upd_same (.cons (hw.same (same_new hl _)) .nil)
def spFixed (K : PySem.W.Frag) : Sp := fun vs H Q _ => ∃ a : Addr, vs = [.ref a] ∧ AnsR K H Q [(1, 0), (0, 1)]
theorem qr_one : qr 1 = (1, 1) := by
  have := qr_int 1
  simpa using this
theorem qr_nought : qr 0 = (0, 1) := by
  have := qr_int 0
  simpa using this
theorem pt_mk {H : Hp} {p p1 p2 : Addr} {a b : Rat} {x y : Int × Int} (ea : qr a = x) (eb : qr b = y) (h : H p = some (.tup [.ref p1, .ref p2])) (h1 : H p1 = some (.tup [.int x.1, .int x.2])) (h2 : H p2 = some (.tup [.int y.1, .int y.2])) : PtR K H (.ref p) (a, b) :=
  ⟨p, .ref p1, .ref p2, rfl, SqT.of h, ⟨p1, rfl, by rw [ea]; exact SqT.of h1⟩, ⟨p2, rfl, by rw [eb]; exact SqT.of h2⟩⟩
theorem sc_Fixed_ways : FnScope ["self"] ["self"] (defScope s_Fixed_ways) := ⟨rfl, rfl, rfl, by decide +kernel, rfl, by decide +kernel, by decide +kernel⟩
theorem ok_Fixed_ways {f : Addr} {fd : FuncData} (F : Fun K "ways" "Fixed.ways" s_Fixed_ways f fd) : FnOk P w K mg base (CXr P w) 1 f fd ["self"] (spFixed K) := by
  refine fun_okF F sc_Fixed_ways (fun vs H Q E h => ?_) (fun cdv A outer s H vs Q E hr h => ?_)
  · obtain ⟨a, rfl, _⟩ := h
    rfl
  obtain ⟨a, rfl, q⟩ := h
  have sz : (2 : Nat) ≤ sizeLine := by decide
  refine ⟨_, (pss_one (ps_ret (pe_lst (pac (pe_tup (pac (pe_tup (pac pe_int (pac pe_int pa_nil))) (pac (pe_tup (pac pe_int (pac pe_int pa_nil))) pa_nil))) (pac (pe_tup (pac (pe_tup (pac pe_int (pac pe_int pa_nil))) (pac (pe_tup (pac pe_int (pac pe_int pa_nil))) pa_nil))) pa_nil))))), ?_⟩
  refine ⟨sz, fun p1 n1 => ?_⟩
  have s1 := same_new n1 (.tup [.int 1, .int 1])
  have e1 : upd H p1 (.tup [.int 1, .int 1]) p1 = some (.tup [.int 1, .int 1]) := upd_same
  generalize upd H p1 (.tup [.int 1, .int 1]) = H1 at s1 e1 ⊢
  refine ⟨sz, fun p2 n2 => ?_⟩
  have s2 := same_new n2 (.tup [.int 0, .int 1])
  have e2 : upd H1 p2 (.tup [.int 0, .int 1]) p2 = some (.tup [.int 0, .int 1]) := upd_same
  generalize upd H1 p2 (.tup [.int 0, .int 1]) = H2 at s2 e2 ⊢
  refine ⟨sz, fun p3 n3 => ?_⟩
  have s3 := same_new n3 (.tup [.ref p1, .ref p2])
  have e3 : upd H2 p3 (.tup [.ref p1, .ref p2]) p3 = some (.tup [.ref p1, .ref p2]) := upd_same
  generalize upd H2 p3 (.tup [.ref p1, .ref p2]) = H3 at s3 e3 ⊢
  refine ⟨sz, fun p4 n4 => ?_⟩
  have s4 := same_new n4 (.tup [.int 0, .int 1])
  have e4 : upd H3 p4 (.tup [.int 0, .int 1]) p4 = some (.tup [.int 0, .int 1]) := upd_same
  generalize upd H3 p4 (.tup [.int 0, .int 1]) = H4 at s4 e4 ⊢
  refine ⟨sz, fun p5 n5 => ?_⟩
  have s5 := same_new n5 (.tup [.int 1, .int 1])
  have e5 : upd H4 p5 (.tup [.int 1, .int 1]) p5 = some (.tup [.int 1, .int 1]) := upd_same
  generalize upd H4 p5 (.tup [.int 1, .int 1]) = H5 at s5 e5 ⊢
  refine ⟨sz, fun p6 n6 => ?_⟩
  have s6 := same_new n6 (.tup [.ref p4, .ref p5])
  have e6 : upd H5 p6 (.tup [.ref p4, .ref p5]) p6 = some (.tup [.ref p4, .ref p5]) := upd_same
  generalize upd H5 p6 (.tup [.ref p4, .ref p5]) = H6 at s6 e6 ⊢
  refine ⟨sz, fun l nl => ?_⟩
  have s7 := same_new nl (.lst [.ref p3, .ref p6])
  have e7 : upd H6 l (.lst [.ref p3, .ref p6]) l = some (.lst [.ref p3, .ref p6]) := upd_same
  generalize upd H6 l (.lst [.ref p3, .ref p6]) = H7 at s7 e7 ⊢
  have s16 := s1.trans (s2.trans (s3.trans (s4.trans (s5.trans s6))))
  have w1 : PtR K H7 (.ref p3) (1, 0) := pt_mk qr_one qr_nought (s7 _ _ (s6 _ _ (s5 _ _ (s4 _ _ e3)))) (s7 _ _ (s6 _ _ (s5 _ _ (s4 _ _ (s3 _ _ (s2 _ _ e1)))))) (s7 _ _ (s6 _ _ (s5 _ _ (s4 _ _ (s3 _ _ e2)))))
  have w2 : PtR K H7 (.ref p6) (0, 1) := pt_mk qr_nought qr_one (s7 _ _ e6) (s7 _ _ (s6 _ _ (s5 _ _ e4))) (s7 _ _ (s6 _ _ e5))
  exact q l [.ref p3, .ref p6] H7 (s16.trans s7) (s16.free nl) e7 (.cons w1 (.cons w2 .nil))
def spPutPinW (P : Program) (w : World) (K : PySem.W.Frag) (mg : Str → Option Value) (base : Heap) (C : Addr) : Sp := fun vs H Q _ => ∃ (a dx pP pW pB : Addr) (ps : List (Str × Pt)) (bs : List (Str × Str × Str)) (kP kW kB : List (Key × V)) (pw : List (Str × List (Rat × Rat))) (x : Str) (u v hv : V) (p : Pt) (h Ch dxh : Addr) (fsh : List (Str × V)) (psh : List Str) (sph : Sp) (ws : List (Rat × Rat)), vs = [.ref a, .str x, u, v, hv] ∧ FrR K H C a dx pP pW pB ps bs kP kW kB ∧ WyR K H pw kW ∧ pw.map (·.1) = ps.map (·.1) ∧
  NmK K H u p.1 ∧ NmK K H v p.2 ∧ x ∉ ps.map (·.1) ∧ (∀ z ∈ ps, z.2 ≠ p) ∧ ps.length < 24 ∧
  hv = .ref h ∧ H h = some (.ins Ch dxh fsh) ∧ fsh.lookup ("ways" : Str) = none ∧ MtdOk P w K mg base (CXr P w) 2 Ch "ways" psh sph ∧ (∀ H1, H1 h = some (.ins Ch dxh fsh) → SameT H H1 → ∀ Q', AnsR K H1 Q' ws → sph [.ref h] H1 Q' E0) ∧
  ∀ (H' : Hp) (kP' kW' : List (Key × V)), (∀ b o, b ≠ pP → b ≠ pW → H b = some o → H' b = some o) → FrR K H' C a dx pP pW pB (ps ++ [(x, p)]) bs kP' kW' kB → WyR K H' (pw ++ [(x, ws)]) kW' → (∃ l, kW' = kW ++ [(.inr x, .ref l)] ∧ H l = none) → Q .non H'
theorem sc_Frame_put_pin : FnScope ["self", "name", "x", "y", "hold", "pin", "spot"] ["self", "name", "x", "y", "hold"] (defScope s_Frame_put_pin) := ⟨rfl, rfl, rfl, by decide +kernel, rfl, by decide +kernel, by decide +kernel⟩
theorem ok_Frame_put_pin {f : Addr} {fd : FuncData} {C : Addr} (F : FunD K "put_pin" "Frame.put_pin" s_Frame_put_pin f fd) (fc : FrC K C) {tkP : Tok} (m_MOST_PINS : mg "MOST_PINS" = some (.int 24 tkP)) (m_len : mg "len" = none) (m_list : mg "list" = none) : FnOk P w K mg base (CXr P w) 3 f fd ["self", "name", "x", "y", "hold"] (spPutPinW P w K mg base C) := by
  refine fun_okFD F sc_Frame_put_pin (fun vs H Q E h => ?_) (fun cdv A outer s H vs Q E hr h => ?_)
  · obtain ⟨a, dx, pP, pW, pB, ps, bs, kP, kW, kB, pw, x, u, v, hv, p, h, Ch, dxh, fsh, psh, sph, ws, rfl, _⟩ := h
    rfl
  obtain ⟨a, dx, pP, pW, pB, ps, bs, kP, kW, kB, pw, x, u, v, _, p, h, Ch, dxh, fsh, psh, sph, ws, rfl, R, W, ew, hu, hv, hx, hs, hl, rfl, hh, hlk, MH, hsp, q⟩ := h
  have px := passM (X := (cxr P w K mg base ["self", "name", "x", "y", "hold", "pin", "spot"] "Frame.put_pin" (defScope s_Frame_put_pin) f cdv A outer s H E)) (CXr.mute (P := P) (w := w))
  refine ⟨_, (pss_cons (ps_if (pt_cmp (pc_din (hu_of hr) (pv 1) (pe_fld (pv 0) rfl))) (pss_one (ps_never)) pss_nil)
    (pss_cons (ps_thaw (ps_for PassesOwn.never rfl (pi_items (pe_fld (pv 0) rfl)) (pg_tup rfl (pgs_cons (pg_name (i := 5) sc_Frame_put_pin.nd rfl (Or.inl rfl)) (pgs_cons (pg_name (i := 6) sc_Frame_put_pin.nd rfl (Or.inl rfl)) pgs_nil))) (pss_one (ps_if (pt_cmpR (op_eqDa hr.units) (pv 6) (pe_tup (pac (pv 2) (pac (pv 3) pa_nil))) (nomark _)) (pss_one (ps_never)) pss_nil))))
    (pss_cons (ps_if (pt_cmpR op_ge (pe_callB call_lenD rfl m_len b_len (pac (pe_fld (pv 0) rfl) pa_nil)) (pe_glob (v := .int 24) rfl m_MOST_PINS ⟨_, rfl⟩) (nomark _)) (pss_one (ps_never)) pss_nil)
    (pss_cons (ps_dput (hu_of hr) (pe_fld (pv 0) rfl) (pv 1) (pe_tup (pac (pv 2) (pac (pv 3) pa_nil))) rfl)
    (pss_one (ps_dput (hu_of hr) (pe_fld (pv 0) rfl) (pv 1) (pe_ifExp (pt_cmpR op_isN (pv 4) pe_non (nomark _)) (pe_lst pa_nil) (pe_callTy call_listL rfl m_list b_list (pac (pe_mtd0 (k := 2) (pv 4) (hr.mono (by decide)) px) pa_nil))) rfl)))))), ?_⟩
  refine ⟨_, rfl, _, rfl, a, C, dx, _, _, rfl, R.obj, fc.cls, fc.pl, rfl, pP, _, rfl, DGet.k (k := .inr x) R.pl, _, rfl, ?_⟩
  rw [R.pin x, decide_eq_false hx]
  have lk : kP.length = ps.length := (Paired.length R.rp).symm
  refine ⟨_, rfl, a, C, dx, _, _, rfl, R.obj, fc.cls, fc.pl, rfl, pP, kP, rfl, R.pl, fun o => ?_⟩
  have k0 : KSame pP H (upd H pP (.frz o (.dK kP))) := fun b o' n e => by rw [upd_ne n]; exact e
  refine for_items (d := pP) (o := o) (kvs := kP) (fun t σ H' => ∃ (o2 o3 : Option V), σ = [some (.ref a), some (.str x), some u, some v, some (.ref h), o2, o3] ∧ KSame pP H H' ∧ H' pP = some (.frz o (.dK kP))) ⟨none, none, rfl, k0, upd_same⟩ (fun t σ H' _ h => by
      obtain ⟨_, _, _, _, h⟩ := h
      exact h) ?_ ?_
  · rintro t k y σ H6 p7 ekv ⟨o2, o3, rfl, k6, hd6⟩ n7
    obtain ⟨z, ez, hz1, hz2⟩ := paired_get (paired_flip R.rp) ekv
    have hz1' : k = .inr z.1 := hz1
    subst hz1'
    have s6 : SameT H H6 := fun b xs r => by
      rcases r with r | ⟨o', r⟩
      · exact .inl (k6 _ _ (fun e => by rw [e, R.pl] at r; cases r) r)
      · exact .inr ⟨o', k6 _ _ (fun e => by rw [e, R.pl] at r; cases r) r⟩
    have s7 := same_new n7 (.tup [kV (.inr z.1), y])
    have s67 : SameT H (upd H6 p7 (.tup [kV (.inr z.1), y])) := s6.trans (.of s7)
    refine ⟨p7, _, rfl, SqT.of upd_same, rfl, _, _, rfl, _, _, rfl, rfl, ?_⟩
    refine ⟨_, rfl, _, rfl, _, rfl, (by show 2 ≤ sizeLine; decide), fun t8 n8 => ?_⟩
    have s8 := same_new n8 (.tup [u, v])
    have s78 : SameT H (upd (upd H6 p7 (.tup [kV (.inr z.1), y])) t8 (.tup [u, v])) := s67.trans (.of s8)
    refine ⟨spotD z.2, spotD p, .inl ⟨(Spot.sameT hz2 s78).is, (Spot.is (p := p) ⟨t8, u, v, rfl, SqT.of upd_same, hu.sameT s78, hv.sameT s78⟩)⟩, alike_spots _ _, dep_spots _, ?_⟩
    rw [eq_spots]
    refine ⟨_, rfl, ?_⟩
    refine ite2 (fun c => absurd (of_decide_eq_true c) (hs z (List.mem_of_getElem? ez))) (fun _ => ?_)
    exact ⟨_, _, rfl, fun b o' n e => s8 _ _ (s7 _ _ (k6 b o' n e)), s8 _ _ (s7 _ _ hd6)⟩
  · rintro σ H1 ⟨o2, o3, rfl, k1, hd1⟩
    refine ⟨pP, o, kP, hd1, fun o' u' z => (by have z' : H pP = some (.frz o' u') := z; rw [R.pl] at z'; cases z'), ?_⟩
    have s2 : Same H (upd H1 pP (.dK kP)) := fun b o' e => by
      by_cases n : b = pP
      · subst n
        rw [R.pl] at e
        rw [upd_same]
        exact e
      · rw [upd_ne n]
        exact k1 b o' n e
    generalize upd H1 pP (.dK kP) = H2 at s2 ⊢
    have R2 := R.same s2
    refine ⟨_, rfl, a, C, dx, _, _, rfl, R2.obj, fc.cls, fc.pl, rfl, pP, kP, rfl, .inl R2.pl, _, _, rfl, rfl, _, rfl, ?_⟩
    refine ite2 (fun c => ?_) (fun _ => ?_)
    · have c' : (24 : Int) ≤ (kP.length : Int) := of_decide_eq_true c
      omega
    refine ⟨_, rfl, _, rfl, (by show 2 ≤ sizeLine; decide), fun t nt => ?_⟩
    have s3 := same_new nt (.tup [u, v])
    have R3 := R2.same s3
    have hu3 := (hu.same s2).same s3
    have hv3 := (hv.same s2).same s3
    refine ⟨_, rfl, a, C, dx, _, _, rfl, R3.obj, fc.cls, fc.pl, rfl, _, rfl, pP, _, rfl, DPut.k (k := .inr x) R3.pl (Nat.lt_of_le_of_lt (show kP.length ≤ 1000 by omega) (by decide)), ?_⟩
    have e : putK kP (.inr x) (.ref t) = kP ++ [(.inr x, .ref t)] := putK_new _ (valV_none (by rw [R.keysP]; exact fun z => hx (key_mem.mp z)))
    rw [e]
    have R4 := R3.putPin (x := x) (p := p) (t := t) ⟨t, u, v, rfl, SqT.of upd_same, hu3, hv3⟩
    have k4 : ∀ b o, b ≠ pP → H b = some o → (upd (upd H2 t (.tup [u, v])) pP (.dK (kP ++ [(.inr x, .ref t)]))) b = some o := fun b o n e => by rw [upd_ne n]; exact s3 _ _ (s2 _ _ e)
    generalize upd (upd H2 t (.tup [u, v])) pP (.dK (kP ++ [(.inr x, .ref t)])) = H4 at R4 k4 ⊢
    have lw : kW.length = ps.length := by
      have e1 : kW.length = pw.length := (Paired.length W).symm
      have e2 := congrArg List.length ew
      rw [List.length_map, List.length_map] at e2
      omega
    have t4 : SameT H H4 := fun b xs r => by
      rcases r with r | ⟨o', r⟩
      · exact .inl (k4 _ _ (fun e => by rw [e, R.pl] at r; cases r) r)
      · exact .inr ⟨o', k4 _ _ (fun e => by rw [e, R.pl] at r; cases r) r⟩
    have W4 : WyR K H4 pw kW := Paired.mapP W fun _ _ z => ⟨z.1, by
      obtain ⟨l, us, e1, e2, e3⟩ := z.2
      exact ⟨l, us, e1, k4 _ _ (fun e => by rw [e, R.pl] at e2; cases e2) e2, e3.sameT t4⟩⟩
    have h4 : H4 h = some (.ins Ch dxh fsh) := k4 _ _ (fun e => by rw [e, R.pl] at hh; cases hh) hh
    refine ⟨_, rfl, rfl, _, rfl, ?_⟩
    refine ite2 (fun c => absurd (of_decide_eq_true c) (fun z => nomatch z)) (fun _ => ?_)
    refine ⟨_, rfl, h, Ch, dxh, fsh, psh, sph, rfl, h4, hlk, MH, hsp H4 h4 t4 _ fun l1 us H5 s5 n5 e5 p5 => ?_⟩
    refine ⟨l1, us, rfl, SqL.of e5, fun l2 n6 => ?_⟩
    have s6 := same_new n6 (.lst us)
    have R6 := (R4.same s5).same s6
    have W6 := (W4.same s5).same s6
    refine ⟨_, rfl, a, C, dx, _, _, rfl, R6.obj, fc.cls, fc.wy, rfl, _, rfl, pW, _, rfl, DPut.k (k := .inr x) R6.wy (Nat.lt_of_le_of_lt (show kW.length ≤ 1000 by omega) (by decide)), ?_⟩
    have ek : putK kW (.inr x) (.ref l2) = kW ++ [(.inr x, .ref l2)] := putK_new _ (valV_none (by rw [W.keys, ew]; exact fun z => hx (key_mem.mp z)))
    rw [ek]
    have s46 : Same H4 (upd H5 l2 (.lst us)) := fun b o z => s6 _ _ (s5 _ _ z)
    refine q _ _ _ (fun b o n1 n2 e => by rw [upd_ne n2]; exact s46 _ _ (k4 b o n1 e)) (R6.putWays _) ?_ ⟨l2, rfl, ?_⟩
    have ne6 : l2 ≠ pW := fun z => by have h := R6.wy; rw [← z, upd_same] at h; cases h
    rotate_left
    · cases e : H l2 with
      | none => rfl
      | some o2 =>
        have np2 : l2 ≠ pP := fun z => by
          have z1 := s5 _ _ R4.pl
          rw [← z, n6] at z1
          cases z1
        have z1 := s5 _ _ (k4 _ _ np2 e)
        rw [n6] at z1
        cases z1
    exact Paired.snoc (W6.dict R6.wy) ⟨rfl, l2, us, rfl, by rw [upd_ne ne6, upd_same], (p5.same s6).sameT (.dict R6.wy)⟩
def spTakeBar (K : PySem.W.Frag) (C : Addr) : Sp := fun vs H Q _ => ∃ (a dx pP pW pB : Addr) (ps : List (Str × Pt)) (bs : List (Str × Str × Str)) (kP kW kB : List (Key × V)) (x : Str), vs = [.ref a, .str x] ∧ FrR K H C a dx pP pW pB ps bs kP kW kB ∧
  x ∈ bs.map (·.1) ∧ ∀ (H' : Hp) (kB' : List (Key × V)), KSame pB H H' → FrR K H' C a dx pP pW pB ps (bs.filter fun b => decide (b.1 ≠ x)) kP kW kB' → Q .non H'
theorem sc_Frame_take_bar : FnScope ["self", "name"] ["self", "name"] (defScope s_Frame_take_bar) := ⟨rfl, rfl, rfl, by decide +kernel, rfl, by decide +kernel, by decide +kernel⟩
theorem ok_Frame_take_bar {f : Addr} {fd : FuncData} {C : Addr} (F : Fun K "take_bar" "Frame.take_bar" s_Frame_take_bar f fd) (fc : FrC K C) : FnOk P w K mg base (CXr P w) 1 f fd ["self", "name"] (spTakeBar K C) := by
  refine fun_okF F sc_Frame_take_bar (fun vs H Q E h => ?_) (fun cdv A outer s H vs Q E hr h => ?_)
  · obtain ⟨a, dx, pP, pW, pB, ps, bs, kP, kW, kB, x, rfl, _⟩ := h
    rfl
  obtain ⟨a, dx, pP, pW, pB, ps, bs, kP, kW, kB, x, rfl, R, hx, q⟩ := h
  refine ⟨_, (pss_cons (ps_if (pt_cmp (pc_dnotin (hu_of hr) (pv 1) (pe_fld (pv 0) rfl))) (pss_one (ps_never)) pss_nil)
    (pss_one (ps_expr (pe_dpop1 (pe_fld (pv 0) rfl) (pv 1) ⟨rfl, rfl, rfl, rfl⟩)))), ?_⟩
  refine ⟨_, rfl, _, rfl, a, C, dx, _, _, rfl, R.obj, fc.cls, fc.br, rfl, pB, _, rfl, DGet.k (k := .inr x) R.br, _, rfl, ?_⟩
  rw [R.bar x, decide_eq_true hx]
  obtain ⟨v, ev⟩ := valV_some (kvs := kB) (k := .inr x) (by rw [R.keysB]; exact key_mem.mpr hx)
  refine ⟨_, rfl, a, C, dx, _, _, rfl, R.obj, fc.cls, fc.br, rfl, pB, rfl, .inl ⟨_, .inl R.br⟩, _, rfl, kB, .inr x, v, R.br, rfl, ev, ?_⟩
  exact q _ _ (fun b o n z => by rw [upd_ne n]; exact z) (R.dropBar x)
theorem frDropPin {K : PySem.W.Frag} {H : Hp} {C a dx pP pW pB : Addr} {ps : List (Str × Pt)} {bs : List (Str × Str × Str)} {kP kW kB : List (Key × V)} (R : FrR K H C a dx pP pW pB ps bs kP kW kB) (x : Str) :
    FrR K (upd H pP (.dK (dropK kP (.inr x)))) C a dx pP pW pB (ps.filter fun b => decide (b.1 ≠ x)) bs (dropK kP (.inr x)) kW kB := by
  have s : SameT H (upd H pP (.dK (dropK kP (.inr x)))) := .dict R.pl
  exact ⟨by rw [upd_ne R.ab.1]; exact R.obj, upd_same, by rw [upd_ne (Ne.symm R.ne1)]; exact R.wy, by rw [upd_ne (Ne.symm R.ne2)]; exact R.br, R.ne1, R.ne2, R.ne3, paired_drop x (Paired.mapP R.rp fun _ _ h => ⟨h.1, h.2.sameT s⟩),
    Paired.mapP R.rb fun _ _ h => ⟨h.1, by obtain ⟨p, e, k⟩ := h.2; exact ⟨p, e, s _ _ k⟩⟩⟩
def spTakePinW (K : PySem.W.Frag) (C : Addr) : Sp := fun vs H Q E => ∃ (a dx pP pW pB : Addr) (ps : List (Str × Pt)) (bs : List (Str × Str × Str)) (kP kW kB : List (Key × V)) (pw : List (Str × List (Rat × Rat))) (x : Str), vs = [.ref a, .str x] ∧ FrR K H C a dx pP pW pB ps bs kP kW kB ∧ WyR K H pw kW ∧ pw.map (·.1) = ps.map (·.1) ∧ x ∈ ps.map (·.1) ∧ (∀ b ∈ bs, x ≠ b.2.1 ∧ x ≠ b.2.2) ∧
  ∀ (H' : Hp) (kP' kW' : List (Key × V)), (∀ b o, b ≠ pP → b ≠ pW → H b = some o → H' b = some o) → FrR K H' C a dx pP pW pB (ps.filter fun b => decide (b.1 ≠ x)) bs kP' kW' kB → WyR K H' (pw.filter fun b => decide (b.1 ≠ x)) kW' → (∀ kv ∈ kW', kv ∈ kW) → Q .non H'
theorem sc_Frame_take_pin : FnScope ["self", "name", "bar", "two"] ["self", "name"] (defScope s_Frame_take_pin) := ⟨rfl, rfl, rfl, by decide +kernel, rfl, by decide +kernel, by decide +kernel⟩
theorem ok_Frame_take_pin {f : Addr} {fd : FuncData} {C : Addr} (F : Fun K "take_pin" "Frame.take_pin" s_Frame_take_pin f fd) (fc : FrC K C) (MC : MtdOk P w K mg base (CXr P w) 1 C "check_pin" ["self", "pin"] (spCheckPin K C)) : FnOk P w K mg base (CXr P w) 2 f fd ["self", "name"] (spTakePinW K C) := by
  refine fun_okF F sc_Frame_take_pin (fun vs H Q E h => ?_) (fun cdv A outer s H vs Q E hr h => ?_)
  · obtain ⟨a, dx, pP, pW, pB, ps, bs, kP, kW, kB, pw, x, rfl, _⟩ := h
    rfl
  obtain ⟨a, dx, pP, pW, pB, ps, bs, kP, kW, kB, pw, x, rfl, R, W, ew, hx, hb, q⟩ := h
  have px := passM (X := (cxr P w K mg base ["self", "name", "bar", "two"] "Frame.take_pin" (defScope s_Frame_take_pin) f cdv A outer s H E)) (CXr.mute (P := P) (w := w))
  refine ⟨_, (pss_cons (ps_expr (pe_mtd (k := 1) (pv 0) (hr.mono (by decide)) px (pac (pv 1) pa_nil)))
    (pss_cons (ps_thaw (ps_for PassesOwn.never rfl (pi_items (pe_fld (pv 0) rfl)) (pg_tup rfl (pgs_cons (pg_name (i := 2) sc_Frame_take_pin.nd rfl (Or.inl rfl)) (pgs_cons (pg_name (i := 3) sc_Frame_take_pin.nd rfl (Or.inl rfl)) pgs_nil))) (pss_one (ps_if (pt_cmpR op_in_seq (pv 1) (pv 3) rfl) (pss_one (ps_never)) pss_nil))))
    (pss_cons (ps_expr (pe_dpop1 (pe_fld (pv 0) rfl) (pv 1) ⟨rfl, rfl, rfl, rfl⟩))
    (pss_one (ps_expr (pe_dpop1 (pe_fld (pv 0) rfl) (pv 1) ⟨rfl, rfl, rfl, rfl⟩)))))), ?_⟩
  refine ⟨_, rfl, a, C, dx, _, _, _, rfl, R.obj, rfl, MC, _, rfl, a, dx, pP, pW, pB, ps, bs, kP, kW, kB, x, rfl, R, hx, ?_⟩
  have lk : kB.length = bs.length := (Paired.length R.rb).symm
  refine ⟨_, rfl, a, C, dx, _, _, rfl, R.obj, fc.cls, fc.br, rfl, pB, kB, rfl, R.br, fun o => ?_⟩
  have k0 : KSame pB H (upd H pB (.frz o (.dK kB))) := fun b o' n e => by rw [upd_ne n]; exact e
  refine for_items (d := pB) (o := o) (kvs := kB) (fun t σ H' => ∃ (o2 o3 : Option V), σ = [some (.ref a), some (.str x), o2, o3] ∧ KSame pB H H' ∧ H' pB = some (.frz o (.dK kB))) ⟨none, none, rfl, k0, upd_same⟩ (fun t σ H' _ h => by
      obtain ⟨_, _, _, _, h⟩ := h
      exact h) ?_ ?_
  · rintro t k y σ H6 p7 ekv ⟨o2, o3, rfl, k6, hd6⟩ n7
    obtain ⟨z, ez, hz1, p, ep, hz2⟩ := paired_get (paired_flip R.rb) ekv
    have hz1' : k = .inr z.1 := hz1
    subst hz1'
    have ep' : y = .ref p := ep
    subst ep'
    have s6 : SameT H H6 := fun b xs r => by
      rcases r with r | ⟨o', r⟩
      · exact .inl (k6 _ _ (fun e => by rw [e, R.br] at r; cases r) r)
      · exact .inr ⟨o', k6 _ _ (fun e => by rw [e, R.br] at r; cases r) r⟩
    have s7 := same_new n7 (.tup [kV (.inr z.1), .ref p])
    have s67 : SameT H (upd H6 p7 (.tup [kV (.inr z.1), .ref p])) := s6.trans (.of s7)
    obtain ⟨n1, n2⟩ := hb z (List.mem_of_getElem? ez)
    refine ⟨p7, _, rfl, SqT.of upd_same, rfl, _, _, rfl, _, _, rfl, rfl, ?_⟩
    refine ⟨_, rfl, _, rfl, p, [.str z.2.1, .str z.2.2], rfl, .inr (s67.seqT (.inl hz2)), rfl, rfl, _, rfl, ?_⟩
    refine ite2 (fun c => ?_) (fun _ => ⟨_, _, rfl, fun b o' n e => s7 _ _ (k6 b o' n e), s7 _ _ hd6⟩)
    exfalso
    have c' : inV (.str x) [.str z.2.1, .str z.2.2] = true := c
    simp [inV, eqV] at c'
    rcases c' with c' | c'
    · exact n1 c'.symm
    · exact n2 c'.symm
  · rintro σ H1 ⟨o2, o3, rfl, k1, hd1⟩
    refine ⟨pB, o, kB, hd1, fun o' u' z => (by have z' : H pB = some (.frz o' u') := z; rw [R.br] at z'; cases z'), ?_⟩
    have s2 : Same H (upd H1 pB (.dK kB)) := fun b o' e => by
      by_cases n : b = pB
      · subst n
        rw [R.br] at e
        rw [upd_same]
        exact e
      · rw [upd_ne n]
        exact k1 b o' n e
    generalize upd H1 pB (.dK kB) = H2 at s2 ⊢
    have R2 := R.same s2
    obtain ⟨v, ev⟩ := valV_some (kvs := kP) (k := .inr x) (by rw [R.keysP]; exact key_mem.mpr hx)
    have kk : kW.map (·.1) = (ps.map (·.1)).map (fun b => (Sum.inr b : Key)) := by rw [paired_keys W, ← ew, List.map_map]; rfl
    obtain ⟨v2, ev2⟩ := valV_some (kvs := kW) (k := .inr x) (by rw [kk]; exact key_mem.mpr hx)
    refine ⟨_, rfl, a, C, dx, _, _, rfl, R2.obj, fc.cls, fc.pl, rfl, pP, rfl, .inl ⟨_, .inl R2.pl⟩, _, rfl, kP, .inr x, v, R2.pl, rfl, ev, ?_⟩
    have R3 := frDropPin R2 x
    have k3 : ∀ b o, b ≠ pP → H b = some o → (upd H2 pP (.dK (dropK kP (.inr x)))) b = some o := fun b o n e => by rw [upd_ne n]; exact s2 _ _ e
    have k2 : KSame pP H2 (upd H2 pP (.dK (dropK kP (.inr x)))) := fun b o n e => by rw [upd_ne n]; exact e
    generalize upd H2 pP (.dK (dropK kP (.inr x))) = H3 at R3 k3 k2 ⊢
    refine ⟨_, rfl, a, C, dx, _, _, rfl, R3.obj, fc.cls, fc.wy, rfl, pW, rfl, .inl ⟨_, .inl R3.wy⟩, _, rfl, kW, .inr x, v2, R3.wy, rfl, ev2, ?_⟩
    have t3 : SameT H2 H3 := fun b xs r => by
      rcases r with r | ⟨o', r⟩
      · exact .inl (k2 _ _ (fun e => by rw [e, R2.pl] at r; cases r) r)
      · exact .inr ⟨o', k2 _ _ (fun e => by rw [e, R2.pl] at r; cases r) r⟩
    have t4 : SameT H3 (upd H3 pW (.dK (dropK kW (.inr x)))) := .dict R3.wy
    refine q _ _ _ (fun b o n1 n2 e => by rw [upd_ne n2]; exact k3 b o n1 e) (R3.putWays _) (paired_drop x (Paired.mapP (W.same s2) fun _ _ z => ⟨z.1, ?_⟩)) (fun kv h => by unfold dropK at h; exact (List.mem_filter.mp h).1)
    obtain ⟨l, us, z1, z2, z3⟩ := z.2
    exact ⟨l, us, z1, by rw [upd_ne (fun e => by rw [e, R2.wy] at z2; cases z2)]; exact k2 _ _ (fun e => by rw [e, R2.pl] at z2; cases z2) z2, (z3.sameT t3).sameT t4⟩
theorem sz_zero {k : Nat} (h : 1 ≤ k) : Sz k 0 := by
  have := sz_int (i := 0) (k := k) (by simpa using Nat.two_pow_pos k) h
  simpa using this
def armP (p q : PinD) : Rat × Rat := (q.sp.1 - p.sp.1, q.sp.2 - p.sp.2)
def spArm (K : PySem.W.Frag) (C : Addr) : Sp := fun vs H Q _ => ∃ (a : Addr) (pins : List PinD) (bars : List BarD) (p q : PinD), vs = [.ref a, .str p.nm, .str q.nm] ∧ FrA K H C a pins bars ∧ GoodF pins bars ∧ p ∈ pins ∧ q ∈ pins ∧ givesP K H Q (armP p q)
theorem np_of {pins : List PinD} (h : (pins.map (·.nm)).Nodup) : ((pins.map fun p => (p.nm, ptQ p.sp)).map (·.1)).Nodup := by
  rw [List.map_map]
  exact h
theorem nw_of {pins : List PinD} (h : (pins.map (·.nm)).Nodup) : ((pins.map fun p => (p.nm, p.ws)).map (·.1)).Nodup := by
  rw [List.map_map]
  exact h
theorem nb_of {bars : List BarD} (h : (bars.map (·.nm)).Nodup) : ((bars.map fun b => (b.nm, b.one.nm, b.other.nm)).map (·.1)).Nodup := by
  rw [List.map_map]
  exact h
theorem sc_arm_between : FnScope ["F", "one", "other"] ["F", "one", "other"] (defScope s_arm_between) := ⟨rfl, rfl, rfl, by decide +kernel, rfl, by decide +kernel, by decide +kernel⟩
theorem ok_arm_between {C : Addr} (D : Def K mg "arm_between" s_arm_between ["F", "one", "other"]) (MP : MtdOk P w K mg base (CXr P w) 2 C "place" ["self", "pin"] (spPlace K C)) (G_pair_difference : Fn P w K mg base (CXr P w) 35 "pair_difference" ["one", "other"] (spPair K fun a b => a - b)) : Fn P w K mg base (CXr P w) 36 "arm_between" ["F", "one", "other"] (spArm K C) := by
  refine D.ok sc_arm_between (fun vs H Q E h => ?_) (fun f cdv A outer s H vs Q E hr h => ?_)
  · obtain ⟨a, pins, bars, p, q, rfl, _⟩ := h
    rfl
  obtain ⟨a, pins, bars, p, q, rfl, R, g, hp, hq, k⟩ := h
  obtain ⟨dx, pP, pW, pB, kP, kW, kB, R, W⟩ := R.ex
  have px := passM (X := (cxOf (CXr P w) P w K mg base ["F", "one", "other"] "arm_between" (defScope s_arm_between) f cdv A outer s H E)) (CXr.mute (P := P) (w := w))
  refine ⟨_, (pss_one (ps_ret (pe_fn G_pair_difference (hr.mono (by decide)) px (pac (pe_mtd (k := 2) (pv 0) (hr.mono (by decide)) px (pac (pv 2) pa_nil)) (pac (pe_mtd (k := 2) (pv 0) (hr.mono (by decide)) px (pac (pv 1) pa_nil)) pa_nil))))), ?_⟩
  refine ⟨_, rfl, a, C, dx, _, _, _, rfl, R.obj, rfl, MP, _, rfl, a, dx, pP, pW, pB, _, _, kP, kW, kB, q.nm, ptQ q.sp, rfl, R, np_of g.np, List.mem_map.mpr ⟨q, hq, rfl⟩, fun v1 h1 => ?_⟩
  refine ⟨_, rfl, a, C, dx, _, _, _, rfl, R.obj, rfl, MP, _, rfl, a, dx, pP, pW, pB, _, _, kP, kW, kB, p.nm, ptQ p.sp, rfl, R, np_of g.np, List.mem_map.mpr ⟨p, hp, rfl⟩, fun v2 h2 => ?_⟩
  have z1 := g.sz q hq
  have z2 := g.sz p hp
  exact ⟨v1, v2, q.sp, p.sp, rfl, h1, h2, z1.1.up (by decide), z1.2.1.up (by decide), z2.1.up (by decide), z2.2.1.up (by decide), k⟩
def mv (M : Str → Option (Rat × Rat)) (x : Str) : Rat × Rat := (M x).getD (0, 0)
def mvSz (M : Str → Option (Rat × Rat)) : Prop := ∀ x, Sz 100 (mv M x).1 ∧ Sz 100 (mv M x).2
def lenB (M : Str → Option (Rat × Rat)) (b : BarD) : Rat := dotP (armP b.one b.other) ((mv M b.other.nm).1 - (mv M b.one.nm).1, (mv M b.other.nm).2 - (mv M b.one.nm).2)
def spLen (K : PySem.W.Frag) (C : Addr) : Sp := fun vs H Q _ => ∃ (a d : Addr) (pins : List PinD) (bars : List BarD) (kvs : List (Key × V)) (M : Str → Option (Rat × Rat)), vs = [.ref a, .ref d] ∧ FrA K H C a pins bars ∧ GoodF pins bars ∧ H d = some (.dK kvs) ∧ PtD K H kvs M ∧ mvSz M ∧
  ∀ (e : Addr) (kvs' : List (Key × V)) (H' : Hp), Same H H' → H e = none → H' e = some (.dK kvs') → kvs'.map (·.1) = bars.map (fun b => (Sum.inr b.nm : Key)) → (∀ b ∈ bars, ∃ v, valV kvs' (.inr b.nm) = some v ∧ NmR K H' v (lenB M b)) → Q (.ref e) H'
theorem sc_lengthenings : FnScope ["F", "motion", "longer", "bar", "two", "apart"] ["F", "motion"] (defScope s_lengthenings) := ⟨rfl, rfl, rfl, by decide +kernel, rfl, by decide +kernel, by decide +kernel⟩
theorem ok_lengthenings {C aM : Addr} (hM : ∀ H : Hp, PtR K H (.ref aM) (0, 0)) (m_NO_MOVE : mg "NO_MOVE" = some (.ref aM)) (D : Def K mg "lengthenings" s_lengthenings ["F", "motion"]) (MB : MtdOk P w K mg base (CXr P w) 1 C "bars" ["self"] (spBars K C)) (ME : MtdOk P w K mg base (CXr P w) 1 C "ends" ["self", "bar"] (spEnds K C))
    (G_arm_between : Fn P w K mg base (CXr P w) 36 "arm_between" ["F", "one", "other"] (spArm K C)) (G_pair_difference : Fn P w K mg base (CXr P w) 35 "pair_difference" ["one", "other"] (spPair K fun a b => a - b)) (G_pair_product : Fn P w K mg base (CXr P w) 35 "pair_product" ["one", "other"] (spDot K)) :
    Fn P w K mg base (CXr P w) 37 "lengthenings" ["F", "motion"] (spLen K C) := by
  refine D.ok sc_lengthenings (fun vs H Q E h => ?_) (fun f cdv A outer s H vs Q E hr h => ?_)
  · obtain ⟨a, d, pins, bars, kvs, M, rfl, _⟩ := h
    rfl
  obtain ⟨a, d, pins, bars, kvs, M, rfl, R, g, hd, hP, zM, q⟩ := h
  have px := passM (X := (cxOf (CXr P w) P w K mg base ["F", "motion", "longer", "bar", "two", "apart"] "lengthenings" (defScope s_lengthenings) f cdv A outer s H E)) (CXr.mute (P := P) (w := w))
  refine ⟨_, (pss_cons (ps_set (i := 2) sc_lengthenings.nd rfl (Or.inl rfl) pe_dnewK)
    (pss_cons (ps_for PassesOwn.never rfl (pi_list (pe_mtd0 (k := 1) (pv 0) (hr.mono (by decide)) px)) (pg_name (i := 3) sc_lengthenings.nd rfl (Or.inl rfl)) (pss_cons (ps_set (i := 4) sc_lengthenings.nd rfl (Or.inl rfl) (pe_mtd (k := 1) (pv 0) (hr.mono (by decide)) px (pac (pv 3) pa_nil)))
      (pss_cons (ps_set (i := 5) sc_lengthenings.nd rfl (Or.inl rfl) (pe_fn G_pair_difference (hr.mono (by decide)) px (pac (pe_dget2 (hu_of hr) (pv 1) (pe_ix ix_tup (pv 4) pe_int (fun _ _ => rfl)) (pe_glob (v := .ref aM) rfl m_NO_MOVE rfl) ⟨rfl, rfl, rfl, rfl⟩) (pac (pe_dget2 (hu_of hr) (pv 1) (pe_ix ix_tup (pv 4) pe_int (fun _ _ => rfl)) (pe_glob (v := .ref aM) rfl m_NO_MOVE rfl) ⟨rfl, rfl, rfl, rfl⟩) pa_nil))))
      (pss_one (ps_dput (hu_of hr) (pv 2) (pv 3) (pe_fn G_pair_product (hr.mono (by decide)) px (pac (pe_fn G_arm_between (hr.mono (by decide)) px (pac (pv 0) (pac (pe_ix ix_tup (pv 4) pe_int (fun _ _ => rfl)) (pac (pe_ix ix_tup (pv 4) pe_int (fun _ _ => rfl)) pa_nil)))) (pac (pv 5) pa_nil))) rfl)))))
    (pss_one (ps_ret (pv 2))))), ?_⟩
  intro e ne
  have s1 := same_new ne (.dK [])
  have e1 : (upd H e (.dK [])) e = some (.dK []) := upd_same
  generalize upd H e (.dK []) = H1 at s1 e1 ⊢
  have R1 := R.same s1
  obtain ⟨dx, pP, pW, pB, kP, kW, kB, F1, W1⟩ := R1.ex
  refine ⟨_, rfl, a, C, dx, _, _, _, rfl, F1.obj, rfl, MB, a, dx, pP, pW, pB, _, _, kP, kW, kB, rfl, F1, fun l H2 s2 nl el => ?_⟩
  have nmb : ((bars.map fun b => (b.nm, b.one.nm, b.other.nm)).map (·.1)) = bars.map (·.nm) := by rw [List.map_map]; rfl
  rw [nmb] at el
  refine ⟨l, rfl, ⟨_, SqL.of el⟩, for_list (K := K) (a := l) (xs := (bars.map (·.nm)).map V.str) (fun i σ H' => ∃ (o3 o4 o5 : Option V) (kv' : List (Key × V)), σ = [some (.ref a), some (.ref d), some (.ref e), o3, o4, o5] ∧ Same H H' ∧ H' l = some (.lst ((bars.map (·.nm)).map V.str)) ∧ H' e = some (.dK kv') ∧ kv'.map (·.1) = (bars.take i).map (fun b => (Sum.inr b.nm : Key)) ∧
    ∀ b ∈ bars.take i, ∃ v, valV kv' (.inr b.nm) = some v ∧ NmR K H' v (lenB M b)) ⟨none, none, none, [], rfl, fun b o z => s2 _ _ (s1 _ _ z), el, s2 _ _ e1, rfl, fun b hb => by simp at hb⟩ (fun i σ H' _ h => by
      obtain ⟨_, _, _, _, _, _, h, _⟩ := h
      exact SqL.of h) ?_ ?_⟩
  · rintro i z σ H4 hi ⟨o3, o4, o5, kv', rfl, s4, l4, e4, ks, tl⟩
    rw [List.getElem?_map, List.getElem?_map] at hi
    obtain ⟨x, hx, rfl⟩ := Option.map_eq_some_iff.mp hi
    obtain ⟨b, hb, rfl⟩ := Option.map_eq_some_iff.mp hx
    have il : i < bars.length := (List.getElem?_eq_some_iff.mp hb).1
    have mb : b ∈ bars := List.mem_of_getElem? hb
    obtain ⟨m1, m2, m3⟩ := g.ends b mb
    have R4 := R.same s4
    obtain ⟨dx, pP, pW, pB, kP, kW, kB, F4, W4⟩ := R4.ex
    refine ⟨_, rfl, a, C, dx, _, _, _, rfl, F4.obj, rfl, ME, _, rfl, a, dx, pP, pW, pB, _, _, kP, kW, kB, b.nm, b.one.nm, b.other.nm, rfl, F4, nb_of g.nb, List.mem_map.mpr ⟨b, mb, rfl⟩, fun p rd => ?_⟩
    have tp : SqT K H4 p [.str b.one.nm, .str b.other.nm] := .inl rd
    have d4 := s4 _ _ hd
    have P4 := hP.same s4
    refine ⟨_, rfl, d, rfl, .inl ⟨_, .inl d4⟩, _, rfl, p, _, _, _, rfl, rfl, tp, at1, _, DGet.k (k := .inr b.other.nm) d4, ?_⟩
    refine ⟨_, rfl, d, rfl, .inl ⟨_, .inl d4⟩, _, rfl, p, _, _, _, rfl, rfl, tp, at0, _, DGet.k (k := .inr b.one.nm) d4, ?_⟩
    have g1 : PtR K H4 ((valV kvs (.inr b.other.nm)).getD (.ref aM)) (mv M b.other.nm) := P4.dget (hM H4)
    have g2 : PtR K H4 ((valV kvs (.inr b.one.nm)).getD (.ref aM)) (mv M b.one.nm) := P4.dget (hM H4)
    generalize (valV kvs (.inr b.other.nm)).getD (.ref aM) = v1 at g1 ⊢
    generalize (valV kvs (.inr b.one.nm)).getD (.ref aM) = v2 at g2 ⊢
    have z1 := zM b.other.nm
    have z2 := zM b.one.nm
    refine ⟨v1, v2, _, _, rfl, g1, g2, z1.1.up (by decide), z1.2.up (by decide), z2.1.up (by decide), z2.2.up (by decide), fun v3 H5 s5 h5 => ?_⟩
    have R5 := R4.same s5
    have tp5 := Ty.Same.seqT s5 tp
    refine ⟨_, rfl, _, rfl, p, _, _, _, rfl, rfl, tp5, at0, _, rfl, p, _, _, _, rfl, rfl, tp5, at1, a, pins, bars, b.one, b.other, rfl, R5, g, m1, m2, fun v6 H6 s6 h6 => ?_⟩
    have y1 := g.sz _ m1
    have y2 := g.sz _ m2
    refine ⟨_, rfl, v6, v3, _, _, rfl, h6, h5.same s6, (y2.1.sub y1.1).up (by decide), (y2.2.1.sub y1.2.1).up (by decide), (z1.1.sub z2.1).up (by decide), (z1.2.sub z2.2).up (by decide), fun c7 H7 s7 h7 => ?_⟩
    have e7 := s7 _ _ (s6 _ _ (s5 _ _ e4))
    have lk : kv'.length ≤ 8 := by
      have z := congrArg List.length ks
      rw [List.length_map, List.length_map, List.length_take] at z
      have := g.lb
      omega
    refine ⟨_, rfl, _, rfl, e, _, rfl, DPut.k (k := .inr b.nm) e7 (Nat.lt_of_le_of_lt (show kv'.length ≤ 1000 by omega) (by decide)), ?_⟩
    have fresh : (Sum.inr b.nm : Key) ∉ kv'.map (·.1) := by
      rw [ks]
      intro z
      obtain ⟨b', hb', eb'⟩ := List.mem_map.mp z
      have en : b'.nm = b.nm := Sum.inr.inj eb'
      obtain ⟨j, hj, ej⟩ := List.mem_iff_getElem.mp hb'
      rw [List.getElem_take] at ej
      rw [List.length_take] at hj
      have q1 : (bars.map (·.nm))[j]? = some b.nm := by rw [List.getElem?_map, List.getElem?_eq_getElem (by omega), ej]; show some b'.nm = _; rw [en]
      have q2 : (bars.map (·.nm))[i]? = some b.nm := by rw [List.getElem?_map, hb]; rfl
      have := (List.getElem?_inj (by rw [List.length_map]; omega) g.nb).mp (q1.trans q2.symm)
      omega
    have pk : putK kv' (.inr b.nm) (.ref c7) = kv' ++ [(.inr b.nm, .ref c7)] := putK_new _ (valV_none fresh)
    have t7 : SameT H7 (upd H7 e (.dK (putK kv' (.inr b.nm) (.ref c7)))) := .dict e7
    have s47 : Same H4 H7 := fun b o z => s7 _ _ (s6 _ _ (s5 _ _ z))
    have tk : bars.take (i + 1) = bars.take i ++ [b] := by rw [List.take_add_one, hb]; rfl
    refine ⟨_, _, _, _, rfl, fun c o z => ?_, ?_, upd_same, ?_, fun b' hb' => ?_⟩
    · rw [upd_ne (ne_of_none z ne)]
      exact s47 _ _ (s4 _ _ z)
    · rw [upd_ne (fun z => by rw [z, e4] at l4; cases l4)]
      exact s47 _ _ l4
    · rw [pk, List.map_append, ks, tk, List.map_append]
      rfl
    · rw [valV_put]
      by_cases c : b'.nm = b.nm
      · rw [if_pos (by rw [c])]
        refine ⟨.ref c7, rfl, ?_⟩
        have eb : b' = b := by
          obtain ⟨j, hj, ej⟩ := List.mem_iff_getElem.mp hb'
          rw [List.getElem_take] at ej
          rw [List.length_take] at hj
          have q1 : (bars.map (·.nm))[j]? = some b.nm := by rw [List.getElem?_map, List.getElem?_eq_getElem (by omega), ej]; show some b'.nm = _; rw [c]
          have q2 : (bars.map (·.nm))[i]? = some b.nm := by rw [List.getElem?_map, hb]; rfl
          have ji := (List.getElem?_inj (by rw [List.length_map]; omega) g.nb).mp (q1.trans q2.symm)
          subst ji
          rw [List.getElem?_eq_getElem il] at hb
          rw [← ej]
          exact Option.some.inj hb
        rw [eb]
        exact NmR.sameT ⟨c7, rfl, SqT.of h7⟩ t7
      · rw [if_neg (fun z => c (Sum.inr.inj z))]
        rw [tk, List.mem_append] at hb'
        rcases hb' with hb' | hb'
        · obtain ⟨v, h1, h2⟩ := tl b' hb'
          exact ⟨v, h1, (h2.same s47).sameT t7⟩
        · rw [List.mem_singleton] at hb'
          exact absurd (by rw [hb']) c
  · rintro σ H4 ⟨o3, o4, o5, kv', rfl, s4, l4, e4, ks, tl⟩
    rw [List.length_map, List.length_map, List.take_length] at ks tl
    exact ⟨_, rfl, q e kv' H4 s4 ne e4 ks tl⟩
def slipsOf (M : Str → Option (Rat × Rat)) (p : PinD) : List Rat := p.ws.map fun w => dotP w (mv M p.nm)
def spSlips (K : PySem.W.Frag) (C : Addr) : Sp := fun vs H Q _ => ∃ (a d : Addr) (pins : List PinD) (bars : List BarD) (kvs : List (Key × V)) (M : Str → Option (Rat × Rat)), vs = [.ref a, .ref d] ∧ FrA K H C a pins bars ∧ GoodF pins bars ∧ H d = some (.dK kvs) ∧ PtD K H kvs M ∧ mvSz M ∧
  ∀ (e : Addr) (kvs' : List (Key × V)) (H' : Hp), Same H H' → H e = none → H' e = some (.dK kvs') → kvs'.map (·.1) = pins.map (fun b => (Sum.inr b.nm : Key)) → (∀ p ∈ pins, ∃ l us, valV kvs' (.inr p.nm) = some (.ref l) ∧ H l = none ∧ H' l = some (.lst us) ∧ Paired (NmR K H') us (slipsOf M p)) → Q (.ref e) H'
theorem sc_slips : FnScope ["F", "motion", "slipped", "pin", "move"] ["F", "motion"] (defScope s_slips) := ⟨rfl, rfl, rfl, by decide +kernel, rfl, by decide +kernel, by decide +kernel⟩
theorem ok_slips {C aM : Addr} (hM : ∀ H : Hp, PtR K H (.ref aM) (0, 0)) (m_NO_MOVE : mg "NO_MOVE" = some (.ref aM)) (D : Def K mg "slips" s_slips ["F", "motion"]) (MB : MtdOk P w K mg base (CXr P w) 1 C "pins" ["self"] (spPins K C)) (MW : MtdOk P w K mg base (CXr P w) 2 C "ways" ["self", "pin"] (spWays K C))
    (G_pair_product : Fn P w K mg base (CXr P w) 35 "pair_product" ["one", "other"] (spDot K)) :
    Fn P w K mg base (CXr P w) 37 "slips" ["F", "motion"] (spSlips K C) := by
  refine D.ok sc_slips (fun vs H Q E h => ?_) (fun f cdv A outer s H vs Q E hr h => ?_)
  · obtain ⟨a, d, pins, bars, kvs, M, rfl, _⟩ := h
    rfl
  obtain ⟨a, d, pins, bars, kvs, M, rfl, R, g, hd, hP, zM, q⟩ := h
  have px := passM (X := (cxOf (CXr P w) P w K mg base ["F", "motion", "slipped", "pin", "move"] "slips" (defScope s_slips) f cdv A outer s H E)) (CXr.mute (P := P) (w := w))
  refine ⟨_, (pss_cons (ps_set (i := 2) sc_slips.nd rfl (Or.inl rfl) pe_dnewK)
    (pss_cons (ps_for PassesOwn.never rfl (pi_list (pe_mtd0 (k := 1) (pv 0) (hr.mono (by decide)) px)) (pg_name (i := 3) sc_slips.nd rfl (Or.inl rfl)) (pss_cons (ps_set (i := 4) sc_slips.nd rfl (Or.inr rfl) (pe_dget2 (hu_of hr) (pv 1) (pv 3) (pe_glob (v := .ref aM) rfl m_NO_MOVE rfl) ⟨rfl, rfl, rfl, rfl⟩))
      (pss_one (ps_dput (hu_of hr) (pv 2) (pv 3) (pe_comp (tn := ["way"]) (fr := ["move"]) (caps := [4]) rfl ⟨rfl, by decide +kernel, rfl, by decide +kernel, by decide +kernel, rfl, ⟨(by first | exact Or.inl rfl | exact Or.inr rfl), trivial⟩, ⟨(by first | exact Or.inl rfl | exact Or.inr rfl), trivial⟩⟩ (pi_list (pe_mtd (k := 2) (pv 0) (hr.mono (by decide)) px (pac (pv 3) pa_nil))) (fun _ _ _ _ => (pg_name (i := 0) (show (["way", "move"] : List Str).Nodup from by decide +kernel) rfl (Or.inl rfl))) (fun _ _ _ _ => pf_nil) (fun _ _ _ _ => (pe_fn G_pair_product (hr.mono (by decide)) (passB (by first | assumption | exact CXr.mute) rfl) (pac (pv 0) (pac (pv 1) pa_nil))))) rfl))))
    (pss_one (ps_ret (pv 2))))), ?_⟩
  intro e ne
  have s1 := same_new ne (.dK [])
  have e1 : (upd H e (.dK [])) e = some (.dK []) := upd_same
  generalize upd H e (.dK []) = H1 at s1 e1 ⊢
  have R1 := R.same s1
  obtain ⟨dx, pP, pW, pB, kP, kW, kB, F1, W1⟩ := R1.ex
  refine ⟨_, rfl, a, C, dx, _, _, _, rfl, F1.obj, rfl, MB, a, dx, pP, pW, pB, _, _, kP, kW, kB, rfl, F1, fun l H2 s2 nl el => ?_⟩
  have nmb : ((pins.map fun p => (p.nm, ptQ p.sp)).map (·.1)) = pins.map (·.nm) := by rw [List.map_map]; rfl
  rw [nmb] at el
  refine ⟨l, rfl, ⟨_, SqL.of el⟩, for_list (K := K) (a := l) (xs := (pins.map (·.nm)).map V.str) (fun i σ H' => ∃ (o3 o4 : Option V) (kv' : List (Key × V)), σ = [some (.ref a), some (.ref d), some (.ref e), o3, o4] ∧ Same H H' ∧ H' l = some (.lst ((pins.map (·.nm)).map V.str)) ∧ H' e = some (.dK kv') ∧ kv'.map (·.1) = (pins.take i).map (fun b => (Sum.inr b.nm : Key)) ∧
    ∀ p ∈ pins.take i, ∃ m us, valV kv' (.inr p.nm) = some (.ref m) ∧ H m = none ∧ H' m = some (.lst us) ∧ Paired (NmR K H') us (slipsOf M p)) ⟨none, none, [], rfl, fun b o z => s2 _ _ (s1 _ _ z), el, s2 _ _ e1, rfl, fun b hb => by simp at hb⟩ (fun i σ H' _ h => by
      obtain ⟨_, _, _, _, _, h, _⟩ := h
      exact SqL.of h) ?_ ?_⟩
  · rintro i z σ H4 hi ⟨o3, o4, kv', rfl, s4, l4, e4, ks, tl⟩
    rw [List.getElem?_map, List.getElem?_map] at hi
    obtain ⟨x, hx, rfl⟩ := Option.map_eq_some_iff.mp hi
    obtain ⟨b, hb, rfl⟩ := Option.map_eq_some_iff.mp hx
    have il : i < pins.length := (List.getElem?_eq_some_iff.mp hb).1
    have mb : b ∈ pins := List.mem_of_getElem? hb
    have d4 := s4 _ _ hd
    have P4 := hP.same s4
    refine ⟨_, rfl, d, rfl, .inl ⟨_, .inl d4⟩, _, rfl, _, DGet.k (k := .inr b.nm) d4, ?_⟩
    have g1 : PtR K H4 ((valV kvs (.inr b.nm)).getD (.ref aM)) (mv M b.nm) := P4.dget (hM H4)
    generalize (valV kvs (.inr b.nm)).getD (.ref aM) = v1 at g1 ⊢
    have z1 := zM b.nm
    have zb := (g.sz b mb).2.2
    have R4 := R.same s4
    obtain ⟨dx, pP, pW, pB, kP, kW, kB, F4, W4⟩ := R4.ex
    have mp : b.nm ∈ (pins.map fun p => (p.nm, ptQ p.sp)).map (·.1) := by rw [nmb]; exact List.mem_map.mpr ⟨b, mb, rfl⟩
    refine ⟨_, rfl, a, C, dx, _, _, _, rfl, F4.obj, rfl, MW, _, rfl, a, dx, pP, pW, pB, _, _, kP, kW, kB, _, b.nm, b.ws, rfl, F4, W4, nw_of g.np, List.mem_map.mpr ⟨b, mb, rfl⟩, mp, fun m us H5 s5 n5 e5 p5 => ?_⟩
    refine ⟨m, rfl, ⟨_, SqL.of e5⟩, fun Dn nD => ?_⟩
    have lu : us.length = b.ws.length := Paired.length p5
    have lw := g.lw b mb
    refine comp_list (cap := [some v1]) (K := K) (a := m) (xs := us) (fun j v H' => ∃ w, b.ws[j]? = some w ∧ ∃ c, v = .ref c ∧ H' c = some (.tup [.int (qr (dotP w (mv M b.nm))).1, .int (qr (dotP w (mv M b.nm))).2])) nD (by rw [lu]; exact Nat.lt_of_le_of_lt (show b.ws.length ≤ 1000 by omega) (by decide)) (fun H6 s6 => SqL.of (s6 _ _ e5)) (fun j v H6 H7 ys ey k ⟨w, hw, c, ev, hc⟩ => ⟨w, hw, c, ev, k c _ (fun z => by rw [z, ey] at hc; cases hc) hc⟩) ?_ ?_
    · intro j x H6 R6 ex s6 k
      obtain ⟨w, ew, hw⟩ := paired_get p5 ex
      have zw := zb w (List.mem_of_getElem? ew)
      refine ⟨_, rfl, _, rfl, x, v1, w, mv M b.nm, rfl, hw.same s6, (g1.same s5).same s6, zw.1.up (by decide), zw.2.up (by decide), z1.1.up (by decide), z1.2.up (by decide), fun c7 H7 s7 h7 => ?_⟩
      exact k _ H7 s7 ⟨w, ew, c7, rfl, h7⟩
    · intro ys H6 ly hy s6 hD
      have e6 := s6 _ _ (s5 _ _ e4)
      have lk : kv'.length ≤ 6 := by
        have z := congrArg List.length ks
        rw [List.length_map, List.length_map, List.length_take] at z
        have := g.lp
        omega
      have s46 : Same H4 H6 := fun b o z => s6 _ _ (s5 _ _ z)
      have fresh : (Sum.inr b.nm : Key) ∉ kv'.map (·.1) := by
        rw [ks]
        intro z
        obtain ⟨b', hb', eb'⟩ := List.mem_map.mp z
        exact take_new (nm := PinD.nm) g.np hb hb' (Sum.inr.inj eb')
      have pk : putK kv' (.inr b.nm) (.ref Dn) = kv' ++ [(.inr b.nm, .ref Dn)] := putK_new _ (valV_none fresh)
      refine ⟨_, rfl, _, rfl, e, _, rfl, DPut.k (k := .inr b.nm) e6 (Nat.lt_of_le_of_lt (show kv'.length ≤ 1000 by omega) (by decide)), ?_⟩
      have t6 : SameT H6 (upd H6 e (.dK (putK kv' (.inr b.nm) (.ref Dn)))) := .dict e6
      have tk := take_snoc hb
      have De : Dn ≠ e := fun z => by rw [z, e6] at hD; cases hD
      refine ⟨_, _, _, rfl, fun c o z => ?_, ?_, upd_same, ?_, fun p' hp' => ?_⟩
      · rw [upd_ne (ne_of_none z ne)]
        exact s46 _ _ (s4 _ _ z)
      · rw [upd_ne (fun z => by rw [z, e4] at l4; cases l4)]
        exact s46 _ _ l4
      · rw [pk, List.map_append, ks, tk, List.map_append]
        rfl
      · rw [valV_put]
        by_cases c : p'.nm = b.nm
        · have eb : p' = b := nm_inj (nm := PinD.nm) g.np (List.mem_of_mem_take hp') mb c
          subst eb
          rw [if_pos rfl]
          refine ⟨Dn, ys, rfl, none_back (sm_tr s4 s5) nD, by rw [upd_ne De]; exact hD, ?_⟩
          refine paired_of (by unfold slipsOf; rw [List.length_map, ly, lu]) fun j v r ev er => ?_
          obtain ⟨w, ew, c, e8, h8⟩ := hy j v ev
          unfold slipsOf at er
          rw [List.getElem?_map, ew] at er
          cases er
          exact NmR.sameT ⟨c, e8, SqT.of h8⟩ t6
        · rw [if_neg (fun z => c (Sum.inr.inj z))]
          rw [tk, List.mem_append] at hp'
          rcases hp' with hp' | hp'
          · obtain ⟨m', us', h1, hm0, h2, h3⟩ := tl p' hp'
            refine ⟨m', us', h1, hm0, ?_, Paired.mapP h3 fun _ _ z => (z.same s46).sameT t6⟩
            rw [upd_ne (fun z => by rw [z, e4] at h2; cases h2)]
            exact s46 _ _ h2
          · rw [List.mem_singleton] at hp'
            exact absurd (by rw [hp']) c
  · rintro σ H4 ⟨o3, o4, kv', rfl, s4, l4, e4, ks, tl⟩
    rw [List.length_map, List.length_map, List.take_length] at ks tl
    exact ⟨_, rfl, q e kv' H4 s4 ne e4 ks tl⟩
def givesN (K : PySem.W.Frag) (H : Hp) (Q : VK) (r : Rat) : Prop := ∀ (v : V) (H' : Hp), Same H H' → NmR K H' v r → Q v H'
def wkS (L M : Str → Option (Rat × Rat)) (xs : List Str) : Rat := xs.foldl (fun acc x => acc + dotP (mv L x) (mv M x)) 0
theorem wkS_snoc {L M : Str → Option (Rat × Rat)} {xs : List Str} {x : Str} : wkS L M (xs ++ [x]) = wkS L M xs + dotP (mv L x) (mv M x) := by
  unfold wkS
  rw [List.foldl_append]
  rfl
def spWork (K : PySem.W.Frag) : Sp := fun vs H Q _ => ∃ (d e : Addr) (kvs kus : List (Key × V)) (xs : List Str) (L M : Str → Option (Rat × Rat)), vs = [.ref d, .ref e] ∧ d ≠ e ∧ H d = some (.dK kvs) ∧ kvs.map (·.1) = xs.map (fun x => (Sum.inr x : Key)) ∧ xs.Nodup ∧ xs.length ≤ 6 ∧ PtD K H kvs L ∧ H e = some (.dK kus) ∧ PtD K H kus M ∧ mvSz M ∧ (∀ x, Sz 4000 (mv L x).1 ∧ Sz 4000 (mv L x).2) ∧ givesN K H Q (wkS L M xs)
theorem wk_sz {L M : Str → Option (Rat × Rat)} (zM : mvSz M) (zL : ∀ x, Sz 4000 (mv L x).1 ∧ Sz 4000 (mv L x).2) : ∀ (n : Nat) (xs : List Str), xs.length = n → Sz (8202 * n + 1) (wkS L M xs) := by
  intro n
  induction n with
  | zero =>
    intro xs e
    obtain rfl := List.length_eq_zero_iff.mp e
    exact sz_zero (by omega)
  | succ n ih =>
    intro xs e
    have ne : xs ≠ [] := by intro z; subst z; cases e
    have e1 : xs = xs.dropLast ++ [xs.getLast ne] := (List.dropLast_concat_getLast ne).symm
    rw [e1, wkS_snoc]
    have a := ih xs.dropLast (by rw [List.length_dropLast]; omega)
    have b1 := zL (xs.getLast ne)
    have b2 := zM (xs.getLast ne)
    exact (a.add ((b1.1.mul b2.1).add (b1.2.mul b2.2))).up (by omega)
theorem sc_work_of : FnScope ["load", "motion", "work", "pin", "force"] ["load", "motion"] (defScope s_work_of) := ⟨rfl, rfl, rfl, by decide +kernel, rfl, by decide +kernel, by decide +kernel⟩
theorem ok_work_of {aN aM : Addr} (hN : ∀ H : Hp, NmR K H (.ref aN) 0) (m_NOUGHT : mg "NOUGHT" = some (.ref aN)) (hM : ∀ H : Hp, PtR K H (.ref aM) (0, 0)) (m_NO_MOVE : mg "NO_MOVE" = some (.ref aM)) (D : Def K mg "work_of" s_work_of ["load", "motion"])
    (G_sum_of : Fn P w K mg base (CXr P w) 34 "sum_of" ["one", "other"] (spBinR K fun a b => a + b)) (G_pair_product : Fn P w K mg base (CXr P w) 35 "pair_product" ["one", "other"] (spDot K)) : Fn P w K mg base (CXr P w) 36 "work_of" ["load", "motion"] (spWork K) := by
  refine D.ok sc_work_of (fun vs H Q E h => ?_) (fun f cdv A outer s H vs Q E hr h => ?_)
  · obtain ⟨d, e, kvs, kus, xs, L, M, rfl, _⟩ := h
    rfl
  obtain ⟨d, e, kvs, kus, xs, L, M, rfl, de, hd, ks, nd, lx, hL, he, hMo, zM, zL, q⟩ := h
  have px := passM (X := (cxOf (CXr P w) P w K mg base ["load", "motion", "work", "pin", "force"] "work_of" (defScope s_work_of) f cdv A outer s H E)) (CXr.mute (P := P) (w := w))
  refine ⟨_, (pss_cons (ps_set (i := 2) sc_work_of.nd rfl (Or.inl rfl) (pe_glob (v := .ref aN) rfl m_NOUGHT rfl))
    (pss_cons (ps_thaw (ps_for PassesOwn.never rfl (pi_items (pv 0)) (pg_tup rfl (pgs_cons (pg_name (i := 3) sc_work_of.nd rfl (Or.inl rfl)) (pgs_cons (pg_name (i := 4) sc_work_of.nd rfl (Or.inl rfl)) pgs_nil))) (pss_one (ps_set (i := 2) sc_work_of.nd rfl (Or.inl rfl) (pe_fn G_sum_of (hr.mono (by decide)) px (pac (pv 2) (pac (pe_fn G_pair_product (hr.mono (by decide)) px (pac (pv 4) (pac (pe_dget2 (hu_of hr) (pv 1) (pv 3) (pe_glob (v := .ref aM) rfl m_NO_MOVE rfl) ⟨rfl, rfl, rfl, rfl⟩) pa_nil))) pa_nil)))))))
    (pss_one (ps_ret (pv 2))))), ?_⟩
  refine ⟨_, rfl, d, kvs, rfl, hd, fun o => ?_⟩
  have lk : kvs.length = xs.length := by
    have z := congrArg List.length ks
    rw [List.length_map, List.length_map] at z
    exact z
  have k0 : KSame d H (upd H d (.frz o (.dK kvs))) := fun b o' n z => by rw [upd_ne n]; exact z
  refine for_items (d := d) (o := o) (kvs := kvs) (fun t σ H' => ∃ (v : V) (o2 o3 : Option V), σ = [some (.ref d), some (.ref e), some v, o2, o3] ∧ KSame d H H' ∧ H' d = some (.frz o (.dK kvs)) ∧ NmR K H' v (wkS L M (xs.take t))) ⟨.ref aN, none, none, rfl, k0, upd_same, hN _⟩ (fun t σ H' _ h => by
      obtain ⟨_, _, _, _, _, h, _⟩ := h
      exact h) ?_ ?_
  · rintro t k y σ H6 p7 ekv ⟨v, o2, o3, rfl, k6, hd6, n6⟩ n7
    have lt : t < kvs.length := (List.getElem?_eq_some_iff.mp ekv).1
    have ek : (kvs.map (·.1))[t]? = some k := by rw [List.getElem?_map, ekv]; rfl
    rw [ks, List.getElem?_map] at ek
    obtain ⟨x, ex, rfl⟩ := Option.map_eq_some_iff.mp ek
    have t6 : SameT H H6 := fun b zs r => by
      rcases r with r | ⟨o', r⟩
      · exact .inl (k6 _ _ (fun e => by rw [e, hd] at r; cases r) r)
      · exact .inr ⟨o', k6 _ _ (fun e => by rw [e, hd] at r; cases r) r⟩
    have s7 := same_new n7 (.tup [kV (.inr x), y])
    have t7 : SameT H (upd H6 p7 (.tup [kV (.inr x), y])) := t6.trans (.of s7)
    have nk : (kvs.map (·.1)).Nodup := by
      rw [ks]
      exact nodup_inr nd
    have vy : valV kvs (.inr x) = some y := valV_at' nk ekv
    have hy : PtR K (upd H6 p7 (.tup [kV (.inr x), y])) y (mv L x) := by
      rcases hL x with ⟨h1, _⟩ | ⟨v', p', h1, h2, h3⟩
      · rw [vy] at h1
        cases h1
      · rw [vy] at h1
        cases h1
        unfold mv
        rw [h2]
        exact h3.sameT t7
    have he7 := s7 _ _ (k6 _ _ (Ne.symm de) he)
    have M7 : PtD K (upd H6 p7 (.tup [kV (.inr x), y])) kus M := fun nm => by
      rcases hMo nm with h | ⟨v', p', h1, h2, h3⟩
      · exact .inl h
      · exact .inr ⟨v', p', h1, h2, h3.sameT t7⟩
    have g1 : PtR K (upd H6 p7 (.tup [kV (.inr x), y])) ((valV kus (.inr x)).getD (.ref aM)) (mv M x) := M7.dget (hM _)
    refine ⟨p7, _, rfl, SqT.of upd_same, rfl, _, _, rfl, _, _, rfl, rfl, ?_⟩
    refine ⟨_, rfl, _, rfl, _, rfl, e, rfl, .inl ⟨_, .inl he7⟩, _, rfl, _, DGet.k (k := .inr x) he7, ?_⟩
    generalize (valV kus (.inr x)).getD (.ref aM) = v1 at g1 ⊢
    have b1 := zL x
    have b2 := zM x
    refine ⟨y, v1, _, _, rfl, hy, g1, b1.1.up (by decide), b1.2.up (by decide), b2.1.up (by decide), b2.2.up (by decide), fun c8 H8 s8 h8 => ?_⟩
    have zw := wk_sz zM zL t (xs.take t) (by rw [List.length_take]; omega)
    refine ⟨v, .ref c8, _, _, rfl, (n6.same s7).same s8, ⟨c8, rfl, SqT.of h8⟩, zw.up (by omega), ((b1.1.mul b2.1).add (b1.2.mul b2.2)).up (by decide), fun c9 H9 s9 h9 => ?_⟩
    refine ⟨.ref c9, _, _, rfl, fun b o' n z => s9 _ _ (s8 _ _ (s7 _ _ (k6 b o' n z))), s9 _ _ (s8 _ _ (s7 _ _ hd6)), ?_⟩
    rw [take_snoc ex, wkS_snoc]
    exact ⟨c9, rfl, SqT.of h9⟩
  · rintro σ H6 ⟨v, o2, o3, rfl, k6, hd6, n6⟩
    rw [lk, List.take_length] at n6
    refine ⟨d, o, kvs, hd6, fun o' u' z => (by have z' : H d = some (.frz o' u') := z; rw [hd] at z'; cases z'), ?_⟩
    refine ⟨_, rfl, q v _ (fun b o' z => ?_) ?_⟩
    · by_cases n : b = d
      · subst n
        rw [hd] at z
        rw [upd_same]
        exact z
      · rw [upd_ne n]
        exact k6 b o' n z
    · refine n6.sameT fun b zs r => ?_
      rcases r with r | ⟨o', r⟩
      · exact .inl (by rw [upd_ne (fun e => by rw [e, hd6] at r; cases r)]; exact r)
      · exact .inr ⟨o', by rw [upd_ne (fun e => by rw [e, hd6] at r; cases r)]; exact r⟩
theorem fmod_in {x m : Int} (h : 0 < m) : 0 ≤ x.fmod m ∧ x.fmod m < m := ⟨Int.fmod_nonneg_of_pos x h, Int.fmod_lt_of_pos x h⟩
def spCell (K : PySem.W.Frag) : Sp := fun vs H Q _ => ∃ (a : Addr) (ns : List Int) (k : Int), vs = [.ref a, .int k] ∧ SqL K H a (ns.map V.int) ∧ (∀ i ∈ ns, intBits i ≤ 1048576) ∧ 0 ≤ k ∧ k ≤ 100 ∧ ∀ v, intBits v ≤ 1048576 → Q (.int v) H
theorem sc_law_cell_at : FnScope ["_law_script", "_law_k"] ["_law_script", "_law_k"] (defScope s_law_cell_at) := ⟨rfl, rfl, rfl, by decide +kernel, rfl, by decide +kernel, by decide +kernel⟩
theorem ok_law_cell_at (D : Def K mg "_law_cell_at" s_law_cell_at ["_law_script", "_law_k"]) (m_len : mg "len" = none) : Fn P w K mg base CX 1 "_law_cell_at" ["_law_script", "_law_k"] (spCell K) := by
  refine D.ok sc_law_cell_at (fun vs H Q E h => ?_) (fun f cdv A outer s H vs Q E hr h => ?_)
  · obtain ⟨a, ns, k, rfl, _⟩ := h
    rfl
  obtain ⟨a, ns, k, rfl, hS, hb, h0, h1, q⟩ := h
  refine ⟨_, (pss_cons (ps_if (pt_cmpR op_lt (pv 1) (pe_callB call_len_seq rfl m_len b_len (pac (pv 0) pa_nil)) (nomark _)) (pss_one (ps_ret (pe_ix ix_list (pv 0) (pv 1) (fun _ _ => rfl)))) pss_nil)
    (pss_one (ps_ret (pe_op op_modB (pe_op op_mulB (pe_op op_modB (pe_op op_mulB (pe_op op_add (pv 1) pe_int) (pe_op op_pow pe_int pe_int)) pe_int) (pe_op op_add (pv 1) pe_int)) pe_int)))), ?_⟩
  have hl : (ns.map V.int).length = ns.length := List.length_map _
  refine ⟨_, rfl, _, rfl, a, _, rfl, .inl hS, _, _, rfl, rfl, _, rfl, ?_⟩
  refine ite2 (fun c => ?_) (fun c => ?_)
  · have c' : k < (((ns.map V.int).length : Nat) : Int) := of_decide_eq_true c
    rw [hl] at c'
    have hk : k.toNat < ns.length := by omega
    have ek : k = ((k.toNat : Nat) : Int) := by omega
    have e : atI (ns.map V.int) k = some (.int ns[k.toNat]) := by
      have z : atI (ns.map V.int) ((k.toNat : Nat) : Int) = some (.int ns[k.toNat]) := atI_nat (by rw [List.getElem?_map, List.getElem?_eq_getElem hk]; rfl)
      rw [← ek] at z
      exact z
    exact ⟨_, rfl, _, rfl, a, _, k, _, rfl, rfl, hS, e, q _ (hb _ (List.getElem_mem hk))⟩
  · have b1 : intBits (k + 7) ≤ 64 := intBits_le_64 (by omega) (by omega)
    have b2 : intBits (k + 3) ≤ 64 := intBits_le_64 (by omega) (by omega)
    have e1 := fmod_in (x := (k + 7) * 48271 ^ (2 : Int).toNat) (m := 2147483647) (by decide)
    have b3 : intBits (((k + 7) * 48271 ^ (2 : Int).toNat).fmod 2147483647) ≤ 64 := intBits_le_64 (by omega) (by omega)
    have e2 := fmod_in (x := ((k + 7) * 48271 ^ (2 : Int).toNat).fmod 2147483647 * (k + 3)) (m := 2147483587) (by decide)
    have b4 : intBits ((((k + 7) * 48271 ^ (2 : Int).toNat).fmod 2147483647 * (k + 3)).fmod 2147483587) ≤ 64 := intBits_le_64 (by omega) (by omega)
    have c : ∀ {i j : Int}, intBits i ≤ 64 → intBits j ≤ 64 → CMulB i j := fun a b => ⟨Nat.le_trans a (by decide), Nat.le_trans b (by decide)⟩
    refine ⟨_, rfl, _, _, rfl, rfl, _, _, rfl, rfl, ⟨by decide, by decide, by decide⟩, _, _, rfl, rfl, c b1 (by decide +kernel), _, _, rfl, rfl, nz (by decide), ?_⟩
    exact ⟨_, rfl, _, _, rfl, rfl, _, _, rfl, rfl, c b3 b2, _, _, rfl, rfl, nz (by decide), q _ (Nat.le_trans b4 (by decide))⟩
theorem fdiv_natAbs {a : Int} {m : Int} (h : 1 ≤ m) : (a.fdiv m).natAbs ≤ a.natAbs := by
  rw [Int.fdiv_eq_ediv_of_nonneg _ (by omega)]
  have h1 := Int.mul_ediv_add_emod a m
  have h2 := Int.emod_nonneg a (show m ≠ 0 by omega)
  have h3 := Int.emod_lt_of_pos a (show 0 < m by omega)
  by_cases c : 0 ≤ a
  · have := Int.ediv_nonneg c (show 0 ≤ m by omega)
    have h4 := Int.ediv_le_self m c
    omega
  · have h5 : a / m < 0 := Int.ediv_neg_of_neg_of_pos (by omega) (by omega)
    have h6 : a ≤ a / m := Int.le_ediv_of_mul_le (by omega) (by
      have := Int.mul_le_mul_of_nonpos_left (a := a) (b := m) (c := 1) (by omega) h
      omega)
    omega
theorem bits_fdiv {a m : Int} {k : Nat} (h : 1 ≤ m) (b : intBits a ≤ k) : intBits (a.fdiv m) ≤ k := intBits_le_of_natAbs (fdiv_natAbs h) b
def spPart : Sp := fun vs H Q _ => ∃ c k : Int, vs = [.int c, .int k] ∧ intBits c ≤ 2000000 ∧ 0 ≤ k ∧ k < 9 ∧ ∀ (r : Int) (H' : Hp), 0 ≤ r → r < 1000000000000000000 → Same H H' → Q (.int r) H'
theorem sc_law_part : FnScope ["_law_cell", "_law_k", "_law_mixed", "_law_j"] ["_law_cell", "_law_k"] (defScope s_law_part) := ⟨rfl, rfl, rfl, by decide +kernel, rfl, by decide +kernel, by decide +kernel⟩
theorem ok_law_part (D : Def K mg "_law_part" s_law_part ["_law_cell", "_law_k"]) (m_range : mg "range" = none) : Fn P w K mg base CX 1 "_law_part" ["_law_cell", "_law_k"] spPart := by
  refine D.ok sc_law_part (fun vs H Q E h => ?_) (fun f cdv A outer s H vs Q E hr h => ?_)
  · obtain ⟨c, k, rfl, _⟩ := h
    rfl
  obtain ⟨c, k, rfl, bc, k0, k9, q⟩ := h
  obtain ⟨kn, rfl⟩ : ∃ n : Nat, k = (n : Int) := ⟨k.toNat, by omega⟩
  have e18 : (10 : Int) ^ (18 : Int).toNat = 1000000000000000000 := by decide +kernel
  have p18 : CPow 10 18 := ⟨by decide, by decide, by decide⟩
  have d18 : ∀ i, CDivB i ((10 : Int) ^ (18 : Int).toNat) := fun i => ⟨by rw [e18]; decide, by rw [e18]; decide +kernel⟩
  have tail : ∃ tt, PSs (cxOf (CXr P w) P w K mg base ["_law_cell", "_law_k", "_law_mixed", "_law_j"] "_law_part" (defScope s_law_part) f cdv A outer s H E).nox ((defBody s_law_part).drop 1) tt ∧ tt { nx := fun _ H' => Q .non H', rt := Q } [some (.int c), some (.int (kn : Int)), none, none] H := by
    refine ⟨_, (pss_cons (ps_for PassesOwn.never rfl (pi_range1 rfl m_range (pac (pv 1) pa_nil)) (pg_name (i := 3) sc_law_part.nd rfl (Or.inl rfl)) (pss_one (ps_set (i := 0) sc_law_part.nd rfl (Or.inl rfl) (pe_op op_fdivB (pv 0) (pe_op op_pow pe_int pe_int))))) (pss_one (ps_ret (pe_op op_modB (pv 0) (pe_op op_pow pe_int pe_int))))), ?_⟩
    refine ⟨_, rfl, (kn : Int), rfl, by omega, by omega, for_range (lo := 0) (n := kn) (fun i σ H' => ∃ (c' : Int) (o : Option V), σ = [some (.int c'), some (.int (kn : Int)), none, o] ∧ H' = H ∧ intBits c' ≤ 2000000) ⟨c, none, rfl, rfl, bc⟩ ?_ ?_⟩
    · rintro i σ H' hi ⟨c', o, rfl, rfl, b'⟩
      exact ⟨_, rfl, _, _, rfl, rfl, p18, _, _, rfl, rfl, d18 _, _, _, rfl, rfl, bits_fdiv (by rw [e18]; decide) b'⟩
    · rintro σ H' ⟨c', o, rfl, rfl, b'⟩
      have m := fmod_in (x := c') (m := 1000000000000000000) (by decide)
      refine ⟨_, rfl, _, _, rfl, rfl, p18, _, _, rfl, rfl, by rw [e18]; exact nz (by decide), ?_⟩
      rw [e18]
      exact q _ _ m.1 m.2 (Same.refl _)
  obtain ⟨tt, pt, ht⟩ := tail
  refine ⟨_, (pss_cons (ps_if (pt_chain op_le op_lt pe_int (pv 0) (pe_op op_pow pe_int pe_int)) (pss_cons (ps_set (i := 2) sc_law_part.nd rfl (Or.inl rfl) (pe_op op_modB (pe_op op_mulB (pe_op op_add (pv 0) pe_int) (pe_ix ix_list (pe_lst (pac pe_int (pac pe_int (pac pe_int (pac pe_int (pac pe_int (pac pe_int (pac pe_int (pac pe_int (pac pe_int pa_nil)))))))))) (pv 1) (fun _ _ => rfl))) pe_int))
      (pss_one (ps_ret (pe_op op_modB (pe_op op_mulB (pv 2) (pe_op op_add (pe_op op_add (pe_op op_fdivB (pv 2) pe_int) (pv 1)) pe_int)) pe_int)))) pss_nil) pt), ?_⟩
  refine ⟨_, rfl, _, _, rfl, rfl, _, rfl, ?_⟩
  refine ite2 (fun c1 => ?_) (fun c1 => ?_)
  · refine ⟨_, _, rfl, rfl, p18, _, _, rfl, rfl, _, rfl, ?_⟩
    refine ite2 (fun c2 => ?_) (fun c2 => ht)
    have h1 : 0 ≤ c := of_decide_eq_true c1
    have h2 : c < 10 ^ (18 : Int).toNat := of_decide_eq_true c2
    rw [e18] at h2
    have ix : ∃ m : Int, atI [V.int 40692, .int 48271, .int 104729, .int 1299709, .int 15485863, .int 611953, .int 7919, .int 69621, .int 32452843] (kn : Int) = some (.int m) ∧ 0 ≤ m ∧ m < 100000000 := by
      have : kn < 9 := by omega
      match kn, this with
      | 0, _ => exact ⟨_, rfl, by decide, by decide⟩
      | 1, _ => exact ⟨_, rfl, by decide, by decide⟩
      | 2, _ => exact ⟨_, rfl, by decide, by decide⟩
      | 3, _ => exact ⟨_, rfl, by decide, by decide⟩
      | 4, _ => exact ⟨_, rfl, by decide, by decide⟩
      | 5, _ => exact ⟨_, rfl, by decide, by decide⟩
      | 6, _ => exact ⟨_, rfl, by decide, by decide⟩
      | 7, _ => exact ⟨_, rfl, by decide, by decide⟩
      | 8, _ => exact ⟨_, rfl, by decide, by decide⟩
    obtain ⟨m, em, m0, m1⟩ := ix
    have cm : ∀ {i j : Int}, intBits i ≤ 64 → intBits j ≤ 64 → CMulB i j := fun a b => ⟨Nat.le_trans a (by decide), Nat.le_trans b (by decide)⟩
    refine ⟨_, rfl, _, _, rfl, rfl, (by show 9 ≤ sizeLine; decide), fun p np => ?_⟩
    have s1 := same_new np (.lst [V.int 40692, .int 48271, .int 104729, .int 1299709, .int 15485863, .int 611953, .int 7919, .int 69621, .int 32452843])
    refine ⟨_, rfl, p, _, _, _, rfl, rfl, SqL.of upd_same, em, _, _, rfl, rfl, cm (intBits_le_64 (by omega) (by omega)) (intBits_le_64 (by omega) (by omega)), _, _, rfl, rfl, nz (by decide), ?_⟩
    have e1 := fmod_in (x := (c + 7919) * m) (m := 2147483647) (by decide)
    have e2 : (((c + 7919) * m).fmod 2147483647).fdiv 7 = (((c + 7919) * m).fmod 2147483647) / 7 := Int.fdiv_eq_ediv_of_nonneg _ (by decide)
    refine ⟨_, rfl, _, rfl, _, _, rfl, rfl, ⟨by decide, by decide +kernel⟩, _, rfl, _, _, rfl, rfl, _, _, rfl, rfl, _, _, rfl, rfl, cm (intBits_le_64 (by omega) (by omega)) (intBits_le_64 (by omega) (by omega)), _, _, rfl, rfl, nz (by decide), ?_⟩
    have e3 := fmod_in (x := ((c + 7919) * m).fmod 2147483647 * ((((c + 7919) * m).fmod 2147483647).fdiv 7 + (kn : Int) + 1)) (m := 2147483587) (by decide)
    exact q _ _ e3.1 (by omega) s1
  · exact ⟨_, rfl, ht⟩
def spLaw_lowestU : Sp := fun vs H Q _ => ∃ t b : Int, vs = [.int t, .int b] ∧ 0 < b ∧ gives H Q (low t b)
theorem sc_law_lowest : FnScope ["_law_top", "_law_bottom", "_law_one", "_law_other"] ["_law_top", "_law_bottom"] (defScope s_law_lowest) := ⟨rfl, rfl, rfl, by decide +kernel, rfl, by decide +kernel, by decide +kernel⟩
theorem ok_law_lowest (ht : P.given.tree = none) (D : Def K mg "_law_lowest" s_law_lowest ["_law_top", "_law_bottom"]) (m_abs : mg "abs" = none) : Fn P w K mg base (CXr P w) 33 "_law_lowest" ["_law_top", "_law_bottom"] spLaw_lowestU := by
  refine D.ok sc_law_lowest (fun vs H Q E h => ?_) (fun f cdv A outer s H vs Q E hr h => ?_)
  · obtain ⟨t, b, rfl, _⟩ := h
    rfl
  obtain ⟨t, b, rfl, hb, q⟩ := h
  refine ⟨_, (pss_cons (ps_set (i := 2) sc_law_lowest.nd rfl (Or.inl rfl) (pe_callB call_abs rfl m_abs b_abs (pac (pv 0) pa_nil)))
    (pss_cons (ps_set (i := 3) sc_law_lowest.nd rfl (Or.inl rfl) (pv 1))
    (pss_cons (ps_while PassesOwn.never (pt_cmpR op_ne (pv 3) pe_int (nomark _)) (pss_one (ps_par (i := 2) (j := 3) rfl sc_law_lowest.nd rfl rfl (by decide) rfl rfl (pac (pv 3) (pac (pe_op op_modB (pv 2) (pv 3)) pa_nil)) rfl)))
    (pss_one (ps_ret (pe_tup (pac (pe_op (op_fdivU ht (Ty.Room.py hr (by decide)) rfl rfl rfl rfl rfl) (pv 0) (pv 2)) (pac (pe_op (op_fdivU ht (Ty.Room.py hr (by decide)) rfl rfl rfl rfl rfl) (pv 1) (pv 2)) pa_nil)))))))), ?_⟩
  refine ⟨_, rfl, t, rfl, ?_⟩
  refine ⟨_, rfl, ?_⟩
  refine while_by (fun σ H' => ∃ x y : Int, σ = [some (.int t), some (.int b), some (.int x), some (.int y)] ∧ H' = H ∧ 0 ≤ x ∧ 0 ≤ y ∧ Int.gcd x y = Int.gcd t b) (fun σ _ => match σ with | [_, _, _, some (.int y)] => y.natAbs | _ => 0) ⟨_, b, rfl, rfl, ?_, by omega, ?_⟩ ?_ ?_
  · split <;> omega
  · split
    · exact Int.neg_gcd
    · rfl
  · rintro σ H' ⟨x, y, rfl, rfl, hx, hy, g⟩
    refine ⟨_, rfl, rfl, _, rfl, ?_⟩
    refine ite2 (fun c => ?_) (fun c => ?_)
    · have hy0 : y ≠ 0 := by
        intro z
        subst z
        simp at c
      refine ⟨_, rfl, _, rfl, _, rfl, _, _, rfl, rfl, hy0, _, _, rfl, ?_⟩
      exact ⟨⟨_, _, rfl, rfl, hy, Int.fmod_nonneg_of_pos _ (by omega), by rw [gcd_step]; exact g⟩, fmod_less hy0⟩
    · have hy0 : y = 0 := by
        have := Bool.eq_false_iff.mpr c
        simp at this
        exact this
      subst hy0
      have e : x = sg t b := by
        rw [Int.gcd_zero_right] at g
        unfold sg
        rw [if_neg (by omega)]
        unfold gz
        rw [← g]
        omega
      subst e
      have hbn : b ≠ 0 := by omega
      have c := sg_ne (t := t) hbn
      refine ⟨_, rfl, _, rfl, _, _, rfl, rfl, c, _, rfl, _, rfl, _, _, rfl, rfl, c, (by show 2 ≤ sizeLine; decide), fun p hp => ?_⟩
      exact q p _ (same_new hp _) upd_same
  · rintro σ H' Q1 Q2 h ⟨v, e1, e2, k, ek, z⟩
    exact ⟨v, e1, e2, k, ek, h _ _ z⟩
theorem sc_law_plus : FnScope ["_law_x", "_law_y"] ["_law_x", "_law_y"] (defScope s_law_plus) := ⟨rfl, rfl, rfl, by decide +kernel, rfl, by decide +kernel, by decide +kernel⟩
theorem ok_law_plus (hM : Mute CX) (D : Def K mg "_law_plus" s_law_plus ["_law_x", "_law_y"]) (G_law_lowest : Fn P w K mg base CX 33 "_law_lowest" ["_law_top", "_law_bottom"] spLaw_lowestU) : Fn P w K mg base CX 34 "_law_plus" ["_law_x", "_law_y"] (spBinK K addQ) := by
  refine D.ok sc_law_plus (fun vs H Q E h => ?_) (fun f cdv A outer s H vs Q E hr h => ?_)
  · obtain ⟨u, v, x, y, rfl, _⟩ := h
    rfl
  obtain ⟨u, v, x, y, rfl, ⟨p1, rfl, h1⟩, ⟨p2, rfl, h2⟩, k1, k2, q⟩ := h
  have px := passM (X := cxOf CX P w K mg base ["_law_x", "_law_y"] "_law_plus" (defScope s_law_plus) f cdv A outer s H E) hM
  refine ⟨_, (pss_one (ps_ret (pe_fn G_law_lowest (hr.mono (by decide)) px (pac (pe_op op_add (pe_op op_mulB (pe_ix ix_tup (pv 0) pe_int (fun _ _ => rfl)) (pe_ix ix_tup (pv 1) pe_int (fun _ _ => rfl))) (pe_op op_mulB (pe_ix ix_tup (pv 1) pe_int (fun _ _ => rfl)) (pe_ix ix_tup (pv 0) pe_int (fun _ _ => rfl)))) (pac (pe_op op_mulB (pe_ix ix_tup (pv 0) pe_int (fun _ _ => rfl)) (pe_ix ix_tup (pv 1) pe_int (fun _ _ => rfl))) pa_nil))))), ?_⟩
  have b1 := k1.top
  have b2 := k1.bot
  have b3 := k2.top
  have b4 := k2.bot
  have c : ∀ {i j : Int}, intBits i ≤ 100000 → intBits j ≤ 100000 → CMulB i j := fun a b => ⟨Nat.le_trans a (by decide), Nat.le_trans b (by decide)⟩
  refine ⟨_, rfl, p1, _, _, _, rfl, rfl, h1, at0, _, rfl, p2, _, _, _, rfl, rfl, h2, at1, _, _, rfl, rfl, c b1 b4, ?_⟩
  refine ⟨_, rfl, p2, _, _, _, rfl, rfl, h2, at0, _, rfl, p1, _, _, _, rfl, rfl, h1, at1, _, _, rfl, rfl, c b3 b2, ?_⟩
  refine ⟨_, _, rfl, rfl, ?_⟩
  refine ⟨_, rfl, p1, _, _, _, rfl, rfl, h1, at1, _, rfl, p2, _, _, _, rfl, rfl, h2, at1, _, _, rfl, rfl, c b2 b4, ?_⟩
  exact ⟨_, _, rfl, Int.mul_pos k1.pos k2.pos, q⟩
theorem sc_law_times : FnScope ["_law_x", "_law_y"] ["_law_x", "_law_y"] (defScope s_law_times) := ⟨rfl, rfl, rfl, by decide +kernel, rfl, by decide +kernel, by decide +kernel⟩
theorem ok_law_times (hM : Mute CX) (D : Def K mg "_law_times" s_law_times ["_law_x", "_law_y"]) (G_law_lowest : Fn P w K mg base CX 33 "_law_lowest" ["_law_top", "_law_bottom"] spLaw_lowestU) : Fn P w K mg base CX 34 "_law_times" ["_law_x", "_law_y"] (spBinK K mulQ) := by
  refine D.ok sc_law_times (fun vs H Q E h => ?_) (fun f cdv A outer s H vs Q E hr h => ?_)
  · obtain ⟨u, v, x, y, rfl, _⟩ := h
    rfl
  obtain ⟨u, v, x, y, rfl, ⟨p1, rfl, h1⟩, ⟨p2, rfl, h2⟩, k1, k2, q⟩ := h
  have px := passM (X := cxOf CX P w K mg base ["_law_x", "_law_y"] "_law_times" (defScope s_law_times) f cdv A outer s H E) hM
  refine ⟨_, (pss_one (ps_ret (pe_fn G_law_lowest (hr.mono (by decide)) px (pac (pe_op op_mulB (pe_ix ix_tup (pv 0) pe_int (fun _ _ => rfl)) (pe_ix ix_tup (pv 1) pe_int (fun _ _ => rfl))) (pac (pe_op op_mulB (pe_ix ix_tup (pv 0) pe_int (fun _ _ => rfl)) (pe_ix ix_tup (pv 1) pe_int (fun _ _ => rfl))) pa_nil))))), ?_⟩
  have b1 := k1.top
  have b2 := k1.bot
  have b3 := k2.top
  have b4 := k2.bot
  have c : ∀ {i j : Int}, intBits i ≤ 100000 → intBits j ≤ 100000 → CMulB i j := fun a b => ⟨Nat.le_trans a (by decide), Nat.le_trans b (by decide)⟩
  refine ⟨_, rfl, p1, _, _, _, rfl, rfl, h1, at0, _, rfl, p2, _, _, _, rfl, rfl, h2, at0, _, _, rfl, rfl, c b1 b3, ?_⟩
  refine ⟨_, rfl, p1, _, _, _, rfl, rfl, h1, at1, _, rfl, p2, _, _, _, rfl, rfl, h2, at1, _, _, rfl, rfl, c b2 b4, ?_⟩
  exact ⟨_, _, rfl, Int.mul_pos k1.pos k2.pos, q⟩
def far (s : Int) : Rat := if s = 0 then 3 else 1000000000000
theorem ratB {t b : Int} {n : Int} (hb : 0 < b) (h1 : -n ≤ t) (h2 : t ≤ n) (hn : 0 ≤ n) : -(n : Rat) ≤ (t : Rat) / (b : Rat) ∧ (t : Rat) / (b : Rat) ≤ (n : Rat) := by
  have b0 : (0 : Rat) < (b : Rat) := by exact_mod_cast hb
  have b1 : (1 : Rat) ≤ (b : Rat) := by exact_mod_cast hb
  have n0 : (0 : Rat) ≤ (n : Rat) := by exact_mod_cast hn
  have e : (t : Rat) / (b : Rat) * (b : Rat) = (t : Rat) := Rat.div_mul_cancel (Rat.ne_of_gt b0)
  have t1 : -(n : Rat) ≤ (t : Rat) := by exact_mod_cast h1
  have t2 : (t : Rat) ≤ (n : Rat) := by exact_mod_cast h2
  generalize (t : Rat) / (b : Rat) = r at e ⊢
  have nb : (n : Rat) ≤ (n : Rat) * (b : Rat) := by
    have := Rat.mul_le_mul_of_nonneg_left (c := (n : Rat)) b1 n0
    grind
  refine ⟨?_, ?_⟩
  · refine Rat.le_of_mul_le_mul_right (c := (b : Rat)) ?_ b0
    rw [e]
    grind
  · refine Rat.le_of_mul_le_mul_right (c := (b : Rat)) ?_ b0
    rw [e]
    grind
def spDrawn : Sp := fun vs H Q _ => ∃ c s : Int, vs = [.int c, .int s] ∧ intBits c ≤ 2000000 ∧ 0 ≤ s ∧ s ≤ 997 ∧ ∀ r : Rat, Sz 50 r → -(far s) ≤ r ∧ r ≤ far s → gives H Q (qr r)
theorem sc_law_drawn : FnScope ["_law_cell", "_law_scale"] ["_law_cell", "_law_scale"] (defScope s_law_drawn) := ⟨rfl, rfl, rfl, by decide +kernel, rfl, by decide +kernel, by decide +kernel⟩
theorem ok_law_drawn (D : Def K mg "_law_drawn" s_law_drawn ["_law_cell", "_law_scale"]) (G_law_lowest : Fn P w K mg base (CXr P w) 33 "_law_lowest" ["_law_top", "_law_bottom"] spLaw_lowestU) : Fn P w K mg base (CXr P w) 34 "_law_drawn" ["_law_cell", "_law_scale"] spDrawn := by
  refine D.ok sc_law_drawn (fun vs H Q E h => ?_) (fun f cdv A outer s H vs Q E hr h => ?_)
  · obtain ⟨c, k, rfl, _⟩ := h
    rfl
  obtain ⟨c, k, rfl, bc, k0, k9, q⟩ := h
  have px := passM (X := (cxOf (CXr P w) P w K mg base ["_law_cell", "_law_scale"] "_law_drawn" (defScope s_law_drawn) f cdv A outer s H E)) (CXr.mute (P := P) (w := w))
  refine ⟨_, (pss_cons (ps_if (pt_cmpR op_eq (pv 1) pe_int (nomark _)) (pss_one (ps_ret (pe_fn G_law_lowest (hr.mono (by decide)) px (pac (pe_op op_sub (pe_op op_modB (pv 0) pe_int) pe_int) (pac (pe_op op_add pe_int (pe_op op_modB (pe_op op_fdivB (pv 0) pe_int) pe_int)) pa_nil))))) pss_nil)
    (pss_one (ps_ret (pe_fn G_law_lowest (hr.mono (by decide)) px (pac (pe_op op_sub (pe_op op_modB (pe_op op_mulB (pv 0) (pe_op op_pow pe_int pe_int)) (pe_op op_add (pe_op op_mulB pe_int (pe_op op_pow pe_int pe_int)) pe_int)) (pe_op op_pow pe_int pe_int)) (pac (pv 1) pa_nil)))))), ?_⟩
  have fin : ∀ t b : Int, 0 < b → b ≤ 1000 → t.natAbs ≤ 1000000000000 → (∀ r : Rat, r = (t : Rat) / (b : Rat) → -(far k) ≤ r ∧ r ≤ far k) → spLaw_lowestU [.int t, .int b] H Q E0 := fun t b h1 h2 h3 h4 => by
    refine ⟨t, b, rfl, h1, ?_⟩
    rw [low_qr (Int.ne_of_gt h1)]
    exact q _ (sz_low (Int.ne_of_gt h1) (intBits_le_iff.mpr (by show _ < 1125899906842624; omega)) (intBits_le_iff.mpr (by show _ < 1125899906842624; omega))) (h4 _ rfl)
  refine ⟨_, rfl, rfl, _, rfl, ?_⟩
  refine ite2 (fun z => ?_) (fun z => ?_)
  · have m := fmod_in (x := c) (m := 7) (by decide)
    have m2 := fmod_in (x := c.fdiv 7) (m := 2) (by decide)
    refine ⟨_, rfl, _, _, rfl, rfl, nz (by decide), _, _, rfl, rfl, _, rfl, _, _, rfl, rfl, ⟨by decide, by decide +kernel⟩, _, _, rfl, rfl, nz (by decide), _, _, rfl, rfl, fin _ _ (by omega) (by omega) (by omega) fun r er => ?_⟩
    have k0' : k = 0 := by simpa [eqV] using z
    unfold far
    rw [if_pos k0', er]
    exact ratB (n := 3) (by omega) (by omega) (by omega) (by decide)
  · have z' : ¬ k = 0 := by simpa [eqV] using z
    have e4 : (48271 : Int) ^ (4 : Int).toNat = 5429316803059692481 := by decide +kernel
    have e12 : (10 : Int) ^ (12 : Int).toNat = 1000000000000 := by decide +kernel
    refine ⟨_, rfl, _, _, rfl, rfl, ⟨by decide, by decide, by decide⟩, _, _, rfl, rfl, ⟨Nat.le_trans bc (by decide), by rw [e4]; decide +kernel⟩, ?_⟩
    refine ⟨_, _, rfl, rfl, ⟨by decide, by decide, by decide⟩, _, _, rfl, rfl, ⟨by decide +kernel, by rw [e12]; decide +kernel⟩, _, _, rfl, rfl, _, _, rfl, rfl, by rw [e12]; exact nz (by decide), ?_⟩
    refine ⟨_, _, rfl, rfl, ⟨by decide, by decide, by decide⟩, _, _, rfl, rfl, _, rfl, ?_⟩
    have m := fmod_in (x := c * 48271 ^ (4 : Int).toNat) (m := 2 * 10 ^ (12 : Int).toNat + 1) (by rw [e12]; decide)
    rw [e12] at m ⊢
    refine fin _ _ (by omega) (by omega) (by omega) fun r er => ?_
    unfold far
    rw [if_neg z', er]
    exact ratB (n := 1000000000000) (by omega) (by omega) (by omega) (by decide)
def WaysOk (ws : List (Rat × Rat)) : Prop := ws = [] ∨ (∃ x y : Rat, ws = [(x, y)] ∧ ¬ (x = 0 ∧ y = 0) ∧ Sz 50 x ∧ Sz 50 y) ∨ ws = [(1, 0), (0, 1)]
theorem nm_lit {K : PySem.W.Frag} {H : Hp} {p : Addr} (i : Int) (h : H p = some (.tup [.int i, .int 1])) : NmR K H (.ref p) (i : Rat) := ⟨p, rfl, by rw [qr_int]; exact SqT.of h⟩
theorem nm_of {K : PySem.W.Frag} {H : Hp} {p : Addr} {r : Rat} (h : H p = some (.tup [.int (qr r).1, .int (qr r).2])) : NmR K H (.ref p) r := ⟨p, rfl, SqT.of h⟩
theorem pt_of {K : PySem.W.Frag} {H : Hp} {p : Addr} {u v : V} {r s : Rat} (h : H p = some (.tup [u, v])) (h1 : NmR K H u r) (h2 : NmR K H v s) : PtR K H (.ref p) (r, s) := ⟨p, u, v, rfl, SqT.of h, h1, h2⟩
def spWaysL (K : PySem.W.Frag) : Sp := fun vs H Q _ => ∃ c : Int, vs = [.int c] ∧ ∀ (l : Addr) (us : List V) (ws : List (Rat × Rat)) (H' : Hp), WaysOk ws → Same H H' → H l = none → H' l = some (.lst us) → PtsR K H' us ws → Q (.ref l) H'
theorem sz_small {i : Int} (h : i.natAbs < 1000) : Sz 50 (i : Rat) := sz_int (by show _ < 1125899906842624; omega) (by decide)
theorem sc_law_ways : FnScope ["_law_cell"] ["_law_cell"] (defScope s_law_ways) := ⟨rfl, rfl, rfl, by decide +kernel, rfl, by decide +kernel, by decide +kernel⟩
theorem ok_law_ways (D : Def K mg "_law_ways" s_law_ways ["_law_cell"]) (G_law_lowest : Fn P w K mg base (CXr P w) 33 "_law_lowest" ["_law_top", "_law_bottom"] spLaw_lowestU) : Fn P w K mg base (CXr P w) 34 "_law_ways" ["_law_cell"] (spWaysL K) := by
  refine D.ok sc_law_ways (fun vs H Q E h => ?_) (fun f cdv A outer s H vs Q E hr h => ?_)
  · obtain ⟨c, rfl, _⟩ := h
    rfl
  obtain ⟨c, rfl, q⟩ := h
  have px := passM (X := (cxOf (CXr P w) P w K mg base ["_law_cell"] "_law_ways" (defScope s_law_ways) f cdv A outer s H E)) (CXr.mute (P := P) (w := w))
  have L2 : 2 ≤ sizeLine := by decide
  have L1 : 1 ≤ sizeLine := by decide
  have m1 := fmod_in (x := c.fdiv 5) (m := 7) (by decide)
  have m2 := fmod_in (x := c.fdiv 35) (m := 7) (by decide)
  have m3 := fmod_in (x := c) (m := 2) (by decide)
  have d5 : ∀ i, CDivB i 5 := fun i => ⟨by decide, by decide +kernel⟩
  have d35 : ∀ i, CDivB i 35 := fun i => ⟨by decide, by decide +kernel⟩
  have tail : ∃ tt, PSs (cxOf (CXr P w) P w K mg base ["_law_cell"] "_law_ways" (defScope s_law_ways) f cdv A outer s H E).nox ((defBody s_law_ways).drop 3) tt ∧ (¬ ((c.fdiv 5).fmod 7 = 3 ∧ (c.fdiv 35).fmod 7 = 3) → tt { nx := fun _ H' => Q .non H', rt := Q } [some (.int c)] H) := by
    refine ⟨_, (pss_one (ps_ret (pe_lst (pac (pe_tup (pac (pe_fn G_law_lowest (hr.mono (by decide)) px (pac (pe_op op_sub (pe_op op_modB (pe_op op_fdivB (pv 0) pe_int) pe_int) pe_int) (pac (pe_op op_add pe_int (pe_op op_modB (pv 0) pe_int)) pa_nil))) (pac (pe_tup (pac (pe_op op_sub (pe_op op_modB (pe_op op_fdivB (pv 0) pe_int) pe_int) pe_int) (pac pe_int pa_nil))) pa_nil))) pa_nil)))), fun hne => ?_⟩
    refine ⟨_, rfl, _, _, rfl, rfl, d5 _, _, _, rfl, rfl, nz (by decide), _, _, rfl, rfl, _, rfl, _, _, rfl, rfl, nz (by decide), _, _, rfl, rfl, ?_⟩
    refine ⟨_, _, rfl, by omega, fun p1 H1 s1 e1 => ?_⟩
    rw [low_qr (by omega)] at e1
    refine ⟨_, rfl, _, _, rfl, rfl, d35 _, _, _, rfl, rfl, nz (by decide), _, _, rfl, rfl, L2, ?_⟩
    intro p2 n2; generalize eX : upd _ p2 _ = H2; have s2 := eX ▸ same_new n2 _; have e2 : H2 p2 = some _ := eX ▸ upd_same; clear eX
    refine ⟨L2, ?_⟩
    intro p3 n3; generalize eX : upd _ p3 _ = H3; have s3 := eX ▸ same_new n3 _; have e3 : H3 p3 = some _ := eX ▸ upd_same; clear eX
    refine ⟨L1, ?_⟩
    intro p4 n4; generalize eX : upd _ p4 _ = H4; have s4 := eX ▸ same_new n4 _; have e4 : H4 p4 = some _ := eX ▸ upd_same; clear eX
    have f1 : PtR K H3 (.ref p3) ((((c.fdiv 5).fmod 7 - 3 : Int) : Rat) / ((1 + c.fmod 2 : Int) : Rat), (((c.fdiv 35).fmod 7 - 3 : Int) : Rat)) := pt_of e3 (((nm_of e1).same s2).same s3) ((nm_lit _ e2).same s3)
    have sh := sm_tr (sm_tr s1 s2) s3
    refine q p4 _ [_] _ (.inr (.inl ⟨_, _, rfl, ?_, ?_, ?_⟩)) (sm_tr sh s4) (none_back sh n4) e4 (.cons (f1.same s4) .nil)
    · rintro ⟨h1, h2⟩
      refine hne ⟨?_, ?_⟩
      · apply Classical.byContradiction
        intro z
        have y1 : (((c.fdiv 5).fmod 7 - 3 : Int) : Rat) ≠ 0 := ratne (by omega)
        have y2 : ((1 + c.fmod 2 : Int) : Rat) ≠ 0 := ratne (by omega)
        exact (by grind : ¬ (((c.fdiv 5).fmod 7 - 3 : Int) : Rat) / ((1 + c.fmod 2 : Int) : Rat) = 0) h1
      · apply Classical.byContradiction
        intro z
        exact ratne (show (c.fdiv 35).fmod 7 - 3 ≠ 0 by omega) h2
    · exact sz_low (by omega) (intBits_le_iff.mpr (by show _ < 1125899906842624; omega)) (intBits_le_iff.mpr (by show _ < 1125899906842624; omega))
    · exact sz_small (by omega)
  obtain ⟨tt, pt, ht⟩ := tail
  refine ⟨_, (pss_cons (ps_if (pt_cmpR op_lt (pe_op op_modB (pv 0) pe_int) pe_int (nomark _)) (pss_one (ps_ret (pe_lst pa_nil))) pss_nil) (pss_cons (ps_if (pt_cmpR op_eq (pe_op op_modB (pv 0) pe_int) pe_int (nomark _)) (pss_one (ps_ret (pe_lst (pac (pe_tup (pac (pe_tup (pac pe_int (pac pe_int pa_nil))) (pac (pe_tup (pac pe_int (pac pe_int pa_nil))) pa_nil))) (pac (pe_tup (pac (pe_tup (pac pe_int (pac pe_int pa_nil))) (pac (pe_tup (pac pe_int (pac pe_int pa_nil))) pa_nil))) pa_nil))))) pss_nil) (pss_cons (ps_if (PW.pt (pw_and (pt_cmpR op_eq (pe_op op_modB (pe_op op_fdivB (pv 0) pe_int) pe_int) pe_int (nomark _)) (pw_and1 (pt_cmpR op_eq (pe_op op_modB (pe_op op_fdivB (pv 0) pe_int) pe_int) pe_int (nomark _))))) (pss_one (ps_ret (pe_lst (pac (pe_tup (pac (pe_tup (pac pe_int (pac pe_int pa_nil))) (pac (pe_tup (pac (pe_op op_sub pe_int pe_int) (pac pe_int pa_nil))) pa_nil))) pa_nil)))) pss_nil) pt))), ?_⟩
  refine ⟨_, rfl, _, _, rfl, rfl, nz (by decide), _, _, rfl, rfl, _, rfl, ?_⟩
  refine ite2 (fun _ => ?_) (fun _ => ?_)
  · refine ⟨(by show 0 ≤ sizeLine; decide), fun p np => ?_⟩
    exact q p [] [] _ (.inl rfl) (same_new np _) np upd_same .nil
  refine ⟨_, rfl, _, _, rfl, rfl, nz (by decide), rfl, _, rfl, ?_⟩
  refine ite2 (fun _ => ?_) (fun _ => ?_)
  · refine ⟨L2, ?_⟩
    intro p1 n1; generalize eX : upd _ p1 _ = H1; have s1 := eX ▸ same_new n1 _; have e1 : H1 p1 = some _ := eX ▸ upd_same; clear eX
    refine ⟨L2, ?_⟩
    intro p2 n2; generalize eX : upd _ p2 _ = H2; have s2 := eX ▸ same_new n2 _; have e2 : H2 p2 = some _ := eX ▸ upd_same; clear eX
    refine ⟨L2, ?_⟩
    intro p3 n3; generalize eX : upd _ p3 _ = H3; have s3 := eX ▸ same_new n3 _; have e3 : H3 p3 = some _ := eX ▸ upd_same; clear eX
    refine ⟨L2, ?_⟩
    intro p4 n4; generalize eX : upd _ p4 _ = H4; have s4 := eX ▸ same_new n4 _; have e4 : H4 p4 = some _ := eX ▸ upd_same; clear eX
    refine ⟨L2, ?_⟩
    intro p5 n5; generalize eX : upd _ p5 _ = H5; have s5 := eX ▸ same_new n5 _; have e5 : H5 p5 = some _ := eX ▸ upd_same; clear eX
    refine ⟨L2, ?_⟩
    intro p6 n6; generalize eX : upd _ p6 _ = H6; have s6 := eX ▸ same_new n6 _; have e6 : H6 p6 = some _ := eX ▸ upd_same; clear eX
    refine ⟨L2, ?_⟩
    intro p7 n7; generalize eX : upd _ p7 _ = H7; have s7 := eX ▸ same_new n7 _; have e7 : H7 p7 = some _ := eX ▸ upd_same; clear eX
    have sh := sm_tr (sm_tr s1 s2) (sm_tr (sm_tr s3 s4) (sm_tr s5 s6))
    have f1 : PtR K H6 (.ref p3) (1, 0) := by
      have z : PtR K H3 (.ref p3) (1, 0) := pt_of e3 (((nm_lit 1 e1).same s2).same s3) ((nm_lit 0 e2).same s3)
      exact ((z.same s4).same s5).same s6
    have f2 : PtR K H6 (.ref p6) (0, 1) := pt_of e6 (((nm_lit 0 e4).same s5).same s6) ((nm_lit 1 e5).same s6)
    exact q p7 _ [(1, 0), (0, 1)] _ (.inr (.inr rfl)) (sm_tr sh s7) (none_back sh n7) e7 (.cons (f1.same s7) (.cons (f2.same s7) .nil))
  refine ⟨_, rfl, _, _, rfl, rfl, d5 _, _, _, rfl, rfl, nz (by decide), rfl, _, rfl, ?_⟩
  refine ite2 (fun c1 => ?_) (fun c1 => ?_)
  · refine ⟨_, rfl, _, _, rfl, rfl, d35 _, _, _, rfl, rfl, nz (by decide), rfl, _, rfl, ?_⟩
    refine ite2 (fun c2 => ?_) (fun c2 => ?_)
    · refine ⟨L2, ?_⟩
      intro p1 n1; generalize eX : upd _ p1 _ = H1; have s1 := eX ▸ same_new n1 _; have e1 : H1 p1 = some _ := eX ▸ upd_same; clear eX
      refine ⟨_, _, rfl, rfl, L2, ?_⟩
      intro p2 n2; generalize eX : upd _ p2 _ = H2; have s2 := eX ▸ same_new n2 _; have e2 : H2 p2 = some _ := eX ▸ upd_same; clear eX
      refine ⟨L2, ?_⟩
      intro p3 n3; generalize eX : upd _ p3 _ = H3; have s3 := eX ▸ same_new n3 _; have e3 : H3 p3 = some _ := eX ▸ upd_same; clear eX
      refine ⟨L1, ?_⟩
      intro p4 n4; generalize eX : upd _ p4 _ = H4; have s4 := eX ▸ same_new n4 _; have e4 : H4 p4 = some _ := eX ▸ upd_same; clear eX
      have sh := sm_tr (sm_tr s1 s2) s3
      have f1 : PtR K H3 (.ref p3) (0, ((0 - 1 : Int) : Rat)) := pt_of e3 (((nm_lit 0 e1).same s2).same s3) ((nm_lit (0 - 1) e2).same s3)
      refine q p4 _ [_] _ (.inr (.inl ⟨_, _, rfl, ?_, sz_zero (by decide), sz_small (by decide)⟩)) (sm_tr sh s4) (none_back sh n4) e4 (.cons (f1.same s4) .nil)
      rintro ⟨_, h2⟩
      exact ratne (show (0 - 1 : Int) ≠ 0 by decide) h2
    · exact ht fun z => c2 (decide_eq_true (congrArg V.int z.2))
  · exact ht fun z => c1 (decide_eq_true (congrArg V.int z.1))
theorem at36 (c : Int) : ∃ d : Nat, atI (Str.ofString "abcdefghijklmnopqrstuvwxyz0123456789").cps.toList (c.fmod 36) = some d := by
  have m := fmod_in (x := c) (m := 36) (by decide)
  obtain ⟨n, en⟩ : ∃ n : Nat, c.fmod 36 = (n : Int) := ⟨(c.fmod 36).toNat, by omega⟩
  rw [en] at m ⊢
  have hn : n < 36 := by omega
  have hl : (Str.ofString "abcdefghijklmnopqrstuvwxyz0123456789").cps.toList.length = 36 := by decide +kernel
  exact ⟨_, atI_nat (List.getElem?_eq_getElem (by omega))⟩
theorem inj36 : ∀ i j : Fin 36, atI (Str.ofString "abcdefghijklmnopqrstuvwxyz0123456789").cps.toList (i.val : Int) = atI (Str.ofString "abcdefghijklmnopqrstuvwxyz0123456789").cps.toList (j.val : Int) → i = j := by decide +kernel
theorem len36 : (Str.ofString "abcdefghijklmnopqrstuvwxyz0123456789").length ≤ sizeLine := by decide +kernel
theorem slice1 (d e : Nat) : ∀ m : Nat, m < 5 → (Txt.slice (Txt.mul (⟨#[d]⟩ : Str) (m : Int) ++ (⟨#[e]⟩ : Str)) none (some 1)).length = 1
  | 0, _ => by kernel_rfl
  | 1, _ => by kernel_rfl
  | 2, _ => by kernel_rfl
  | 3, _ => by kernel_rfl
  | 4, _ => by kernel_rfl
def spNames : Sp := fun vs H Q _ => ∃ c : Int, vs = [.int c, .int 9] ∧ ∀ (l : Addr) (xs : List Str) (H' : Hp), xs.length = 9 → xs.Nodup → Same H H' → H l = none → H' l = some (.lst (xs.map V.str)) → Q (.ref l) H'
theorem sc_law_names : FnScope ["_law_cell", "_law_many", "_law_signs", "_law_stem", "_law_at"] ["_law_cell", "_law_many"] (defScope s_law_names) := ⟨rfl, rfl, rfl, by decide +kernel, rfl, by decide +kernel, by decide +kernel⟩
theorem ok_law_names (D : Def K mg "_law_names" s_law_names ["_law_cell", "_law_many"]) (m_range : mg "range" = none) (m_len : mg "len" = none) : Fn P w K mg base CX 1 "_law_names" ["_law_cell", "_law_many"] spNames := by
  refine D.ok sc_law_names (fun vs H Q E h => ?_) (fun f cdv A outer s H vs Q E hr h => ?_)
  · obtain ⟨c, rfl, _⟩ := h
    rfl
  obtain ⟨c, rfl, q⟩ := h
  refine ⟨_, (pss_cons (ps_set (i := 2) sc_law_names.nd rfl (Or.inr rfl) pe_str)
    (pss_cons (ps_set (i := 3) sc_law_names.nd rfl (Or.inr rfl) (pe_op op_add_str (pe_op op_mulS (pe_ix ix_str (pv 2) (pe_op op_modB (pe_op op_fdivB (pv 0) pe_int) pe_int) (fun _ _ => rfl)) (pe_op op_modB (pe_op op_fdivB (pv 0) pe_int) pe_int)) (pe_ix ix_str (pv 2) (pe_op op_modB (pe_op op_fdivB (pv 0) pe_int) pe_int) (fun _ _ => rfl))))
    (pss_cons (ps_if (pt_cmpR op_eq (pe_op op_modB (pv 0) pe_int) pe_int (nomark _)) (pss_one (ps_ret (pe_comp (tn := ["_law_k"]) (fr := ["_law_stem"]) (caps := [3]) rfl ⟨rfl, by decide +kernel, rfl, by decide +kernel, by decide +kernel, rfl, ⟨(by first | exact Or.inl rfl | exact Or.inr rfl), trivial⟩, ⟨(by first | exact Or.inl rfl | exact Or.inr rfl), trivial⟩⟩ (pi_range1 rfl m_range (pac (pv 1) pa_nil)) (fun _ _ _ _ => (pg_name (i := 0) (show (["_law_k", "_law_stem"] : List Str).Nodup from by decide +kernel) rfl (Or.inl rfl))) (fun _ _ _ _ => pf_nil) (fun _ _ _ _ => (pe_op op_add_str (pv 1) (pe_op op_mulS (pe_slice sl_str (pv 1) po_none (po_some pe_int)) (pv 0))))))) pss_nil)
    (pss_cons (ps_set (i := 4) sc_law_names.nd rfl (Or.inr rfl) (pe_op op_modB (pe_op op_fdivB (pv 0) pe_int) (pe_op op_add (pe_callB call_len_str rfl m_len b_len (pac (pv 3) pa_nil)) pe_int)))
    (pss_one (ps_ret (pe_comp (tn := ["_law_k"]) (fr := ["_law_stem", "_law_signs", "_law_cell", "_law_at"]) (caps := [3, 2, 0, 4]) rfl ⟨rfl, by decide +kernel, rfl, by decide +kernel, by decide +kernel, rfl, ⟨(by first | exact Or.inl rfl | exact Or.inr rfl), ⟨(by first | exact Or.inl rfl | exact Or.inr rfl), ⟨(by first | exact Or.inl rfl | exact Or.inr rfl), ⟨(by first | exact Or.inl rfl | exact Or.inr rfl), trivial⟩⟩⟩⟩, ⟨(by first | exact Or.inl rfl | exact Or.inr rfl), ⟨(by first | exact Or.inl rfl | exact Or.inr rfl), ⟨(by first | exact Or.inl rfl | exact Or.inr rfl), ⟨(by first | exact Or.inl rfl | exact Or.inr rfl), trivial⟩⟩⟩⟩⟩ (pi_range1 rfl m_range (pac (pv 1) pa_nil)) (fun _ _ _ _ => (pg_name (i := 0) (show (["_law_k", "_law_stem", "_law_signs", "_law_cell", "_law_at"] : List Str).Nodup from by decide +kernel) rfl (Or.inl rfl))) (fun _ _ _ _ => pf_nil) (fun _ _ _ _ => (pe_op op_add_str (pe_op op_add_str (pe_slice sl_str (pv 1) po_none (po_some (pv 4))) (pe_ix ix_str (pv 2) (pe_op op_modB (pe_op op_add (pe_op op_fdivB (pv 3) pe_int) (pv 0)) pe_int) (fun _ _ => rfl))) (pe_slice sl_str (pv 1) (po_some (pv 4)) po_none)))))))))), ?_⟩
  obtain ⟨d1, e1⟩ := at36 (c.fdiv 3)
  obtain ⟨d2, e2⟩ := at36 (c.fdiv 5)
  have dv : ∀ i j : Int, 0 < j → j < 1000 → CDivB i j := fun i j h0 h1 => ⟨by omega, Nat.le_trans (intBits_le_64 (by omega) (by omega)) (by decide)⟩
  have m5 := fmod_in (x := c.fdiv 108) (m := 5) (by decide)
  obtain ⟨m, em⟩ : ∃ m : Nat, (c.fdiv 108).fmod 5 = (m : Int) := ⟨((c.fdiv 108).fmod 5).toNat, by omega⟩
  have hm : m < 5 := by omega
  have ls : (Txt.mul (⟨#[d1]⟩ : Str) (m : Int) ++ (⟨#[d2]⟩ : Str)).length = m + 1 := by
    rw [strLen_append, mul_len rfl]
    rfl
  have z20 : ∀ {n : Nat}, n ≤ 40 → n ≤ sizeLine := fun h => Nat.le_trans h (by decide)
  refine ⟨_, rfl, _, rfl, _, _, rfl, rfl, dv _ _ (by decide) (by decide), _, _, rfl, rfl, nz (by decide), _, _, _, rfl, rfl, len36, e1, ?_⟩
  refine ⟨_, rfl, _, _, rfl, rfl, dv _ _ (by decide) (by decide), _, _, rfl, rfl, nz (by decide), _, _, rfl, rfl, (by rw [em]; exact mulOk1 rfl (by omega)), ?_⟩
  refine ⟨_, rfl, _, rfl, _, _, rfl, rfl, dv _ _ (by decide) (by decide), _, _, rfl, rfl, nz (by decide), _, _, _, rfl, rfl, len36, e2, ?_⟩
  rw [em]
  refine ⟨_, _, rfl, rfl, z20 (by rw [mul_len rfl]; show m + 1 ≤ 40; omega), ?_⟩
  generalize hst : Txt.mul (⟨#[d1]⟩ : Str) (m : Int) ++ (⟨#[d2]⟩ : Str) = st at ls ⊢
  refine ⟨_, rfl, _, _, rfl, rfl, nz (by decide), rfl, _, rfl, ?_⟩
  refine ite2 (fun _ => ?_) (fun _ => ?_)
  · have l1 : (Txt.slice st none (some 1)).length = 1 := by rw [← hst]; exact slice1 d1 d2 m hm
    refine ⟨_, rfl, 9, rfl, by decide, by decide, fun D nD => ?_⟩
    refine comp_range (lo := 0) (n := 9) (fun i v _ => v = .str (st ++ Txt.mul (Txt.slice st none (some 1)) (i : Int))) nD (by decide) (fun _ _ _ _ _ _ _ h => h) ?_ ?_
    · intro i H2 R hi s2 k
      have ei : (0 : Int) + (i : Int) = (i : Int) := Int.zero_add _
      rw [ei]
      refine ⟨_, rfl, _, rfl, _, rfl, st, rfl, z20 (by omega), _, rfl, _, _, rfl, rfl, mulOk1 l1 (by omega), _, _, rfl, rfl, z20 (by rw [mul_len l1, ls]; omega), k _ _ (Same.refl _) rfl⟩
    · intro ys H2 hy hrel s2 hD
      have e := list_of_rel (f := fun i => V.str (st ++ Txt.mul (Txt.slice st none (some 1)) (i : Int))) hy hrel
      refine q D ((List.range 9).map fun (i : Nat) => st ++ Txt.mul (Txt.slice st none (some 1)) (i : Int)) H2 (by simp) (nodup_range_map fun i j _ _ h => ?_) s2 nD (by rw [hD, e, List.map_map]; rfl)
      have := congrArg Str.length h
      rw [strLen_append, strLen_append, mul_len l1, mul_len l1] at this
      omega
  · refine ⟨_, rfl, _, _, rfl, rfl, dv _ _ (by decide) (by decide), _, rfl, st, rfl, z20 (by omega), _, _, rfl, rfl, _, _, rfl, rfl, nz (by omega), ?_⟩
    have c1 : ∀ l u, (Txt.slice st l u).length ≤ 5 := fun l u => Nat.le_trans (Txt.slice_le st l u) (by omega)
    have dx : ∀ k : Nat, ∃ d : Nat, atI (Str.ofString "abcdefghijklmnopqrstuvwxyz0123456789").cps.toList ((c.fdiv 7 + (k : Int)).fmod 36) = some d := fun k => at36 _
    refine ⟨_, rfl, 9, rfl, by decide, by decide, fun D nD => ?_⟩
    refine comp_range (lo := 0) (n := 9) (fun i v _ => v = .str (Txt.slice st none (some ((c.fdiv 540).fmod ((st.length : Int) + 1))) ++ (⟨#[Classical.choose (dx i)]⟩ : Str) ++ Txt.slice st (some ((c.fdiv 540).fmod ((st.length : Int) + 1))) none)) nD (by decide) (fun _ _ _ _ _ _ _ h => h) ?_ ?_
    · intro i H2 R hi s2 k
      have ei : (0 : Int) + (i : Int) = (i : Int) := Int.zero_add _
      rw [ei]
      refine ⟨_, rfl, _, rfl, _, rfl, st, rfl, z20 (by omega), _, rfl, _, rfl, _, _, rfl, rfl, dv _ _ (by decide) (by decide), _, rfl, _, _, rfl, rfl, _, _, rfl, rfl, nz (by decide), _, _, _, rfl, rfl, len36, Classical.choose_spec (dx i), ?_⟩
      have := c1 none (some ((c.fdiv 540).fmod ((st.length : Int) + 1)))
      have h2 := c1 (some ((c.fdiv 540).fmod ((st.length : Int) + 1))) none
      refine ⟨_, _, rfl, rfl, z20 (by rw [Ty.one_sign]; omega), _, rfl, _, rfl, _, rfl, st, rfl, z20 (by omega), _, _, rfl, rfl, z20 (by rw [strLen_append, Ty.one_sign]; omega), k _ _ (Same.refl _) rfl⟩
    · intro ys H2 hy hrel s2 hD
      have e := list_of_rel (f := fun i => V.str (Txt.slice st none (some ((c.fdiv 540).fmod ((st.length : Int) + 1))) ++ (⟨#[Classical.choose (dx i)]⟩ : Str) ++ Txt.slice st (some ((c.fdiv 540).fmod ((st.length : Int) + 1))) none)) hy hrel
      refine q D ((List.range 9).map fun (i : Nat) => Txt.slice st none (some ((c.fdiv 540).fmod ((st.length : Int) + 1))) ++ (⟨#[Classical.choose (dx i)]⟩ : Str) ++ Txt.slice st (some ((c.fdiv 540).fmod ((st.length : Int) + 1))) none) H2 (by simp) (nodup_range_map fun i j hi hj h => ?_) s2 nD (by rw [hD, e, List.map_map]; rfl)
      have h' := congrArg (fun x : Str => x.cps.toList) h
      change (_ : Str).cps.toList = (_ : Str).cps.toList at h'
      rw [cps_append, cps_append, cps_append, cps_append] at h'
      have h2 := List.append_cancel_left (List.append_cancel_right h')
      have h3 : Classical.choose (dx i) = Classical.choose (dx j) := by simpa using h2
      have y1 := Classical.choose_spec (dx i)
      have y2 := Classical.choose_spec (dx j)
      rw [h3, ← y2] at y1
      have a1 := fmod_in (x := c.fdiv 7 + (i : Int)) (m := 36) (by decide)
      have a2 := fmod_in (x := c.fdiv 7 + (j : Int)) (m := 36) (by decide)
      obtain ⟨n1, en1⟩ : ∃ n : Nat, (c.fdiv 7 + (i : Int)).fmod 36 = (n : Int) := ⟨_, (Int.toNat_of_nonneg a1.1).symm⟩
      obtain ⟨n2, en2⟩ : ∃ n : Nat, (c.fdiv 7 + (j : Int)).fmod 36 = (n : Int) := ⟨_, (Int.toNat_of_nonneg a2.1).symm⟩
      rw [en1, en2] at y1
      have z := inj36 ⟨n1, by omega⟩ ⟨n2, by omega⟩ y1
      have z' : n1 = n2 := congrArg Fin.val z
      have w1 : (c.fdiv 7 + (i : Int)).fmod 36 = (c.fdiv 7 + (i : Int)) % 36 := Int.fmod_eq_emod_of_nonneg _ (by decide)
      have w2 : (c.fdiv 7 + (j : Int)).fmod 36 = (c.fdiv 7 + (j : Int)) % 36 := Int.fmod_eq_emod_of_nonneg _ (by decide)
      omega
def PinX (K : PySem.W.Frag) (H : Hp) (d : Addr) (v : V) (p : PinD) : Prop := ∃ (a l : Addr) (s : V) (us : List V), v = .ref a ∧ SqT K H a [.str p.nm, s, .ref l] ∧ PtR K H s p.sp ∧ H l = some (.lst us) ∧ PtsR K H us p.ws ∧ l ≠ d
def BarR (K : PySem.W.Frag) (H : Hp) (d : Addr) (v : V) (b : BarD) : Prop := ∃ (a : Addr) (u1 u2 : V), v = .ref a ∧ SqT K H a [.str b.nm, u1, u2] ∧ PinX K H d u1 b.one ∧ PinX K H d u2 b.other
section
variable {K : PySem.W.Frag} {H H' : Hp} {v : V} {p : PinD} {d : Addr}
theorem PinX.same (h : PinX K H d v p) (s : Same H H') : PinX K H' d v p := by
  obtain ⟨a, l, sv, us, e, h1, h2, h3, h4, h5⟩ := h
  exact ⟨a, l, sv, us, e, Ty.Same.seqT s h1, h2.same s, s _ _ h3, h4.same s, h5⟩
theorem PinX.upd {xs : List V} {o : HO} (h : PinX K H d v p) (e : H d = some (.lst xs)) : PinX K (L2.upd H d o) d v p := by
  obtain ⟨a, l, sv, us, ev, h1, h2, h3, h4, h5⟩ := h
  have t : SameT H (L2.upd H d o) := .list e
  exact ⟨a, l, sv, us, ev, t.seqT h1, h2.sameT t, by rw [upd_ne h5]; exact h3, h4.sameT t, h5⟩
theorem BarR.same {b : BarD} (h : BarR K H d v b) (s : Same H H') : BarR K H' d v b := by
  obtain ⟨a, u1, u2, e, h1, h2, h3⟩ := h
  exact ⟨a, u1, u2, e, Ty.Same.seqT s h1, h2.same s, h3.same s⟩
end
structure GoodP (pins : List PinD) : Prop where
  np : (pins.map (·.nm)).Nodup
  ns : (pins.map (·.sp)).Nodup
  sz : ∀ p ∈ pins, Sz 100 p.sp.1 ∧ Sz 100 p.sp.2
  ws : ∀ p ∈ pins, WaysOk p.ws
theorem WaysOk.sz {ws : List (Rat × Rat)} (h : WaysOk ws) : ∀ w ∈ ws, Sz 50 w.1 ∧ Sz 50 w.2 := fun w hw => by
  rcases h with rfl | ⟨x, y, rfl, _, h1, h2⟩ | rfl
  · cases hw
  · have : w = (x, y) := by simpa using hw
    rw [this]
    exact ⟨h1, h2⟩
  · have e1 : Sz 50 (1 : Rat) := sz_small (i := 1) (by decide)
    have e0 : Sz 50 (0 : Rat) := sz_zero (by decide)
    have : w = (1, 0) ∨ w = (0, 1) := by simpa using hw
    rcases this with rfl | rfl
    · exact ⟨e1, e0⟩
    · exact ⟨e0, e1⟩
theorem WaysOk.len {ws : List (Rat × Rat)} (h : WaysOk ws) : ws.length ≤ 2 := by
  rcases h with rfl | ⟨x, y, rfl, _⟩ | rfl <;> simp
theorem GoodP.snoc {pins : List PinD} {p : PinD} (g : GoodP pins) (h1 : p.nm ∉ pins.map (·.nm)) (h2 : p.sp ∉ pins.map (·.sp)) (h3 : Sz 100 p.sp.1 ∧ Sz 100 p.sp.2) (h4 : WaysOk p.ws) : GoodP (pins ++ [p]) := by
  refine ⟨?_, ?_, fun q hq => ?_, fun q hq => ?_⟩
  · rw [List.map_append, List.nodup_append]
    refine ⟨g.np, by simp, fun a ha b hb e => h1 ?_⟩
    have : b = p.nm := by simpa using hb
    rw [← this, ← e]
    exact ha
  · rw [List.map_append, List.nodup_append]
    refine ⟨g.ns, by simp, fun a ha b hb e => h2 ?_⟩
    have : b = p.sp := by simpa using hb
    rw [← this, ← e]
    exact ha
  · rcases List.mem_append.mp hq with z | z
    · exact g.sz q z
    · rw [List.mem_singleton.mp z]
      exact h3
  · rcases List.mem_append.mp hq with z | z
    · exact g.ws q z
    · rw [List.mem_singleton.mp z]
      exact h4
structure GoodB (pins : List PinD) (bars : List BarD) : Prop where
  nb : (bars.map (·.nm)).Nodup
  ends : ∀ b ∈ bars, b.one ∈ pins ∧ b.other ∈ pins ∧ b.one.nm ≠ b.other.nm
theorem paired_snoc {α β : Type} {F : α → β → Prop} : ∀ {l₁ : List α} {l₂ : List β} {a : α} {b : β}, Paired F l₁ l₂ → F a b → Paired F (l₁ ++ [a]) (l₂ ++ [b])
  | _, _, _, _, .nil, h => .cons h .nil
  | _, _, _, _, .cons h t, h' => .cons h (paired_snoc t h')
theorem bits_cell {c : Int} {k m : Nat} (h : intBits c ≤ 1048576) (hk : k < 20) (hm : m < 100) : intBits (c + (m : Int) * (k : Int) * (k : Int)) ≤ 2000000 := by
  have b : intBits ((m : Int) * (k : Int) * (k : Int)) ≤ 1048576 := by
    have : m * k * k < 100 * 20 * 20 := by
      have h1 : m * k ≤ 100 * 20 := Nat.mul_le_mul (by omega) (by omega)
      have h2 : m * k * k ≤ 100 * 20 * 19 := Nat.mul_le_mul h1 (by omega)
      omega
    have e : (m : Int) * (k : Int) * (k : Int) = ((m * k * k : Nat) : Int) := by push_cast; rfl
    rw [e]
    exact Nat.le_trans (intBits_le_64 (by omega) (by omega)) (by decide)
  exact Nat.le_trans (bits_addF h b) (by decide)
theorem mul_small {m k : Nat} (hm : m < 100) (hk : k < 20) : CMulB (m : Int) (k : Int) ∧ CMulB ((m : Int) * (k : Int)) (k : Int) := by
  have h1 : m * k ≤ 100 * 20 := Nat.mul_le_mul (by omega) (by omega)
  have e : (m : Int) * (k : Int) = ((m * k : Nat) : Int) := by push_cast; rfl
  have z : ∀ n : Nat, n ≤ 2000 → intBits (n : Int) ≤ 33554432 := fun n hn => Nat.le_trans (intBits_le_64 (by omega) (by omega)) (by decide)
  refine ⟨⟨z _ (by omega), z _ (by omega)⟩, ?_, z _ (by omega)⟩
  rw [e]
  exact z _ h1
def Near (sc : Int) (pins : List PinD) : Prop := ∀ p ∈ pins, Sz 50 p.sp.1 ∧ -(far sc) ≤ p.sp.1 ∧ p.sp.1 ≤ far sc
abbrev mpP (pins : List PinD) : List (Str × Pt) := pins.map fun p => (p.nm, ptQ p.sp)
abbrev mpW (pins : List PinD) : List (Str × List (Rat × Rat)) := pins.map fun p => (p.nm, p.ws)
abbrev mpB (bars : List BarD) : List (Str × Str × Str) := bars.map fun b => (b.nm, b.one.nm, b.other.nm)
theorem mpP_app {a b : List PinD} : mpP (a ++ b) = mpP a ++ mpP b := List.map_append
theorem mpW_app {a b : List PinD} : mpW (a ++ b) = mpW a ++ mpW b := List.map_append
theorem mpB_app {a b : List BarD} : mpB (a ++ b) = mpB a ++ mpB b := List.map_append
structure FrB (K : PySem.W.Frag) (H : Hp) (C a dx pP pW pB d : Addr) (pins : List PinD) (bars : List BarD) : Prop where
  ex : ∃ (kP kW kB : List (Key × V)), FrR K H C a dx pP pW pB (mpP pins) (mpB bars) kP kW kB ∧ WyR K H (mpW pins) kW ∧ ∀ kv ∈ kW, kv.2 ≠ .ref d
theorem FrB.fr {K : PySem.W.Frag} {H : Hp} {C a dx pP pW pB d : Addr} {pins : List PinD} {bars : List BarD} (h : FrB K H C a dx pP pW pB d pins bars) : FrA K H C a pins bars := by
  obtain ⟨kP, kW, kB, R, W, _⟩ := h.ex
  exact ⟨dx, pP, pW, pB, kP, kW, kB, R, W⟩
theorem FrB.same {K : PySem.W.Frag} {H H' : Hp} {C a dx pP pW pB d : Addr} {pins : List PinD} {bars : List BarD} (h : FrB K H C a dx pP pW pB d pins bars) (s : Same H H') : FrB K H' C a dx pP pW pB d pins bars := by
  obtain ⟨kP, kW, kB, R, W, n⟩ := h.ex
  exact ⟨kP, kW, kB, R.same s, W.same s, n⟩
theorem ks_t {d : Addr} {H H' : Hp} {kvs : List (Key × V)} (k : KSame d H H') (e : H d = some (.dK kvs)) : SameT H H' := fun b zs r => by
  rcases r with r | ⟨o', r⟩
  · exact .inl (k _ _ (fun z => by rw [z, e] at r; cases r) r)
  · exact .inr ⟨o', k _ _ (fun z => by rw [z, e] at r; cases r) r⟩
theorem wy_ks {K : PySem.W.Frag} {H H' : Hp} {d : Addr} {pw : List (Str × List (Rat × Rat))} {kW kd : List (Key × V)} (W : WyR K H pw kW) (k : KSame d H H') (e : H d = some (.dK kd)) : WyR K H' pw kW :=
  Paired.mapP W fun _ _ z => ⟨z.1, by
    obtain ⟨l', us', z1, z2, z3⟩ := z.2
    exact ⟨l', us', z1, k _ _ (fun z => by rw [z, e] at z2; cases z2) z2, z3.sameT (ks_t k e)⟩⟩
def spPinsL (K : PySem.W.Frag) : Sp := fun vs H Q _ => ∃ (sA nA : Addr) (ns : List Int) (xs : List Str) (sc : Int), vs = [.ref sA, .ref nA, .int sc] ∧ SqL K H sA (ns.map V.int) ∧ (∀ i ∈ ns, intBits i ≤ 1048576) ∧ H nA = some (.lst (xs.map V.str)) ∧ xs.length = 9 ∧ xs.Nodup ∧ 0 ≤ sc ∧ sc ≤ 997 ∧
  ∀ (l : Addr) (us : List V) (pins : List PinD) (H' : Hp), Same H H' → H l = none → H' l = some (.lst us) → Paired (PinX K H' l) us pins → GoodP pins → Near sc pins → pins.length ≤ 6 → Q (.ref l) H'
theorem sc_law_pins : FnScope ["_law_script", "_law_names_here", "_law_scale", "_law_pins_here", "_law_k", "_law_cell", "_law_spot"] ["_law_script", "_law_names_here", "_law_scale"] (defScope s_law_pins) := ⟨rfl, rfl, rfl, by decide +kernel, rfl, by decide +kernel, by decide +kernel⟩
theorem ok_law_pins (D : Def K mg "_law_pins" s_law_pins ["_law_script", "_law_names_here", "_law_scale"]) (m_range : mg "range" = none) (G_law_cell_at : Fn P w K mg base (CXr P w) 1 "_law_cell_at" ["_law_script", "_law_k"] (spCell K)) (G_law_part : Fn P w K mg base (CXr P w) 1 "_law_part" ["_law_cell", "_law_k"] spPart) (G_law_drawn : Fn P w K mg base (CXr P w) 34 "_law_drawn" ["_law_cell", "_law_scale"] spDrawn) (G_law_ways : Fn P w K mg base (CXr P w) 34 "_law_ways" ["_law_cell"] (spWaysL K)) :
    Fn P w K mg base (CXr P w) 35 "_law_pins" ["_law_script", "_law_names_here", "_law_scale"] (spPinsL K) := by
  refine D.ok sc_law_pins (fun vs H Q E h => ?_) (fun f cdv A outer s H vs Q E hr h => ?_)
  · obtain ⟨sA, nA, ns, xs, sc, rfl, _⟩ := h
    rfl
  obtain ⟨sA, nA, ns, xs, sc, rfl, hS, hb, hn, lx, nx, c0, c9, q⟩ := h
  have px := passM (X := (cxOf (CXr P w) P w K mg base ["_law_script", "_law_names_here", "_law_scale", "_law_pins_here", "_law_k", "_law_cell", "_law_spot"] "_law_pins" (defScope s_law_pins) f cdv A outer s H E)) (CXr.mute (P := P) (w := w))
  refine ⟨_, (pss_cons (ps_set (i := 3) sc_law_pins.nd rfl (Or.inl rfl) (pe_lst pa_nil))
    (pss_cons (ps_for PassesOwn.never rfl (pi_range1 rfl m_range (pac (pe_op op_modB (pe_fn G_law_cell_at (hr.mono (by decide)) px (pac (pv 0) (pac pe_int pa_nil))) pe_int) pa_nil)) (pg_name (i := 4) sc_law_pins.nd rfl (Or.inl rfl)) (pss_cons (ps_set (i := 5) sc_law_pins.nd rfl (Or.inl rfl) (pe_op op_add (pe_fn G_law_cell_at (hr.mono (by decide)) px (pac (pv 0) (pac (pe_op op_add pe_int (pv 4)) pa_nil))) (pe_op op_mulB (pe_op op_mulB pe_int (pv 4)) (pv 4))))
      (pss_cons (ps_set (i := 6) sc_law_pins.nd rfl (Or.inl rfl) (pe_tup (pac (pe_fn G_law_drawn (hr.mono (by decide)) px (pac (pv 5) (pac (pv 2) pa_nil))) (pac (pe_fn G_law_drawn (hr.mono (by decide)) px (pac (pe_fn G_law_part (hr.mono (by decide)) px (pac (pv 5) (pac pe_int pa_nil))) (pac (pv 2) pa_nil))) pa_nil))))
      (pss_one (ps_if (pt_cmpR (op_notInPt hr.units) (pv 6) (pe_comp (tn := ["_law_pin"]) (fr := []) (caps := []) rfl ⟨rfl, by decide +kernel, rfl, by decide +kernel, by decide +kernel, rfl, trivial, trivial⟩ (pi_list (pv 3)) (fun _ _ _ _ => (pg_name (i := 0) (show (["_law_pin"] : List Str).Nodup from by decide +kernel) rfl (Or.inl rfl))) (fun _ _ _ _ => pf_nil) (fun _ _ _ _ => (pe_ix (ix_tupK (K := K) rfl) (pv 0) pe_int (fun _ _ => rfl)))) rfl) (pss_one (ps_expr (pe_bm PySem.F.plainAttrs_list PySem.F.slot_list_append PySem.F.type_list_append mt_append (pv 3) (pac (pe_tup (pac (pe_ix ix_list (pv 1) (pv 4) (fun _ _ => rfl)) (pac (pv 6) (pac (pe_fn G_law_ways (hr.mono (by decide)) px (pac (pe_fn G_law_part (hr.mono (by decide)) px (pac (pv 5) (pac pe_int pa_nil))) pa_nil)) pa_nil)))) pa_nil)))) pss_nil)))))
    (pss_one (ps_ret (pv 3))))), ?_⟩
  refine ⟨(by show 0 ≤ sizeLine; decide), ?_⟩
  intro lp np; generalize eX : upd _ lp _ = H0; have sp := eX ▸ same_new np _; have ep : H0 lp = some _ := eX ▸ upd_same; clear eX
  refine ⟨_, rfl, sA, ns, 1, rfl, sp.seq hS, hb, by decide, by decide, fun c1 b1 => ⟨_, _, rfl, rfl, nz (by decide), ?_⟩⟩
  have m7 := fmod_in (x := c1) (m := 7) (by decide)
  obtain ⟨N, eN⟩ : ∃ N : Nat, c1.fmod 7 = (N : Int) := ⟨(c1.fmod 7).toNat, by omega⟩
  refine ⟨(N : Int), (by show [V.int (c1.fmod 7)] = [V.int (N : Int)]; rw [eN]), by omega, by omega, for_range (lo := 0) (n := N) (fun i σ H' => ∃ (o4 o5 o6 : Option V) (us : List V) (pins : List PinD), σ = [some (.ref sA), some (.ref nA), some (.int sc), some (.ref lp), o4, o5, o6] ∧ Same H H' ∧ H' lp = some (.lst us) ∧ Paired (PinX K H' lp) us pins ∧ GoodP pins ∧ Near sc pins ∧ (∀ p ∈ pins, p.nm ∈ xs.take i) ∧ pins.length ≤ i) ⟨none, none, none, [], [], rfl, sp, ep, .nil, ⟨by simp, by simp, by simp, by simp⟩, (fun p hp => nomatch hp), by simp, Nat.zero_le _⟩ ?_ ?_⟩
  · rintro i σ H1 hi ⟨o4, o5, o6, us, pins, rfl, s1, e1, pp, gp, nr, nm, lp6⟩
    have ei : (0 : Int) + (i : Int) = (i : Int) := Int.zero_add _
    rw [ei]
    have i6 : i < 6 := by omega
    obtain ⟨mm1, mm2⟩ := mul_small (m := 31) (k := i) (by decide) (by omega)
    refine ⟨_, rfl, _, rfl, _, _, rfl, rfl, sA, ns, _, rfl, s1.seq hS, hb, by omega, by omega, fun c2 b2 => ?_⟩
    refine ⟨_, rfl, _, _, rfl, rfl, mm1, _, rfl, _, _, rfl, rfl, mm2, _, _, rfl, rfl, ?_⟩
    have bc := bits_cell (m := 31) (k := i) b2 (by omega) (by decide)
    refine ⟨_, rfl, _, rfl, _, _, rfl, bc, c0, c9, fun r1 z1 f1 p1 H2 s2 e2 => ?_⟩
    refine ⟨_, rfl, _, _, rfl, bc, by decide, by decide, fun c3 H3 h30 h31 s3 => ?_⟩
    have b3 : intBits c3 ≤ 2000000 := Nat.le_trans (intBits_le_64 (by omega) (by omega)) (by decide)
    refine ⟨_, rfl, _, _, rfl, b3, c0, c9, fun r2 z2 f2 p2 H4 s4 e4 => ⟨(by show 2 ≤ sizeLine; decide), ?_⟩⟩
    intro p3 n3; generalize eX : upd _ p3 _ = H5; have s5 := eX ▸ same_new n3 _; have e5 : H5 p3 = some _ := eX ▸ upd_same; clear eX
    have hs : PtR K H5 (.ref p3) (r1, r2) := pt_of e5 ((((nm_of e2).same s3).same s4).same s5) ((nm_of e4).same s5)
    have s15 := sm_tr (sm_tr s2 s3) (sm_tr s4 s5)
    have e15 := s15 _ _ e1
    have pp5 : Paired (PinX K H5 lp) us pins := Paired.mapP pp fun _ _ z => z.same s15
    have lu : us.length = pins.length := Paired.length pp
    refine ⟨_, rfl, _, rfl, lp, rfl, ⟨_, SqL.of e15⟩, fun D1 n1 => ?_⟩
    refine comp_list (cap := []) (K := K) (a := lp) (xs := us) (fun i v H => ∃ p, pins[i]? = some p ∧ PtR K H v p.sp) n1 (by rw [lu]; exact Nat.lt_of_le_of_lt (show pins.length ≤ 1000 by omega) (by decide)) (fun H2 s2 => SqL.of (s2 _ _ e15)) (fun _ _ _ _ _ h0 ks h => by
        obtain ⟨p, h1, h2⟩ := h
        refine ⟨p, h1, h2.sameT fun b xs r => ?_⟩
        rcases r with r | ⟨o', r⟩
        · exact .inl (ks _ _ (fun e => by rw [e, h0] at r; cases r) r)
        · exact .inr ⟨o', ks _ _ (fun e => by rw [e, h0] at r; cases r) r⟩) ?_ ?_
    · intro j u H6 R hu s6 k
      obtain ⟨p, ep', hp⟩ := paired_get pp5 hu
      obtain ⟨a, l, sv, us', rfl, h1, h2, _⟩ := hp
      exact ⟨_, rfl, a, _, _, _, rfl, rfl, Ty.Same.seqT s6 h1, rfl, k _ _ (Same.refl _) ⟨p, ep', h2.same s6⟩⟩
    · intro ys H6 hy hrel s6 hD
      have pq : PtsR K H6 ys (pins.map (·.sp)) := paired_of (by rw [List.length_map, hy, lu]) fun j u q' e1' e2' => by
        obtain ⟨p, h1, h2⟩ := hrel j u e1'
        rw [List.getElem?_map, h1] at e2'
        cases e2'
        exact h2
      refine ⟨(r1, r2), D1, ys, _, rfl, SqL.of hD, hs.same s6, pq, _, rfl, ?_⟩
      have s16 := sm_tr s15 s6
      have e16 := s16 _ _ e1
      have pp6 : Paired (PinX K H6 lp) us pins := Paired.mapP pp fun _ _ z => z.same s16
      refine ite2 (fun cc => ?_) (fun _ => ?_)
      · have fresh : (r1, r2) ∉ pins.map (·.sp) := by simpa using cc
        obtain ⟨x, hx⟩ : ∃ x, xs[i]? = some x := ⟨_, List.getElem?_eq_getElem (by omega)⟩
        have s06 := sm_tr s1 s16
        refine ⟨_, rfl, .inl ⟨rfl, _, SqL.of e16⟩, _, rfl, _, rfl, nA, _, _, _, rfl, rfl, SqL.of (s06 _ _ hn), atI_nat (by rw [List.getElem?_map, hx]; rfl), _, rfl, _, rfl, _, _, rfl, bc, by decide, by decide, fun c7 H7 h70 h71 s7 => ?_⟩
        refine ⟨_, rfl, fun l8 us8 ws H8 wk s8 n8 e8 p8 => ⟨(by show 3 ≤ sizeLine; decide), ?_⟩⟩
        intro p9 n9; generalize eX : upd _ p9 _ = H9; have s9 := eX ▸ same_new n9 _; have e9 : H9 p9 = some _ := eX ▸ upd_same; clear eX
        have s19 := sm_tr (sm_tr s7 s8) s9
        have e19 := s19 _ _ e16
        have pp9 : Paired (PinX K H9 lp) us pins := Paired.mapP pp6 fun _ _ z => z.same s19
        refine ⟨lp, _, _, rfl, rfl, e19, (by rw [lu]; exact Nat.lt_of_le_of_lt (show pins.length ≤ 1000 by omega) (by decide)), ?_⟩
        have xt : x ∉ xs.take i := fun z => by
          have := take_new (nm := id) (by rw [List.map_id]; exact nx) hx z
          exact this rfl
        have hsp : PinX K H9 lp (.ref p9) ⟨x, (r1, r2), ws⟩ := ⟨p9, l8, .ref p3, us8, rfl, SqT.of e9, (hs.same s6).same s19, s9 _ _ e8, p8.same s9, fun z => by
          have := s7 _ _ e16
          rw [← z, n8] at this
          cases this⟩
        refine ⟨_, _, _, _, pins ++ [⟨x, (r1, r2), ws⟩], rfl, fun b o z => ?_, upd_same, paired_snoc (Paired.mapP pp9 fun _ _ z => z.upd e19) (hsp.upd e19), gp.snoc (fun z => ?_) fresh ⟨z1.up (by decide), z2.up (by decide)⟩ wk, fun p hp => ?_, fun p hp => ?_, by simp; omega⟩
        · rw [upd_ne (ne_of_none z np)]
          exact s19 _ _ (s06 _ _ z)
        · obtain ⟨p, hp, ep'⟩ := List.mem_map.mp z
          exact xt ((show p.nm = x from ep') ▸ nm p hp)
        · rcases List.mem_append.mp hp with z | z
          · exact nr p z
          · rw [List.mem_singleton.mp z]
            exact ⟨z1, f1⟩
        · rw [take_snoc hx]
          rcases List.mem_append.mp hp with z | z
          · exact List.mem_append_left _ (nm p z)
          · rw [List.mem_singleton.mp z]
            simp
      · refine ⟨_, _, _, us, pins, rfl, sm_tr s1 s16, e16, pp6, gp, nr, fun p hp => ?_, by omega⟩
        exact List.mem_of_mem_take (i := i) (by
          rw [List.take_take, Nat.min_eq_left (by omega)]
          exact nm p hp)
  · rintro σ H1 ⟨o4, o5, o6, us, pins, rfl, s1, e1, pp, gp, nr, nm, lp6⟩
    exact ⟨_, rfl, q lp us pins H1 s1 np e1 pp gp nr (by omega)⟩
theorem ends_ne {c n r : Int} (hn : 2 ≤ n) (h0 : 0 ≤ r) (h1 : r < n - 1) : (c.fmod n + 1 + r).fmod n ≠ c.fmod n := by
  have m := fmod_in (x := c) (m := n) (by omega)
  generalize c.fmod n = o at m ⊢
  rw [Int.fmod_eq_emod_of_nonneg _ (by omega)]
  by_cases h : o + 1 + r < n
  · rw [Int.emod_eq_of_lt (by omega) h]
    omega
  · have e : o + 1 + r = (o + 1 + r - n) + n := by omega
    rw [e, Int.add_emod_right, Int.emod_eq_of_lt (by omega) (by omega)]
    omega
theorem GoodB.snoc {pins : List PinD} {bars : List BarD} {b : BarD} (g : GoodB pins bars) (h1 : b.nm ∉ bars.map (·.nm)) (h2 : b.one ∈ pins ∧ b.other ∈ pins ∧ b.one.nm ≠ b.other.nm) : GoodB pins (bars ++ [b]) := by
  refine ⟨?_, fun q hq => ?_⟩
  · rw [List.map_append, List.nodup_append]
    refine ⟨g.nb, by simp, fun a ha c hc e => h1 ?_⟩
    have : c = b.nm := by simpa using hc
    rw [← this, ← e]
    exact ha
  · rcases List.mem_append.mp hq with z | z
    · exact g.ends q z
    · rw [List.mem_singleton.mp z]
      exact h2
theorem names_new {pins : List PinD} (np : (pins.map (·.nm)).Nodup) {i j : Nat} {p q : PinD} (hi : pins[i]? = some p) (hj : pins[j]? = some q) (n : i ≠ j) : p.nm ≠ q.nm := fun e => by
  have il := (List.getElem?_eq_some_iff.mp hi).1
  have q1 : (pins.map (·.nm))[i]? = some p.nm := by rw [List.getElem?_map, hi]; rfl
  have q2 : (pins.map (·.nm))[j]? = some p.nm := by rw [List.getElem?_map, hj, e]; rfl
  exact n ((List.getElem?_inj (by rw [List.length_map]; exact il) np).mp (q1.trans q2.symm))
def spBarsL (K : PySem.W.Frag) : Sp := fun vs H Q _ => ∃ (sA nA pA : Addr) (ns : List Int) (xs : List Str) (us : List V) (pins : List PinD), vs = [.ref sA, .ref nA, .ref pA] ∧ SqL K H sA (ns.map V.int) ∧ (∀ i ∈ ns, intBits i ≤ 1048576) ∧ H nA = some (.lst (xs.map V.str)) ∧ xs.length = 9 ∧ xs.Nodup ∧ H pA = some (.lst us) ∧ Paired (PinX K H pA) us pins ∧ (pins.map (·.nm)).Nodup ∧ pins.length ≤ 6 ∧
  ∀ (l : Addr) (vs : List V) (bars : List BarD) (H' : Hp), Same H H' → H l = none → H' l = some (.lst vs) → Paired (BarR K H' pA) vs bars → GoodB pins bars → bars.length ≤ 8 → Q (.ref l) H'
theorem sc_law_bars : FnScope ["_law_script", "_law_names_here", "_law_pins_here", "_law_bars_here", "_law_k", "_law_cell", "_law_one", "_law_other"] ["_law_script", "_law_names_here", "_law_pins_here"] (defScope s_law_bars) := ⟨rfl, rfl, rfl, by decide +kernel, rfl, by decide +kernel, by decide +kernel⟩
theorem ok_law_bars (D : Def K mg "_law_bars" s_law_bars ["_law_script", "_law_names_here", "_law_pins_here"]) (m_range : mg "range" = none) (m_len : mg "len" = none) (G_law_cell_at : Fn P w K mg base (CXr P w) 1 "_law_cell_at" ["_law_script", "_law_k"] (spCell K)) :
    Fn P w K mg base (CXr P w) 2 "_law_bars" ["_law_script", "_law_names_here", "_law_pins_here"] (spBarsL K) := by
  refine D.ok sc_law_bars (fun vs H Q E h => ?_) (fun f cdv A outer s H vs Q E hr h => ?_)
  · obtain ⟨sA, nA, pA, ns, xs, us, pins, rfl, _⟩ := h
    rfl
  obtain ⟨sA, nA, pA, ns, xs, us, pins, rfl, hS, hb, hn, lx, nx, hp, pp, np, lp6, q⟩ := h
  have px := passM (X := (cxOf (CXr P w) P w K mg base ["_law_script", "_law_names_here", "_law_pins_here", "_law_bars_here", "_law_k", "_law_cell", "_law_one", "_law_other"] "_law_bars" (defScope s_law_bars) f cdv A outer s H E)) (CXr.mute (P := P) (w := w))
  have lu : us.length = pins.length := Paired.length pp
  refine ⟨_, (pss_cons (ps_set (i := 3) sc_law_bars.nd rfl (Or.inl rfl) (pe_lst pa_nil))
    (pss_cons (ps_if (pt_cmpR op_lt (pe_callB call_len_seq rfl m_len b_len (pac (pv 2) pa_nil)) pe_int (nomark _)) (pss_one (ps_ret (pv 3))) pss_nil)
    (pss_cons (ps_for PassesOwn.never rfl (pi_range1 rfl m_range (pac (pe_op op_modB (pe_fn G_law_cell_at (hr.mono (by decide)) px (pac (pv 0) (pac pe_int pa_nil))) pe_int) pa_nil)) (pg_name (i := 4) sc_law_bars.nd rfl (Or.inl rfl)) (pss_cons (ps_set (i := 5) sc_law_bars.nd rfl (Or.inl rfl) (pe_op op_add (pe_fn G_law_cell_at (hr.mono (by decide)) px (pac (pv 0) (pac (pe_op op_add pe_int (pv 4)) pa_nil))) (pe_op op_mulB (pe_op op_mulB pe_int (pv 4)) (pv 4))))
      (pss_cons (ps_set (i := 6) sc_law_bars.nd rfl (Or.inl rfl) (pe_op op_modB (pv 5) (pe_callB call_len_seq rfl m_len b_len (pac (pv 2) pa_nil))))
      (pss_cons (ps_set (i := 7) sc_law_bars.nd rfl (Or.inl rfl) (pe_op op_modB (pe_op op_add (pe_op op_add (pv 6) pe_int) (pe_op op_modB (pe_op op_fdivB (pv 5) (pe_callB call_len_seq rfl m_len b_len (pac (pv 2) pa_nil))) (pe_op op_sub (pe_callB call_len_seq rfl m_len b_len (pac (pv 2) pa_nil)) pe_int))) (pe_callB call_len_seq rfl m_len b_len (pac (pv 2) pa_nil))))
      (pss_one (ps_expr (pe_bm PySem.F.plainAttrs_list PySem.F.slot_list_append PySem.F.type_list_append mt_append (pv 3) (pac (pe_tup (pac (pe_ix ix_list (pv 1) (pv 4) (fun _ _ => rfl)) (pac (pe_ix ix_list (pv 2) (pv 6) (fun _ _ => rfl)) (pac (pe_ix ix_list (pv 2) (pv 7) (fun _ _ => rfl)) pa_nil)))) pa_nil))))))))
    (pss_one (ps_ret (pv 3)))))), ?_⟩
  refine ⟨(by show 0 ≤ sizeLine; decide), ?_⟩
  intro lb nb; generalize eX : upd _ lb _ = H0; have sb := eX ▸ same_new nb _; have eb : H0 lb = some _ := eX ▸ upd_same; clear eX
  refine ⟨_, rfl, pA, _, rfl, .inl (SqL.of (sb _ _ hp)), _, _, rfl, rfl, _, rfl, ?_⟩
  refine ite2 (fun cc => ?_) (fun cc => ?_)
  · exact ⟨_, rfl, q lb [] [] H0 sb nb eb .nil ⟨by simp, by simp⟩ (by simp)⟩
  have n2 : 2 ≤ pins.length := by
    have : ¬ ((us.length : Nat) : Int) < 2 := of_decide_eq_false (Bool.eq_false_iff.mpr cc)
    omega
  refine ⟨_, rfl, sA, ns, 8, rfl, sb.seq hS, hb, by decide, by decide, fun c1 b1 => ⟨_, _, rfl, rfl, nz (by decide), ?_⟩⟩
  have m9 := fmod_in (x := c1) (m := 9) (by decide)
  obtain ⟨N, eN⟩ : ∃ N : Nat, c1.fmod 9 = (N : Int) := ⟨(c1.fmod 9).toNat, by omega⟩
  refine ⟨(N : Int), (by show [V.int (c1.fmod 9)] = [V.int (N : Int)]; rw [eN]), by omega, by omega, for_range (lo := 0) (n := N) (fun i σ H' => ∃ (o4 o5 o6 o7 : Option V) (vs : List V) (bars : List BarD), σ = [some (.ref sA), some (.ref nA), some (.ref pA), some (.ref lb), o4, o5, o6, o7] ∧ Same H H' ∧ H' lb = some (.lst vs) ∧ Paired (fun v b => ∃ (a : Addr) (u1 u2 : V), v = .ref a ∧ SqT K H' a [.str b.nm, u1, u2] ∧ PinX K H pA u1 b.one ∧ PinX K H pA u2 b.other) vs bars ∧ GoodB pins bars ∧ (∀ b ∈ bars, b.nm ∈ xs.take i) ∧ bars.length = i) ⟨none, none, none, none, [], [], rfl, sb, eb, .nil, ⟨by simp, by simp⟩, by simp, rfl⟩ ?_ ?_⟩
  · rintro i σ H1 hi ⟨o4, o5, o6, o7, vs, bars, rfl, s1, e1, pb, gb, nm, lb8⟩
    have ei : (0 : Int) + (i : Int) = (i : Int) := Int.zero_add _
    rw [ei]
    have i8 : i < 8 := by omega
    obtain ⟨mm1, mm2⟩ := mul_small (m := 37) (k := i) (by decide) (by omega)
    refine ⟨_, rfl, _, rfl, _, _, rfl, rfl, sA, ns, _, rfl, s1.seq hS, hb, by omega, by omega, fun c2 b2 => ?_⟩
    refine ⟨_, rfl, _, _, rfl, rfl, mm1, _, rfl, _, _, rfl, rfl, mm2, _, _, rfl, rfl, ?_⟩
    have hp1 := SqL.of (K := K) (s1 _ _ hp)
    have ln : ((us.length : Nat) : Int) = (pins.length : Int) := by rw [lu]
    have m1 := fmod_in (x := c2 + 37 * (i : Int) * (i : Int)) (m := (us.length : Int)) (by omega)
    refine ⟨_, rfl, _, rfl, pA, _, rfl, .inl hp1, _, _, rfl, rfl, nz (by omega), ?_⟩
    have m2 := fmod_in (x := (c2 + 37 * (i : Int) * (i : Int)).fdiv (us.length : Int)) (m := (us.length : Int) - 1) (by omega)
    have dn : CDivB (c2 + 37 * (i : Int) * (i : Int)) (us.length : Int) := ⟨by omega, Nat.le_trans (intBits_le_64 (by omega) (by omega)) (by decide)⟩
    refine ⟨_, rfl, _, _, rfl, rfl, _, rfl, _, rfl, pA, _, rfl, .inl hp1, _, _, rfl, rfl, dn, _, rfl, pA, _, rfl, .inl hp1, _, _, rfl, rfl, _, _, rfl, rfl, nz (by omega), _, _, rfl, rfl, _, rfl, pA, _, rfl, .inl hp1, _, _, rfl, rfl, nz (by omega), ?_⟩
    have en := ends_ne (c := c2 + 37 * (i : Int) * (i : Int)) (n := (us.length : Int)) (by omega) m2.1 m2.2
    have m3 := fmod_in (x := (c2 + 37 * (i : Int) * (i : Int)).fmod (us.length : Int) + 1 + ((c2 + 37 * (i : Int) * (i : Int)).fdiv (us.length : Int)).fmod ((us.length : Int) - 1)) (m := (us.length : Int)) (by omega)
    obtain ⟨j1, ej1⟩ : ∃ n : Nat, (c2 + 37 * (i : Int) * (i : Int)).fmod (us.length : Int) = (n : Int) := ⟨_, (Int.toNat_of_nonneg m1.1).symm⟩
    obtain ⟨j2, ej2⟩ : ∃ n : Nat, ((c2 + 37 * (i : Int) * (i : Int)).fmod (us.length : Int) + 1 + ((c2 + 37 * (i : Int) * (i : Int)).fdiv (us.length : Int)).fmod ((us.length : Int) - 1)).fmod (us.length : Int) = (n : Int) := ⟨_, (Int.toNat_of_nonneg m3.1).symm⟩
    rw [ej2] at m3
    rw [ej2, ej1] at en
    rw [ej1] at m1
    have l1 : j1 < us.length := by omega
    have l2 : j2 < us.length := by omega
    obtain ⟨q1, eq1, hq1⟩ := paired_get pp (List.getElem?_eq_getElem l1)
    obtain ⟨q2, eq2, hq2⟩ := paired_get pp (List.getElem?_eq_getElem l2)
    obtain ⟨x, hx⟩ : ∃ x, xs[i]? = some x := ⟨_, List.getElem?_eq_getElem (by omega)⟩
    have lv : vs.length = bars.length := Paired.length pb
    refine ⟨_, rfl, .inl ⟨rfl, _, SqL.of e1⟩, _, rfl, _, rfl, nA, _, _, _, rfl, rfl, SqL.of (s1 _ _ hn), atI_nat (by rw [List.getElem?_map, hx]; rfl), ?_⟩
    refine ⟨_, rfl, _, rfl, pA, _, _, us[j1], rfl, rfl, hp1, (by rw [ej1]; exact atI_nat (List.getElem?_eq_getElem l1)), ?_⟩
    refine ⟨_, rfl, _, rfl, pA, _, _, us[j2], rfl, rfl, hp1, (by rw [ej2]; exact atI_nat (List.getElem?_eq_getElem l2)), (by show 3 ≤ sizeLine; decide), ?_⟩
    intro p9 n9; generalize eX : upd _ p9 _ = H9; have s9 := eX ▸ same_new n9 _; have e9 : H9 p9 = some _ := eX ▸ upd_same; clear eX
    have e19 := s9 _ _ e1
    refine ⟨lb, _, _, rfl, rfl, e19, (by rw [lv]; exact Nat.lt_of_le_of_lt (show bars.length ≤ 1000 by omega) (by decide)), ?_⟩
    have xt : x ∉ xs.take i := fun z => by
      have := take_new (nm := id) (by rw [List.map_id]; exact nx) hx z
      exact this rfl
    have t9 : SameT H9 (upd H9 lb (.lst (vs ++ [.ref p9]))) := .list e19
    refine ⟨_, _, _, _, _, bars ++ [⟨x, q1, q2⟩], rfl, fun b o z => ?_, upd_same, paired_snoc (Paired.mapP pb fun v b z => ?_) ⟨p9, _, _, rfl, t9.seqT (SqT.of e9), hq1, hq2⟩, gb.snoc (fun z => ?_) ⟨List.mem_of_getElem? eq1, List.mem_of_getElem? eq2, names_new np eq1 eq2 (fun z => en (by rw [z]))⟩, fun p hp => ?_, by simp; omega⟩
    · rw [upd_ne (ne_of_none z nb)]
      exact s9 _ _ (s1 _ _ z)
    · obtain ⟨a, u1, u2, ea, h1, h2, h3⟩ := z
      exact ⟨a, u1, u2, ea, t9.seqT (Ty.Same.seqT s9 h1), h2, h3⟩
    · obtain ⟨p, hp, ep'⟩ := List.mem_map.mp z
      exact xt ((show p.nm = x from ep') ▸ nm p hp)
    · rw [take_snoc hx]
      rcases List.mem_append.mp hp with z | z
      · exact List.mem_append_left _ (nm p z)
      · rw [List.mem_singleton.mp z]
        simp
  · rintro σ H1 ⟨o4, o5, o6, o7, vs, bars, rfl, s1, e1, pb, gb, nm, lb8⟩
    refine ⟨_, rfl, q lb vs bars H1 s1 nb e1 (Paired.mapP pb fun v b z => ?_) gb (by omega)⟩
    obtain ⟨a, u1, u2, ea, h1, h2, h3⟩ := z
    exact ⟨a, u1, u2, ea, h1, h2.same s1, h3.same s1⟩
theorem no_ways (v : V) : List.lookup ("ways" : Str) [(("way" : Str), v)] = none := by
  have h : (("ways" : Str) == "way") = false := by decide +kernel
  simp [List.lookup, h]
theorem goodF {pins : List PinD} {bars : List BarD} (g : GoodP pins) (b : GoodB pins bars) (lp : pins.length ≤ 6) (lb : bars.length ≤ 8) : GoodF pins bars :=
  ⟨g.np, b.nb, b.ends, fun p hp => ⟨(g.sz p hp).1, (g.sz p hp).2, (g.ws p hp).sz⟩, lp, lb, fun p hp => (g.ws p hp).len⟩
def spPutPinL (K : PySem.W.Frag) (C : Addr) : Sp := fun vs H Q _ => ∃ (a dx pP pW pB d : Addr) (pins : List PinD) (bs : List (Str × Str × Str)) (kP kW kB : List (Key × V)) (v : V) (p : PinD), vs = [.ref a, v] ∧ FrR K H C a dx pP pW pB (mpP pins) bs kP kW kB ∧ WyR K H (mpW pins) kW ∧ PinX K H d v p ∧ p.nm ∉ pins.map (·.nm) ∧ p.sp ∉ pins.map (·.sp) ∧ pins.length < 24 ∧ WaysOk p.ws ∧
  ∀ (H' : Hp) (kP' kW' : List (Key × V)), (∀ b o, b ≠ pP → b ≠ pW → H b = some o → H' b = some o) → FrR K H' C a dx pP pW pB (mpP (pins ++ [p])) bs kP' kW' kB → WyR K H' (mpW (pins ++ [p])) kW' → (∃ l, kW' = kW ++ [(.inr p.nm, .ref l)] ∧ H l = none) → Q .non H'
theorem sc_law_put_pin : FnScope ["_law_frame_here", "_law_pin", "_law_name", "_law_spot", "_law_ways_here", "_law_hold"] ["_law_frame_here", "_law_pin"] (defScope s_law_put_pin) := ⟨rfl, rfl, rfl, by decide +kernel, rfl, by decide +kernel, by decide +kernel⟩
theorem ok_law_put_pin {C CH CR CF fR : Addr} {fdR : FuncData} (D : Def K mg "_law_put_pin" s_law_put_pin ["_law_frame_here", "_law_pin"]) (m_len : mg "len" = none)
    (m_Hold : mg "Hold" = some (.ref CH)) (m_Roller : mg "Roller" = some (.ref CR)) (m_Fixed : mg "Fixed" = some (.ref CF)) (M_Hold : Mk0 K CH) (M_Fixed : Mk0 K CF) (M_Roller : Mk K CR fR) (G_Roller_init : FnOk P w K mg base (CXr P w) 1 fR fdR ["self", "x", "y"] (spRInit K CR)) (b_Roller_init : Binds K fdR ["self", "x", "y"] [])
    (wH : MtdOk P w K mg base (CXr P w) 2 CH "ways" ["self"] (spHold K)) (wR : MtdOk P w K mg base (CXr P w) 2 CR "ways" ["self"] (spRWays K CR)) (wF : MtdOk P w K mg base (CXr P w) 2 CF "ways" ["self"] (spFixed K))
    (MPp : MtdOk P w K mg base (CXr P w) 3 C "put_pin" ["self", "name", "x", "y", "hold"] (spPutPinW P w K mg base C)) :
    Fn P w K mg base (CXr P w) 4 "_law_put_pin" ["_law_frame_here", "_law_pin"] (spPutPinL K C) := by
  refine D.ok sc_law_put_pin (fun vs H Q E h => ?_) (fun f cdv A outer s H vs Q E hr h => ?_)
  · obtain ⟨a, dx, pP, pW, pB, d, pins, bs, kP, kW, kB, v, p, rfl, _⟩ := h
    rfl
  obtain ⟨a, dx, pP, pW, pB, d, pins, bs, kP, kW, kB, v, p, rfl, R, W, hpr, hnm, hsp', hl, wk, q⟩ := h
  have px := passM (X := (cxOf (CXr P w) P w K mg base ["_law_frame_here", "_law_pin", "_law_name", "_law_spot", "_law_ways_here", "_law_hold"] "_law_put_pin" (defScope s_law_put_pin) f cdv A outer s H E)) (CXr.mute (P := P) (w := w))
  obtain ⟨ta, l, sv, ws, rfl, h1, h2, h3, h4, _⟩ := hpr
  obtain ⟨sa, x1, y1, rfl, hsq, hn1, hn2⟩ := h2
  refine ⟨_, (pss_cons (ps_asg (pv 1) (pg_tup rfl (pgs_cons (pg_name (i := 2) sc_law_put_pin.nd rfl (Or.inl rfl)) (pgs_cons (pg_name (i := 3) sc_law_put_pin.nd rfl (Or.inl rfl)) (pgs_cons (pg_name (i := 4) sc_law_put_pin.nd rfl (Or.inl rfl)) pgs_nil)))))
    (pss_cons (ps_set (i := 5) sc_law_put_pin.nd rfl (Or.inl rfl) (pe_mk0 M_Hold rfl m_Hold))
    (pss_cons (ps_if (pt_cmpR op_eq (pe_callB call_len_seq rfl m_len b_len (pac (pv 4) pa_nil)) pe_int (nomark _)) (pss_one (ps_set (i := 5) sc_law_put_pin.nd rfl (Or.inl rfl) (pe_make M_Roller G_Roller_init (hr.mono (by decide)) rfl m_Roller b_Roller_init .nil px (pac (pe_ix ix_tup (pe_ix ix_list (pv 4) pe_int (fun _ _ => rfl)) pe_int (fun _ _ => rfl)) (pac (pe_ix ix_tup (pe_ix ix_list (pv 4) pe_int (fun _ _ => rfl)) pe_int (fun _ _ => rfl)) pa_nil))))) pss_nil)
    (pss_cons (ps_if (pt_cmpR op_eq (pe_callB call_len_seq rfl m_len b_len (pac (pv 4) pa_nil)) pe_int (nomark _)) (pss_one (ps_set (i := 5) sc_law_put_pin.nd rfl (Or.inl rfl) (pe_mk0 M_Fixed rfl m_Fixed))) pss_nil)
    (pss_one (ps_expr (pe_mtd (k := 3) (pv 0) (hr.mono (by decide)) px (pac (pv 2) (pac (pe_ix ix_tup (pv 3) pe_int (fun _ _ => rfl)) (pac (pe_ix ix_tup (pv 3) pe_int (fun _ _ => rfl)) (pac (pv 5) pa_nil))))))))))), ?_⟩
  refine ⟨_, rfl, ta, _, rfl, h1, rfl, _, _, rfl, _, _, rfl, _, _, rfl, rfl, ?_⟩
  have fin : ∀ (h Ch dxh : Addr) (fsh : List (Str × V)) (psh : List Str) (sph : Sp) (H5 : Hp) (Q5 : VK) (E5 : XK), Same H H5 → H5 h = some (.ins Ch dxh fsh) → fsh.lookup ("ways" : Str) = none → MtdOk P w K mg base (CXr P w) 2 Ch "ways" psh sph → (∀ H1, H1 h = some (.ins Ch dxh fsh) → SameT H5 H1 → ∀ Q', AnsR K H1 Q' p.ws → sph [.ref h] H1 Q' E0) →
      (∀ H' kP' kW', (∀ b o, b ≠ pP → b ≠ pW → H b = some o → H' b = some o) → FrR K H' C a dx pP pW pB (mpP (pins ++ [p])) bs kP' kW' kB → WyR K H' (mpW (pins ++ [p])) kW' → (∃ l, kW' = kW ++ [(.inr p.nm, .ref l)] ∧ H l = none) → Q5 .non H') → spPutPinW P w K mg base C [.ref a, .str p.nm, x1, y1, .ref h] H5 Q5 E5 := fun h Ch dxh fsh psh sph H5 Q5 E5 s5 eh hlk MH hsp fin => by
    refine ⟨a, dx, pP, pW, pB, _, _, kP, kW, _, _, p.nm, x1, y1, .ref h, ptQ p.sp, h, Ch, dxh, fsh, psh, sph, p.ws, rfl, R.same s5, W.same s5, by rw [List.map_map, List.map_map]; rfl, hn1.same s5, hn2.same s5, fun z => hnm ?_, fun z hz e => hsp' ?_, ?_, rfl, eh, hlk, MH, hsp, fun H' kP' kW' k' R' W' l' => fin H' kP' kW' (fun b o n1 n2 z => k' b o n1 n2 (s5 _ _ z)) ?_ ?_ ?_⟩
    · rw [List.map_map] at z
      exact z
    · obtain ⟨p', hp', e'⟩ := List.mem_map.mp hz
      rw [← e'] at e
      have e3 : p'.sp = p.sp := Prod.ext (qr_inj (congrArg Prod.fst e)) (qr_inj (congrArg Prod.snd e))
      exact List.mem_map.mpr ⟨p', hp', e3⟩
    · rw [List.length_map]
      exact hl
    · rw [mpP_app]
      exact R'
    · rw [mpW_app]
      exact W'
    · obtain ⟨l', e1, e2⟩ := l'
      exact ⟨l', e1, none_back s5 e2⟩
  intro h0 d0 nh0 nd0 ne0
  have s3 : Same H (upd (upd H d0 (.own h0)) h0 (.ins CH d0 [])) := fun b o e => by rw [upd_ne (ne_of_none e nh0), upd_ne (ne_of_none e nd0)]; exact e
  have e3 : (upd (upd H d0 (.own h0)) h0 (.ins CH d0 [])) h0 = some (.ins CH d0 []) := upd_same
  generalize upd (upd H d0 (.own h0)) h0 (.ins CH d0 []) = H3 at s3 e3 ⊢
  have R3 := R.same s3
  have l3 := SqL.of (K := K) (s3 _ _ h3)
  have lw : ws.length = p.ws.length := Paired.length h4
  have hsq3 := Ty.Same.seqT s3 hsq
  refine ⟨_, rfl, l, _, rfl, .inl l3, rfl, _, rfl, ?_⟩
  rcases wk with hw | ⟨wx, wy, hw, wn, _, _⟩ | hw
  · rw [hw] at lw
    refine ite2 (fun c => by rw [lw] at c; simp at c) (fun _ => ?_)
    refine ⟨_, rfl, l, _, rfl, .inl l3, rfl, _, rfl, ?_⟩
    refine ite2 (fun c => by rw [lw] at c; simp at c) (fun _ => ?_)
    refine ⟨_, rfl, a, C, dx, _, _, _, rfl, R3.obj, rfl, MPp, _, rfl, _, rfl, sa, _, _, _, rfl, rfl, hsq3, at0, _, rfl, sa, _, _, _, rfl, rfl, hsq3, at1, _, rfl, ?_⟩
    dsimp only [tNil]
    refine fin h0 CH d0 [] ["self"] (spHold K) H3 _ _ s3 e3 rfl wH (fun H6 _ _ Q' an => ⟨h0, rfl, by rw [hw] at an; exact an⟩) fun H' kP' kW' k' R' W' l' => q H' kP' kW' k' R' W' l'
  · rw [hw] at lw h4
    obtain ⟨w0, rfl⟩ : ∃ w0, ws = [w0] := by
      match ws, lw with
      | [w0], _ => exact ⟨w0, rfl⟩
    have hw0 : PtR K H w0 (wx, wy) := by
      cases h4 with
      | cons h _ => exact h
    obtain ⟨wa, y2, y3, rfl, hsw, hm1, hm2⟩ := hw0.same s3
    refine ite2 (fun _ => ?_) (fun c => absurd rfl c)
    refine ⟨_, rfl, l, _, _, _, rfl, rfl, l3, rfl, wa, _, _, _, rfl, rfl, hsw, at0, _, rfl, l, _, _, _, rfl, rfl, l3, rfl, wa, _, _, _, rfl, rfl, hsw, at1, ?_⟩
    intro h1' d1 nh1 nd1 ne1
    have s4 : Same H3 (upd (upd H3 d1 (.own h1')) h1' (.ins CR d1 [])) := fun b o e => by rw [upd_ne (ne_of_none e nh1), upd_ne (ne_of_none e nd1)]; exact e
    have e4 : (upd (upd H3 d1 (.own h1')) h1' (.ins CR d1 [])) h1' = some (.ins CR d1 []) := upd_same
    generalize upd (upd H3 d1 (.own h1')) h1' (.ins CR d1 []) = H4 at s4 e4 ⊢
    refine ⟨h1', d1, y2, y3, wx, wy, rfl, e4, hm1.same s4, hm2.same s4, wn, fun p5 n5 => ⟨rfl, ?_⟩⟩
    have hne : p5 ≠ h1' := fun z => by rw [z, e4] at n5; cases n5
    have s5 : Same H3 (upd (upd H4 p5 (.tup [y2, y3])) h1' (.ins CR d1 [("way", .ref p5)])) := fun b o e => by
      have z : b ≠ h1' := fun z => by rw [z, nh1] at e; cases e
      rw [upd_ne z]
      exact same_new n5 _ _ _ (s4 _ _ e)
    have e5 : (upd (upd H4 p5 (.tup [y2, y3])) h1' (.ins CR d1 [("way", .ref p5)])) h1' = some (.ins CR d1 [("way", .ref p5)]) := upd_same
    have t5 : (upd (upd H4 p5 (.tup [y2, y3])) h1' (.ins CR d1 [("way", .ref p5)])) p5 = some (.tup [y2, y3]) := by rw [upd_ne hne, upd_same]
    generalize upd (upd H4 p5 (.tup [y2, y3])) h1' (.ins CR d1 [("way", .ref p5)]) = H5 at s5 e5 t5 ⊢
    have l5 := SqL.of (K := K) (s5 _ _ (s3 _ _ h3))
    have R5 := R3.same s5
    have hsq5 := Ty.Same.seqT s5 hsq3
    have hway : PtR K H5 (.ref p5) (wx, wy) := pt_of t5 (hm1.same s5) (hm2.same s5)
    refine ⟨_, rfl, l, _, rfl, .inl l5, rfl, _, rfl, ?_⟩
    refine ite2 (fun c => by simp at c) (fun _ => ?_)
    refine ⟨_, rfl, a, C, dx, _, _, _, rfl, R5.obj, rfl, MPp, _, rfl, _, rfl, sa, _, _, _, rfl, rfl, hsq5, at0, _, rfl, sa, _, _, _, rfl, rfl, hsq5, at1, _, rfl, ?_⟩
    dsimp only [tNil]
    refine fin h1' CR d1 _ ["self"] (spRWays K CR) H5 _ _ (sm_tr s3 s5) e5 (no_ways _) wR (fun H6 e6 t6 Q' an => ⟨h1', d1, p5, (wx, wy), rfl, e6, hway.sameT t6, by rw [hw] at an; exact an⟩) fun H' kP' kW' k' R' W' l' => q H' kP' kW' k' R' W' l'
  · rw [hw] at lw
    refine ite2 (fun c => by rw [lw] at c; simp at c) (fun _ => ?_)
    refine ⟨_, rfl, l, _, rfl, .inl l3, rfl, _, rfl, ?_⟩
    refine ite2 (fun _ => ?_) (fun c => by rw [lw] at c; simp at c)
    intro h1' d1 nh1 nd1 ne1
    have s4 : Same H3 (upd (upd H3 d1 (.own h1')) h1' (.ins CF d1 [])) := fun b o e => by rw [upd_ne (ne_of_none e nh1), upd_ne (ne_of_none e nd1)]; exact e
    have e4 : (upd (upd H3 d1 (.own h1')) h1' (.ins CF d1 [])) h1' = some (.ins CF d1 []) := upd_same
    generalize upd (upd H3 d1 (.own h1')) h1' (.ins CF d1 []) = H4 at s4 e4 ⊢
    have R4 := R3.same s4
    have hsq4 := Ty.Same.seqT s4 hsq3
    refine ⟨_, rfl, a, C, dx, _, _, _, rfl, R4.obj, rfl, MPp, _, rfl, _, rfl, sa, _, _, _, rfl, rfl, hsq4, at0, _, rfl, sa, _, _, _, rfl, rfl, hsq4, at1, _, rfl, ?_⟩
    dsimp only [tNil]
    refine fin h1' CF d1 [] ["self"] (spFixed K) H4 _ _ (sm_tr s3 s4) e4 rfl wF (fun H6 _ _ Q' an => ⟨h1', rfl, by rw [hw] at an; exact an⟩) fun H' kP' kW' k' R' W' l' => q H' kP' kW' k' R' W' l'
def spFrameL (K : PySem.W.Frag) (C : Addr) : Sp := fun vs H Q _ => ∃ (pA bA : Addr) (us vs' : List V) (pins : List PinD) (bars : List BarD), vs = [.ref pA, .ref bA] ∧ H pA = some (.lst us) ∧ Paired (PinX K H pA) us pins ∧ H bA = some (.lst vs') ∧ Paired (BarR K H pA) vs' bars ∧ GoodP pins ∧ GoodB pins bars ∧ pins.length ≤ 6 ∧ bars.length ≤ 8 ∧
  ∀ (a dx pP pW pB : Addr) (H' : Hp), Same H H' → FrB K H' C a dx pP pW pB pA pins bars → Q (.ref a) H'
theorem sc_law_frame : FnScope ["_law_pins_here", "_law_bars_here", "_law_frame_here", "_law_pin", "_law_name", "_law_one", "_law_other"] ["_law_pins_here", "_law_bars_here"] (defScope s_law_frame) := ⟨rfl, rfl, rfl, by decide +kernel, rfl, by decide +kernel, by decide +kernel⟩
theorem ok_law_frame {C fI : Addr} {fdI : FuncData} (D : Def K mg "_law_frame" s_law_frame ["_law_pins_here", "_law_bars_here"]) (M_Frame : Mk K C fI) (m_Frame : mg "Frame" = some (.ref C)) (G_Frame_init : FnOk P w K mg base (CXr P w) 1 fI fdI ["self"] (spFInit K C)) (b_Frame_init : Binds K fdI ["self"] [])
    (G_law_put_pin : Fn P w K mg base (CXr P w) 4 "_law_put_pin" ["_law_frame_here", "_law_pin"] (spPutPinL K C)) (MPb : MtdOk P w K mg base (CXr P w) 3 C "put_bar" ["self", "name", "one", "other"] (spPutBar K C)) :
    Fn P w K mg base (CXr P w) 5 "_law_frame" ["_law_pins_here", "_law_bars_here"] (spFrameL K C) := by
  refine D.ok sc_law_frame (fun vs H Q E h => ?_) (fun f cdv A outer s H vs Q E hr h => ?_)
  · obtain ⟨pA, bA, us, vs', pins, bars, rfl, _⟩ := h
    rfl
  obtain ⟨pA, bA, us, vs', pins, bars, rfl, hp, pp, hb, pb, gp, gb, lp6, lb8, q⟩ := h
  have px := passM (X := (cxOf (CXr P w) P w K mg base ["_law_pins_here", "_law_bars_here", "_law_frame_here", "_law_pin", "_law_name", "_law_one", "_law_other"] "_law_frame" (defScope s_law_frame) f cdv A outer s H E)) (CXr.mute (P := P) (w := w))
  have lu : us.length = pins.length := Paired.length pp
  have lv : vs'.length = bars.length := Paired.length pb
  refine ⟨_, (pss_cons (ps_set (i := 2) sc_law_frame.nd rfl (Or.inl rfl) (pe_make0 M_Frame G_Frame_init (hr.mono (by decide)) rfl m_Frame b_Frame_init .nil px))
    (pss_cons (ps_for PassesOwn.never rfl (pi_list (pv 0)) (pg_name (i := 3) sc_law_frame.nd rfl (Or.inl rfl)) (pss_one (ps_expr (pe_fn G_law_put_pin (hr.mono (by decide)) px (pac (pv 2) (pac (pv 3) pa_nil))))))
    (pss_cons (ps_for PassesOwn.never rfl (pi_list (pv 1)) (pg_tup rfl (pgs_cons (pg_name (i := 4) sc_law_frame.nd rfl (Or.inl rfl)) (pgs_cons (pg_name (i := 5) sc_law_frame.nd rfl (Or.inl rfl)) (pgs_cons (pg_name (i := 6) sc_law_frame.nd rfl (Or.inl rfl)) pgs_nil)))) (pss_one (ps_expr (pe_mtd (k := 3) (pv 2) (hr.mono (by decide)) px (pac (pv 4) (pac (pe_ix ix_tup (pv 5) pe_int (fun _ _ => rfl)) (pac (pe_ix ix_tup (pv 6) pe_int (fun _ _ => rfl)) pa_nil)))))))
    (pss_one (ps_ret (pv 2)))))), ?_⟩
  intro a dx na ndx nad
  have sF : Same H (upd (upd H dx (.own a)) a (.ins C dx [])) := fun b o e => by rw [upd_ne (ne_of_none e na), upd_ne (ne_of_none e ndx)]; exact e
  refine ⟨a, dx, rfl, upd_same, fun pP pW pB H1 k1 nP nW nB R1 => ⟨rfl, ?_⟩⟩
  have s1 : Same H H1 := fun b o e => k1 b o (ne_of_none e na) (sF _ _ e)
  have nP := none_back sF nP
  have nW := none_back sF nW
  have nB := none_back sF nB
  refine ⟨_, rfl, pA, rfl, ⟨_, SqL.of (s1 _ _ hp)⟩, for_list (K := K) (a := pA) (xs := us) (fun i σ H' => ∃ (o3 : Option V) (kP kW : List (Key × V)), σ = [some (.ref pA), some (.ref bA), some (.ref a), o3, none, none, none] ∧ Same H H' ∧ FrR K H' C a dx pP pW pB (mpP (pins.take i)) [] kP kW [] ∧ WyR K H' (mpW (pins.take i)) kW ∧ ∀ kv ∈ kW, kv.2 ≠ .ref pA) ⟨none, [], [], rfl, s1, R1, .nil, fun kv h => nomatch h⟩ (fun i σ H' _ h => by
      obtain ⟨_, _, _, _, s, _⟩ := h
      exact SqL.of (s _ _ hp)) ?_ ?_⟩
  · rintro i u σ H2 hu ⟨o3, kP, kW, rfl, s2, R2, W2, n2⟩
    obtain ⟨p, ep, hpr⟩ := paired_get pp hu
    have mp : p ∈ pins := List.mem_of_getElem? ep
    have tk := take_snoc ep
    have il : i < pins.length := (List.getElem?_eq_some_iff.mp ep).1
    refine ⟨_, rfl, _, rfl, a, dx, pP, pW, pB, pA, pins.take i, [], kP, kW, [], u, p, rfl, R2, W2, hpr.same s2, fun z => ?_, fun z => ?_, ?_, gp.ws p mp, fun H' kP' kW' k' R' W' l' => ?_⟩
    · obtain ⟨p', hp', e'⟩ := List.mem_map.mp z
      exact take_new (nm := PinD.nm) gp.np ep hp' e'
    · obtain ⟨p', hp', e3⟩ := List.mem_map.mp z
      obtain ⟨j, hj, ej⟩ := List.mem_iff_getElem.mp hp'
      rw [List.getElem_take] at ej
      rw [List.length_take] at hj
      have q1 : (pins.map (·.sp))[j]? = some p.sp := by rw [List.getElem?_map, List.getElem?_eq_getElem (by omega), ej, ← e3]; rfl
      have q2 : (pins.map (·.sp))[i]? = some p.sp := by rw [List.getElem?_map, ep]; rfl
      have := (List.getElem?_inj (by rw [List.length_map]; omega) gp.ns).mp (q1.trans q2.symm)
      omega
    · rw [List.length_take]
      omega
    · obtain ⟨l, rfl, nl⟩ := l'
      refine ⟨_, kP', _, rfl, fun b o z => k' b o (ne_of_none z nP) (ne_of_none z nW) (s2 _ _ z), by rw [tk]; exact R', by rw [tk]; exact W', fun kv h => ?_⟩
      rcases List.mem_append.mp h with h | h
      · exact n2 kv h
      · rw [List.mem_singleton.mp h]
        intro z
        cases z
        have := s2 _ _ hp
        rw [nl] at this
        cases this
  · rintro σ H2 ⟨o3, kP, kW, rfl, s2, R2, W2, n2⟩
    rw [lu, List.take_length] at R2 W2
    refine ⟨_, rfl, bA, rfl, ⟨_, SqL.of (s2 _ _ hb)⟩, for_list (K := K) (a := bA) (xs := vs') (fun i σ H' => ∃ (o4 o7 o8 : Option V) (kB : List (Key × V)), σ = [some (.ref pA), some (.ref bA), some (.ref a), o3, o4, o7, o8] ∧ Same H H' ∧ FrR K H' C a dx pP pW pB (mpP pins) (mpB (bars.take i)) kP kW kB ∧ WyR K H' (mpW pins) kW) ⟨none, none, none, [], rfl, s2, R2, W2⟩ (fun i σ H' _ h => by
        obtain ⟨_, _, _, _, _, s, _⟩ := h
        exact SqL.of (s _ _ hb)) ?_ ?_⟩
    · rintro i u σ H3 hu ⟨o4, o7, o8, kB, rfl, s3, R3, W3⟩
      obtain ⟨b, ebr, hbr⟩ := paired_get pb hu
      have mb : b ∈ bars := List.mem_of_getElem? ebr
      obtain ⟨ta, u1, u2, rfl, h1, ⟨a1, l1, sv1, us1, rfl, h11, _⟩, ⟨a2, l2, sv2, us2, rfl, h21, _⟩⟩ := hbr.same s3
      obtain ⟨m1, m2, m3⟩ := gb.ends b mb
      have tk := take_snoc ebr
      have il : i < bars.length := (List.getElem?_eq_some_iff.mp ebr).1
      refine ⟨ta, _, rfl, h1, rfl, _, _, rfl, _, _, rfl, _, _, rfl, rfl, ?_⟩
      refine ⟨_, rfl, a, C, dx, _, _, _, rfl, R3.obj, rfl, MPb, _, rfl, _, rfl, a1, _, _, _, rfl, rfl, h11, rfl, _, rfl, a2, _, _, _, rfl, rfl, h21, rfl, ?_⟩
      refine ⟨a, dx, pP, pW, pB, _, _, kP, kW, kB, b.nm, b.one.nm, b.other.nm, rfl, R3, fun z => ?_, ?_, ?_, m3, ?_, fun H' kB' k' R' => ?_⟩
      · rw [List.map_map] at z
        obtain ⟨b', hb', e'⟩ := List.mem_map.mp z
        exact take_new (nm := BarD.nm) gb.nb ebr hb' e'
      · rw [List.map_map]
        exact List.mem_map.mpr ⟨_, m1, rfl⟩
      · rw [List.map_map]
        exact List.mem_map.mpr ⟨_, m2, rfl⟩
      · rw [List.length_map, List.length_take]
        omega
      · refine ⟨_, _, _, kB', rfl, fun c o z => k' c o (ne_of_none z nB) (s3 _ _ z), ?_, wy_ks W3 k' R3.br⟩
        rw [tk, mpB_app]
        exact R'
    · rintro σ H3 ⟨o4, o7, o8, kB, rfl, s3, R3, W3⟩
      rw [lv, List.take_length] at R3
      exact ⟨_, rfl, q a dx pP pW pB H3 s3 ⟨kP, kW, kB, R3, W3, n2⟩⟩
theorem k_dd : PySem.W.kitOne K (.type "dict") (.type "dict") = some true := by unfold PySem.W.kitOne; rw [if_pos (by decide)]
theorem k_ll : PySem.W.kitOne K (.type "list") (.type "list") = some true := by unfold PySem.W.kitOne; rw [if_pos (by decide)]
theorem iss_strs {K : PySem.W.Frag} {H : Hp} : ∀ ws : List Str, Iss K H (ws.map fun w => Da.v (.str w)) (ws.map V.str)
  | [] => by unfold Iss; trivial
  | w :: ws => by
    rw [List.map_cons, List.map_cons]
    unfold Iss
    refine ⟨?_, iss_strs ws⟩
    unfold Is
    exact ⟨rfl, rfl⟩
theorem strs_eq : ∀ ws : List Str, eqDas (ws.map fun w => Da.v (.str w)) (ws.map fun w => Da.v (.str w)) = true
  | [] => by simp [eqDas]
  | w :: ws => by
    rw [List.map_cons]
    unfold eqDas
    rw [strs_eq ws]
    simp [eqDa, eqV]
theorem strs_al : ∀ ws : List Str, alikes (ws.map fun w => Da.v (.str w)) (ws.map fun w => Da.v (.str w)) = true
  | [] => by simp [alikes]
  | w :: ws => by
    rw [List.map_cons]
    unfold alikes
    rw [strs_al ws]
    simp [alike]
theorem strs_dep : ∀ ws : List Str, deps (ws.map fun w => Da.v (.str w)) ≤ 60
  | [] => by simp [deps]
  | w :: ws => by
    rw [List.map_cons]
    unfold deps
    have := strs_dep ws
    simp only [dep]
    omega
theorem ne_strs {K : PySem.W.Frag} {H : Hp} {p p2 : Addr} {ws : List Str} {Q : VK} (e1 : H p = some (.lst (ws.map V.str))) (e2 : H p2 = some (.lst (ws.map V.str))) (q : Q (.bl false) H) : rNeDa K (.ref p) (.ref p2) H Q := by
  refine ⟨ws.map fun w => Da.v (.str w), ws.map fun w => Da.v (.str w), .inr ⟨?_, ?_⟩, strs_al ws, strs_dep ws, by rw [strs_eq]; exact q⟩
  · unfold Is
    exact ⟨p, _, rfl, SqL.of e1, iss_strs ws⟩
  · unfold Is
    exact ⟨p2, _, rfl, SqL.of e2, iss_strs ws⟩
theorem at_hd {v : V} {r : List V} : atI (v :: r) 0 = some v := by
  exact atI_nat (xs := v :: r) (j := 0) rfl
theorem nms_comp {α : Type} {nm : α → Str} {Rl : V → α → Prop} {σ : L2.St} {o : Option V} {H : Hp} {pA : Addr} {us : List V} {zs : List α} {R : VK} (hp : H pA = some (.lst us)) (pp : Paired Rl us zs) (hr : ∀ v z, Rl v z → ∃ a r, v = .ref a ∧ SqT K H a (.str (nm z) :: r)) (l : zs.length ≤ 1000) (k : ∀ (D : Addr) (H' : Hp), Same H H' → H' D = some (.lst ((zs.map nm).map V.str)) → R (.ref D) H') :
    tComp 1 [] (iList K (tVar 1)) (gName 0) tYes (tOp (rIxT K) (tVar 0) (tC (V.int 0))) (o :: some (.ref pA) :: σ) H R := by
  have lu : us.length = zs.length := Paired.length pp
  refine ⟨_, rfl, pA, rfl, ⟨_, SqL.of hp⟩, fun D1 n1 => ?_⟩
  refine comp_list (cap := []) (K := K) (a := pA) (xs := us) (fun i v _ => ∃ p, zs[i]? = some p ∧ v = .str (nm p)) n1 (by rw [lu]; exact Nat.lt_of_le_of_lt l (by decide)) (fun H2 s2 => SqL.of (s2 _ _ hp)) (fun _ _ _ _ _ _ _ h => h) ?_ ?_
  · intro i u H2 R hu s2 k
    obtain ⟨p, ep, hpr⟩ := paired_get pp hu
    obtain ⟨a, r, rfl, h1⟩ := hr _ _ hpr
    exact ⟨_, rfl, a, _, _, _, rfl, rfl, Ty.Same.seqT s2 h1, at_hd, k _ _ (Same.refl _) ⟨p, ep, rfl⟩⟩
  · intro ys H2 hy hrel s2 hD
    refine k D1 H2 s2 ?_
    rw [hD]
    congr 2
    refine List.ext_getElem? fun i => ?_
    rw [List.map_map, List.getElem?_map]
    by_cases c : i < ys.length
    · obtain ⟨p, e1, e2⟩ := hrel i ys[i] (List.getElem?_eq_getElem c)
      rw [List.getElem?_eq_getElem c, e1, e2]
      rfl
    · rw [List.getElem?_eq_none (by omega), List.getElem?_eq_none (by omega)]
      rfl
theorem keys_nms {α : Type} {nm : α → Str} {kM : List (Key × V)} {zs : List α} (h : kM.map (·.1) = zs.map (fun p => (Sum.inr (nm p) : Key))) : (kM.map fun kv => kV kv.1) = (zs.map nm).map V.str := by
  have : (kM.map fun kv => kV kv.1) = (kM.map (·.1)).map kV := by rw [List.map_map]; rfl
  rw [this, h, List.map_map, List.map_map]
  rfl
theorem PinX.nm {H : Hp} {d : Addr} {v : V} {p : PinD} (h : PinX K H d v p) : ∃ a r, v = .ref a ∧ SqT K H a (.str p.nm :: r) := by
  obtain ⟨a, l, sv, us, e, h1, _⟩ := h
  exact ⟨a, _, e, h1⟩
theorem BarR.nm {H : Hp} {d : Addr} {v : V} {b : BarD} (h : BarR K H d v b) : ∃ a r, v = .ref a ∧ SqT K H a (.str b.nm :: r) := by
  obtain ⟨a, u1, u2, e, h1, _⟩ := h
  exact ⟨a, _, e, h1⟩
def RowR (K : PySem.W.Frag) (H : Hp) (u : V) (r : Str × V) : Prop := ∃ a, u = .ref a ∧ SqT K H a [.str r.1, r.2]
theorem RowR.same {K : PySem.W.Frag} {H H' : Hp} {u : V} {r : Str × V} (h : RowR K H u r) (s : Same H H') : RowR K H' u r := by
  obtain ⟨a, e, h⟩ := h
  exact ⟨a, e, Ty.Same.seqT s h⟩
def hdd (rows : List (Str × V)) : List (Key × V) := (rows.filter fun r => !decide (r.2 = V.non)).map fun r => ((Sum.inr r.1 : Key), r.2)
def turnB (b : Bool) (rows : List (Str × V)) : List (Str × V) := if b then rows.reverse else rows
theorem hdd_snoc {rows : List (Str × V)} {r : Str × V} : hdd (rows ++ [r]) = hdd rows ++ (if r.2 = V.non then [] else [(Sum.inr r.1, r.2)]) := by
  unfold hdd
  rw [List.filter_append, List.map_append]
  by_cases c : r.2 = V.non
  · rw [if_pos c, List.filter_cons_of_neg (by simp [c])]
    rfl
  · rw [if_neg c, List.filter_cons_of_pos (by simp [c])]
    rfl
theorem hdd_keys {rows : List (Str × V)} {x : Str} (h : (Sum.inr x : Key) ∈ (hdd rows).map (·.1)) : x ∈ rows.map (·.1) := by
  obtain ⟨kv, h1, h2⟩ := List.mem_map.mp h
  obtain ⟨r, h3, h4⟩ := List.mem_map.mp h1
  rw [← h4] at h2
  have e : r.1 = x := Sum.inr.inj h2
  exact List.mem_map.mpr ⟨r, (List.mem_filter.mp h3).1, e⟩
theorem hdd_len {rows : List (Str × V)} : (hdd rows).length ≤ rows.length := by
  unfold hdd
  rw [List.length_map]
  exact List.length_filter_le _ _
theorem paired_rev {α β : Type} {F : α → β → Prop} {l₁ : List α} {l₂ : List β} (h : Paired F l₁ l₂) : Paired F l₁.reverse l₂.reverse := by
  have e := Paired.length h
  refine paired_of (by rw [List.length_reverse, List.length_reverse, e]) fun i a b e1 e2 => ?_
  have i1 : i < l₁.reverse.length := (List.getElem?_eq_some_iff.mp e1).1
  rw [List.length_reverse] at i1
  rw [List.getElem?_reverse i1] at e1
  rw [List.getElem?_reverse (by omega)] at e2
  obtain ⟨b', eb, h'⟩ := paired_get h e1
  rw [e] at eb
  rw [e2] at eb
  cases eb
  exact h'
def spHanded (K : PySem.W.Frag) : Sp := fun vs H Q _ => ∃ (l : Addr) (b : Bool) (us : List V) (rows : List (Str × V)), vs = [.ref l, .bl b] ∧ H l = some (.lst us) ∧ Paired (RowR K H) us rows ∧ (rows.map (·.1)).Nodup ∧ rows.length ≤ 8 ∧
  ∀ (e : Addr) (H' : Hp), Same H H' → H e = none → H' e = some (.dK (hdd (turnB b rows))) → Q (.ref e) H'
theorem sc_law_handed : FnScope ["_law_rows", "_law_about", "_law_found", "_law_name", "_law_thing"] ["_law_rows", "_law_about"] (defScope s_law_handed) := ⟨rfl, rfl, rfl, by decide +kernel, rfl, by decide +kernel, by decide +kernel⟩
theorem ok_law_handed (D : Def K mg "_law_handed" s_law_handed ["_law_rows", "_law_about"]) : Fn P w K mg base (CXr P w) 1 "_law_handed" ["_law_rows", "_law_about"] (spHanded K) := by
  refine D.ok sc_law_handed (fun vs H Q E h => ?_) (fun f cdv A outer s H vs Q E hr h => ?_)
  · obtain ⟨l, b, us, rows, rfl, _⟩ := h
    rfl
  obtain ⟨l, b, us, rows, rfl, hl, pr, nd, lr, q⟩ := h
  have nd' : ((turnB b rows).map (·.1)).Nodup := by
    unfold turnB
    cases b
    · exact nd
    · rw [if_pos rfl, List.map_reverse]
      exact (List.reverse_perm _).nodup_iff.mpr nd
  have lr' : (turnB b rows).length ≤ 8 := by
    unfold turnB
    cases b
    · exact lr
    · rw [if_pos rfl, List.length_reverse]
      exact lr
  refine ⟨_, (pss_cons (ps_set (i := 2) sc_law_handed.nd rfl (Or.inl rfl) pe_dnewK)
    (pss_cons (ps_if (pt_val (pv 1)) (pss_one (ps_set (i := 0) sc_law_handed.nd rfl (Or.inl rfl) (pe_rev (K := K) rfl (pv 0) (pe_un un_neg pe_int)))) pss_nil)
    (pss_cons (ps_for PassesOwn.never rfl (pi_list (pv 0)) (pg_tup rfl (pgs_cons (pg_name (i := 3) sc_law_handed.nd rfl (Or.inl rfl)) (pgs_cons (pg_name (i := 4) sc_law_handed.nd rfl (Or.inl rfl)) pgs_nil))) (pss_one (ps_if (pt_cmpR op_notN (pv 4) pe_non (nomark _)) (pss_one (ps_dput (hu_of hr) (pv 2) (pv 3) (pv 4) rfl)) pss_nil)))
    (pss_one (ps_ret (pv 2)))))), ?_⟩
  intro e ne; generalize eX : upd _ e _ = H1; have s1 := eX ▸ same_new ne _; have e1 : H1 e = some _ := eX ▸ upd_same; clear eX
  dsimp only
  refine seq_rest (fun σ' H' => ∃ (l' : Addr) (us' : List V), σ' = [some (.ref l'), some (.bl b), some (.ref e), none, none] ∧ Same H H' ∧ H' e = some (.dK []) ∧ H' l' = some (.lst us') ∧ Paired (RowR K H) us' (turnB b rows)) (fun Nx hNx => ?_) ?_
  · refine ⟨_, rfl, _, rfl, ?_⟩
    cases b with
    | true =>
      refine ite2 (fun _ => ?_) (fun c => absurd rfl c)
      refine ⟨_, rfl, _, rfl, rfl, l, us, rfl, SqL.of (s1 _ _ hl), ?_⟩
      intro l2 n2; generalize eX : upd _ l2 _ = H2; have s2 := eX ▸ same_new n2 _; have e2 : H2 l2 = some _ := eX ▸ upd_same; clear eX
      exact hNx _ _ ⟨l2, _, rfl, sm_tr s1 s2, s2 _ _ e1, e2, paired_rev pr⟩
    | false =>
      refine ite2 (fun c => nomatch c) (fun _ => ?_)
      exact hNx _ _ ⟨l, us, rfl, s1, e1, s1 _ _ hl, pr⟩
  rintro σ' H2 ⟨l', us', rfl, s2, e2, hl2, pr2⟩
  generalize turnB b rows = rs at q pr2 nd' lr'
  have lu : us'.length = rs.length := Paired.length pr2
  have nl : l' ≠ e := fun z => by rw [z, e2] at hl2; cases hl2
  refine ⟨_, rfl, l', rfl, ⟨_, SqL.of hl2⟩, for_list (K := K) (a := l') (xs := us') (fun i σ H' => ∃ (o3 o4 : Option V), σ = [some (.ref l'), some (.bl b), some (.ref e), o3, o4] ∧ Same H H' ∧ H' e = some (.dK (hdd (rs.take i))) ∧ H' l' = some (.lst us')) ⟨none, none, rfl, s2, e2, hl2⟩ (fun i σ H' _ h => by
      obtain ⟨_, _, _, _, _, h⟩ := h
      exact SqL.of h) ?_ ?_⟩
  · rintro i u σ H3 hu ⟨o3, o4, rfl, s3, e3, l3⟩
    obtain ⟨r, er, hrr⟩ := paired_get pr2 hu
    obtain ⟨a, rfl, ht⟩ := hrr.same s3
    have tk := take_snoc er
    have i8 : i < rs.length := (List.getElem?_eq_some_iff.mp er).1
    refine ⟨a, _, rfl, ht, rfl, _, _, rfl, _, _, rfl, rfl, ?_⟩
    refine ⟨_, rfl, rfl, _, rfl, ?_⟩
    refine ite2 (fun c => ?_) (fun c => ?_)
    · have c' : r.2 ≠ V.non := by simpa using c
      have lk := hdd_len (rows := rs.take i)
      rw [List.length_take] at lk
      refine ⟨_, rfl, _, rfl, _, rfl, e, _, rfl, DPut.k (k := .inr r.1) e3 (Nat.lt_of_le_of_lt (show (hdd (rs.take i)).length ≤ 1000 by omega) (by decide)), ?_⟩
      refine ⟨_, _, rfl, fun b' o z => ?_, ?_, ?_⟩
      · rw [upd_ne (ne_of_none z ne)]
        exact s3 _ _ z
      · rw [upd_same, tk, hdd_snoc, if_neg c', putK_new _ (valV_none fun z => ?_)]
        obtain ⟨r', h1, h2⟩ := List.mem_map.mp (hdd_keys z)
        exact take_new (nm := Prod.fst) nd' er h1 h2
      · rw [upd_ne nl]
        exact l3
    · have c' : r.2 = V.non := by simpa using c
      refine ⟨_, _, rfl, s3, ?_, l3⟩
      rw [tk, hdd_snoc, if_pos c', List.append_nil]
      exact e3
  · rintro σ H3 ⟨o3, o4, rfl, s3, e3, l3⟩
    rw [lu, List.take_length] at e3
    exact ⟨_, rfl, q e H3 s3 ne e3⟩
def spMoved (K : PySem.W.Frag) : Sp := fun vs H Q _ => ∃ c sc : Int, vs = [.int c, .int sc] ∧ intBits c ≤ 2000000 ∧ 0 ≤ sc ∧ sc ≤ 997 ∧
  ∀ (v : V) (H' : Hp), Same H H' → (v ≠ .non → ∃ m : Rat × Rat, PtR K H' v m ∧ Sz 50 m.1 ∧ Sz 50 m.2) → Q v H'
theorem sc_law_moved : FnScope ["_law_cell", "_law_scale"] ["_law_cell", "_law_scale"] (defScope s_law_moved) := ⟨rfl, rfl, rfl, by decide +kernel, rfl, by decide +kernel, by decide +kernel⟩
theorem ok_law_moved (D : Def K mg "_law_moved" s_law_moved ["_law_cell", "_law_scale"]) (G_law_part : Fn P w K mg base (CXr P w) 1 "_law_part" ["_law_cell", "_law_k"] spPart) (G_law_drawn : Fn P w K mg base (CXr P w) 34 "_law_drawn" ["_law_cell", "_law_scale"] spDrawn) :
    Fn P w K mg base (CXr P w) 35 "_law_moved" ["_law_cell", "_law_scale"] (spMoved K) := by
  refine D.ok sc_law_moved (fun vs H Q E h => ?_) (fun f cdv A outer s H vs Q E hr h => ?_)
  · obtain ⟨c, sc, rfl, _⟩ := h
    rfl
  obtain ⟨c, sc, rfl, bc, c0, c9, q⟩ := h
  have px := passM (X := (cxOf (CXr P w) P w K mg base ["_law_cell", "_law_scale"] "_law_moved" (defScope s_law_moved) f cdv A outer s H E)) (CXr.mute (P := P) (w := w))
  have d5 : CDivB c 5 := ⟨by decide, by decide +kernel⟩
  have b5 := bits_fdiv (a := c) (m := 5) (by decide) bc
  refine ⟨_, (pss_cons (ps_if (pt_cmpR op_eq (pe_op op_modB (pv 0) pe_int) pe_int (nomark _)) (pss_one (ps_ret pe_non)) pss_nil)
    (pss_one (ps_ret (pe_tup (pac (pe_fn G_law_drawn (hr.mono (by decide)) px (pac (pe_fn G_law_part (hr.mono (by decide)) px (pac (pe_op op_fdivB (pv 0) pe_int) (pac pe_int pa_nil))) (pac (pv 1) pa_nil))) (pac (pe_fn G_law_drawn (hr.mono (by decide)) px (pac (pe_fn G_law_part (hr.mono (by decide)) px (pac (pe_op op_fdivB (pv 0) pe_int) (pac pe_int pa_nil))) (pac (pv 1) pa_nil))) pa_nil)))))), ?_⟩
  refine ⟨_, rfl, _, _, rfl, rfl, nz (by decide), rfl, _, rfl, ?_⟩
  refine ite2 (fun _ => q _ _ (Same.refl _) fun z => absurd rfl z) (fun _ => ?_)
  refine ⟨_, rfl, _, _, rfl, rfl, d5, _, _, rfl, b5, by decide, by decide, fun c3 H3 h30 h31 s3 => ?_⟩
  have b3 : intBits c3 ≤ 2000000 := Nat.le_trans (intBits_le_64 (by omega) (by omega)) (by decide)
  refine ⟨_, rfl, _, _, rfl, b3, c0, c9, fun r1 z1 _ p1 H4 s4 e4 => ?_⟩
  refine ⟨_, rfl, _, _, rfl, rfl, d5, _, _, rfl, b5, by decide, by decide, fun c5 H5 h50 h51 s5 => ?_⟩
  have b5 : intBits c5 ≤ 2000000 := Nat.le_trans (intBits_le_64 (by omega) (by omega)) (by decide)
  refine ⟨_, rfl, _, _, rfl, b5, c0, c9, fun r2 z2 _ p2 H6 s6 e6 => ⟨(by show 2 ≤ sizeLine; decide), ?_⟩⟩
  intro p7 n7; generalize eX : upd _ p7 _ = H7; have s7 := eX ▸ same_new n7 _; have e7 : H7 p7 = some _ := eX ▸ upd_same; clear eX
  exact q _ H7 (sm_tr (sm_tr s3 s4) (sm_tr (sm_tr s5 s6) s7)) fun _ => ⟨(r1, r2), pt_of e7 (((nm_of e4).same s5).same s6 |>.same s7) ((nm_of e6).same s7), z1, z2⟩
theorem sc_law_along : FnScope ["_law_way", "_law_spot"] ["_law_way", "_law_spot"] (defScope s_law_along) := ⟨rfl, rfl, rfl, by decide +kernel, rfl, by decide +kernel, by decide +kernel⟩
theorem ok_law_along (hM : Mute CX) (D : Def K mg "_law_along" s_law_along ["_law_way", "_law_spot"]) (G_law_plus : Fn P w K mg base CX 34 "_law_plus" ["_law_x", "_law_y"] (spBinR K fun a b => a + b)) (G_law_times : Fn P w K mg base CX 34 "_law_times" ["_law_x", "_law_y"] (spBinR K fun a b => a * b)) : Fn P w K mg base CX 35 "_law_along" ["_law_way", "_law_spot"] (spDot K) := by
  refine D.ok sc_law_along (fun vs H Q E h => ?_) (fun f cdv A outer s H vs Q E hr h => ?_)
  · obtain ⟨u, v, x, y, rfl, _⟩ := h
    rfl
  obtain ⟨u, v, x, y, rfl, ⟨p1, a1, a2, rfl, h1, n1, n2⟩, ⟨p2, b1, b2, rfl, h2, m1, m2⟩, k1, k2, l1, l2, q⟩ := h
  have px := passM (X := (cxOf (CXr P w) P w K mg base ["_law_way", "_law_spot"] "_law_along" (defScope s_law_along) f cdv A outer s H E)) hM
  refine ⟨_, (pss_one (ps_ret (pe_fn G_law_plus (hr.mono (by decide)) px (pac (pe_fn G_law_times (hr.mono (by decide)) px (pac (pe_ix ix_tup (pv 0) pe_int (fun _ _ => rfl)) (pac (pe_ix ix_tup (pv 1) pe_int (fun _ _ => rfl)) pa_nil))) (pac (pe_fn G_law_times (hr.mono (by decide)) px (pac (pe_ix ix_tup (pv 0) pe_int (fun _ _ => rfl)) (pac (pe_ix ix_tup (pv 1) pe_int (fun _ _ => rfl)) pa_nil))) pa_nil))))), ?_⟩
  refine ⟨_, rfl, p1, _, _, _, rfl, rfl, h1, at0, _, rfl, p2, _, _, _, rfl, rfl, h2, at0, a1, b1, _, _, rfl, n1, m1, k1.up (by decide), l1.up (by decide), fun c1 H1 s1 e1 => ?_⟩
  refine ⟨_, rfl, p1, _, _, _, rfl, rfl, Ty.Same.seqT s1 h1, at1, _, rfl, p2, _, _, _, rfl, rfl, Ty.Same.seqT s1 h2, at1, a2, b2, _, _, rfl, n2.same s1, m2.same s1, k2.up (by decide), l2.up (by decide), fun c2 H2 s2 e2 => ?_⟩
  refine ⟨.ref c1, .ref c2, _, _, rfl, ⟨c1, rfl, SqT.of (s2 _ _ e1)⟩, ⟨c2, rfl, SqT.of e2⟩, (k1.mul l1).up (by decide), (k2.mul l2).up (by decide), fun c3 H3 s3 e3 => ?_⟩
  exact q c3 H3 (fun b o z => s3 _ _ (s2 _ _ (s1 _ _ z))) e3
theorem sc_law_less : FnScope ["_law_one", "_law_other"] ["_law_one", "_law_other"] (defScope s_law_less) := ⟨rfl, rfl, rfl, by decide +kernel, rfl, by decide +kernel, by decide +kernel⟩
theorem ok_law_less (D : Def K mg "_law_less" s_law_less ["_law_one", "_law_other"]) (m_tuple : mg "tuple" = none) (m_range : mg "range" = none) (G_law_plus : Fn P w K mg base (CXr P w) 34 "_law_plus" ["_law_x", "_law_y"] (spBinR K fun a b => a + b)) :
    Fn P w K mg base (CXr P w) 35 "_law_less" ["_law_one", "_law_other"] (spPair K fun a b => a - b) := by
  refine D.ok sc_law_less (fun vs H Q E h => ?_) (fun f cdv A outer s H vs Q E hr h => ?_)
  · obtain ⟨u, v, x, y, rfl, _⟩ := h
    rfl
  obtain ⟨u, v, x, y, rfl, ⟨p1, a1, a2, rfl, h1, n1, n2⟩, ⟨p2, b1, b2, rfl, h2, m1, m2⟩, k1, k2, l1, l2, q⟩ := h
  refine ⟨_, (pss_one (ps_ret (pe_callTy call_tupL rfl m_tuple b_tuple (pac (pe_comp (tn := ["_law_k"]) (fr := ["_law_other", "_law_one"]) (caps := [1, 0]) rfl ⟨rfl, by decide +kernel, rfl, by decide +kernel, by decide +kernel, rfl, ⟨(by first | exact Or.inl rfl | exact Or.inr rfl), ⟨(by first | exact Or.inl rfl | exact Or.inr rfl), trivial⟩⟩, ⟨(by first | exact Or.inl rfl | exact Or.inr rfl), ⟨(by first | exact Or.inl rfl | exact Or.inr rfl), trivial⟩⟩⟩ (pi_range1 rfl m_range (pac pe_int pa_nil)) (fun _ _ _ _ => (pg_name (i := 0) (show (["_law_k", "_law_other", "_law_one"] : List Str).Nodup from by decide +kernel) rfl (Or.inl rfl))) (fun _ _ _ _ => pf_nil) (fun _ _ _ _ => (pe_fn G_law_plus (hr.mono (by decide)) (passB (by first | assumption | exact CXr.mute) rfl) (pac (pe_ix (ix_tupK (K := K) rfl) (pv 2) (pv 0) (fun _ _ => rfl)) (pac (pe_tup (pac (pe_op op_sub pe_int (pe_ix (ix_tupK (K := K) rfl) (pe_ix (ix_tupK (K := K) rfl) (pv 1) (pv 0) (fun _ _ => rfl)) pe_int (fun _ _ => rfl))) (pac (pe_ix (ix_tupK (K := K) rfl) (pe_ix (ix_tupK (K := K) rfl) (pv 1) (pv 0) (fun _ _ => rfl)) pe_int (fun _ _ => rfl)) pa_nil))) pa_nil))))) pa_nil)))), ?_⟩
  refine ⟨2, rfl, by decide, by decide, fun D1 nD => ?_⟩
  refine comp_range (lo := 0) (n := 2) (cap := [some (.ref p2), some (.ref p1)]) (fun i v H => NmR K H v (if i = 0 then x.1 - y.1 else x.2 - y.2)) nD (by show 2 < sizeLine; decide) (fun _ _ _ _ _ h0 ks h => by
      refine NmR.sameT h fun b xs r => ?_
      rcases r with r | ⟨o', r⟩
      · exact .inl (ks _ _ (fun e => by rw [e, h0] at r; cases r) r)
      · exact .inr ⟨o', ks _ _ (fun e => by rw [e, h0] at r; cases r) r⟩) ?_ ?_
  · intro i H2 R hi s2 k
    obtain ⟨a, b, r1, r2, e1, e2, hn, hm, z1, z2, er⟩ : ∃ a b r1 r2, atI [a1, a2] ((0 : Int) + (i : Int)) = some a ∧ atI [b1, b2] ((0 : Int) + (i : Int)) = some b ∧ NmR K H a r1 ∧ NmR K H b r2 ∧ Sz 100000 r1 ∧ Sz 100000 r2 ∧ r1 + -r2 = (if i = 0 then x.1 - y.1 else x.2 - y.2) := by
      match i, hi with
      | 0, _ => exact ⟨a1, b1, _, _, rfl, rfl, n1, m1, k1, l1, by rw [if_pos rfl]; grind⟩
      | 1, _ => exact ⟨a2, b2, _, _, rfl, rfl, n2, m2, k2, l2, by rw [if_neg (by decide)]; grind⟩
    obtain ⟨pb, rfl, hb⟩ := id hm
    refine ⟨_, rfl, _, rfl, p1, _, _, _, rfl, rfl, Ty.Same.seqT s2 h1, e1, ?_⟩
    refine ⟨_, rfl, _, rfl, p2, _, _, _, rfl, rfl, Ty.Same.seqT s2 h2, e2, pb, _, _, _, rfl, rfl, Ty.Same.seqT s2 hb, at0, _, _, rfl, rfl, ?_⟩
    refine ⟨_, rfl, _, rfl, p2, _, _, _, rfl, rfl, Ty.Same.seqT s2 h2, e2, pb, _, _, _, rfl, rfl, Ty.Same.seqT s2 hb, at1, (by show 2 ≤ sizeLine; decide), ?_⟩
    intro p6 n6; generalize eX : upd _ p6 _ = H6; have s6 := eX ▸ same_new n6 _; have e6 : H6 p6 = some _ := eX ▸ upd_same; clear eX
    have e6' : H6 p6 = some (.tup [.int (qr (-r2)).1, .int (qr (-r2)).2]) := by rw [e6, qr_neg]; show some (HO.tup [V.int (0 - (qr r2).1), V.int (qr r2).2]) = some (HO.tup [V.int (-(qr r2).1), V.int (qr r2).2]); rw [Int.zero_sub]
    refine ⟨a, .ref p6, r1, -r2, rfl, (hn.same s2).same s6, nm_of e6', z1, z2.neg, fun c7 H7 s7 e7 => ?_⟩
    change H7 c7 = some (.tup [.int (qr (r1 + -r2)).1, .int (qr (r1 + -r2)).2]) at e7
    rw [er] at e7
    exact k _ H7 (sm_tr s6 s7) (nm_of e7)
  · intro ys H2 hy hrel s2 hD
    refine ⟨D1, ys, rfl, SqL.of hD, ?_⟩
    intro p6 n6; generalize eX : upd _ p6 _ = H6; have s6 := eX ▸ same_new n6 _; have e6 : H6 p6 = some _ := eX ▸ upd_same; clear eX
    obtain ⟨w1, w2, rfl⟩ : ∃ w1 w2, ys = [w1, w2] := by
      match ys, hy with
      | [w1, w2], _ => exact ⟨w1, w2, rfl⟩
    exact q _ H6 (sm_tr s2 s6) (pt_of e6 ((hrel 0 w1 rfl).same s6) ((hrel 1 w2 rfl).same s6))
theorem k_ii : PySem.W.kitOne K (.type "int") (.type "int") = some true := by unfold PySem.W.kitOne; rw [if_pos (by decide)]
theorem k_ib : PySem.W.kitOne K (.type "int") (.type "bool") = some false := kind_sub ⟨by decide, fun _ => ⟨by decide +kernel, by decide +kernel⟩⟩
theorem eq_num1 (x : Int × Int) : eqDas [.v (.int x.1), .v (.int x.2)] [.v (.int x.1), .v (.int x.2)] = true := by
  simp [eqDas, eqDa, eqV]
def spNumber (K : PySem.W.Frag) : Sp := fun vs H Q _ => ∃ (u v : V) (r : Rat), vs = [u, v] ∧ NmR K H u r ∧ NmR K H v r ∧ ∀ H', Same H H' → Q (.bl true) H'
theorem sc_law_number : FnScope ["_law_found", "_law_due"] ["_law_found", "_law_due"] (defScope s_law_number) := ⟨rfl, rfl, rfl, by decide +kernel, rfl, by decide +kernel, by decide +kernel⟩
theorem ok_law_number (D : Def K mg "_law_number" s_law_number ["_law_found", "_law_due"]) (m_len : mg "len" = none) (m_all : mg "all" = none) (m_isinstance : mg "isinstance" = none) (m_int : mg "int" = none) (m_bool : mg "bool" = none) (m_tuple : mg "tuple" = none) :
    Fn P w K mg base (CXr P w) 1 "_law_number" ["_law_found", "_law_due"] (spNumber K) := by
  refine D.ok sc_law_number (fun vs H Q E h => ?_) (fun f cdv A outer s H vs Q E hr h => ?_)
  · obtain ⟨u, v, r, rfl, _⟩ := h
    rfl
  obtain ⟨_, _, r, rfl, ⟨p1, rfl, h1⟩, ⟨p2, rfl, h2⟩, q⟩ := h
  generalize qr r = x at h1 h2
  refine ⟨_, (pss_cons (ps_if (PW.pt (pw_or (pt_not (pt_val (pe_callB call_isiT rfl m_isinstance b_isinstance (pac (pv 0) (pac (pe_ty rfl m_tuple b_tuple) pa_nil))))) (pw_or (pt_cmpR op_ne (pe_callB call_len_seq rfl m_len b_len (pac (pv 0) pa_nil)) pe_int (nomark _)) (pw_or1 (pt_cmpR (op_neDa hr.units) (pv 0) (pv 1) (nomark _)))))) (pss_one (ps_ret pe_bl)) pss_nil)
    (pss_one (ps_ret (pe_callB (call_allB rfl) rfl m_all b_all (pac (pe_comp (tn := ["_law_one"]) (fr := []) (caps := []) rfl ⟨rfl, by decide +kernel, rfl, by decide +kernel, by decide +kernel, rfl, trivial, trivial⟩ (pi_tup (pv 0)) (fun _ _ _ _ => (pg_name (i := 0) (show (["_law_one"] : List Str).Nodup from by decide +kernel) rfl (Or.inl rfl))) (fun _ _ _ _ => pf_nil) (fun _ _ _ _ => (pe_and (pe_callB (call_isiK (K := K) rfl) rfl m_isinstance b_isinstance (pac (pv 0) (pac (pe_ty rfl m_int b_int) pa_nil))) (pe_one (pe_not (pe_callB (call_isiK (K := K) rfl) rfl m_isinstance b_isinstance (pac (pv 0) (pac (pe_ty rfl m_bool b_bool) pa_nil)))))))) pa_nil))))), ?_⟩
  refine ⟨_, rfl, p1, _, rfl, h1, _, rfl, ?_⟩
  refine ite2 (fun c => nomatch c) (fun _ => ?_)
  refine ⟨_, rfl, p1, _, rfl, .inr h1, rfl, _, rfl, ?_⟩
  refine iteNS rfl ?_
  refine ⟨_, rfl, _, rfl, _, _, .inl ⟨is_numF (q := x) ⟨p1, rfl, h1⟩, is_numF (q := x) ⟨p2, rfl, h2⟩⟩, rfl, dep_num, _, rfl, ?_⟩
  rw [eq_num1 x]
  refine ite2 (fun c => nomatch c) (fun _ => ?_)
  refine ⟨_, rfl, p1, rfl, ⟨_, h1⟩, fun D1 nD => ?_⟩
  refine comp_tup (cap := []) (K := K) (a := p1) (xs := [.int x.1, .int x.2]) (fun _ v _ => v = .bl true) nD (by show 2 < sizeLine; decide) (fun H2 s2 => Ty.Same.seqT s2 h1) (fun _ _ _ _ _ _ _ h => h) ?_ ?_
  · intro i z H2 R hi s2 k
    obtain ⟨n, rfl⟩ : ∃ n, z = V.int n := by
      match i, hi with
      | 0, hi => exact ⟨_, (Option.some.inj hi).symm⟩
      | 1, hi => exact ⟨_, (Option.some.inj hi).symm⟩
    refine ⟨_, rfl, _, _, _, true, rfl, rfl, .int n, k_ii, _, rfl, ?_⟩
    refine ite2 (fun _ => ?_) (fun c => absurd rfl c)
    refine ⟨_, rfl, _, _, _, false, rfl, rfl, .int n, k_ib, _, rfl, ?_⟩
    exact k _ _ (Same.refl _) rfl
  · intro ys H2 hy hrel s2 hD
    obtain ⟨w1, w2, rfl⟩ : ∃ w1 w2, ys = [w1, w2] := by
      match ys, hy with
      | [w1, w2], _ => exact ⟨w1, w2, rfl⟩
    have e1 : w1 = .bl true := hrel 0 w1 rfl
    have e2 : w2 = .bl true := hrel 1 w2 rfl
    subst e1 e2
    exact ⟨D1, [true, true], rfl, SqL.of hD, q _ s2⟩
def spLonger (K : PySem.W.Frag) : Sp := fun vs H Q _ => ∃ (e bA d pA : Addr) (kv km : List (Key × V)) (vs' : List V) (pins : List PinD) (bars : List BarD) (M : Str → Option (Rat × Rat)), vs = [.ref e, .ref bA, .ref d] ∧ H e = some (.dK kv) ∧ kv.map (·.1) = bars.map (fun b => (Sum.inr b.nm : Key)) ∧ (∀ b ∈ bars, ∃ v, valV kv (.inr b.nm) = some v ∧ NmR K H v (lenB M b)) ∧
  H bA = some (.lst vs') ∧ Paired (BarR K H pA) vs' bars ∧ GoodF pins bars ∧ H d = some (.dK km) ∧ PtD K H km M ∧ mvSz M ∧ ∀ H', Same H H' → Q (.bl true) H'
theorem sc_law_longer : FnScope ["_law_found", "_law_bars_here", "_law_motion", "_law_still", "_law_name", "_law_one", "_law_other", "_law_apart"] ["_law_found", "_law_bars_here", "_law_motion"] (defScope s_law_longer) := ⟨rfl, rfl, rfl, by decide +kernel, rfl, by decide +kernel, by decide +kernel⟩
theorem ok_law_longer (D : Def K mg "_law_longer" s_law_longer ["_law_found", "_law_bars_here", "_law_motion"]) (m_isinstance : mg "isinstance" = none) (m_dict : mg "dict" = none) (m_list : mg "list" = none) (G_law_less : Fn P w K mg base (CXr P w) 35 "_law_less" ["_law_one", "_law_other"] (spPair K fun a b => a - b)) (G_law_along : Fn P w K mg base (CXr P w) 35 "_law_along" ["_law_way", "_law_spot"] (spDot K)) (G_law_number : Fn P w K mg base (CXr P w) 1 "_law_number" ["_law_found", "_law_due"] (spNumber K)) :
    Fn P w K mg base (CXr P w) 36 "_law_longer" ["_law_found", "_law_bars_here", "_law_motion"] (spLonger K) := by
  refine D.ok sc_law_longer (fun vs H Q E h => ?_) (fun f cdv A outer s H vs Q E hr h => ?_)
  · obtain ⟨e, bA, d, pA, kv, km, vs', pins, bars, M, rfl, _⟩ := h
    rfl
  obtain ⟨e, bA, d, pA, kv, km, vs', pins, bars, M, rfl, he, ks, tl, hb, pb, g, hd, pM, zM, q⟩ := h
  have px := passM (X := (cxOf (CXr P w) P w K mg base ["_law_found", "_law_bars_here", "_law_motion", "_law_still", "_law_name", "_law_one", "_law_other", "_law_apart"] "_law_longer" (defScope s_law_longer) f cdv A outer s H E)) (CXr.mute (P := P) (w := w))
  have L2 : 2 ≤ sizeLine := by decide
  have lb := g.lb
  refine ⟨_, (pss_cons (ps_set (i := 3) sc_law_longer.nd rfl (Or.inl rfl) (pe_tup (pac (pe_tup (pac pe_int (pac pe_int pa_nil))) (pac (pe_tup (pac pe_int (pac pe_int pa_nil))) pa_nil))))
    (pss_cons (ps_if (PW.pt (pw_or (pt_not (pt_val (pe_callB call_isi rfl m_isinstance b_isinstance (pac (pv 0) (pac (pe_ty rfl m_dict b_dict) pa_nil))))) (pw_or1 (pt_cmpR (op_neDa hr.units) (pe_listKs rfl rfl m_list (pv 0)) (pe_comp (tn := ["_law_bar"]) (fr := []) (caps := []) rfl ⟨rfl, by decide +kernel, rfl, by decide +kernel, by decide +kernel, rfl, trivial, trivial⟩ (pi_list (pv 1)) (fun _ _ _ _ => (pg_name (i := 0) (show (["_law_bar"] : List Str).Nodup from by decide +kernel) rfl (Or.inl rfl))) (fun _ _ _ _ => pf_nil) (fun _ _ _ _ => (pe_ix (ix_tupK (K := K) rfl) (pv 0) pe_int (fun _ _ => rfl)))) (nomark _))))) (pss_one (ps_ret pe_bl)) pss_nil)
    (pss_cons (ps_for PassesOwn.never rfl (pi_list (pv 1)) (pg_tup rfl (pgs_cons (pg_name (i := 4) sc_law_longer.nd rfl (Or.inl rfl)) (pgs_cons (pg_name (i := 5) sc_law_longer.nd rfl (Or.inl rfl)) (pgs_cons (pg_name (i := 6) sc_law_longer.nd rfl (Or.inl rfl)) pgs_nil)))) (pss_cons (ps_set (i := 7) sc_law_longer.nd rfl (Or.inl rfl) (pe_fn G_law_less (hr.mono (by decide)) px (pac (pe_dget2 (hu_of hr) (pv 2) (pe_ix ix_tup (pv 6) pe_int (fun _ _ => rfl)) (pv 3) ⟨rfl, rfl, rfl, rfl⟩) (pac (pe_dget2 (hu_of hr) (pv 2) (pe_ix ix_tup (pv 5) pe_int (fun _ _ => rfl)) (pv 3) ⟨rfl, rfl, rfl, rfl⟩) pa_nil))))
      (pss_one (ps_if (pt_not (pt_val (pe_fn G_law_number (hr.mono (by decide)) px (pac (pe_dget (hu_of hr) (pv 0) (pv 4) (fun _ _ => rfl)) (pac (pe_fn G_law_along (hr.mono (by decide)) px (pac (pe_fn G_law_less (hr.mono (by decide)) px (pac (pe_ix ix_tup (pv 6) pe_int (fun _ _ => rfl)) (pac (pe_ix ix_tup (pv 5) pe_int (fun _ _ => rfl)) pa_nil))) (pac (pv 7) pa_nil))) pa_nil))))) (pss_one (ps_ret pe_bl)) pss_nil))))
    (pss_one (ps_ret pe_bl))))), ?_⟩
  refine ⟨L2, ?_⟩
  intro p1 n1; generalize eX : upd _ p1 _ = H1; have s1 := eX ▸ same_new n1 _; have e1 : H1 p1 = some _ := eX ▸ upd_same; clear eX
  refine ⟨L2, ?_⟩
  intro p2 n2; generalize eX : upd _ p2 _ = H2; have s2 := eX ▸ same_new n2 _; have e2 : H2 p2 = some _ := eX ▸ upd_same; clear eX
  refine ⟨L2, ?_⟩
  intro p3 n3; generalize eX : upd _ p3 _ = H3; have s3 := eX ▸ same_new n3 _; have e3 : H3 p3 = some _ := eX ▸ upd_same; clear eX
  have s03 := sm_tr (sm_tr s1 s2) s3
  have still : PtR K H3 (.ref p3) (0, 0) := pt_of e3 (((nm_lit 0 e1).same s2).same s3) ((nm_lit 0 e2).same s3)
  refine ⟨_, rfl, _, _, _, true, rfl, rfl, .dK (s03 _ _ he), k_dd, _, rfl, ?_⟩
  refine ite2 (fun c => nomatch c) (fun _ => ?_)
  refine ⟨_, rfl, e, kv, rfl, s03 _ _ he, ?_⟩
  intro l4 n4; generalize eX : upd _ l4 _ = H4; have s4 := eX ▸ same_new n4 _; have e4 : H4 l4 = some _ := eX ▸ upd_same; clear eX
  rw [keys_nms (nm := BarD.nm) ks] at e4
  have s04 := sm_tr s03 s4
  refine nms_comp (nm := BarD.nm) (s04 _ _ hb) (Paired.mapP pb fun _ _ z => z.same s04) (fun _ _ z => z.nm) (by omega) fun D5 H5 s5 e5 => ?_
  refine ne_strs (s5 _ _ e4) e5 ?_
  refine ⟨_, rfl, ?_⟩
  refine ite2 (fun c => nomatch c) (fun _ => ?_)
  have s05 := sm_tr s04 s5
  have still5 := (still.same s4).same s5
  refine ⟨_, rfl, bA, rfl, ⟨_, SqL.of (s05 _ _ hb)⟩, for_list (K := K) (a := bA) (xs := vs') (fun i σ H' => ∃ (o4 o5 o6 o7 : Option V), σ = [some (.ref e), some (.ref bA), some (.ref d), some (.ref p3), o4, o5, o6, o7] ∧ Same H5 H') ⟨none, none, none, none, rfl, Same.refl _⟩ (fun i σ H' _ h => by
      obtain ⟨_, _, _, _, _, s⟩ := h
      exact SqL.of (s _ _ (s05 _ _ hb))) ?_ ?_⟩
  · rintro i u σ H6 hu ⟨o4, o5, o6, o7, rfl, s6⟩
    obtain ⟨b, ebr, hbr⟩ := paired_get pb hu
    have mb : b ∈ bars := List.mem_of_getElem? ebr
    have s06 := sm_tr s05 s6
    obtain ⟨ta, u1, u2, rfl, h1, ⟨a1, l1, sv1, us1, rfl, h11, h12, _⟩, ⟨a2, l2, sv2, us2, rfl, h21, h22, _⟩⟩ := hbr.same s06
    obtain ⟨m1, m2, m3⟩ := g.ends b mb
    refine ⟨ta, _, rfl, h1, rfl, _, _, rfl, _, _, rfl, _, _, rfl, rfl, ?_⟩
    have d6 := s06 _ _ hd
    have P6 := pM.same s06
    have still6 := still5.same s6
    refine ⟨_, rfl, d, rfl, .inl ⟨_, .inl d6⟩, _, rfl, a2, _, _, _, rfl, rfl, h21, rfl, _, rfl, _, DGet.k (k := .inr b.other.nm) d6, ?_⟩
    refine ⟨_, rfl, d, rfl, .inl ⟨_, .inl d6⟩, _, rfl, a1, _, _, _, rfl, rfl, h11, rfl, _, rfl, _, DGet.k (k := .inr b.one.nm) d6, ?_⟩
    have g1 : PtR K H6 ((valV km (.inr b.other.nm)).getD (.ref p3)) (mv M b.other.nm) := P6.dget still6
    have g2 : PtR K H6 ((valV km (.inr b.one.nm)).getD (.ref p3)) (mv M b.one.nm) := P6.dget still6
    generalize (valV km (.inr b.other.nm)).getD (.ref p3) = v1 at g1 ⊢
    generalize (valV km (.inr b.one.nm)).getD (.ref p3) = v2 at g2 ⊢
    have z1 := zM b.other.nm
    have z2 := zM b.one.nm
    refine ⟨v1, v2, _, _, rfl, g1, g2, z1.1.up (by decide), z1.2.up (by decide), z2.1.up (by decide), z2.2.up (by decide), fun v3 H7 s7 h7 => ?_⟩
    obtain ⟨v, ev, hv⟩ := tl b mb
    have e7 := s7 _ _ (s06 _ _ he)
    have dg : DGet H7 e (.str b.nm) (some v) := by
      have := DGet.k (k := .inr b.nm) e7
      rw [ev] at this
      exact this
    refine ⟨_, rfl, _, rfl, e, _, rfl, dg, ?_⟩
    have y1 := g.sz _ m1
    have y2 := g.sz _ m2
    refine ⟨_, rfl, a2, _, _, _, rfl, rfl, Ty.Same.seqT s7 h21, rfl, _, rfl, a1, _, _, _, rfl, rfl, Ty.Same.seqT s7 h11, rfl, sv2, sv1, _, _, rfl, h22.same s7, h12.same s7, y2.1.up (by decide), y2.2.1.up (by decide), y1.1.up (by decide), y1.2.1.up (by decide), fun v8 H8 s8 h8 => ?_⟩
    refine ⟨_, rfl, v8, v3, _, _, rfl, h8, h7.same s8, (y2.1.sub y1.1).up (by decide), (y2.2.1.sub y1.2.1).up (by decide), (z1.1.sub z2.1).up (by decide), (z1.2.sub z2.2).up (by decide), fun c9 H9 s9 h9 => ?_⟩
    have s79 := sm_tr s7 (sm_tr s8 s9)
    refine ⟨v, .ref c9, lenB M b, rfl, (hv.same s06).same s79, ⟨c9, rfl, SqT.of h9⟩, fun HA sA => ?_⟩
    refine ⟨_, rfl, ?_⟩
    refine ite2 (fun c => nomatch c) (fun _ => ?_)
    exact ⟨_, _, _, _, rfl, sm_tr s6 (sm_tr s79 sA)⟩
  · rintro σ H6 ⟨o4, o5, o6, o7, rfl, s6⟩
    exact q _ (sm_tr s05 s6)
def spSlipped (K : PySem.W.Frag) : Sp := fun vs H Q _ => ∃ (e pA d : Addr) (kv km : List (Key × V)) (us : List V) (pins : List PinD) (bars : List BarD) (M : Str → Option (Rat × Rat)), vs = [.ref e, .ref pA, .ref d] ∧ H e = some (.dK kv) ∧ kv.map (·.1) = pins.map (fun b => (Sum.inr b.nm : Key)) ∧ (∀ p ∈ pins, ∃ l us, valV kv (.inr p.nm) = some (.ref l) ∧ H l = some (.lst us) ∧ Paired (NmR K H) us (slipsOf M p)) ∧
  H pA = some (.lst us) ∧ Paired (PinX K H pA) us pins ∧ GoodF pins bars ∧ H d = some (.dK km) ∧ PtD K H km M ∧ mvSz M ∧ ∀ H', Same H H' → Q (.bl true) H'
theorem sc_law_slipped : FnScope ["_law_found", "_law_pins_here", "_law_motion", "_law_still", "_law_name", "_law_spot", "_law_ways_here", "_law_some", "_law_k"] ["_law_found", "_law_pins_here", "_law_motion"] (defScope s_law_slipped) := ⟨rfl, rfl, rfl, by decide +kernel, rfl, by decide +kernel, by decide +kernel⟩
theorem ok_law_slipped (D : Def K mg "_law_slipped" s_law_slipped ["_law_found", "_law_pins_here", "_law_motion"]) (m_isinstance : mg "isinstance" = none) (m_dict : mg "dict" = none) (m_list : mg "list" = none) (m_len : mg "len" = none) (m_range : mg "range" = none) (G_law_along : Fn P w K mg base (CXr P w) 35 "_law_along" ["_law_way", "_law_spot"] (spDot K)) (G_law_number : Fn P w K mg base (CXr P w) 1 "_law_number" ["_law_found", "_law_due"] (spNumber K)) :
    Fn P w K mg base (CXr P w) 36 "_law_slipped" ["_law_found", "_law_pins_here", "_law_motion"] (spSlipped K) := by
  refine D.ok sc_law_slipped (fun vs H Q E h => ?_) (fun f cdv A outer s H vs Q E hr h => ?_)
  · obtain ⟨e, pA, d, kv, km, us, pins, bars, M, rfl, _⟩ := h
    rfl
  obtain ⟨e, pA, d, kv, km, us, pins, bars, M, rfl, he, ks, tl, hp, pp, g, hd, pM, zM, q⟩ := h
  have px := passM (X := (cxOf (CXr P w) P w K mg base ["_law_found", "_law_pins_here", "_law_motion", "_law_still", "_law_name", "_law_spot", "_law_ways_here", "_law_some", "_law_k"] "_law_slipped" (defScope s_law_slipped) f cdv A outer s H E)) (CXr.mute (P := P) (w := w))
  have L2 : 2 ≤ sizeLine := by decide
  have lp := g.lp
  refine ⟨_, (pss_cons (ps_set (i := 3) sc_law_slipped.nd rfl (Or.inl rfl) (pe_tup (pac (pe_tup (pac pe_int (pac pe_int pa_nil))) (pac (pe_tup (pac pe_int (pac pe_int pa_nil))) pa_nil))))
    (pss_cons (ps_if (PW.pt (pw_or (pt_not (pt_val (pe_callB call_isi rfl m_isinstance b_isinstance (pac (pv 0) (pac (pe_ty rfl m_dict b_dict) pa_nil))))) (pw_or1 (pt_cmpR (op_neDa hr.units) (pe_listKs rfl rfl m_list (pv 0)) (pe_comp (tn := ["_law_pin"]) (fr := []) (caps := []) rfl ⟨rfl, by decide +kernel, rfl, by decide +kernel, by decide +kernel, rfl, trivial, trivial⟩ (pi_list (pv 1)) (fun _ _ _ _ => (pg_name (i := 0) (show (["_law_pin"] : List Str).Nodup from by decide +kernel) rfl (Or.inl rfl))) (fun _ _ _ _ => pf_nil) (fun _ _ _ _ => (pe_ix (ix_tupK (K := K) rfl) (pv 0) pe_int (fun _ _ => rfl)))) (nomark _))))) (pss_one (ps_ret pe_bl)) pss_nil)
    (pss_cons (ps_for PassesOwn.never rfl (pi_list (pv 1)) (pg_tup rfl (pgs_cons (pg_name (i := 4) sc_law_slipped.nd rfl (Or.inl rfl)) (pgs_cons (pg_name (i := 5) sc_law_slipped.nd rfl (Or.inl rfl)) (pgs_cons (pg_name (i := 6) sc_law_slipped.nd rfl (Or.inl rfl)) pgs_nil)))) (pss_cons (ps_set (i := 7) sc_law_slipped.nd rfl (Or.inl rfl) (pe_dget (hu_of hr) (pv 0) (pv 4) (fun _ _ => rfl)))
      (pss_cons (ps_if (PW.pt (pw_or (pt_not (pt_val (pe_callB call_isi rfl m_isinstance b_isinstance (pac (pv 7) (pac (pe_ty rfl m_list b_list) pa_nil))))) (pw_or1 (pt_cmpR op_ne (pe_callB call_len_seq rfl m_len b_len (pac (pv 7) pa_nil)) (pe_callB call_len_seq rfl m_len b_len (pac (pv 6) pa_nil)) (nomark _))))) (pss_one (ps_ret pe_bl)) pss_nil)
      (pss_one (ps_for PassesOwn.never rfl (pi_range1 rfl m_range (pac (pe_callB call_len_seq rfl m_len b_len (pac (pv 6) pa_nil)) pa_nil)) (pg_name (i := 8) sc_law_slipped.nd rfl (Or.inl rfl)) (pss_one (ps_if (pt_not (pt_val (pe_fn G_law_number (hr.mono (by decide)) px (pac (pe_ix ix_list (pv 7) (pv 8) (fun _ _ => rfl)) (pac (pe_fn G_law_along (hr.mono (by decide)) px (pac (pe_ix ix_list (pv 6) (pv 8) (fun _ _ => rfl)) (pac (pe_dget2 (hu_of hr) (pv 2) (pv 4) (pv 3) ⟨rfl, rfl, rfl, rfl⟩) pa_nil))) pa_nil))))) (pss_one (ps_ret pe_bl)) pss_nil)))))))
    (pss_one (ps_ret pe_bl))))), ?_⟩
  refine ⟨L2, ?_⟩
  intro p1 n1; generalize eX : upd _ p1 _ = H1; have s1 := eX ▸ same_new n1 _; have e1 : H1 p1 = some _ := eX ▸ upd_same; clear eX
  refine ⟨L2, ?_⟩
  intro p2 n2; generalize eX : upd _ p2 _ = H2; have s2 := eX ▸ same_new n2 _; have e2 : H2 p2 = some _ := eX ▸ upd_same; clear eX
  refine ⟨L2, ?_⟩
  intro p3 n3; generalize eX : upd _ p3 _ = H3; have s3 := eX ▸ same_new n3 _; have e3 : H3 p3 = some _ := eX ▸ upd_same; clear eX
  have s03 := sm_tr (sm_tr s1 s2) s3
  have still : PtR K H3 (.ref p3) (0, 0) := pt_of e3 (((nm_lit 0 e1).same s2).same s3) ((nm_lit 0 e2).same s3)
  refine ⟨_, rfl, _, _, _, true, rfl, rfl, .dK (s03 _ _ he), k_dd, _, rfl, ?_⟩
  refine ite2 (fun c => nomatch c) (fun _ => ?_)
  refine ⟨_, rfl, e, kv, rfl, s03 _ _ he, ?_⟩
  intro l4 n4; generalize eX : upd _ l4 _ = H4; have s4 := eX ▸ same_new n4 _; have e4 : H4 l4 = some _ := eX ▸ upd_same; clear eX
  rw [keys_nms (nm := PinD.nm) ks] at e4
  have s04 := sm_tr s03 s4
  refine nms_comp (nm := PinD.nm) (s04 _ _ hp) (Paired.mapP pp fun _ _ z => z.same s04) (fun _ _ z => z.nm) (by omega) fun D5 H5 s5 e5 => ?_
  refine ne_strs (s5 _ _ e4) e5 ?_
  refine ⟨_, rfl, ?_⟩
  refine ite2 (fun c => nomatch c) (fun _ => ?_)
  have s05 := sm_tr s04 s5
  have still5 := (still.same s4).same s5
  refine ⟨_, rfl, pA, rfl, ⟨_, SqL.of (s05 _ _ hp)⟩, for_list (K := K) (a := pA) (xs := us) (fun i σ H' => ∃ (o4 o5 o6 o7 o8 : Option V), σ = [some (.ref e), some (.ref pA), some (.ref d), some (.ref p3), o4, o5, o6, o7, o8] ∧ Same H5 H') ⟨none, none, none, none, none, rfl, Same.refl _⟩ (fun i σ H' _ h => by
      obtain ⟨_, _, _, _, _, _, s⟩ := h
      exact SqL.of (s _ _ (s05 _ _ hp))) ?_ ?_⟩
  · rintro i u σ H6 hu ⟨o4, o5, o6, o7, o8, rfl, s6⟩
    obtain ⟨p, ep, hpr⟩ := paired_get pp hu
    have mp : p ∈ pins := List.mem_of_getElem? ep
    have s06 := sm_tr s05 s6
    obtain ⟨ta, lw, sv, uw, rfl, h1, h2, h3, h4, _⟩ := hpr.same s06
    refine ⟨ta, _, rfl, h1, rfl, _, _, rfl, _, _, rfl, _, _, rfl, rfl, ?_⟩
    obtain ⟨l, ws, ev, hl, pl⟩ := tl p mp
    have dg : DGet H6 e (.str p.nm) (some (.ref l)) := by
      have := DGet.k (k := .inr p.nm) (s06 _ _ he)
      rw [ev] at this
      exact this
    have hl6 := s06 _ _ hl
    have lws : ws.length = p.ws.length := by
      have := Paired.length pl
      unfold slipsOf at this
      rw [List.length_map] at this
      exact this
    have luw : uw.length = p.ws.length := Paired.length h4
    have l2 := g.lw p mp
    refine ⟨_, rfl, _, rfl, e, _, rfl, dg, ?_⟩
    refine ⟨_, rfl, _, _, _, true, rfl, rfl, .lst hl6, k_ll, _, rfl, ?_⟩
    refine ite2 (fun c => nomatch c) (fun _ => ?_)
    refine ⟨_, rfl, l, _, rfl, .inl (SqL.of hl6), _, rfl, lw, _, rfl, .inl (SqL.of h3), rfl, _, rfl, ?_⟩
    rw [lws, luw]
    refine iteNS rfl ?_
    refine ⟨_, rfl, lw, _, rfl, .inl (SqL.of h3), ((p.ws.length : Nat) : Int), (by rw [luw]), by omega, by omega, for_range (lo := 0) (n := p.ws.length) (fun j σ H' => ∃ o8, σ = [some (.ref e), some (.ref pA), some (.ref d), some (.ref p3), some (.str p.nm), some sv, some (.ref lw), some (.ref l), o8] ∧ Same H6 H') ⟨_, rfl, Same.refl _⟩ ?_ ?_⟩
    · rintro j σ H7 hj ⟨o8', rfl, s7⟩
      have ei : (0 : Int) + (j : Int) = (j : Int) := Int.zero_add _
      rw [ei]
      have s07 := sm_tr s06 s7
      obtain ⟨x, hx⟩ : ∃ x, ws[j]? = some x := ⟨_, List.getElem?_eq_getElem (by omega)⟩
      obtain ⟨y, hy⟩ : ∃ y, uw[j]? = some y := ⟨_, List.getElem?_eq_getElem (by omega)⟩
      obtain ⟨r, er, hr'⟩ := paired_get pl hx
      obtain ⟨wy, ewy, hwy⟩ := paired_get h4 hy
      unfold slipsOf at er
      rw [List.getElem?_map, ewy] at er
      cases er
      have d7 := s07 _ _ hd
      refine ⟨_, rfl, _, rfl, l, _, _, x, rfl, rfl, SqL.of (s07 _ _ hl), atI_nat hx, ?_⟩
      refine ⟨_, rfl, _, rfl, lw, _, _, y, rfl, rfl, SqL.of (s7 _ _ h3), atI_nat hy, _, rfl, d, rfl, .inl ⟨_, .inl d7⟩, _, rfl, _, rfl, _, DGet.k (k := .inr p.nm) d7, ?_⟩
      have g1 : PtR K H7 ((valV km (.inr p.nm)).getD (.ref p3)) (mv M p.nm) := (pM.same s07).dget ((still5.same s6).same s7)
      generalize (valV km (.inr p.nm)).getD (.ref p3) = v1 at g1 ⊢
      have z1 := zM p.nm
      have zw := (g.sz p mp).2.2 wy (List.mem_of_getElem? ewy)
      refine ⟨y, v1, wy, _, rfl, hwy.same s7, g1, zw.1.up (by decide), zw.2.up (by decide), z1.1.up (by decide), z1.2.up (by decide), fun c8 H8 s8 h8 => ?_⟩
      refine ⟨x, .ref c8, _, rfl, (hr'.same s07).same s8, ⟨c8, rfl, SqT.of h8⟩, fun H9 s9 => ?_⟩
      refine ⟨_, rfl, ?_⟩
      refine ite2 (fun c => nomatch c) (fun _ => ?_)
      exact ⟨_, rfl, sm_tr s7 (sm_tr s8 s9)⟩
    · rintro σ H7 ⟨o8', rfl, s7⟩
      exact ⟨_, _, _, _, _, rfl, sm_tr s6 s7⟩
  · rintro σ H6 ⟨o4, o5, o6, o7, o8, rfl, s6⟩
    exact q _ (sm_tr s05 s6)
theorem sc_law_work : FnScope ["_law_load", "_law_motion", "_law_total", "_law_name", "_law_forces"] ["_law_load", "_law_motion"] (defScope s_law_work) := ⟨rfl, rfl, rfl, by decide +kernel, rfl, by decide +kernel, by decide +kernel⟩
theorem ok_law_work (D : Def K mg "_law_work" s_law_work ["_law_load", "_law_motion"])
    (G_law_plus : Fn P w K mg base (CXr P w) 34 "_law_plus" ["_law_x", "_law_y"] (spBinR K fun a b => a + b)) (G_law_along : Fn P w K mg base (CXr P w) 35 "_law_along" ["_law_way", "_law_spot"] (spDot K)) : Fn P w K mg base (CXr P w) 36 "_law_work" ["_law_load", "_law_motion"] (spWork K) := by
  refine D.ok sc_law_work (fun vs H Q E h => ?_) (fun f cdv A outer s H vs Q E hr h => ?_)
  · obtain ⟨d, e, kvs, kus, xs, L, M, rfl, _⟩ := h
    rfl
  obtain ⟨d, e, kvs, kus, xs, L, M, rfl, de, hd, ks, nd, lx, hL, he, hMo, zM, zL, q⟩ := h
  have px := passM (X := (cxOf (CXr P w) P w K mg base ["_law_load", "_law_motion", "_law_total", "_law_name", "_law_forces"] "_law_work" (defScope s_law_work) f cdv A outer s H E)) (CXr.mute (P := P) (w := w))
  refine ⟨_, (pss_cons (ps_set (i := 2) sc_law_work.nd rfl (Or.inl rfl) (pe_tup (pac pe_int (pac pe_int pa_nil))))
    (pss_cons (ps_thaw (ps_for PassesOwn.never rfl (pi_items (pv 0)) (pg_tup rfl (pgs_cons (pg_name (i := 3) sc_law_work.nd rfl (Or.inl rfl)) (pgs_cons (pg_name (i := 4) sc_law_work.nd rfl (Or.inl rfl)) pgs_nil))) (pss_one (ps_if (pt_cmp (pc_din (hu_of hr) (pv 3) (pv 1))) (pss_one (ps_set (i := 2) sc_law_work.nd rfl (Or.inl rfl) (pe_fn G_law_plus (hr.mono (by decide)) px (pac (pv 2) (pac (pe_fn G_law_along (hr.mono (by decide)) px (pac (pv 4) (pac (pe_dget (hu_of hr) (pv 1) (pv 3) (fun _ _ => rfl)) pa_nil))) pa_nil))))) pss_nil))))
    (pss_one (ps_ret (pv 2))))), ?_⟩
  refine ⟨(by show 2 ≤ sizeLine; decide), ?_⟩
  intro p0 n0; generalize eX : upd _ p0 _ = H0; have s0 := eX ▸ same_new n0 _; have e0 : H0 p0 = some _ := eX ▸ upd_same; clear eX
  have hd0 := s0 _ _ hd
  refine ⟨_, rfl, d, kvs, rfl, hd0, fun o => ?_⟩
  have lk : kvs.length = xs.length := by
    have z := congrArg List.length ks
    rw [List.length_map, List.length_map] at z
    exact z
  have k0 : KSame d H (upd H0 d (.frz o (.dK kvs))) := fun b o' n z => by rw [upd_ne n]; exact s0 _ _ z
  have nd0 : p0 ≠ d := fun z => by rw [z, hd0] at e0; cases e0
  have v0 : NmR K (upd H0 d (.frz o (.dK kvs))) (.ref p0) 0 := nm_lit 0 (by rw [upd_ne nd0]; exact e0)
  refine for_items (d := d) (o := o) (kvs := kvs) (fun t σ H' => ∃ (v : V) (o2 o3 : Option V), σ = [some (.ref d), some (.ref e), some v, o2, o3] ∧ KSame d H H' ∧ H' d = some (.frz o (.dK kvs)) ∧ NmR K H' v (wkS L M (xs.take t))) ⟨.ref p0, none, none, rfl, k0, upd_same, v0⟩ (fun t σ H' _ h => by
      obtain ⟨_, _, _, _, _, h, _⟩ := h
      exact h) ?_ ?_
  · rintro t k y σ H6 p7 ekv ⟨v, o2, o3, rfl, k6, hd6, n6⟩ n7
    have lt : t < kvs.length := (List.getElem?_eq_some_iff.mp ekv).1
    have ek : (kvs.map (·.1))[t]? = some k := by rw [List.getElem?_map, ekv]; rfl
    rw [ks, List.getElem?_map] at ek
    obtain ⟨x, ex, rfl⟩ := Option.map_eq_some_iff.mp ek
    have t6 : SameT H H6 := fun b zs r => by
      rcases r with r | ⟨o', r⟩
      · exact .inl (k6 _ _ (fun e => by rw [e, hd] at r; cases r) r)
      · exact .inr ⟨o', k6 _ _ (fun e => by rw [e, hd] at r; cases r) r⟩
    have s7 := same_new n7 (.tup [kV (.inr x), y])
    have t7 : SameT H (upd H6 p7 (.tup [kV (.inr x), y])) := t6.trans (.of s7)
    have nk : (kvs.map (·.1)).Nodup := by
      rw [ks]
      exact nodup_inr nd
    have vy : valV kvs (.inr x) = some y := valV_at' nk ekv
    have hy : PtR K (upd H6 p7 (.tup [kV (.inr x), y])) y (mv L x) := by
      rcases hL x with ⟨h1, _⟩ | ⟨v', p', h1, h2, h3⟩
      · rw [vy] at h1
        cases h1
      · rw [vy] at h1
        cases h1
        unfold mv
        rw [h2]
        exact h3.sameT t7
    have he7 := s7 _ _ (k6 _ _ (Ne.symm de) he)
    have M7 : PtD K (upd H6 p7 (.tup [kV (.inr x), y])) kus M := fun nm => by
      rcases hMo nm with h | ⟨v', p', h1, h2, h3⟩
      · exact .inl h
      · exact .inr ⟨v', p', h1, h2, h3.sameT t7⟩
    refine ⟨p7, _, rfl, SqT.of upd_same, rfl, _, _, rfl, _, _, rfl, rfl, ?_⟩
    refine ⟨_, rfl, _, rfl, e, _, rfl, DGet.k (k := .inr x) he7, _, rfl, ?_⟩
    have zw := wk_sz zM zL t (xs.take t) (by rw [List.length_take]; omega)
    rcases hMo x with ⟨v1, m1⟩ | ⟨v1, m1, ev, em, hm⟩
    · rw [v1]
      refine ite2 (fun c => nomatch c) (fun _ => ?_)
      refine ⟨v, _, _, rfl, fun b o' n z => s7 _ _ (k6 b o' n z), s7 _ _ hd6, ?_⟩
      rw [take_snoc ex, wkS_snoc]
      have z0 : dotP (mv L x) (mv M x) = 0 := by
        unfold mv dotP
        rw [m1]
        show _ * (0 : Rat) + _ * (0 : Rat) = 0
        grind
      rw [z0, Rat.add_zero]
      exact n6.same s7
    · rw [ev]
      refine ite2 (fun _ => ?_) (fun c => absurd rfl c)
      have dg : DGet (upd H6 p7 (.tup [kV (.inr x), y])) e (.str x) (some v1) := by
        have := DGet.k (k := .inr x) he7
        rw [ev] at this
        exact this
      have em' : mv M x = m1 := by unfold mv; rw [em]; rfl
      have b1 := zL x
      have b2 := zM x
      rw [em'] at b2
      refine ⟨_, rfl, _, rfl, _, rfl, _, rfl, e, _, rfl, dg, ?_⟩
      refine ⟨y, v1, _, m1, rfl, hy, hm.sameT t7, b1.1.up (by decide), b1.2.up (by decide), b2.1.up (by decide), b2.2.up (by decide), fun c8 H8 s8 h8 => ?_⟩
      refine ⟨v, .ref c8, _, _, rfl, (n6.same s7).same s8, ⟨c8, rfl, SqT.of h8⟩, zw.up (by omega), ((b1.1.mul b2.1).add (b1.2.mul b2.2)).up (by decide), fun c9 H9 s9 h9 => ?_⟩
      refine ⟨.ref c9, _, _, rfl, fun b o' n z => s9 _ _ (s8 _ _ (s7 _ _ (k6 b o' n z))), s9 _ _ (s8 _ _ (s7 _ _ hd6)), ?_⟩
      rw [take_snoc ex, wkS_snoc, em']
      exact ⟨c9, rfl, SqT.of h9⟩
  · rintro σ H6 ⟨v, o2, o3, rfl, k6, hd6, n6⟩
    rw [lk, List.take_length] at n6
    refine ⟨d, o, kvs, hd6, fun o' u' z => (by have z' : H d = some (.frz o' u') := z; rw [hd] at z'; cases z'), ?_⟩
    refine ⟨_, rfl, q v _ (fun b o' z => ?_) ?_⟩
    · by_cases n : b = d
      · subst n
        rw [hd] at z
        rw [upd_same]
        exact z
      · rw [upd_ne n]
        exact k6 b o' n z
    · refine n6.sameT fun b zs r => ?_
      rcases r with r | ⟨o', r⟩
      · exact .inl (by rw [upd_ne (fun e => by rw [e, hd6] at r; cases r)]; exact r)
      · exact .inr ⟨o', by rw [upd_ne (fun e => by rw [e, hd6] at r; cases r)]; exact r⟩
def spTold (K : PySem.W.Frag) (C : Addr) : Sp := fun vs H Q _ => ∃ (a pA bA d : Addr) (us vs' : List V) (pins : List PinD) (bars : List BarD) (km : List (Key × V)) (M : Str → Option (Rat × Rat)), vs = [.ref a, .ref pA, .ref bA, .ref d] ∧ FrA K H C a pins bars ∧ H pA = some (.lst us) ∧ Paired (PinX K H pA) us pins ∧ H bA = some (.lst vs') ∧ Paired (BarR K H pA) vs' bars ∧ GoodF pins bars ∧ H d = some (.dK km) ∧ PtD K H km M ∧ mvSz M ∧ ∀ H', Same H H' → Q (.bl true) H'
theorem sc_law_told : FnScope ["_law_frame_here", "_law_pins_here", "_law_bars_here", "_law_motion"] ["_law_frame_here", "_law_pins_here", "_law_bars_here", "_law_motion"] (defScope s_law_told) := ⟨rfl, rfl, rfl, by decide +kernel, rfl, by decide +kernel, by decide +kernel⟩
theorem ok_law_told {C : Addr} (D : Def K mg "_law_told" s_law_told ["_law_frame_here", "_law_pins_here", "_law_bars_here", "_law_motion"]) (G_law_slipped : Fn P w K mg base (CXr P w) 36 "_law_slipped" ["_law_found", "_law_pins_here", "_law_motion"] (spSlipped K)) (G_law_longer : Fn P w K mg base (CXr P w) 36 "_law_longer" ["_law_found", "_law_bars_here", "_law_motion"] (spLonger K))
    (G_slips : Fn P w K mg base (CXr P w) 37 "slips" ["F", "motion"] (spSlips K C)) (G_lengthenings : Fn P w K mg base (CXr P w) 37 "lengthenings" ["F", "motion"] (spLen K C)) :
    Fn P w K mg base (CXr P w) 38 "_law_told" ["_law_frame_here", "_law_pins_here", "_law_bars_here", "_law_motion"] (spTold K C) := by
  refine D.ok sc_law_told (fun vs H Q E h => ?_) (fun f cdv A outer s H vs Q E hr h => ?_)
  · obtain ⟨a, pA, bA, d, us, vs', pins, bars, km, M, rfl, _⟩ := h
    rfl
  obtain ⟨a, pA, bA, d, us, vs', pins, bars, km, M, rfl, R, hp, pp, hb, pb, g, hd, pM, zM, q⟩ := h
  have px := passM (X := (cxOf (CXr P w) P w K mg base ["_law_frame_here", "_law_pins_here", "_law_bars_here", "_law_motion"] "_law_told" (defScope s_law_told) f cdv A outer s H E)) (CXr.mute (P := P) (w := w))
  refine ⟨_, (pss_cons (ps_if (pt_not (pt_val (pe_fn G_law_slipped (hr.mono (by decide)) px (pac (pe_fn G_slips (hr.mono (by decide)) px (pac (pv 0) (pac (pv 3) pa_nil))) (pac (pv 1) (pac (pv 3) pa_nil)))))) (pss_one (ps_ret pe_bl)) pss_nil)
    (pss_one (ps_ret (pe_fn G_law_longer (hr.mono (by decide)) px (pac (pe_fn G_lengthenings (hr.mono (by decide)) px (pac (pv 0) (pac (pv 3) pa_nil))) (pac (pv 2) (pac (pv 3) pa_nil))))))), ?_⟩
  refine ⟨_, rfl, _, rfl, a, d, pins, bars, km, M, rfl, R, g, hd, pM, zM, fun e kv H1 s1 ne he ks tl => ?_⟩
  refine ⟨_, rfl, _, rfl, e, pA, d, kv, km, us, pins, bars, M, rfl, he, ks, fun p hp => ?_, s1 _ _ hp, Paired.mapP pp fun _ _ z => z.same s1, g, s1 _ _ hd, pM.same s1, zM, fun H2 s2 => ?_⟩
  · obtain ⟨l, ws, h1, _, h2, h3⟩ := tl p hp
    exact ⟨l, ws, h1, h2, h3⟩
  refine ⟨_, rfl, ?_⟩
  refine ite2 (fun c => nomatch c) (fun _ => ?_)
  have s02 := sm_tr s1 s2
  refine ⟨_, rfl, _, rfl, a, d, pins, bars, km, M, rfl, R.same s02, g, s02 _ _ hd, pM.same s02, zM, fun e3 kv3 H3 s3 ne3 he3 ks3 tl3 => ?_⟩
  have s03 := sm_tr s02 s3
  exact ⟨_, rfl, _, rfl, e3, bA, d, pA, kv3, km, vs', pins, bars, M, rfl, he3, ks3, tl3, s03 _ _ hb, Paired.mapP pb fun _ _ z => z.same s03, g, s03 _ _ hd, pM.same s03, zM, fun H4 s4 => q _ (sm_tr s03 s4)⟩
theorem erase_rest : ∀ {pins : List PinD} {k : Nat} {p : PinD}, (pins.map (·.nm)).Nodup → pins[k]? = some p → pins.filter (fun q => decide (q.nm ≠ p.nm)) = pins.eraseIdx k
  | [], _, _, _, h => by simp at h
  | x :: t, 0, p, nd, h => by
    cases h
    rw [List.map_cons, List.nodup_cons] at nd
    rw [List.filter_cons_of_neg (by simp), List.eraseIdx_zero, List.tail_cons, List.filter_eq_self]
    intro q hq
    refine decide_eq_true fun e => nd.1 ?_
    rw [← e]
    exact List.mem_map.mpr ⟨q, hq, rfl⟩
  | x :: t, k + 1, p, nd, h => by
    rw [List.map_cons, List.nodup_cons] at nd
    have h' : t[k]? = some p := by simpa using h
    have ne : x.nm ≠ p.nm := fun e => nd.1 (by rw [e]; exact List.mem_map.mpr ⟨p, List.mem_of_getElem? h', rfl⟩)
    rw [List.filter_cons_of_pos (by simpa using ne), List.eraseIdx_cons_succ, erase_rest nd.2 h']
theorem paired_erase {α β : Type} {F : α → β → Prop} : ∀ {l₁ : List α} {l₂ : List β} (k : Nat), Paired F l₁ l₂ → Paired F (l₁.eraseIdx k) (l₂.eraseIdx k)
  | _, _, _, .nil => by simpa using Paired.nil
  | _, _, 0, .cons _ t => by simpa using t
  | _, _, k + 1, .cons h t => by
    rw [List.eraseIdx_cons_succ, List.eraseIdx_cons_succ]
    exact .cons h (paired_erase k t)
theorem filt_len {α : Type} (p : α → Bool) : ∀ l : List α, (l.filter fun a => !p a).length + (l.filter p).length = l.length
  | [] => rfl
  | a :: l => by
    have ih := filt_len p l
    cases c : p a
    · rw [List.filter_cons_of_pos (by simp [c]), List.filter_cons_of_neg (by simp [c]), List.length_cons, List.length_cons]
      omega
    · rw [List.filter_cons_of_neg (by simp [c]), List.filter_cons_of_pos (by simp [c]), List.length_cons, List.length_cons]
      omega
theorem gone_off {bars : List BarD} (nb : (bars.map (·.nm)).Nodup) (p : BarD → Bool) : (bars.filter fun b => decide (b.nm ∉ (bars.filter p).map (·.nm))) = bars.filter fun b => !p b := by
  refine List.filter_congr fun b hb => ?_
  rw [Bool.eq_iff_iff, decide_eq_true_iff]
  constructor
  · intro h
    cases c : p b
    · rfl
    · exact absurd (List.mem_map.mpr ⟨b, List.mem_filter.mpr ⟨hb, c⟩, rfl⟩) h
  · intro h z
    obtain ⟨b', h1, h2⟩ := List.mem_map.mp z
    obtain ⟨h3, h4⟩ := List.mem_filter.mp h1
    have e := nm_inj (nm := BarD.nm) nb h3 hb h2
    rw [e] at h4
    rw [h4] at h
    cases h
theorem off_step {bars : List BarD} {A : List Str} {x : Str} : (mpB (bars.filter fun b => decide (b.nm ∉ A))).filter (fun b => decide (b.1 ≠ x)) = mpB (bars.filter fun b => decide (b.nm ∉ A ++ [x])) := by
  unfold mpB
  rw [List.filter_map, List.filter_filter]
  congr 1
  refine List.filter_congr fun b _ => ?_
  rw [Bool.eq_iff_iff]
  simp
  constructor
  · rintro ⟨h1, h2⟩
    exact ⟨h2, h1⟩
  · rintro ⟨h1, h2⟩
    exact ⟨h2, h1⟩
theorem nodup_parts {bars : List BarD} (nb : (bars.map (·.nm)).Nodup) (p : BarD → Bool) : ((bars.filter fun b => !p b).map (·.nm) ++ (bars.filter p).map (·.nm)).Nodup := by
  have s1 : ((bars.filter fun b => !p b).map (·.nm)).Nodup := ((List.filter_sublist).map _).nodup nb
  have s2 : ((bars.filter p).map (·.nm)).Nodup := ((List.filter_sublist).map _).nodup nb
  rw [List.nodup_append]
  refine ⟨s1, s2, fun a ha b hb e => ?_⟩
  obtain ⟨x, hx, rfl⟩ := List.mem_map.mp ha
  obtain ⟨y, hy, rfl⟩ := List.mem_map.mp hb
  obtain ⟨x1, x2⟩ := List.mem_filter.mp hx
  obtain ⟨y1, y2⟩ := List.mem_filter.mp hy
  have := nm_inj (nm := BarD.nm) nb x1 y1 e
  rw [this, y2] at x2
  cases x2
def farI (sc : Int) : Int := if sc = 0 then 100 else 3000000000000
theorem far_off {sc : Int} {x y : Rat} (hx : -(far sc) ≤ x) (hy : y ≤ far sc) : x + (farI sc : Rat) ≠ y := by
  intro e
  unfold far at hx hy
  unfold farI at e
  by_cases c : sc = 0
  · rw [if_pos c] at hx hy e
    have : ((100 : Int) : Rat) = 100 := rfl
    rw [this] at e
    grind
  · rw [if_neg c] at hx hy e
    have : ((3000000000000 : Int) : Rat) = 3000000000000 := rfl
    rw [this] at e
    grind
theorem far_sz (sc : Int) : Sz 42 (farI sc : Rat) := by
  refine sz_int ?_ (by decide)
  unfold farI
  by_cases c : sc = 0
  · rw [if_pos c]
    decide +kernel
  · rw [if_neg c]
    decide +kernel
def pinDa (p : PinD) : Da := .t [.v (.str p.nm), .t (spotD (ptQ p.sp)), .l (p.ws.map fun w => .t (spotD (ptQ w)))]
def barR' (b : BarD) : List Da := [pinDa b.one, pinDa b.other]
def barDa (b : BarD) : Da := .t (.v (.str b.nm) :: barR' b)
theorem ways_alike : ∀ l m : List (Rat × Rat), alikes (l.map fun w => Da.t (spotD (ptQ w))) (m.map fun w => Da.t (spotD (ptQ w))) = true
  | [], _ => by simp [alikes]
  | _ :: _, [] => by simp [alikes]
  | a :: l, b :: m => by
    rw [List.map_cons, List.map_cons]
    unfold alikes
    rw [ways_alike l m]
    unfold alike
    rw [alike_spots]
    rfl
theorem ways_eq : ∀ l : List (Rat × Rat), eqDas (l.map fun w => Da.t (spotD (ptQ w))) (l.map fun w => Da.t (spotD (ptQ w))) = true
  | [] => by simp [eqDas]
  | a :: l => by
    rw [List.map_cons]
    unfold eqDas
    rw [ways_eq l]
    unfold eqDa
    rw [eq_spots, decide_eq_true rfl]
    rfl
theorem ways_dep : ∀ l : List (Rat × Rat), deps (l.map fun w => Da.t (spotD (ptQ w))) ≤ 55
  | [] => by simp [deps]
  | a :: l => by
    rw [List.map_cons]
    unfold deps
    have h1 := ways_dep l
    have h2 : dep (.t (spotD (ptQ a))) ≤ 55 := by simp [dep, deps, spotD]
    omega
theorem pin_alike (p q : PinD) : alike (pinDa p) (pinDa q) = true := by
  unfold pinDa alike alikes alikes alikes alikes
  simp only [alike, alike_spots, ways_alike, Bool.and_self]
theorem pin_eq (p : PinD) : eqDa (pinDa p) (pinDa p) = true := by
  unfold pinDa eqDa eqDas eqDas eqDas eqDas
  simp only [eqDa, eq_spots, ways_eq, eqV, decide_true, Bool.and_self, BEq.rfl]
theorem pin_dep (p : PinD) : dep (pinDa p) ≤ 57 := by
  have h := ways_dep p.ws
  have h2 : deps (spotD (ptQ p.sp)) ≤ 50 := by simp [dep, deps, spotD]
  unfold pinDa dep deps deps deps deps
  simp only [dep]
  omega
theorem bar_alike (a b : BarD) : alikes (barR' a) (barR' b) = true := by
  unfold barR' alikes alikes alikes
  simp only [pin_alike, Bool.and_self]
theorem bar_eq (a : BarD) : eqDas (barR' a) (barR' a) = true := by
  unfold barR' eqDas eqDas eqDas
  simp only [pin_eq, Bool.and_self]
theorem bar_dep (b : BarD) : dep (barDa b) ≤ 60 := by
  have h1 := pin_dep b.one
  have h2 := pin_dep b.other
  unfold barDa barR' dep deps deps deps deps
  simp only [dep]
  omega
theorem pts_iss {H : Hp} : ∀ {us : List V} {ws : List (Rat × Rat)}, PtsR K H us ws → Iss K H (ws.map fun w => Da.t (spotD (ptQ w))) us
  | _, _, .nil => by unfold Iss; trivial
  | _, _, .cons h t => by
    rw [List.map_cons]
    unfold Iss
    exact ⟨h.spot.is, pts_iss t⟩
theorem PinX.is {H : Hp} {d : Addr} {v : V} {p : PinD} (h : PinX K H d v p) : Is K H (pinDa p) v := by
  obtain ⟨a, l, s, us, rfl, h1, h2, h3, h4, _⟩ := h
  unfold pinDa Is
  refine ⟨a, _, rfl, h1, ?_⟩
  unfold Iss
  refine ⟨by unfold Is; exact ⟨rfl, rfl⟩, ?_⟩
  unfold Iss
  refine ⟨h2.spot.is, ?_⟩
  unfold Iss
  refine ⟨?_, by unfold Iss; trivial⟩
  unfold Is
  exact ⟨l, us, rfl, SqL.of h3, pts_iss h4⟩
theorem BarR.is {H : Hp} {d : Addr} {v : V} {b : BarD} (h : BarR K H d v b) : Is K H (barDa b) v := by
  obtain ⟨a, u1, u2, rfl, h1, h2, h3⟩ := h
  unfold barDa barR' Is
  refine ⟨a, _, rfl, h1, ?_⟩
  unfold Iss
  refine ⟨by unfold Is; exact ⟨rfl, rfl⟩, ?_⟩
  unfold Iss
  refine ⟨h2.is, ?_⟩
  unfold Iss
  exact ⟨h3.is, by unfold Iss; trivial⟩
theorem bars_iss {H : Hp} {d : Addr} : ∀ {us : List V} {bs : List BarD}, Paired (BarR K H d) us bs → Iss K H (bs.map barDa) us
  | _, _, .nil => by unfold Iss; trivial
  | _, _, .cons h t => by
    rw [List.map_cons]
    unfold Iss
    exact ⟨h.is, bars_iss t⟩
theorem BarR.upd {H : Hp} {d : Addr} {v : V} {b : BarD} {xs : List V} {o : HO} (h : BarR K H d v b) (e : H d = some (.lst xs)) : BarR K (L2.upd H d o) d v b := by
  obtain ⟨a, u1, u2, e1, h1, h2, h3⟩ := h
  have t : SameT H (L2.upd H d o) := .list e
  exact ⟨a, u1, u2, e1, t.seqT h1, h2.upd e, h3.upd e⟩
theorem FrB.upd {H : Hp} {C a dx pP pW pB d : Addr} {pins : List PinD} {bars : List BarD} {xs : List V} {o : HO} (h : FrB K H C a dx pP pW pB d pins bars) (e : H d = some (.lst xs)) : FrB K (L2.upd H d o) C a dx pP pW pB d pins bars := by
  obtain ⟨kP, kW, kB, R, W, n⟩ := h.ex
  have t : SameT H (L2.upd H d o) := .list e
  refine ⟨kP, kW, kB, R.sameT_of t (upd_ne fun z => ?_) (upd_ne fun z => ?_) (upd_ne fun z => ?_) (upd_ne fun z => ?_), ?_, n⟩
  · have := R.obj
    rw [z, e] at this
    cases this
  · have := R.pl
    rw [z, e] at this
    cases this
  · have := R.wy
    rw [z, e] at this
    cases this
  · have := R.br
    rw [z, e] at this
    cases this
  · refine paired_of (Paired.length W) fun i p kv e1 e2 => ?_
    obtain ⟨kv', e3, h1, l, us, h2, h3, h4⟩ := paired_get W e1
    rw [e2] at e3
    cases e3
    refine ⟨h1, l, us, h2, ?_, h4.sameT t⟩
    rw [upd_ne (fun z => n kv (List.mem_of_getElem? e2) (by rw [h2, z]))]
    exact h3
def spAnew (K : PySem.W.Frag) (C : Addr) : Sp := fun vs H Q _ => ∃ (a dx pP pW pB pA bA : Addr) (us vs' : List V) (pins : List PinD) (bars : List BarD) (sc c : Int), vs = [.ref a, .ref pA, .ref bA, .int c, .int (farI sc)] ∧ FrB K H C a dx pP pW pB pA pins bars ∧ H pA = some (.lst us) ∧ Paired (PinX K H pA) us pins ∧ bA ≠ pA ∧ H bA = some (.lst vs') ∧ Paired (BarR K H pA) vs' bars ∧ GoodP pins ∧ GoodB pins bars ∧ Near sc pins ∧ 0 < pins.length ∧ pins.length ≤ 6 ∧ bars.length ≤ 8 ∧ intBits c ≤ 1048576 ∧
  ∀ (bA' : Addr) (us2 vs2 : List V) (rest : List PinD) (p2 : PinD) (bars2 : List BarD) (H' : Hp), (∀ b o, b ≠ pP → b ≠ pW → b ≠ pB → b ≠ pA → H b = some o → H' b = some o) → FrB K H' C a dx pP pW pB pA (rest ++ [p2]) bars2 → H' pA = some (.lst us2) → Paired (PinX K H' pA) us2 (rest ++ [p2]) → H' bA' = some (.lst vs2) → Paired (BarR K H' pA) vs2 bars2 → GoodF (rest ++ [p2]) bars2 → (∀ q ∈ rest, q ∈ pins) → (∀ q ∈ rest ++ [p2], WaysOk q.ws) → Q (.ref bA') H'
theorem PinX.ks {H H' : Hp} {d e : Addr} {v : V} {p : PinD} {kvs : List (Key × V)} (h : PinX K H d v p) (k : KSame e H H') (he : H e = some (.dK kvs)) : PinX K H' d v p := by
  obtain ⟨a, l, sv, us, ev, h1, h2, h3, h4, h5⟩ := h
  have t := ks_t k he
  exact ⟨a, l, sv, us, ev, t.seqT h1, h2.sameT t, k _ _ (fun z => by rw [z, he] at h3; cases h3) h3, h4.sameT t, h5⟩
theorem seq_nat {k n : Nat} (h : k < n) : seqIndex? (k : Int) n = some k := by
  have := PySem.StrLaws.seqIndex_nonneg (i := (k : Int)) (n := n) (by omega) (by omega)
  simpa using this
def K3 (pP pW pB : Addr) (H H' : Hp) : Prop := ∀ b o, b ≠ pP → b ≠ pW → b ≠ pB → H b = some o → H' b = some o
structure D3 (pP pW pB : Addr) (H : Hp) : Prop where
  p : ∃ kvs, H pP = some (.dK kvs)
  w : ∃ kvs, H pW = some (.dK kvs)
  b : ∃ kvs, H pB = some (.dK kvs)
section
variable {pP pW pB d : Addr} {H H' : Hp} {v : V}
theorem D3.ne (h : D3 pP pW pB H) {b : Addr} {o : HO} (e : H b = some o) (n : ∀ kvs, o ≠ .dK kvs) : b ≠ pP ∧ b ≠ pW ∧ b ≠ pB := by
  refine ⟨fun z => ?_, fun z => ?_, fun z => ?_⟩
  · obtain ⟨kvs, e'⟩ := h.p
    rw [z, e'] at e
    cases e
    exact n _ rfl
  · obtain ⟨kvs, e'⟩ := h.w
    rw [z, e'] at e
    cases e
    exact n _ rfl
  · obtain ⟨kvs, e'⟩ := h.b
    rw [z, e'] at e
    cases e
    exact n _ rfl
theorem K3.get (k : K3 pP pW pB H H') (h : D3 pP pW pB H) {b : Addr} {o : HO} (e : H b = some o) (n : ∀ kvs, o ≠ .dK kvs) : H' b = some o := by
  obtain ⟨n1, n2, n3⟩ := h.ne e n
  exact k b o n1 n2 n3 e
theorem K3.lst (k : K3 pP pW pB H H') (h : D3 pP pW pB H) {b : Addr} {xs : List V} (e : H b = some (.lst xs)) : H' b = some (.lst xs) := k.get h e fun _ z => nomatch z
theorem K3.t (k : K3 pP pW pB H H') (h : D3 pP pW pB H) : SameT H H' := fun b zs r => by
  rcases r with r | ⟨o', r⟩
  · exact .inl (k.get h r fun _ z => nomatch z)
  · exact .inr ⟨o', k.get h r fun _ z => nomatch z⟩
theorem PinX.k3 {p : PinD} (x : PinX K H d v p) (k : K3 pP pW pB H H') (h : D3 pP pW pB H) : PinX K H' d v p := by
  obtain ⟨a, l, sv, us, ev, h1, h2, h3, h4, h5⟩ := x
  have t := k.t h
  exact ⟨a, l, sv, us, ev, t.seqT h1, h2.sameT t, k.lst h h3, h4.sameT t, h5⟩
theorem BarR.k3 {b : BarD} (x : BarR K H d v b) (k : K3 pP pW pB H H') (h : D3 pP pW pB H) : BarR K H' d v b := by
  obtain ⟨a, u1, u2, e1, h1, h2, h3⟩ := x
  exact ⟨a, u1, u2, e1, (k.t h).seqT h1, h2.k3 k h, h3.k3 k h⟩
end
theorem sc_law_put_anew : FnScope ["_law_frame_here", "_law_pins_here", "_law_bars_here", "_law_cell", "_law_far", "_law_name", "_law_spot", "_law_ways_here", "_law_pin", "_law_gone", "_law_bar", "_law_label", "_law_one", "_law_other"] ["_law_frame_here", "_law_pins_here", "_law_bars_here", "_law_cell", "_law_far"] (defScope s_law_put_anew) := ⟨rfl, rfl, rfl, by decide +kernel, rfl, by decide +kernel, by decide +kernel⟩
theorem ok_law_put_anew {C : Addr} (D : Def K mg "_law_put_anew" s_law_put_anew ["_law_frame_here", "_law_pins_here", "_law_bars_here", "_law_cell", "_law_far"]) (m_len : mg "len" = none)
    (G_law_plus : Fn P w K mg base (CXr P w) 34 "_law_plus" ["_law_x", "_law_y"] (spBinR K fun a b => a + b)) (G_law_part : Fn P w K mg base (CXr P w) 1 "_law_part" ["_law_cell", "_law_k"] spPart) (G_law_ways : Fn P w K mg base (CXr P w) 34 "_law_ways" ["_law_cell"] (spWaysL K)) (G_law_put_pin : Fn P w K mg base (CXr P w) 4 "_law_put_pin" ["_law_frame_here", "_law_pin"] (spPutPinL K C))
    (MPb : MtdOk P w K mg base (CXr P w) 3 C "put_bar" ["self", "name", "one", "other"] (spPutBar K C)) (MTb : MtdOk P w K mg base (CXr P w) 1 C "take_bar" ["self", "name"] (spTakeBar K C)) (MTp : MtdOk P w K mg base (CXr P w) 2 C "take_pin" ["self", "name"] (spTakePinW K C)) :
    Fn P w K mg base (CXr P w) 35 "_law_put_anew" ["_law_frame_here", "_law_pins_here", "_law_bars_here", "_law_cell", "_law_far"] (spAnew K C) := by
  refine D.ok sc_law_put_anew (fun vs H Q E h => ?_) (fun f cdv A outer s H vs Q E hr h => ?_)
  · obtain ⟨a, dx, pP, pW, pB, pA, bA, us, vs', pins, bars, sc, c, rfl, _⟩ := h
    rfl
  obtain ⟨a, dx, pP, pW, pB, pA, bA, us, vs', pins, bars, sc, c, rfl, R, hp, pp, nAB, hb, pb, gp, gb, nr, l0, lp6, lb8, bc, q⟩ := h
  have px := passM (X := (cxOf (CXr P w) P w K mg base ["_law_frame_here", "_law_pins_here", "_law_bars_here", "_law_cell", "_law_far", "_law_name", "_law_spot", "_law_ways_here", "_law_pin", "_law_gone", "_law_bar", "_law_label", "_law_one", "_law_other"] "_law_put_anew" (defScope s_law_put_anew) f cdv A outer s H E)) (CXr.mute (P := P) (w := w))
  have L2 : 2 ≤ sizeLine := by decide
  have L3 : 3 ≤ sizeLine := by decide
  have lu : us.length = pins.length := Paired.length pp
  have lv : vs'.length = bars.length := Paired.length pb
  refine ⟨_, (pss_cons (ps_asg (pe_bm PySem.F.plainAttrs_list PySem.F.slot_list_pop PySem.F.type_list_pop mt_popAt (pv 1) (pac (pe_op op_modB (pv 3) (pe_callB call_len_seq rfl m_len b_len (pac (pv 1) pa_nil))) pa_nil)) (pg_tup rfl (pgs_cons (pg_name (i := 5) sc_law_put_anew.nd rfl (Or.inr rfl)) (pgs_cons (pg_name (i := 6) sc_law_put_anew.nd rfl (Or.inl rfl)) (pgs_cons (pg_name (i := 7) sc_law_put_anew.nd rfl (Or.inl rfl)) pgs_nil)))))
    (pss_cons (ps_set (i := 8) sc_law_put_anew.nd rfl (Or.inl rfl) (pe_tup (pac (pv 5) (pac (pe_tup (pac (pe_fn G_law_plus (hr.mono (by decide)) px (pac (pe_ix ix_tup (pv 6) pe_int (fun _ _ => rfl)) (pac (pe_tup (pac (pv 4) (pac pe_int pa_nil))) pa_nil))) (pac (pe_ix ix_tup (pv 6) pe_int (fun _ _ => rfl)) pa_nil))) (pac (pe_fn G_law_ways (hr.mono (by decide)) px (pac (pe_fn G_law_part (hr.mono (by decide)) px (pac (pv 3) (pac pe_int pa_nil))) pa_nil)) pa_nil)))))
    (pss_cons (ps_set (i := 9) sc_law_put_anew.nd rfl (Or.inr rfl) (pe_comp (tn := ["_law_bar"]) (fr := ["_law_name"]) (caps := [5]) rfl ⟨rfl, by decide +kernel, rfl, by decide +kernel, by decide +kernel, rfl, ⟨(by first | exact Or.inl rfl | exact Or.inr rfl), trivial⟩, ⟨(by first | exact Or.inl rfl | exact Or.inr rfl), trivial⟩⟩ (pi_list (pv 2)) (fun _ _ _ _ => (pg_name (i := 0) (show (["_law_bar", "_law_name"] : List Str).Nodup from by decide +kernel) rfl (Or.inl rfl))) (fun _ _ _ _ => (pf_one (pt_cmpR (op_in_seqK (K := K) rfl) (pv 1) (pe_tup (pac (pe_ix (ix_tupK (K := K) rfl) (pe_ix (ix_tupK (K := K) rfl) (pv 0) pe_int (fun _ _ => rfl)) pe_int (fun _ _ => rfl)) (pac (pe_ix (ix_tupK (K := K) rfl) (pe_ix (ix_tupK (K := K) rfl) (pv 0) pe_int (fun _ _ => rfl)) pe_int (fun _ _ => rfl)) pa_nil))) rfl))) (fun _ _ _ _ => (pv 0))))
    (pss_cons (ps_for PassesOwn.never rfl (pi_list (pv 9)) (pg_name (i := 10) sc_law_put_anew.nd rfl (Or.inl rfl)) (pss_one (ps_expr (pe_mtd (k := 1) (pv 0) (hr.mono (by decide)) px (pac (pe_ix ix_tup (pv 10) pe_int (fun _ _ => rfl)) pa_nil)))))
    (pss_cons (ps_expr (pe_mtd (k := 2) (pv 0) (hr.mono (by decide)) px (pac (pv 5) pa_nil)))
    (pss_cons (ps_expr (pe_fn G_law_put_pin (hr.mono (by decide)) px (pac (pv 0) (pac (pv 8) pa_nil))))
    (pss_cons (ps_setC (i := 2) sc_law_put_anew.nd rfl (Or.inl rfl) (tn := ["_law_bar"]) (fr := ["_law_gone"]) (caps := [9]) rfl ⟨rfl, by decide +kernel, rfl, by decide +kernel, by decide +kernel, rfl, ⟨(by first | exact Or.inl rfl | exact Or.inr rfl), trivial⟩, ⟨(by first | exact Or.inl rfl | exact Or.inr rfl), trivial⟩⟩ (pi_list (pv 2)) (fun _ _ _ _ => (pg_name (i := 0) (show (["_law_bar", "_law_gone"] : List Str).Nodup from by decide +kernel) rfl (Or.inl rfl))) (fun _ _ _ _ => (pf_one (pt_cmpR (op_notInBy (K := K) rfl hr.units) (pv 0) (pv 1) rfl))) (fun _ _ _ _ => (pv 0)))
    (pss_cons (ps_for PassesOwn.never rfl (pi_list (pv 9)) (pg_tup rfl (pgs_cons (pg_name (i := 11) sc_law_put_anew.nd rfl (Or.inl rfl)) (pgs_cons (pg_name (i := 12) sc_law_put_anew.nd rfl (Or.inl rfl)) (pgs_cons (pg_name (i := 13) sc_law_put_anew.nd rfl (Or.inl rfl)) pgs_nil)))) (pss_cons (ps_if (pt_cmpR op_eq (pe_ix ix_tup (pv 12) pe_int (fun _ _ => rfl)) (pv 5) (nomark _)) (pss_one (ps_set (i := 12) sc_law_put_anew.nd rfl (Or.inl rfl) (pv 8))) pss_nil)
      (pss_cons (ps_if (pt_cmpR op_eq (pe_ix ix_tup (pv 13) pe_int (fun _ _ => rfl)) (pv 5) (nomark _)) (pss_one (ps_set (i := 13) sc_law_put_anew.nd rfl (Or.inl rfl) (pv 8))) pss_nil)
      (pss_cons (ps_if (PW.pt (pw_and (pt_cmpR op_gt (pe_callB call_len_seq rfl m_len b_len (pac (pv 1) pa_nil)) pe_int (nomark _)) (pw_and1 (pt_cmpR op_eq (pv 11) (pe_ix ix_tup (pe_ix ix_list (pv 9) pe_int (fun _ _ => rfl)) pe_int (fun _ _ => rfl)) (nomark _))))) (pss_one (ps_par (i := 12) (j := 13) rfl sc_law_put_anew.nd rfl rfl (by decide) rfl rfl (pac (pe_ix ix_list (pv 1) (pe_op op_modB (pe_op op_fdivB (pv 3) pe_int) pe_int) (fun _ _ => rfl)) (pac (pe_ix ix_list (pv 1) (pe_op op_sub pe_int (pe_op op_modB (pe_op op_fdivB (pv 3) pe_int) pe_int)) (fun _ _ => rfl)) pa_nil)) rfl)) pss_nil)
      (pss_cons (ps_expr (pe_mtd (k := 3) (pv 0) (hr.mono (by decide)) px (pac (pv 11) (pac (pe_ix ix_tup (pv 12) pe_int (fun _ _ => rfl)) (pac (pe_ix ix_tup (pv 13) pe_int (fun _ _ => rfl)) pa_nil)))))
      (pss_one (ps_expr (pe_bm PySem.F.plainAttrs_list PySem.F.slot_list_append PySem.F.type_list_append mt_append (pv 2) (pac (pe_tup (pac (pv 11) (pac (pv 12) (pac (pv 13) pa_nil)))) pa_nil)))))))))
    (pss_cons (ps_expr (pe_bm PySem.F.plainAttrs_list PySem.F.slot_list_append PySem.F.type_list_append mt_append (pv 1) (pac (pv 8) pa_nil)))
    (pss_one (ps_ret (pv 2)))))))))))), ?_⟩
  have mk := fmod_in (x := c) (m := (us.length : Int)) (by omega)
  obtain ⟨k, ek⟩ : ∃ k : Nat, c.fmod (us.length : Int) = (k : Int) := ⟨_, (Int.toNat_of_nonneg mk.1).symm⟩
  have kl : k < us.length := by omega
  refine ⟨_, rfl, .inl ⟨rfl, _, SqL.of hp⟩, _, rfl, _, rfl, pA, _, rfl, .inl (SqL.of hp), _, _, rfl, rfl, nz (by omega), ?_⟩
  refine ⟨pA, us, (k : Int), k, us[k], rfl, (by show [V.int (c.fmod (us.length : Int))] = _; rw [ek]), hp, by omega, by omega, seq_nat kl, List.getElem?_eq_getElem kl, ?_⟩
  have k1 : ∀ b o, b ≠ pA → H b = some o → (upd H pA (.lst (us.eraseIdx k))) b = some o := fun b o n z => by rw [upd_ne n]; exact z
  have hp1 : (upd H pA (.lst (us.eraseIdx k))) pA = some (.lst (us.eraseIdx k)) := upd_same
  have R1 := R.upd (o := .lst (us.eraseIdx k)) hp
  have pp1 : Paired (PinX K (upd H pA (.lst (us.eraseIdx k))) pA) us pins := Paired.mapP pp fun _ _ z => z.upd hp
  have pb1 : Paired (BarR K (upd H pA (.lst (us.eraseIdx k))) pA) vs' bars := Paired.mapP pb fun _ _ z => z.upd hp
  have hb1 := k1 _ _ nAB hb
  generalize upd H pA (.lst (us.eraseIdx k)) = H1 at k1 hp1 R1 pp1 pb1 hb1 ⊢
  obtain ⟨p, ep, hpr⟩ := paired_get pp1 (List.getElem?_eq_getElem kl)
  have mp : p ∈ pins := List.mem_of_getElem? ep
  obtain ⟨ta, lw, sv, uw, eta, t1, ⟨sa, x1, y1, esv, hsq, hn1, hn2⟩, t3, t4, t5⟩ := hpr
  subst esv
  refine ⟨ta, _, eta, t1, rfl, _, _, rfl, _, _, rfl, _, _, rfl, rfl, ?_⟩
  refine ⟨_, rfl, _, rfl, sa, _, _, _, rfl, rfl, hsq, at0, _, rfl, L2, ?_⟩
  intro t6 n6; generalize eX : upd _ t6 _ = H6; have s6 := eX ▸ same_new n6 _; have e6 : H6 t6 = some _ := eX ▸ upd_same; clear eX
  refine ⟨x1, .ref t6, _, _, rfl, hn1.same s6, nm_lit (farI sc) e6, ((nr p mp).1).up (by decide), (far_sz sc).up (by decide), fun c7 H7 s7 e7 => ?_⟩
  refine ⟨_, rfl, sa, _, _, _, rfl, rfl, Ty.Same.seqT s7 (Ty.Same.seqT s6 hsq), at1, L2, ?_⟩
  intro t8 n8; generalize eX : upd _ t8 _ = H8; have s8 := eX ▸ same_new n8 _; have e8 : H8 t8 = some _ := eX ▸ upd_same; clear eX
  refine ⟨_, rfl, _, _, rfl, Nat.le_trans bc (by decide), by decide, by decide, fun c9 H9 h90 h91 s9 => ?_⟩
  refine ⟨_, rfl, fun lN usN wsN HA wk sA nA eA pN => ⟨L3, ?_⟩⟩
  intro pn nB; generalize eX : upd _ pn _ = HB; have sB := eX ▸ same_new nB _; have eB : HB pn = some _ := eX ▸ upd_same; clear eX
  have s7B := sm_tr (sm_tr s8 s9) (sm_tr sA sB)
  have s8B := sm_tr s9 (sm_tr sA sB)
  have s1B := sm_tr (sm_tr s6 s7) s7B
  have hpn : PinX K HB pA (.ref pn) ⟨p.nm, (p.sp.1 + (farI sc : Rat), p.sp.2), wsN⟩ := by
    refine ⟨pn, lN, .ref t8, usN, rfl, SqT.of eB, pt_of (s8B _ _ e8) ((nm_of e7).same s7B) (hn2.same s1B), sB _ _ eA, pN.same sB, fun z => ?_⟩
    have := s9 _ _ (s8 _ _ (s7 _ _ (s6 _ _ hp1)))
    rw [← z, nA] at this
    cases this
  generalize hp2 : (⟨p.nm, (p.sp.1 + (farI sc : Rat), p.sp.2), wsN⟩ : PinD) = p2 at hpn
  have pbB : Paired (BarR K HB pA) vs' bars := Paired.mapP pb1 fun _ _ z => z.same s1B
  have hbB := s1B _ _ hb1
  refine ⟨_, rfl, bA, rfl, ⟨_, SqL.of hbB⟩, fun DG nG => ?_⟩
  refine comp_listF (K := K) (a := bA) (xs := vs') (zs := bars) (Rl := BarR K HB pA) (cap := [some (.str p.nm)]) (fun b => inV (.str p.nm) [.str b.one.nm, .str b.other.nm]) pbB nG (by rw [lv]; exact Nat.lt_of_le_of_lt (show bars.length ≤ 1000 by omega) (by decide)) (fun H2 s2 => SqL.of (s2 _ _ hbB)) ?_ ?_ ?_
  · intro x z HC RC hz mz sC kC
    obtain ⟨ta', u1, u2, rfl, b1, ⟨a1, l1, sv1, us1, rfl, b11, _⟩, ⟨a2, l2, sv2, us2, rfl, b21, _⟩⟩ := hz.same sC
    refine ⟨_, rfl, _, rfl, ta', _, _, _, rfl, rfl, b1, rfl, a1, _, _, _, rfl, rfl, b11, rfl, ?_⟩
    refine ⟨_, rfl, ta', _, _, _, rfl, rfl, b1, rfl, a2, _, _, _, rfl, rfl, b21, rfl, L2, ?_⟩
    intro tC nC; generalize eX : upd _ tC _ = HC2; have sC2 := eX ▸ same_new nC _; have eC : HC2 tC = some _ := eX ▸ upd_same; clear eX
    exact ⟨tC, _, rfl, .inr (SqT.of eC), rfl, rfl, _, rfl, kC HC2 sC2⟩
  · intro x z HC RC hz sC k
    exact ⟨_, rfl, k⟩
  intro ysG HG pg sG eG
  generalize hpG : (fun b : BarD => inV (.str p.nm) [.str b.one.nm, .str b.other.nm]) = pG at pg
  have pGt : ∀ b : BarD, pG b = true ↔ (b.one.nm = p.nm ∨ b.other.nm = p.nm) := fun b => by
    rw [← hpG]
    simp [inV, eqV]
  have lG : ysG.length = (bars.filter pG).length := Paired.length pg
  obtain ⟨kP, kW, kB0, RG, WG, nWG⟩ := ((R1.same s1B).same sG).ex
  have ndG : ((bars.filter pG).map (·.nm)).Nodup := ((List.filter_sublist).map _).nodup gb.nb
  have dG : D3 pP pW pB HG := ⟨⟨_, RG.pl⟩, ⟨_, RG.wy⟩, ⟨_, RG.br⟩⟩
  refine ⟨_, rfl, DG, rfl, ⟨_, SqL.of eG⟩, for_list (K := K) (a := DG) (xs := ysG) (fun i σ H' => ∃ (o10 : Option V) (kB : List (Key × V)), σ = [some (.ref a), some (.ref pA), some (.ref bA), some (.int c), some (.int (farI sc)), some (.str p.nm), some (.ref sa), some (.ref lw), some (.ref pn), some (.ref DG), o10, none, none, none] ∧ KSame pB HG H' ∧ FrR K H' C a dx pP pW pB (mpP pins) (mpB (bars.filter fun b => decide (b.nm ∉ ((bars.filter pG).take i).map (·.nm)))) kP kW kB) ⟨none, kB0, rfl, fun _ _ _ z => z, by rw [List.filter_eq_self.mpr (fun b _ => by simp)]; exact RG⟩ (fun i σ H' _ h => by
      obtain ⟨_, _, _, k, _⟩ := h
      exact SqL.of (k _ _ (dG.ne eG fun _ z => nomatch z).2.2 eG)) ?_ ?_⟩
  · rintro i u σ H2 hu ⟨o10, kB2, rfl, k2, R2⟩
    obtain ⟨b, eb, hbr⟩ := paired_get pg hu
    have t2 : SameT HG H2 := ks_t k2 RG.br
    obtain ⟨ta', u1, u2, rfl, b1, _⟩ := hbr.same sG
    have mb := (List.mem_filter.mp (List.mem_of_getElem? eb)).1
    refine ⟨_, rfl, a, C, dx, _, _, _, rfl, R2.obj, rfl, MTb, _, rfl, ta', _, _, _, rfl, rfl, t2.seqT b1, rfl, ?_⟩
    refine ⟨a, dx, pP, pW, pB, _, _, kP, kW, kB2, b.nm, rfl, R2, ?_, fun H' kB' k' R' => ?_⟩
    · rw [List.map_map]
      refine List.mem_map.mpr ⟨b, List.mem_filter.mpr ⟨mb, decide_eq_true fun z => ?_⟩, rfl⟩
      obtain ⟨b', h1, h2⟩ := List.mem_map.mp z
      exact take_new (nm := BarD.nm) ndG eb h1 h2
    · refine ⟨_, kB', rfl, fun c o n z => k' c o n (k2 c o n z), ?_⟩
      rw [off_step] at R'
      rw [take_snoc eb, List.map_append]
      exact R'
  rintro σ H3 ⟨o10, kB3, rfl, k3, R3⟩
  rw [lG, List.take_length, gone_off gb.nb pG] at R3
  have W3 := wy_ks WG k3 RG.br
  have notG : ∀ b ∈ bars.filter (fun b => !pG b), b.one.nm ≠ p.nm ∧ b.other.nm ≠ p.nm := fun b hb' => by
    have h := (List.mem_filter.mp hb').2
    refine ⟨fun z => ?_, fun z => ?_⟩
    · rw [(pGt b).mpr (.inl z)] at h
      cases h
    · rw [(pGt b).mpr (.inr z)] at h
      cases h
  refine ⟨_, rfl, a, C, dx, _, _, _, rfl, R3.obj, rfl, MTp, _, rfl, a, dx, pP, pW, pB, _, _, kP, kW, kB3, mpW pins, p.nm, rfl, R3, W3, by rw [List.map_map, List.map_map]; rfl, ?_, ?_, fun H4 kP4 kW4 k4 R4 W4 sub4 => ?_⟩
  · rw [List.map_map]
    exact List.mem_map.mpr ⟨p, mp, rfl⟩
  · intro b hb'
    obtain ⟨b', h1, rfl⟩ := List.mem_map.mp hb'
    have := notG b' h1
    exact ⟨Ne.symm this.1, Ne.symm this.2⟩
  have rest_eq := erase_rest gp.np ep
  have fP : (mpP pins).filter (fun b => decide (b.1 ≠ p.nm)) = mpP (pins.eraseIdx k) := by
    rw [← rest_eq]
    unfold mpP
    rw [List.filter_map]
    rfl
  have fW : (mpW pins).filter (fun b => decide (b.1 ≠ p.nm)) = mpW (pins.eraseIdx k) := by
    rw [← rest_eq]
    unfold mpW
    rw [List.filter_map]
    rfl
  rw [fP] at R4
  rw [fW] at W4
  have kG4 : K3 pP pW pB HG H4 := fun b o n1 n2 n3 z => k4 b o n1 n2 (k3 b o n3 z)
  have mrest : ∀ q ∈ pins.eraseIdx k, q ∈ pins ∧ q.nm ≠ p.nm := fun q hq => by
    rw [← rest_eq] at hq
    obtain ⟨h1, h2⟩ := List.mem_filter.mp hq
    exact ⟨h1, of_decide_eq_true h2⟩
  have torest : ∀ q ∈ pins, q.nm ≠ p.nm → q ∈ pins.eraseIdx k := fun q hq n => by
    rw [← rest_eq]
    exact List.mem_filter.mpr ⟨hq, decide_eq_true n⟩
  have lrest : (pins.eraseIdx k).length = pins.length - 1 := by
    rw [List.length_eraseIdx, if_pos (by omega)]
  have pp4 : Paired (PinX K HG pA) (us.eraseIdx k) (pins.eraseIdx k) := Paired.mapP (paired_erase k pp1) fun _ _ z => (z.same s1B).same sG
  have n2m : p2.nm = p.nm := by rw [← hp2]
  have hpnG := hpn.same sG
  refine ⟨_, rfl, _, rfl, a, dx, pP, pW, pB, pA, pins.eraseIdx k, _, kP4, kW4, kB3, .ref pn, p2, rfl, R4, W4, hpnG.k3 kG4 dG, fun z => ?_, fun z => ?_, by omega, by rw [← hp2]; exact wk, fun H5 kP5 kW5 k5 R5 W5 l5 => ?_⟩
  · obtain ⟨q', h1, h2⟩ := List.mem_map.mp z
    exact (mrest q' h1).2 (h2.trans n2m)
  · obtain ⟨q', h1, h2⟩ := List.mem_map.mp z
    have e3 : p2.sp = (p.sp.1 + (farI sc : Rat), p.sp.2) := by rw [← hp2]
    rw [e3] at h2
    exact far_off (nr p mp).2.1 (nr q' (mrest q' h1).1).2.2 (congrArg Prod.fst h2).symm
  generalize hrest : pins.eraseIdx k = rest at *
  have kG5 : K3 pP pW pB HG H5 := fun b o n1 n2 n3 z => k5 b o n1 n2 (kG4 b o n1 n2 n3 z)
  have nW5 : ∀ kv ∈ kW5, kv.2 ≠ .ref pA := fun kv h => by
    obtain ⟨l, e1, e2⟩ := l5
    rw [e1] at h
    rcases List.mem_append.mp h with h | h
    · exact nWG kv (sub4 kv h)
    · rw [List.mem_singleton.mp h]
      intro z
      cases z
      rw [kG4.lst dG (sG _ _ (s1B _ _ hp1))] at e2
      cases e2
  have hpA5 := kG5.lst dG (sG _ _ (s1B _ _ hp1))
  have hb5 := kG5.lst dG (sG _ _ hbB)
  have eG5 := kG5.lst dG eG
  have pb5 : Paired (BarR K H5 pA) vs' bars := Paired.mapP pbB fun _ _ z => (z.same sG).k3 kG5 dG
  have pg5 : Paired (BarR K H5 pA) ysG (bars.filter pG) := Paired.mapP pg fun _ _ z => (z.same sG).k3 kG5 dG
  have pp5 : Paired (PinX K H5 pA) (us.eraseIdx k) rest := Paired.mapP pp4 fun _ _ z => z.k3 kG5 dG
  have hpn5 := hpnG.k3 kG5 dG
  refine ⟨_, rfl, bA, rfl, ⟨_, SqL.of hb5⟩, fun DK nK => ?_⟩
  refine comp_listF (K := K) (a := bA) (xs := vs') (zs := bars) (Rl := BarR K H5 pA) (cap := [some (.ref DG)]) (fun b => !pG b) pb5 nK (by rw [lv]; exact Nat.lt_of_le_of_lt (show bars.length ≤ 1000 by omega) (by decide)) (fun H2 s2 => SqL.of (s2 _ _ hb5)) ?_ ?_ ?_
  · intro x z HC RC hz mz sC kC
    refine ⟨_, rfl, _, rfl, DG, ysG, (bars.filter pG).map barDa, z.nm, barR' z, pG z, rfl, SqL.of (sC _ _ eG5), bars_iss (Paired.mapP pg5 fun _ _ y => y.same sC), (hz.same sC).is, fun e he => ?_, ⟨fun h => ⟨barR' z, List.mem_map.mpr ⟨z, List.mem_filter.mpr ⟨mz, h⟩, rfl⟩⟩, fun ⟨r, h⟩ => ?_⟩, _, rfl, kC _ (Same.refl _)⟩
    · obtain ⟨b', h1, rfl⟩ := List.mem_map.mp he
      refine ⟨b'.nm, barR' b', rfl, bar_alike _ _, bar_dep _, fun en => ?_⟩
      rw [nm_inj (nm := BarD.nm) gb.nb (List.mem_filter.mp h1).1 mz en]
      exact bar_eq _
    · obtain ⟨b', h1, h2⟩ := List.mem_map.mp h
      unfold barDa at h2
      simp only [Da.t.injEq, List.cons.injEq, Da.v.injEq, V.str.injEq] at h2
      obtain ⟨h3, h4⟩ := List.mem_filter.mp h1
      rw [nm_inj (nm := BarD.nm) gb.nb h3 mz h2.1] at h4
      exact h4
  · intro x z HC RC hz sC k
    exact ⟨_, rfl, k⟩
  intro ysK HK pk sK eK
  generalize hkp : bars.filter (fun b => !pG b) = kept at *
  have lK : ysK.length = kept.length := Paired.length pk
  have kl8 : kept.length + (bars.filter pG).length = bars.length := by
    rw [← hkp]
    exact filt_len pG bars
  have R5K := R5.same sK
  refine ⟨_, rfl, DG, rfl, ⟨_, SqL.of (sK _ _ eG5)⟩, for_list (K := K) (a := DG) (xs := ysG) (fun i σ H' => ∃ (o11 o12 o13 : Option V) (kB : List (Key × V)) (ws : List V) (news : List BarD), σ = [some (.ref a), some (.ref pA), some (.ref DK), some (.int c), some (.int (farI sc)), some (.str p.nm), some (.ref sa), some (.ref lw), some (.ref pn), some (.ref DG), o10, o11, o12, o13] ∧ KSame pB H5 H' ∧ FrR K H' C a dx pP pW pB (mpP (rest ++ [p2])) (mpB (kept ++ news)) kP5 kW5 kB ∧ H' DK = some (.lst ws) ∧
      Paired (fun v b => ∃ t v1 v2, v = .ref t ∧ SqT K H' t [.str b.nm, v1, v2] ∧ PinX K H5 pA v1 b.one ∧ PinX K H5 pA v2 b.other) ws (kept ++ news) ∧ news.map (·.nm) = ((bars.filter pG).take i).map (·.nm) ∧ ∀ b ∈ news, b.one ∈ rest ++ [p2] ∧ b.other ∈ rest ++ [p2] ∧ b.one.nm ≠ b.other.nm)
      ⟨none, none, none, kB3, ysK, [], rfl, fun b o _ z => sK _ _ z, by rw [List.append_nil]; exact R5K, eK, by rw [List.append_nil]; exact Paired.mapP pk (fun _ _ ⟨t, v1, v2, e1, h1, h2, h3⟩ => ⟨t, v1, v2, e1, Ty.Same.seqT sK h1, h2, h3⟩), rfl, fun b hb => nomatch hb⟩ (fun i σ H' _ h => by
      obtain ⟨_, _, _, _, _, _, _, k, _⟩ := h
      exact SqL.of (k _ _ (fun z => by rw [z, R5.br] at eG5; cases eG5) eG5)) ?_ ?_⟩
  · rintro i u σ H6 hu ⟨o11, o12, o13, kB6, ws, news, rfl, k6, R6, hK6, pw6, nm6, en6⟩
    obtain ⟨b, eb, hbr⟩ := paired_get pg5 hu
    have t6 : SameT H5 H6 := ks_t k6 R5.br
    have lst6 : ∀ {e : Addr} {xs : List V}, H5 e = some (.lst xs) → H6 e = some (.lst xs) := fun {e xs} h => k6 _ _ (fun z => by rw [z, R5.br] at h; cases h) h
    obtain ⟨tb, u1, u2, rfl, b1, b2, b3⟩ := hbr
    have mb := (List.mem_filter.mp (List.mem_of_getElem? eb)).1
    obtain ⟨m1, m2, m3⟩ := gb.ends b mb
    have il : i < (bars.filter pG).length := (List.getElem?_eq_some_iff.mp eb).1
    refine ⟨tb, _, rfl, t6.seqT b1, rfl, _, _, rfl, _, _, rfl, _, _, rfl, rfl, ?_⟩
    dsimp only
    refine seq_rest (fun σ' H' => ∃ (v1 : V) (q1 : PinD), σ' = [some (.ref a), some (.ref pA), some (.ref DK), some (.int c), some (.int (farI sc)), some (.str p.nm), some (.ref sa), some (.ref lw), some (.ref pn), some (.ref DG), o10, some (.str b.nm), some v1, some u2] ∧ H' = H6 ∧ PinX K H5 pA v1 q1 ∧ q1 ∈ rest ++ [p2] ∧ q1.nm = b.one.nm) (fun Nx hNx => ?_) ?_
    · obtain ⟨a1, l1, sv1, us1, e1, b11, _⟩ := id b2
      refine ⟨_, rfl, a1, _, _, _, e1, rfl, t6.seqT b11, rfl, _, rfl, rfl, _, rfl, ?_⟩
      refine ite2 (fun cc => ?_) (fun cc => ?_)
      · have ee : b.one.nm = p.nm := by simpa [eqV] using cc
        exact ⟨_, rfl, hNx _ _ ⟨.ref pn, p2, rfl, rfl, hpn5, by simp, n2m.trans ee.symm⟩⟩
      · have ee : b.one.nm ≠ p.nm := by simpa [eqV] using cc
        exact hNx _ _ ⟨u1, b.one, rfl, rfl, b2, List.mem_append_left _ (torest _ m1 ee), rfl⟩
    rintro σ' Hy ⟨v1, q1, rfl, rfl, x1', y1', z1'⟩
    refine seq_rest (fun σ' H' => ∃ (v2 : V) (q2 : PinD), σ' = [some (.ref a), some (.ref pA), some (.ref DK), some (.int c), some (.int (farI sc)), some (.str p.nm), some (.ref sa), some (.ref lw), some (.ref pn), some (.ref DG), o10, some (.str b.nm), some v1, some v2] ∧ H' = Hy ∧ PinX K H5 pA v2 q2 ∧ q2 ∈ rest ++ [p2] ∧ q2.nm = b.other.nm) (fun Nx hNx => ?_) ?_
    · obtain ⟨a2, l2, sv2, us2, e2, b21, _⟩ := id b3
      refine ⟨_, rfl, a2, _, _, _, e2, rfl, t6.seqT b21, rfl, _, rfl, rfl, _, rfl, ?_⟩
      refine ite2 (fun cc => ?_) (fun cc => ?_)
      · have ee : b.other.nm = p.nm := by simpa [eqV] using cc
        exact ⟨_, rfl, hNx _ _ ⟨.ref pn, p2, rfl, rfl, hpn5, by simp, n2m.trans ee.symm⟩⟩
      · have ee : b.other.nm ≠ p.nm := by simpa [eqV] using cc
        exact hNx _ _ ⟨u2, b.other, rfl, rfl, b3, List.mem_append_left _ (torest _ m2 ee), rfl⟩
    rintro σ' Hz ⟨v2, q2, rfl, rfl, x2', y2', z2'⟩
    have nq : q1.nm ≠ q2.nm := by rw [z1', z2']; exact m3
    have lR : (us.eraseIdx k).length = rest.length := Paired.length pp5
    refine seq_rest (fun σ' H' => ∃ (w1 w2 : V) (r1 r2 : PinD), σ' = [some (.ref a), some (.ref pA), some (.ref DK), some (.int c), some (.int (farI sc)), some (.str p.nm), some (.ref sa), some (.ref lw), some (.ref pn), some (.ref DG), o10, some (.str b.nm), some w1, some w2] ∧ H' = Hz ∧ PinX K H5 pA w1 r1 ∧ PinX K H5 pA w2 r2 ∧ r1 ∈ rest ++ [p2] ∧ r2 ∈ rest ++ [p2] ∧ r1.nm ≠ r2.nm) (fun Nx hNx => ?_) ?_
    · refine ⟨_, rfl, pA, _, rfl, .inl (SqL.of (lst6 hpA5)), _, _, rfl, rfl, _, rfl, ?_⟩
      refine ite2 (fun c1 => ?_) (fun c1 => ?_)
      · have c1' : 1 < rest.length := by
          have := of_decide_eq_true c1
          omega
        obtain ⟨g0, eg0⟩ : ∃ g0, (bars.filter pG)[0]? = some g0 := ⟨_, List.getElem?_eq_getElem (by omega)⟩
        obtain ⟨y0, ey0⟩ : ∃ y0, ysG[0]? = some y0 := ⟨_, List.getElem?_eq_getElem (by omega)⟩
        obtain ⟨g1, eg1, tg, w1, w2, rfl, hg1, _⟩ := paired_get pg5 ey0
        refine ⟨_, rfl, _, rfl, DG, _, _, _, rfl, rfl, SqL.of (lst6 eG5), atI_nat (j := 0) ey0, tg, _, _, _, rfl, rfl, t6.seqT hg1, rfl, rfl, _, rfl, ?_⟩
        refine ite2 (fun c2 => ?_) (fun c2 => ?_)
        · have d8 : CDivB c 8 := ⟨by decide, by decide +kernel⟩
          have mj := fmod_in (x := c.fdiv 8) (m := 2) (by decide)
          obtain ⟨j, ej⟩ : ∃ j : Nat, (c.fdiv 8).fmod 2 = (j : Int) := ⟨_, (Int.toNat_of_nonneg mj.1).symm⟩
          have j2 : j < 2 := by omega
          obtain ⟨f1, ef1⟩ : ∃ f1, (us.eraseIdx k)[j]? = some f1 := ⟨_, List.getElem?_eq_getElem (by omega)⟩
          obtain ⟨f2, ef2⟩ : ∃ f2, (us.eraseIdx k)[1 - j]? = some f2 := ⟨_, List.getElem?_eq_getElem (by omega)⟩
          obtain ⟨r1, er1, hr1⟩ := paired_get pp5 ef1
          obtain ⟨r2, er2, hr2⟩ := paired_get pp5 ef2
          have nrest : (rest.map (·.nm)).Nodup := by
            rw [← hrest]
            exact ((List.eraseIdx_sublist _ _).map _).nodup gp.np
          have e12 : (1 : Int) - (j : Int) = ((1 - j : Nat) : Int) := by omega
          refine ⟨_, rfl, _, rfl, _, _, rfl, rfl, d8, _, _, rfl, rfl, nz (by decide), pA, _, _, f1, rfl, rfl, SqL.of (lst6 hpA5), (by rw [ej]; exact atI_nat ef1), ?_⟩
          refine ⟨_, rfl, _, rfl, _, _, rfl, rfl, d8, _, _, rfl, rfl, nz (by decide), _, _, rfl, rfl, pA, _, _, f2, rfl, rfl, SqL.of (lst6 hpA5), (by rw [ej, e12]; exact atI_nat ef2), ?_⟩
          exact ⟨_, _, rfl, hNx _ _ ⟨f1, f2, r1, r2, rfl, rfl, hr1, hr2, List.mem_append_left _ (List.mem_of_getElem? er1), List.mem_append_left _ (List.mem_of_getElem? er2), names_new nrest er1 er2 (by omega)⟩⟩
        · exact hNx _ _ ⟨v1, v2, q1, q2, rfl, rfl, x1', x2', y1', y2', nq⟩
      · exact hNx _ _ ⟨v1, v2, q1, q2, rfl, rfl, x1', x2', y1', y2', nq⟩
    rintro σ' Hw ⟨w1, w2, r1, r2, rfl, rfl, hw1, hw2, hr1, hr2, nrr⟩
    obtain ⟨a1, l1, sv1, us1, e1, b11, _⟩ := id hw1
    obtain ⟨a2, l2, sv2, us2, e2, b21, _⟩ := id hw2
    have ln6 : news.length = i := by
      have := congrArg List.length nm6
      rw [List.length_map, List.length_map, List.length_take] at this
      omega
    refine ⟨_, rfl, a, C, dx, _, _, _, rfl, R6.obj, rfl, MPb, _, rfl, _, rfl, a1, _, _, _, e1, rfl, t6.seqT b11, rfl, _, rfl, a2, _, _, _, e2, rfl, t6.seqT b21, rfl, ?_⟩
    refine ⟨a, dx, pP, pW, pB, _, _, kP5, kW5, kB6, b.nm, r1.nm, r2.nm, rfl, R6, fun z => ?_, ?_, ?_, nrr, ?_, fun H7 kB7 k7 R7 => ?_⟩
    · rw [List.map_map] at z
      obtain ⟨b', h1, h2⟩ := List.mem_map.mp z
      have h2' : b'.nm = b.nm := h2
      rcases List.mem_append.mp h1 with h1 | h1
      · rw [← hkp] at h1
        obtain ⟨h3, h4⟩ := List.mem_filter.mp h1
        have := nm_inj (nm := BarD.nm) gb.nb h3 mb h2'
        rw [this, (List.mem_filter.mp (List.mem_of_getElem? eb)).2] at h4
        cases h4
      · have h3 : b.nm ∈ ((bars.filter pG).take i).map (·.nm) := by
          rw [← nm6, ← h2']
          exact List.mem_map.mpr ⟨b', h1, rfl⟩
        obtain ⟨b'', h4, h5⟩ := List.mem_map.mp h3
        exact take_new (nm := BarD.nm) ndG eb h4 h5
    · rw [List.map_map]
      exact List.mem_map.mpr ⟨_, hr1, rfl⟩
    · rw [List.map_map]
      exact List.mem_map.mpr ⟨_, hr2, rfl⟩
    · rw [List.length_map, List.length_append]
      omega
    · have hK7 := k7 _ _ (fun z => by rw [z, R6.br] at hK6; cases hK6) hK6
      have lws : ws.length = kept.length + news.length := by rw [Paired.length pw6, List.length_append]
      refine ⟨_, rfl, .inl ⟨rfl, _, SqL.of hK7⟩, _, rfl, _, rfl, _, rfl, L3, ?_⟩
      intro p8 nq8; generalize eX : upd _ p8 _ = Hq8; have sq8 := eX ▸ same_new nq8 _; have eq8 : Hq8 p8 = some _ := eX ▸ upd_same; clear eX
      have hK8 := sq8 _ _ hK7
      refine ⟨DK, _, _, rfl, rfl, hK8, Nat.lt_of_le_of_lt (show ws.length ≤ 1000 by omega) (by decide), ?_⟩
      have t8 : SameT Hq8 (upd Hq8 DK (.lst (ws ++ [.ref p8]))) := .list hK8
      have t68 : SameT Hw Hq8 := (ks_t k7 R6.br).trans (.of sq8)
      have R8 := R7.same sq8
      have nR : ∀ {e : Addr} {o : HO}, Hq8 e = some o → (∀ xs, o ≠ .lst xs) → e ≠ DK := fun {e o} h n z => by
        rw [z, hK8] at h
        cases h
        exact n _ rfl
      refine ⟨_, _, _, kB7, _, news ++ [⟨b.nm, r1, r2⟩], rfl, fun b' o n z => ?_, ?_, upd_same, ?_, ?_, fun b' hb' => ?_⟩
      · have nK' : b' ≠ DK := fun y => by rw [y, nK] at z; cases z
        rw [upd_ne nK']
        exact sq8 _ _ (k7 _ _ n (k6 _ _ n z))
      · rw [← List.append_assoc, mpB_app]
        exact R8.sameT_of t8 (upd_ne (nR R8.obj fun _ z => nomatch z)) (upd_ne (nR R8.pl fun _ z => nomatch z)) (upd_ne (nR R8.wy fun _ z => nomatch z)) (upd_ne (nR R8.br fun _ z => nomatch z))
      · rw [← List.append_assoc]
        refine paired_snoc (Paired.mapP pw6 fun _ _ ⟨t, v1, v2, y1, y2, y3, y4⟩ => ⟨t, v1, v2, y1, t8.seqT (t68.seqT y2), y3, y4⟩) ⟨p8, w1, w2, rfl, t8.seqT (SqT.of eq8), hw1, hw2⟩
      · rw [take_snoc eb, List.map_append, List.map_append, nm6]
        rfl
      · rcases List.mem_append.mp hb' with h | h
        · exact en6 b' h
        · rw [List.mem_singleton.mp h]
          exact ⟨hr1, hr2, nrr⟩
  rintro σ H6 ⟨o11, o12, o13, kB6, ws, news, rfl, k6, R6, hK6, pw6, nm6, en6⟩
  rw [lG, List.take_length] at nm6
  have hpA6 := k6 _ _ (fun z => by rw [z, R5.br] at hpA5; cases hpA5) hpA5
  have lR : (us.eraseIdx k).length = rest.length := Paired.length pp5
  refine ⟨_, rfl, .inl ⟨rfl, _, SqL.of hpA6⟩, _, rfl, pA, _, _, rfl, rfl, hpA6, Nat.lt_of_le_of_lt (show (us.eraseIdx k).length ≤ 1000 by omega) (by decide), ?_⟩
  have t6 : SameT H5 H6 := ks_t k6 R5.br
  have W6 := wy_ks W5 k6 R5.br
  have F6 : FrB K H6 C a dx pP pW pB pA (rest ++ [p2]) (kept ++ news) := ⟨kP5, kW5, kB6, R6, W6, nW5⟩
  have t7 : SameT H6 (upd H6 pA (.lst (us.eraseIdx k ++ [.ref pn]))) := .list hpA6
  have px6 : ∀ {v : V} {q : PinD}, PinX K H5 pA v q → PinX K (upd H6 pA (.lst (us.eraseIdx k ++ [.ref pn]))) pA v q := fun z => (z.ks k6 R5.br).upd hpA6
  have nDK : DK ≠ pA := fun z => by rw [z, hpA5] at nK; cases nK
  refine ⟨_, rfl, q DK _ ws rest p2 (kept ++ news) _ (fun b o n1 n2 n3 n4 z => ?_) (F6.upd hpA6) upd_same (paired_snoc (Paired.mapP pp5 fun _ _ z => px6 z) (px6 hpn5)) (by rw [upd_ne nDK]; exact hK6) (Paired.mapP pw6 fun _ _ ⟨t, v1, v2, y1, y2, y3, y4⟩ => ⟨t, v1, v2, y1, t7.seqT y2, px6 y3, px6 y4⟩) ?_ (fun q' hq' => (mrest q' hq').1) (fun q' hq' => ?_)⟩
  · rw [upd_ne n4]
    exact k6 _ _ n3 (kG5 b o n1 n2 n3 (sG _ _ (s1B _ _ (k1 b o n4 z))))
  · have nrest : (rest.map (·.nm)).Nodup := by
      rw [← hrest]
      exact ((List.eraseIdx_sublist _ _).map _).nodup gp.np
    have ln6 : news.length = (bars.filter pG).length := by
      have := congrArg List.length nm6
      rw [List.length_map, List.length_map] at this
      exact this
    have wsk : ∀ q' ∈ rest ++ [p2], WaysOk q'.ws := fun q' hq' => by
      rcases List.mem_append.mp hq' with h | h
      · exact gp.ws q' (mrest q' h).1
      · rw [List.mem_singleton.mp h, ← hp2]
        exact wk
    refine ⟨?_, ?_, fun b hb' => ?_, fun q' hq' => ?_, by rw [List.length_append, List.length_singleton]; omega, by rw [List.length_append]; omega, fun q' hq' => (wsk q' hq').len⟩
    · rw [List.map_append, List.nodup_append]
      refine ⟨nrest, by simp, fun x hx y hy e => ?_⟩
      have ey : y = p2.nm := by simpa using hy
      obtain ⟨q', h1, h2⟩ := List.mem_map.mp hx
      exact (mrest q' h1).2 (h2.trans (e.trans (ey.trans n2m)))
    · rw [List.map_append, nm6, ← hkp]
      exact nodup_parts gb.nb pG
    · rcases List.mem_append.mp hb' with h | h
      · have h1 := notG b h
        rw [← hkp] at h
        obtain ⟨m1, m2, m3⟩ := gb.ends b (List.mem_filter.mp h).1
        exact ⟨List.mem_append_left _ (torest _ m1 h1.1), List.mem_append_left _ (torest _ m2 h1.2), m3⟩
      · exact en6 b h
    · refine ⟨?_, ?_, (wsk q' hq').sz⟩
      · rcases List.mem_append.mp hq' with h | h
        · exact (gp.sz q' (mrest q' h).1).1
        · rw [List.mem_singleton.mp h, ← hp2]
          exact ((nr p mp).1.add (far_sz sc)).up (by decide)
      · rcases List.mem_append.mp hq' with h | h
        · exact (gp.sz q' (mrest q' h).1).2
        · rw [List.mem_singleton.mp h, ← hp2]
          exact (gp.sz p mp).2
  · rcases List.mem_append.mp hq' with h | h
    · exact gp.ws q' (mrest q' h).1
    · rw [List.mem_singleton.mp h, ← hp2]
      exact wk
def sumF (f : Str → Rat) : List Str → Rat
  | [] => 0
  | x :: xs => f x + sumF f xs
theorem sumF_fold (f : Str → Rat) : ∀ (xs : List Str) (a : Rat), xs.foldl (fun acc x => acc + f x) a = a + sumF f xs
  | [], a => by
    unfold sumF
    rw [Rat.add_zero]
    rfl
  | x :: xs, a => by
    rw [List.foldl_cons, sumF_fold f xs]
    show a + f x + sumF f xs = a + (f x + sumF f xs)
    rw [Rat.add_assoc]
theorem sumF_zero {f : Str → Rat} : ∀ {xs : List Str}, (∀ x ∈ xs, f x = 0) → sumF f xs = 0
  | [], _ => rfl
  | x :: xs, h => by
    show f x + sumF f xs = 0
    rw [h x List.mem_cons_self, sumF_zero fun y hy => h y (List.mem_cons_of_mem _ hy), Rat.add_zero]
theorem sumF_erase {f : Str → Rat} {x : Str} : ∀ {ys : List Str}, x ∈ ys → sumF f ys = f x + sumF f (ys.erase x)
  | y :: ys, h => by
    by_cases e : y = x
    · subst e
      rw [List.erase_cons_head]
      rfl
    · rw [List.erase_cons_tail (by simpa using e)]
      have := sumF_erase (f := f) (ys := ys) ((List.mem_cons.mp h).resolve_left fun z => e z.symm)
      show f y + sumF f ys = f x + (f y + sumF f (ys.erase x))
      rw [this]
      grind
theorem sumF_two {f : Str → Rat} : ∀ {xs ys : List Str}, xs.Nodup → ys.Nodup → (∀ x ∈ xs, x ∉ ys → f x = 0) → (∀ y ∈ ys, y ∉ xs → f y = 0) → sumF f xs = sumF f ys
  | [], ys, _, _, _, h2 => (sumF_zero fun y hy => h2 y hy (by simp)).symm
  | x :: xs, ys, n1, n2, h1, h2 => by
    rw [List.nodup_cons] at n1
    by_cases c : x ∈ ys
    · rw [sumF_erase c]
      show f x + sumF f xs = _
      congr 1
      refine sumF_two n1.2 (n2.erase _) (fun z hz nz => ?_) (fun y hy ny => ?_)
      · refine h1 z (List.mem_cons_of_mem _ hz) fun zy => nz ?_
        exact (List.mem_erase_of_ne (fun e : z = x => n1.1 (by rw [← e]; exact hz))).mpr zy
      · have := (List.Nodup.mem_erase_iff n2).mp hy
        exact h2 y this.2 fun z => (List.mem_cons.mp z).elim this.1 ny
    · show f x + sumF f xs = _
      rw [h1 x List.mem_cons_self c, Rat.zero_add]
      refine sumF_two n1.2 n2 (fun z hz nz => h1 z (List.mem_cons_of_mem _ hz) nz) (fun y hy ny => h2 y hy fun z => ?_)
      rcases List.mem_cons.mp z with e | e
      · exact c (e ▸ hy)
      · exact ny e
theorem pd_none {K : PySem.W.Frag} {H : Hp} {kvs : List (Key × V)} {F : Str → Option (Rat × Rat)} {xs : List Str} (h : PtD K H kvs F) (ks : kvs.map (·.1) = xs.map (fun x => (Sum.inr x : Key))) {x : Str} (n : x ∉ xs) : mv F x = (0, 0) := by
  have v0 : valV kvs (.inr x) = none := valV_none (by rw [ks]; exact fun z => n (key_mem.mp z))
  rcases h x with ⟨_, e⟩ | ⟨v, p, e1, _⟩
  · unfold mv
    rw [e]
    rfl
  · rw [v0] at e1
    cases e1
theorem work_two {K : PySem.W.Frag} {H : Hp} {kL kM : List (Key × V)} {L M : Str → Option (Rat × Rat)} {xs ys : List Str} (pL : PtD K H kL L) (kl : kL.map (·.1) = xs.map (fun x => (Sum.inr x : Key))) (pM : PtD K H kM M) (km : kM.map (·.1) = ys.map (fun x => (Sum.inr x : Key))) (n1 : xs.Nodup) (n2 : ys.Nodup) : wkS M L ys = wkS L M xs := by
  have e1 : wkS M L ys = sumF (fun x => dotP (mv M x) (mv L x)) ys := by
    unfold wkS
    rw [sumF_fold (fun x => dotP (mv M x) (mv L x)), Rat.zero_add]
  have e2 : wkS L M xs = sumF (fun x => dotP (mv L x) (mv M x)) xs := by
    unfold wkS
    rw [sumF_fold (fun x => dotP (mv L x) (mv M x)), Rat.zero_add]
  have e3 : (fun x => dotP (mv M x) (mv L x)) = fun x => dotP (mv L x) (mv M x) := by
    funext x
    unfold dotP
    grind
  rw [e1, e2, e3]
  refine sumF_two n2 n1 (fun y _ ny => ?_) (fun x _ nx => ?_)
  · unfold dotP
    rw [pd_none pL kl ny]
    show (0 : Rat) * _ + (0 : Rat) * _ = 0
    grind
  · unfold dotP
    rw [pd_none pM km nx]
    show _ * (0 : Rat) + _ * (0 : Rat) = 0
    grind
def itDa (F : Str → Option (Rat × Rat)) (x : Str) : Da := .t [.v (.str x), .t (spotD (ptQ (mv F x)))]
theorem it_alike (F : Str → Option (Rat × Rat)) : ∀ xs : List Str, alikes (xs.map (itDa F)) (xs.map (itDa F)) = true
  | [] => by simp [alikes]
  | x :: xs => by
    rw [List.map_cons]
    unfold alikes
    rw [it_alike F xs]
    unfold itDa alike alikes alikes alikes
    simp only [alike, alike_spots, Bool.and_self]
theorem it_eq (F : Str → Option (Rat × Rat)) : ∀ xs : List Str, eqDas (xs.map (itDa F)) (xs.map (itDa F)) = true
  | [] => by simp [eqDas]
  | x :: xs => by
    rw [List.map_cons]
    unfold eqDas
    rw [it_eq F xs]
    unfold itDa eqDa eqDas eqDas eqDas
    simp only [eqDa, eq_spots, eqV, decide_true, Bool.and_self, BEq.rfl]
theorem it_dep (F : Str → Option (Rat × Rat)) : ∀ xs : List Str, deps (xs.map (itDa F)) ≤ 55
  | [] => by simp [deps]
  | x :: xs => by
    rw [List.map_cons]
    unfold deps
    have h1 := it_dep F xs
    have h2 : dep (itDa F x) ≤ 55 := by simp [itDa, dep, deps, spotD]
    omega
def ItsR (H : Hp) (us : List V) (kvs : List (Key × V)) : Prop := Paired (fun u (kv : Key × V) => ∃ p, u = .ref p ∧ H p = some (.tup [kV kv.1, kv.2])) us kvs
theorem ItsR.keep {H H' : Hp} {us : List V} {kvs : List (Key × V)} (h : ItsR H us kvs) (k : ∀ p xs, H p = some (.tup xs) → H' p = some (.tup xs)) : ItsR H' us kvs := Paired.mapP h fun _ _ ⟨p, e1, e2⟩ => ⟨p, e1, k _ _ e2⟩
theorem iss_its {H : Hp} {F : Str → Option (Rat × Rat)} {kvs : List (Key × V)} (pd : PtD K H kvs F) : ∀ {us : List V} {ks : List (Key × V)} {xs : List Str}, ItsR H us ks → ks.map (·.1) = xs.map (fun x => (Sum.inr x : Key)) → (∀ kv ∈ ks, valV kvs kv.1 = some kv.2) → Iss K H (xs.map (itDa F)) us
  | _, _, [], .nil, _, _ => by unfold Iss; trivial
  | _, _, _ :: _, .nil, h, _ => by simp at h
  | _, _, [], .cons _ _, h, _ => by simp at h
  | _, kv :: _, x :: xs, .cons ⟨p, e1, e2⟩ t, h, hv => by
    rw [List.map_cons, List.map_cons] at h
    have h1 : kv.1 = Sum.inr x := (List.cons.inj h).1
    rw [List.map_cons]
    unfold Iss
    refine ⟨?_, iss_its pd t (List.cons.inj h).2 fun kv' hk => hv kv' (List.mem_cons_of_mem _ hk)⟩
    have vx := hv kv List.mem_cons_self
    rw [h1] at vx e2
    have hy : PtR K H kv.2 (mv F x) := by
      rcases pd x with ⟨z1, _⟩ | ⟨v', p', z1, z2, z3⟩
      · rw [vx] at z1
        cases z1
      · rw [vx] at z1
        cases z1
        unfold mv
        rw [z2]
        exact z3
    unfold itDa Is
    refine ⟨p, _, e1, SqT.of e2, ?_⟩
    unfold Iss
    refine ⟨by unfold Is; exact ⟨rfl, rfl⟩, ?_⟩
    unfold Iss
    exact ⟨hy.spot.is, by unfold Iss; trivial⟩
theorem its_is {H : Hp} {F : Str → Option (Rat × Rat)} {kvs : List (Key × V)} {l : Addr} {us : List V} {xs : List Str} (hl : H l = some (.lst us)) (pu : ItsR H us kvs) (ks : kvs.map (·.1) = xs.map (fun x => (Sum.inr x : Key))) (nd : xs.Nodup) (pd : PtD K H kvs F) : Is K H (.l (xs.map (itDa F))) (.ref l) := by
  unfold Is
  refine ⟨l, us, rfl, SqL.of hl, iss_its pd pu ks fun kv hk => ?_⟩
  obtain ⟨i, hi, ei⟩ := List.mem_iff_getElem.mp hk
  have nk : (kvs.map (·.1)).Nodup := by
    rw [ks]
    exact nodup_inr nd
  exact valV_at' nk (t := i) (by rw [List.getElem?_eq_getElem hi, ei])
theorem dict_funP {α : Type} {kvs : List (Key × V)} {R : V → α → Prop} (h : ∀ nm v, valV kvs (.inr nm) = some v → ∃ r, R v r) : ∃ F : Str → Option α, ∀ nm, (valV kvs (.inr nm) = none ∧ F nm = none) ∨ ∃ v r, valV kvs (.inr nm) = some v ∧ F nm = some r ∧ R v r := by
  have key : ∀ nm, ∃ o : Option α, (valV kvs (.inr nm) = none ∧ o = none) ∨ ∃ v r, valV kvs (.inr nm) = some v ∧ o = some r ∧ R v r := fun nm => by
    cases e : valV kvs (.inr nm) with
    | none => exact ⟨none, .inl ⟨rfl, rfl⟩⟩
    | some v =>
      obtain ⟨r, hr⟩ := h nm v e
      exact ⟨some r, .inr ⟨v, r, rfl, rfl, hr⟩⟩
  exact ⟨fun nm => Classical.choose (key nm), fun nm => Classical.choose_spec (key nm)⟩
structure Hnd (K : PySem.W.Frag) (H : Hp) (d : Addr) (kvs : List (Key × V)) (xs : List Str) (F : Str → Option (Rat × Rat)) : Prop where
  at_ : H d = some (.dK kvs)
  ks : kvs.map (·.1) = xs.map (fun x => (Sum.inr x : Key))
  nd : xs.Nodup
  len : xs.length ≤ 6
  pd : PtD K H kvs F
  sz : mvSz F
theorem Hnd.same {K : PySem.W.Frag} {H H' : Hp} {d : Addr} {kvs : List (Key × V)} {xs : List Str} {F : Str → Option (Rat × Rat)} (h : Hnd K H d kvs xs F) (s : Same H H') : Hnd K H' d kvs xs F := ⟨s _ _ h.at_, h.ks, h.nd, h.len, h.pd.same s, h.sz⟩
theorem Hnd.t {K : PySem.W.Frag} {H H' : Hp} {d : Addr} {kvs : List (Key × V)} {xs : List Str} {F : Str → Option (Rat × Rat)} (h : Hnd K H d kvs xs F) (e : H' d = some (.dK kvs)) (s : SameT H H') : Hnd K H' d kvs xs F := ⟨e, h.ks, h.nd, h.len, fun nm => by
  rcases h.pd nm with z | ⟨v, p, h1, h2, h3⟩
  · exact .inl z
  · exact .inr ⟨v, p, h1, h2, h3.sameT s⟩, h.sz⟩
theorem hnd_of {K : PySem.W.Frag} {H : Hp} {d : Addr} {b : Bool} {rows : List (Str × V)} (e : H d = some (.dK (hdd (turnB b rows)))) (nd : (rows.map (·.1)).Nodup) (len : rows.length ≤ 6) (hp : ∀ r ∈ rows, r.2 ≠ V.non → ∃ m : Rat × Rat, PtR K H r.2 m ∧ Sz 50 m.1 ∧ Sz 50 m.2) :
    ∃ (kvs : List (Key × V)) (xs : List Str) (F : Str → Option (Rat × Rat)), H d = some (.dK kvs) ∧ Hnd K H d kvs xs F := by
  have mem : ∀ r, r ∈ turnB b rows → r ∈ rows := fun r h => by
    unfold turnB at h
    cases b
    · exact h
    · rw [if_pos rfl] at h
      exact List.mem_reverse.mp h
  have nd' : ((turnB b rows).map (·.1)).Nodup := by
    unfold turnB
    cases b
    · exact nd
    · rw [if_pos rfl, List.map_reverse]
      exact (List.reverse_perm _).nodup_iff.mpr nd
  have len' : (turnB b rows).length ≤ 6 := by
    unfold turnB
    cases b
    · exact len
    · rw [if_pos rfl, List.length_reverse]
      exact len
  obtain ⟨F, hF⟩ := dict_funP (kvs := hdd (turnB b rows)) (R := fun v (m : Rat × Rat) => PtR K H v m ∧ Sz 50 m.1 ∧ Sz 50 m.2) fun nm v ev => by
    have h1 := valV_mem ev
    unfold hdd at h1
    obtain ⟨r, h2, h3⟩ := List.mem_map.mp h1
    obtain ⟨h4, h5⟩ := List.mem_filter.mp h2
    cases h3
    exact hp r (mem r h4) (by simpa using h5)
  refine ⟨_, ((turnB b rows).filter fun r => !decide (r.2 = V.non)).map (·.1), F, e, e, ?_, ?_, ?_, fun nm => ?_, fun x => ?_⟩
  · unfold hdd
    rw [List.map_map, List.map_map]
    rfl
  · exact ((List.filter_sublist).map _).nodup nd'
  · rw [List.length_map]
    exact Nat.le_trans (List.length_filter_le _ _) len'
  · rcases hF nm with h | ⟨v, r, h1, h2, h3, _⟩
    · exact .inl h
    · exact .inr ⟨v, r, h1, h2, h3⟩
  · unfold mv
    rcases hF x with ⟨_, h⟩ | ⟨v, r, _, h2, _, h3, h4⟩
    · rw [h]
      exact ⟨sz_zero (by decide), sz_zero (by decide)⟩
    · rw [h2]
      exact ⟨h3.up (by decide), h4.up (by decide)⟩
structure W16 (K : PySem.W.Frag) (H : Hp) (C fA dx pP pW pB lP lB : Addr) (us vs : List V) (pins : List PinD) (bars : List BarD) : Prop where
  fr : FrB K H C fA dx pP pW pB lP pins bars
  hp : H lP = some (.lst us)
  pp : Paired (PinX K H lP) us pins
  hb : H lB = some (.lst vs)
  pb : Paired (BarR K H lP) vs bars
  g : GoodF pins bars
theorem W16.same {K : PySem.W.Frag} {H H' : Hp} {C fA dx pP pW pB lP lB : Addr} {us vs : List V} {pins : List PinD} {bars : List BarD} (h : W16 K H C fA dx pP pW pB lP lB us vs pins bars) (s : Same H H') : W16 K H' C fA dx pP pW pB lP lB us vs pins bars :=
  ⟨h.fr.same s, s _ _ h.hp, Paired.mapP h.pp fun _ _ z => z.same s, s _ _ h.hb, Paired.mapP h.pb fun _ _ z => z.same s, h.g⟩
structure RwS (K : PySem.W.Frag) (H : Hp) (us : List V) (rows : List (Str × V)) (pins : List PinD) : Prop where
  rw : Paired (RowR K H) us rows
  nms : rows.map (·.1) = pins.map (·.nm)
  pts : ∀ r ∈ rows, r.2 ≠ V.non → ∃ m : Rat × Rat, PtR K H r.2 m ∧ Sz 50 m.1 ∧ Sz 50 m.2
section
variable {K : PySem.W.Frag} {H H' : Hp} {us : List V} {rows : List (Str × V)} {pins : List PinD}
theorem RwS.nil : RwS K H [] [] [] := ⟨.nil, rfl, fun r h => nomatch h⟩
theorem RwS.rl (h : RwS K H us rows pins) : rows.length = pins.length := by
  have := congrArg List.length h.nms
  rw [List.length_map, List.length_map] at this
  exact this
theorem RwS.len (h : RwS K H us rows pins) : us.length = pins.length := (Paired.length h.rw).trans h.rl
theorem RwS.t (h : RwS K H us rows pins) (s : SameT H H') : RwS K H' us rows pins :=
  ⟨Paired.mapP h.rw fun _ _ ⟨a, e, z⟩ => ⟨a, e, s.seqT z⟩, h.nms, fun r hr n => by obtain ⟨m, z1, z2⟩ := h.pts r hr n; exact ⟨m, z1.sameT s, z2⟩⟩
theorem RwS.same (h : RwS K H us rows pins) (s : Same H H') : RwS K H' us rows pins := h.t (.of s)
theorem RwS.snoc {p : PinD} {v : V} {a : Addr} (h : RwS K H us rows pins) (e : H a = some (.tup [.str p.nm, v])) (hv : v ≠ V.non → ∃ m : Rat × Rat, PtR K H v m ∧ Sz 50 m.1 ∧ Sz 50 m.2) (s : SameT H H') : RwS K H' (us ++ [.ref a]) (rows ++ [(p.nm, v)]) (pins ++ [p]) := by
  refine RwS.t ⟨paired_snoc h.rw ⟨a, rfl, SqT.of e⟩, by rw [List.map_append, List.map_append, h.nms]; rfl, fun r hr n => ?_⟩ s
  rcases List.mem_append.mp hr with z | z
  · exact h.pts r z n
  · rw [List.mem_singleton.mp z] at n ⊢
    exact hv n
end
def K4 (pP pW pB lP : Addr) (H H' : Hp) : Prop := ∀ b o, b ≠ pP → b ≠ pW → b ≠ pB → b ≠ lP → H b = some o → H' b = some o
theorem W16.d3 {K : PySem.W.Frag} {H : Hp} {C fA dx pP pW pB lP lB : Addr} {us vs : List V} {pins : List PinD} {bars : List BarD} (h : W16 K H C fA dx pP pW pB lP lB us vs pins bars) : D3 pP pW pB H := by
  obtain ⟨kP, kW, kB, R, _⟩ := h.fr.ex
  exact ⟨⟨_, R.pl⟩, ⟨_, R.wy⟩, ⟨_, R.br⟩⟩
theorem K4.get {pP pW pB lP : Addr} {H H' : Hp} {xs : List V} (k : K4 pP pW pB lP H H') (h : D3 pP pW pB H) (hp : H lP = some (.lst xs)) {b : Addr} {o : HO} (e : H b = some o) (n : ∀ kvs, o ≠ .dK kvs) (nl : b ≠ lP) : H' b = some o := by
  obtain ⟨n1, n2, n3⟩ := h.ne e n
  exact k b o n1 n2 n3 nl e
theorem K4.tup {pP pW pB lP : Addr} {H H' : Hp} {xs : List V} (k : K4 pP pW pB lP H H') (h : D3 pP pW pB H) (hp : H lP = some (.lst xs)) {b : Addr} {ys : List V} (e : H b = some (.tup ys)) : H' b = some (.tup ys) :=
  k.get h hp e (fun _ z => nomatch z) fun z => by rw [z, hp] at e; cases e
theorem K4.t {pP pW pB lP : Addr} {H H' : Hp} {xs : List V} (k : K4 pP pW pB lP H H') (h : D3 pP pW pB H) (hp : H lP = some (.lst xs)) : SameT H H' := fun b zs r => by
  rcases r with r | ⟨o', r⟩
  · exact .inl (k.tup h hp r)
  · exact .inr ⟨o', k.get h hp r (fun _ z => nomatch z) fun z => by rw [z, hp] at r; cases r⟩
theorem sc_law : FnScope ["_law_script", "_law_scale", "_law_names_here", "_law_pins_here", "_law_bars_here", "_law_frame_here", "_law_other", "_law_motion", "_law_load", "_law_k", "_law_kept", "_law_found", "_law_slipped_here", "_law_some", "_law_due"] ["_law_script"] (defScope s_law) := ⟨rfl, rfl, rfl, by decide +kernel, rfl, by decide +kernel, by decide +kernel⟩
theorem ok_law {f : Addr} {fd : FuncData} {C : Addr} (F : Fun K "law" "law" s_law f fd) (m_range : mg "range" = none) (m_len : mg "len" = none) (m_list : mg "list" = none) (m_int : mg "int" = none)
    (G_law_cell_at : Fn P w K mg base (CXr P w) 1 "_law_cell_at" ["_law_script", "_law_k"] (spCell K)) (G_law_names : Fn P w K mg base (CXr P w) 1 "_law_names" ["_law_cell", "_law_many"] spNames)
    (G_law_pins : Fn P w K mg base (CXr P w) 35 "_law_pins" ["_law_script", "_law_names_here", "_law_scale"] (spPinsL K)) (G_law_bars : Fn P w K mg base (CXr P w) 2 "_law_bars" ["_law_script", "_law_names_here", "_law_pins_here"] (spBarsL K))
    (G_law_frame : Fn P w K mg base (CXr P w) 5 "_law_frame" ["_law_pins_here", "_law_bars_here"] (spFrameL K C)) (G_law_moved : Fn P w K mg base (CXr P w) 35 "_law_moved" ["_law_cell", "_law_scale"] (spMoved K)) (G_law_handed : Fn P w K mg base (CXr P w) 1 "_law_handed" ["_law_rows", "_law_about"] (spHanded K))
    (G_law_longer : Fn P w K mg base (CXr P w) 36 "_law_longer" ["_law_found", "_law_bars_here", "_law_motion"] (spLonger K)) (G_law_slipped : Fn P w K mg base (CXr P w) 36 "_law_slipped" ["_law_found", "_law_pins_here", "_law_motion"] (spSlipped K)) (G_law_told : Fn P w K mg base (CXr P w) 38 "_law_told" ["_law_frame_here", "_law_pins_here", "_law_bars_here", "_law_motion"] (spTold K C))
    (G_law_work : Fn P w K mg base (CXr P w) 36 "_law_work" ["_law_load", "_law_motion"] (spWork K)) (G_law_number : Fn P w K mg base (CXr P w) 1 "_law_number" ["_law_found", "_law_due"] (spNumber K)) (G_law_put_anew : Fn P w K mg base (CXr P w) 35 "_law_put_anew" ["_law_frame_here", "_law_pins_here", "_law_bars_here", "_law_cell", "_law_far"] (spAnew K C))
    (G_lengthenings : Fn P w K mg base (CXr P w) 37 "lengthenings" ["F", "motion"] (spLen K C)) (G_slips : Fn P w K mg base (CXr P w) 37 "slips" ["F", "motion"] (spSlips K C)) (G_work_of : Fn P w K mg base (CXr P w) 36 "work_of" ["load", "motion"] (spWork K)) :
    FnOk P w K mg base (CXr P w) 42 f fd ["_law_script"] (spLaw K) := by
  refine F.okG sc_law (fun vs H Q E h => ?_) (fun cdv A outer s H vs Q E hr h => ?_)
  · obtain ⟨a, ns, rfl, _⟩ := h
    rfl
  obtain ⟨sA, ns, rfl, hS, hn, hb, q⟩ := h
  have px := passM (X := (cxOf (CXr P w) P w K mg base ["_law_script", "_law_scale", "_law_names_here", "_law_pins_here", "_law_bars_here", "_law_frame_here", "_law_other", "_law_motion", "_law_load", "_law_k", "_law_kept", "_law_found", "_law_slipped_here", "_law_some", "_law_due"] "law" (defScope s_law) f cdv A outer s H E)) (CXr.mute (P := P) (w := w))
  have L2 : 2 ≤ sizeLine := by decide
  have tail11 : ∃ t, PSs (cxOf (CXr P w) P w K mg base ["_law_script", "_law_scale", "_law_names_here", "_law_pins_here", "_law_bars_here", "_law_frame_here", "_law_other", "_law_motion", "_law_load", "_law_k", "_law_kept", "_law_found", "_law_slipped_here", "_law_some", "_law_due"] "law" (defScope s_law) f cdv A outer s H E).nox ((defBody s_law).drop 11) t ∧ ∀ (H0 : Hp) (fA dx pP pW pB lP lB dM dL : Addr) (us vs : List V) (pins : List PinD) (bars : List BarD) (kM kL : List (Key × V)) (xM xL : List Str) (M L : Str → Option (Rat × Rat)) (sc : Int) (o2 o6 o9 : Option V),
      Same H H0 → W16 K H0 C fA dx pP pW pB lP lB us vs pins bars → lB ≠ lP → GoodP pins → GoodB pins bars → Near sc pins → 0 ≤ sc → Hnd K H0 dM kM xM M → Hnd K H0 dL kL xL L → dM ≠ dL → (dM ≠ pP ∧ dM ≠ pW ∧ dM ≠ pB) → (dL ≠ pP ∧ dL ≠ pW ∧ dL ≠ pB) →
      t { nx := fun _ H' => Q .non H', rt := Q } [some (.ref sA), some (.int sc), o2, some (.ref lP), some (.ref lB), some (.ref fA), o6, some (.ref dM), some (.ref dL), o9, none, none, none, none, none] H0 := by
    refine ⟨_, (pss_cons (ps_set (i := 10) sc_law.nd rfl (Or.inl rfl) (pe_tup (pac (pe_listIs rfl rfl m_list (pv 7)) (pac (pe_listIs rfl rfl m_list (pv 8)) pa_nil)))) (pss_cons (ps_set (i := 11) sc_law.nd rfl (Or.inl rfl) (pe_fn G_lengthenings (hr.mono (by decide)) px (pac (pv 5) (pac (pv 7) pa_nil)))) (pss_cons (ps_set (i := 12) sc_law.nd rfl (Or.inl rfl) (pe_fn G_slips (hr.mono (by decide)) px (pac (pv 5) (pac (pv 7) pa_nil)))) (pss_cons (ps_if (PW.pt (pw_or (pt_not (pt_val (pe_fn G_law_longer (hr.mono (by decide)) px (pac (pv 11) (pac (pv 4) (pac (pv 7) pa_nil)))))) (pw_or1 (pt_not (pt_val (pe_fn G_law_slipped (hr.mono (by decide)) px (pac (pv 12) (pac (pv 3) (pac (pv 7) pa_nil))))))))) (pss_one (ps_ret pe_bl)) pss_nil) (pss_cons (ps_dput (hu_of hr) (pv 11) pe_str pe_int rfl) (pss_cons (ps_for PassesOwn.never rfl (pi_valsF (pv 12)) (pg_name (i := 13) sc_law.nd rfl (Or.inl rfl)) (pss_one (ps_expr (pe_bm PySem.F.plainAttrs_list PySem.F.slot_list_append PySem.F.type_list_append mt_append (pv 13) (pac pe_int pa_nil))))) (pss_cons (ps_if (pt_not (pt_val (pe_fn G_law_told (hr.mono (by decide)) px (pac (pv 5) (pac (pv 3) (pac (pv 4) (pac pe_dnewK pa_nil))))))) (pss_one (ps_ret pe_bl)) pss_nil) (pss_cons (ps_set (i := 14) sc_law.nd rfl (Or.inl rfl) (pe_fn G_law_work (hr.mono (by decide)) px (pac (pv 8) (pac (pv 7) pa_nil)))) (pss_cons (ps_if (PW.pt (pw_or (pt_not (pt_val (pe_fn G_law_number (hr.mono (by decide)) px (pac (pe_fn G_work_of (hr.mono (by decide)) px (pac (pv 8) (pac (pv 7) pa_nil))) (pac (pv 14) pa_nil))))) (pw_or1 (pt_not (pt_val (pe_fn G_law_number (hr.mono (by decide)) px (pac (pe_fn G_work_of (hr.mono (by decide)) px (pac (pv 7) (pac (pv 8) pa_nil))) (pac (pv 14) pa_nil)))))))) (pss_one (ps_ret pe_bl)) pss_nil) (pss_cons (ps_if (pt_not (pt_val (pe_fn G_law_told (hr.mono (by decide)) px (pac (pv 5) (pac (pv 3) (pac (pv 4) (pac (pv 7) pa_nil))))))) (pss_one (ps_ret pe_bl)) pss_nil) (pss_cons (ps_if (pt_cmpR op_gt (pe_callB call_len_seq rfl m_len b_len (pac (pv 3) pa_nil)) pe_int (nomark _)) (pss_one (ps_set (i := 4) sc_law.nd rfl (Or.inl rfl) (pe_fn G_law_put_anew (hr.mono (by decide)) px (pac (pv 5) (pac (pv 3) (pac (pv 4) (pac (pe_fn G_law_cell_at (hr.mono (by decide)) px (pac (pv 0) (pac pe_int pa_nil))) (pac (pe_ix ix_list (pe_lst (pac pe_int (pac (pe_op op_mulB pe_int (pe_op op_pow pe_int pe_int)) pa_nil))) (pe_callTy call_int1 rfl m_int b_int (pac (pe_cmpR op_gt (pv 1) pe_int (nomark _)) pa_nil)) (fun _ _ => rfl)) pa_nil)))))))) pss_nil) (pss_cons (ps_if (pt_not (pt_val (pe_fn G_law_told (hr.mono (by decide)) px (pac (pv 5) (pac (pv 3) (pac (pv 4) (pac (pv 7) pa_nil))))))) (pss_one (ps_ret pe_bl)) pss_nil) (pss_one (ps_ret (pe_cmpR (op_eqDa hr.units) (pv 10) (pe_tup (pac (pe_listIs rfl rfl m_list (pv 7)) (pac (pe_listIs rfl rfl m_list (pv 8)) pa_nil))) (nomark _)))))))))))))))), ?_⟩
    intro H0 fA dx pP pW pB lP lB dM dL us vs pins bars kM kL xM xL M L sc o2 o6 o9 s00 W0 nBP gp gb nr c0 hM hL dML nM nL
    refine ⟨_, rfl, dM, kM, rfl, hM.at_, fun lA uA HA sA' nA eA iA => ?_⟩
    refine ⟨_, rfl, dL, kL, rfl, sA' _ _ hL.at_, fun lC uC HC sC nC eC iC => ⟨L2, ?_⟩⟩
    intro pk nk; generalize eX : upd _ pk _ = H1; have sk := eX ▸ same_new nk _; have ek : H1 pk = some _ := eX ▸ upd_same; clear eX
    have s01 := sm_tr (sm_tr sA' sC) sk
    have V1 := W0.same s01
    have hM1 := hM.same s01
    have hL1 := hL.same s01
    have sA1 := sm_tr sC sk
    have eA1 := sA1 _ _ eA
    have eC1 := sk _ _ eC
    have iA1 : ItsR H1 uA kM := ItsR.keep iA fun _ _ z => sA1 _ _ z
    have iC1 : ItsR H1 uC kL := ItsR.keep iC fun _ _ z => sk _ _ z
    have lAP : lA ≠ lP := fun z => by rw [z, W0.hp] at nA; cases nA
    have lCP : lC ≠ lP := fun z => by rw [z, sA' _ _ W0.hp] at nC; cases nC
    refine ⟨_, rfl, _, rfl, fA, dM, pins, bars, kM, M, rfl, V1.fr.fr, V1.g, hM1.at_, hM1.pd, hM1.sz, fun e kv H2 s2 ne he ks tl => ?_⟩
    have V2 := V1.same s2
    have hM2 := hM1.same s2
    refine ⟨_, rfl, _, rfl, fA, dM, pins, bars, kM, M, rfl, V2.fr.fr, V2.g, hM2.at_, hM2.pd, hM2.sz, fun eS kvS H3 s3 neS heS ksS tlS => ?_⟩
    have V3 := V2.same s3
    have hM3 := hM2.same s3
    refine ⟨_, rfl, _, rfl, _, rfl, e, lB, dM, lP, kv, kM, vs, pins, bars, M, rfl, s3 _ _ he, ks, fun b hb => ?_, V3.hb, V3.pb, V3.g, hM3.at_, hM3.pd, hM3.sz, fun H4 s4 => ?_⟩
    · obtain ⟨v, h1, h2⟩ := tl b hb
      exact ⟨v, h1, h2.same s3⟩
    refine ⟨_, rfl, ?_⟩
    refine ite2 (fun c => nomatch c) (fun _ => ?_)
    have V4 := V3.same s4
    have hM4 := hM3.same s4
    refine ⟨_, rfl, _, rfl, _, rfl, eS, lP, dM, kvS, kM, us, pins, bars, M, rfl, s4 _ _ heS, ksS, fun p hp => ?_, V4.hp, V4.pp, V4.g, hM4.at_, hM4.pd, hM4.sz, fun H5 s5 => ?_⟩
    · obtain ⟨l, ws, h1, _, h2, h3⟩ := tlS p hp
      exact ⟨l, ws, h1, s4 _ _ h2, Paired.mapP h3 fun _ _ z => z.same s4⟩
    refine ⟨_, rfl, ?_⟩
    refine ite2 (fun c => nomatch c) (fun _ => ?_)
    have s25 := sm_tr s3 (sm_tr s4 s5)
    have s35 := sm_tr s4 s5
    have e5 := s25 _ _ he
    have lk : kv.length ≤ 8 := by
      have z := congrArg List.length ks
      rw [List.length_map, List.length_map] at z
      have := W0.g.lb
      omega
    refine ⟨_, rfl, e, _, rfl, DPut.k (k := .inr "other") e5 (Nat.lt_of_le_of_lt (show kv.length ≤ 1000 by omega) (by decide)), ?_⟩
    have nS : eS ≠ e := fun z => by rw [z, he] at neS; cases neS
    have s16 : Same H1 (upd H5 e (.dK (putK kv (.inr "other") (.int 7)))) := fun b o z => by
      rw [upd_ne (ne_of_none z ne)]
      exact s25 _ _ (s2 _ _ z)
    have hS6 : (upd H5 e (.dK (putK kv (.inr "other") (.int 7)))) eS = some (.dK kvS) := by
      rw [upd_ne nS]
      exact s35 _ _ heS
    have nkS : (kvS.map (·.1)).Nodup := by
      have e2 : kvS.map (·.1) = (pins.map (·.nm)).map (fun x => (Sum.inr x : Key)) := by rw [ksS, List.map_map]; rfl
      rw [e2]
      exact nodup_inr W0.g.np
    have lS6 : ∀ (i : Nat) (k : Key) (v : V), kvS[i]? = some (k, v) → ∃ l ws, v = .ref l ∧ H1 l = none ∧ ws.length ≤ 2 ∧ (upd H5 e (.dK (putK kv (.inr "other") (.int 7)))) l = some (.lst ws) := fun i k v ei => by
      have ek : k ∈ kvS.map (·.1) := List.mem_map.mpr ⟨_, List.mem_of_getElem? ei, rfl⟩
      rw [ksS] at ek
      obtain ⟨p, hp, rfl⟩ := List.mem_map.mp ek
      obtain ⟨l, ws, h1, h2, h3, h4⟩ := tlS p hp
      rw [valV_at' nkS ei] at h1
      cases h1
      refine ⟨l, ws, rfl, none_back s2 h2, ?_, ?_⟩
      · have z := Paired.length h4
        unfold slipsOf at z
        rw [List.length_map] at z
        have := W0.g.lw p hp
        omega
      · rw [upd_ne (fun z => by rw [z, he] at h2; cases h2)]
        exact s35 _ _ h3
    have lkS : kvS.length ≤ 6 := by
      have z := congrArg List.length ksS
      rw [List.length_map, List.length_map] at z
      have := W0.g.lp
      omega
    generalize upd H5 e (.dK (putK kv (.inr "other") (.int 7))) = H6 at s16 hS6 lS6 ⊢
    refine ⟨_, rfl, eS, kvS, rfl, hS6, fun o => ?_⟩
    have neS1 : H1 eS = none := none_back s2 neS
    have frz_l : ∀ {l : Addr} {ws : List V}, H6 l = some (.lst ws) → (upd H6 eS (.frz o (.dK kvS))) l = some (.lst ws) := fun {l ws} z => by
      rw [upd_ne (fun y => by rw [y, hS6] at z; cases z)]
      exact z
    refine for_vals (d := eS) (o := o) (kvs := kvS) (fun i σ H' => ∃ o13, σ = [some (.ref sA), some (.int sc), o2, some (.ref lP), some (.ref lB), some (.ref fA), o6, some (.ref dM), some (.ref dL), o9, some (.ref pk), some (.ref e), some (.ref eS), o13, none] ∧ Same H1 H' ∧ H' eS = some (.frz o (.dK kvS)) ∧ ∀ (j : Nat) (k : Key) (v : V), kvS[j]? = some (k, v) → ∃ l ws, v = .ref l ∧ H1 l = none ∧ ws.length ≤ 2 + i ∧ H' l = some (.lst ws)) ⟨none, rfl, fun b o' z => by rw [upd_ne (ne_of_none z neS1)]; exact s16 _ _ z, upd_same, fun j k v ej => by
        obtain ⟨l, ws, h1, h2, h3, h4⟩ := lS6 j k v ej
        exact ⟨l, ws, h1, h2, by omega, frz_l h4⟩⟩ (fun i σ H' _ h => by
        obtain ⟨_, _, _, h, _⟩ := h
        exact h) ?_ ?_
    · rintro i k x σ H7 ekv ⟨o13, rfl, s7, f7, l7⟩
      obtain ⟨l, ws, rfl, h1, h2, h3⟩ := l7 i k x ekv
      have i6 : i < kvS.length := (List.getElem?_eq_some_iff.mp ekv).1
      refine ⟨_, rfl, .inl ⟨rfl, _, SqL.of h3⟩, l, _, _, rfl, rfl, h3, Nat.lt_of_le_of_lt (show ws.length ≤ 1000 by omega) (by decide), ?_⟩
      refine ⟨_, rfl, fun b o' z => ?_, ?_, fun j k' v ej => ?_⟩
      · rw [upd_ne (ne_of_none z h1)]
        exact s7 _ _ z
      · rw [upd_ne (fun z => by rw [← z, f7] at h3; cases h3)]
        exact f7
      · obtain ⟨l', ws', y1, y2, y3, y4⟩ := l7 j k' v ej
        by_cases cl : l' = l
        · subst cl
          rw [h3] at y4
          cases y4
          exact ⟨l', _, y1, y2, by rw [List.length_append, List.length_singleton]; omega, upd_same⟩
        · exact ⟨l', ws', y1, y2, by omega, by rw [upd_ne cl]; exact y4⟩
    rintro σ H7 ⟨o13, rfl, s7, _, _⟩
    clear lS6 frz_l
    have V7 := V1.same s7
    refine ⟨_, rfl, _, rfl, _, rfl, ?_⟩
    intro d8 n8; generalize eX : upd _ d8 _ = H8; have s8 := eX ▸ same_new n8 _; have e8 : H8 d8 = some _ := eX ▸ upd_same; clear eX
    have s18 := sm_tr s7 s8
    have V8 := V1.same s18
    refine ⟨fA, lP, lB, d8, us, vs, pins, bars, [], fun _ => none, rfl, V8.fr.fr, V8.hp, V8.pp, V8.hb, V8.pb, V8.g, e8, fun nm => .inl ⟨rfl, rfl⟩, fun x => ⟨sz_zero (by decide), sz_zero (by decide)⟩, fun H9 s9 => ?_⟩
    refine ⟨_, rfl, ?_⟩
    refine ite2 (fun c => nomatch c) (fun _ => ?_)
    have s19 := sm_tr s18 s9
    have hM9 := hM1.same s19
    have hL9 := hL1.same s19
    have up4 : ∀ {G : Str → Option (Rat × Rat)}, mvSz G → ∀ x, Sz 4000 (mv G x).1 ∧ Sz 4000 (mv G x).2 := fun z x => ⟨(z x).1.up (by decide), (z x).2.up (by decide)⟩
    refine ⟨_, rfl, _, rfl, dL, dM, kL, kM, xL, L, M, rfl, Ne.symm dML, hL9.at_, hL9.ks, hL9.nd, hL9.len, hL9.pd, hM9.at_, hM9.pd, hM9.sz, up4 hL9.sz, fun v10 H10 s10 n10 => ?_⟩
    have hM10 := hM9.same s10
    have hL10 := hL9.same s10
    refine ⟨_, rfl, _, rfl, dL, dM, kL, kM, xL, L, M, rfl, Ne.symm dML, hL10.at_, hL10.ks, hL10.nd, hL10.len, hL10.pd, hM10.at_, hM10.pd, hM10.sz, up4 hL10.sz, fun v11 H11 s11 n11 => ?_⟩
    refine ⟨_, rfl, v11, v10, _, rfl, n11, n10.same s11, fun H12 s12 => ?_⟩
    refine ⟨_, rfl, ?_⟩
    refine ite2 (fun c => nomatch c) (fun _ => ?_)
    have s1C := sm_tr s11 s12
    have hM12 := hM10.same s1C
    have hL12 := hL10.same s1C
    refine ⟨_, rfl, _, rfl, dM, dL, kM, kL, xM, M, L, rfl, dML, hM12.at_, hM12.ks, hM12.nd, hM12.len, hM12.pd, hL12.at_, hL12.pd, hL12.sz, up4 hM12.sz, fun v13 H13 s13 n13 => ?_⟩
    rw [work_two hL12.pd hL12.ks hM12.pd hM12.ks hL12.nd hM12.nd] at n13
    refine ⟨_, rfl, v13, v10, _, rfl, n13, (n10.same s1C).same s13, fun H14 s14 => ?_⟩
    refine ⟨_, rfl, ?_⟩
    refine ite2 (fun c => nomatch c) (fun _ => ?_)
    have s1E := sm_tr s19 (sm_tr s10 (sm_tr s1C (sm_tr s13 s14)))
    have V14 := V1.same s1E
    have hM14 := hM1.same s1E
    refine ⟨_, rfl, _, rfl, _, rfl, _, rfl, fA, lP, lB, dM, us, vs, pins, bars, kM, M, rfl, V14.fr.fr, V14.hp, V14.pp, V14.hb, V14.pb, V14.g, hM14.at_, hM14.pd, hM14.sz, fun H15 s15 => ?_⟩
    refine ⟨_, rfl, ?_⟩
    refine ite2 (fun c => nomatch c) (fun _ => ?_)
    have s1F := sm_tr s1E s15
    have V15 := V1.same s1F
    have lu : us.length = pins.length := Paired.length W0.pp
    dsimp only [tNext]
    refine seq_rest (fun σ' H' => ∃ (lB' : Addr) (us' vs' : List V) (pins' : List PinD) (bars' : List BarD), σ' = [some (.ref sA), some (.int sc), o2, some (.ref lP), some (.ref lB'), some (.ref fA), o6, some (.ref dM), some (.ref dL), o9, some (.ref pk), some (.ref e), some (.ref eS), o13, some v10] ∧ K4 pP pW pB lP H15 H' ∧ W16 K H' C fA dx pP pW pB lP lB' us' vs' pins' bars') (fun Nx hNx => ?_) ?_
    · refine ⟨_, rfl, lP, _, rfl, .inl (SqL.of V15.hp), _, _, rfl, rfl, _, rfl, ?_⟩
      refine ite2 (fun cc => ?_) (fun cc => ?_)
      · have l0 : 0 < pins.length := by
          have := of_decide_eq_true cc
          omega
        have e12 : (10 : Int) ^ (12 : Int).toNat = 1000000000000 := by decide +kernel
        refine ⟨_, rfl, _, rfl, _, rfl, _, rfl, sA, ns, 31, rfl, (sm_tr s00 (sm_tr s01 s1F)).seq hS, hb, by decide, by decide, fun c31 b31 => ?_⟩
        refine ⟨_, _, rfl, rfl, ⟨by decide, by decide, by decide⟩, _, _, rfl, rfl, ⟨by decide +kernel, by rw [e12]; decide +kernel⟩, L2, ?_⟩
        intro lf nf; generalize eX : upd _ lf _ = Hf; have sf := eX ▸ same_new nf _; have ef : Hf lf = some _ := eX ▸ upd_same; clear eX
        have Vf := V15.same sf
        have atf : atI [V.int 100, V.int (3 * 10 ^ (12 : Int).toNat)] (if decide (sc > 0) = true then 1 else 0) = some (.int (farI sc)) := by
          unfold farI
          by_cases z : sc = 0
          · rw [if_pos z, if_neg (by simp; omega)]
            rfl
          · rw [if_neg z, if_pos (by simp; omega), e12]
            rfl
        refine ⟨_, rfl, _, _, rfl, rfl, .inr ⟨_, rfl, lf, _, _, _, rfl, rfl, SqL.of ef, atf, ?_⟩⟩
        refine ⟨fA, dx, pP, pW, pB, lP, lB, us, vs, pins, bars, sc, c31, rfl, Vf.fr, Vf.hp, Vf.pp, nBP, Vf.hb, Vf.pb, gp, gb, nr, l0, Vf.g.lp, Vf.g.lb, b31, fun bA' us2 vs2 rest p2 bars2 H' k' R' h1 h2 h3 h4 g' _ _ => ?_⟩
        exact hNx _ _ ⟨bA', us2, vs2, _, bars2, rfl, fun b o n1 n2 n3 n4 z => k' b o n1 n2 n3 n4 (sf _ _ z), R', h1, h2, h3, h4, g'⟩
      · exact hNx _ _ ⟨lB, us, vs, pins, bars, rfl, fun _ _ _ _ _ _ z => z, V15⟩
    rintro σ' H16 ⟨lB', us', vs', pins', bars', rfl, k16, V16⟩
    have d15 := V15.d3
    have t16 := k16.t d15 V15.hp
    have hM15 := hM1.same s1F
    have hL15 := hL1.same s1F
    have hM16 := hM15.t (k16 _ _ nM.1 nM.2.1 nM.2.2 (fun z => by have := hM15.at_; rw [z, V15.hp] at this; cases this) hM15.at_) t16
    have hL16 := hL15.t (k16 _ _ nL.1 nL.2.1 nL.2.2 (fun z => by have := hL15.at_; rw [z, V15.hp] at this; cases this) hL15.at_) t16
    refine ⟨_, rfl, _, rfl, _, rfl, _, rfl, fA, lP, lB', dM, us', vs', pins', bars', kM, M, rfl, V16.fr.fr, V16.hp, V16.pp, V16.hb, V16.pb, V16.g, hM16.at_, hM16.pd, hM16.sz, fun H17 s17 => ?_⟩
    refine ⟨_, rfl, ?_⟩
    refine ite2 (fun c => nomatch c) (fun _ => ?_)
    have hM17 := hM16.same s17
    have hL17 := hL16.same s17
    refine ⟨_, rfl, _, rfl, dM, kM, rfl, hM17.at_, fun lD uD HD sD nD eD iD => ?_⟩
    have hL18 := hL17.same sD
    refine ⟨_, rfl, dL, kL, rfl, hL18.at_, fun lE uE HE sE nE eE iE => ⟨L2, ?_⟩⟩
    intro pz nz9; generalize eX : upd _ pz _ = HZ; have sz9 := eX ▸ same_new nz9 _; have ez9 : HZ pz = some _ := eX ▸ upd_same; clear eX
    have sZ := sm_tr s17 (sm_tr sD (sm_tr sE sz9))
    have sDZ := sm_tr sE sz9
    have hMZ := hM16.same sZ
    have hLZ := hL16.same sZ
    have tupZ : ∀ {p : Addr} {ys : List V}, H1 p = some (.tup ys) → HZ p = some (.tup ys) := fun z => sZ _ _ (k16.tup d15 V15.hp (s1F _ _ z))
    have lstZ : ∀ {l : Addr} {ys : List V}, H1 l = some (.lst ys) → l ≠ lP → HZ l = some (.lst ys) := fun z n => sZ _ _ (k16.get d15 V15.hp (s1F _ _ z) (fun _ y => nomatch y) n)
    have two : ∀ (p l1 l2 : Addr) (u1 u2 : List V), HZ p = some (.tup [.ref l1, .ref l2]) → HZ l1 = some (.lst u1) → ItsR HZ u1 kM → HZ l2 = some (.lst u2) → ItsR HZ u2 kL → Is K HZ (.t [.l (xM.map (itDa M)), .l (xL.map (itDa L))]) (.ref p) := fun p l1 l2 u1 u2 h1 h2 h3 h4 h5 => by
      unfold Is
      refine ⟨p, _, rfl, SqT.of h1, ?_⟩
      unfold Iss
      refine ⟨its_is h2 h3 hMZ.ks hMZ.nd hMZ.pd, ?_⟩
      unfold Iss
      exact ⟨its_is h4 h5 hLZ.ks hLZ.nd hLZ.pd, by unfold Iss; trivial⟩
    refine ⟨[.l (xM.map (itDa M)), .l (xL.map (itDa L))], [.l (xM.map (itDa M)), .l (xL.map (itDa L))], .inl ⟨two pk lA lC uA uC (tupZ ek) (lstZ eA1 lAP) (iA1.keep fun _ _ z => tupZ z) (lstZ eC1 lCP) (iC1.keep fun _ _ z => tupZ z), two pz lD lE uD uE ez9 (sDZ _ _ eD) (ItsR.keep iD fun _ _ z => sDZ _ _ z) (sz9 _ _ eE) (ItsR.keep iE fun _ _ z => sz9 _ _ z)⟩, ?_, ?_, ?_⟩
    · unfold alikes alikes alikes
      simp only [alike, it_alike, Bool.and_self]
    · have h1 := it_dep M xM
      have h2 := it_dep L xL
      unfold deps deps deps
      simp only [dep]
      omega
    · have e : eqDas [.l (xM.map (itDa M)), .l (xL.map (itDa L))] [.l (xM.map (itDa M)), .l (xL.map (itDa L))] = true := by
        unfold eqDas eqDas eqDas
        simp only [eqDa, it_eq, Bool.and_self]
      rw [e]
      exact q _
  obtain ⟨t11, p11, q11⟩ := tail11
  refine ⟨_, (pss_cons (ps_set (i := 1) sc_law.nd rfl (Or.inl rfl) (pe_op op_mulB (pe_op op_add pe_int (pe_op op_modB (pe_op op_fdivB (pe_fn G_law_cell_at (hr.mono (by decide)) px (pac (pv 0) (pac pe_int pa_nil))) pe_int) pe_int)) (pe_op op_modB (pe_fn G_law_cell_at (hr.mono (by decide)) px (pac (pv 0) (pac pe_int pa_nil))) pe_int))) (pss_cons (ps_set (i := 2) sc_law.nd rfl (Or.inl rfl) (pe_fn G_law_names (hr.mono (by decide)) px (pac (pe_op op_fdivB (pe_fn G_law_cell_at (hr.mono (by decide)) px (pac (pv 0) (pac pe_int pa_nil))) pe_int) (pac pe_int pa_nil)))) (pss_cons (ps_set (i := 3) sc_law.nd rfl (Or.inl rfl) (pe_fn G_law_pins (hr.mono (by decide)) px (pac (pv 0) (pac (pv 2) (pac (pv 1) pa_nil))))) (pss_cons (ps_set (i := 4) sc_law.nd rfl (Or.inl rfl) (pe_fn G_law_bars (hr.mono (by decide)) px (pac (pv 0) (pac (pv 2) (pac (pv 3) pa_nil))))) (pss_cons (ps_set (i := 5) sc_law.nd rfl (Or.inl rfl) (pe_fn G_law_frame (hr.mono (by decide)) px (pac (pv 3) (pac (pv 4) pa_nil)))) (pss_cons (ps_set (i := 6) sc_law.nd rfl (Or.inl rfl) (pe_op op_modB (pe_op op_mulB (pv 1) (pe_op op_add pe_int (pe_op op_modB (pe_fn G_law_cell_at (hr.mono (by decide)) px (pac (pv 0) (pac pe_int pa_nil))) pe_int))) pe_int)) (pss_cons (ps_set (i := 7) sc_law.nd rfl (Or.inl rfl) (pe_lst pa_nil)) (pss_cons (ps_set (i := 8) sc_law.nd rfl (Or.inl rfl) (pe_lst pa_nil)) (pss_cons (ps_for PassesOwn.never rfl (pi_range1 rfl m_range (pac (pe_callB call_len_seq rfl m_len b_len (pac (pv 3) pa_nil)) pa_nil)) (pg_name (i := 9) sc_law.nd rfl (Or.inl rfl)) (pss_cons (ps_expr (pe_bm PySem.F.plainAttrs_list PySem.F.slot_list_append PySem.F.type_list_append mt_append (pv 7) (pac (pe_tup (pac (pe_ix ix_tup (pe_ix ix_list (pv 3) (pv 9) (fun _ _ => rfl)) pe_int (fun _ _ => rfl)) (pac (pe_fn G_law_moved (hr.mono (by decide)) px (pac (pe_op op_add (pe_fn G_law_cell_at (hr.mono (by decide)) px (pac (pv 0) (pac (pe_op op_add pe_int (pv 9)) pa_nil))) (pe_op op_mulB (pe_op op_mulB pe_int (pv 9)) (pv 9))) (pac (pv 6) pa_nil))) pa_nil))) pa_nil)))
      (pss_one (ps_expr (pe_bm PySem.F.plainAttrs_list PySem.F.slot_list_append PySem.F.type_list_append mt_append (pv 8) (pac (pe_tup (pac (pe_ix ix_tup (pe_ix ix_list (pv 3) (pv 9) (fun _ _ => rfl)) pe_int (fun _ _ => rfl)) (pac (pe_fn G_law_moved (hr.mono (by decide)) px (pac (pe_op op_add (pe_fn G_law_cell_at (hr.mono (by decide)) px (pac (pv 0) (pac (pe_op op_add pe_int (pv 9)) pa_nil))) (pe_op op_mulB (pe_op op_mulB pe_int (pv 9)) (pv 9))) (pac (pv 1) pa_nil))) pa_nil))) pa_nil)))))) (pss_cons (ps_set (i := 7) sc_law.nd rfl (Or.inl rfl) (pe_fn G_law_handed (hr.mono (by decide)) px (pac (pv 7) (pac (pe_cmpR op_eq (pe_op op_modB (pe_fn G_law_cell_at (hr.mono (by decide)) px (pac (pv 0) (pac pe_int pa_nil))) pe_int) pe_int (nomark _)) pa_nil)))) (pss_cons (ps_set (i := 8) sc_law.nd rfl (Or.inl rfl) (pe_fn G_law_handed (hr.mono (by decide)) px (pac (pv 8) (pac (pe_cmpR op_eq (pe_op op_modB (pe_op op_fdivB (pe_fn G_law_cell_at (hr.mono (by decide)) px (pac (pv 0) (pac pe_int pa_nil))) pe_int) pe_int) pe_int (nomark _)) pa_nil)))) p11))))))))))), ?_⟩
  have sm : ∀ {z : Int}, -9000000000000000000 < z → z < 9000000000000000000 → intBits z ≤ 33554432 := fun h1 h2 => Nat.le_trans (intBits_le_64 (by omega) (by omega)) (by decide)
  refine ⟨_, rfl, sA, ns, 0, rfl, hS, hb, by decide, by decide, fun c1 b1 => ?_⟩
  have m1 := fmod_in (x := c1.fdiv 2) (m := 997) (by decide)
  refine ⟨_, _, rfl, rfl, ⟨by decide, by decide +kernel⟩, _, _, rfl, rfl, nz (by decide), _, _, rfl, rfl, ?_⟩
  refine ⟨_, rfl, sA, ns, 0, rfl, hS, hb, by decide, by decide, fun c2 b2 => ?_⟩
  have m2 := fmod_in (x := c2) (m := 2) (by decide)
  refine ⟨_, _, rfl, rfl, nz (by decide), _, _, rfl, rfl, ⟨sm (by omega) (by omega), sm (by omega) (by omega)⟩, ?_⟩
  obtain ⟨sc, esc, c0, c9⟩ : ∃ sc : Int, (1 + (c1.fdiv 2).fmod 997) * c2.fmod 2 = sc ∧ 0 ≤ sc ∧ sc ≤ 997 := by
    refine ⟨_, rfl, ?_⟩
    have h : c2.fmod 2 = 0 ∨ c2.fmod 2 = 1 := by omega
    rcases h with h | h <;> rw [h] <;> omega
  dsimp only
  rw [esc]
  refine ⟨_, rfl, sA, ns, 0, rfl, hS, hb, by decide, by decide, fun c3 b3 => ?_⟩
  refine ⟨_, _, rfl, rfl, ⟨by decide, by decide +kernel⟩, _, rfl, fun nA xs H1 lx nx s1 nn en => ?_⟩
  refine ⟨_, rfl, _, rfl, _, rfl, sA, nA, ns, xs, sc, rfl, s1.seq hS, hb, en, lx, nx, c0, c9, fun lP us pins H2 s2 nP eP pp gp nr lp => ?_⟩
  have s12 := sm_tr s1 s2
  refine ⟨_, rfl, _, rfl, _, rfl, sA, nA, lP, ns, xs, us, pins, rfl, s12.seq hS, hb, s2 _ _ en, lx, nx, eP, pp, gp.np, lp, fun lB vs bars H3 s3 nB eB pb gb lb => ?_⟩
  have s13 := sm_tr s12 s3
  have pp3 : Paired (PinX K H3 lP) us pins := Paired.mapP pp fun _ _ z => z.same s3
  refine ⟨_, rfl, _, rfl, lP, lB, us, vs, pins, bars, rfl, s3 _ _ eP, pp3, eB, pb, gp, gb, lp, lb, fun fA dx pP pW pB H4 s4 R => ?_⟩
  have s14 := sm_tr s13 s4
  have nBP : lB ≠ lP := fun z => by rw [z, eP] at nB; cases nB
  have g := goodF gp gb lp lb
  have W4 : W16 K H4 C fA dx pP pW pB lP lB us vs pins bars := ⟨R, s4 _ _ (s3 _ _ eP), Paired.mapP pp3 fun _ _ z => z.same s4, s4 _ _ eB, Paired.mapP pb fun _ _ z => z.same s4, g⟩
  refine ⟨_, rfl, _, rfl, sA, ns, 18, rfl, s14.seq hS, hb, by decide, by decide, fun c6 b6 => ?_⟩
  have m6 := fmod_in (x := c6) (m := 997) (by decide)
  refine ⟨_, _, rfl, rfl, nz (by decide), _, _, rfl, rfl, _, _, rfl, rfl, ⟨sm (by omega) (by omega), sm (by omega) (by omega)⟩, _, _, rfl, rfl, nz (by decide), ?_⟩
  have m7 := fmod_in (x := sc * (1 + c6.fmod 997)) (m := 997) (by decide)
  obtain ⟨oth, eo⟩ : ∃ oth : Int, (sc * (1 + c6.fmod 997)).fmod 997 = oth := ⟨_, rfl⟩
  rw [eo] at m7
  dsimp only
  rw [eo]
  refine ⟨(by show 0 ≤ sizeLine; decide), ?_⟩
  intro lM nM; generalize eX : upd _ lM _ = H5; have sM := eX ▸ same_new nM _; have eM : H5 lM = some _ := eX ▸ upd_same; clear eX
  refine ⟨(by show 0 ≤ sizeLine; decide), ?_⟩
  intro lL nL; generalize eX : upd _ lL _ = H6; have sL := eX ▸ same_new nL _; have eL : H6 lL = some _ := eX ▸ upd_same; clear eX
  have lML : lM ≠ lL := fun z => by rw [z] at eM; rw [eM] at nL; cases nL
  have lu : us.length = pins.length := Paired.length pp
  have nL4 : H4 lL = none := none_back sM nL
  refine ⟨_, rfl, lP, _, rfl, .inl (SqL.of (sL _ _ (sM _ _ W4.hp))), ((us.length : Nat) : Int), rfl, by omega, by omega, for_range (lo := 0) (n := us.length) (fun i σ H' => ∃ (o9 : Option V) (uM uL : List V) (rM rL : List (Str × V)), σ = [some (.ref sA), some (.int sc), some (.ref nA), some (.ref lP), some (.ref lB), some (.ref fA), some (.int oth), some (.ref lM), some (.ref lL), o9, none, none, none, none, none] ∧ Same H4 H' ∧ H' lM = some (.lst uM) ∧ H' lL = some (.lst uL) ∧ RwS K H' uM rM (pins.take i) ∧ RwS K H' uL rL (pins.take i)) ⟨none, [], [], [], [], rfl, sm_tr sM sL, sL _ _ eM, eL, .nil, .nil⟩ ?_ ?_⟩
  · rintro i σ H7 hi ⟨o9, uM, uL, rM, rL, rfl, s7, e7M, e7L, wM, wL⟩
    have ei : (0 : Int) + (i : Int) = (i : Int) := Int.zero_add _
    rw [ei]
    have i8 : i < 6 := by omega
    obtain ⟨p, ep, hpr⟩ := paired_get W4.pp (List.getElem?_eq_getElem hi)
    obtain ⟨ta, lw, sv, uw, eta, h1, _⟩ := hpr
    obtain ⟨mm1, mm2⟩ := mul_small (m := 41) (k := i) (by decide) (by omega)
    have tk := take_snoc ep
    refine ⟨_, rfl, .inl ⟨rfl, _, SqL.of e7M⟩, _, rfl, _, rfl, lP, _, _, us[i], rfl, rfl, SqL.of (s7 _ _ W4.hp), atI_nat (List.getElem?_eq_getElem hi), ta, _, _, _, eta, rfl, Ty.Same.seqT s7 h1, rfl, ?_⟩
    refine ⟨_, rfl, _, rfl, _, _, rfl, rfl, sA, ns, _, rfl, (sm_tr s14 s7).seq hS, hb, by omega, by omega, fun c8 b8 => ?_⟩
    refine ⟨_, rfl, _, _, rfl, rfl, mm1, _, rfl, _, _, rfl, rfl, mm2, _, _, rfl, rfl, ?_⟩
    have bc := bits_cell (m := 41) (k := i) b8 (by omega) (by decide)
    refine ⟨_, rfl, _, _, rfl, bc, m7.1, by omega, fun v8 H8 s8 hv8 => ⟨L2, ?_⟩⟩
    intro p9 n9; generalize eX : upd _ p9 _ = H9; have s9 := eX ▸ same_new n9 _; have e9 : H9 p9 = some _ := eX ▸ upd_same; clear eX
    have s79 := sm_tr s8 s9
    have e9M := s79 _ _ e7M
    refine ⟨lM, _, _, rfl, rfl, e9M, Nat.lt_of_le_of_lt (show uM.length ≤ 1000 by have := wM.len; rw [List.length_take] at this; omega) (by decide), ?_⟩
    have wM9 := (wM.same s79).snoc (p := p) e9 (fun z => by obtain ⟨m, y1, y2⟩ := hv8 z; exact ⟨m, y1.same s9, y2⟩) (.list (o := .lst (uM ++ [.ref p9])) e9M)
    have wL9 := (wL.same s79).t (.list (o := .lst (uM ++ [.ref p9])) e9M)
    have s4A : Same H4 (upd H9 lM (.lst (uM ++ [.ref p9]))) := fun b o z => by
      rw [upd_ne (ne_of_none z nM)]
      exact s79 _ _ (s7 _ _ z)
    have eAM : (upd H9 lM (.lst (uM ++ [.ref p9]))) lM = some (.lst (uM ++ [.ref p9])) := upd_same
    have eAL : (upd H9 lM (.lst (uM ++ [.ref p9]))) lL = some (.lst uL) := by
      rw [upd_ne (Ne.symm lML)]
      exact s79 _ _ e7L
    generalize upd H9 lM (.lst (uM ++ [.ref p9])) = HA at wM9 wL9 s4A eAM eAL ⊢
    obtain ⟨mm3, mm4⟩ := mul_small (m := 43) (k := i) (by decide) (by omega)
    refine ⟨_, rfl, .inl ⟨rfl, _, SqL.of eAL⟩, _, rfl, _, rfl, lP, _, _, us[i], rfl, rfl, SqL.of (s4A _ _ W4.hp), atI_nat (List.getElem?_eq_getElem hi), ta, _, _, _, eta, rfl, Ty.Same.seqT s4A h1, rfl, ?_⟩
    refine ⟨_, rfl, _, rfl, _, _, rfl, rfl, sA, ns, _, rfl, (sm_tr s14 s4A).seq hS, hb, by omega, by omega, fun cA bA => ?_⟩
    refine ⟨_, rfl, _, _, rfl, rfl, mm3, _, rfl, _, _, rfl, rfl, mm4, _, _, rfl, rfl, ?_⟩
    have bc2 := bits_cell (m := 43) (k := i) bA (by omega) (by decide)
    refine ⟨_, rfl, _, _, rfl, bc2, c0, c9, fun vB HB sB hvB => ⟨L2, ?_⟩⟩
    intro pC nC; generalize eX : upd _ pC _ = HC; have sC := eX ▸ same_new nC _; have eC : HC pC = some _ := eX ▸ upd_same; clear eX
    have sAC := sm_tr sB sC
    have eCL := sAC _ _ eAL
    refine ⟨lL, _, _, rfl, rfl, eCL, Nat.lt_of_le_of_lt (show uL.length ≤ 1000 by have := wL.len; rw [List.length_take] at this; omega) (by decide), ?_⟩
    have wLC := (wL9.same sAC).snoc (p := p) eC (fun z => by obtain ⟨m, y1, y2⟩ := hvB z; exact ⟨m, y1.same sC, y2⟩) (.list (o := .lst (uL ++ [.ref pC])) eCL)
    have wMC := (wM9.same sAC).t (.list (o := .lst (uL ++ [.ref pC])) eCL)
    rw [← tk] at wLC wMC
    refine ⟨_, _, _, _, _, rfl, fun b o z => ?_, ?_, upd_same, wMC, wLC⟩
    · rw [upd_ne (ne_of_none z nL4)]
      exact sAC _ _ (s4A _ _ z)
    · rw [upd_ne lML]
      exact sAC _ _ eAM
  · rintro σ H7 ⟨o9, uM, uL, rM, rL, rfl, s7, e7M, e7L, wM, wL⟩
    rw [lu, List.take_length] at wM wL
    refine ⟨_, rfl, _, rfl, sA, ns, 18, rfl, (sm_tr s14 s7).seq hS, hb, by decide, by decide, fun c8 b8 => ?_⟩
    refine ⟨_, _, rfl, rfl, nz (by decide), rfl, ?_⟩
    refine ⟨lM, _, uM, rM, rfl, e7M, wM.rw, by rw [wM.nms]; exact gp.np, by rw [wM.rl]; omega, fun dM H8 s8 nM8 hM8 => ?_⟩
    have wL8 := wL.same s8
    refine ⟨_, rfl, _, rfl, sA, ns, 18, rfl, (sm_tr s14 (sm_tr s7 s8)).seq hS, hb, by decide, by decide, fun c9 b9 => ?_⟩
    refine ⟨_, _, rfl, rfl, ⟨by decide, by decide +kernel⟩, _, _, rfl, rfl, nz (by decide), rfl, ?_⟩
    refine ⟨lL, _, uL, rL, rfl, s8 _ _ e7L, wL8.rw, by rw [wL.nms]; exact gp.np, by rw [wL.rl]; omega, fun dL H9 s9 nL9 hL9 => ?_⟩
    obtain ⟨kM, xM, M, eM9, hM⟩ := hnd_of (s9 _ _ hM8) (by rw [wM.nms]; exact gp.np) (by rw [wM.rl]; omega) ((wM.same s8).same s9).pts
    obtain ⟨kL, xL, L, eL9, hL⟩ := hnd_of hL9 (by rw [wL.nms]; exact gp.np) (by rw [wL.rl]; omega) (wL8.same s9).pts
    have s49 := sm_tr s7 (sm_tr s8 s9)
    obtain ⟨kP, kW, kB, R7, _, _⟩ := (R.same s7).ex
    have dnM : ∀ {b : Addr} {o : HO}, H7 b = some o → dM ≠ b := fun z y => by rw [y, z] at nM8; cases nM8
    have dnL : ∀ {b : Addr} {o : HO}, H8 b = some o → dL ≠ b := fun z y => by rw [y, z] at nL9; cases nL9
    exact q11 H9 fA dx pP pW pB lP lB dM dL us vs pins bars kM kL xM xL M L sc _ _ _ (sm_tr s14 s49) (W4.same s49) nBP gp gb nr c0 hM hL (fun z => by rw [← z, hM8] at nL9; cases nL9) ⟨dnM R7.pl, dnM R7.wy, dnM R7.br⟩ ⟨dnL (s8 _ _ R7.pl), dnL (s8 _ _ R7.wy), dnL (s8 _ _ R7.br)⟩
end
theorem all_mk {l : PySem.W.OpenLaw} {w : World} {K : PySem.W.Frag} {h : Heap} {mg : Str → Option Value} {fa : Addr} (X : K.In h) (G : h.Ns mainGlobals mg) (hfa : mg "law" = some (.ref fa))
    {f_sum_of : Addr} {od_sum_of an_sum_of : Option Addr} {sl_sum_of : Array (Option Value)} {oc_sum_of kV_sum_of dc_sum_of pm_sum_of cd_sum_of ct_sum_of : Value} {f_difference_of : Addr} {od_difference_of an_difference_of : Option Addr} {sl_difference_of : Array (Option Value)} {oc_difference_of kV_difference_of dc_difference_of pm_difference_of cd_difference_of ct_difference_of : Value} {f_product_of : Addr} {od_product_of an_product_of : Option Addr} {sl_product_of : Array (Option Value)} {oc_product_of kV_product_of dc_product_of pm_product_of cd_product_of ct_product_of : Value} {f_lowest_terms : Addr} {od_lowest_terms an_lowest_terms : Option Addr} {sl_lowest_terms : Array (Option Value)} {oc_lowest_terms kV_lowest_terms dc_lowest_terms pm_lowest_terms cd_lowest_terms ct_lowest_terms : Value} {f_greatest_shared : Addr} {od_greatest_shared an_greatest_shared : Option Addr} {sl_greatest_shared : Array (Option Value)} {oc_greatest_shared kV_greatest_shared dc_greatest_shared pm_greatest_shared cd_greatest_shared ct_greatest_shared : Value} {f_lengthenings : Addr} {od_lengthenings an_lengthenings : Option Addr} {sl_lengthenings : Array (Option Value)} {oc_lengthenings kV_lengthenings dc_lengthenings pm_lengthenings cd_lengthenings ct_lengthenings : Value} {f_slips : Addr} {od_slips an_slips : Option Addr} {sl_slips : Array (Option Value)} {oc_slips kV_slips dc_slips pm_slips cd_slips ct_slips : Value} {f_work_of : Addr} {od_work_of an_work_of : Option Addr} {sl_work_of : Array (Option Value)} {oc_work_of kV_work_of dc_work_of pm_work_of cd_work_of ct_work_of : Value} {f_arm_between : Addr} {od_arm_between an_arm_between : Option Addr} {sl_arm_between : Array (Option Value)} {oc_arm_between kV_arm_between dc_arm_between pm_arm_between cd_arm_between ct_arm_between : Value} {f_pair_difference : Addr} {od_pair_difference an_pair_difference : Option Addr} {sl_pair_difference : Array (Option Value)} {oc_pair_difference kV_pair_difference dc_pair_difference pm_pair_difference cd_pair_difference ct_pair_difference : Value} {f_pair_product : Addr} {od_pair_product an_pair_product : Option Addr} {sl_pair_product : Array (Option Value)} {oc_pair_product kV_pair_product dc_pair_product pm_pair_product cd_pair_product ct_pair_product : Value} {f_law_cell_at : Addr} {od_law_cell_at an_law_cell_at : Option Addr} {sl_law_cell_at : Array (Option Value)} {oc_law_cell_at kV_law_cell_at dc_law_cell_at pm_law_cell_at cd_law_cell_at ct_law_cell_at : Value} {f_law_part : Addr} {od_law_part an_law_part : Option Addr} {sl_law_part : Array (Option Value)} {oc_law_part kV_law_part dc_law_part pm_law_part cd_law_part ct_law_part : Value} {f_law_lowest : Addr} {od_law_lowest an_law_lowest : Option Addr} {sl_law_lowest : Array (Option Value)} {oc_law_lowest kV_law_lowest dc_law_lowest pm_law_lowest cd_law_lowest ct_law_lowest : Value} {f_law_plus : Addr} {od_law_plus an_law_plus : Option Addr} {sl_law_plus : Array (Option Value)} {oc_law_plus kV_law_plus dc_law_plus pm_law_plus cd_law_plus ct_law_plus : Value} {f_law_times : Addr} {od_law_times an_law_times : Option Addr} {sl_law_times : Array (Option Value)} {oc_law_times kV_law_times dc_law_times pm_law_times cd_law_times ct_law_times : Value} {f_law_drawn : Addr} {od_law_drawn an_law_drawn : Option Addr} {sl_law_drawn : Array (Option Value)} {oc_law_drawn kV_law_drawn dc_law_drawn pm_law_drawn cd_law_drawn ct_law_drawn : Value} {f_law_names : Addr} {od_law_names an_law_names : Option Addr} {sl_law_names : Array (Option Value)} {oc_law_names kV_law_names dc_law_names pm_law_names cd_law_names ct_law_names : Value} {f_law_ways : Addr} {od_law_ways an_law_ways : Option Addr} {sl_law_ways : Array (Option Value)} {oc_law_ways kV_law_ways dc_law_ways pm_law_ways cd_law_ways ct_law_ways : Value} {f_law_pins : Addr} {od_law_pins an_law_pins : Option Addr} {sl_law_pins : Array (Option Value)} {oc_law_pins kV_law_pins dc_law_pins pm_law_pins cd_law_pins ct_law_pins : Value} {f_law_bars : Addr} {od_law_bars an_law_bars : Option Addr} {sl_law_bars : Array (Option Value)} {oc_law_bars kV_law_bars dc_law_bars pm_law_bars cd_law_bars ct_law_bars : Value} {f_law_put_pin : Addr} {od_law_put_pin an_law_put_pin : Option Addr} {sl_law_put_pin : Array (Option Value)} {oc_law_put_pin kV_law_put_pin dc_law_put_pin pm_law_put_pin cd_law_put_pin ct_law_put_pin : Value} {f_law_frame : Addr} {od_law_frame an_law_frame : Option Addr} {sl_law_frame : Array (Option Value)} {oc_law_frame kV_law_frame dc_law_frame pm_law_frame cd_law_frame ct_law_frame : Value} {f_law_put_anew : Addr} {od_law_put_anew an_law_put_anew : Option Addr} {sl_law_put_anew : Array (Option Value)} {oc_law_put_anew kV_law_put_anew dc_law_put_anew pm_law_put_anew cd_law_put_anew ct_law_put_anew : Value} {f_law_handed : Addr} {od_law_handed an_law_handed : Option Addr} {sl_law_handed : Array (Option Value)} {oc_law_handed kV_law_handed dc_law_handed pm_law_handed cd_law_handed ct_law_handed : Value} {f_law_moved : Addr} {od_law_moved an_law_moved : Option Addr} {sl_law_moved : Array (Option Value)} {oc_law_moved kV_law_moved dc_law_moved pm_law_moved cd_law_moved ct_law_moved : Value} {f_law_along : Addr} {od_law_along an_law_along : Option Addr} {sl_law_along : Array (Option Value)} {oc_law_along kV_law_along dc_law_along pm_law_along cd_law_along ct_law_along : Value} {f_law_less : Addr} {od_law_less an_law_less : Option Addr} {sl_law_less : Array (Option Value)} {oc_law_less kV_law_less dc_law_less pm_law_less cd_law_less ct_law_less : Value} {f_law_number : Addr} {od_law_number an_law_number : Option Addr} {sl_law_number : Array (Option Value)} {oc_law_number kV_law_number dc_law_number pm_law_number cd_law_number ct_law_number : Value} {f_law_longer : Addr} {od_law_longer an_law_longer : Option Addr} {sl_law_longer : Array (Option Value)} {oc_law_longer kV_law_longer dc_law_longer pm_law_longer cd_law_longer ct_law_longer : Value} {f_law_slipped : Addr} {od_law_slipped an_law_slipped : Option Addr} {sl_law_slipped : Array (Option Value)} {oc_law_slipped kV_law_slipped dc_law_slipped pm_law_slipped cd_law_slipped ct_law_slipped : Value} {f_law_told : Addr} {od_law_told an_law_told : Option Addr} {sl_law_told : Array (Option Value)} {oc_law_told kV_law_told dc_law_told pm_law_told cd_law_told ct_law_told : Value} {f_law_work : Addr} {od_law_work an_law_work : Option Addr} {sl_law_work : Array (Option Value)} {oc_law_work kV_law_work dc_law_work pm_law_work cd_law_work ct_law_work : Value} {f_law : Addr} {od_law an_law : Option Addr} {sl_law : Array (Option Value)} {oc_law kV_law dc_law pm_law cd_law ct_law : Value} {tk_MOST_PINS : Tok} {tk_MOST_BARS : Tok} {c_NOUGHT : Addr} {cd_NOUGHT : Option Addr} {ck0_NOUGHT : Tok} {ck1_NOUGHT : Tok} {cn_NOUGHT : Nat} {cs_NOUGHT : Array (Option Value)} {c_NO_MOVE : Addr} {cd_NO_MOVE : Option Addr} {cn_NO_MOVE : Nat} {cs_NO_MOVE : Array (Option Value)} {c_NO_MOVE_0 : Addr} {cd_NO_MOVE_0 : Option Addr} {ck0_NO_MOVE_0 : Tok} {ck1_NO_MOVE_0 : Tok} {cn_NO_MOVE_0 : Nat} {cs_NO_MOVE_0 : Array (Option Value)} {c_NO_MOVE_1 : Addr} {cd_NO_MOVE_1 : Option Addr} {ck0_NO_MOVE_1 : Tok} {ck1_NO_MOVE_1 : Tok} {cn_NO_MOVE_1 : Nat} {cs_NO_MOVE_1 : Array (Option Value)} {C_YardError : Addr} {C_NoWay : Addr} {C_PinThere : Addr} {C_SpotTaken : Addr} {C_NoPin : Addr} {C_PinBusy : Addr} {C_BarThere : Addr} {C_NoBar : Addr} {C_NoLength : Addr} {C_TooMany : Addr} {C_Frame : Addr} {C_Hold : Addr} {C_Roller : Addr} {C_Fixed : Addr} {f_Frame_init : Addr} {od_Frame_init an_Frame_init : Option Addr} {sl_Frame_init : Array (Option Value)} {oc_Frame_init kV_Frame_init dc_Frame_init pm_Frame_init cd_Frame_init ct_Frame_init : Value} {td_Frame_put_pin : Addr} {tc_Frame_put_pin : Value} {tdd_Frame_put_pin : Option Addr} {tn_Frame_put_pin : Nat} {tsl_Frame_put_pin : Array (Option Value)} {f_Frame_put_pin : Addr} {od_Frame_put_pin an_Frame_put_pin : Option Addr} {sl_Frame_put_pin : Array (Option Value)} {oc_Frame_put_pin kV_Frame_put_pin dc_Frame_put_pin pm_Frame_put_pin cd_Frame_put_pin ct_Frame_put_pin : Value} {f_Frame_put_bar : Addr} {od_Frame_put_bar an_Frame_put_bar : Option Addr} {sl_Frame_put_bar : Array (Option Value)} {oc_Frame_put_bar kV_Frame_put_bar dc_Frame_put_bar pm_Frame_put_bar cd_Frame_put_bar ct_Frame_put_bar : Value} {f_Frame_check_bar : Addr} {od_Frame_check_bar an_Frame_check_bar : Option Addr} {sl_Frame_check_bar : Array (Option Value)} {oc_Frame_check_bar kV_Frame_check_bar dc_Frame_check_bar pm_Frame_check_bar cd_Frame_check_bar ct_Frame_check_bar : Value} {f_Frame_check_pin : Addr} {od_Frame_check_pin an_Frame_check_pin : Option Addr} {sl_Frame_check_pin : Array (Option Value)} {oc_Frame_check_pin kV_Frame_check_pin dc_Frame_check_pin pm_Frame_check_pin cd_Frame_check_pin ct_Frame_check_pin : Value} {f_Frame_take_bar : Addr} {od_Frame_take_bar an_Frame_take_bar : Option Addr} {sl_Frame_take_bar : Array (Option Value)} {oc_Frame_take_bar kV_Frame_take_bar dc_Frame_take_bar pm_Frame_take_bar cd_Frame_take_bar ct_Frame_take_bar : Value} {f_Frame_take_pin : Addr} {od_Frame_take_pin an_Frame_take_pin : Option Addr} {sl_Frame_take_pin : Array (Option Value)} {oc_Frame_take_pin kV_Frame_take_pin dc_Frame_take_pin pm_Frame_take_pin cd_Frame_take_pin ct_Frame_take_pin : Value} {f_Frame_pins : Addr} {od_Frame_pins an_Frame_pins : Option Addr} {sl_Frame_pins : Array (Option Value)} {oc_Frame_pins kV_Frame_pins dc_Frame_pins pm_Frame_pins cd_Frame_pins ct_Frame_pins : Value} {f_Frame_bars : Addr} {od_Frame_bars an_Frame_bars : Option Addr} {sl_Frame_bars : Array (Option Value)} {oc_Frame_bars kV_Frame_bars dc_Frame_bars pm_Frame_bars cd_Frame_bars ct_Frame_bars : Value} {f_Frame_place : Addr} {od_Frame_place an_Frame_place : Option Addr} {sl_Frame_place : Array (Option Value)} {oc_Frame_place kV_Frame_place dc_Frame_place pm_Frame_place cd_Frame_place ct_Frame_place : Value} {f_Frame_ways : Addr} {od_Frame_ways an_Frame_ways : Option Addr} {sl_Frame_ways : Array (Option Value)} {oc_Frame_ways kV_Frame_ways dc_Frame_ways pm_Frame_ways cd_Frame_ways ct_Frame_ways : Value} {f_Frame_ends : Addr} {od_Frame_ends an_Frame_ends : Option Addr} {sl_Frame_ends : Array (Option Value)} {oc_Frame_ends kV_Frame_ends dc_Frame_ends pm_Frame_ends cd_Frame_ends ct_Frame_ends : Value} {f_Hold_ways : Addr} {od_Hold_ways an_Hold_ways : Option Addr} {sl_Hold_ways : Array (Option Value)} {oc_Hold_ways kV_Hold_ways dc_Hold_ways pm_Hold_ways cd_Hold_ways ct_Hold_ways : Value} {f_Roller_init : Addr} {od_Roller_init an_Roller_init : Option Addr} {sl_Roller_init : Array (Option Value)} {oc_Roller_init kV_Roller_init dc_Roller_init pm_Roller_init cd_Roller_init ct_Roller_init : Value} {f_Roller_ways : Addr} {od_Roller_ways an_Roller_ways : Option Addr} {sl_Roller_ways : Array (Option Value)} {oc_Roller_ways kV_Roller_ways dc_Roller_ways pm_Roller_ways cd_Roller_ways ct_Roller_ways : Value} {f_Fixed_ways : Addr} {od_Fixed_ways an_Fixed_ways : Option Addr} {sl_Fixed_ways : Array (Option Value)} {oc_Fixed_ways kV_Fixed_ways dc_Fixed_ways pm_Fixed_ways cd_Fixed_ways ct_Fixed_ways : Value}
    (a_sum_of : PySem.W.nsIn K mainGlobals "sum_of" = some (some (.ref f_sum_of))) (l_sum_of : K.lookup f_sum_of = some ⟨oc_sum_of, od_sum_of, .func (PySem.W.fnOf "sum_of" "sum_of" (defArgs s_sum_of) (defBody s_sum_of) (defScope s_sum_of) .none kV_sum_of dc_sum_of pm_sum_of an_sum_of cd_sum_of ct_sum_of), sl_sum_of⟩) (c_sum_of : PySem.W.codeIn K cd_sum_of "sum_of" = true) (k_sum_of : PySem.W.keepIn K (.ref f_sum_of) = true) (a_difference_of : PySem.W.nsIn K mainGlobals "difference_of" = some (some (.ref f_difference_of))) (l_difference_of : K.lookup f_difference_of = some ⟨oc_difference_of, od_difference_of, .func (PySem.W.fnOf "difference_of" "difference_of" (defArgs s_difference_of) (defBody s_difference_of) (defScope s_difference_of) .none kV_difference_of dc_difference_of pm_difference_of an_difference_of cd_difference_of ct_difference_of), sl_difference_of⟩) (c_difference_of : PySem.W.codeIn K cd_difference_of "difference_of" = true) (k_difference_of : PySem.W.keepIn K (.ref f_difference_of) = true) (a_product_of : PySem.W.nsIn K mainGlobals "product_of" = some (some (.ref f_product_of))) (l_product_of : K.lookup f_product_of = some ⟨oc_product_of, od_product_of, .func (PySem.W.fnOf "product_of" "product_of" (defArgs s_product_of) (defBody s_product_of) (defScope s_product_of) .none kV_product_of dc_product_of pm_product_of an_product_of cd_product_of ct_product_of), sl_product_of⟩) (c_product_of : PySem.W.codeIn K cd_product_of "product_of" = true) (k_product_of : PySem.W.keepIn K (.ref f_product_of) = true) (a_lowest_terms : PySem.W.nsIn K mainGlobals "lowest_terms" = some (some (.ref f_lowest_terms))) (l_lowest_terms : K.lookup f_lowest_terms = some ⟨oc_lowest_terms, od_lowest_terms, .func (PySem.W.fnOf "lowest_terms" "lowest_terms" (defArgs s_lowest_terms) (defBody s_lowest_terms) (defScope s_lowest_terms) .none kV_lowest_terms dc_lowest_terms pm_lowest_terms an_lowest_terms cd_lowest_terms ct_lowest_terms), sl_lowest_terms⟩) (c_lowest_terms : PySem.W.codeIn K cd_lowest_terms "lowest_terms" = true) (k_lowest_terms : PySem.W.keepIn K (.ref f_lowest_terms) = true) (a_greatest_shared : PySem.W.nsIn K mainGlobals "greatest_shared" = some (some (.ref f_greatest_shared))) (l_greatest_shared : K.lookup f_greatest_shared = some ⟨oc_greatest_shared, od_greatest_shared, .func (PySem.W.fnOf "greatest_shared" "greatest_shared" (defArgs s_greatest_shared) (defBody s_greatest_shared) (defScope s_greatest_shared) .none kV_greatest_shared dc_greatest_shared pm_greatest_shared an_greatest_shared cd_greatest_shared ct_greatest_shared), sl_greatest_shared⟩) (c_greatest_shared : PySem.W.codeIn K cd_greatest_shared "greatest_shared" = true) (k_greatest_shared : PySem.W.keepIn K (.ref f_greatest_shared) = true) (a_lengthenings : PySem.W.nsIn K mainGlobals "lengthenings" = some (some (.ref f_lengthenings))) (l_lengthenings : K.lookup f_lengthenings = some ⟨oc_lengthenings, od_lengthenings, .func (PySem.W.fnOf "lengthenings" "lengthenings" (defArgs s_lengthenings) (defBody s_lengthenings) (defScope s_lengthenings) .none kV_lengthenings dc_lengthenings pm_lengthenings an_lengthenings cd_lengthenings ct_lengthenings), sl_lengthenings⟩) (c_lengthenings : PySem.W.codeIn K cd_lengthenings "lengthenings" = true) (k_lengthenings : PySem.W.keepIn K (.ref f_lengthenings) = true) (a_slips : PySem.W.nsIn K mainGlobals "slips" = some (some (.ref f_slips))) (l_slips : K.lookup f_slips = some ⟨oc_slips, od_slips, .func (PySem.W.fnOf "slips" "slips" (defArgs s_slips) (defBody s_slips) (defScope s_slips) .none kV_slips dc_slips pm_slips an_slips cd_slips ct_slips), sl_slips⟩) (c_slips : PySem.W.codeIn K cd_slips "slips" = true) (k_slips : PySem.W.keepIn K (.ref f_slips) = true) (a_work_of : PySem.W.nsIn K mainGlobals "work_of" = some (some (.ref f_work_of))) (l_work_of : K.lookup f_work_of = some ⟨oc_work_of, od_work_of, .func (PySem.W.fnOf "work_of" "work_of" (defArgs s_work_of) (defBody s_work_of) (defScope s_work_of) .none kV_work_of dc_work_of pm_work_of an_work_of cd_work_of ct_work_of), sl_work_of⟩) (c_work_of : PySem.W.codeIn K cd_work_of "work_of" = true) (k_work_of : PySem.W.keepIn K (.ref f_work_of) = true) (a_arm_between : PySem.W.nsIn K mainGlobals "arm_between" = some (some (.ref f_arm_between))) (l_arm_between : K.lookup f_arm_between = some ⟨oc_arm_between, od_arm_between, .func (PySem.W.fnOf "arm_between" "arm_between" (defArgs s_arm_between) (defBody s_arm_between) (defScope s_arm_between) .none kV_arm_between dc_arm_between pm_arm_between an_arm_between cd_arm_between ct_arm_between), sl_arm_between⟩) (c_arm_between : PySem.W.codeIn K cd_arm_between "arm_between" = true) (k_arm_between : PySem.W.keepIn K (.ref f_arm_between) = true) (a_pair_difference : PySem.W.nsIn K mainGlobals "pair_difference" = some (some (.ref f_pair_difference))) (l_pair_difference : K.lookup f_pair_difference = some ⟨oc_pair_difference, od_pair_difference, .func (PySem.W.fnOf "pair_difference" "pair_difference" (defArgs s_pair_difference) (defBody s_pair_difference) (defScope s_pair_difference) .none kV_pair_difference dc_pair_difference pm_pair_difference an_pair_difference cd_pair_difference ct_pair_difference), sl_pair_difference⟩) (c_pair_difference : PySem.W.codeIn K cd_pair_difference "pair_difference" = true) (k_pair_difference : PySem.W.keepIn K (.ref f_pair_difference) = true) (a_pair_product : PySem.W.nsIn K mainGlobals "pair_product" = some (some (.ref f_pair_product))) (l_pair_product : K.lookup f_pair_product = some ⟨oc_pair_product, od_pair_product, .func (PySem.W.fnOf "pair_product" "pair_product" (defArgs s_pair_product) (defBody s_pair_product) (defScope s_pair_product) .none kV_pair_product dc_pair_product pm_pair_product an_pair_product cd_pair_product ct_pair_product), sl_pair_product⟩) (c_pair_product : PySem.W.codeIn K cd_pair_product "pair_product" = true) (k_pair_product : PySem.W.keepIn K (.ref f_pair_product) = true) (a_law_cell_at : PySem.W.nsIn K mainGlobals "_law_cell_at" = some (some (.ref f_law_cell_at))) (l_law_cell_at : K.lookup f_law_cell_at = some ⟨oc_law_cell_at, od_law_cell_at, .func (PySem.W.fnOf "_law_cell_at" "_law_cell_at" (defArgs s_law_cell_at) (defBody s_law_cell_at) (defScope s_law_cell_at) .none kV_law_cell_at dc_law_cell_at pm_law_cell_at an_law_cell_at cd_law_cell_at ct_law_cell_at), sl_law_cell_at⟩) (c_law_cell_at : PySem.W.codeIn K cd_law_cell_at "_law_cell_at" = true) (k_law_cell_at : PySem.W.keepIn K (.ref f_law_cell_at) = true) (a_law_part : PySem.W.nsIn K mainGlobals "_law_part" = some (some (.ref f_law_part))) (l_law_part : K.lookup f_law_part = some ⟨oc_law_part, od_law_part, .func (PySem.W.fnOf "_law_part" "_law_part" (defArgs s_law_part) (defBody s_law_part) (defScope s_law_part) .none kV_law_part dc_law_part pm_law_part an_law_part cd_law_part ct_law_part), sl_law_part⟩) (c_law_part : PySem.W.codeIn K cd_law_part "_law_part" = true) (k_law_part : PySem.W.keepIn K (.ref f_law_part) = true) (a_law_lowest : PySem.W.nsIn K mainGlobals "_law_lowest" = some (some (.ref f_law_lowest))) (l_law_lowest : K.lookup f_law_lowest = some ⟨oc_law_lowest, od_law_lowest, .func (PySem.W.fnOf "_law_lowest" "_law_lowest" (defArgs s_law_lowest) (defBody s_law_lowest) (defScope s_law_lowest) .none kV_law_lowest dc_law_lowest pm_law_lowest an_law_lowest cd_law_lowest ct_law_lowest), sl_law_lowest⟩) (c_law_lowest : PySem.W.codeIn K cd_law_lowest "_law_lowest" = true) (k_law_lowest : PySem.W.keepIn K (.ref f_law_lowest) = true) (a_law_plus : PySem.W.nsIn K mainGlobals "_law_plus" = some (some (.ref f_law_plus))) (l_law_plus : K.lookup f_law_plus = some ⟨oc_law_plus, od_law_plus, .func (PySem.W.fnOf "_law_plus" "_law_plus" (defArgs s_law_plus) (defBody s_law_plus) (defScope s_law_plus) .none kV_law_plus dc_law_plus pm_law_plus an_law_plus cd_law_plus ct_law_plus), sl_law_plus⟩) (c_law_plus : PySem.W.codeIn K cd_law_plus "_law_plus" = true) (k_law_plus : PySem.W.keepIn K (.ref f_law_plus) = true) (a_law_times : PySem.W.nsIn K mainGlobals "_law_times" = some (some (.ref f_law_times))) (l_law_times : K.lookup f_law_times = some ⟨oc_law_times, od_law_times, .func (PySem.W.fnOf "_law_times" "_law_times" (defArgs s_law_times) (defBody s_law_times) (defScope s_law_times) .none kV_law_times dc_law_times pm_law_times an_law_times cd_law_times ct_law_times), sl_law_times⟩) (c_law_times : PySem.W.codeIn K cd_law_times "_law_times" = true) (k_law_times : PySem.W.keepIn K (.ref f_law_times) = true) (a_law_drawn : PySem.W.nsIn K mainGlobals "_law_drawn" = some (some (.ref f_law_drawn))) (l_law_drawn : K.lookup f_law_drawn = some ⟨oc_law_drawn, od_law_drawn, .func (PySem.W.fnOf "_law_drawn" "_law_drawn" (defArgs s_law_drawn) (defBody s_law_drawn) (defScope s_law_drawn) .none kV_law_drawn dc_law_drawn pm_law_drawn an_law_drawn cd_law_drawn ct_law_drawn), sl_law_drawn⟩) (c_law_drawn : PySem.W.codeIn K cd_law_drawn "_law_drawn" = true) (k_law_drawn : PySem.W.keepIn K (.ref f_law_drawn) = true) (a_law_names : PySem.W.nsIn K mainGlobals "_law_names" = some (some (.ref f_law_names))) (l_law_names : K.lookup f_law_names = some ⟨oc_law_names, od_law_names, .func (PySem.W.fnOf "_law_names" "_law_names" (defArgs s_law_names) (defBody s_law_names) (defScope s_law_names) .none kV_law_names dc_law_names pm_law_names an_law_names cd_law_names ct_law_names), sl_law_names⟩) (c_law_names : PySem.W.codeIn K cd_law_names "_law_names" = true) (k_law_names : PySem.W.keepIn K (.ref f_law_names) = true) (a_law_ways : PySem.W.nsIn K mainGlobals "_law_ways" = some (some (.ref f_law_ways))) (l_law_ways : K.lookup f_law_ways = some ⟨oc_law_ways, od_law_ways, .func (PySem.W.fnOf "_law_ways" "_law_ways" (defArgs s_law_ways) (defBody s_law_ways) (defScope s_law_ways) .none kV_law_ways dc_law_ways pm_law_ways an_law_ways cd_law_ways ct_law_ways), sl_law_ways⟩) (c_law_ways : PySem.W.codeIn K cd_law_ways "_law_ways" = true) (k_law_ways : PySem.W.keepIn K (.ref f_law_ways) = true) (a_law_pins : PySem.W.nsIn K mainGlobals "_law_pins" = some (some (.ref f_law_pins))) (l_law_pins : K.lookup f_law_pins = some ⟨oc_law_pins, od_law_pins, .func (PySem.W.fnOf "_law_pins" "_law_pins" (defArgs s_law_pins) (defBody s_law_pins) (defScope s_law_pins) .none kV_law_pins dc_law_pins pm_law_pins an_law_pins cd_law_pins ct_law_pins), sl_law_pins⟩) (c_law_pins : PySem.W.codeIn K cd_law_pins "_law_pins" = true) (k_law_pins : PySem.W.keepIn K (.ref f_law_pins) = true) (a_law_bars : PySem.W.nsIn K mainGlobals "_law_bars" = some (some (.ref f_law_bars))) (l_law_bars : K.lookup f_law_bars = some ⟨oc_law_bars, od_law_bars, .func (PySem.W.fnOf "_law_bars" "_law_bars" (defArgs s_law_bars) (defBody s_law_bars) (defScope s_law_bars) .none kV_law_bars dc_law_bars pm_law_bars an_law_bars cd_law_bars ct_law_bars), sl_law_bars⟩) (c_law_bars : PySem.W.codeIn K cd_law_bars "_law_bars" = true) (k_law_bars : PySem.W.keepIn K (.ref f_law_bars) = true) (a_law_put_pin : PySem.W.nsIn K mainGlobals "_law_put_pin" = some (some (.ref f_law_put_pin))) (l_law_put_pin : K.lookup f_law_put_pin = some ⟨oc_law_put_pin, od_law_put_pin, .func (PySem.W.fnOf "_law_put_pin" "_law_put_pin" (defArgs s_law_put_pin) (defBody s_law_put_pin) (defScope s_law_put_pin) .none kV_law_put_pin dc_law_put_pin pm_law_put_pin an_law_put_pin cd_law_put_pin ct_law_put_pin), sl_law_put_pin⟩) (c_law_put_pin : PySem.W.codeIn K cd_law_put_pin "_law_put_pin" = true) (k_law_put_pin : PySem.W.keepIn K (.ref f_law_put_pin) = true) (a_law_frame : PySem.W.nsIn K mainGlobals "_law_frame" = some (some (.ref f_law_frame))) (l_law_frame : K.lookup f_law_frame = some ⟨oc_law_frame, od_law_frame, .func (PySem.W.fnOf "_law_frame" "_law_frame" (defArgs s_law_frame) (defBody s_law_frame) (defScope s_law_frame) .none kV_law_frame dc_law_frame pm_law_frame an_law_frame cd_law_frame ct_law_frame), sl_law_frame⟩) (c_law_frame : PySem.W.codeIn K cd_law_frame "_law_frame" = true) (k_law_frame : PySem.W.keepIn K (.ref f_law_frame) = true) (a_law_put_anew : PySem.W.nsIn K mainGlobals "_law_put_anew" = some (some (.ref f_law_put_anew))) (l_law_put_anew : K.lookup f_law_put_anew = some ⟨oc_law_put_anew, od_law_put_anew, .func (PySem.W.fnOf "_law_put_anew" "_law_put_anew" (defArgs s_law_put_anew) (defBody s_law_put_anew) (defScope s_law_put_anew) .none kV_law_put_anew dc_law_put_anew pm_law_put_anew an_law_put_anew cd_law_put_anew ct_law_put_anew), sl_law_put_anew⟩) (c_law_put_anew : PySem.W.codeIn K cd_law_put_anew "_law_put_anew" = true) (k_law_put_anew : PySem.W.keepIn K (.ref f_law_put_anew) = true) (a_law_handed : PySem.W.nsIn K mainGlobals "_law_handed" = some (some (.ref f_law_handed))) (l_law_handed : K.lookup f_law_handed = some ⟨oc_law_handed, od_law_handed, .func (PySem.W.fnOf "_law_handed" "_law_handed" (defArgs s_law_handed) (defBody s_law_handed) (defScope s_law_handed) .none kV_law_handed dc_law_handed pm_law_handed an_law_handed cd_law_handed ct_law_handed), sl_law_handed⟩) (c_law_handed : PySem.W.codeIn K cd_law_handed "_law_handed" = true) (k_law_handed : PySem.W.keepIn K (.ref f_law_handed) = true) (a_law_moved : PySem.W.nsIn K mainGlobals "_law_moved" = some (some (.ref f_law_moved))) (l_law_moved : K.lookup f_law_moved = some ⟨oc_law_moved, od_law_moved, .func (PySem.W.fnOf "_law_moved" "_law_moved" (defArgs s_law_moved) (defBody s_law_moved) (defScope s_law_moved) .none kV_law_moved dc_law_moved pm_law_moved an_law_moved cd_law_moved ct_law_moved), sl_law_moved⟩) (c_law_moved : PySem.W.codeIn K cd_law_moved "_law_moved" = true) (k_law_moved : PySem.W.keepIn K (.ref f_law_moved) = true) (a_law_along : PySem.W.nsIn K mainGlobals "_law_along" = some (some (.ref f_law_along))) (l_law_along : K.lookup f_law_along = some ⟨oc_law_along, od_law_along, .func (PySem.W.fnOf "_law_along" "_law_along" (defArgs s_law_along) (defBody s_law_along) (defScope s_law_along) .none kV_law_along dc_law_along pm_law_along an_law_along cd_law_along ct_law_along), sl_law_along⟩) (c_law_along : PySem.W.codeIn K cd_law_along "_law_along" = true) (k_law_along : PySem.W.keepIn K (.ref f_law_along) = true) (a_law_less : PySem.W.nsIn K mainGlobals "_law_less" = some (some (.ref f_law_less))) (l_law_less : K.lookup f_law_less = some ⟨oc_law_less, od_law_less, .func (PySem.W.fnOf "_law_less" "_law_less" (defArgs s_law_less) (defBody s_law_less) (defScope s_law_less) .none kV_law_less dc_law_less pm_law_less an_law_less cd_law_less ct_law_less), sl_law_less⟩) (c_law_less : PySem.W.codeIn K cd_law_less "_law_less" = true) (k_law_less : PySem.W.keepIn K (.ref f_law_less) = true) (a_law_number : PySem.W.nsIn K mainGlobals "_law_number" = some (some (.ref f_law_number))) (l_law_number : K.lookup f_law_number = some ⟨oc_law_number, od_law_number, .func (PySem.W.fnOf "_law_number" "_law_number" (defArgs s_law_number) (defBody s_law_number) (defScope s_law_number) .none kV_law_number dc_law_number pm_law_number an_law_number cd_law_number ct_law_number), sl_law_number⟩) (c_law_number : PySem.W.codeIn K cd_law_number "_law_number" = true) (k_law_number : PySem.W.keepIn K (.ref f_law_number) = true) (a_law_longer : PySem.W.nsIn K mainGlobals "_law_longer" = some (some (.ref f_law_longer))) (l_law_longer : K.lookup f_law_longer = some ⟨oc_law_longer, od_law_longer, .func (PySem.W.fnOf "_law_longer" "_law_longer" (defArgs s_law_longer) (defBody s_law_longer) (defScope s_law_longer) .none kV_law_longer dc_law_longer pm_law_longer an_law_longer cd_law_longer ct_law_longer), sl_law_longer⟩) (c_law_longer : PySem.W.codeIn K cd_law_longer "_law_longer" = true) (k_law_longer : PySem.W.keepIn K (.ref f_law_longer) = true) (a_law_slipped : PySem.W.nsIn K mainGlobals "_law_slipped" = some (some (.ref f_law_slipped))) (l_law_slipped : K.lookup f_law_slipped = some ⟨oc_law_slipped, od_law_slipped, .func (PySem.W.fnOf "_law_slipped" "_law_slipped" (defArgs s_law_slipped) (defBody s_law_slipped) (defScope s_law_slipped) .none kV_law_slipped dc_law_slipped pm_law_slipped an_law_slipped cd_law_slipped ct_law_slipped), sl_law_slipped⟩) (c_law_slipped : PySem.W.codeIn K cd_law_slipped "_law_slipped" = true) (k_law_slipped : PySem.W.keepIn K (.ref f_law_slipped) = true) (a_law_told : PySem.W.nsIn K mainGlobals "_law_told" = some (some (.ref f_law_told))) (l_law_told : K.lookup f_law_told = some ⟨oc_law_told, od_law_told, .func (PySem.W.fnOf "_law_told" "_law_told" (defArgs s_law_told) (defBody s_law_told) (defScope s_law_told) .none kV_law_told dc_law_told pm_law_told an_law_told cd_law_told ct_law_told), sl_law_told⟩) (c_law_told : PySem.W.codeIn K cd_law_told "_law_told" = true) (k_law_told : PySem.W.keepIn K (.ref f_law_told) = true) (a_law_work : PySem.W.nsIn K mainGlobals "_law_work" = some (some (.ref f_law_work))) (l_law_work : K.lookup f_law_work = some ⟨oc_law_work, od_law_work, .func (PySem.W.fnOf "_law_work" "_law_work" (defArgs s_law_work) (defBody s_law_work) (defScope s_law_work) .none kV_law_work dc_law_work pm_law_work an_law_work cd_law_work ct_law_work), sl_law_work⟩) (c_law_work : PySem.W.codeIn K cd_law_work "_law_work" = true) (k_law_work : PySem.W.keepIn K (.ref f_law_work) = true) (a_law : PySem.W.nsIn K mainGlobals "law" = some (some (.ref f_law))) (l_law : K.lookup f_law = some ⟨oc_law, od_law, .func (PySem.W.fnOf "law" "law" (defArgs s_law) (defBody s_law) (defScope s_law) .none kV_law dc_law pm_law an_law cd_law ct_law), sl_law⟩) (c_law : PySem.W.codeIn K cd_law "law" = true) (k_law : PySem.W.keepIn K (.ref f_law) = true) (a_MOST_PINS : PySem.W.nsIn K mainGlobals "MOST_PINS" = some (some (.int 24 tk_MOST_PINS))) (a_MOST_BARS : PySem.W.nsIn K mainGlobals "MOST_BARS" = some (some (.int 60 tk_MOST_BARS))) (a_NOUGHT : PySem.W.nsIn K mainGlobals "NOUGHT" = some (some (.ref c_NOUGHT))) (t_NOUGHT : K.lookup c_NOUGHT = some ⟨.type "tuple", cd_NOUGHT, .seq #[.int 0 ck0_NOUGHT, .int 1 ck1_NOUGHT] cn_NOUGHT, cs_NOUGHT⟩) (a_NO_MOVE : PySem.W.nsIn K mainGlobals "NO_MOVE" = some (some (.ref c_NO_MOVE))) (t_NO_MOVE : K.lookup c_NO_MOVE = some ⟨.type "tuple", cd_NO_MOVE, .seq #[.ref c_NO_MOVE_0, .ref c_NO_MOVE_1] cn_NO_MOVE, cs_NO_MOVE⟩) (t_NO_MOVE_0 : K.lookup c_NO_MOVE_0 = some ⟨.type "tuple", cd_NO_MOVE_0, .seq #[.int 0 ck0_NO_MOVE_0, .int 1 ck1_NO_MOVE_0] cn_NO_MOVE_0, cs_NO_MOVE_0⟩) (t_NO_MOVE_1 : K.lookup c_NO_MOVE_1 = some ⟨.type "tuple", cd_NO_MOVE_1, .seq #[.int 0 ck0_NO_MOVE_1, .int 1 ck1_NO_MOVE_1] cn_NO_MOVE_1, cs_NO_MOVE_1⟩) (z_ValueError : PySem.W.nsIn K mainGlobals "ValueError" = some none) (z_abs : PySem.W.nsIn K mainGlobals "abs" = some none) (z_all : PySem.W.nsIn K mainGlobals "all" = some none) (z_bool : PySem.W.nsIn K mainGlobals "bool" = some none) (z_dict : PySem.W.nsIn K mainGlobals "dict" = some none) (z_int : PySem.W.nsIn K mainGlobals "int" = some none) (z_isinstance : PySem.W.nsIn K mainGlobals "isinstance" = some none) (z_len : PySem.W.nsIn K mainGlobals "len" = some none) (z_list : PySem.W.nsIn K mainGlobals "list" = some none) (z_range : PySem.W.nsIn K mainGlobals "range" = some none) (z_tuple : PySem.W.nsIn K mainGlobals "tuple" = some none) (a_YardError : PySem.W.nsIn K mainGlobals "YardError" = some (some (.ref C_YardError))) (a_NoWay : PySem.W.nsIn K mainGlobals "NoWay" = some (some (.ref C_NoWay))) (a_PinThere : PySem.W.nsIn K mainGlobals "PinThere" = some (some (.ref C_PinThere))) (a_SpotTaken : PySem.W.nsIn K mainGlobals "SpotTaken" = some (some (.ref C_SpotTaken))) (a_NoPin : PySem.W.nsIn K mainGlobals "NoPin" = some (some (.ref C_NoPin))) (a_PinBusy : PySem.W.nsIn K mainGlobals "PinBusy" = some (some (.ref C_PinBusy))) (a_BarThere : PySem.W.nsIn K mainGlobals "BarThere" = some (some (.ref C_BarThere))) (a_NoBar : PySem.W.nsIn K mainGlobals "NoBar" = some (some (.ref C_NoBar))) (a_NoLength : PySem.W.nsIn K mainGlobals "NoLength" = some (some (.ref C_NoLength))) (a_TooMany : PySem.W.nsIn K mainGlobals "TooMany" = some (some (.ref C_TooMany))) (a_Frame : PySem.W.nsIn K mainGlobals "Frame" = some (some (.ref C_Frame))) (a_Hold : PySem.W.nsIn K mainGlobals "Hold" = some (some (.ref C_Hold))) (a_Roller : PySem.W.nsIn K mainGlobals "Roller" = some (some (.ref C_Roller))) (a_Fixed : PySem.W.nsIn K mainGlobals "Fixed" = some (some (.ref C_Fixed))) (pg_Frame : PySem.W.plainGet K C_Frame Str.empty = true) (hd_Frame : PySem.W.hasDictIn K C_Frame = true) (po_Frame : PySem.W.plainOver K C_Frame = true) (sa_Frame : PySem.W.findIn K (.ref C_Frame) "__setattr__" = some (some (.builtin "object.__setattr__"))) (mk_Frame : PySem.W.makesIn K C_Frame = true) (kc_Frame : PySem.W.keepIn K (.ref C_Frame) = true) (a_Frame_init : PySem.W.findIn K (.ref C_Frame) "__init__" = some (some (.ref f_Frame_init))) (i_Frame_init : PySem.W.isFn K (.ref f_Frame_init) = true) (l_Frame_init : K.lookup f_Frame_init = some ⟨oc_Frame_init, od_Frame_init, .func (PySem.W.fnOf "__init__" "Frame.__init__" (defArgs s_Frame_init) (defBody s_Frame_init) (defScope s_Frame_init) .none kV_Frame_init dc_Frame_init pm_Frame_init an_Frame_init cd_Frame_init ct_Frame_init), sl_Frame_init⟩) (c_Frame_init : PySem.W.codeIn K cd_Frame_init "Frame.__init__" = true) (k_Frame_init : PySem.W.keepIn K (.ref f_Frame_init) = true) (a_Frame_put_pin : PySem.W.findIn K (.ref C_Frame) "put_pin" = some (some (.ref f_Frame_put_pin))) (i_Frame_put_pin : PySem.W.isFn K (.ref f_Frame_put_pin) = true) (l_Frame_put_pin : K.lookup f_Frame_put_pin = some ⟨oc_Frame_put_pin, od_Frame_put_pin, .func (PySem.W.fnOf "put_pin" "Frame.put_pin" (defArgs s_Frame_put_pin) (defBody s_Frame_put_pin) (defScope s_Frame_put_pin) (.ref td_Frame_put_pin) kV_Frame_put_pin dc_Frame_put_pin pm_Frame_put_pin an_Frame_put_pin cd_Frame_put_pin ct_Frame_put_pin), sl_Frame_put_pin⟩) (t_Frame_put_pin : K.lookup td_Frame_put_pin = some ⟨tc_Frame_put_pin, tdd_Frame_put_pin, .seq #[.none] tn_Frame_put_pin, tsl_Frame_put_pin⟩) (c_Frame_put_pin : PySem.W.codeIn K cd_Frame_put_pin "Frame.put_pin" = true) (k_Frame_put_pin : PySem.W.keepIn K (.ref f_Frame_put_pin) = true) (a_Frame_put_bar : PySem.W.findIn K (.ref C_Frame) "put_bar" = some (some (.ref f_Frame_put_bar))) (i_Frame_put_bar : PySem.W.isFn K (.ref f_Frame_put_bar) = true) (l_Frame_put_bar : K.lookup f_Frame_put_bar = some ⟨oc_Frame_put_bar, od_Frame_put_bar, .func (PySem.W.fnOf "put_bar" "Frame.put_bar" (defArgs s_Frame_put_bar) (defBody s_Frame_put_bar) (defScope s_Frame_put_bar) .none kV_Frame_put_bar dc_Frame_put_bar pm_Frame_put_bar an_Frame_put_bar cd_Frame_put_bar ct_Frame_put_bar), sl_Frame_put_bar⟩) (c_Frame_put_bar : PySem.W.codeIn K cd_Frame_put_bar "Frame.put_bar" = true) (k_Frame_put_bar : PySem.W.keepIn K (.ref f_Frame_put_bar) = true) (a_Frame_check_bar : PySem.W.findIn K (.ref C_Frame) "check_bar" = some (some (.ref f_Frame_check_bar))) (i_Frame_check_bar : PySem.W.isFn K (.ref f_Frame_check_bar) = true) (l_Frame_check_bar : K.lookup f_Frame_check_bar = some ⟨oc_Frame_check_bar, od_Frame_check_bar, .func (PySem.W.fnOf "check_bar" "Frame.check_bar" (defArgs s_Frame_check_bar) (defBody s_Frame_check_bar) (defScope s_Frame_check_bar) .none kV_Frame_check_bar dc_Frame_check_bar pm_Frame_check_bar an_Frame_check_bar cd_Frame_check_bar ct_Frame_check_bar), sl_Frame_check_bar⟩) (c_Frame_check_bar : PySem.W.codeIn K cd_Frame_check_bar "Frame.check_bar" = true) (k_Frame_check_bar : PySem.W.keepIn K (.ref f_Frame_check_bar) = true) (a_Frame_check_pin : PySem.W.findIn K (.ref C_Frame) "check_pin" = some (some (.ref f_Frame_check_pin))) (i_Frame_check_pin : PySem.W.isFn K (.ref f_Frame_check_pin) = true) (l_Frame_check_pin : K.lookup f_Frame_check_pin = some ⟨oc_Frame_check_pin, od_Frame_check_pin, .func (PySem.W.fnOf "check_pin" "Frame.check_pin" (defArgs s_Frame_check_pin) (defBody s_Frame_check_pin) (defScope s_Frame_check_pin) .none kV_Frame_check_pin dc_Frame_check_pin pm_Frame_check_pin an_Frame_check_pin cd_Frame_check_pin ct_Frame_check_pin), sl_Frame_check_pin⟩) (c_Frame_check_pin : PySem.W.codeIn K cd_Frame_check_pin "Frame.check_pin" = true) (k_Frame_check_pin : PySem.W.keepIn K (.ref f_Frame_check_pin) = true) (a_Frame_take_bar : PySem.W.findIn K (.ref C_Frame) "take_bar" = some (some (.ref f_Frame_take_bar))) (i_Frame_take_bar : PySem.W.isFn K (.ref f_Frame_take_bar) = true) (l_Frame_take_bar : K.lookup f_Frame_take_bar = some ⟨oc_Frame_take_bar, od_Frame_take_bar, .func (PySem.W.fnOf "take_bar" "Frame.take_bar" (defArgs s_Frame_take_bar) (defBody s_Frame_take_bar) (defScope s_Frame_take_bar) .none kV_Frame_take_bar dc_Frame_take_bar pm_Frame_take_bar an_Frame_take_bar cd_Frame_take_bar ct_Frame_take_bar), sl_Frame_take_bar⟩) (c_Frame_take_bar : PySem.W.codeIn K cd_Frame_take_bar "Frame.take_bar" = true) (k_Frame_take_bar : PySem.W.keepIn K (.ref f_Frame_take_bar) = true) (a_Frame_take_pin : PySem.W.findIn K (.ref C_Frame) "take_pin" = some (some (.ref f_Frame_take_pin))) (i_Frame_take_pin : PySem.W.isFn K (.ref f_Frame_take_pin) = true) (l_Frame_take_pin : K.lookup f_Frame_take_pin = some ⟨oc_Frame_take_pin, od_Frame_take_pin, .func (PySem.W.fnOf "take_pin" "Frame.take_pin" (defArgs s_Frame_take_pin) (defBody s_Frame_take_pin) (defScope s_Frame_take_pin) .none kV_Frame_take_pin dc_Frame_take_pin pm_Frame_take_pin an_Frame_take_pin cd_Frame_take_pin ct_Frame_take_pin), sl_Frame_take_pin⟩) (c_Frame_take_pin : PySem.W.codeIn K cd_Frame_take_pin "Frame.take_pin" = true) (k_Frame_take_pin : PySem.W.keepIn K (.ref f_Frame_take_pin) = true) (a_Frame_pins : PySem.W.findIn K (.ref C_Frame) "pins" = some (some (.ref f_Frame_pins))) (i_Frame_pins : PySem.W.isFn K (.ref f_Frame_pins) = true) (l_Frame_pins : K.lookup f_Frame_pins = some ⟨oc_Frame_pins, od_Frame_pins, .func (PySem.W.fnOf "pins" "Frame.pins" (defArgs s_Frame_pins) (defBody s_Frame_pins) (defScope s_Frame_pins) .none kV_Frame_pins dc_Frame_pins pm_Frame_pins an_Frame_pins cd_Frame_pins ct_Frame_pins), sl_Frame_pins⟩) (c_Frame_pins : PySem.W.codeIn K cd_Frame_pins "Frame.pins" = true) (k_Frame_pins : PySem.W.keepIn K (.ref f_Frame_pins) = true) (a_Frame_bars : PySem.W.findIn K (.ref C_Frame) "bars" = some (some (.ref f_Frame_bars))) (i_Frame_bars : PySem.W.isFn K (.ref f_Frame_bars) = true) (l_Frame_bars : K.lookup f_Frame_bars = some ⟨oc_Frame_bars, od_Frame_bars, .func (PySem.W.fnOf "bars" "Frame.bars" (defArgs s_Frame_bars) (defBody s_Frame_bars) (defScope s_Frame_bars) .none kV_Frame_bars dc_Frame_bars pm_Frame_bars an_Frame_bars cd_Frame_bars ct_Frame_bars), sl_Frame_bars⟩) (c_Frame_bars : PySem.W.codeIn K cd_Frame_bars "Frame.bars" = true) (k_Frame_bars : PySem.W.keepIn K (.ref f_Frame_bars) = true) (a_Frame_place : PySem.W.findIn K (.ref C_Frame) "place" = some (some (.ref f_Frame_place))) (i_Frame_place : PySem.W.isFn K (.ref f_Frame_place) = true) (l_Frame_place : K.lookup f_Frame_place = some ⟨oc_Frame_place, od_Frame_place, .func (PySem.W.fnOf "place" "Frame.place" (defArgs s_Frame_place) (defBody s_Frame_place) (defScope s_Frame_place) .none kV_Frame_place dc_Frame_place pm_Frame_place an_Frame_place cd_Frame_place ct_Frame_place), sl_Frame_place⟩) (c_Frame_place : PySem.W.codeIn K cd_Frame_place "Frame.place" = true) (k_Frame_place : PySem.W.keepIn K (.ref f_Frame_place) = true) (a_Frame_ways : PySem.W.findIn K (.ref C_Frame) "ways" = some (some (.ref f_Frame_ways))) (i_Frame_ways : PySem.W.isFn K (.ref f_Frame_ways) = true) (l_Frame_ways : K.lookup f_Frame_ways = some ⟨oc_Frame_ways, od_Frame_ways, .func (PySem.W.fnOf "ways" "Frame.ways" (defArgs s_Frame_ways) (defBody s_Frame_ways) (defScope s_Frame_ways) .none kV_Frame_ways dc_Frame_ways pm_Frame_ways an_Frame_ways cd_Frame_ways ct_Frame_ways), sl_Frame_ways⟩) (c_Frame_ways : PySem.W.codeIn K cd_Frame_ways "Frame.ways" = true) (k_Frame_ways : PySem.W.keepIn K (.ref f_Frame_ways) = true) (a_Frame_ends : PySem.W.findIn K (.ref C_Frame) "ends" = some (some (.ref f_Frame_ends))) (i_Frame_ends : PySem.W.isFn K (.ref f_Frame_ends) = true) (l_Frame_ends : K.lookup f_Frame_ends = some ⟨oc_Frame_ends, od_Frame_ends, .func (PySem.W.fnOf "ends" "Frame.ends" (defArgs s_Frame_ends) (defBody s_Frame_ends) (defScope s_Frame_ends) .none kV_Frame_ends dc_Frame_ends pm_Frame_ends an_Frame_ends cd_Frame_ends ct_Frame_ends), sl_Frame_ends⟩) (c_Frame_ends : PySem.W.codeIn K cd_Frame_ends "Frame.ends" = true) (k_Frame_ends : PySem.W.keepIn K (.ref f_Frame_ends) = true) (pg_Hold : PySem.W.plainGet K C_Hold Str.empty = true) (hd_Hold : PySem.W.hasDictIn K C_Hold = true) (po_Hold : PySem.W.plainOver K C_Hold = true) (sa_Hold : PySem.W.findIn K (.ref C_Hold) "__setattr__" = some (some (.builtin "object.__setattr__"))) (mk_Hold : PySem.W.makesIn K C_Hold = true) (kc_Hold : PySem.W.keepIn K (.ref C_Hold) = true) (oi_Hold : PySem.W.findIn K (.ref C_Hold) "__init__" = some (some (.builtin "object.__init__"))) (a_Hold_ways : PySem.W.findIn K (.ref C_Hold) "ways" = some (some (.ref f_Hold_ways))) (i_Hold_ways : PySem.W.isFn K (.ref f_Hold_ways) = true) (l_Hold_ways : K.lookup f_Hold_ways = some ⟨oc_Hold_ways, od_Hold_ways, .func (PySem.W.fnOf "ways" "Hold.ways" (defArgs s_Hold_ways) (defBody s_Hold_ways) (defScope s_Hold_ways) .none kV_Hold_ways dc_Hold_ways pm_Hold_ways an_Hold_ways cd_Hold_ways ct_Hold_ways), sl_Hold_ways⟩) (c_Hold_ways : PySem.W.codeIn K cd_Hold_ways "Hold.ways" = true) (k_Hold_ways : PySem.W.keepIn K (.ref f_Hold_ways) = true) (pg_Roller : PySem.W.plainGet K C_Roller Str.empty = true) (hd_Roller : PySem.W.hasDictIn K C_Roller = true) (po_Roller : PySem.W.plainOver K C_Roller = true) (sa_Roller : PySem.W.findIn K (.ref C_Roller) "__setattr__" = some (some (.builtin "object.__setattr__"))) (mk_Roller : PySem.W.makesIn K C_Roller = true) (kc_Roller : PySem.W.keepIn K (.ref C_Roller) = true) (a_Roller_init : PySem.W.findIn K (.ref C_Roller) "__init__" = some (some (.ref f_Roller_init))) (i_Roller_init : PySem.W.isFn K (.ref f_Roller_init) = true) (l_Roller_init : K.lookup f_Roller_init = some ⟨oc_Roller_init, od_Roller_init, .func (PySem.W.fnOf "__init__" "Roller.__init__" (defArgs s_Roller_init) (defBody s_Roller_init) (defScope s_Roller_init) .none kV_Roller_init dc_Roller_init pm_Roller_init an_Roller_init cd_Roller_init ct_Roller_init), sl_Roller_init⟩) (c_Roller_init : PySem.W.codeIn K cd_Roller_init "Roller.__init__" = true) (k_Roller_init : PySem.W.keepIn K (.ref f_Roller_init) = true) (a_Roller_ways : PySem.W.findIn K (.ref C_Roller) "ways" = some (some (.ref f_Roller_ways))) (i_Roller_ways : PySem.W.isFn K (.ref f_Roller_ways) = true) (l_Roller_ways : K.lookup f_Roller_ways = some ⟨oc_Roller_ways, od_Roller_ways, .func (PySem.W.fnOf "ways" "Roller.ways" (defArgs s_Roller_ways) (defBody s_Roller_ways) (defScope s_Roller_ways) .none kV_Roller_ways dc_Roller_ways pm_Roller_ways an_Roller_ways cd_Roller_ways ct_Roller_ways), sl_Roller_ways⟩) (c_Roller_ways : PySem.W.codeIn K cd_Roller_ways "Roller.ways" = true) (k_Roller_ways : PySem.W.keepIn K (.ref f_Roller_ways) = true) (pg_Fixed : PySem.W.plainGet K C_Fixed Str.empty = true) (hd_Fixed : PySem.W.hasDictIn K C_Fixed = true) (po_Fixed : PySem.W.plainOver K C_Fixed = true) (sa_Fixed : PySem.W.findIn K (.ref C_Fixed) "__setattr__" = some (some (.builtin "object.__setattr__"))) (mk_Fixed : PySem.W.makesIn K C_Fixed = true) (kc_Fixed : PySem.W.keepIn K (.ref C_Fixed) = true) (oi_Fixed : PySem.W.findIn K (.ref C_Fixed) "__init__" = some (some (.builtin "object.__init__"))) (a_Fixed_ways : PySem.W.findIn K (.ref C_Fixed) "ways" = some (some (.ref f_Fixed_ways))) (i_Fixed_ways : PySem.W.isFn K (.ref f_Fixed_ways) = true) (l_Fixed_ways : K.lookup f_Fixed_ways = some ⟨oc_Fixed_ways, od_Fixed_ways, .func (PySem.W.fnOf "ways" "Fixed.ways" (defArgs s_Fixed_ways) (defBody s_Fixed_ways) (defScope s_Fixed_ways) .none kV_Fixed_ways dc_Fixed_ways pm_Fixed_ways an_Fixed_ways cd_Fixed_ways ct_Fixed_ways), sl_Fixed_ways⟩) (c_Fixed_ways : PySem.W.codeIn K cd_Fixed_ways "Fixed.ways" = true) (k_Fixed_ways : PySem.W.keepIn K (.ref f_Fixed_ways) = true) (n_places : PySem.W.findIn K (.ref C_Frame) "pin_places" = some none) (n_ways : PySem.W.findIn K (.ref C_Frame) "pin_ways" = some none) (n_ends : PySem.W.findIn K (.ref C_Frame) "bar_ends" = some none) (n_way : PySem.W.findIn K (.ref C_Roller) "way" = some none) (ht : l.prog.given.tree = none) :
    ∃ fd : FuncData, (∀ (s : Shared) (v : Value), BindsTo s fd ⟨[v], []⟩ [("_law_script", v)]) ∧ ∀ base : Heap, K.In base → base.Ns mainGlobals mg → FnOk l.prog w K mg base (CXr l.prog w) 42 fa fd ["_law_script"] (spLaw K) := by
  have e := hfa.symm.trans (PySem.W.mg_of X G a_law)
  cases e
  have D_sum_of : Def K mg "sum_of" s_sum_of ["one", "other"] := Def.of (fun_mk (st := s_sum_of) l_sum_of c_sum_of k_sum_of) ((fun_mk (st := s_sum_of) l_sum_of c_sum_of k_sum_of).binds (ps := ["one", "other"]) (fun _ _ _ _ _ _ us hl => match us, hl with | [_, _], _ => rfl)) (PySem.W.mg_of X G a_sum_of)
  have D_difference_of : Def K mg "difference_of" s_difference_of ["one", "other"] := Def.of (fun_mk (st := s_difference_of) l_difference_of c_difference_of k_difference_of) ((fun_mk (st := s_difference_of) l_difference_of c_difference_of k_difference_of).binds (ps := ["one", "other"]) (fun _ _ _ _ _ _ us hl => match us, hl with | [_, _], _ => rfl)) (PySem.W.mg_of X G a_difference_of)
  have D_product_of : Def K mg "product_of" s_product_of ["one", "other"] := Def.of (fun_mk (st := s_product_of) l_product_of c_product_of k_product_of) ((fun_mk (st := s_product_of) l_product_of c_product_of k_product_of).binds (ps := ["one", "other"]) (fun _ _ _ _ _ _ us hl => match us, hl with | [_, _], _ => rfl)) (PySem.W.mg_of X G a_product_of)
  have D_lowest_terms : Def K mg "lowest_terms" s_lowest_terms ["top", "bottom"] := Def.of (fun_mk (st := s_lowest_terms) l_lowest_terms c_lowest_terms k_lowest_terms) ((fun_mk (st := s_lowest_terms) l_lowest_terms c_lowest_terms k_lowest_terms).binds (ps := ["top", "bottom"]) (fun _ _ _ _ _ _ us hl => match us, hl with | [_, _], _ => rfl)) (PySem.W.mg_of X G a_lowest_terms)
  have D_greatest_shared : Def K mg "greatest_shared" s_greatest_shared ["one", "other"] := Def.of (fun_mk (st := s_greatest_shared) l_greatest_shared c_greatest_shared k_greatest_shared) ((fun_mk (st := s_greatest_shared) l_greatest_shared c_greatest_shared k_greatest_shared).binds (ps := ["one", "other"]) (fun _ _ _ _ _ _ us hl => match us, hl with | [_, _], _ => rfl)) (PySem.W.mg_of X G a_greatest_shared)
  have D_lengthenings : Def K mg "lengthenings" s_lengthenings ["F", "motion"] := Def.of (fun_mk (st := s_lengthenings) l_lengthenings c_lengthenings k_lengthenings) ((fun_mk (st := s_lengthenings) l_lengthenings c_lengthenings k_lengthenings).binds (ps := ["F", "motion"]) (fun _ _ _ _ _ _ us hl => match us, hl with | [_, _], _ => rfl)) (PySem.W.mg_of X G a_lengthenings)
  have D_slips : Def K mg "slips" s_slips ["F", "motion"] := Def.of (fun_mk (st := s_slips) l_slips c_slips k_slips) ((fun_mk (st := s_slips) l_slips c_slips k_slips).binds (ps := ["F", "motion"]) (fun _ _ _ _ _ _ us hl => match us, hl with | [_, _], _ => rfl)) (PySem.W.mg_of X G a_slips)
  have D_work_of : Def K mg "work_of" s_work_of ["load", "motion"] := Def.of (fun_mk (st := s_work_of) l_work_of c_work_of k_work_of) ((fun_mk (st := s_work_of) l_work_of c_work_of k_work_of).binds (ps := ["load", "motion"]) (fun _ _ _ _ _ _ us hl => match us, hl with | [_, _], _ => rfl)) (PySem.W.mg_of X G a_work_of)
  have D_arm_between : Def K mg "arm_between" s_arm_between ["F", "one", "other"] := Def.of (fun_mk (st := s_arm_between) l_arm_between c_arm_between k_arm_between) ((fun_mk (st := s_arm_between) l_arm_between c_arm_between k_arm_between).binds (ps := ["F", "one", "other"]) (fun _ _ _ _ _ _ us hl => match us, hl with | [_, _, _], _ => rfl)) (PySem.W.mg_of X G a_arm_between)
  have D_pair_difference : Def K mg "pair_difference" s_pair_difference ["one", "other"] := Def.of (fun_mk (st := s_pair_difference) l_pair_difference c_pair_difference k_pair_difference) ((fun_mk (st := s_pair_difference) l_pair_difference c_pair_difference k_pair_difference).binds (ps := ["one", "other"]) (fun _ _ _ _ _ _ us hl => match us, hl with | [_, _], _ => rfl)) (PySem.W.mg_of X G a_pair_difference)
  have D_pair_product : Def K mg "pair_product" s_pair_product ["one", "other"] := Def.of (fun_mk (st := s_pair_product) l_pair_product c_pair_product k_pair_product) ((fun_mk (st := s_pair_product) l_pair_product c_pair_product k_pair_product).binds (ps := ["one", "other"]) (fun _ _ _ _ _ _ us hl => match us, hl with | [_, _], _ => rfl)) (PySem.W.mg_of X G a_pair_product)
  have D_law_cell_at : Def K mg "_law_cell_at" s_law_cell_at ["_law_script", "_law_k"] := Def.of (fun_mk (st := s_law_cell_at) l_law_cell_at c_law_cell_at k_law_cell_at) ((fun_mk (st := s_law_cell_at) l_law_cell_at c_law_cell_at k_law_cell_at).binds (ps := ["_law_script", "_law_k"]) (fun _ _ _ _ _ _ us hl => match us, hl with | [_, _], _ => rfl)) (PySem.W.mg_of X G a_law_cell_at)
  have D_law_part : Def K mg "_law_part" s_law_part ["_law_cell", "_law_k"] := Def.of (fun_mk (st := s_law_part) l_law_part c_law_part k_law_part) ((fun_mk (st := s_law_part) l_law_part c_law_part k_law_part).binds (ps := ["_law_cell", "_law_k"]) (fun _ _ _ _ _ _ us hl => match us, hl with | [_, _], _ => rfl)) (PySem.W.mg_of X G a_law_part)
  have D_law_lowest : Def K mg "_law_lowest" s_law_lowest ["_law_top", "_law_bottom"] := Def.of (fun_mk (st := s_law_lowest) l_law_lowest c_law_lowest k_law_lowest) ((fun_mk (st := s_law_lowest) l_law_lowest c_law_lowest k_law_lowest).binds (ps := ["_law_top", "_law_bottom"]) (fun _ _ _ _ _ _ us hl => match us, hl with | [_, _], _ => rfl)) (PySem.W.mg_of X G a_law_lowest)
  have D_law_plus : Def K mg "_law_plus" s_law_plus ["_law_x", "_law_y"] := Def.of (fun_mk (st := s_law_plus) l_law_plus c_law_plus k_law_plus) ((fun_mk (st := s_law_plus) l_law_plus c_law_plus k_law_plus).binds (ps := ["_law_x", "_law_y"]) (fun _ _ _ _ _ _ us hl => match us, hl with | [_, _], _ => rfl)) (PySem.W.mg_of X G a_law_plus)
  have D_law_times : Def K mg "_law_times" s_law_times ["_law_x", "_law_y"] := Def.of (fun_mk (st := s_law_times) l_law_times c_law_times k_law_times) ((fun_mk (st := s_law_times) l_law_times c_law_times k_law_times).binds (ps := ["_law_x", "_law_y"]) (fun _ _ _ _ _ _ us hl => match us, hl with | [_, _], _ => rfl)) (PySem.W.mg_of X G a_law_times)
  have D_law_drawn : Def K mg "_law_drawn" s_law_drawn ["_law_cell", "_law_scale"] := Def.of (fun_mk (st := s_law_drawn) l_law_drawn c_law_drawn k_law_drawn) ((fun_mk (st := s_law_drawn) l_law_drawn c_law_drawn k_law_drawn).binds (ps := ["_law_cell", "_law_scale"]) (fun _ _ _ _ _ _ us hl => match us, hl with | [_, _], _ => rfl)) (PySem.W.mg_of X G a_law_drawn)
  have D_law_names : Def K mg "_law_names" s_law_names ["_law_cell", "_law_many"] := Def.of (fun_mk (st := s_law_names) l_law_names c_law_names k_law_names) ((fun_mk (st := s_law_names) l_law_names c_law_names k_law_names).binds (ps := ["_law_cell", "_law_many"]) (fun _ _ _ _ _ _ us hl => match us, hl with | [_, _], _ => rfl)) (PySem.W.mg_of X G a_law_names)
  have D_law_ways : Def K mg "_law_ways" s_law_ways ["_law_cell"] := Def.of (fun_mk (st := s_law_ways) l_law_ways c_law_ways k_law_ways) ((fun_mk (st := s_law_ways) l_law_ways c_law_ways k_law_ways).binds (ps := ["_law_cell"]) (fun _ _ _ _ _ _ us hl => match us, hl with | [_], _ => rfl)) (PySem.W.mg_of X G a_law_ways)
  have D_law_pins : Def K mg "_law_pins" s_law_pins ["_law_script", "_law_names_here", "_law_scale"] := Def.of (fun_mk (st := s_law_pins) l_law_pins c_law_pins k_law_pins) ((fun_mk (st := s_law_pins) l_law_pins c_law_pins k_law_pins).binds (ps := ["_law_script", "_law_names_here", "_law_scale"]) (fun _ _ _ _ _ _ us hl => match us, hl with | [_, _, _], _ => rfl)) (PySem.W.mg_of X G a_law_pins)
  have D_law_bars : Def K mg "_law_bars" s_law_bars ["_law_script", "_law_names_here", "_law_pins_here"] := Def.of (fun_mk (st := s_law_bars) l_law_bars c_law_bars k_law_bars) ((fun_mk (st := s_law_bars) l_law_bars c_law_bars k_law_bars).binds (ps := ["_law_script", "_law_names_here", "_law_pins_here"]) (fun _ _ _ _ _ _ us hl => match us, hl with | [_, _, _], _ => rfl)) (PySem.W.mg_of X G a_law_bars)
  have D_law_put_pin : Def K mg "_law_put_pin" s_law_put_pin ["_law_frame_here", "_law_pin"] := Def.of (fun_mk (st := s_law_put_pin) l_law_put_pin c_law_put_pin k_law_put_pin) ((fun_mk (st := s_law_put_pin) l_law_put_pin c_law_put_pin k_law_put_pin).binds (ps := ["_law_frame_here", "_law_pin"]) (fun _ _ _ _ _ _ us hl => match us, hl with | [_, _], _ => rfl)) (PySem.W.mg_of X G a_law_put_pin)
  have D_law_frame : Def K mg "_law_frame" s_law_frame ["_law_pins_here", "_law_bars_here"] := Def.of (fun_mk (st := s_law_frame) l_law_frame c_law_frame k_law_frame) ((fun_mk (st := s_law_frame) l_law_frame c_law_frame k_law_frame).binds (ps := ["_law_pins_here", "_law_bars_here"]) (fun _ _ _ _ _ _ us hl => match us, hl with | [_, _], _ => rfl)) (PySem.W.mg_of X G a_law_frame)
  have D_law_put_anew : Def K mg "_law_put_anew" s_law_put_anew ["_law_frame_here", "_law_pins_here", "_law_bars_here", "_law_cell", "_law_far"] := Def.of (fun_mk (st := s_law_put_anew) l_law_put_anew c_law_put_anew k_law_put_anew) ((fun_mk (st := s_law_put_anew) l_law_put_anew c_law_put_anew k_law_put_anew).binds (ps := ["_law_frame_here", "_law_pins_here", "_law_bars_here", "_law_cell", "_law_far"]) (fun _ _ _ _ _ _ us hl => match us, hl with | [_, _, _, _, _], _ => rfl)) (PySem.W.mg_of X G a_law_put_anew)
  have D_law_handed : Def K mg "_law_handed" s_law_handed ["_law_rows", "_law_about"] := Def.of (fun_mk (st := s_law_handed) l_law_handed c_law_handed k_law_handed) ((fun_mk (st := s_law_handed) l_law_handed c_law_handed k_law_handed).binds (ps := ["_law_rows", "_law_about"]) (fun _ _ _ _ _ _ us hl => match us, hl with | [_, _], _ => rfl)) (PySem.W.mg_of X G a_law_handed)
  have D_law_moved : Def K mg "_law_moved" s_law_moved ["_law_cell", "_law_scale"] := Def.of (fun_mk (st := s_law_moved) l_law_moved c_law_moved k_law_moved) ((fun_mk (st := s_law_moved) l_law_moved c_law_moved k_law_moved).binds (ps := ["_law_cell", "_law_scale"]) (fun _ _ _ _ _ _ us hl => match us, hl with | [_, _], _ => rfl)) (PySem.W.mg_of X G a_law_moved)
  have D_law_along : Def K mg "_law_along" s_law_along ["_law_way", "_law_spot"] := Def.of (fun_mk (st := s_law_along) l_law_along c_law_along k_law_along) ((fun_mk (st := s_law_along) l_law_along c_law_along k_law_along).binds (ps := ["_law_way", "_law_spot"]) (fun _ _ _ _ _ _ us hl => match us, hl with | [_, _], _ => rfl)) (PySem.W.mg_of X G a_law_along)
  have D_law_less : Def K mg "_law_less" s_law_less ["_law_one", "_law_other"] := Def.of (fun_mk (st := s_law_less) l_law_less c_law_less k_law_less) ((fun_mk (st := s_law_less) l_law_less c_law_less k_law_less).binds (ps := ["_law_one", "_law_other"]) (fun _ _ _ _ _ _ us hl => match us, hl with | [_, _], _ => rfl)) (PySem.W.mg_of X G a_law_less)
  have D_law_number : Def K mg "_law_number" s_law_number ["_law_found", "_law_due"] := Def.of (fun_mk (st := s_law_number) l_law_number c_law_number k_law_number) ((fun_mk (st := s_law_number) l_law_number c_law_number k_law_number).binds (ps := ["_law_found", "_law_due"]) (fun _ _ _ _ _ _ us hl => match us, hl with | [_, _], _ => rfl)) (PySem.W.mg_of X G a_law_number)
  have D_law_longer : Def K mg "_law_longer" s_law_longer ["_law_found", "_law_bars_here", "_law_motion"] := Def.of (fun_mk (st := s_law_longer) l_law_longer c_law_longer k_law_longer) ((fun_mk (st := s_law_longer) l_law_longer c_law_longer k_law_longer).binds (ps := ["_law_found", "_law_bars_here", "_law_motion"]) (fun _ _ _ _ _ _ us hl => match us, hl with | [_, _, _], _ => rfl)) (PySem.W.mg_of X G a_law_longer)
  have D_law_slipped : Def K mg "_law_slipped" s_law_slipped ["_law_found", "_law_pins_here", "_law_motion"] := Def.of (fun_mk (st := s_law_slipped) l_law_slipped c_law_slipped k_law_slipped) ((fun_mk (st := s_law_slipped) l_law_slipped c_law_slipped k_law_slipped).binds (ps := ["_law_found", "_law_pins_here", "_law_motion"]) (fun _ _ _ _ _ _ us hl => match us, hl with | [_, _, _], _ => rfl)) (PySem.W.mg_of X G a_law_slipped)
  have D_law_told : Def K mg "_law_told" s_law_told ["_law_frame_here", "_law_pins_here", "_law_bars_here", "_law_motion"] := Def.of (fun_mk (st := s_law_told) l_law_told c_law_told k_law_told) ((fun_mk (st := s_law_told) l_law_told c_law_told k_law_told).binds (ps := ["_law_frame_here", "_law_pins_here", "_law_bars_here", "_law_motion"]) (fun _ _ _ _ _ _ us hl => match us, hl with | [_, _, _, _], _ => rfl)) (PySem.W.mg_of X G a_law_told)
  have D_law_work : Def K mg "_law_work" s_law_work ["_law_load", "_law_motion"] := Def.of (fun_mk (st := s_law_work) l_law_work c_law_work k_law_work) ((fun_mk (st := s_law_work) l_law_work c_law_work k_law_work).binds (ps := ["_law_load", "_law_motion"]) (fun _ _ _ _ _ _ us hl => match us, hl with | [_, _], _ => rfl)) (PySem.W.mg_of X G a_law_work)
  have cls_Frame : Cls K C_Frame := ⟨pg_Frame, hd_Frame, po_Frame, sa_Frame⟩
  have M_Frame : Mk K C_Frame f_Frame_init := ⟨mk_Frame, a_Frame_init, i_Frame_init, kc_Frame⟩
  have F_Frame_init := fun_mk (st := s_Frame_init) l_Frame_init c_Frame_init k_Frame_init
  have b_Frame_init := F_Frame_init.binds (ps := ["self"]) (fun _ _ _ _ _ _ us hl => match us, hl with | [_], _ => rfl)
  have m_Frame_init : Meth K C_Frame "__init__" f_Frame_init := ⟨a_Frame_init, i_Frame_init, k_Frame_init⟩
  have F_Frame_put_pin := fun_mkD (st := s_Frame_put_pin) l_Frame_put_pin c_Frame_put_pin k_Frame_put_pin
  have b_Frame_put_pin : Binds K (PySem.W.fnOf "put_pin" "Frame.put_pin" (defArgs s_Frame_put_pin) (defBody s_Frame_put_pin) (defScope s_Frame_put_pin) (.ref td_Frame_put_pin) kV_Frame_put_pin dc_Frame_put_pin pm_Frame_put_pin an_Frame_put_pin cd_Frame_put_pin ct_Frame_put_pin) ["self", "name", "x", "y", "hold"] [] := fun s us X hl => match us, hl with | [_, _, _, _, _], _ => BindsTo.of_defaults rfl (X _ _ t_Frame_put_pin) rfl rfl rfl
  have bd_Frame_put_pin : Binds K (PySem.W.fnOf "put_pin" "Frame.put_pin" (defArgs s_Frame_put_pin) (defBody s_Frame_put_pin) (defScope s_Frame_put_pin) (.ref td_Frame_put_pin) kV_Frame_put_pin dc_Frame_put_pin pm_Frame_put_pin an_Frame_put_pin cd_Frame_put_pin ct_Frame_put_pin) ["self", "name", "x", "y", "hold"] [.none] := fun s us X hl => match us, (show us.length = 4 by simpa using hl) with | [_, _, _, _], _ => BindsTo.of_defaults rfl (X _ _ t_Frame_put_pin) rfl rfl rfl
  have m_Frame_put_pin : Meth K C_Frame "put_pin" f_Frame_put_pin := ⟨a_Frame_put_pin, i_Frame_put_pin, k_Frame_put_pin⟩
  have F_Frame_put_bar := fun_mk (st := s_Frame_put_bar) l_Frame_put_bar c_Frame_put_bar k_Frame_put_bar
  have b_Frame_put_bar := F_Frame_put_bar.binds (ps := ["self", "name", "one", "other"]) (fun _ _ _ _ _ _ us hl => match us, hl with | [_, _, _, _], _ => rfl)
  have m_Frame_put_bar : Meth K C_Frame "put_bar" f_Frame_put_bar := ⟨a_Frame_put_bar, i_Frame_put_bar, k_Frame_put_bar⟩
  have F_Frame_check_bar := fun_mk (st := s_Frame_check_bar) l_Frame_check_bar c_Frame_check_bar k_Frame_check_bar
  have b_Frame_check_bar := F_Frame_check_bar.binds (ps := ["self", "name", "one", "other"]) (fun _ _ _ _ _ _ us hl => match us, hl with | [_, _, _, _], _ => rfl)
  have m_Frame_check_bar : Meth K C_Frame "check_bar" f_Frame_check_bar := ⟨a_Frame_check_bar, i_Frame_check_bar, k_Frame_check_bar⟩
  have F_Frame_check_pin := fun_mk (st := s_Frame_check_pin) l_Frame_check_pin c_Frame_check_pin k_Frame_check_pin
  have b_Frame_check_pin := F_Frame_check_pin.binds (ps := ["self", "pin"]) (fun _ _ _ _ _ _ us hl => match us, hl with | [_, _], _ => rfl)
  have m_Frame_check_pin : Meth K C_Frame "check_pin" f_Frame_check_pin := ⟨a_Frame_check_pin, i_Frame_check_pin, k_Frame_check_pin⟩
  have F_Frame_take_bar := fun_mk (st := s_Frame_take_bar) l_Frame_take_bar c_Frame_take_bar k_Frame_take_bar
  have b_Frame_take_bar := F_Frame_take_bar.binds (ps := ["self", "name"]) (fun _ _ _ _ _ _ us hl => match us, hl with | [_, _], _ => rfl)
  have m_Frame_take_bar : Meth K C_Frame "take_bar" f_Frame_take_bar := ⟨a_Frame_take_bar, i_Frame_take_bar, k_Frame_take_bar⟩
  have F_Frame_take_pin := fun_mk (st := s_Frame_take_pin) l_Frame_take_pin c_Frame_take_pin k_Frame_take_pin
  have b_Frame_take_pin := F_Frame_take_pin.binds (ps := ["self", "name"]) (fun _ _ _ _ _ _ us hl => match us, hl with | [_, _], _ => rfl)
  have m_Frame_take_pin : Meth K C_Frame "take_pin" f_Frame_take_pin := ⟨a_Frame_take_pin, i_Frame_take_pin, k_Frame_take_pin⟩
  have F_Frame_pins := fun_mk (st := s_Frame_pins) l_Frame_pins c_Frame_pins k_Frame_pins
  have b_Frame_pins := F_Frame_pins.binds (ps := ["self"]) (fun _ _ _ _ _ _ us hl => match us, hl with | [_], _ => rfl)
  have m_Frame_pins : Meth K C_Frame "pins" f_Frame_pins := ⟨a_Frame_pins, i_Frame_pins, k_Frame_pins⟩
  have F_Frame_bars := fun_mk (st := s_Frame_bars) l_Frame_bars c_Frame_bars k_Frame_bars
  have b_Frame_bars := F_Frame_bars.binds (ps := ["self"]) (fun _ _ _ _ _ _ us hl => match us, hl with | [_], _ => rfl)
  have m_Frame_bars : Meth K C_Frame "bars" f_Frame_bars := ⟨a_Frame_bars, i_Frame_bars, k_Frame_bars⟩
  have F_Frame_place := fun_mk (st := s_Frame_place) l_Frame_place c_Frame_place k_Frame_place
  have b_Frame_place := F_Frame_place.binds (ps := ["self", "pin"]) (fun _ _ _ _ _ _ us hl => match us, hl with | [_, _], _ => rfl)
  have m_Frame_place : Meth K C_Frame "place" f_Frame_place := ⟨a_Frame_place, i_Frame_place, k_Frame_place⟩
  have F_Frame_ways := fun_mk (st := s_Frame_ways) l_Frame_ways c_Frame_ways k_Frame_ways
  have b_Frame_ways := F_Frame_ways.binds (ps := ["self", "pin"]) (fun _ _ _ _ _ _ us hl => match us, hl with | [_, _], _ => rfl)
  have m_Frame_ways : Meth K C_Frame "ways" f_Frame_ways := ⟨a_Frame_ways, i_Frame_ways, k_Frame_ways⟩
  have F_Frame_ends := fun_mk (st := s_Frame_ends) l_Frame_ends c_Frame_ends k_Frame_ends
  have b_Frame_ends := F_Frame_ends.binds (ps := ["self", "bar"]) (fun _ _ _ _ _ _ us hl => match us, hl with | [_, _], _ => rfl)
  have m_Frame_ends : Meth K C_Frame "ends" f_Frame_ends := ⟨a_Frame_ends, i_Frame_ends, k_Frame_ends⟩
  have cls_Hold : Cls K C_Hold := ⟨pg_Hold, hd_Hold, po_Hold, sa_Hold⟩
  have M_Hold : Mk0 K C_Hold := ⟨mk_Hold, oi_Hold, kc_Hold⟩
  have F_Hold_ways := fun_mk (st := s_Hold_ways) l_Hold_ways c_Hold_ways k_Hold_ways
  have b_Hold_ways := F_Hold_ways.binds (ps := ["self"]) (fun _ _ _ _ _ _ us hl => match us, hl with | [_], _ => rfl)
  have m_Hold_ways : Meth K C_Hold "ways" f_Hold_ways := ⟨a_Hold_ways, i_Hold_ways, k_Hold_ways⟩
  have cls_Roller : Cls K C_Roller := ⟨pg_Roller, hd_Roller, po_Roller, sa_Roller⟩
  have M_Roller : Mk K C_Roller f_Roller_init := ⟨mk_Roller, a_Roller_init, i_Roller_init, kc_Roller⟩
  have F_Roller_init := fun_mk (st := s_Roller_init) l_Roller_init c_Roller_init k_Roller_init
  have b_Roller_init := F_Roller_init.binds (ps := ["self", "x", "y"]) (fun _ _ _ _ _ _ us hl => match us, hl with | [_, _, _], _ => rfl)
  have m_Roller_init : Meth K C_Roller "__init__" f_Roller_init := ⟨a_Roller_init, i_Roller_init, k_Roller_init⟩
  have F_Roller_ways := fun_mk (st := s_Roller_ways) l_Roller_ways c_Roller_ways k_Roller_ways
  have b_Roller_ways := F_Roller_ways.binds (ps := ["self"]) (fun _ _ _ _ _ _ us hl => match us, hl with | [_], _ => rfl)
  have m_Roller_ways : Meth K C_Roller "ways" f_Roller_ways := ⟨a_Roller_ways, i_Roller_ways, k_Roller_ways⟩
  have cls_Fixed : Cls K C_Fixed := ⟨pg_Fixed, hd_Fixed, po_Fixed, sa_Fixed⟩
  have M_Fixed : Mk0 K C_Fixed := ⟨mk_Fixed, oi_Fixed, kc_Fixed⟩
  have F_Fixed_ways := fun_mk (st := s_Fixed_ways) l_Fixed_ways c_Fixed_ways k_Fixed_ways
  have b_Fixed_ways := F_Fixed_ways.binds (ps := ["self"]) (fun _ _ _ _ _ _ us hl => match us, hl with | [_], _ => rfl)
  have m_Fixed_ways : Meth K C_Fixed "ways" f_Fixed_ways := ⟨a_Fixed_ways, i_Fixed_ways, k_Fixed_ways⟩
  have m_MOST_PINS := PySem.W.mg_of X G a_MOST_PINS
  have m_MOST_BARS := PySem.W.mg_of X G a_MOST_BARS
  have m_NOUGHT : mg "NOUGHT" = some (.ref c_NOUGHT) := PySem.W.mg_of X G a_NOUGHT
  have m_NO_MOVE : mg "NO_MOVE" = some (.ref c_NO_MOVE) := PySem.W.mg_of X G a_NO_MOVE
  have m_YardError : mg "YardError" = some (.ref C_YardError) := PySem.W.mg_of X G a_YardError
  have m_NoWay : mg "NoWay" = some (.ref C_NoWay) := PySem.W.mg_of X G a_NoWay
  have m_PinThere : mg "PinThere" = some (.ref C_PinThere) := PySem.W.mg_of X G a_PinThere
  have m_SpotTaken : mg "SpotTaken" = some (.ref C_SpotTaken) := PySem.W.mg_of X G a_SpotTaken
  have m_NoPin : mg "NoPin" = some (.ref C_NoPin) := PySem.W.mg_of X G a_NoPin
  have m_PinBusy : mg "PinBusy" = some (.ref C_PinBusy) := PySem.W.mg_of X G a_PinBusy
  have m_BarThere : mg "BarThere" = some (.ref C_BarThere) := PySem.W.mg_of X G a_BarThere
  have m_NoBar : mg "NoBar" = some (.ref C_NoBar) := PySem.W.mg_of X G a_NoBar
  have m_NoLength : mg "NoLength" = some (.ref C_NoLength) := PySem.W.mg_of X G a_NoLength
  have m_TooMany : mg "TooMany" = some (.ref C_TooMany) := PySem.W.mg_of X G a_TooMany
  have m_Frame : mg "Frame" = some (.ref C_Frame) := PySem.W.mg_of X G a_Frame
  have m_Hold : mg "Hold" = some (.ref C_Hold) := PySem.W.mg_of X G a_Hold
  have m_Roller : mg "Roller" = some (.ref C_Roller) := PySem.W.mg_of X G a_Roller
  have m_Fixed : mg "Fixed" = some (.ref C_Fixed) := PySem.W.mg_of X G a_Fixed
  have m_ValueError : mg "ValueError" = none := PySem.W.mg_none_of X G z_ValueError
  have m_abs : mg "abs" = none := PySem.W.mg_none_of X G z_abs
  have m_all : mg "all" = none := PySem.W.mg_none_of X G z_all
  have m_bool : mg "bool" = none := PySem.W.mg_none_of X G z_bool
  have m_dict : mg "dict" = none := PySem.W.mg_none_of X G z_dict
  have m_int : mg "int" = none := PySem.W.mg_none_of X G z_int
  have m_isinstance : mg "isinstance" = none := PySem.W.mg_none_of X G z_isinstance
  have m_len : mg "len" = none := PySem.W.mg_none_of X G z_len
  have m_list : mg "list" = none := PySem.W.mg_none_of X G z_list
  have m_range : mg "range" = none := PySem.W.mg_none_of X G z_range
  have m_tuple : mg "tuple" = none := PySem.W.mg_none_of X G z_tuple
  have F := fun_mk (st := s_law) l_law c_law k_law
  refine ⟨PySem.W.fnOf "law" "law" (defArgs s_law) (defBody s_law) (defScope s_law) .none kV_law dc_law pm_law an_law cd_law ct_law, fun s v => .of_eq rfl, fun base _ _ => ?_⟩
  have hM : Mute (CXr l.prog w) := CXr.mute
  have nm : ∀ {c : Addr} {o : Option Addr} {k0 k1 : Tok} {n : Nat} {sl : Array (Option Value)}, K.lookup c = some ⟨.type "tuple", o, .seq #[.int 0 k0, .int 1 k1] n, sl⟩ → ∀ H : Hp, NmR K H (.ref c) 0 := fun t H => ⟨_, rfl, by rw [qr_nought]; exact .inr ⟨_, _, _, t, rfl, rfl, (by show 2 ≤ sizeLine; decide), .cons ⟨_, rfl⟩ (.cons ⟨_, rfl⟩ .nil)⟩⟩
  have hN : ∀ H : Hp, NmR K H (.ref c_NOUGHT) 0 := nm t_NOUGHT
  have hMo : ∀ H : Hp, PtR K H (.ref c_NO_MOVE) (0, 0) := fun H => ⟨_, .ref c_NO_MOVE_0, .ref c_NO_MOVE_1, rfl, .inr ⟨_, _, _, t_NO_MOVE, rfl, rfl, (by show 2 ≤ sizeLine; decide), .cons rfl (.cons rfl .nil)⟩, nm t_NO_MOVE_0 H, nm t_NO_MOVE_1 H⟩
  have fc : FrC K C_Frame := ⟨cls_Frame, n_places, n_ways, n_ends⟩
  have G1 := ok_greatest_shared (P := l.prog) (w := w) (base := base) (CX := CXr l.prog w) D_greatest_shared m_abs
  have G2 := ok_lowest_terms ht D_lowest_terms G1
  have GS := fn_add (ok_sum_of hM D_sum_of G2)
  have GD := fn_sub (ok_difference_of hM D_difference_of G2)
  have GP := fn_mul (ok_product_of hM D_product_of G2)
  have GPD := ok_pair_difference hM D_pair_difference GD
  have GPP := ok_pair_product hM D_pair_product GS GP
  have GI := ok_Frame_init (P := l.prog) (w := w) (mg := mg) (base := base) F_Frame_init fc
  have MBs : MtdOk l.prog w K mg base (CXr l.prog w) 1 C_Frame "bars" ["self"] (spBars K C_Frame) := ⟨_, _, cls_Frame, m_Frame_bars, ok_Frame_bars F_Frame_bars fc m_list, b_Frame_bars⟩
  have MPn : MtdOk l.prog w K mg base (CXr l.prog w) 1 C_Frame "pins" ["self"] (spPins K C_Frame) := ⟨_, _, cls_Frame, m_Frame_pins, ok_Frame_pins F_Frame_pins fc m_list, b_Frame_pins⟩
  have MCp : MtdOk l.prog w K mg base (CXr l.prog w) 1 C_Frame "check_pin" ["self", "pin"] (spCheckPin K C_Frame) := ⟨_, _, cls_Frame, m_Frame_check_pin, ok_Frame_check_pin F_Frame_check_pin fc, b_Frame_check_pin⟩
  have MCb : MtdOk l.prog w K mg base (CXr l.prog w) 2 C_Frame "check_bar" ["self", "name", "one", "other"] (spCheckBar K C_Frame) := ⟨_, _, cls_Frame, m_Frame_check_bar, ok_Frame_check_bar F_Frame_check_bar fc m_MOST_BARS m_len MCp, b_Frame_check_bar⟩
  have MPb : MtdOk l.prog w K mg base (CXr l.prog w) 3 C_Frame "put_bar" ["self", "name", "one", "other"] (spPutBar K C_Frame) := ⟨_, _, cls_Frame, m_Frame_put_bar, ok_Frame_put_bar F_Frame_put_bar fc MCb, b_Frame_put_bar⟩
  have MPp : MtdOk l.prog w K mg base (CXr l.prog w) 3 C_Frame "put_pin" ["self", "name", "x", "y", "hold"] (spPutPinW l.prog w K mg base C_Frame) := ⟨_, _, cls_Frame, m_Frame_put_pin, ok_Frame_put_pin F_Frame_put_pin fc m_MOST_PINS m_len m_list, b_Frame_put_pin⟩
  have MTb : MtdOk l.prog w K mg base (CXr l.prog w) 1 C_Frame "take_bar" ["self", "name"] (spTakeBar K C_Frame) := ⟨_, _, cls_Frame, m_Frame_take_bar, ok_Frame_take_bar F_Frame_take_bar fc, b_Frame_take_bar⟩
  have MTp : MtdOk l.prog w K mg base (CXr l.prog w) 2 C_Frame "take_pin" ["self", "name"] (spTakePinW K C_Frame) := ⟨_, _, cls_Frame, m_Frame_take_pin, ok_Frame_take_pin F_Frame_take_pin fc MCp, b_Frame_take_pin⟩
  have MPl : MtdOk l.prog w K mg base (CXr l.prog w) 2 C_Frame "place" ["self", "pin"] (spPlace K C_Frame) := ⟨_, _, cls_Frame, m_Frame_place, ok_Frame_place F_Frame_place fc MCp, b_Frame_place⟩
  have ME : MtdOk l.prog w K mg base (CXr l.prog w) 1 C_Frame "ends" ["self", "bar"] (spEnds K C_Frame) := ⟨_, _, cls_Frame, m_Frame_ends, ok_Frame_ends F_Frame_ends fc, b_Frame_ends⟩
  have MW : MtdOk l.prog w K mg base (CXr l.prog w) 2 C_Frame "ways" ["self", "pin"] (spWays K C_Frame) := ⟨_, _, cls_Frame, m_Frame_ways, ok_Frame_ways F_Frame_ways fc m_list MCp, b_Frame_ways⟩
  have wH : MtdOk l.prog w K mg base (CXr l.prog w) 1 C_Hold "ways" ["self"] (spHold K) := ⟨_, _, cls_Hold, m_Hold_ways, ok_Hold_ways F_Hold_ways, b_Hold_ways⟩
  have wR : MtdOk l.prog w K mg base (CXr l.prog w) 1 C_Roller "ways" ["self"] (spRWays K C_Roller) := ⟨_, _, cls_Roller, m_Roller_ways, ok_Roller_ways F_Roller_ways cls_Roller n_way, b_Roller_ways⟩
  have wF : MtdOk l.prog w K mg base (CXr l.prog w) 1 C_Fixed "ways" ["self"] (spFixed K) := ⟨_, _, cls_Fixed, m_Fixed_ways, ok_Fixed_ways F_Fixed_ways, b_Fixed_ways⟩
  have GRI := ok_Roller_init (P := l.prog) (w := w) (mg := mg) (base := base) F_Roller_init cls_Roller n_way
  have GA := ok_arm_between D_arm_between MPl GPD
  have GL := ok_lengthenings hMo m_NO_MOVE D_lengthenings MBs ME GA GPD GPP
  have GSl := ok_slips hMo m_NO_MOVE D_slips MPn MW GPP
  have GW := ok_work_of hN m_NOUGHT hMo m_NO_MOVE D_work_of GS GPP
  have GC := ok_law_cell_at (P := l.prog) (w := w) (base := base) (CX := CXr l.prog w) D_law_cell_at m_len
  have GPt := ok_law_part (P := l.prog) (w := w) (base := base) (CX := CXr l.prog w) D_law_part m_range
  have GLw := ok_law_lowest (w := w) (base := base) ht D_law_lowest m_abs
  have GPl := fn_add (ok_law_plus hM D_law_plus GLw)
  have GTi := fn_mul (ok_law_times hM D_law_times GLw)
  have GDr := ok_law_drawn D_law_drawn GLw
  have GNa := ok_law_names (P := l.prog) (w := w) (base := base) (CX := CXr l.prog w) D_law_names m_range m_len
  have GWy := ok_law_ways D_law_ways GLw
  have GPi := ok_law_pins D_law_pins m_range GC GPt GDr GWy
  have GBa := ok_law_bars D_law_bars m_range m_len GC
  have GPn := ok_law_put_pin D_law_put_pin m_len m_Hold m_Roller m_Fixed M_Hold M_Fixed M_Roller GRI b_Roller_init (wH.mono (by decide)) (wR.mono (by decide)) (wF.mono (by decide)) MPp
  have GFr := ok_law_frame D_law_frame M_Frame m_Frame GI b_Frame_init GPn MPb
  have GAl := ok_law_along hM D_law_along GPl GTi
  have GLe := ok_law_less D_law_less m_tuple m_range GPl
  have GNu := ok_law_number (P := l.prog) (w := w) (base := base) D_law_number m_len m_all m_isinstance m_int m_bool m_tuple
  have GLo := ok_law_longer D_law_longer m_isinstance m_dict m_list GLe GAl GNu
  have GSp := ok_law_slipped D_law_slipped m_isinstance m_dict m_list m_len m_range GAl GNu
  exact ok_law F m_range m_len m_list m_int GC GNa GPi GBa GFr (ok_law_moved D_law_moved GPt GDr) (ok_law_handed D_law_handed) GLo GSp (ok_law_told D_law_told GSp GLo GSl GL) (ok_law_work D_law_work GPl GAl) GNu (ok_law_put_anew D_law_put_anew m_len GPl GPt GWy GPn MPb MTb MTp) GL GSl GW
end T_k16
open PySem PySem.W PyProof.Rows
set_option maxRecDepth 100000 in
set_option maxHeartbeats 0 in
theorem PySem.Challenge.cw_trussyard_k16_lengthenings_slips_work_holds : PySem.Challenge.rw_trussyard_k16_lengthenings_slips_work.Holds := by
  w_on; o_law; k_head; (case hw => w_witness2)
  k_fill
  refine Ty.walk (l := PySem.Challenge.rw_trussyard_k16_lengthenings_slips_work) (x := "_law_script") (k := 42) (CX := fun w => Ty.CXr (PySem.Challenge.rw_trussyard_k16_lengthenings_slips_work).prog w) rfl rfl (by first | rfl | decide +kernel) ⟨rfl, by decide, by decide⟩ (fun w h Y => PySem.W.kIn_of Y) (fun w => Ty.CXr.mute) ?F
  case F =>
    intro w mg fa h KX G hmg
    refine' T_k16.all_mk KX G hmg ?a_sum_of ?l_sum_of ?c_sum_of ?k_sum_of ?a_difference_of ?l_difference_of ?c_difference_of ?k_difference_of ?a_product_of ?l_product_of ?c_product_of ?k_product_of ?a_lowest_terms ?l_lowest_terms ?c_lowest_terms ?k_lowest_terms ?a_greatest_shared ?l_greatest_shared ?c_greatest_shared ?k_greatest_shared ?a_lengthenings ?l_lengthenings ?c_lengthenings ?k_lengthenings ?a_slips ?l_slips ?c_slips ?k_slips ?a_work_of ?l_work_of ?c_work_of ?k_work_of ?a_arm_between ?l_arm_between ?c_arm_between ?k_arm_between ?a_pair_difference ?l_pair_difference ?c_pair_difference ?k_pair_difference ?a_pair_product ?l_pair_product ?c_pair_product ?k_pair_product ?a_law_cell_at ?l_law_cell_at ?c_law_cell_at ?k_law_cell_at ?a_law_part ?l_law_part ?c_law_part ?k_law_part ?a_law_lowest ?l_law_lowest ?c_law_lowest ?k_law_lowest ?a_law_plus ?l_law_plus ?c_law_plus ?k_law_plus ?a_law_times ?l_law_times ?c_law_times ?k_law_times ?a_law_drawn ?l_law_drawn ?c_law_drawn ?k_law_drawn ?a_law_names ?l_law_names ?c_law_names ?k_law_names ?a_law_ways ?l_law_ways ?c_law_ways ?k_law_ways ?a_law_pins ?l_law_pins ?c_law_pins ?k_law_pins ?a_law_bars ?l_law_bars ?c_law_bars ?k_law_bars ?a_law_put_pin ?l_law_put_pin ?c_law_put_pin ?k_law_put_pin ?a_law_frame ?l_law_frame ?c_law_frame ?k_law_frame ?a_law_put_anew ?l_law_put_anew ?c_law_put_anew ?k_law_put_anew ?a_law_handed ?l_law_handed ?c_law_handed ?k_law_handed ?a_law_moved ?l_law_moved ?c_law_moved ?k_law_moved ?a_law_along ?l_law_along ?c_law_along ?k_law_along ?a_law_less ?l_law_less ?c_law_less ?k_law_less ?a_law_number ?l_law_number ?c_law_number ?k_law_number ?a_law_longer ?l_law_longer ?c_law_longer ?k_law_longer ?a_law_slipped ?l_law_slipped ?c_law_slipped ?k_law_slipped ?a_law_told ?l_law_told ?c_law_told ?k_law_told ?a_law_work ?l_law_work ?c_law_work ?k_law_work ?a_law ?l_law ?c_law ?k_law ?a_MOST_PINS ?a_MOST_BARS ?a_NOUGHT ?t_NOUGHT ?a_NO_MOVE ?t_NO_MOVE ?t_NO_MOVE_0 ?t_NO_MOVE_1 ?z_ValueError ?z_abs ?z_all ?z_bool ?z_dict ?z_int ?z_isinstance ?z_len ?z_list ?z_range ?z_tuple ?a_YardError ?a_NoWay ?a_PinThere ?a_SpotTaken ?a_NoPin ?a_PinBusy ?a_BarThere ?a_NoBar ?a_NoLength ?a_TooMany ?a_Frame ?a_Hold ?a_Roller ?a_Fixed ?pg_Frame ?hd_Frame ?po_Frame ?sa_Frame ?mk_Frame ?kc_Frame ?a_Frame_init ?i_Frame_init ?l_Frame_init ?c_Frame_init ?k_Frame_init ?a_Frame_put_pin ?i_Frame_put_pin ?l_Frame_put_pin ?t_Frame_put_pin ?c_Frame_put_pin ?k_Frame_put_pin ?a_Frame_put_bar ?i_Frame_put_bar ?l_Frame_put_bar ?c_Frame_put_bar ?k_Frame_put_bar ?a_Frame_check_bar ?i_Frame_check_bar ?l_Frame_check_bar ?c_Frame_check_bar ?k_Frame_check_bar ?a_Frame_check_pin ?i_Frame_check_pin ?l_Frame_check_pin ?c_Frame_check_pin ?k_Frame_check_pin ?a_Frame_take_bar ?i_Frame_take_bar ?l_Frame_take_bar ?c_Frame_take_bar ?k_Frame_take_bar ?a_Frame_take_pin ?i_Frame_take_pin ?l_Frame_take_pin ?c_Frame_take_pin ?k_Frame_take_pin ?a_Frame_pins ?i_Frame_pins ?l_Frame_pins ?c_Frame_pins ?k_Frame_pins ?a_Frame_bars ?i_Frame_bars ?l_Frame_bars ?c_Frame_bars ?k_Frame_bars ?a_Frame_place ?i_Frame_place ?l_Frame_place ?c_Frame_place ?k_Frame_place ?a_Frame_ways ?i_Frame_ways ?l_Frame_ways ?c_Frame_ways ?k_Frame_ways ?a_Frame_ends ?i_Frame_ends ?l_Frame_ends ?c_Frame_ends ?k_Frame_ends ?pg_Hold ?hd_Hold ?po_Hold ?sa_Hold ?mk_Hold ?kc_Hold ?oi_Hold ?a_Hold_ways ?i_Hold_ways ?l_Hold_ways ?c_Hold_ways ?k_Hold_ways ?pg_Roller ?hd_Roller ?po_Roller ?sa_Roller ?mk_Roller ?kc_Roller ?a_Roller_init ?i_Roller_init ?l_Roller_init ?c_Roller_init ?k_Roller_init ?a_Roller_ways ?i_Roller_ways ?l_Roller_ways ?c_Roller_ways ?k_Roller_ways ?pg_Fixed ?hd_Fixed ?po_Fixed ?sa_Fixed ?mk_Fixed ?kc_Fixed ?oi_Fixed ?a_Fixed_ways ?i_Fixed_ways ?l_Fixed_ways ?c_Fixed_ways ?k_Fixed_ways ?n_places ?n_ways ?n_ends ?n_way ?ht
    (case a_sum_of => k_is); (case l_sum_of => k_is); (case c_sum_of => k_is); (case k_sum_of => k_is); (case a_difference_of => k_is); (case l_difference_of => k_is); (case c_difference_of => k_is); (case k_difference_of => k_is); (case a_product_of => k_is); (case l_product_of => k_is); (case c_product_of => k_is); (case k_product_of => k_is); (case a_lowest_terms => k_is); (case l_lowest_terms => k_is); (case c_lowest_terms => k_is); (case k_lowest_terms => k_is); (case a_greatest_shared => k_is); (case l_greatest_shared => k_is); (case c_greatest_shared => k_is); (case k_greatest_shared => k_is); (case a_lengthenings => k_is); (case l_lengthenings => k_is); (case c_lengthenings => k_is); (case k_lengthenings => k_is); (case a_slips => k_is); (case l_slips => k_is); (case c_slips => k_is); (case k_slips => k_is); (case a_work_of => k_is); (case l_work_of => k_is); (case c_work_of => k_is); (case k_work_of => k_is); (case a_arm_between => k_is); (case l_arm_between => k_is); (case c_arm_between => k_is); (case k_arm_between => k_is); (case a_pair_difference => k_is); (case l_pair_difference => k_is); (case c_pair_difference => k_is); (case k_pair_difference => k_is); (case a_pair_product => k_is); (case l_pair_product => k_is); (case c_pair_product => k_is); (case k_pair_product => k_is); (case a_law_cell_at => k_is); (case l_law_cell_at => k_is); (case c_law_cell_at => k_is); (case k_law_cell_at => k_is); (case a_law_part => k_is); (case l_law_part => k_is); (case c_law_part => k_is); (case k_law_part => k_is); (case a_law_lowest => k_is); (case l_law_lowest => k_is); (case c_law_lowest => k_is); (case k_law_lowest => k_is); (case a_law_plus => k_is); (case l_law_plus => k_is); (case c_law_plus => k_is); (case k_law_plus => k_is); (case a_law_times => k_is); (case l_law_times => k_is); (case c_law_times => k_is); (case k_law_times => k_is); (case a_law_drawn => k_is); (case l_law_drawn => k_is); (case c_law_drawn => k_is); (case k_law_drawn => k_is); (case a_law_names => k_is); (case l_law_names => k_is); (case c_law_names => k_is); (case k_law_names => k_is); (case a_law_ways => k_is); (case l_law_ways => k_is); (case c_law_ways => k_is); (case k_law_ways => k_is); (case a_law_pins => k_is); (case l_law_pins => k_is); (case c_law_pins => k_is); (case k_law_pins => k_is); (case a_law_bars => k_is); (case l_law_bars => k_is); (case c_law_bars => k_is); (case k_law_bars => k_is); (case a_law_put_pin => k_is); (case l_law_put_pin => k_is); (case c_law_put_pin => k_is); (case k_law_put_pin => k_is); (case a_law_frame => k_is); (case l_law_frame => k_is); (case c_law_frame => k_is); (case k_law_frame => k_is); (case a_law_put_anew => k_is); (case l_law_put_anew => k_is); (case c_law_put_anew => k_is); (case k_law_put_anew => k_is); (case a_law_handed => k_is); (case l_law_handed => k_is); (case c_law_handed => k_is); (case k_law_handed => k_is); (case a_law_moved => k_is); (case l_law_moved => k_is); (case c_law_moved => k_is); (case k_law_moved => k_is); (case a_law_along => k_is); (case l_law_along => k_is); (case c_law_along => k_is); (case k_law_along => k_is); (case a_law_less => k_is); (case l_law_less => k_is); (case c_law_less => k_is); (case k_law_less => k_is); (case a_law_number => k_is); (case l_law_number => k_is); (case c_law_number => k_is); (case k_law_number => k_is); (case a_law_longer => k_is); (case l_law_longer => k_is); (case c_law_longer => k_is); (case k_law_longer => k_is); (case a_law_slipped => k_is); (case l_law_slipped => k_is); (case c_law_slipped => k_is); (case k_law_slipped => k_is); (case a_law_told => k_is); (case l_law_told => k_is); (case c_law_told => k_is); (case k_law_told => k_is); (case a_law_work => k_is); (case l_law_work => k_is); (case c_law_work => k_is); (case k_law_work => k_is); (case a_law => k_is); (case l_law => k_is); (case c_law => k_is); (case k_law => k_is); (case a_MOST_PINS => k_is); (case a_MOST_BARS => k_is); (case a_NOUGHT => k_is); (case t_NOUGHT => k_is); (case a_NO_MOVE => k_is); (case t_NO_MOVE => k_is); (case t_NO_MOVE_0 => k_is); (case t_NO_MOVE_1 => k_is); (case z_ValueError => k_is); (case z_abs => k_is); (case z_all => k_is); (case z_bool => k_is); (case z_dict => k_is); (case z_int => k_is); (case z_isinstance => k_is); (case z_len => k_is); (case z_list => k_is); (case z_range => k_is); (case z_tuple => k_is); (case a_YardError => k_is); (case a_NoWay => k_is); (case a_PinThere => k_is); (case a_SpotTaken => k_is); (case a_NoPin => k_is); (case a_PinBusy => k_is); (case a_BarThere => k_is); (case a_NoBar => k_is); (case a_NoLength => k_is); (case a_TooMany => k_is); (case a_Frame => k_is); (case a_Hold => k_is); (case a_Roller => k_is); (case a_Fixed => k_is); (case pg_Frame => k_is); (case hd_Frame => k_is); (case po_Frame => k_is); (case sa_Frame => k_is); (case mk_Frame => k_is); (case kc_Frame => k_is); (case a_Frame_init => k_is); (case i_Frame_init => k_is); (case l_Frame_init => k_is); (case c_Frame_init => k_is); (case k_Frame_init => k_is); (case a_Frame_put_pin => k_is); (case i_Frame_put_pin => k_is); (case l_Frame_put_pin => k_is); (case t_Frame_put_pin => k_is); (case c_Frame_put_pin => k_is); (case k_Frame_put_pin => k_is); (case a_Frame_put_bar => k_is); (case i_Frame_put_bar => k_is); (case l_Frame_put_bar => k_is); (case c_Frame_put_bar => k_is); (case k_Frame_put_bar => k_is); (case a_Frame_check_bar => k_is); (case i_Frame_check_bar => k_is); (case l_Frame_check_bar => k_is); (case c_Frame_check_bar => k_is); (case k_Frame_check_bar => k_is); (case a_Frame_check_pin => k_is); (case i_Frame_check_pin => k_is); (case l_Frame_check_pin => k_is); (case c_Frame_check_pin => k_is); (case k_Frame_check_pin => k_is); (case a_Frame_take_bar => k_is); (case i_Frame_take_bar => k_is); (case l_Frame_take_bar => k_is); (case c_Frame_take_bar => k_is); (case k_Frame_take_bar => k_is); (case a_Frame_take_pin => k_is); (case i_Frame_take_pin => k_is); (case l_Frame_take_pin => k_is); (case c_Frame_take_pin => k_is); (case k_Frame_take_pin => k_is); (case a_Frame_pins => k_is); (case i_Frame_pins => k_is); (case l_Frame_pins => k_is); (case c_Frame_pins => k_is); (case k_Frame_pins => k_is); (case a_Frame_bars => k_is); (case i_Frame_bars => k_is); (case l_Frame_bars => k_is); (case c_Frame_bars => k_is); (case k_Frame_bars => k_is); (case a_Frame_place => k_is); (case i_Frame_place => k_is); (case l_Frame_place => k_is); (case c_Frame_place => k_is); (case k_Frame_place => k_is); (case a_Frame_ways => k_is); (case i_Frame_ways => k_is); (case l_Frame_ways => k_is); (case c_Frame_ways => k_is); (case k_Frame_ways => k_is); (case a_Frame_ends => k_is); (case i_Frame_ends => k_is); (case l_Frame_ends => k_is); (case c_Frame_ends => k_is); (case k_Frame_ends => k_is); (case pg_Hold => k_is); (case hd_Hold => k_is); (case po_Hold => k_is); (case sa_Hold => k_is); (case mk_Hold => k_is); (case kc_Hold => k_is); (case oi_Hold => k_is); (case a_Hold_ways => k_is); (case i_Hold_ways => k_is); (case l_Hold_ways => k_is); (case c_Hold_ways => k_is); (case k_Hold_ways => k_is); (case pg_Roller => k_is); (case hd_Roller => k_is); (case po_Roller => k_is); (case sa_Roller => k_is); (case mk_Roller => k_is); (case kc_Roller => k_is); (case a_Roller_init => k_is); (case i_Roller_init => k_is); (case l_Roller_init => k_is); (case c_Roller_init => k_is); (case k_Roller_init => k_is); (case a_Roller_ways => k_is); (case i_Roller_ways => k_is); (case l_Roller_ways => k_is); (case c_Roller_ways => k_is); (case k_Roller_ways => k_is); (case pg_Fixed => k_is); (case hd_Fixed => k_is); (case po_Fixed => k_is); (case sa_Fixed => k_is); (case mk_Fixed => k_is); (case kc_Fixed => k_is); (case oi_Fixed => k_is); (case a_Fixed_ways => k_is); (case i_Fixed_ways => k_is); (case l_Fixed_ways => k_is); (case c_Fixed_ways => k_is); (case k_Fixed_ways => k_is); (case n_places => k_is); (case n_ways => k_is); (case n_ends => k_is); (case n_way => k_is); (case ht => rfl)
#print axioms PySem.Challenge.cw_trussyard_k16_lengthenings_slips_work_holds


