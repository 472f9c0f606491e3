import PyProof.Rows.All
import Wide.All
import OpenK.AllK
import Wide.FinOn
import Lean
import PyProof.EqAt
import PyProof.EqKinds
import PyProof.TupleCall
import PyProof.ZipIter
import PyProof.SumWalkG
import PyProof.ListCopy
import PyProof.ListStr
import PyProof.DictItems
import PyProof.DictWalks
import PyProof.DictTruth
import PyProof.EnumMake
import PyProof.Rows.SortWalk
import PyProof.ListRange
import PyProof.DictValues
import KE.KRevSl
import KE.KDictOf
import PyProof.DictIter
import PyProof.FactsAll.dict_1
import KE.KDictList
import KE.KItemsList
import PySem.Challenge.RW_trussyard_k15_forces_at_pins
set_option Elab.async false
set_option linter.all false
set_option maxRecDepth 100000
theorem gE.{u} {α : Type u} {l : List α} {i : Nat} (h : i < l.length) : l[i]? = some l[i] := List.getElem?_eq_getElem h
def PySem.W.Fast.tw14359296145838984951 : Unit := ()
def PySem.W.Fast.tw11827613440480842762 : Unit := ()
def PySem.W.Fast.tw4956834523799920388 : Unit := ()
def PySem.W.Fast.tw14134714933194322187 : Unit := ()
def PySem.W.Fast.tw1861644212353704013 : Unit := ()
def PySem.W.Fast.tw6159836787649205746 : Unit := ()
def PySem.W.Fast.tw5068425271903444228 : Unit := ()
def PySem.W.Fast.tw5594985373165660945 : Unit := ()
def PySem.W.Fast.tw1274433104961163074 : Unit := ()
def PySem.W.Fast.tw17903774403067374190 : Unit := ()
def PySem.W.Fast.tw18080434187435266957 : Unit := ()
def PySem.W.Fast.tw17291339917383996442 : Unit := ()
def PySem.W.Fast.tw10642420116547761536 : Unit := ()
def PySem.W.Fast.tw14960171087194263116 : Unit := ()
def PySem.W.Fast.tw14544376705565684377 : Unit := ()
def PySem.W.Fast.tw11186111067695192069 : Unit := ()
def PySem.W.Fast.tw1757693147642627319 : Unit := ()
def PySem.W.Fast.tw14326824035882289243 : Unit := ()
def PySem.W.Fast.tw4830606247405890431 : Unit := ()
def PySem.W.Fast.tw45512284712102907 : Unit := ()
def PySem.W.Fast.tw1541141791296217345 : Unit := ()
def PySem.W.Fast.tw5402679958521147699 : Unit := ()
def PySem.W.Fast.tw10468471085538074285 : Unit := ()
def PySem.W.Fast.tw12376345146455610617 : Unit := ()
def PySem.W.Fast.tw936366089247385495 : Unit := ()
def PySem.W.Fast.tw13524571893279559603 : Unit := ()
def PySem.W.Fast.tw2464614209674361172 : Unit := ()
def PySem.W.Fast.tw13095120107227878806 : Unit := ()
def PySem.W.Fast.tw11399063037788665633 : Unit := ()
def PySem.W.Fast.tw5555621165601725257 : Unit := ()
def PySem.W.Fast.tw10767740828785723837 : Unit := ()
def PySem.W.Fast.tw10757520121203381100 : Unit := ()
def PySem.W.Fast.tw5558439100713683085 : Unit := ()
def PySem.W.Fast.tw8232534172831572816 : Unit := ()
open PySem.W (Frag nsIn codeIn keepIn fnOf mg_of mg_none_of)
def PySem.W.Fast.tw13971232457600301061 : Unit := ()
def PySem.W.Fast.tw16562647395361331023 : Unit := ()
def PySem.W.Fast.tw5411896876044039971 : Unit := ()
def PySem.W.Fast.tw17074559967328422732 : Unit := ()
def PySem.W.Fast.tw10443088235628831703 : Unit := ()
def PySem.W.Fast.tw5802806335446840607 : Unit := ()
def PySem.W.Fast.tw11902237413685051984 : Unit := ()
def PySem.W.Fast.tw15866406529070048925 : Unit := ()
def PySem.W.Fast.tw13525034477246415501 : Unit := ()
def PySem.W.Fast.tw18397075834754039772 : Unit := ()
def PySem.W.Fast.tw8012418298294566828 : Unit := ()
def PySem.W.Fast.tw6878595035922794470 : Unit := ()
def PySem.W.Fast.tw5366286694180100664 : Unit := ()
def PySem.W.Fast.tw1429448326366777855 : Unit := ()
def PySem.W.Fast.tw15610684536579842052 : Unit := ()
def PySem.W.Fast.tw8595996162715727868 : Unit := ()
def PySem.W.Fast.tw3815278625248056031 : Unit := ()
def PySem.W.Fast.tw4392729938138444919 : Unit := ()
def PySem.W.Fast.tw3332581980184802499 : Unit := ()
def PySem.W.Fast.tw2503389995536573513 : Unit := ()
def PySem.W.Fast.tw5982097101582122074 : Unit := ()
namespace L2
open PySem PySem.Spec PyProof.Rows
abbrev Key := Sum Int Str
def keyIs : Key → Value → Bool
 | .inl k, v => Value.isInt k v
 | .inr x, v => Value.isStrOf x v
def keyH (w : World) : Key → Int
 | .inl k => hashInt k
 | .inr x => hashStr w x
theorem keyIs_shape : ∀ {k : Key} {v : Value}, keyIs k v = true → (∃ i t, k = Sum.inl i ∧ v = Value.int i t) ∨ (∃ x t, k = Sum.inr x ∧ v = Value.str x t)
 | .inl i, v, h => by
  obtain ⟨t, e⟩ := Value.isInt_shape (k := i) (v := v) h
  exact .inl ⟨i, t, rfl, e⟩
 | .inr x, v, h => by
  obtain ⟨t, e⟩ := Value.isStrOf_shape (x := x) (v := v) h
  exact .inr ⟨x, t, rfl, e⟩
theorem keyIs_int (i : Int) (t : Tok) : keyIs (.inl i) (.int i t) = true := by simp [keyIs, Value.isInt]
theorem keyIs_str (x : Str) (t : Tok) : keyIs (.inr x) (.str x t) = true := by simp [keyIs, Value.isStrOf]
theorem key_ll (a b : Int) : decide ((Sum.inl a : Key) = Sum.inl b) = (a == b) := by
 by_cases e : a = b
 ·subst e; simp
 ·have h : ¬ (Sum.inl a : Key) = Sum.inl b := fun q => e (Sum.inl.inj q)
  rw [decide_eq_false h]
  exact (beq_eq_false_iff_ne.mpr e).symm
theorem key_rr (a b : Str) : decide ((Sum.inr a : Key) = Sum.inr b) = decide (a = b) := by
 by_cases e : a = b
 ·subst e; simp
 ·have h : ¬ (Sum.inr a : Key) = Sum.inr b := fun q => e (Sum.inr.inj q)
  rw [decide_eq_false h, decide_eq_false e]
theorem key_lr (a : Int) (b : Str) : decide ((Sum.inl a : Key) = Sum.inr b) = false := decide_eq_false (fun q => nomatch q)
theorem key_rl (a : Str) (b : Int) : decide ((Sum.inr a : Key) = Sum.inl b) = false := decide_eq_false (fun q => nomatch q)
def mixKind (prog : Program) (w : World) : PySem.KeyKind prog w Key where
 is := keyIs
 hash := keyH w
 inj := fun v a b ha hb => by
  rcases keyIs_shape ha with ⟨i, t, rfl, rfl⟩ | ⟨x, t, rfl, rfl⟩
  ·rcases keyIs_shape hb with ⟨j, u, rfl, e⟩ | ⟨y, u, rfl, e⟩
   ·injection e with e1 _; rw [e1]
   ·exact nomatch e
  ·rcases keyIs_shape hb with ⟨j, u, rfl, e⟩ | ⟨y, u, rfl, e⟩
   ·exact nomatch e
   ·injection e with e1 _; rw [e1]
 byValue := fun k v h => by
  rcases keyIs_shape h with ⟨i, t, rfl, rfl⟩ | ⟨x, t, rfl, rfl⟩ <;> rfl
 pyHash := fun hv h => by
  rcases keyIs_shape hv with ⟨i, t, rfl, rfl⟩ | ⟨x, t, rfl, rfl⟩
  ·exact wpAny_pyHash_int h
  ·exact wpAny_pyHash_str h
 eqBool := fun hu hv h => by
  rcases keyIs_shape hu with ⟨i, t, rfl, rfl⟩ | ⟨x, t, rfl, rfl⟩
  ·rcases keyIs_shape hv with ⟨j, u, rfl, rfl⟩ | ⟨y, u, rfl, rfl⟩
   ·rw [key_ll] at h; exact wpAny_eqBool_int h
   ·rw [key_lr] at h; exact SeqAt.EqAt.int_str i t y u _ _ _ _ h
  ·rcases keyIs_shape hv with ⟨j, u, rfl, rfl⟩ | ⟨y, u, rfl, rfl⟩
   ·rw [key_rl] at h; exact SeqAt.EqAt.str_int x t j u _ _ _ _ h
   ·rw [key_rr] at h; exact wpAny_eqBool_str h
 «strs» := fun k x t v h => by
  rcases keyIs_shape h with ⟨i, u, rfl, e⟩ | ⟨y, u, rfl, e⟩
  ·exact nomatch e
  ·injection e with e1 _
   subst e1
   cases v <;> rfl
theorem mixKind_int (prog : Program) (w : World) (i : Int) (t : Tok) : (mixKind prog w).is (.inl i) (.int i t) = true := keyIs_int i t
theorem mixKind_str (prog : Program) (w : World) (x : Str) (t : Tok) : (mixKind prog w).is (.inr x) (.str x t) = true := keyIs_str x t
end L2
namespace L2
open PySem PySem.Spec PyProof.Rows
inductive V where
 | non | bl (b : Bool) | int (i : Int) | str (x : Str) | byt (b : Array UInt8) | flt (b : UInt64) | ref (a : Addr) | ty (n : String)
 deriving DecidableEq
def RelV : V → Value → Prop
 | .non, u => u = Value.none
 | .bl b, u => u = Value.bool b
 | .int i, u => ∃ t, u = Value.int i t
 | .str x, u => ∃ t, u = Value.str x t
 | .byt b, u => ∃ t, u = Value.bytes b t
 | .flt b, u => ∃ t, u = Value.float b t
 | .ref a, u => u = Value.ref a
 | .ty n, u => u = Value.type n
abbrev Vals : List V → List Value → Prop := Paired RelV
theorem Vals.length {xs : List V} {us : List Value} (r : Vals xs us) : xs.length = us.length := Paired.length r
theorem Vals.get : ∀ {xs : List V} {us : List Value} {i : Nat} {x : V}, Vals xs us → xs[i]? = some x → ∃ u, us[i]? = some u ∧ RelV x u
 | _, _, _, _, .nil, e => by simp at e
 | _, _, 0, _, .cons r _, e => by simp at e; subst e; exact ⟨_, rfl, r⟩
 | _, _, i + 1, x, .cons _ t, e => by
  obtain ⟨u, h1, h2⟩ := Vals.get (i := i) (x := x) t (by simpa using e)
  exact ⟨u, by simpa using h1, h2⟩
theorem Vals.set {x : V} {u : Value} (r : RelV x u) : ∀ {xs : List V} {us : List Value} (i : Nat), Vals xs us → Vals (xs.set i x) (us.set i u)
 | _, _, _, .nil => .nil
 | _, _, 0, .cons _ t => .cons r t
 | _, _, i + 1, .cons q t => .cons q (Vals.set r i t)
theorem Vals.append : ∀ {xs ys : List V} {us ws : List Value}, Vals xs us → Vals ys ws → Vals (xs ++ ys) (us ++ ws)
 | _, _, _, _, .nil, s => s
 | _, _, _, _, .cons r t, s => .cons r (Vals.append t s)
def RelO : Option V → Option Value → Prop
 | some v, some u => RelV v u
 | none, none => True
 | _, _ => False
def KV {κ : Type} : List (κ × V) → List (κ × Value) → Prop := Paired fun (p : κ × V) (q : κ × Value) => p.1 = q.1 ∧ RelV p.2 q.2
def kV : Key → V
 | .inl i => .int i
 | .inr x => .str x
inductive HO where
 | lst (xs : List V)
 | tup (xs : List V)
 | dK (kvs : List (Key × V)) | dT (kvs : List (List Key × V))
 | set (S : Int → Bool) (n : Nat)
 | ins (C dx : Addr) (fs : List (Str × V))
 | own (x : Addr)
 | xd (fs : List (Str × V))
 | met (f x : Addr)
 | rng (lo hi : Int)
 | frz (o : Obj) (u : HO)
 | tbl (ps : Array Value)
 | ext (φ : Heap → Prop)
abbrev Hp := Addr → Option HO
def upd (H : Hp) (a : Addr) (o : HO) : Hp := fun b => if b = a then some o else H b
theorem upd_same {H : Hp} {a : Addr} {o : HO} : upd H a o a = some o := by unfold upd; rw [if_pos rfl]
theorem upd_ne {H : Hp} {a b : Addr} {o : HO} (h : b ≠ a) : upd H a o b = H b := by unfold upd; rw [if_neg h]
theorem ne_of {H : Hp} {a b : Addr} {o u : HO} (h : H a = some o) (h' : H b = some u) (d : o ≠ u) : a ≠ b := by
 intro e; subst e; rw [h] at h'; exact d (Option.some.inj h')
theorem ne_of_none {H : Hp} {a b : Addr} {o : HO} (h : H a = some o) (h' : H b = none) : a ≠ b := by
 intro e; subst e; rw [h] at h'; cases h'
section
variable (P : Program) (w : World)
def ObjOk (H : Hp) (h : Heap) (a : Addr) : HO → Prop
 | .lst xs => xs.length ≤ sizeLine ∧ ∃ (its : List Value) (n : Nat), Vals xs its ∧ h.get? a = some { cls := .type "list", data := .seq its.toArray n }
 | .tup xs => xs.length ≤ sizeLine ∧ ∃ its : List Value, Vals xs its ∧ IsTup h a its.toArray
 | .dK kvs => kvs.length ≤ sizeLine ∧ (a == sysModules) = false ∧ ∃ vs, KV kvs vs ∧ h.DictOf (mixKind P w) a vs
 | .dT kvs => kvs.length ≤ sizeLine ∧ (a == sysModules) = false ∧ ∃ xs : List (List Key × Addr × Value),
   Paired (fun (p : List Key × V) (q : List Key × Addr × Value) => p.1 = q.1 ∧ H q.2.1 = some (.tup (p.1.map kV)) ∧ RelV p.2 q.2.2) kvs xs ∧
   ∃ o es ep, h.get? a = some o ∧ o.ExactDict ∧ o.data = .dict es ep ∧ es.toList = xs.map (entryOfKey (tupleKind (mixKind P w))) ∧ (xs.map (·.1)).Nodup
 | .set S n => h.SetOf (intKind P w) a S n
 | .ins C dx fs => H dx = some (.own a) ∧ fs.length ≤ 1000 ∧ dx ≠ a ∧ h.get? a = some (PySem.W.instObj C dx) ∧
   ∃ mA, h.Ns1 dx mA ∧ (∀ f, RelO (fs.lookup f) (mA f)) ∧ PySem.Within mA (fs.map (·.1))
 | .own _ => ∃ o, h.get? a = some o
 | .xd fs => ∃ mA, h.Ns1 a mA ∧ ∀ f, RelO (fs.lookup f) (mA f)
 | .rng lo hi => ∃ t u v, h.get? a = some { cls := .type "range", data := .fields #[.int lo t, .int hi u, .int 1 v] }
 | .frz o u => h.get? a = some o ∧ ObjOk H h a u
 | .tbl ps => h.get? a = some { cls := .none, data := .fields ps }
 | .met f x => h.get? a = some (PySem.W.methodObj (.ref f) (.ref x))
 | .ext φ => φ h ∧ (∃ o, h.get? a = some o) ∧ ∀ h1 h2 : Heap, φ h1 → (∀ o, h1.get? a = some o → h2.get? a = some o) → φ h2
def HOk (H : Hp) (h : Heap) : Prop := ∀ a o, H a = some o → ObjOk P w H h a o
end
section
variable {P : Program} {w : World} {H H' : Hp} {h h' : Heap} {a : Addr} {o : HO}
theorem ObjOk.lt (x : ObjOk P w H h a o) : a < h.objs.size := by
 cases o with
 | lst xs => obtain ⟨_, _, _, _, e⟩ := x; exact Heap.lt_size e
 | tup xs => obtain ⟨_, _, _, p⟩ := x; exact p.lt
 | dK kvs => obtain ⟨_, _, _, _, o, _, _, e, _⟩ := x; exact Heap.lt_size e
 | dT kvs => obtain ⟨_, _, _, _, o, _, _, e, _⟩ := x; exact Heap.lt_size e
 | set S n => obtain ⟨o, _, _, _, e, _⟩ := x; exact Heap.lt_size e
 | ins C dx fs => obtain ⟨_, _, _, e, _⟩ := x; exact Heap.lt_size e
 | own y => obtain ⟨_, e⟩ := x; exact Heap.lt_size e
 | xd fs => obtain ⟨_, ⟨_, _, _, e, _⟩, _⟩ := x; exact Heap.lt_size e
 | rng lo hi => obtain ⟨_, _, _, e⟩ := x; exact Heap.lt_size e
 | frz ob u => obtain ⟨e, _⟩ := x; exact Heap.lt_size e
 | tbl ps => exact Heap.lt_size (show h.get? a = some _ from x)
 | met f y => exact Heap.lt_size (show h.get? a = some _ from x)
 | ext φ => obtain ⟨_, ⟨_, e⟩, _⟩ := x; exact Heap.lt_size e
theorem Paired.mapP {α β : Type} {F G : α → β → Prop} : ∀ {l₁ : List α} {l₂ : List β}, Paired F l₁ l₂ → (∀ a b, F a b → G a b) → Paired G l₁ l₂
 | _, _, .nil, _ => .nil
 | _, _, .cons r t, f => .cons (f _ _ r) (Paired.mapP t f)
theorem ObjOk.stay (x : ObjOk P w H h a o) (k : ∀ b u, (b = a ∨ H b = some (.own a)) → h.get? b = some u → h'.get? b = some u)
  (ho : ∀ b, H b = some (.own a) → H' b = some (.own a)) (ht : ∀ b xs, H b = some (.tup xs) → H' b = some (.tup xs)) : ObjOk P w H' h' a o := by
 induction o with
 | lst xs => obtain ⟨z, its, n, r, e⟩ := x; exact ⟨z, its, n, r, k _ _ (.inl rfl) e⟩
 | tup xs => obtain ⟨z, its, r, ob, e, c⟩ := x; exact ⟨z, its, r, ob, k _ _ (.inl rfl) e, c⟩
 | dK kvs => obtain ⟨z, y, vs, r, ob, es, ep, e, c⟩ := x; exact ⟨z, y, vs, r, ob, es, ep, k _ _ (.inl rfl) e, c⟩
 | dT kvs =>
  obtain ⟨z, y, xs, r, ob, es, ep, e, c⟩ := x
  exact ⟨z, y, xs, Paired.mapP r fun p q z => ⟨z.1, ht _ _ z.2.1, z.2.2⟩, ob, es, ep, k _ _ (.inl rfl) e, c⟩
 | set S n => obtain ⟨ob, es, ep, t, e, c⟩ := x; exact ⟨ob, es, ep, t, k _ _ (.inl rfl) e, c⟩
 | ins C dx fs =>
  obtain ⟨d, z, ne, e, mA, ⟨od, es, ep, e2, c⟩, r⟩ := x
  exact ⟨ho _ d, z, ne, k _ _ (.inl rfl) e, mA, ⟨od, es, ep, k _ _ (.inr d) e2, c⟩, r⟩
 | own y => obtain ⟨ob, e⟩ := x; exact ⟨ob, k _ _ (.inl rfl) e⟩
 | xd fs => obtain ⟨mA, ⟨od, es, ep, e, c⟩, r⟩ := x; exact ⟨mA, ⟨od, es, ep, k _ _ (.inl rfl) e, c⟩, r⟩
 | rng lo hi => obtain ⟨t, u, v, e⟩ := x; exact ⟨t, u, v, k _ _ (.inl rfl) e⟩
 | frz ob u ih => obtain ⟨e, q⟩ := x; exact ⟨k _ _ (.inl rfl) e, ih q⟩
 | tbl ps =>
  have e : h.get? a = some { cls := .none, data := .fields ps } := x
  show h'.get? a = some { cls := .none, data := .fields ps }
  exact k a _ (.inl rfl) e
 | met f y =>
  have e : h.get? a = some (PySem.W.methodObj (.ref f) (.ref y)) := x
  show h'.get? a = some (PySem.W.methodObj (.ref f) (.ref y))
  exact k a _ (.inl rfl) e
 | ext φ => obtain ⟨p, ⟨o, e⟩, st⟩ := x; exact ⟨st _ _ p fun o q => k _ _ (.inl rfl) q, ⟨o, k _ _ (.inl rfl) e⟩, st⟩
theorem HOk.lt (x : HOk P w H h) (e : H a = some o) : a < h.objs.size := (x a o e).lt
theorem HOk.fresh (x : HOk P w H h) (e : h.objs.size ≤ a) : H a = none := by
 cases q : H a with
 | none => rfl
 | some u => exact absurd (Nat.lt_of_lt_of_le (x.lt q) e) (Nat.lt_irrefl _)
theorem HOk.kept (x : HOk P w H h) (k : ∀ b u, h.get? b = some u → h'.get? b = some u) : HOk P w H h' := fun a o e =>
 (x a o e).stay (fun b u _ q => k b u q) (fun _ q => q) fun _ _ q => q
theorem HOk.laid (x : HOk P w H h) (k : ∀ b u, h.get? b = some u → h'.get? b = some u) (hp : h.objs.size ≤ a) (new : ObjOk P w (upd H a o) h' a o) : HOk P w (upd H a o) h' := fun b u e => by
 have hn := x.fresh hp
 by_cases hb : b = a
 ·subst hb; rw [upd_same] at e; cases e; exact new
 ·rw [upd_ne hb] at e
  exact (x b u e).stay (fun c v _ q => k c v q) (fun c q => by rw [upd_ne (ne_of_none q hn)]; exact q) fun c xs q => by rw [upd_ne (ne_of_none q hn)]; exact q
end
def Rd (H : Hp) (a : Addr) (u : HO) : Prop := H a = some u ∨ ∃ o, H a = some (.frz o u)
theorem Rd.ok {P : Program} {w : World} {H : Hp} {h : Heap} {a : Addr} {u : HO} (r : Rd H a u) (x : HOk P w H h) : ObjOk P w H h a u := by
 rcases r with r | ⟨o, r⟩
 ·exact x a u r
 ·obtain ⟨_, q⟩ := x a _ r
  exact q
def Mut : Option HO → Prop
 | some (.lst _) => True
 | some (.dK _) => True
 | some (.dT _) => True
 | some (.set _ _) => True
 | some (.ins _ _ _) => True
 | some (.ext _) => True
 | _ => False
section
variable {P : Program} {w : World} {H : Hp} {h h' : Heap} {x e : Addr} {o' : HO}
theorem HOk.write (ok : HOk P w H h) (mu : Mut (H x)) (he : e = x ∨ H e = some (.own x)) (k : ∀ b u, b ≠ e → h.get? b = some u → h'.get? b = some u) (heo : ∃ u, h'.get? e = some u)
  (new : ObjOk P w (upd H x o') h' x o') : HOk P w (upd H x o') h' := fun b u q => by
 have nown : ∀ c y, H c = some (.own y) → c ≠ x := fun c y r z => by subst z; rw [r] at mu; exact mu
 have ntup : ∀ c xs, H c = some (.tup xs) → c ≠ x := fun c xs r z => by subst z; rw [r] at mu; exact mu
 by_cases hb : b = x
 ·subst hb; rw [upd_same] at q; cases q; exact new
 ·rw [upd_ne hb] at q
  by_cases hbe : b = e
  ·have q' : H b = some (.own x) := by
    rcases he with z | z
    ·exact absurd (hbe.trans z) hb
    ·rw [hbe]; exact z
   rw [q] at q'; cases q'
   obtain ⟨v, hv⟩ := heo
   exact ⟨v, by rw [hbe]; exact hv⟩
  ·refine (ok b u q).stay (fun c v hc r => k c v ?_ r) (fun c r => by rw [upd_ne (nown c b r)]; exact r) fun c xs r => by rw [upd_ne (ntup c xs r)]; exact r
   rcases hc with rfl | hc
   ·exact hbe
   ·rintro rfl
    rcases he with z | z
    ·exact nown c b hc z
    ·rw [hc] at z; cases z; exact hb rfl
end
structure Un (fs ex : List Addr) (H H' : Hp) (h h' : Heap) : Prop where
 keep : ∀ b o, h.get? b = some o → H b = none → b ∉ fs → b ∉ ex → h'.get? b = some o
 slot : ∀ b o, h.get? b = some o → H b = none → b ∈ fs → b ∉ ex → ∃ sl, h'.get? b = some { o with slots := sl }
 free : ∀ b o, h.get? b = some o → H b = none → b ∉ ex → H' b = none
 there : ∀ b o, h.get? b = some o → b ∉ ex → ∃ o', h'.get? b = some o'
 tups : ∀ b xs, H b = some (.tup xs) → H' b = some (.tup xs)
 frzs : ∀ b o u, H b = some (.frz o u) → H' b = some (.frz o u)
 tbls : ∀ b ps, H b = some (.tbl ps) → ∃ more, H' b = some (.tbl (ps ++ more))
section
variable {fs fs' ex ex' : List Addr} {H H1 H2 : Hp} {h h1 h2 h' : Heap} {a x e : Addr} {o : HO}
theorem Un.any (u : Un fs ex H H1 h h1) {b : Addr} {ob : Obj} (q : h.get? b = some ob) (n : H b = none) (hx : b ∉ ex) : ∃ sl, h1.get? b = some { ob with slots := sl } := by
 by_cases hb : b ∈ fs
 ·exact u.slot b ob q n hb hx
 ·exact ⟨ob.slots, u.keep b ob q n hb hx⟩
theorem Un.kept (k : ∀ b u, h.get? b = some u → h'.get? b = some u) : Un fs ex H H h h' :=
 ⟨fun b ob q _ _ _ => k b ob q, fun b ob q _ _ _ => ⟨ob.slots, k b ob q⟩, fun _ _ _ n _ => n, fun b ob q _ => ⟨ob, k b ob q⟩, fun _ _ q => q, fun _ _ _ q => q, fun _ ps q => ⟨#[], by rw [q]; simp⟩⟩
theorem Un.refl : Un fs ex H H h h := Un.kept fun _ _ q => q
theorem Un.laid (k : ∀ b u, h.get? b = some u → h'.get? b = some u) (hp : h.objs.size ≤ a) (hn : H a = none) : Un fs ex H (upd H a o) h h' where
 keep := fun b u q _ _ _ => k b u q
 slot := fun b u q _ _ _ => ⟨u.slots, k b u q⟩
 free := fun b u q n _ => by rw [upd_ne (Nat.ne_of_lt (Nat.lt_of_lt_of_le (Heap.lt_size q) hp))]; exact n
 there := fun b u q _ => ⟨u, k b u q⟩
 tups := fun b xs q => by rw [upd_ne (ne_of_none q hn)]; exact q
 frzs := fun b u xs q => by rw [upd_ne (ne_of_none q hn)]; exact q
 tbls := fun b ps q => ⟨#[], by rw [upd_ne (ne_of_none q hn), q]; simp⟩
theorem Un.write (mu : Mut (H x)) (he : e = x ∨ H e = some (.own x)) (k : ∀ b u, b ≠ e → h.get? b = some u → h'.get? b = some u) (heo : ∃ u, h'.get? e = some u) : Un fs ex H (upd H x o) h h' := by
 have hx : ∀ b, H b = none → b ≠ x := fun b n z => by subst z; rw [n] at mu; exact mu
 have hb : ∀ b, H b = none → b ≠ e := fun b n z => by
  subst z
  rcases he with r | r
  ·exact hx b n r
  ·rw [n] at r; cases r
 have hm : ∀ b u, H b = some u → ¬ Mut (some u) → b ≠ x := fun b u q nm z => by subst z; rw [q] at mu; exact nm mu
 refine ⟨fun b u q n _ _ => k b u (hb b n) q, fun b u q n _ _ => ⟨u.slots, k b u (hb b n) q⟩, fun b u q n _ => by rw [upd_ne (hx b n)]; exact n, fun b u q _ => ?_,
  fun b xs q => by rw [upd_ne (hm b _ q fun z => z)]; exact q, fun b u xs q => by rw [upd_ne (hm b _ q fun z => z)]; exact q, fun b ps q => ⟨#[], by rw [upd_ne (hm b _ q fun z => z), q]; simp⟩⟩
 by_cases hbe : b = e
 ·subst hbe; exact heo
 ·exact ⟨u, k b u hbe q⟩
end
def trk (h : Heap) (H : Hp) : List Addr := (List.range h.objs.size).filter fun a => (H a).isSome
def hidT (h : Heap) (H : Hp) : Heap := PySem.W.hideAll h (trk h H)
theorem hidT_size (h : Heap) (H : Hp) : (hidT h H).objs.size = h.objs.size := PySem.W.hideAll_size _ _
theorem hidT_get {h : Heap} {H : Hp} {b : Addr} {o : Obj} (e : h.get? b = some o) (n : H b = none) : (hidT h H).get? b = some o :=
 PySem.W.hideAll_get _ e fun hm => by
  have q : (H b).isSome = true := (List.mem_filter.mp hm).2
  rw [n] at q; simp at q
theorem of_hidT {h : Heap} {H : Hp} {b : Addr} {o : Obj} (e : (hidT h H).get? b = some o) : h.get? b = some o ∧ H b = none := by
 have e' : h.get? b = some o := PySem.W.of_hideAll (trk h H) e
 refine ⟨e', ?_⟩
 cases q : H b with
 | none => rfl
 | some x =>
  have hm : b ∈ trk h H := List.mem_filter.mpr ⟨List.mem_range.mpr (Heap.lt_size e'), by simp [q]⟩
  have z : (hidT h H).get? b = none := PySem.W.hideAll_none (trk h H) hm
  rw [z] at e; cases e
def allNews (g h : Heap) (L : Addr) : List (Addr × Obj) := (List.range h.objs.size).filterMap fun a => if a = L ∨ (g.get? a).isSome = true then none else (h.get? a).map fun o => (a, o)
def rest (g h : Heap) (L d : Addr) : List (Addr × Obj) := (allNews g h L).filter fun p => decide (p.1 ≠ d)
end L2
namespace L2
open PySem PySem.Spec PyProof.Rows
structure Mod (K : Frag) (mg : Str → Option Value) (base : Heap) : Prop where
 kin : K.In base
 glob : base.Ns mainGlobals mg
 blt : ∃ mb, base.Ns builtinsNs mb ∧ ∀ x : Str, x ≠ "__name__" → mb x = bootBuiltins x
 nolimit : base.NoLimit
 seer : base.NoSeer
structure Cx where
 prog : Program
 w : World
 K : Frag
 mg : Str → Option Value
 base : Heap
 A : Around
 N : List Str
 s₀ : Shared
 H₀ : Hp
 env : Env
 outer : List Env
 stack : List Env
 ex : List Addr
 fn : Str → Bool
 calm : Bool
 pn : List (Addr × Obj)
 xe : Value → Shared → Prop
def frs (l : List Env) : List Addr := l.filterMap (·.frame)
abbrev Cx.fs (X : Cx) : List Addr := frs X.outer
def Vis (sc : Scope) (x : Str) : Prop := sc.names.lookup x = some .local ∨ sc.names.lookup x = some .cell ∨ sc.names.lookup x = some .free
def Loc (sc : Scope) (x : Str) : Prop := sc.names.lookup x = some .local ∨ sc.names.lookup x = some .cell
def Look (env : Env) (h : Heap) (m : Str → Option Value) (x : Str) (u : Value) : Prop :=
 (env.kindOf x = some .local ∧ m x = some u) ∨ ((env.kindOf x = some .cell ∨ env.kindOf x = some .free) ∧ ∃ c, env.cells.lookup x = some c ∧ h.IsCell c (some u))
structure Cx.Ok (X : Cx) : Prop where
 mod : Mod X.K X.mg X.base
 kind : X.env.scope.kind = .function
 glob : X.env.globals = mainGlobals
 blt : X.env.builtins = builtinsNs
 above : X.s₀.heap.objs.size ≤ X.env.locals
 inj : ∀ x y c, X.env.cells.lookup x = some c → X.env.cells.lookup y = some c → x = y
 has : ∀ x, (X.env.kindOf x = some .cell ∨ X.env.kindOf x = some .free) → ∃ c, X.env.cells.lookup x = some c
 cab : ∀ x c, X.fn x = true → X.env.cells.lookup x = some c → X.s₀.heap.objs.size ≤ c
 hd : X.calm = true → X.A.handled = none
 frames : X.A.frames = some X.stack
 stk : X.stack = X.outer ∨ (X.stack = X.env :: X.outer ∧ X.env.frame = some X.env.locals)
 exf : ∀ b ∈ X.ex, b ≠ X.env.locals ∧ ∀ x c, X.env.cells.lookup x = some c → c ≠ b
 bs : ∀ b o, X.base.get? b = some o → X.s₀.heap.get? b = some o ∧ X.H₀ b = none
 bsz : X.base.objs.size ≤ X.s₀.heap.objs.size
 noex : ∀ b o, X.base.get? b = some o → b ∉ X.ex
 exfs : ∀ b ∈ X.ex, b ∉ X.fs
 funs : X.s₀.heap.FunFrames X.base X.outer
 frf : ∀ b ∈ X.fs, X.H₀ b = none
structure Inv (X : Cx) (pins : List (Addr × Obj)) (σ : List (Option V)) (H : Hp) (s : Shared) : Prop where
 ok : X.Ok
 os : s.os = X.s₀.os
 bare : AllBare s.gens
 base : Un X.fs X.ex X.H₀ H X.s₀.heap s.heap
 loc : ∃ m, s.heap.Ns X.env.locals m ∧ ∀ (i : Nat) (x : Str) (v : V), X.N[i]? = some x → σ[i]? = some (some v) → Vis X.env.scope x → ∃ u, RelV v u ∧ Look X.env s.heap m x u
 cell : ∀ x c, X.env.cells.lookup x = some c → ∃ v, s.heap.IsCell c v
 free : H X.env.locals = none
 freeC : ∀ x c, X.env.cells.lookup x = some c → H c = none
 pin : ∀ p ∈ X.pn ++ pins, s.heap.get? p.1 = some p.2 ∧ H p.1 = none ∧ p.1 ≠ X.env.locals ∧ p.1 ∉ X.fs ∧ ∀ v, p.2.data ≠ .cell v
 hok : HOk X.prog X.w H s.heap
 len : σ.length = X.N.length
section
variable {X : Cx} {pins : List (Addr × Obj)} {σ : List (Option V)} {H H' : Hp} {s : Shared} {h' : Heap}
theorem Cx.Ok.nofr (ok : X.Ok) {b : Addr} {o : Obj} (e : X.base.get? b = some o) : b ∉ X.fs := fun hb => by
 have := (ok.funs.mem hb).1
 rw [e] at this; cases this
theorem Inv.bs (I : Inv X pins σ H s) : ∀ b o, X.base.get? b = some o → s.heap.get? b = some o ∧ H b = none := fun b o e =>
 ⟨I.base.keep b o (I.ok.bs b o e).1 (I.ok.bs b o e).2 (I.ok.nofr e) (I.ok.noex b o e), I.base.free b o (I.ok.bs b o e).1 (I.ok.bs b o e).2 (I.ok.noex b o e)⟩
theorem Inv.bk (I : Inv X pins σ H s) : ∀ b o, X.base.get? b = some o → s.heap.get? b = some o := fun b o e => (I.bs b o e).1
theorem Inv.mod (I : Inv X pins σ H s) : Mod X.K X.mg X.base := I.ok.mod
theorem Inv.kIn (I : Inv X pins σ H s) : X.K.In s.heap := I.ok.mod.kin.keeps I.bk
theorem Inv.nolimit (I : Inv X pins σ H s) : s.heap.NoLimit := I.ok.mod.nolimit.keeps I.bk
theorem Inv.lt (I : Inv X pins σ H s) : X.env.locals < s.heap.objs.size := let ⟨_, hn, _⟩ := I.loc; hn.lt
theorem Inv.sz (I : Inv X pins σ H s) : X.s₀.heap.objs.size ≤ s.heap.objs.size := Nat.le_trans I.ok.above (Nat.le_of_lt I.lt)
theorem Inv.nofs (I : Inv X pins σ H s) {a : Addr} (h : s.heap.objs.size ≤ a) : a ∉ X.fs := fun hb => by
 obtain ⟨_, o, ho, _⟩ := I.ok.funs.mem hb
 exact absurd (Nat.lt_of_lt_of_le (Heap.lt_size ho) (Nat.le_trans I.sz h)) (Nat.lt_irrefl _)
theorem Inv.cne (I : Inv X pins σ H s) : ∀ x c, X.env.cells.lookup x = some c → c ≠ X.env.locals := fun x c e z => by
 obtain ⟨v, o, ho, hd⟩ := I.cell x c e
 obtain ⟨m, ⟨o', es, ep, ho', hd', _⟩, _⟩ := I.loc
 rw [z, ho'] at ho; cases ho; rw [hd'] at hd; cases hd
theorem Inv.funs (I : Inv X pins σ H s) : s.heap.FunFrames X.base X.outer := by
 have all : ∀ (l : List Env), (∀ b ∈ frs l, b ∈ X.fs) → X.s₀.heap.FunFrames X.base l → s.heap.FunFrames X.base l := by
  intro l
  induction l with
  | nil => intro _ _; trivial
  | cons env r ih =>
   intro hs hl
   obtain ⟨hk, ⟨L, o, hf, hn, ho, hd⟩, hr⟩ := hl
   have hL : L ∈ X.fs := hs L (by unfold frs; rw [List.filterMap_cons, hf]; exact List.mem_cons_self)
   obtain ⟨sl, e⟩ := I.base.slot L o ho (I.ok.frf L hL) hL fun z => I.ok.exfs L z hL
   exact ⟨hk, ⟨L, _, hf, hn, e, hd⟩, ih (fun b hb => hs b (by unfold frs; rw [List.filterMap_cons, hf]; exact List.mem_cons_of_mem _ hb)) hr⟩
 exact all X.outer (fun _ hb => hb) I.ok.funs
theorem Inv.stack (I : Inv X pins σ H s) : s.heap.FunFrames X.base X.stack := by
 rcases I.ok.stk with e | ⟨e, hf⟩
 ·rw [e]; exact I.funs
 ·rw [e]
  obtain ⟨m, hn, _⟩ := I.loc
  refine .cons (by rw [I.ok.kind]; decide) hf hn ?_ I.funs
  exact Heap.get?_none_of_le (Nat.le_trans I.ok.bsz I.ok.above)
theorem Inv.stkSub (I : Inv X pins σ H s) : ∀ b ∈ frs X.stack, b ∈ X.env.locals :: X.fs := fun b hb => by
 rcases I.ok.stk with e | ⟨e, hf⟩
 ·rw [e] at hb; exact List.mem_cons_of_mem _ hb
 ·rw [e] at hb
  unfold frs at hb
  rw [List.filterMap_cons, hf] at hb
  exact hb
theorem Inv.stkFree (I : Inv X pins σ H s) : ∀ b ∈ frs X.stack, H b = none := fun b hb => by
 rcases List.mem_cons.mp (I.stkSub b hb) with e | hb
 ·rw [e]; exact I.free
 ·obtain ⟨_, o, ho, _⟩ := I.ok.funs.mem hb
  exact I.base.free b o ho (I.ok.frf b hb) fun z => I.ok.exfs b z hb
theorem Inv.step {g' : Array GenState} {t' : Nat} {d' : Drawn} {ch : List Addr} (I : Inv X pins σ H s)
  (hch : ∀ b ∈ ch, (b ∈ X.ex ∨ X.s₀.heap.objs.size ≤ b) ∧ b ≠ X.env.locals ∧ (∀ x c, X.env.cells.lookup x = some c → c ≠ b) ∧ ∀ p ∈ X.pn ++ pins, p.1 ≠ b)
  (keep : ∀ b o, b ≠ X.env.locals → b ∉ X.fs → b ∉ ch → s.heap.get? b = some o → H b = none → h'.get? b = some o)
  (slot : ∀ b o, b ≠ X.env.locals → b ∈ X.fs → b ∉ ch → s.heap.get? b = some o → H b = none → ∃ sl, h'.get? b = some { o with slots := sl }) (free : ∀ b o, b ∉ ch → s.heap.get? b = some o → H b = none → H' b = none)
  (there : ∀ b o, b ∉ ch → s.heap.get? b = some o → ∃ o', h'.get? b = some o')
  (tups : ∀ b xs, H b = some (.tup xs) → H' b = some (.tup xs)) (frzs : ∀ b o u, H b = some (.frz o u) → H' b = some (.frz o u)) (tbls : ∀ b ps, H b = some (.tbl ps) → ∃ more, H' b = some (.tbl (ps ++ more)))
  (ns : ∀ m, s.heap.Ns X.env.locals m → h'.Ns X.env.locals m) (hok : HOk X.prog X.w H' h') (hg : AllBare g') :
  Inv X pins σ H' { s with heap := h', gens := g', drawn := d', toks := t' } := by
 have neL : ∀ b o, X.s₀.heap.get? b = some o → b ≠ X.env.locals := fun b o e => Nat.ne_of_lt (Nat.lt_of_lt_of_le (Heap.lt_size e) I.ok.above)
 have neC : ∀ b o, X.s₀.heap.get? b = some o → b ∉ X.ex → b ∉ ch := fun b o e hx hb => by
  rcases (hch b hb).1 with z | z
  ·exact hx z
  ·exact absurd (Nat.lt_of_lt_of_le (Heap.lt_size e) z) (Nat.lt_irrefl _)
 have cellK : ∀ x c, X.env.cells.lookup x = some c → ∀ v, s.heap.IsCell c v → h'.IsCell c v := fun x c e v ⟨o, ho, hd⟩ => by
  have nch : c ∉ ch := fun z => (hch c z).2.2.1 x c e rfl
  by_cases hc : c ∈ X.fs
  ·obtain ⟨sl, q⟩ := slot c o (I.cne x c e) hc nch ho (I.freeC x c e)
   exact ⟨_, q, hd⟩
  ·exact ⟨o, keep c o (I.cne x c e) hc nch ho (I.freeC x c e), hd⟩
 refine ⟨I.ok, I.os, hg, ⟨fun b o e n hb hx => ?_, fun b o e n hb hx => ?_, fun b o e n hx => ?_, fun b o e hx => ?_, fun b xs e => tups b xs (I.base.tups b xs e), fun b o xs e => frzs b o xs (I.base.frzs b o xs e), fun b ps e => ?_⟩, ?_, fun x c e => ?_, ?_, fun x c e => ?_, fun p hp => ?_, hok, I.len⟩
 ·exact keep b o (neL b o e) hb (neC b o e hx) (I.base.keep b o e n hb hx) (I.base.free b o e n hx)
 ·obtain ⟨sl, e1⟩ := I.base.slot b o e n hb hx
  obtain ⟨sl', e2⟩ := slot b _ (neL b o e) hb (neC b o e hx) e1 (I.base.free b o e n hx)
  exact ⟨sl', e2⟩
 ·obtain ⟨o', e1⟩ := I.base.there b o e hx
  exact free b o' (neC b o e hx) e1 (I.base.free b o e n hx)
 ·obtain ⟨o', e1⟩ := I.base.there b o e hx
  exact there b o' (neC b o e hx) e1
 ·obtain ⟨m1, e1⟩ := I.base.tbls b ps e
  obtain ⟨m2, e2⟩ := tbls b _ e1
  exact ⟨m1 ++ m2, by rw [e2, Array.append_assoc]⟩
 ·obtain ⟨m, hn, hl⟩ := I.loc
  refine ⟨m, ns m hn, fun i x v e1 e2 e3 => ?_⟩
  obtain ⟨u, r, l⟩ := hl i x v e1 e2 e3
  refine ⟨u, r, ?_⟩
  rcases l with l | ⟨k, c, e, z⟩
  ·exact .inl l
  ·exact .inr ⟨k, c, e, cellK x c e _ z⟩
 ·obtain ⟨v, z⟩ := I.cell x c e
  exact ⟨v, cellK x c e v z⟩
 ·obtain ⟨m, ⟨o, _, _, ho, _⟩, _⟩ := I.loc
  exact free _ o (fun z => (hch _ z).2.1 rfl) ho I.free
 ·obtain ⟨v, o, ho, hd⟩ := I.cell x c e
  exact free c o (fun z => (hch c z).2.2.1 x c e rfl) ho (I.freeC x c e)
 ·obtain ⟨e, n, ne, nf, d⟩ := I.pin p hp
  have nch : p.1 ∉ ch := fun z => (hch p.1 z).2.2.2 p hp rfl
  exact ⟨keep p.1 p.2 ne nf nch e n, free p.1 p.2 nch e n, ne, nf, d⟩
theorem Inv.un {t' : Nat} (I : Inv X pins σ H s) (u : Un X.fs [] H H' s.heap h') (hok : HOk X.prog X.w H' h') : Inv X pins σ H' { s with heap := h', toks := t' } := by
 obtain ⟨m, ⟨o, es, ep, ho, r⟩, _⟩ := id I.loc
 obtain ⟨sl, hL⟩ := u.any ho I.free (by simp)
 exact I.step (g' := s.gens) (d' := s.drawn) (ch := []) (fun _ z => nomatch z) (fun b o _ hb _ e n => u.keep b o e n hb (by simp)) (fun b o _ hb _ e n => u.slot b o e n hb (by simp)) (fun b o _ e n => u.free b o e n (by simp)) (fun b o _ e => u.there b o e (by simp)) u.tups u.frzs u.tbls (fun m' hm => by
  obtain ⟨o', es', ep', ho', r'⟩ := hm
  rw [ho] at ho'; cases ho'
  exact ⟨_, es', ep', hL, r'⟩) hok I.bare
theorem Inv.call {g' : Array GenState} {t' : Nat} {d' : Drawn} {ch : List Addr} (I : Inv X pins σ H s) (u : Un (frs X.stack) ch H H' s.heap h') (hok : HOk X.prog X.w H' h') (hg : AllBare g')
  (hch : ∀ b ∈ ch, (b ∈ X.ex ∨ X.s₀.heap.objs.size ≤ b) ∧ b ≠ X.env.locals ∧ (∀ x c, X.env.cells.lookup x = some c → c ≠ b) ∧ ∀ p ∈ X.pn ++ pins, p.1 ≠ b) :
  Inv X pins σ H' { s with heap := h', gens := g', drawn := d', toks := t' } := by
 obtain ⟨m, ⟨o, es, ep, ho, r⟩, _⟩ := id I.loc
 obtain ⟨sl, hL⟩ := u.any ho I.free fun z => (hch _ z).2.1 rfl
 exact I.step (ch := ch) hch (fun b o hL hb hc e n => u.keep b o e n (fun z => (List.mem_cons.mp (I.stkSub b z)).elim hL hb) hc) (fun b o _ _ hc e n => u.any e n hc) (fun b o hc e n => u.free b o e n hc) (fun b o hc e => u.there b o e hc) u.tups u.frzs u.tbls (fun m' hm => by
  obtain ⟨o', es', ep', ho', r'⟩ := hm
  rw [ho] at ho'; cases ho'
  exact ⟨_, es', ep', hL, r'⟩) hok hg
theorem Inv.turned {t' : Nat} {it : Addr} (I : Inv X pins σ H s) (k : ∀ b o, b ≠ it → s.heap.get? b = some o → h'.get? b = some o) (hn : H it = none) (hL : it ≠ X.env.locals)
  (h1 : it ∈ X.ex ∨ X.s₀.heap.objs.size ≤ it) (h2 : ∀ x c, X.env.cells.lookup x = some c → c ≠ it) (h3 : ∀ p ∈ X.pn ++ pins, p.1 ≠ it) : Inv X pins σ H { s with heap := h', toks := t' } := by
 have nit : ∀ b u, H b = some u → b ≠ it := fun b u e z => by rw [z, hn] at e; cases e
 refine I.step (g' := s.gens) (d' := s.drawn) (ch := [it]) (fun b hb => ?_) (fun b o _ _ hc e _ => k b o (fun z => hc (by simp [z])) e) (fun b o _ _ hc e _ => ⟨o.slots, k b o (fun z => hc (by simp [z])) e⟩) (fun _ _ _ _ n => n)
  (fun b o hc e => ⟨o, k b o (fun z => hc (by simp [z])) e⟩) (fun _ _ e => e) (fun _ _ _ e => e) (fun b ps e => ⟨#[], by rw [e]; simp⟩) (fun m hm => ?_) (fun b u e => ?_) I.bare
 ·have e : b = it := by simpa using hb
  subst e
  exact ⟨h1, hL, h2, h3⟩
 ·obtain ⟨o, es, ep, ho, r⟩ := hm
  exact ⟨o, es, ep, k _ o (Ne.symm hL) ho, r⟩
 ·refine (I.hok b u e).stay (fun c v hc q => k c v ?_ q) (fun _ q => q) fun _ _ q => q
  rcases hc with z | z
  ·rw [z]; exact nit b u e
  ·exact nit c _ z
theorem Inv.tok (I : Inv X pins σ H s) (t : Nat) : Inv X pins σ H { s with toks := t } := I.un (h' := s.heap) (t' := t) Un.refl I.hok
theorem Inv.kept {t' : Nat} (I : Inv X pins σ H s) (k : ∀ b u, s.heap.get? b = some u → h'.get? b = some u) : Inv X pins σ H { s with heap := h', toks := t' } := I.un (Un.kept k) (I.hok.kept k)
theorem Inv.laid {a : Addr} {o : HO} {t' : Nat} (I : Inv X pins σ H s) (k : ∀ b u, s.heap.get? b = some u → h'.get? b = some u) (hp : s.heap.objs.size ≤ a) (new : ObjOk X.prog X.w (upd H a o) h' a o) :
  Inv X pins σ (upd H a o) { s with heap := h', toks := t' } := I.un (Un.laid k hp (I.hok.fresh hp)) (I.hok.laid k hp new)
theorem Inv.write {x e : Addr} {o : HO} {t' : Nat} (I : Inv X pins σ H s) (mu : Mut (H x)) (he : e = x ∨ H e = some (.own x)) (k : ∀ b u, b ≠ e → s.heap.get? b = some u → h'.get? b = some u) (heo : ∃ u, h'.get? e = some u)
  (new : ObjOk X.prog X.w (upd H x o) h' x o) : Inv X pins σ (upd H x o) { s with heap := h', toks := t' } := I.un (Un.write mu he k heo) (I.hok.write mu he k heo new)
theorem Inv.pins_of {pins' : List (Addr × Obj)} (I : Inv X pins σ H s) (h : ∀ p ∈ pins', s.heap.get? p.1 = some p.2 ∧ H p.1 = none ∧ p.1 ≠ X.env.locals ∧ p.1 ∉ X.fs ∧ ∀ v, p.2.data ≠ .cell v) : Inv X pins' σ H s :=
 ⟨I.ok, I.os, I.bare, I.base, I.loc, I.cell, I.free, I.freeC, fun p hp => (List.mem_append.mp hp).elim (fun z => I.pin p (List.mem_append_left _ z)) (h p), I.hok, I.len⟩
theorem nodup_ix {N : List Str} (hN : N.Nodup) {i j : Nat} {x : Str} (a : N[i]? = some x) (b : N[j]? = some x) : i = j := by
 obtain ⟨h1, e1⟩ := List.getElem?_eq_some_iff.mp a
 obtain ⟨h2, e2⟩ := List.getElem?_eq_some_iff.mp b
 exact (List.getElem_inj hN).mp (e1.trans e2.symm)
theorem store_ok2 {M : Model} {A : Around} {E : Value → Shared → Prop} {i : Nat} {x : Str} {v : V} {u : Value} {Q : Unit → Shared → Prop} (I : Inv X pins σ H s) (hN : X.N.Nodup) (hi : X.N[i]? = some x) (hx : Loc X.env.scope x) (r : RelV v u)
  (h : ∀ s', Inv X pins (σ.set i (some v)) H s' → (∃ a, Heap.SameBut a s.heap s'.heap ∧ (a = X.env.locals ∨ X.env.cells.lookup x = some a)) → Q () s') (hf : X.fn x = true ∨ X.env.scope.names.lookup x = some .local := by first | exact .inl rfl | exact .inr rfl | assumption) : wpAny M A (storeName X.env x u) Q E s := by
 obtain ⟨m, hn, hl⟩ := id I.loc
 have hcls : (X.env.scope.kind == .class || (X.env.scope.kind == .module && X.env.locals != X.env.globals)) = false := by rw [I.ok.kind]; rfl
 have hiσ : i < σ.length := by rw [I.len]; exact (List.getElem?_eq_some_iff.mp hi).1
 have cne := I.cne
 have tracked : ∀ {a : Addr} {h' : Heap}, (∃ o, s.heap.get? a = some o ∧ H a = none) → Heap.SameBut a s.heap h' → HOk X.prog X.w H h' := fun {a h'} ha hs b ob e => by
  obtain ⟨_, _, hfree⟩ := ha
  refine (I.hok b ob e).stay (fun c w' hc q => (hs.2 c ?_).trans q) (fun _ q => q) fun _ _ q => q
  rintro rfl
  rcases hc with rfl | hc
  ·rw [hfree] at e; cases e
  ·rw [hfree] at hc; cases hc
 rcases hx with hk | hk
 ·refine wpAny_storeName_local hk hn (fun h' hn' hs => ?_) hcls
  obtain ⟨oL, _, _, hoL, _⟩ := id hn
  refine h _ ⟨I.ok, I.os, I.bare, ⟨fun b o e n hb hx => ?_, fun b o e n hb hx => ?_, I.base.free, fun b o e hx => ?_, I.base.tups, I.base.frzs, I.base.tbls⟩, ⟨_, hn', fun j y v' e1 e2 e3 => ?_⟩, fun y c e => ?_, I.free, I.freeC, fun p hp => ?_, tracked ⟨oL, hoL, I.free⟩ hs, by simpa using I.len⟩ ⟨_, hs, .inl rfl⟩
  ·exact (hs.2 b (Nat.ne_of_lt (Nat.lt_of_lt_of_le (Heap.lt_size e) I.ok.above))).trans (I.base.keep b o e n hb hx)
  ·obtain ⟨sl, e1⟩ := I.base.slot b o e n hb hx
   exact ⟨sl, (hs.2 b (Nat.ne_of_lt (Nat.lt_of_lt_of_le (Heap.lt_size e) I.ok.above))).trans e1⟩
  ·obtain ⟨o', e1⟩ := I.base.there b o e hx
   exact ⟨o', (hs.2 b (Nat.ne_of_lt (Nat.lt_of_lt_of_le (Heap.lt_size e) I.ok.above))).trans e1⟩
  ·by_cases hj : j = i
   ·subst hj
    rw [hi] at e1; cases e1
    rw [List.getElem?_set_self hiσ] at e2
    cases e2
    exact ⟨u, r, .inl ⟨hk, by simp⟩⟩
   ·rw [List.getElem?_set_ne (Ne.symm hj)] at e2
    obtain ⟨u', r', q⟩ := hl j y v' e1 e2 e3
    refine ⟨u', r', ?_⟩
    rcases q with ⟨k, e⟩ | ⟨k, c, e, z⟩
    ·refine .inl ⟨k, ?_⟩
     have : y ≠ x := fun e => hj (nodup_ix hN e1 (e ▸ hi))
     simp [this, e]
    ·exact .inr ⟨k, c, e, z.sameBut hs (cne y c e)⟩
  ·obtain ⟨w', z⟩ := I.cell y c e
   exact ⟨w', z.sameBut hs (cne y c e)⟩
  ·obtain ⟨e, n, ne, nf, d⟩ := I.pin p hp
   exact ⟨(hs.2 p.1 ne).trans e, n, ne, nf, d⟩
 ·have hfn : X.fn x = true := by
   rcases hf with z | z
   ·exact z
   ·rw [z] at hk; cases hk
  obtain ⟨c, hc⟩ := I.ok.has x (.inl hk)
  obtain ⟨w', z⟩ := I.cell x c hc
  refine wpAny_storeName_cell I.ok.kind hk hc z (fun h' hc' hs => ?_)
  obtain ⟨oc, hoc, hocd⟩ := id z
  refine h { s with heap := h' } ⟨I.ok, I.os, I.bare, ⟨fun b o e n hb hx => ?_, fun b o e n hb hx => ?_, I.base.free, fun b o e hx => ?_, I.base.tups, I.base.frzs, I.base.tbls⟩, ⟨m, hn.sameBut hs (Ne.symm (cne x c hc)), fun j y v' e1 e2 e3 => ?_⟩, fun y c' e => ?_, I.free, I.freeC, fun p hp => ?_, tracked ⟨oc, hoc, I.freeC x c hc⟩ hs, by simpa using I.len⟩ ⟨c, hs, .inr hc⟩
  ·exact (hs.2 b (Nat.ne_of_lt (Nat.lt_of_lt_of_le (Heap.lt_size e) (I.ok.cab x c hfn hc)))).trans (I.base.keep b o e n hb hx)
  ·obtain ⟨sl, e1⟩ := I.base.slot b o e n hb hx
   exact ⟨sl, (hs.2 b (Nat.ne_of_lt (Nat.lt_of_lt_of_le (Heap.lt_size e) (I.ok.cab x c hfn hc)))).trans e1⟩
  ·obtain ⟨o', e1⟩ := I.base.there b o e hx
   exact ⟨o', (hs.2 b (Nat.ne_of_lt (Nat.lt_of_lt_of_le (Heap.lt_size e) (I.ok.cab x c hfn hc)))).trans e1⟩
  ·by_cases hj : j = i
   ·subst hj
    rw [hi] at e1; cases e1
    rw [List.getElem?_set_self hiσ] at e2
    cases e2
    exact ⟨u, r, .inr ⟨.inl hk, c, hc, hc'⟩⟩
   ·rw [List.getElem?_set_ne (Ne.symm hj)] at e2
    obtain ⟨u', r', q⟩ := hl j y v' e1 e2 e3
    refine ⟨u', r', ?_⟩
    rcases q with q | ⟨k, c', e, z'⟩
    ·exact .inl q
    ·refine .inr ⟨k, c', e, z'.sameBut hs ?_⟩
     rintro rfl
     exact hj (nodup_ix hN e1 (I.ok.inj _ _ _ e hc ▸ hi))
  ·by_cases hcc : c' = c
   ·subst hcc; exact ⟨_, hc'⟩
   ·obtain ⟨w2, z2⟩ := I.cell y c' e
    exact ⟨w2, z2.sameBut hs hcc⟩
  ·obtain ⟨e, n, ne, nf, d⟩ := I.pin p hp
   refine ⟨(hs.2 p.1 ?_).trans e, n, ne, nf, d⟩
   intro q
   rw [q, hoc] at e
   have q' : oc = p.2 := Option.some.inj e
   exact d w' (by rw [← q']; exact hocd)
theorem store_ok {M : Model} {A : Around} {E : Value → Shared → Prop} {i : Nat} {x : Str} {v : V} {u : Value} {Q : Unit → Shared → Prop} (I : Inv X pins σ H s) (hN : X.N.Nodup) (hi : X.N[i]? = some x) (hx : Loc X.env.scope x) (r : RelV v u)
  (h : ∀ s', Inv X pins (σ.set i (some v)) H s' → Q () s') (hf : X.fn x = true ∨ X.env.scope.names.lookup x = some .local := by first | exact .inl rfl | exact .inr rfl | assumption) : wpAny M A (storeName X.env x u) Q E s :=
 store_ok2 I hN hi hx r (fun s' I' _ => h s' I') hf
theorem Inv.call' {s' : Shared} {ch : List Addr} (I : Inv X pins σ H s) (ho : s'.os = s.os) (u : Un (frs X.stack) ch H H' s.heap s'.heap) (hok : HOk X.prog X.w H' s'.heap) (hg : AllBare s'.gens)
  (hch : ∀ b ∈ ch, (b ∈ X.ex ∨ X.s₀.heap.objs.size ≤ b) ∧ b ≠ X.env.locals ∧ (∀ x c, X.env.cells.lookup x = some c → c ≠ b) ∧ ∀ p ∈ X.pn ++ pins, p.1 ≠ b) : Inv X pins σ H' s' := by
 obtain ⟨h', g', d', t', o'⟩ := s'
 have e : o' = s.os := ho
 subst e
 exact I.call (g' := g') (t' := t') (d' := d') u hok hg hch
end
abbrev XK := Value → Option Addr → Hp → Prop
abbrev St := List (Option V)
abbrev VK := V → Hp → Prop
abbrev TE := St → Hp → VK → Prop
abbrev TT := St → Hp → (Bool → Hp → Prop) → Prop
abbrev TA := St → Hp → (List V → Hp → Prop) → Prop
structure Ends where
 nx : St → Hp → Prop
 rt : VK
 bk : St → Hp → Prop := fun _ _ => False
 ct : St → Hp → Prop := fun _ _ => False
abbrev TS := Ends → St → Hp → Prop
def EP (X : Cx) (pins : List (Addr × Obj)) (σ : St) (Q : VK) (u : Value) (s' : Shared) : Prop := ∃ v H', Inv X pins σ H' s' ∧ RelV v u ∧ Q v H'
def TP (X : Cx) (pins : List (Addr × Obj)) (σ : St) (Q : Bool → Hp → Prop) (b : Bool) (s' : Shared) : Prop := ∃ H', Inv X pins σ H' s' ∧ Q b H'
def AP (X : Cx) (pins : List (Addr × Obj)) (σ : St) (Q : List V → Hp → Prop) (us : List Value) (s' : Shared) : Prop := ∃ vs H', Inv X pins σ H' s' ∧ Vals vs us ∧ Q vs H'
def SP (X : Cx) (pins : List (Addr × Obj)) (D : Ends) (f : Flow) (s' : Shared) : Prop :=
 match f with
 | .next => ∃ σ' H', Inv X pins σ' H' s' ∧ D.nx σ' H'
 | .brk => ∃ σ' H', Inv X pins σ' H' s' ∧ D.bk σ' H'
 | .cont => ∃ σ' H', Inv X pins σ' H' s' ∧ D.ct σ' H'
 | .ret u => ∃ v σ' H', Inv X pins σ' H' s' ∧ RelV v u ∧ D.rt v H'
def PE (X : Cx) (e : Expr) (t : TE) : Prop :=
 ∀ (pins : List (Addr × Obj)) (s : Shared) (σ : St) (H : Hp) (Q : VK), Inv X pins σ H s → t σ H Q → wpAny (model X.prog X.w) X.A (eval e X.env) (EP X pins σ Q) X.xe s
def PT (X : Cx) (e : Expr) (t : TT) : Prop :=
 ∀ (pins : List (Addr × Obj)) (s : Shared) (σ : St) (H : Hp) (Q : Bool → Hp → Prop), Inv X pins σ H s → t σ H Q → wpAny (model X.prog X.w) X.A (isTrue e X.env (eval e X.env)) (TP X pins σ Q) X.xe s
def PW (X : Cx) (e : Expr) (t : TT) : Prop :=
 ∀ (whole : Sem Value) (pins : List (Addr × Obj)) (s : Shared) (σ : St) (H : Hp) (Q : Bool → Hp → Prop), Inv X pins σ H s → t σ H Q → wpAny (model X.prog X.w) X.A (isTrue e X.env whole) (TP X pins σ Q) X.xe s
theorem PW.pt {X : Cx} {e : Expr} {t : TT} (h : PW X e t) : PT X e t := h _
def PA (X : Cx) (es : List Expr) (t : TA) : Prop :=
 ∀ (pos : Pos) (pins : List (Addr × Obj)) (s : Shared) (σ : St) (H : Hp) (Q : List V → Hp → Prop), Inv X pins σ H s → t σ H Q → wpAny (model X.prog X.w) X.A (spliced (backTo pos (starEach es X.env))) (AP X pins σ Q) X.xe s
def PS (X : Cx) (st : Stmt) (t : TS) : Prop :=
 ∀ (pins : List (Addr × Obj)) (s : Shared) (σ : St) (H : Hp) (D : Ends), Inv X pins σ H s → t D σ H → wpAny (model X.prog X.w) X.A (exec st X.env) (SP X pins D) X.xe s
def PSs (X : Cx) (st : List Stmt) (t : TS) : Prop :=
 ∀ (pins : List (Addr × Obj)) (s : Shared) (σ : St) (H : Hp) (D : Ends), Inv X pins σ H s → t D σ H → wpAny (model X.prog X.w) X.A (execs st X.env) (SP X pins D) X.xe s
theorem thn {α : Type} {t : Sem α} {Q Q' : α → Shared → Prop} {M : Model} {A : Around} {E : Value → Shared → Prop} {s : Shared} (h : wpAny M A t Q E s) (hQ : ∀ a s, Q a s → Q' a s) : wpAny M A t Q' E s := wpAny_mono h hQ fun _ _ x => x
end L2
namespace L2
open PySem PySem.Spec PyProof.Rows
section
variable {X : Cx}
def tVar (i : Nat) : TE := fun σ H Q => ∃ v, σ[i]? = some (some v) ∧ Q v H
def tC (v : V) : TE := fun _ H Q => Q v H
theorem pe_var {i : Nat} {x : Str} {pos : Pos} (hN : X.N[i]? = some x) (hv : Vis X.env.scope x) (hd : (x == ("__debug__" : Str)) = false := by decide) (hcd : (x == ("__classdict__" : Str)) = false := by decide) : PE X (.Name x pos) (tVar i) := by
 intro pins s σ H Q I h
 obtain ⟨v, e, h⟩ := h
 obtain ⟨m, hn, hl⟩ := I.loc
 obtain ⟨u, r, l⟩ := hl i x v hN e hv
 have fin : EP X pins σ Q u s := ⟨v, H, I, r, h⟩
 rcases l with ⟨hk, hm⟩ | ⟨hk, c, hc, hcell⟩
 ·exact wpAny_Name (wpAny_loadName_local I.ok.kind hk hn hm fin) hd
 ·rcases hk with hk | hk
  ·exact wpAny_Name (wpAny_loadName_cell I.ok.kind hk hc hcell fin) hd
  ·exact wpAny_Name (wpAny_loadName_free I.ok.kind hk hc hcell fin hcd) hd
theorem pe_int {i j pos} : PE X (.Constant (.int i) j pos) (tC (.int i)) := fun _ _ _ H _ I h => wpAny_Constant_int ⟨.int i, H, I.tok _, ⟨_, rfl⟩, h⟩
theorem pe_bl {b j pos} : PE X (.Constant (.bool b) j pos) (tC (.bl b)) := fun _ _ _ H _ I h => Constant_bool ⟨.bl b, H, I, rfl, h⟩
theorem pe_non {j pos} : PE X (.Constant .none j pos) (tC .non) := fun _ _ _ H _ I h => Constant_none ⟨.non, H, I, rfl, h⟩
theorem pe_str {x j pos} : PE X (.Constant (.str x) j pos) (tC (.str x)) := fun _ _ _ H _ I h => Calls.Constant_str ⟨.str x, H, I.tok _, ⟨_, rfl⟩, h⟩
def Gl (X : Cx) (x : Str) : Prop := X.env.kindOf x = some .globalImplicit
theorem ld_glob {E : Value → Shared → Prop} {pins : List (Addr × Obj)} {s : Shared} {σ : St} {H : Hp} {x : Str} {u : Value} {pos : Pos} {Q : Value → Shared → Prop} (I : Inv X pins σ H s) (hg : Gl X x) (hm : X.mg x = some u) (h : Q u s)
  (hd : (x == ("__debug__" : Str)) = false := by decide) : wpAny (model X.prog X.w) X.A (eval (.Name x pos) X.env) Q E s :=
 Calls.Name_function_global I.ok.kind hg (Calls.loadGlobal_global (by rw [I.ok.glob]; exact I.mod.glob.keeps I.bk) hm h) hd
theorem ld_blt {E : Value → Shared → Prop} {pins : List (Addr × Obj)} {s : Shared} {σ : St} {H : Hp} {x : Str} {u : Value} {pos : Pos} {Q : Value → Shared → Prop} (I : Inv X pins σ H s) (hg : Gl X x) (hm : X.mg x = none) (hv : bootBuiltins x = some u) (h : Q u s)
  (hn : x ≠ "__name__" := by decide) (hd : (x == ("__debug__" : Str)) = false := by decide) : wpAny (model X.prog X.w) X.A (eval (.Name x pos) X.env) Q E s := by
 obtain ⟨mb, h1, h2⟩ := I.mod.blt
 exact Calls.Name_function_global I.ok.kind hg (Calls.loadGlobal_builtin (by rw [I.ok.glob]; exact I.mod.glob.keeps I.bk) hm (by rw [I.ok.blt]; exact h1.keeps I.bk) ((h2 x hn).trans hv) h) hd
theorem pe_glob {x : Str} {v : V} {u : Value} {pos : Pos} (hg : Gl X x) (hm : X.mg x = some u) (r : RelV v u) (hd : (x == ("__debug__" : Str)) = false := by decide) : PE X (.Name x pos) (tC v) :=
 fun _ _ _ H _ I h => ld_glob I hg hm ⟨v, H, I, r, h⟩ hd
theorem pe_bltn {x : Str} {v : V} {u : Value} {pos : Pos} (hg : Gl X x) (hm : X.mg x = none) (hv : bootBuiltins x = some u) (r : RelV v u) (hn : x ≠ "__name__" := by decide) (hd : (x == ("__debug__" : Str)) = false := by decide) : PE X (.Name x pos) (tC v) :=
 fun _ _ _ H _ I h => ld_blt I hg hm hv ⟨v, H, I, r, h⟩ hn hd
def t2I (ta tb : TE) (k : Int → Int → Hp → Prop) : St → Hp → Prop := fun σ H => ta σ H fun x H1 => tb σ H1 fun y H2 => ∃ i j, x = .int i ∧ y = .int j ∧ k i j H2
def tAdd (ta tb : TE) : TE := fun σ H Q => t2I ta tb (fun i j H2 => Q (.int (i + j)) H2) σ H
def tSub (ta tb : TE) : TE := fun σ H Q => t2I ta tb (fun i j H2 => Q (.int (i - j)) H2) σ H
def tMul (ta tb : TE) : TE := fun σ H Q => t2I ta tb (fun i j H2 => (-(2 ^ 64) < i ∧ i < 2 ^ 64) ∧ Q (.int (i * j)) H2) σ H
variable {a b : Expr} {ta tb : TE} {pos : Pos}
def PC (X : Cx) (op : CmpOp) (a b : Expr) (t : TE) : Prop :=
 ∀ (pins : List (Addr × Obj)) (s : Shared) (σ : St) (H : Hp) (Q : VK), Inv X pins σ H s → t σ H Q →
  wpAny (model X.prog X.w) X.A (eval a X.env) (fun v s₁ => wpAny (model X.prog X.w) X.A (eval b X.env) (fun u s₂ => wpAny (model X.prog X.w) X.A (compareOp op v u) (EP X pins σ Q) X.xe s₂) X.xe s₁) X.xe s
def tCmp (p : Int → Int → Bool) (ta tb : TE) : TE := fun σ H Q => t2I ta tb (fun i j H2 => Q (.bl (p i j)) H2) σ H
abbrev tLt : TE → TE → TE := tCmp fun i j => decide (i < j)
abbrev tLe : TE → TE → TE := tCmp fun i j => decide (i ≤ j)
abbrev tGt : TE → TE → TE := tCmp fun i j => decide (j < i)
abbrev tGe : TE → TE → TE := tCmp fun i j => decide (j ≤ i)
abbrev tEqI : TE → TE → TE := tCmp fun i j => decide (i = j)
abbrev tNeI : TE → TE → TE := tCmp fun i j => !decide (i = j)
def tIsN (ta : TE) : TE := fun σ H Q => ta σ H fun x H1 => Q (.bl (decide (x = .non))) H1
def tNotN (ta : TE) : TE := fun σ H Q => ta σ H fun x H1 => Q (.bl (!decide (x = .non))) H1
def tB (t : TE) : TT := fun σ H Q => t σ H fun x H1 => ∃ c, x = .bl c ∧ Q c H1
theorem pt_cmp {op : CmpOp} {t : TE} (h : PC X op a b t) (h1 : behindInMarks op b = false := by first | exact nobehind _ (by decide) (by decide) | rfl) : PT X (.Compare a [op] [b] pos) (tB t) := by
 intro pins s σ H Q I hw
 refine wpAny_isTrue_Compare1 (thn (h pins s σ H _ I hw) fun v s1 h1 => thn h1 fun u s2 h2 => thn h2 fun c s3 ⟨x, H1, I1, r1, q1⟩ => ?_) h1
 obtain ⟨d, rfl, q⟩ := q1
 cases r1
 exact wpAny_truthy_bool ⟨H1, I1, q⟩
theorem pt_val {e : Expr} {t : TE} (h : PE X e t) (he : ∀ whole, isTrue e X.env whole = (do let v ← whole; standAt e.pos; holding [v] (truthy v)) := by intro _; rfl) : PT X e (tB t) := by
 intro pins s σ H Q I hw
 refine isTrue_plain (thn (h pins s σ H _ I hw) fun v s1 ⟨x, H1, I1, r1, q1⟩ => ?_) (he _)
 obtain ⟨d, rfl, q⟩ := q1
 cases r1
 exact wpAny_truthy_bool ⟨H1, I1, q⟩
variable {tA tB' : TT} {rest : List Expr}
def tAnd (t u : TT) : TT := fun σ H Q => t σ H fun c H1 => if c = true then u σ H1 Q else Q false H1
def tOr (t u : TT) : TT := fun σ H Q => t σ H fun c H1 => if c = true then Q true H1 else u σ H1 Q
def tNot (t : TT) : TT := fun σ H Q => t σ H fun c H1 => Q (!c) H1
theorem pw_and1 (ha : PT X a tA) : PW X (.BoolOp .And [a] pos) tA := by
 intro wh pins s σ H Q I h
 refine isTrue_and (thn (ha pins s σ H Q I h) fun c s1 e => ?_)
 cases c with
 | true => exact isTrue_and_nil e
 | false => exact e
theorem pw_or1 (ha : PT X a tA) : PW X (.BoolOp .Or [a] pos) tA := by
 intro wh pins s σ H Q I h
 refine isTrue_or (thn (ha pins s σ H Q I h) fun c s1 e => ?_)
 cases c with
 | false => exact isTrue_or_nil e
 | true => exact e
theorem pw_and (ha : PT X a tA) (hb : PW X (.BoolOp .And (b :: rest) pos) tB') : PW X (.BoolOp .And (a :: b :: rest) pos) (tAnd tA tB') := by
 intro wh pins s σ H Q I h
 refine isTrue_and (thn (ha pins s σ H _ I h) fun c s1 ⟨H1, I1, q1⟩ => ?_)
 cases c with
 | true => exact hb wh pins s1 σ H1 Q I1 q1
 | false => exact ⟨H1, I1, q1⟩
theorem pw_or (ha : PT X a tA) (hb : PW X (.BoolOp .Or (b :: rest) pos) tB') : PW X (.BoolOp .Or (a :: b :: rest) pos) (tOr tA tB') := by
 intro wh pins s σ H Q I h
 refine isTrue_or (thn (ha pins s σ H _ I h) fun c s1 ⟨H1, I1, q1⟩ => ?_)
 cases c with
 | true => exact ⟨H1, I1, q1⟩
 | false => exact hb wh pins s1 σ H1 Q I1 q1
theorem pt_not (ha : PT X a tA) : PT X (.UnaryOp .Not a pos) (tNot tA) := by
 intro pins s σ H Q I h
 exact isTrue_not (ha pins s σ H (fun c H1 => Q (!c) H1) I h)
def tAndV (ta tb : TE) : TE := fun σ H Q => ta σ H fun x H1 => ∃ c, x = .bl c ∧ if c = true then tb σ H1 Q else Q (.bl false) H1
def tOrV (ta tb : TE) : TE := fun σ H Q => ta σ H fun x H1 => ∃ c, x = .bl c ∧ if c = true then Q (.bl true) H1 else tb σ H1 Q
def tNotV (ta : TE) : TE := fun σ H Q => ta σ H fun x H1 => ∃ c, x = .bl c ∧ Q (.bl (!c)) H1
def tIf (t : TT) (ta tb : TE) : TE := fun σ H Q => t σ H fun c H1 => if c = true then ta σ H1 Q else tb σ H1 Q
theorem pe_ifExp {c : Expr} (hc : PT X c tA) (ha : PE X a ta) (hb : PE X b tb) : PE X (.IfExp c a b pos) (tIf tA ta tb) := by
 intro pins s σ H Q I h
 refine wpAny_IfExp (thn (hc pins s σ H _ I h) fun d s1 ⟨H1, I1, q1⟩ => ?_)
 cases d with
 | true => exact ha pins s1 σ H1 Q I1 q1
 | false => exact hb pins s1 σ H1 Q I1 q1
end
end L2
namespace L2
open PySem PySem.Spec PyProof.Rows
def SqL (K : Frag) (H : Hp) (a : Addr) (xs : List V) : Prop :=
 Rd H a (.lst xs) ∨
  ∃ (o : Obj) (its : Array Value) (n : Nat), K.lookup a = some o ∧ o.cls = .type "list" ∧ o.dict = none ∧ o.data = .seq its n ∧ its.size ≤ sizeLine ∧ Vals xs its.toList
def SqT (K : Frag) (H : Hp) (a : Addr) (xs : List V) : Prop :=
 Rd H a (.tup xs) ∨
  ∃ (o : Obj) (its : Array Value) (n : Nat), K.lookup a = some o ∧ o.cls = .type "tuple" ∧ o.data = .seq its n ∧ its.size ≤ sizeLine ∧ Vals xs its.toList
def absV : Value → Option V
 | .none => some .non
 | .bool b => some (.bl b)
 | .int i _ => some (.int i)
 | .str x _ => some (.str x)
 | .bytes b _ => some (.byt b)
 | .float b _ => some (.flt b)
 | .ref a => some (.ref a)
 | .type n => some (.ty n)
 | _ => none
theorem RelV.abs {x : V} {u : Value} (r : RelV x u) : absV u = some x := by
 cases x with
 | non => cases r; rfl
 | bl _ => cases r; rfl
 | int _ => obtain ⟨t, rfl⟩ := r; rfl
 | str _ => obtain ⟨t, rfl⟩ := r; rfl
 | byt _ => obtain ⟨t, rfl⟩ := r; rfl
 | flt _ => obtain ⟨t, rfl⟩ := r; rfl
 | ref _ => cases r; rfl
 | ty _ => cases r; rfl
theorem RelV.inj {x y : V} {u : Value} (r : RelV x u) (q : RelV y u) : x = y := Option.some.inj (r.abs.symm.trans q.abs)
theorem Vals.inj : ∀ {xs ys : List V} {us : List Value}, Vals xs us → Vals ys us → xs = ys
 | _, _, _, .nil, .nil => rfl
 | _, _, _, .cons r t, .cons r' t' => by rw [r.inj r', Vals.inj t t']
section
variable {X : Cx} {pins : List (Addr × Obj)} {σ : St} {H : Hp} {s : Shared} {a : Addr} {xs ys : List V}
theorem SqL.of {K : Frag} (h : H a = some (.lst xs)) : SqL K H a xs := .inl (.inl h)
theorem SqT.of {K : Frag} (h : H a = some (.tup xs)) : SqT K H a xs := .inl (.inl h)
theorem Inv.list (I : Inv X pins σ H s) (h : SqL X.K H a xs) : ∃ its : List Value, Vals xs its ∧ PlainL s.heap a its.toArray ∧ xs.length ≤ sizeLine := by
 rcases h with h | ⟨o, its, n, hk, hc, hd, hs, hz, r⟩
 ·obtain ⟨z, its, n, r, e⟩ := h.ok I.hok
  exact ⟨its, r, ⟨_, n, e, rfl, rfl, rfl⟩, z⟩
 ·refine ⟨its.toList, r, ⟨o, n, I.kIn a o hk, hc, hd, by simpa using hs⟩, ?_⟩
  have e := r.length
  simp only [Array.length_toList] at e
  omega
theorem Inv.tuple (I : Inv X pins σ H s) (h : SqT X.K H a xs) : ∃ its : List Value, Vals xs its ∧ IsTup s.heap a its.toArray ∧ xs.length ≤ sizeLine := by
 rcases h with h | ⟨o, its, n, hk, hc, hs, hz, r⟩
 ·obtain ⟨z, its, r, p⟩ := h.ok I.hok
  exact ⟨its, r, p, z⟩
 ·refine ⟨its.toList, r, ⟨o, I.kIn a o hk, hc, n, by simpa using hs⟩, ?_⟩
  have e := r.length
  simp only [Array.length_toList] at e
  omega
theorem Inv.list_inj (I : Inv X pins σ H s) (h : SqL X.K H a xs) (h' : SqL X.K H a ys) : xs = ys := by
 obtain ⟨its, r, ⟨o, n, e, _, _, d⟩, _⟩ := I.list h
 obtain ⟨its', r', ⟨o', n', e', _, _, d'⟩, _⟩ := I.list h'
 rw [e] at e'; cases e'
 rw [d] at d'
 injection d' with d1 _
 have : its = its' := by simpa using congrArg Array.toList d1
 subst this
 exact r.inj r'
theorem Inv.tuple_inj (I : Inv X pins σ H s) (h : SqT X.K H a xs) (h' : SqT X.K H a ys) : xs = ys := by
 obtain ⟨its, r, ⟨o, e, _, n, d⟩, _⟩ := I.tuple h
 obtain ⟨its', r', ⟨o', e', _, n', d'⟩, _⟩ := I.tuple h'
 rw [e] at e'; cases e'
 rw [d] at d'
 injection d' with d1 _
 have : its = its' := by simpa using congrArg Array.toList d1
 subst this
 exact r.inj r'
end
abbrev Cx.wish (X : Cx) (E : Value → Shared → Prop) : Cx := { X with xe := E }
abbrev Cx.nox (X : Cx) : Cx := X.wish fun _ _ => False
theorem Cx.Ok.wish {X : Cx} (ok : X.Ok) (E : Value → Shared → Prop) : (X.wish E).Ok :=
 ⟨ok.mod, ok.kind, ok.glob, ok.blt, ok.above, ok.inj, ok.has, ok.cab, ok.hd, ok.frames, ok.stk, ok.exf, ok.bs, ok.bsz, ok.noex, ok.exfs, ok.funs, ok.frf⟩
theorem Cx.Ok.unwish {X : Cx} {E : Value → Shared → Prop} (ok : (X.wish E).Ok) : X.Ok :=
 ⟨ok.mod, ok.kind, ok.glob, ok.blt, ok.above, ok.inj, ok.has, ok.cab, ok.hd, ok.frames, ok.stk, ok.exf, ok.bs, ok.bsz, ok.noex, ok.exfs, ok.funs, ok.frf⟩
section
variable {X : Cx} {pins : List (Addr × Obj)} {σ : St} {H : Hp} {s : Shared} {E : Value → Shared → Prop}
theorem Inv.wish (I : Inv X pins σ H s) (E : Value → Shared → Prop) : Inv (X.wish E) pins σ H s := ⟨I.ok.wish E, I.os, I.bare, I.base, I.loc, I.cell, I.free, I.freeC, I.pin, I.hok, I.len⟩
theorem Inv.unwish (I : Inv (X.wish E) pins σ H s) : Inv X pins σ H s := ⟨I.ok.unwish, I.os, I.bare, I.base, I.loc, I.cell, I.free, I.freeC, I.pin, I.hok, I.len⟩
theorem SP.unwish {D : Ends} {f : Flow} {s' : Shared} (h : SP (X.wish E) pins D f s') : SP X pins D f s' := by
 cases f with
 | next => obtain ⟨σ', H', I, q⟩ := h; exact ⟨σ', H', I.unwish, q⟩
 | brk => obtain ⟨σ', H', I, q⟩ := h; exact ⟨σ', H', I.unwish, q⟩
 | cont => obtain ⟨σ', H', I, q⟩ := h; exact ⟨σ', H', I.unwish, q⟩
 | ret u => obtain ⟨v, σ', H', I, r, q⟩ := h; exact ⟨v, σ', H', I.unwish, r, q⟩
theorem PSs.nox {st : List Stmt} {t : TS} (h : PSs X.nox st t) : PSs X st t := fun pins s σ H D I hw =>
 wpAny_mono (h pins s σ H D (I.wish _) hw) (fun _ _ q => q.unwish) fun _ _ z => False.elim z
end
section
variable {X : Cx} {st : Stmt} {rest : List Stmt} {t u : TS} {e : Expr} {te : TE} {pos : Pos}
def tNext : TS := fun D σ H => D.nx σ H
def tSeq (t u : TS) : TS := fun D σ H => t { D with nx := u D } σ H
theorem pss_nil : PSs X [] tNext := fun _ _ σ H _ I h => wpAny_execs_nil ⟨σ, H, I, h⟩
theorem pss_cons (h1 : PS X st t) (h2 : PSs X rest u) : PSs X (st :: rest) (tSeq t u) := by
 intro pins s σ H D I h
 refine wpAny_execs_cons (thn (h1 pins s σ H { D with nx := u D } I h) fun f s1 q => ?_)
 cases f with
 | next =>
  obtain ⟨σ', H', I', q⟩ := q
  exact h2 pins s1 σ' H' D I' q
 | ret v => exact q
 | brk => exact q
 | cont => exact q
theorem pss_one (h1 : PS X st t) : PSs X [st] t := by
 intro pins s σ H D I h
 refine wpAny_execs_cons (thn (h1 pins s σ H D I h) fun f s1 q => ?_)
 cases f with
 | next => exact wpAny_execs_nil q
 | ret v => exact q
 | brk => exact q
 | cont => exact q
def tBreak : TS := fun D σ H => D.bk σ H
def tCont : TS := fun D σ H => D.ct σ H
theorem Inv.quiet {pins : List (Addr × Obj)} {σ : St} {H : Hp} {s : Shared} (I : Inv X pins σ H s) : interactive X.env = false := by simp [interactive, I.ok.kind]
def tDrop (te : TE) : TS := fun D σ H => te σ H fun _ H1 => D.nx σ H1
theorem ps_expr (he : PE X e te) (hs : swapsWith e none pos.line X.env = pure false := by rfl) : PS X (.Expr e pos) (tDrop te) := by
 intro pins s σ H D I h
 exact wpAny_Expr_any (thn (he pins s σ H _ I h) fun v s1 ⟨x, H1, I1, r1, q1⟩ => ⟨σ, H1, I1, q1⟩) I.quiet hs
def tRet (te : TE) : TS := fun D σ H => te σ H D.rt
theorem ps_ret (he : PE X e te) : PS X (.Return (some e) pos) (tRet te) := by
 intro pins s σ H D I h
 exact wpAny_Return_some (thn (he pins s σ H _ I h) fun v s1 ⟨x, H1, I1, r1, q1⟩ => ⟨x, σ, H1, I1, r1, q1⟩)
def tRetN : TS := fun D _ H => D.rt .non H
def tIfS (c : TT) (t u : TS) : TS := fun D σ H => c σ H fun b H1 => if b = true then t D σ H1 else u D σ H1
theorem ps_if {c : Expr} {a b : List Stmt} {tc : TT} (hc : PT X c tc) (ha : PSs X a t) (hb : PSs X b u) : PS X (.If c a b pos) (tIfS tc t u) := by
 intro pins s σ H D I h
 refine wpAny_If (thn (hc pins s σ H _ I h) fun d s1 ⟨H1, I1, q1⟩ => ?_)
 cases d with
 | true => exact ha pins s1 σ H1 D I1 q1
 | false => exact hb pins s1 σ H1 D I1 q1
def tNever : TS := fun _ _ _ => False
theorem ps_never : PS X st tNever := fun _ _ _ _ _ _ h => h.elim
end
abbrev TG := V → St → Hp → (St → Hp → Prop) → Prop
abbrev TGs := List V → St → Hp → (St → Hp → Prop) → Prop
def PG (X : Cx) (target : Expr) (t : TG) : Prop :=
 ∀ (pins : List (Addr × Obj)) (s : Shared) (σ : St) (H : Hp) (v : V) (u : Value) (Q : St → Hp → Prop), Inv X pins σ H s → RelV v u → t v σ H Q →
  wpAny (model X.prog X.w) X.A (assign target X.env u) (fun _ s' => ∃ σ' H', Inv X pins σ' H' s' ∧ Q σ' H') X.xe s
def PGs (X : Cx) (ts : List Expr) (t : TGs) : Prop :=
 ∀ (pins : List (Addr × Obj)) (s : Shared) (σ : St) (H : Hp) (vs : List V) (us : List Value) (Q : St → Hp → Prop), Inv X pins σ H s → Vals vs us → t vs σ H Q →
  wpAny (model X.prog X.w) X.A (assignInOrder ((assignEach ts X.env).map (·.2)) us) (fun _ s' => ∃ σ' H', Inv X pins σ' H' s' ∧ Q σ' H') X.xe s
abbrev TSet := V → V → V → Hp → (Hp → Prop) → Prop
def PSet (X : Cx) (t : TSet) : Prop :=
 ∀ (pins : List (Addr × Obj)) (s : Shared) (σ : St) (H : Hp) (o i v : V) (ov iv u : Value) (Q : Hp → Prop), Inv X pins σ H s → RelV o ov → RelV i iv → RelV v u → t o i v H Q →
  wpAny (model X.prog X.w) X.A (setItem ov iv u) (fun _ s' => ∃ H', Inv X pins σ H' s' ∧ Q H') X.xe s
abbrev TIp := V → V → Hp → VK → Prop
def PIp (X : Cx) (op : Operator) (t : TIp) : Prop :=
 ∀ (pins : List (Addr × Obj)) (s : Shared) (σ : St) (H : Hp) (x y : V) (v u : Value) (Q : VK), Inv X pins σ H s → RelV x v → RelV y u → t x y H Q →
  wpAny (model X.prog X.w) X.A (inplaceOp op v u) (EP X pins σ Q) X.xe s
section
variable {X : Cx} {pos : Pos}
def gName (i : Nat) : TG := fun v σ H Q => Q (σ.set i (some v)) H
theorem pg_name {i : Nat} {x : Str} (hN : X.N.Nodup) (hi : X.N[i]? = some x) (hx : Loc X.env.scope x) (hf : X.fn x = true ∨ X.env.scope.names.lookup x = some .local := by first | exact .inl rfl | exact .inr rfl | assumption) : PG X (.Name x pos) (gName i) := by
 intro pins s σ H v u Q I r h
 exact wpAny_assign_Name (store_ok I hN hi hx r (fun s' I' => ⟨_, H, I', h⟩) hf)
def gNil : TGs := fun vs σ H Q => vs = [] ∧ Q σ H
def gCons (t : TG) (u : TGs) : TGs := fun vs σ H Q => ∃ v r, vs = v :: r ∧ t v σ H fun σ' H' => u r σ' H' Q
theorem pgs_nil : PGs X [] gNil := by
 intro pins s σ H vs us Q I r h
 obtain ⟨e, h⟩ := h
 subst e
 cases r
 exact assignInOrder_nil ⟨σ, H, I, h⟩
theorem pgs_cons {e : Expr} {es : List Expr} {t : TG} {u : TGs} (h1 : PG X e t) (h2 : PGs X es u)
  (hs : (assignEach (e :: es) X.env).map (·.2) = assign e X.env :: (assignEach es X.env).map (·.2) := by rfl) : PGs X (e :: es) (gCons t u) := by
 intro pins s σ H vs us Q I r h
 obtain ⟨v, vr, e1, h⟩ := h
 subst e1
 cases r with
 | cons r rr =>
  rw [hs]
  refine assignInOrder_cons (thn (h1 pins s σ H _ _ _ I r h) fun _ s1 ⟨σ1, H1, I1, q1⟩ => ?_)
  exact h2 pins s1 σ1 H1 _ _ Q I1 rr q1
def gTup (K : Frag) (n : Nat) (t : TGs) : TG := fun v σ H Q => ∃ a xs, v = .ref a ∧ SqT K H a xs ∧ xs.length = n ∧ t xs σ H Q
theorem pg_tup {es : List Expr} {k : Nat} {t : TGs} {n : Nat} (hc : X.calm = true) (h : PGs X es t)
  (hn : (assignEach es X.env).length = n := by rfl) (hst : (assignEach es X.env).findIdx? (·.1) = none := by rfl) : PG X (.Tuple es k pos) (gTup X.K n t) := by
 intro pins s σ H v u Q I r hw
 obtain ⟨a, xs, e1, hq, hl, hw⟩ := hw
 subst e1
 cases r
 obtain ⟨its, rv, ht, hz⟩ := I.tuple hq
 refine assign_Tuple_tuple (I.ok.hd hc) ht (by simp [hn, ← hl, rv.length]) hst fun h' hx => ?_
 have I1 : Inv X pins σ H { s with heap := h' } := I.kept (t' := s.toks) fun b o e => hx b o (Nat.ne_of_lt (Heap.lt_size e)) e
 exact h pins _ σ H xs _ Q I1 (by simpa using rv) hw
def gSub (to ti : TE) (t : TSet) : TG := fun v σ H Q => to σ H fun o H1 => ti σ H1 fun i H2 => t o i v H2 fun H3 => Q σ H3
theorem pg_sub {o i : Expr} {to ti : TE} {t : TSet} (ho : PE X o to) (hi : PE X i ti) (hs : PSet X t)
  (ha : ∀ v, assign (.Subscript o i pos) X.env v = (do
   let ov ← holding [v] (eval o X.env)
   let iv ← holding [v, ov] (eval i X.env)
   standAt pos
   holding [v, ov, iv] (setItem ov iv v)
   release [v, ov, iv] []) := by intro _; rfl) : PG X (.Subscript o i pos) (gSub to ti t) := by
 intro pins s σ H v u Q I r h
 rw [ha]
 refine wpAny_bind (wpAny_holding (thn (ho pins s σ H _ I h) fun ov s1 ⟨x, H1, I1, r1, q1⟩ => ?_))
 refine wpAny_bind (wpAny_holding (thn (hi pins s1 σ H1 _ I1 q1) fun iv s2 ⟨y, H2, I2, r2, q2⟩ => ?_))
 refine wpAny_bind (wpAny_standAt (wpAny_bind (wpAny_holding (thn (hs pins s2 σ H2 x y v ov iv u _ I2 r1 r2 r q2) fun _ s3 ⟨H3, I3, q3⟩ => ?_))))
 exact wpAny_release ⟨σ, H3, I3, q3⟩
def tAsg (te : TE) (g : TG) : TS := fun D σ H => te σ H fun x H1 => g x σ H1 D.nx
theorem ps_asg {tg e : Expr} {te : TE} {g : TG} (he : PE X e te) (hg : PG X tg g) (hs : swapsWithSole [tg] e pos.line X.env = pure false := by rfl) (hw : swappedStores [tg] e X.env = pure none := by rfl)
  (h1 : (assignEach [tg] X.env).map (·.2) = [assign tg X.env] := by rfl) : PS X (.Assign [tg] e pos) (tAsg te g) := by
 intro pins s σ H D I h
 refine wpAny_Assign_stores (thn (he pins s σ H _ I h) fun v s1 ⟨x, H1, I1, r1, q1⟩ => ?_) hs hw
 rw [h1]
 exact thn (hg pins s1 σ H1 x v _ I1 r1 q1) fun _ s2 q => q
theorem ps_set {i : Nat} {x : Str} {e : Expr} {te : TE} {pos' : Pos} (hN : X.N.Nodup) (hi : X.N[i]? = some x) (hx : Loc X.env.scope x) (he : PE X e te) (hs : swapsWith e (some (.Name x pos')) pos.line X.env = pure false := by rfl) (hf : X.fn x = true ∨ X.env.scope.names.lookup x = some .local := by first | exact .inl rfl | exact .inr rfl | assumption) :
  PS X (.Assign [.Name x pos'] e pos) (tAsg te (gName i)) := by
 intro pins s σ H D I h
 refine wpAny_Assign_Name (thn (he pins s σ H _ I h) fun v s1 ⟨y, H1, I1, r1, q1⟩ => ?_) hs
 exact store_ok I1 hN hi hx r1 (fun s2 I2 => ⟨_, H1, I2, q1⟩) hf
def tPar (i j : Nat) (ta : TA) : TS := fun D σ H => ta σ H fun vs H1 => ∃ v w, vs = [v, w] ∧ D.nx ((σ.set i (some v)).set j (some w)) H1
theorem ps_par {i j : Nat} {x y : Str} {a b : Expr} {ta : TA} {px py pt : Pos} {kt k2 pt2} (hc : X.calm = true) (hN : X.N.Nodup) (hi : X.N[i]? = some x) (hj : X.N[j]? = some y) (hij : i ≠ j)
  (hx : X.env.scope.names.lookup x = some .local) (hy : X.env.scope.names.lookup y = some .local) (ha : PA X [a, b] ta)
  (hw : swappedStores [.Tuple [.Name x px, .Name y py] kt pt] (.Tuple [a, b] k2 pt2) X.env = pure (some [x, y]))
  (hs : swapsWithSole [.Tuple [.Name x px, .Name y py] kt pt] (.Tuple [a, b] k2 pt2) pos.line X.env = pure false := by rfl) :
  PS X (.Assign [.Tuple [.Name x px, .Name y py] kt pt] (.Tuple [a, b] k2 pt2) pos) (tPar i j ta) := by
 intro pins s σ H D I h
 rw [exec_Assign_arm]
 refine wpAny_bind (wpAny_standAt ?_)
 rw [hs]
 refine wpAny_bind (wpAny_pure ?_)
 rw [if_neg (by decide)]
 refine wpAny_bind (Tuple_ (thn (ha _ pins s σ H _ I h) fun us s1 ⟨vs, H1, I1, r1, q1⟩ => ?_))
 obtain ⟨v, w, e1, q1⟩ := q1
 subst e1
 obtain ⟨u1, u2, rfl, rv, rw'⟩ : ∃ u1 u2, us = [u1, u2] ∧ RelV v u1 ∧ RelV w u2 := by
  cases r1 with
  | cons p q =>
   cases q with
   | cons p' q' =>
    cases q'
    exact ⟨_, _, rfl, p, p'⟩
 refine wpAny_newObj_type ?_ (by show 2 ≤ sizeLine; decide)
 have I2 : Inv X pins σ H1 { s1 with heap := s1.heap.push { cls := .type "tuple", data := .seq [u1, u2].toArray } } := I1.kept (t' := s1.toks) fun b o e => Heap.get?_push_of_some _ e
 rw [hw]
 refine wpAny_bind (wpAny_pure ?_)
 show wpAny (model X.prog X.w) X.A (do rule "assign.swapped-stores"; let items ← unpackItems (.ref s1.heap.objs.size) 2 none; assignInOrder [fun v => bindName X.env y v, fun v => bindName X.env x v] items.reverse; pure Flow.next) _ _ _
 refine wpAny_bind (wpAny_rule (wpAny_bind (unpackItems_tuple (items := #[u1, u2]) (I.ok.hd hc) (IsTup.new s1.heap _) fun h' hx' => ?_)))
 have I3 := I2.kept (h' := h') (t' := s1.toks) fun b o e => hx' b o (Nat.ne_of_lt (Heap.lt_size e)) e
 show wpAny _ _ (assignInOrder [fun v => bindName X.env y v, fun v => bindName X.env x v] [u2, u1] >>= fun _ => pure Flow.next) _ _ _
 refine wpAny_bind (assignInOrder_cons (wpAny_bindName (store_ok I3 hN hj (.inl hy) rw' (fun s2 I4 => ?_) (.inr hy))))
 refine assignInOrder_cons (wpAny_bindName (store_ok I4 hN hi (.inl hx) rv (fun s3 I5 => assignInOrder_nil (wpAny_pure ?_)) (.inr hx)))
 rw [List.set_comm _ _ (Ne.symm hij)] at I5
 exact ⟨_, H1, I5, q1⟩
def tAug (i : Nat) (te : TE) (ti : TIp) : TS := fun D σ H => ∃ x, σ[i]? = some (some x) ∧ te σ H fun y H1 => ti x y H1 fun z H2 => D.nx (σ.set i (some z)) H2
def tAugS (to ti te : TE) (tget : V → V → Hp → VK → Prop) (tip : TIp) (tset : TSet) : TS := fun D σ H => to σ H fun o H1 => ti σ H1 fun i H2 => tget o i H2 fun x H3 => te σ H3 fun y H4 => tip x y H4 fun z H5 => tset o i z H5 fun H6 => D.nx σ H6
def PGet (X : Cx) (t : V → V → Hp → VK → Prop) : Prop :=
 ∀ (pins : List (Addr × Obj)) (s : Shared) (σ : St) (H : Hp) (o i : V) (ov iv : Value) (Q : VK), Inv X pins σ H s → RelV o ov → RelV i iv → t o i H Q →
  wpAny (model X.prog X.w) X.A (getItem ov iv) (EP X pins σ Q) X.xe s
def ipI (f : Int → Int → Int) : TIp := fun x y H Q => ∃ i j, x = .int i ∧ y = .int j ∧ Q (.int (f i j)) H
end
section
variable {X : Cx} {pos : Pos}
def tWhile (c : TT) (tb : TS) : TS := fun D σ H => ∃ W : Nat → St → Hp → Prop, (∃ m, W m σ H) ∧ ∀ m σ H, W m σ H →
 c σ H fun b H1 => if b = true then ∃ N : St → Hp → Prop, (∀ σ' H', N σ' H' → ∃ m', m' < m ∧ W m' σ' H') ∧ tb { D with nx := N, ct := N, bk := D.nx } σ H1 else D.nx σ H1
theorem ps_while {c : Expr} {body : List Stmt} {tc : TT} {tb : TS} (hp : PassesOwn (model X.prog X.w) X.A X.env X.xe) (hc : PT X c tc) (hb : PSs X body tb) : PS X (.While c body [] pos) (tWhile tc tb) := by
 intro pins s σ H D I h
 obtain ⟨W, ⟨m0, w0⟩, turn⟩ := h
 refine wpAny_While (codeAny_whileLoop (fun n s' => ∃ σ' H', Inv X pins σ' H' s' ∧ W n σ' H') ?_ m0 ⟨σ, H, I, w0⟩)
 rintro n s1 ⟨σ1, H1, I1, w1⟩
 refine wpAny_passesOwn hp (thn (hc pins s1 σ1 H1 _ I1 (turn n σ1 H1 w1)) fun b s2 ⟨H2, I2, q2⟩ => ?_)
 cases b with
 | true =>
  obtain ⟨N, hN, q2⟩ := q2
  rw [if_pos rfl]
  refine wpAny_passesOwn hp (thn (hb pins s2 σ1 H2 _ I2 q2) fun f s3 q3 => ?_)
  cases f with
  | next =>
   obtain ⟨σ3, H3, I3, n3⟩ := q3
   obtain ⟨m', hm, w3⟩ := hN σ3 H3 n3
   exact ⟨m', hm, σ3, H3, I3, w3⟩
  | cont =>
   obtain ⟨σ3, H3, I3, n3⟩ := q3
   obtain ⟨m', hm, w3⟩ := hN σ3 H3 n3
   exact ⟨m', hm, σ3, H3, I3, w3⟩
  | brk => exact q3
  | ret v => exact q3
 | false =>
  rw [if_neg Bool.false_ne_true]
  exact wpAny_execs_nil ⟨σ1, H2, I2, q2⟩
end
structure It where
 go : Nat → Hp → Prop
 yld : Nat → Hp → V → Hp → Prop
 stop : Nat → Hp → Prop
def FpOk (X : Cx) (pins : List (Addr × Obj)) (H : Hp) (b : Addr) : Prop :=
 H b = none ∧ b ≠ X.env.locals ∧ b ∉ X.fs ∧ (b ∈ X.ex ∨ X.s₀.heap.objs.size ≤ b) ∧ (∀ x c, X.env.cells.lookup x = some c → c ≠ b) ∧ ∀ p ∈ X.pn ++ pins, p.1 ≠ b
theorem Inv.fpOk {X : Cx} {pins : List (Addr × Obj)} {σ : St} {H H' : Hp} {s : Shared} {b : Addr} (I : Inv X pins σ H s) (hb : s.heap.objs.size ≤ b) (hn : H' b = none) : FpOk X pins H' b := by
 refine ⟨hn, Nat.ne_of_gt (Nat.lt_of_lt_of_le I.lt hb), I.nofs hb, .inr (Nat.le_trans I.sz hb), fun x c e z => ?_, fun p hp z => ?_⟩
 ·obtain ⟨v, q⟩ := I.cell x c e
  exact absurd (Nat.lt_of_lt_of_le q.lt (by rw [z]; exact hb)) (Nat.lt_irrefl _)
 ·exact absurd (Nat.lt_of_lt_of_le (Heap.lt_size (I.pin p hp).1) (by rw [z]; exact hb)) (Nat.lt_irrefl _)
structure Turn (P : Program) (w : World) (K : Frag) (tg : Expr) (J : It) (fp : List Addr) (it : Addr) (tn : Nat → Heap → Prop) : Prop where
 mem : it ∈ fp
 obj : ∀ i h, tn i h → ∀ b ∈ fp, ∃ o, h.get? b = some o ∧ ∀ v, o.data ≠ .cell v
 keep : ∀ i h h', tn i h → (∀ b ∈ fp, ∀ o, h.get? b = some o → h'.get? b = some o) → tn i h'
 item : ∀ (X : Cx), X.prog = P → X.w = w → X.K = K → X.calm = true → ∀ (i : Nat) (pins : List (Addr × Obj)) (s : Shared) (σ : St) (H : Hp) (E : Value → Shared → Prop), Inv X pins σ H s → (∀ b ∈ fp, FpOk X pins H b) → tn i s.heap → J.go i H →
  wpAny (model P w) X.A (pyNext (.ref it)) (fun r s1 => ∃ u, r = some u ∧
   wpAny (model P w) X.A (letOwnedTupleGo tg (.ref it) u) (fun _ s2 => ∃ x H', Inv X pins σ H' s2 ∧ RelV x u ∧ J.yld i H x H' ∧ tn (i + 1) s2.heap ∧ ∀ b ∈ fp, H' b = none) E s1) E s
 done : ∀ (X : Cx), X.prog = P → X.w = w → X.K = K → X.calm = true → ∀ (i : Nat) (pins : List (Addr × Obj)) (s : Shared) (σ : St) (H : Hp) (E : Value → Shared → Prop), Inv X pins σ H s → (∀ b ∈ fp, FpOk X pins H b) → tn i s.heap → J.stop i H →
  wpAny (model P w) X.A (pyNext (.ref it)) (fun r s1 => r = none ∧ Inv X pins σ H s1) E s
 self : ∀ (A : Around) (i : Nat) (s : Shared) (Q : Value → Shared → Prop) (E : Value → Shared → Prop), tn i s.heap → Q (.ref it) s → wpAny (model P w) A (pyIter (.ref it)) Q E s
abbrev TI := St → Hp → (It → Hp → Prop) → Prop
def PIE (X : Cx) (pins : List (Addr × Obj)) (σ : St) (tg : Expr) (R : It → Hp → Prop) (itv : Value) (s2 : Shared) : Prop :=
 ∃ (it : Addr) (fp : List Addr) (tn : Nat → Heap → Prop) (J : It) (H' : Hp), itv = .ref it ∧ Inv X pins σ H' s2 ∧ Turn X.prog X.w X.K tg J fp it tn ∧ tn 0 s2.heap ∧ (∀ b ∈ fp, FpOk X pins H' b) ∧ R J H'
def PI (X : Cx) (tg iter : Expr) (wi : TI) : Prop :=
 ∀ (pins : List (Addr × Obj)) (s : Shared) (σ : St) (H : Hp) (R : It → Hp → Prop), Inv X pins σ H s → wi σ H R →
  wpAny (model X.prog X.w) X.A (eval iter X.env) (fun v s1 => wpAny (model X.prog X.w) X.A (pyIter v) (PIE X pins σ tg R) X.xe s1) X.xe s
theorem go_of {M : Model} {A : Around} {E : Value → Shared → Prop} {s : Shared} {tg : Expr} {it : Addr} {u : Value} {o : Obj} {n : String} {vs : Array Value} {Q : Unit → Shared → Prop} (ho : s.heap.get? it = some o) (hc : o.cls = .type n) (hd : o.data = .fields vs)
    (hn : ["enumerate", "zip", "dict_itemiterator", "dict_reverseitemiterator", "odict_iterator", "itertools.zip_longest", "itertools.pairwise"].contains n = false) (hQ : Q () s) : wpAny M A (letOwnedTupleGo tg (.ref it) u) Q E s := by
  unfold letOwnedTupleGo
  cases tg <;> first
    | exact wpAny_pure hQ
    | (cases u <;> first
        | exact wpAny_pure hQ
        | (refine wpAny_bind (wpAny_load ho ?_)
           rw [hc, hd]
           show wpAny M A (if (["enumerate", "zip", "dict_itemiterator", "dict_reverseitemiterator", "odict_iterator", "itertools.zip_longest", "itertools.pairwise"].contains n && vs[0]? == some (rawInt _)) = true then _ else _) Q E s
           rw [if_neg (by intro h; rw [hn, Bool.false_and] at h; cases h)]
           exact wpAny_pure hQ))
def Itl (K : Frag) (a : Addr) : It :=
 ⟨fun i H => ∃ xs x, SqL K H a xs ∧ xs[i]? = some x, fun i H x H' => H' = H ∧ ∀ xs, SqL K H a xs → xs[i]? = some x, fun i H => ∃ xs, SqL K H a xs ∧ xs.length ≤ i⟩
def Itt (K : Frag) (a : Addr) : It :=
 ⟨fun i H => ∃ xs x, SqT K H a xs ∧ xs[i]? = some x, fun i H x H' => H' = H ∧ ∀ xs, SqT K H a xs → xs[i]? = some x, fun i H => ∃ xs, SqT K H a xs ∧ xs.length ≤ i⟩
def Itr (lo : Int) (n : Nat) : It := ⟨fun i _ => i < n, fun i H x H' => H' = H ∧ x = .int (lo + i), fun i _ => n ≤ i⟩
theorem turn_list {P : Program} {w : World} {K : Frag} {tg : Expr} (a it : Addr) : Turn P w K tg (Itl K a) [it] it (fun i h => h.IsListIter it a i) where
 mem := by simp
 obj := fun i h st b hb => by
  have e : b = it := by simpa using hb
  subst e
  obtain ⟨o, e, c, d⟩ := st
  exact ⟨o, e, fun v z => by rw [d] at z; cases z⟩
 keep := fun i h h' st k => st.at fun o e => k it (by simp) o e
 item := by
  intro X hP hw hK hc i pins s σ H E I hf st hg
  subst hP hw hK
  obtain ⟨xs, x, hq, hx⟩ := hg
  obtain ⟨its, rv, p, hz⟩ := I.list hq
  obtain ⟨u, hu, ru⟩ := rv.get hx
  obtain ⟨f0, f1, f2, f3, f4, f5⟩ := hf it (by simp)
  refine wpAny_pyNext_list_item st p.isList (x := u) (by simpa using hu) fun h' st' sb => ?_
  have I1 : Inv X pins σ H { s with heap := h' } := I.turned (t' := s.toks) (fun b o hb e => (sb.2 b hb).trans e) f0 f1 f3 f4 f5
  obtain ⟨o, e, c, d⟩ := id st'
  exact ⟨u, rfl, go_of (s := { s with heap := h' }) e c d (by decide) ⟨x, H, I1, ru, ⟨rfl, fun ys hy => by rw [I.list_inj hy hq]; exact hx⟩, st', fun b hb => (hf b hb).1⟩⟩
 done := by
  intro X hP hw hK hc i pins s σ H E I hf st hg
  subst hP hw hK
  obtain ⟨xs, hq, hx⟩ := hg
  obtain ⟨its, rv, p, hz⟩ := I.list hq
  obtain ⟨f0, f1, f2, f3, f4, f5⟩ := hf it (by simp)
  have hl := rv.length
  exact wpAny_pyNext_list_end (I.ok.hd hc) st p.isList (by simp; omega) fun h' eb => ⟨rfl, I.turned (t' := s.toks) (fun b o hb e => eb b o hb e) f0 f1 f3 f4 f5⟩
 self := fun _ _ _ _ _ st h => wpAny_pyIter_listiter st h
theorem turn_tuple {P : Program} {w : World} {K : Frag} {tg : Expr} (a it : Addr) : Turn P w K tg (Itt K a) [it] it (fun i h => h.IsTupleIter it a i) where
 mem := by simp
 obj := fun i h st b hb => by
  have e : b = it := by simpa using hb
  subst e
  obtain ⟨o, e, c, d⟩ := st
  exact ⟨o, e, fun v z => by rw [d] at z; cases z⟩
 keep := fun i h h' st k => st.at fun o e => k it (by simp) o e
 item := by
  intro X hP hw hK hc i pins s σ H E I hf st hg
  subst hP hw hK
  obtain ⟨xs, x, hq, hx⟩ := hg
  obtain ⟨its, rv, p, hz⟩ := I.tuple hq
  obtain ⟨u, hu, ru⟩ := rv.get hx
  obtain ⟨f0, f1, f2, f3, f4, f5⟩ := hf it (by simp)
  refine wpAny_pyNext_tuple_item st (show s.heap.IsTuple a its.toArray from p) (x := u) (by simpa using hu) fun h' st' sb => ?_
  have I1 : Inv X pins σ H { s with heap := h' } := I.turned (t' := s.toks) (fun b o hb e => (sb.2 b hb).trans e) f0 f1 f3 f4 f5
  obtain ⟨o, e, c, d⟩ := id st'
  exact ⟨u, rfl, go_of (s := { s with heap := h' }) e c d (by decide) ⟨x, H, I1, ru, ⟨rfl, fun ys hy => by rw [I.tuple_inj hy hq]; exact hx⟩, st', fun b hb => (hf b hb).1⟩⟩
 done := by
  intro X hP hw hK hc i pins s σ H E I hf st hg
  subst hP hw hK
  obtain ⟨xs, hq, hx⟩ := hg
  obtain ⟨its, rv, p, hz⟩ := I.tuple hq
  obtain ⟨f0, f1, f2, f3, f4, f5⟩ := hf it (by simp)
  have hl := rv.length
  exact wpAny_pyNext_tuple_end (I.ok.hd hc) st (show s.heap.IsTuple a its.toArray from p) (by simp; omega) fun h' eb => ⟨rfl, I.turned (t' := s.toks) (fun b o hb e => eb b o hb e) f0 f1 f3 f4 f5⟩
 self := fun _ _ _ _ _ st h => wpAny_pyIter_tupleiter st h
theorem turn_range {P : Program} {w : World} {K : Frag} {tg : Expr} (it : Addr) (lo : Int) (n : Nat) : Turn P w K tg (Itr lo n) [it] it (fun i h => IsRangeIter h it (lo + (i : Nat) * 1) ((n : Int) - (i : Nat)) 1) where
 mem := by simp
 obj := fun i h st b hb => by
  have e : b = it := by simpa using hb
  subst e
  exact ⟨_, st, fun v z => by
   have z' : Data.fields _ = Data.cell v := z
   cases z'⟩
 keep := fun i h h' st k => k it (by simp) _ st
 item := by
  intro X hP hw hK hc i pins s σ H E I hf st hg
  subst hP hw hK
  obtain ⟨f0, f1, f2, f3, f4, f5⟩ := hf it (by simp)
  have W := Walks.range (prog := X.prog) (w := X.w) (I.ok.hd hc) it lo 1 n
  refine W.item i s _ _ hg st fun v h' tk hv st' kk => ?_
  obtain ⟨t, rfl⟩ := hv
  have I1 : Inv X pins σ H { s with heap := h', toks := tk } := I.turned (fun b o hb e => kk b o (by simpa using hb) e) f0 f1 f3 f4 f5
  refine ⟨_, rfl, go_of (s := { s with heap := h', toks := tk }) (n := "range_iterator") st' rfl rfl (by decide) ⟨.int (lo + i), H, I1, ⟨t, ?_⟩, ⟨rfl, rfl⟩, st', fun b hb => (hf b hb).1⟩⟩
  rw [Int.mul_one]
 done := by
  intro X hP hw hK hc i pins s σ H E I hf st hg
  subst hP hw hK
  obtain ⟨f0, f1, f2, f3, f4, f5⟩ := hf it (by simp)
  exact wpAny_pyNext_range_end (I.ok.hd hc) st (by have : n ≤ i := hg; omega) fun h' eb => ⟨rfl, I.turned (t' := s.toks) (fun b o hb e => eb b o hb e) f0 f1 f3 f4 f5⟩
 self := fun _ _ _ _ _ st h => wpAny_pyIter_rangeiter st h
end L2
namespace L2
open PySem PySem.Spec PyProof.Rows
section
variable {X : Cx} {tg : Expr}
def iList (K : Frag) (tl : TE) : TI := fun σ H R => tl σ H fun x H1 => ∃ a, x = .ref a ∧ (∃ xs, SqL K H1 a xs) ∧ R (Itl K a) H1
def iTup (K : Frag) (tl : TE) : TI := fun σ H R => tl σ H fun x H1 => ∃ a, x = .ref a ∧ (∃ xs, SqT K H1 a xs) ∧ R (Itt K a) H1
theorem pi_list {l : Expr} {tl : TE} (hl : PE X l tl) : PI X tg l (iList X.K tl) := by
 intro pins s σ H R I h
 refine thn (hl pins s σ H _ I h) fun v s1 ⟨x, H1, I1, r1, q1⟩ => ?_
 obtain ⟨a, e, ⟨xs, hq⟩, q⟩ := q1
 subst e
 cases r1
 obtain ⟨its, rv, p, hz⟩ := I1.list hq
 refine wpAny_pyIter_list p.isList ?_
 refine ⟨s1.heap.objs.size, [s1.heap.objs.size], _, _, H1, rfl, I1.kept (t' := s1.toks) fun b o e => Heap.get?_push_of_some _ e, turn_list a _, ⟨_, Heap.get?_push_size _ rfl, rfl, rfl⟩, fun b hb => ?_, q⟩
 have e : b = s1.heap.objs.size := by simpa using hb
 subst e
 exact I1.fpOk (Nat.le_refl _) (I1.hok.fresh (Nat.le_refl _))
theorem pi_tup {l : Expr} {tl : TE} (hl : PE X l tl) : PI X tg l (iTup X.K tl) := by
 intro pins s σ H R I h
 refine thn (hl pins s σ H _ I h) fun v s1 ⟨x, H1, I1, r1, q1⟩ => ?_
 obtain ⟨a, e, ⟨xs, hq⟩, q⟩ := q1
 subst e
 cases r1
 obtain ⟨its, rv, p, hz⟩ := I1.tuple hq
 refine wpAny_pyIter_tuple (show s1.heap.IsTuple a its.toArray from p) ?_
 refine ⟨s1.heap.objs.size, [s1.heap.objs.size], _, _, H1, rfl, I1.kept (t' := s1.toks) fun b o e => Heap.get?_push_of_some _ e, turn_tuple a _, ⟨_, Heap.get?_push_size _ rfl, rfl, rfl⟩, fun b hb => ?_, q⟩
 have e : b = s1.heap.objs.size := by simpa using hb
 subst e
 exact I1.fpOk (Nat.le_refl _) (I1.hok.fresh (Nat.le_refl _))
theorem range_it {pins : List (Addr × Obj)} {σ : St} {H : Hp} {s : Shared} {R : It → Hp → Prop} {E : Value → Shared → Prop} {lo hi : Int} {t u v : Tok} {tk : Nat} (I : Inv X pins σ H s) (h1 : -(2 ^ 62) ≤ lo) (h2 : lo < 2 ^ 62) (h3 : -(2 ^ 62) ≤ hi) (h4 : hi < 2 ^ 62)
  (q : R (Itr lo (hi - lo).toNat) H) : wpAny (model X.prog X.w) X.A (pyIter (.ref s.heap.objs.size)) (PIE X pins σ tg R) E { s with heap := s.heap.push { cls := .type "range", data := .fields #[.int lo t, .int hi u, .int 1 v] }, toks := tk } := by
 refine wpAny_pyIter_range (IsRange.new ..) (small_one h1 h2 h3 h4) ?_
 have I1 : Inv X pins σ H { s with heap := s.heap.push { cls := .type "range", data := .fields #[.int lo t, .int hi u, .int 1 v] }, toks := tk } := I.kept fun b o e => Heap.get?_push_of_some _ e
 refine ⟨(s.heap.push { cls := .type "range", data := .fields #[.int lo t, .int hi u, .int 1 v] }).objs.size, [(s.heap.push { cls := .type "range", data := .fields #[.int lo t, .int hi u, .int 1 v] }).objs.size], _, _, H, rfl,
  I1.kept (t' := tk) fun b o e => Heap.get?_push_of_some _ e, turn_range _ lo (hi - lo).toNat, ?_, fun b hb => ?_, q⟩
 ·have e1 : lo + ((0 : Nat) : Int) * 1 = lo := by simp
  have e2 : (((hi - lo).toNat : Nat) : Int) - ((0 : Nat) : Int) = Builtin.Range.rangeSize lo hi 1 := by rw [rangeSize_one]; split <;> omega
  show IsRangeIter _ _ (lo + ((0 : Nat) : Int) * 1) ((((hi - lo).toNat : Nat) : Int) - ((0 : Nat) : Int)) 1
  rw [e1, e2]
  exact Heap.get?_push_size _ rfl
 ·have e : b = (s.heap.push { cls := .type "range", data := .fields #[.int lo t, .int hi u, .int 1 v] }).objs.size := by simpa using hb
  subst e
  exact I1.fpOk (Nat.le_refl _) (I1.hok.fresh (Nat.le_refl _))
def iRng1 (ta : TA) : TI := fun σ H R => ta σ H fun vs H1 => ∃ j : Int, vs = [.int j] ∧ -(2 ^ 62) ≤ j ∧ j < 2 ^ 62 ∧ R (Itr 0 j.toNat) H1
def iRng2 (ta : TA) : TI := fun σ H R => ta σ H fun vs H1 => ∃ i j : Int, vs = [.int i, .int j] ∧ (-(2 ^ 62) ≤ i ∧ i < 2 ^ 62 ∧ -(2 ^ 62) ≤ j ∧ j < 2 ^ 62) ∧ R (Itr i (j - i).toNat) H1
theorem pi_range1 {a : Expr} {ta : TA} {p pos : Pos} (hg : Gl X "range") (hm : X.mg "range" = none) (ha : PA X [a] ta) (hs : starEach [a] X.env = [(false, eval a X.env)] := by rfl) : PI X tg (.Call (.Name "range" p) [a] [] pos) (iRng1 ta) := by
 intro pins s σ H R I h
 refine Call_ (ld_blt I hg hm boot_range (PyProof.Rows.callWith_type1 (thn (ha pos pins s σ H _ I h) fun us s1 ⟨vs, H1, I1, r1, q1⟩ => ?_) hs rfl))
 obtain ⟨j, e, q1, q2, q⟩ := q1
 subst e
 cases r1 with
 | cons r rr =>
  cases rr
  obtain ⟨t, rfl⟩ := r
  exact call_range_1 (range_it I1 (by omega) (by omega) q1 q2 (by simpa using q))
def tFor (wi : TI) (g : TG) (tb : TS) : TS := fun D σ H => wi σ H fun J H1 => ∃ W : Nat → Nat → St → Hp → Prop, (∃ m, W 0 m σ H1) ∧ ∀ i m σ H, W i m σ H →
 (J.stop i H ∧ D.nx σ H) ∨ (J.go i H ∧ ∃ N : St → Hp → Prop, (∀ σ' H', N σ' H' → ∃ m', m' < m ∧ W (i + 1) m' σ' H') ∧ ∀ x H', J.yld i H x H' → g x σ H' fun σ2 H2 => tb { D with nx := N, ct := N, bk := D.nx } σ2 H2)
def pinsAt (fp : List Addr) (h : Heap) : List (Addr × Obj) := fp.filterMap fun b => (h.get? b).map fun o => (b, o)
theorem mem_pinsAt {fp : List Addr} {h : Heap} {b : Addr} {o : Obj} (hb : b ∈ fp) (e : h.get? b = some o) : (b, o) ∈ pinsAt fp h := List.mem_filterMap.mpr ⟨b, hb, by rw [e]; rfl⟩
theorem of_pinsAt {fp : List Addr} {h : Heap} {p : Addr × Obj} (hp : p ∈ pinsAt fp h) : p.1 ∈ fp ∧ h.get? p.1 = some p.2 := by
 obtain ⟨b, hb, e⟩ := List.mem_filterMap.mp hp
 cases q : h.get? b with
 | none => rw [q] at e; cases e
 | some o =>
  rw [q] at e
  have e' : (b, o) = p := Option.some.inj e
  subst e'
  exact ⟨hb, q⟩
theorem Inv.pinned {pins : List (Addr × Obj)} {σ : St} {H : Hp} {s : Shared} {fp : List Addr} (I : Inv X pins σ H s) (hf : ∀ b ∈ fp, FpOk X pins H b) (ho : ∀ b ∈ fp, ∃ o, s.heap.get? b = some o ∧ ∀ v, o.data ≠ .cell v) : Inv X (pins ++ pinsAt fp s.heap) σ H s :=
 I.pins_of fun p hp => (List.mem_append.mp hp).elim (fun z => I.pin p (List.mem_append_right _ z)) fun z => by
  obtain ⟨hb, e⟩ := of_pinsAt z
  obtain ⟨f0, f1, f2, _⟩ := hf p.1 hb
  obtain ⟨o, e', d⟩ := ho p.1 hb
  rw [e] at e'; cases e'
  exact ⟨e, f0, f1, f2, d⟩
theorem Inv.unpinned {pins pl : List (Addr × Obj)} {σ : St} {H : Hp} {s : Shared} (I : Inv X (pins ++ pl) σ H s) : Inv X pins σ H s := I.pins_of fun p hp => I.pin p (List.mem_append_right _ (List.mem_append_left _ hp))
theorem ps_for {iter : Expr} {body : List Stmt} {wi : TI} {g : TG} {tb : TS} {pos : Pos} (hp : PassesOwn (model X.prog X.w) X.A X.env X.xe) (hc : X.calm = true) (hi : PI X tg iter wi) (hg : PG X tg g) (hb : PSs X body tb)
  (hs : ∀ x, foldedSetIterable iter X.env x = pure x := by intro _; rfl) : PS X (.For tg iter body [] pos) (tFor wi g tb) := by
 intro pins s σ H D I h
 refine wpAny_For (thn (hi pins s σ H _ I h) fun v s1 h1 => thn h1 fun itv s2 h2 => ?_) hs
 obtain ⟨it, fp, tn, J, H2, e, I2, T, st2, f2, W, ⟨m0, w0⟩, turn⟩ := h2
 subst e
 have stat : ∀ {H' : Hp}, (∀ b ∈ fp, H' b = none) → ∀ b ∈ fp, FpOk X pins H' b := fun hn b hb => ⟨hn b hb, (f2 b hb).2⟩
 refine codeAny_forLoop_any (fun n s' => ∃ i σ' H', Inv X pins σ' H' s' ∧ tn i s'.heap ∧ (∀ b ∈ fp, H' b = none) ∧ W i n σ' H') ?_ m0 ⟨0, σ, H2, I2, st2, fun b hb => (f2 b hb).1, w0⟩
 rintro n s3 ⟨i, σ3, H3, I3, st3, fr3, w3⟩
 rcases turn i n σ3 H3 w3 with ⟨stop, qn⟩ | ⟨go, N, hN, step⟩
 ·refine wpAny_passesOwn hp (thn (T.done X rfl rfl rfl hc i pins s3 σ3 H3 X.xe I3 (stat fr3) st3 stop) fun r s4 ⟨hr, I4⟩ => ?_)
  subst hr
  exact wpAny_execs_nil ⟨σ3, H3, I4, qn⟩
 ·refine wpAny_passesOwn hp (thn (T.item X rfl rfl rfl hc i pins s3 σ3 H3 X.xe I3 (stat fr3) st3 go) fun r s4 ⟨u, hr, h4⟩ => ?_)
  subst hr
  refine wpAny_passesOwn hp (thn h4 fun _ s5 ⟨x, H5, I5, r5, y5, st5, fr5⟩ => ?_)
  have I5' := I5.pinned (stat fr5) (T.obj _ _ st5)
  refine wpAny_passesOwn hp (thn (hg _ s5 σ3 H5 x u _ I5' r5 (step x H5 y5)) fun _ s6 ⟨σ6, H6, I6, q6⟩ => ?_)
  refine wpAny_passesOwn hp (thn (hb _ s6 σ6 H6 _ I6 q6) fun f s7 q7 => ?_)
  have again : ∀ {σ7 : St} {H7 : Hp}, Inv X (pins ++ pinsAt fp s5.heap) σ7 H7 s7 → N σ7 H7 → ∃ m, m < n ∧ ∃ i σ' H', Inv X pins σ' H' s7 ∧ tn i s7.heap ∧ (∀ b ∈ fp, H' b = none) ∧ W i m σ' H' := fun {σ7 H7} I7 n7 => by
   obtain ⟨m', hm, w7⟩ := hN σ7 H7 n7
   refine ⟨m', hm, i + 1, σ7, H7, I7.unpinned, T.keep _ _ _ st5 fun b hb o e => (I7.pin (b, o) (List.mem_append_right _ (List.mem_append_right _ (mem_pinsAt hb e)))).1, fun b hb => ?_, w7⟩
   obtain ⟨o, e, d⟩ := T.obj _ _ st5 b hb
   exact (I7.pin (b, o) (List.mem_append_right _ (List.mem_append_right _ (mem_pinsAt hb e)))).2.1
  cases f with
  | next => obtain ⟨σ7, H7, I7, n7⟩ := q7; exact again I7 n7
  | cont => obtain ⟨σ7, H7, I7, n7⟩ := q7; exact again I7 n7
  | brk => obtain ⟨σ7, H7, I7, q7⟩ := q7; exact ⟨σ7, H7, I7.unpinned, q7⟩
  | ret v => obtain ⟨x7, σ7, H7, I7, r7, q7⟩ := q7; exact ⟨x7, σ7, H7, I7.unpinned, r7, q7⟩
end
theorem for_list {K : Frag} {a : Addr} {xs : List V} {g : TG} {tb : TS} {D : Ends} {σ : St} {H : Hp} (Pv : Nat → St → Hp → Prop) (h0 : Pv 0 σ H) (hl : ∀ i σ H, i ≤ xs.length → Pv i σ H → SqL K H a xs)
  (hs : ∀ i x σ H, xs[i]? = some x → Pv i σ H → g x σ H fun σ2 H2 => tb { D with nx := Pv (i + 1), ct := Pv (i + 1), bk := D.nx } σ2 H2) (hd : ∀ σ H, Pv xs.length σ H → D.nx σ H) :
  ∃ W : Nat → Nat → St → Hp → Prop, (∃ m, W 0 m σ H) ∧ ∀ i m σ H, W i m σ H →
   ((Itl K a).stop i H ∧ D.nx σ H) ∨ ((Itl K a).go i H ∧ ∃ N : St → Hp → Prop, (∀ σ' H', N σ' H' → ∃ m', m' < m ∧ W (i + 1) m' σ' H') ∧ ∀ x H', (Itl K a).yld i H x H' → g x σ H' fun σ2 H2 => tb { D with nx := N, ct := N, bk := D.nx } σ2 H2) := by
 refine ⟨fun i m σ H => m = xs.length - i ∧ i ≤ xs.length ∧ Pv i σ H, ⟨xs.length, by simp, Nat.zero_le _, h0⟩, ?_⟩
 rintro i m σ H ⟨rfl, hi, p⟩
 have q := hl i σ H hi p
 by_cases hlt : i < xs.length
 ·refine .inr ⟨⟨xs, xs[i], q, by simp [hlt]⟩, Pv (i + 1), fun σ' H' p' => ⟨xs.length - (i + 1), by omega, rfl, hlt, p'⟩, fun x H' y => ?_⟩
  obtain ⟨e, y⟩ := y
  subst e
  exact hs i x σ _ (y xs q) p
 ·have e : i = xs.length := by omega
  subst e
  exact .inl ⟨⟨xs, q, Nat.le_refl _⟩, hd σ H p⟩
theorem for_tup {K : Frag} {a : Addr} {xs : List V} {g : TG} {tb : TS} {D : Ends} {σ : St} {H : Hp} (Pv : Nat → St → Hp → Prop) (h0 : Pv 0 σ H) (hl : ∀ i σ H, i ≤ xs.length → Pv i σ H → SqT K H a xs)
  (hs : ∀ i x σ H, xs[i]? = some x → Pv i σ H → g x σ H fun σ2 H2 => tb { D with nx := Pv (i + 1), ct := Pv (i + 1), bk := D.nx } σ2 H2) (hd : ∀ σ H, Pv xs.length σ H → D.nx σ H) :
  ∃ W : Nat → Nat → St → Hp → Prop, (∃ m, W 0 m σ H) ∧ ∀ i m σ H, W i m σ H →
   ((Itt K a).stop i H ∧ D.nx σ H) ∨ ((Itt K a).go i H ∧ ∃ N : St → Hp → Prop, (∀ σ' H', N σ' H' → ∃ m', m' < m ∧ W (i + 1) m' σ' H') ∧ ∀ x H', (Itt K a).yld i H x H' → g x σ H' fun σ2 H2 => tb { D with nx := N, ct := N, bk := D.nx } σ2 H2) := by
 refine ⟨fun i m σ H => m = xs.length - i ∧ i ≤ xs.length ∧ Pv i σ H, ⟨xs.length, by simp, Nat.zero_le _, h0⟩, ?_⟩
 rintro i m σ H ⟨rfl, hi, p⟩
 have q := hl i σ H hi p
 by_cases hlt : i < xs.length
 ·refine .inr ⟨⟨xs, xs[i], q, by simp [hlt]⟩, Pv (i + 1), fun σ' H' p' => ⟨xs.length - (i + 1), by omega, rfl, hlt, p'⟩, fun x H' y => ?_⟩
  obtain ⟨e, y⟩ := y
  subst e
  exact hs i x σ _ (y xs q) p
 ·have e : i = xs.length := by omega
  subst e
  exact .inl ⟨⟨xs, q, Nat.le_refl _⟩, hd σ H p⟩
theorem for_range {lo : Int} {n : Nat} {g : TG} {tb : TS} {D : Ends} {σ : St} {H : Hp} (Pv : Nat → St → Hp → Prop) (h0 : Pv 0 σ H)
  (hs : ∀ i σ H, i < n → Pv i σ H → g (.int (lo + i)) σ H fun σ2 H2 => tb { D with nx := Pv (i + 1), ct := Pv (i + 1), bk := D.nx } σ2 H2) (hd : ∀ σ H, Pv n σ H → D.nx σ H) :
  ∃ W : Nat → Nat → St → Hp → Prop, (∃ m, W 0 m σ H) ∧ ∀ i m σ H, W i m σ H →
   ((Itr lo n).stop i H ∧ D.nx σ H) ∨ ((Itr lo n).go i H ∧ ∃ N : St → Hp → Prop, (∀ σ' H', N σ' H' → ∃ m', m' < m ∧ W (i + 1) m' σ' H') ∧ ∀ x H', (Itr lo n).yld i H x H' → g x σ H' fun σ2 H2 => tb { D with nx := N, ct := N, bk := D.nx } σ2 H2) := by
 refine ⟨fun i m σ H => m = n - i ∧ i ≤ n ∧ Pv i σ H, ⟨n, by simp, Nat.zero_le _, h0⟩, ?_⟩
 rintro i m σ H ⟨rfl, hi, p⟩
 by_cases hlt : i < n
 ·refine .inr ⟨hlt, Pv (i + 1), fun σ' H' p' => ⟨n - (i + 1), by omega, rfl, hlt, p'⟩, fun x H' y => ?_⟩
  obtain ⟨e, y⟩ := y
  subst e y
  exact hs i σ _ hlt p
 ·have e : i = n := by omega
  subst e
  exact .inl ⟨Nat.le_refl _, hd σ H p⟩
theorem while_by {c : TT} {tb : TS} {D : Ends} {σ : St} {H : Hp} (Pv : St → Hp → Prop) (μ : St → Hp → Nat) (h0 : Pv σ H)
  (hs : ∀ σ H, Pv σ H → c σ H fun b H1 => if b = true then tb { D with nx := fun σ' H' => Pv σ' H' ∧ μ σ' H' < μ σ H, ct := fun σ' H' => Pv σ' H' ∧ μ σ' H' < μ σ H, bk := D.nx } σ H1 else D.nx σ H1)
  (mono : ∀ σ H Q Q', (∀ b H1, Q b H1 → Q' b H1) → c σ H Q → c σ H Q') : tWhile c tb D σ H := by
 refine ⟨fun m σ H => m = μ σ H ∧ Pv σ H, ⟨_, rfl, h0⟩, ?_⟩
 rintro m σ H ⟨rfl, p⟩
 refine mono σ H _ _ (fun b H1 q => ?_) (hs σ H p)
 cases b with
 | true => exact ⟨_, fun σ' H' ⟨p', l⟩ => ⟨_, l, rfl, p'⟩, q⟩
 | false => exact q
end L2
namespace L2
open PySem PySem.Spec PyProof.Rows
abbrev R2 := V → V → Hp → VK → Prop
def OpR (X : Cx) (f : Value → Value → Sem Value) (r : R2) : Prop :=
 ∀ (pins : List (Addr × Obj)) (s : Shared) (σ : St) (H : Hp) (x y : V) (v u : Value) (Q : VK), Inv X pins σ H s → RelV x v → RelV y u → r x y H Q →
  wpAny (model X.prog X.w) X.A (f v u) (EP X pins σ Q) X.xe s
def UnR (X : Cx) (f : Value → Sem Value) (r : V → Hp → VK → Prop) : Prop :=
 ∀ (pins : List (Addr × Obj)) (s : Shared) (σ : St) (H : Hp) (x : V) (v : Value) (Q : VK), Inv X pins σ H s → RelV x v → r x H Q →
  wpAny (model X.prog X.w) X.A (f v) (EP X pins σ Q) X.xe s
def CallR (X : Cx) (f : Value) (r : List V → Hp → VK → Prop) : Prop :=
 ∀ (pins : List (Addr × Obj)) (s : Shared) (σ : St) (H : Hp) (xs : List V) (us : List Value) (Q : VK), Inv X pins σ H s → Vals xs us → r xs H Q →
  wpAny (model X.prog X.w) X.A (call f us) (EP X pins σ Q) X.xe s
def TruR (X : Cx) (r : V → Hp → (Bool → Hp → Prop) → Prop) : Prop :=
 ∀ (pins : List (Addr × Obj)) (s : Shared) (σ : St) (H : Hp) (x : V) (v : Value) (Q : Bool → Hp → Prop), Inv X pins σ H s → RelV x v → r x H Q →
  wpAny (model X.prog X.w) X.A (truthy v) (TP X pins σ Q) X.xe s
def tOp (r : R2) (ta tb : TE) : TE := fun σ H Q => ta σ H fun x H1 => tb σ H1 fun y H2 => r x y H2 Q
def tUn (r : V → Hp → VK → Prop) (ta : TE) : TE := fun σ H Q => ta σ H fun x H1 => r x H1 Q
def rI (C : Int → Int → Prop) (g : Int → Int → V) : R2 := fun x y H Q => ∃ i j, x = .int i ∧ y = .int j ∧ C i j ∧ Q (g i j) H
def rI0 (g : Int → Int → V) : R2 := fun x y H Q => ∃ i j, x = .int i ∧ y = .int j ∧ Q (g i j) H
def rU (g : Int → V) : V → Hp → VK → Prop := fun x H Q => ∃ i, x = .int i ∧ Q (g i) H
section
variable {X : Cx} {a b c : Expr} {ta tb tc : TE} {pos : Pos}
theorem binT (ha : PE X a ta) (hb : PE X b tb) {pins : List (Addr × Obj)} {s : Shared} {σ : St} {H : Hp} {R : V → V → Hp → Prop} (I : Inv X pins σ H s)
  (h : ta σ H fun x H1 => tb σ H1 fun y H2 => R x y H2) {Q : Value → Shared → Prop} {f : Value → Value → Sem Value}
  (hf : ∀ v u s2 x y H2, Inv X pins σ H2 s2 → RelV x v → RelV y u → R x y H2 → wpAny (model X.prog X.w) X.A (f v u) Q X.xe s2) :
  wpAny (model X.prog X.w) X.A (eval a X.env) (fun v s₁ => wpAny (model X.prog X.w) X.A (eval b X.env) (fun u s₂ => wpAny (model X.prog X.w) X.A (f v u) Q X.xe s₂) X.xe s₁) X.xe s := by
 refine thn (ha pins s σ H _ I h) fun v s1 ⟨x, H1, I1, r1, q1⟩ => ?_
 refine thn (hb pins s1 σ H1 _ I1 q1) fun u s2 ⟨y, H2, I2, r2, q2⟩ => ?_
 exact hf v u s2 x y H2 I2 r1 r2 q2
theorem pe_op {op : Operator} {r : R2} (ho : OpR X (binaryOp op) r) (ha : PE X a ta) (hb : PE X b tb) : PE X (.BinOp a op b pos) (tOp r ta tb) := by
 intro pins s σ H Q I h
 exact wpAny_BinOp (binT ha hb I h fun v u s2 x y H2 I2 rx ry q => ho pins s2 σ H2 x y v u Q I2 rx ry q)
theorem pe_un {op : UnaryOp} {r : V → Hp → VK → Prop} (ho : UnR X (unaryOp op) r) (ha : PE X a ta) : PE X (.UnaryOp op a pos) (tUn r ta) := by
 intro pins s σ H Q I h
 exact UnaryOp_ (thn (ha pins s σ H _ I h) fun v s1 ⟨x, H1, I1, r1, q1⟩ => ho pins s1 σ H1 x v Q I1 r1 q1)
theorem opI {f : Value → Value → Sem Value} {C : Int → Int → Prop} {g : Int → Int → Int}
  (rule : ∀ (i j : Int) (t u : Tok) (s : Shared) (Q : Value → Shared → Prop) (E : Value → Shared → Prop), C i j → Q (.int (g i j) s.toks) { s with toks := s.toks + 1 } → wpAny (model X.prog X.w) X.A (f (.int i t) (.int j u)) Q E s) :
  OpR X f (rI C fun i j => .int (g i j)) := by
 intro pins s σ H x y v u Q I rx ry h
 obtain ⟨i, j, rfl, rfl, hc, q⟩ := h
 obtain ⟨t, rfl⟩ := rx
 obtain ⟨t', rfl⟩ := ry
 exact rule i j t t' s _ _ hc ⟨.int (g i j), H, I.tok _, ⟨_, rfl⟩, q⟩
theorem opI0 {f : Value → Value → Sem Value} {g : Int → Int → Int}
  (rule : ∀ (i j : Int) (t u : Tok) (s : Shared) (Q : Value → Shared → Prop) (E : Value → Shared → Prop), Q (.int (g i j) s.toks) { s with toks := s.toks + 1 } → wpAny (model X.prog X.w) X.A (f (.int i t) (.int j u)) Q E s) :
  OpR X f (rI0 fun i j => .int (g i j)) := by
 intro pins s σ H x y v u Q I rx ry h
 obtain ⟨i, j, rfl, rfl, q⟩ := h
 obtain ⟨t, rfl⟩ := rx
 obtain ⟨t', rfl⟩ := ry
 exact rule i j t t' s _ _ ⟨.int (g i j), H, I.tok _, ⟨_, rfl⟩, q⟩
theorem opB0 {f : Value → Value → Sem Value} {g : Int → Int → Bool}
  (rule : ∀ (i j : Int) (t u : Tok) (s : Shared) (Q : Value → Shared → Prop) (E : Value → Shared → Prop), Q (.bool (g i j)) s → wpAny (model X.prog X.w) X.A (f (.int i t) (.int j u)) Q E s) :
  OpR X f (rI0 fun i j => .bl (g i j)) := by
 intro pins s σ H x y v u Q I rx ry h
 obtain ⟨i, j, rfl, rfl, q⟩ := h
 obtain ⟨t, rfl⟩ := rx
 obtain ⟨t', rfl⟩ := ry
 exact rule i j t t' s _ _ ⟨.bl (g i j), H, I, rfl, q⟩
def CDiv (i j : Int) : Prop := 0 < j ∧ j < 1073741824
def CDivN (i j : Int) : Prop := j ≠ 0 ∧ j.natAbs < 1073741824
def CPow (i j : Int) : Prop := 0 ≤ j ∧ j ≤ 1000000 ∧ i.natAbs < 2 ^ 64
def CMul (i j : Int) : Prop := (-(2 ^ 64) < i ∧ i < 2 ^ 64) ∨ (-(2 ^ 64) < j ∧ j < 2 ^ 64)
theorem op_add : OpR X (binaryOp .Add) (rI0 fun i j => .int (i + j)) := opI0 fun _ _ _ _ _ _ _ q => add_int q
theorem op_sub : OpR X (binaryOp .Sub) (rI0 fun i j => .int (i - j)) := opI0 fun _ _ _ _ _ _ _ q => sub_int q
theorem op_modN : OpR X (binaryOp .Mod) (rI (fun _ j => j ≠ 0) fun i j => .int (i.fmod j)) := opI fun _ _ _ _ _ _ _ hc q => mod_int' hc q
theorem op_pow : OpR X (binaryOp .Pow) (rI CPow fun i j => .int (i ^ j.toNat)) := opI fun _ _ _ _ _ _ _ hc q => pow_int_small hc.1 hc.2.1 hc.2.2 q
theorem unI {f : Value → Sem Value} {g : Int → Int}
  (rule : ∀ (i : Int) (t : Tok) (s : Shared) (Q : Value → Shared → Prop) (E : Value → Shared → Prop), Q (.int (g i) s.toks) { s with toks := s.toks + 1 } → wpAny (model X.prog X.w) X.A (f (.int i t)) Q E s) :
  UnR X f (rU fun i => .int (g i)) := by
 intro pins s σ H x v Q I rx h
 obtain ⟨i, rfl, q⟩ := h
 obtain ⟨t, rfl⟩ := rx
 exact rule i t s _ _ ⟨.int (g i), H, I.tok _, ⟨_, rfl⟩, q⟩
theorem un_neg : UnR X (unaryOp .USub) (rU fun i => .int (-i)) := unI fun _ _ _ _ _ q => neg_int q
end
def scal : V → V → Bool
 | .non, .non => true | .non, .int _ => true | .int _, .non => true | .non, .bl _ => true | .bl _, .non => true | .non, .str _ => true | .str _, .non => true
 | .int _, .int _ => true | .bl _, .bl _ => true | .str _, .str _ => true | .byt _, .byt _ => true
 | .int _, .str _ => true | .str _, .int _ => true | .bl _, .str _ => true | .str _, .bl _ => true
 | _, _ => false
def rEq : R2 := fun x y H Q => scal x y = true ∧ Q (.bl (decide (x = y))) H
def rNe : R2 := fun x y H Q => scal x y = true ∧ Q (.bl (!decide (x = y))) H
theorem dec_int {i j : Int} : decide (V.int i = V.int j) = (i == j) := by
 rw [Bool.eq_iff_iff]
 simp
theorem dec_bl {i j : Bool} : decide (V.bl i = V.bl j) = (i == j) := by
 rw [Bool.eq_iff_iff]
 simp
theorem dec_str {i j : Str} : decide (V.str i = V.str j) = (i == j) := by
 rw [Bool.eq_iff_iff]
 simp
theorem dec_byt {i j : Array UInt8} : decide (V.byt i = V.byt j) = (i.toList == j.toList) := by
 rw [Bool.eq_iff_iff]
 cases i
 cases j
 simp
section
variable {X : Cx} {a b c : Expr} {ta tb tc : TE} {pos : Pos}
theorem fin_bl {pins : List (Addr × Obj)} {σ : St} {H : Hp} {s : Shared} {Q : VK} {k k' : Bool} (I : Inv X pins σ H s) (q : Q (.bl k) H) (e : k = k') : EP X pins σ Q (.bool k') s := by
 subst e
 exact ⟨.bl k, H, I, rfl, q⟩
theorem op_eq : OpR X (compareOp .Eq) rEq := by
 intro pins s σ H x y v u Q I rx ry h
 obtain ⟨hs, q⟩ := h
 cases x with
 | non =>
  cases rx
  cases y with
  | non => cases ry; exact PySem.EqNone.eq_none_none (fin_bl I q (by simp))
  | bl j => cases ry; exact PySem.EqNone.eq_none_bool (fin_bl I q (by simp))
  | int j => obtain ⟨t', rfl⟩ := ry; exact PySem.EqNone.eq_none_int (fin_bl I q (by simp))
  | str j => obtain ⟨t', rfl⟩ := ry; exact PySem.EqNone.eq_none_str (fin_bl I q (by simp))
  | _ => exact absurd (show false = true from hs) Bool.false_ne_true
 | bl i =>
  cases rx
  cases y with
  | non => cases ry; exact PySem.EqNone.eq_bool_none (fin_bl I q (by simp))
  | bl j => cases ry; exact eq_bool (fin_bl I q dec_bl)
  | str j => obtain ⟨t', rfl⟩ := ry; exact PySem.EqMixed.eq_bool_str (fin_bl I q (by simp))
  | _ => exact absurd (show false = true from hs) Bool.false_ne_true
 | int i =>
  obtain ⟨t, rfl⟩ := rx
  cases y with
  | non => cases ry; exact PySem.EqNone.eq_int_none (fin_bl I q (by simp))
  | int j => obtain ⟨t', rfl⟩ := ry; exact eq_int (fin_bl I q dec_int)
  | str j => obtain ⟨t', rfl⟩ := ry; exact PySem.EqMixed.eq_int_str (fin_bl I q (by simp))
  | _ => exact absurd (show false = true from hs) Bool.false_ne_true
 | str i =>
  obtain ⟨t, rfl⟩ := rx
  cases y with
  | non => cases ry; exact PySem.EqNone.eq_str_none (fin_bl I q (by simp))
  | bl j => cases ry; exact PySem.EqMixed.eq_str_bool (fin_bl I q (by simp))
  | int j => obtain ⟨t', rfl⟩ := ry; exact PySem.EqMixed.eq_str_int (fin_bl I q (by simp))
  | str j => obtain ⟨t', rfl⟩ := ry; exact eq_str (fin_bl I q dec_str)
  | _ => exact absurd (show false = true from hs) Bool.false_ne_true
 | byt i =>
  obtain ⟨t, rfl⟩ := rx
  cases y with
  | byt j => obtain ⟨t', rfl⟩ := ry; exact PySem.W.eq_bytes (fin_bl I q dec_byt)
  | _ => exact absurd (show false = true from hs) Bool.false_ne_true
 | _ => cases y <;> exact absurd (show false = true from hs) Bool.false_ne_true
theorem op_ne : OpR X (compareOp .NotEq) rNe := by
 intro pins s σ H x y v u Q I rx ry h
 obtain ⟨hs, q⟩ := h
 cases x with
 | non =>
  cases rx
  cases y with
  | non => cases ry; exact PySem.EqNone.ne_none_none (fin_bl I q (by simp))
  | bl j => cases ry; exact PySem.EqNone.ne_none_bool (fin_bl I q (by simp))
  | int j => obtain ⟨t', rfl⟩ := ry; exact PySem.EqNone.ne_none_int (fin_bl I q (by simp))
  | str j => obtain ⟨t', rfl⟩ := ry; exact PySem.EqNone.ne_none_str (fin_bl I q (by simp))
  | _ => exact absurd (show false = true from hs) Bool.false_ne_true
 | bl i =>
  cases rx
  cases y with
  | non => cases ry; exact PySem.EqNone.ne_bool_none (fin_bl I q (by simp))
  | bl j => cases ry; exact ne_bool (fin_bl I q (congrArg not dec_bl))
  | str j => obtain ⟨t', rfl⟩ := ry; exact PySem.EqMixed.ne_bool_str (fin_bl I q (by simp))
  | _ => exact absurd (show false = true from hs) Bool.false_ne_true
 | int i =>
  obtain ⟨t, rfl⟩ := rx
  cases y with
  | non => cases ry; exact PySem.EqNone.ne_int_none (fin_bl I q (by simp))
  | int j => obtain ⟨t', rfl⟩ := ry; exact ne_int (fin_bl I q (congrArg not dec_int))
  | str j => obtain ⟨t', rfl⟩ := ry; exact PySem.EqMixed.ne_int_str (fin_bl I q (by simp))
  | _ => exact absurd (show false = true from hs) Bool.false_ne_true
 | str i =>
  obtain ⟨t, rfl⟩ := rx
  cases y with
  | non => cases ry; exact PySem.EqNone.ne_str_none (fin_bl I q (by simp))
  | bl j => cases ry; exact PySem.EqMixed.ne_str_bool (fin_bl I q (by simp))
  | int j => obtain ⟨t', rfl⟩ := ry; exact PySem.EqMixed.ne_str_int (fin_bl I q (by simp))
  | str j => obtain ⟨t', rfl⟩ := ry; exact ne_str (fin_bl I q (congrArg not dec_str))
  | _ => exact absurd (show false = true from hs) Bool.false_ne_true
 | byt i =>
  obtain ⟨t, rfl⟩ := rx
  cases y with
  | byt j => obtain ⟨t', rfl⟩ := ry; exact PySem.W.ne_bytes (fin_bl I q (congrArg not dec_byt))
  | _ => exact absurd (show false = true from hs) Bool.false_ne_true
 | _ => cases y <;> exact absurd (show false = true from hs) Bool.false_ne_true
theorem op_lt : OpR X (compareOp .Lt) (rI0 fun i j => .bl (decide (i < j))) := opB0 fun _ _ _ _ _ _ _ q => lt_int q
theorem op_le : OpR X (compareOp .LtE) (rI0 fun i j => .bl (decide (i ≤ j))) := opB0 fun _ _ _ _ _ _ _ q => le_int q
theorem op_gt : OpR X (compareOp .Gt) (rI0 fun i j => .bl (decide (j < i))) := opB0 fun _ _ _ _ _ _ _ q => gt_int q
theorem op_ge : OpR X (compareOp .GtE) (rI0 fun i j => .bl (decide (j ≤ i))) := opB0 fun _ _ _ _ _ _ _ q => ge_int q
theorem op_isN : OpR X (compareOp .Is) (fun x y H Q => y = .non ∧ Q (.bl (decide (x = .non))) H) := by
 intro pins s σ H x y v u Q I rx ry h
 obtain ⟨rfl, q⟩ := h
 cases ry
 refine is_none_gen (fin_bl I q ?_)
 cases x <;> first
  | (cases rx; rfl)
  | (obtain ⟨t, rfl⟩ := rx; rfl)
theorem op_notN : OpR X (compareOp .IsNot) (fun x y H Q => y = .non ∧ Q (.bl (!decide (x = .non))) H) := by
 intro pins s σ H x y v u Q I rx ry h
 obtain ⟨rfl, q⟩ := h
 cases ry
 refine isnot_none_gen (fin_bl I q ?_)
 cases x <;> first
  | (cases rx; rfl)
  | (obtain ⟨t, rfl⟩ := rx; rfl)
def isObj : HO → Bool
 | .lst _ => true
 | .ins _ _ _ => true
 | _ => false
theorem nomark (b : Expr) {op : CmpOp} (h : op ≠ .In := by decide) (h2 : op ≠ .NotIn := by decide) : behindInMarks op b = false := by
 have e1 : (op == CmpOp.In) = false := by cases op <;> first | rfl | exact absurd rfl h
 have e2 : (op == CmpOp.NotIn) = false := by cases op <;> first | rfl | exact absurd rfl h2
 cases b <;> simp [behindInMarks, e1, e2]
theorem pe_cmpR {op : CmpOp} {r : R2} (ho : OpR X (compareOp op) r) (ha : PE X a ta) (hb : PE X b tb) (hm : behindInMarks op b = false) : PE X (.Compare a [op] [b] pos) (tOp r ta tb) := by
 intro pins s σ H Q I h
 exact wpAny_Compare1 (binT ha hb I h fun v u s2 x y H2 I2 rx ry q => ho pins s2 σ H2 x y v u Q I2 rx ry q) hm
def tTest (t : TE) : TT := fun σ H Q => t σ H fun x H' => ∃ k, x = .bl k ∧ Q k H'
theorem pt_cmpR {op : CmpOp} {r : R2} (ho : OpR X (compareOp op) r) (ha : PE X a ta) (hb : PE X b tb) (hm : behindInMarks op b = false) : PT X (.Compare a [op] [b] pos) (tTest (tOp r ta tb)) := by
 intro pins s σ H Q I h
 refine wpAny_isTrue_Compare1 (thn (ha pins s σ H _ I h) fun v s1 ⟨x, H1, I1, r1, q1⟩ => thn (hb pins s1 σ H1 _ I1 q1) fun u s2 ⟨y, H2, I2, r2, q2⟩ =>
  thn (ho pins s2 σ H2 x y v u _ I2 r1 r2 q2) fun c s3 ⟨z, H3, I3, r3, k, e, q3⟩ => ?_) hm
 subst e
 cases r3
 exact wpAny_truthy_bool ⟨H3, I3, q3⟩
def tChain (r r' : R2) (ta tb tc : TE) : TE := fun σ H Q => ta σ H fun x H1 => tb σ H1 fun y H2 => r x y H2 fun z H3 => ∃ k, z = .bl k ∧
 (if k = true then tc σ H3 fun w' H4 => r' y w' H4 Q else Q (.bl false) H3)
theorem pt_chain {op op' : CmpOp} {r r' : R2} (ho : OpR X (compareOp op) r) (ho' : OpR X (compareOp op') r') (ha : PE X a ta) (hb : PE X b tb) (hc : PE X c tc)
  (hm : lastMarks [op, op'] [b, c] = false := by with_unfolding_all rfl) : PT X (.Compare a [op, op'] [b, c] pos) (tTest (tChain r r' ta tb tc)) := by
 intro pins s σ H Q I h
 refine isTrue_chain (thn (ha pins s σ H _ I h) fun v s1 ⟨x, H1, I1, r1, q1⟩ => test_link (thn (hb pins s1 σ H1 _ I1 q1) fun u s2 ⟨y, H2, I2, r2, q2⟩ =>
  thn (ho pins s2 σ H2 x y v u _ I2 r1 r2 q2) fun d s3 ⟨z, H3, I3, r3, k, e, q3⟩ => ?_)) hm
 subst e
 cases r3
 refine wpAny_truthy_bool ?_
 cases k with
 | false =>
  obtain ⟨k', e', q'⟩ := q3
  cases e'
  exact ite_ff ⟨H3, I3, q'⟩
 | true =>
  refine ite_tt (test_last (thn (hc pins s3 σ H3 _ I3 q3) fun w' s4 ⟨z', H4, I4, r4, q4⟩ => thn (ho' pins s4 σ H4 y z' u w' _ I4 r2 r4 q4) fun d' s5 ⟨z2, H5, I5, r5, k2, e2, q5⟩ => ?_))
  subst e2
  cases r5
  exact wpAny_truthy_bool ⟨H5, I5, q5⟩
def TruV (K : Frag) (x : V) (H : Hp) (k : Bool) : Prop :=
 match x with
 | .non => k = false
 | .bl b => k = b
 | .int i => k = (i != 0)
 | .str y => y.length ≤ sizeLine ∧ k = ((y.length : Int) != 0)
 | .byt y => y.size ≤ sizeLine ∧ k = ((y.size : Int) != 0)
 | .ref p => (∃ xs, SqL K H p xs ∧ k = !xs.isEmpty) ∨ (∃ xs, SqT K H p xs ∧ k = !xs.isEmpty) ∨ ∃ kvs, H p = some (.dK kvs) ∧ k = !kvs.isEmpty
 | _ => False
theorem line63 : (sizeLine : Nat) < 2 ^ 63 := by rw [sizeLine_eq]; decide
theorem op_add_str : OpR X (binaryOp .Add) (fun x y H Q => ∃ i j, x = .str i ∧ y = .str j ∧ i.length + j.length ≤ sizeLine ∧ Q (.str (i ++ j)) H) := by
 intro pins s σ H x y v u Q I rx ry h
 obtain ⟨i, j, rfl, rfl, hz, q⟩ := h
 obtain ⟨t, rfl⟩ := rx
 obtain ⟨t', rfl⟩ := ry
 exact add_str (fun t' tk => ⟨.str (i ++ j), H, I.tok _, ⟨_, rfl⟩, q⟩) hz
def PlainIxT (b : Expr) : Prop := ∀ o i, subscripted b false o i = operate [o, i] (getItem o i)
theorem vals1 {x : V} {us : List Value} (r : Vals [x] us) : ∃ u, us = [u] ∧ RelV x u := by
 cases r with
 | cons r1 r2 => cases r2; exact ⟨_, rfl, r1⟩
theorem vals2 {x y : V} {us : List Value} (r : Vals [x, y] us) : ∃ u w', us = [u, w'] ∧ RelV x u ∧ RelV y w' := by
 cases r with
 | cons r1 r2 =>
  cases r2 with
  | cons r3 r4 => cases r4; exact ⟨_, _, rfl, r1, r3⟩
theorem call_abs : CallR X (.builtin "abs") (fun xs H Q => ∃ i, xs = [.int i] ∧ Q (.int (if i < 0 then -i else i)) H) := by
 intro pins s σ H xs us Q I r h
 obtain ⟨i, rfl, q⟩ := h
 obtain ⟨u, rfl, t, rfl⟩ := vals1 r
 exact call_abs_int fun u tk => ⟨.int (if i < 0 then -i else i), H, I.tok _, ⟨_, rfl⟩, q⟩
theorem call_int1 : CallR X (.type "int") (fun xs H Q => (∃ i, xs = [.int i] ∧ Q (.int i) H) ∨ ∃ k, xs = [.bl k] ∧ Q (.int (if k then 1 else 0)) H) := by
 intro pins s σ H xs us Q I r h
 rcases h with ⟨i, rfl, q⟩ | ⟨k, rfl, q⟩
 ·obtain ⟨u, rfl, t, rfl⟩ := vals1 r
  exact call_int_int ⟨.int i, H, I, ⟨_, rfl⟩, q⟩
 ·obtain ⟨u, rfl, r1⟩ := vals1 r
  cases r1
  exact call_int_bool ⟨.int (if k then 1 else 0), H, I.tok _, ⟨_, rfl⟩, q⟩
def LenV (K : Frag) (x : V) (H : Hp) (n : Nat) : Prop :=
 match x with
 | .str y => y.length ≤ sizeLine ∧ n = y.length
 | .byt y => y.size ≤ sizeLine ∧ n = y.size
 | .ref p => (∃ xs, SqL K H p xs ∧ n = xs.length) ∨ ∃ xs, SqT K H p xs ∧ n = xs.length
 | _ => False
end
end L2
namespace L2
open PySem PySem.Spec PyProof.Rows
structure ObjM (h : Heap) (x dx C : Addr) (mA : Str → Option Value) : Prop where
 obj : h.get? x = some (PySem.W.instObj C dx)
 ns : h.Ns1 dx mA
 ne : dx ≠ x
theorem lookIn_ns {h : Heap} {dx : Addr} {mA : Str → Option Value} (n : h.Ns1 dx mA) : ∃ od, h.get? dx = some od ∧ ∀ name, PySem.W.lookIn name od = some (mA name) := by
 obtain ⟨o, es, ep, ho, hd, hk, _, hm⟩ := n
 refine ⟨o, ho, fun name => ?_⟩
 have e := hm name
 unfold nsFind findBy at e
 rw [← Array.find?_toList] at e
 unfold PySem.W.lookIn
 rw [hd]
 dsimp only
 split
 ·rename_i y q
  rw [q] at e
  exact congrArg some e
 ·rename_i q
  rw [q] at e
  have a : es.toList.any (·.refKey) = false := by
   rw [List.any_eq_false]
   intro y hy
   obtain ⟨z, t, hkey⟩ := hk y (Array.mem_toList_iff.mp hy)
   simp [DictEntry.refKey, hkey]
  have a' : ¬ es.toList.any (·.refKey) = true := by rw [a]; exact Bool.false_ne_true
  rw [if_neg a']
  exact congrArg some e
theorem ObjM.look {h : Heap} {x dx C : Addr} {mA : Str → Option Value} (I : ObjM h x dx C mA) : ∃ od, PySem.W.InstAt h x (PySem.W.instObj C dx) C (some od) ∧ ∀ name, PySem.W.lookIn name od = some (mA name) :=
 let ⟨od, ho, hl⟩ := lookIn_ns I.ns
 ⟨od, ⟨I.obj, rfl, rfl, ho⟩, hl⟩
section
variable {prog : Program} {w : World} {A : Around} {E : Value → Shared → Prop} {s : Shared} {K : Frag} {x dx C f : Addr} {mA : Str → Option Value} {name : Str} {v : Value}
theorem get_map {expr : Bool} {Q : Value → Shared → Prop} (X : K.In s.heap) (I : ObjM s.heap x dx C mA) (hg : PySem.W.plainGet K C name = true) (hh : PySem.W.hasDictIn K C = true)
  (ha : PySem.W.findIn K (.ref C) name = some none) (hv : mA name = some v) (hv' : PySem.W.handedIn v = true) (h : Q v { s with toks := s.toks + 1 }) :
  wpAny (model prog w) A (getAttr (.ref x) name expr) Q E s := by
 obtain ⟨od, J, hl⟩ := I.look
 exact PySem.W.get_value X J (PySem.W.plainGet_of hg).1 (PySem.W.findObj_own hh ha rfl (by rw [hl, hv])) hv' h
theorem get_meth {pl : Sem Bool} {Q : Value × List Value → Shared → Prop} (X : K.In s.heap) (I : ObjM s.heap x dx C mA) (hg : PySem.W.plainGet K C name = true)
  (hf : PySem.W.findIn K (.ref C) name = some (some (.ref f))) (ht : PySem.W.isFn K (.ref f) = true) (hv : mA name = none) (h : Q (.ref f, [.ref x]) s) :
  wpAny (model prog w) A (getMethod (.ref x) name pl) Q E s := by
 obtain ⟨od, J, hl⟩ := I.look
 exact PySem.W.method_fn X J (PySem.W.plainGet_of hg).1 (PySem.W.plainGet_of hg).2 hf (beq_iff_eq.mp ht) (by show (PySem.W.lookIn name od).map (·.isSome) = some false; rw [hl, hv]; rfl) h
theorem set_map {ns : List Str} {Q : Unit → Shared → Prop} (X : K.In s.heap) (I : ObjM s.heap x dx C mA)
  (hs : PySem.W.findIn K (.ref C) "__setattr__" = some (some (.builtin "object.__setattr__"))) (hp : PySem.W.plainOver K C = true) (ht : PySem.W.takerIn K C name = some none) (hh : PySem.W.hasDictIn K C = true)
  (hw : PySem.Within mA ns) (hsz : ns.length ≤ sizeLine)
  (h : ∀ h', ObjM h' x dx C (fun y => if y = name then some v else mA y) → Heap.SameBut dx s.heap h' → Q () { s with heap := h', toks := s.toks + 2 }) :
  wpAny (model prog w) A (setAttr (.ref x) name v) Q E s := by
 obtain ⟨od, J, hl⟩ := I.look
 refine PySem.W.set_plain X J hs (PySem.W.osa_open (s := { s with toks := s.toks + 1 }) (r := none) X J hp ht fun b => ?_)
 obtain ⟨cd, hc, hd'⟩ := PySem.W.any_some hh
 have hx : s.heap.get? x = some ⟨.ref C, some dx, .plain, #[]⟩ := I.obj
 refine wpAny_bind (wpAny_pure (wpAny_bind (wpAny_bind (wpAny_loadPart hx (wpAny_bind (PySem.W.Looks.here (s := { s with toks := s.toks + 1 }) (PySem.W.looks_clsIn X hc) ?_))))))
 rw [hd']
 refine wpAny_pure (a := some dx) (wpAny_bind (wpAny_pure (wpAny_bind ?_)))
 refine wpAny_nsSet1 (s := { s with toks := s.toks + 1 }) I.ns fun h' hn2 hs2 => ?_
 obtain ⟨oD, esD, epD, hoD, hdD, hcD⟩ := hn2.count (PySem.Within.cons name v hw)
 refine wpAny_bind (wpAny_lookBehind hoD (by rw [hdD]; exact pastItsLine_dict (Nat.le_trans hcD (by rw [List.length_cons]; omega))) ?_)
 exact wpAny_pure (h _ ⟨(hs2.2 _ (Ne.symm I.ne)).trans I.obj, hn2, I.ne⟩ hs2)
theorem make_map {R : Result → Shared → Prop} {vs : List Value} {kw : List (Str × Value)} (X : K.In s.heap) (hm : PySem.W.makesIn K C = true)
  (hi : PySem.W.findIn K (.ref C) "__init__" = some (some (.ref f))) (hf : PySem.W.typeIn K (.ref f) = some (.type "function"))
  (h : codeAny (model prog w) (A.under (.builtin "type.__call__" ⟨.ref C :: vs, kw⟩)) (.call (.ref f) ⟨.ref (s.heap.objs.size + 1) :: vs, kw⟩) (PySem.W.InitBack (s.heap.objs.size + 1) R)
   { s with heap := (s.heap.push PySem.W.emptyDict).push (PySem.W.instObj C s.heap.objs.size) }) :
  codeAny (model prog w) A (.call (.ref C) ⟨vs, kw⟩) R s := by
 obtain ⟨hh, g, d, t, os⟩ := s
 exact PySem.W.make_core (PySem.W.makes_of X hm) (PySem.W.looks_findIn X hi) (fun self => PySem.W.bind_fn X self hf) (.inl rfl) h
theorem make_map0 {R : Result → Shared → Prop} (X : K.In s.heap) (hm : PySem.W.makesIn K C = true)
  (hi : PySem.W.findIn K (.ref C) "__init__" = some (some (.builtin "object.__init__")))
  (hb : ∀ self, PySem.W.Looks (model prog w) s.heap (bindSpecial (.builtin "object.__init__") self) (.builtin "object.__init__", [self]))
  (h : codeAny (model prog w) (A.under (.builtin "type.__call__" ⟨[.ref C], []⟩)) (.call (.builtin "object.__init__") ⟨[.ref (s.heap.objs.size + 1)], []⟩) (PySem.W.InitBack (s.heap.objs.size + 1) R)
   { s with heap := (s.heap.push PySem.W.emptyDict).push (PySem.W.instObj C s.heap.objs.size) }) :
  codeAny (model prog w) A (.call (.ref C) ⟨[], []⟩) R s := by
 obtain ⟨hh, g, d, t, os⟩ := s
 exact PySem.W.make_core (PySem.W.makes_of X hm) (PySem.W.looks_findIn X hi) hb (.inr ⟨rfl, rfl⟩) h
end
def putF (f : Str) (v : V) : List (Str × V) → List (Str × V)
 | [] => [(f, v)]
 | (g, x) :: r => if g = f then (g, v) :: r else (g, x) :: putF f v r
theorem lookup_putF (f g : Str) (v : V) : ∀ fs : List (Str × V), (putF f v fs).lookup g = if g = f then some v else fs.lookup g
 | [] => by
  show List.lookup g [(f, v)] = _
  by_cases h : g = f
  ·have hb : (g == f) = true := beq_iff_eq.mpr h
   simp only [List.lookup, hb, if_pos h]
  ·have hb : (g == f) = false := beq_eq_false_iff_ne.mpr h
   simp only [List.lookup, hb, if_neg h]
 | (k, x) :: r => by
  have ih := lookup_putF f g v r
  rw [show putF f v ((k, x) :: r) = (if k = f then (k, v) :: r else (k, x) :: putF f v r) from rfl]
  by_cases hk : k = f
  ·rw [if_pos hk]
   by_cases h : g = k
   ·have hb : (g == k) = true := beq_iff_eq.mpr h
    simp only [List.lookup, hb, if_pos (h.trans hk)]
   ·have hb : (g == k) = false := beq_eq_false_iff_ne.mpr h
    simp only [List.lookup, hb, if_neg (fun e : g = f => h (e.trans hk.symm))]
  ·rw [if_neg hk]
   by_cases h : g = k
   ·have hb : (g == k) = true := beq_iff_eq.mpr h
    simp only [List.lookup, hb, if_neg (fun e : g = f => hk (h.symm.trans e))]
   ·have hb : (g == k) = false := beq_eq_false_iff_ne.mpr h
    simp only [List.lookup, hb]
    exact ih
theorem keys_putF (f : Str) (v : V) : ∀ fs : List (Str × V), f ∈ (putF f v fs).map (·.1) ∧ ∀ g, g ∈ fs.map (·.1) → g ∈ (putF f v fs).map (·.1)
 | [] => ⟨by simp [putF], fun g h => by simp at h⟩
 | (k, x) :: r => by
  obtain ⟨i1, i2⟩ := keys_putF f v r
  rw [show putF f v ((k, x) :: r) = (if k = f then (k, v) :: r else (k, x) :: putF f v r) from rfl]
  by_cases hk : k = f
  ·rw [if_pos hk]
   subst hk
   exact ⟨by simp, fun g h => by simpa using h⟩
  ·rw [if_neg hk]
   refine ⟨?_, fun g h => ?_⟩
   ·rw [List.map_cons]
    exact List.mem_cons_of_mem _ i1
   ·rw [List.map_cons] at h ⊢
    rcases List.mem_cons.mp h with e | e
    ·exact List.mem_cons.mpr (.inl e)
    ·exact List.mem_cons_of_mem _ (i2 g e)
theorem length_putF (f : Str) (v : V) : ∀ fs : List (Str × V), (putF f v fs).length ≤ fs.length + 1
 | [] => by simp [putF]
 | (k, x) :: r => by
  have ih := length_putF f v r
  rw [show putF f v ((k, x) :: r) = (if k = f then (k, v) :: r else (k, x) :: putF f v r) from rfl]
  by_cases hk : k = f
  ·rw [if_pos hk, List.length_cons, List.length_cons]; omega
  ·rw [if_neg hk, List.length_cons, List.length_cons]; omega
theorem RelO.some_of {v : V} {o : Option Value} (r : RelO (some v) o) : ∃ u, o = some u ∧ RelV v u := by
 cases o with
 | none => exact (show False from r).elim
 | some u => exact ⟨u, rfl, r⟩
theorem RelO.none_of {o : Option Value} (r : RelO none o) : o = none := by
 cases o with
 | none => rfl
 | some u => exact (show False from r).elim
theorem handed_of {v : V} {u : Value} (r : RelV v u) : PySem.W.handedIn u = true := by
 cases v with
 | non => cases (show u = Value.none from r); rfl
 | bl b => cases (show u = Value.bool b from r); rfl
 | int i => obtain ⟨t, e⟩ := (show ∃ t, u = Value.int i t from r); cases e; rfl
 | str x => obtain ⟨t, e⟩ := (show ∃ t, u = Value.str x t from r); cases e; rfl
 | byt b => obtain ⟨t, e⟩ := (show ∃ t, u = Value.bytes b t from r); cases e; rfl
 | flt b => obtain ⟨t, e⟩ := (show ∃ t, u = Value.float b t from r); cases e; rfl
 | ref a => cases (show u = Value.ref a from r); rfl
 | ty n => cases (show u = Value.type n from r); rfl
section
variable {P : Program} {w : World} {H H' : Hp} {h h' : Heap} {a C dx : Addr} {fs fs' : List (Str × V)}
theorem ins_get (hok : HOk P w H h) (e : H a = some (.ins C dx fs)) : ∃ mA, ObjM h a dx C mA ∧ (∀ f, RelO (fs.lookup f) (mA f)) ∧ PySem.Within mA (fs.map (·.1)) ∧ fs.length ≤ 1000 ∧ H dx = some (.own a) := by
 obtain ⟨d, z, ne, ob, mA, n, r, q⟩ := (show ObjOk P w H h a (.ins C dx fs) from hok a _ e)
 exact ⟨mA, ⟨ob, n, ne⟩, r, q, z, d⟩
end
structure Cls (K : Frag) (C : Addr) : Prop where
 pg : PySem.W.plainGet K C Str.empty = true
 hd : PySem.W.hasDictIn K C = true
 po : PySem.W.plainOver K C = true
 sa : PySem.W.findIn K (.ref C) "__setattr__" = some (some (.builtin "object.__setattr__"))
theorem Cls.get {K : Frag} {C : Addr} (c : Cls K C) (f : Str) : PySem.W.plainGet K C f = true := c.pg
def NoAttr (K : Frag) (C : Addr) (f : Str) : Prop := PySem.W.findIn K (.ref C) f = some none
theorem NoAttr.taker {K : Frag} {C : Addr} {f : Str} (n : NoAttr K C f) : PySem.W.takerIn K C f = some none := by
 unfold PySem.W.takerIn
 rw [show PySem.W.findIn K (.ref C) f = some none from n]
 rfl
structure Con (K : Frag) (C : Addr) (f : Str) (v : V) (u : Value) : Prop where
 at_ : PySem.W.findIn K (.ref C) f = some (some u)
 rel : RelV v u
 get : PySem.W.specialIn K u "__get__" = some none
 cp : PySem.W.copiedNames.contains f = false
structure Meth (K : Frag) (C : Addr) (m : Str) (f : Addr) : Prop where
 at_ : PySem.W.findIn K (.ref C) m = some (some (.ref f))
 fn : PySem.W.isFn K (.ref f) = true
 kp : keepIn K (.ref f) = true
section
variable {X : Cx} {pins : List (Addr × Obj)} {σ : St} {H : Hp} {s : Shared} {a C dx : Addr} {fs : List (Str × V)} {f : Str} {v : V} {A : Around} {E : Value → Shared → Prop}
theorem getattr_ok {b : Bool} {Q : Value → Shared → Prop} (I : Inv X pins σ H s) (e : H a = some (.ins C dx fs)) (c : Cls X.K C) (n : NoAttr X.K C f) (l : fs.lookup f = some v)
  (h : ∀ u s', Inv X pins σ H s' → RelV v u → Q u s') : wpAny (model X.prog X.w) A (getAttr (.ref a) f b) Q E s := by
 obtain ⟨mA, O, r, _, _, _⟩ := ins_get I.hok e
 obtain ⟨u, hu, ru⟩ := RelO.some_of (v := v) (o := mA f) (by rw [← l]; exact r f)
 exact get_map I.kIn O (c.get f) c.hd n hu (handed_of ru) (h u _ (I.tok _) ru)
theorem getmeth_ok {m : Str} {g : Addr} {pl : Sem Bool} {Q : Value × List Value → Shared → Prop} (I : Inv X pins σ H s) (e : H a = some (.ins C dx fs)) (c : Cls X.K C) (k : Meth X.K C m g) (l : fs.lookup m = none)
  (h : Q (.ref g, [.ref a]) s) : wpAny (model X.prog X.w) A (getMethod (.ref a) m pl) Q E s := by
 obtain ⟨mA, O, r, _, _, _⟩ := ins_get I.hok e
 have hn : mA m = none := RelO.none_of (by rw [← l]; exact r m)
 exact get_meth I.kIn O (c.get m) k.at_ k.fn hn h
theorem setattr_ok {y : V} {u : Value} {Q : Unit → Shared → Prop} (I : Inv X pins σ H s) (e : H a = some (.ins C dx fs)) (c : Cls X.K C) (n : NoAttr X.K C f) (hl : fs.length < 1000) (ry : RelV y u)
  (h : ∀ s', Inv X pins σ (upd H a (.ins C dx (putF f y fs))) s' → Q () s') : wpAny (model X.prog X.w) A (setAttr (.ref a) f u) Q E s := by
 obtain ⟨mA, O, r, wi, _, ho⟩ := ins_get I.hok e
 have hz : (fs.map (·.1)).length ≤ sizeLine := by rw [List.length_map, sizeLine_eq]; omega
 refine set_map I.kIn O c.sa c.po n.taker c.hd wi hz fun h' O' sb => h _ ?_
 have hd : ∃ o, h'.get? dx = some o := let ⟨o, _, _, e', _⟩ := O'.ns; ⟨o, e'⟩
 refine I.write (x := a) (e := dx) (by rw [e]; exact True.intro) (.inr ho) (fun b q hb z => (sb.2 b hb).trans z) hd ?_
 refine ⟨by rw [upd_ne O.ne]; exact ho, ?_, O.ne, O'.obj, _, O'.ns, fun g => ?_, fun g hg => ?_⟩
 ·have := length_putF f y fs; omega
 ·show RelO ((putF f y fs).lookup g) (if g = f then some u else mA g)
  rw [lookup_putF]
  by_cases q : g = f
  ·rw [if_pos q, if_pos q]; exact ry
  ·rw [if_neg q, if_neg q]; exact r g
 ·by_cases q : g = f
  ·rw [q]; exact (keys_putF f y fs).1
  ·refine (keys_putF f y fs).2 g (wi g fun z => hg ?_)
   show (if g = f then some u else mA g) = none
   rw [if_neg q]; exact z
theorem Inv.made (I : Inv X pins σ H s) : Inv X pins σ (upd (upd H s.heap.objs.size (.own (s.heap.objs.size + 1))) (s.heap.objs.size + 1) (.ins C s.heap.objs.size []))
  { s with heap := (s.heap.push PySem.W.emptyDict).push (PySem.W.instObj C s.heap.objs.size) } := by
 have e1 : (s.heap.push PySem.W.emptyDict).get? s.heap.objs.size = some PySem.W.emptyDict := Heap.get?_push_size s.heap rfl
 have e2 : ((s.heap.push PySem.W.emptyDict).push (PySem.W.instObj C s.heap.objs.size)).get? (s.heap.objs.size + 1) = some (PySem.W.instObj C s.heap.objs.size) := by
  have := Heap.get?_push_size (s.heap.push PySem.W.emptyDict) (o := PySem.W.instObj C s.heap.objs.size) rfl
  rwa [Heap.size_push] at this
 have e3 : (s.heap.push PySem.W.emptyDict).Ns s.heap.objs.size (fun _ => none) := ⟨PySem.W.emptyDict, #[], _, e1, rfl, (fun e he => absurd he (by simp)), fun _ => rfl⟩
 have I1 := I.laid (a := s.heap.objs.size) (o := .own (s.heap.objs.size + 1)) (h' := s.heap.push PySem.W.emptyDict) (t' := s.toks) (fun b u q => Heap.get?_push_of_some _ q) (Nat.le_refl _) ⟨_, e1⟩
 refine I1.laid (a := s.heap.objs.size + 1) (o := .ins C s.heap.objs.size []) (t' := s.toks) (fun b u q => Heap.get?_push_of_some _ q) (Nat.le_of_eq (Heap.size_push _ _)) ?_
 have ne : s.heap.objs.size ≠ s.heap.objs.size + 1 := Nat.ne_of_lt (Nat.lt_succ_self _)
 refine ⟨by rw [upd_ne ne, upd_same], Nat.zero_le _, ne, e2, fun _ => none, (Heap.Ns1.of_empty e3).at fun o q => Heap.get?_push_of_some _ q, fun _ => True.intro, fun y hy => absurd rfl hy⟩
theorem attr_of {prog : Program} {w : World} {env : Env} {e : Expr} {f : Str} {pos : Pos} {s : Shared} {Q : Value → Shared → Prop} (hb : attributeBase e f env (eval e env) = eval e env)
  (h : wpAny (model prog w) A (eval e env) (fun o s₁ => wpAny (model prog w) A (getAttr o f true) Q E s₁) E s) : wpAny (model prog w) A (eval (.Attribute e f pos) env) Q E s :=
 Attribute_any_ h (by rw [arm_eval_Attribute, hb])
end
def tFld (K : Frag) (ta : TE) (f : Str) : TE := fun σ H Q => ta σ H fun x H1 => ∃ a C dx fs v, x = .ref a ∧ H1 a = some (.ins C dx fs) ∧ Cls K C ∧ NoAttr K C f ∧ fs.lookup f = some v ∧ Q v H1
def tCon (K : Frag) (ta : TE) (f : Str) : TE := fun σ H Q => ta σ H fun x H1 => ∃ a C dx fs v u, x = .ref a ∧ H1 a = some (.ins C dx fs) ∧ Cls K C ∧ Con K C f v u ∧ fs.lookup f = none ∧ Q v H1
def sFld (K : Frag) (ta tv : TE) (f : Str) : TS := fun D σ H => tv σ H fun y H1 => ta σ H1 fun x H2 => ∃ a C dx fs, x = .ref a ∧ H2 a = some (.ins C dx fs) ∧ Cls K C ∧ NoAttr K C f ∧ fs.length < 1000 ∧
 D.nx σ (upd H2 a (.ins C dx (putF f y fs)))
def InOp (X : Cx) (op : Operator) (rd : V → V → Hp → VK → Prop) : Prop :=
 ∀ (pins : List (Addr × Obj)) (s : Shared) (σ : St) (H : Hp) (x y : V) (u v : Value) (Q : VK), Inv X pins σ H s → RelV x u → RelV y v → rd x y H Q → wpAny (model X.prog X.w) X.A (inplaceOp op u v) (EP X pins σ Q) X.xe s
def sFldAug (K : Frag) (ta tv : TE) (rd : V → V → Hp → VK → Prop) (f : Str) : TS := fun D σ H => ta σ H fun x H1 => ∃ a C dx fs v, x = .ref a ∧ H1 a = some (.ins C dx fs) ∧ Cls K C ∧ NoAttr K C f ∧ fs.lookup f = some v ∧
 tv σ H1 fun y H2 => rd v y H2 fun z H3 => ∃ dx' fs', H3 a = some (.ins C dx' fs') ∧ fs'.length < 1000 ∧ D.nx σ (upd H3 a (.ins C dx' (putF f z fs')))
section
variable {X : Cx} {o e value : Expr} {f : Str} {pos pos' tpos : Pos} {ta tv : TE}
theorem pe_fld (he : PE X e ta) (hb : attributeBase e f X.env (eval e X.env) = eval e X.env) : PE X (.Attribute e f pos) (tFld X.K ta f) := by
 intro pins s σ H Q I h
 refine attr_of hb (thn (he pins s σ H _ I h) fun u s1 ⟨x, H1, I1, rx, a, C, dx, fs, v, ex, ea, c, n, l, q⟩ => ?_)
 subst ex
 obtain rfl : u = Value.ref a := rx
 exact getattr_ok I1 ea c n l fun u' s2 I2 ru => ⟨v, H1, I2, ru, q⟩
theorem ps_fld (ha : PE X o ta) (hv : PE X value tv) (hs : swapsWith value (some (.Attribute o f pos')) pos.line X.env = pure false) : PS X (.Assign [.Attribute o f pos'] value pos) (sFld X.K ta tv f) := by
 intro pins s σ H D I h
 refine plainObj_wpAny_Assign_Attribute (thn (hv pins s σ H _ I h) fun u s1 ⟨y, H1, I1, ry, q⟩ => thn (ha pins s1 σ H1 _ I1 q) fun ov s2 ⟨x, H2, I2, rx, a, C, dx, fs, ex, ea, c, n, l, q2⟩ => ?_) hs
 subst ex
 obtain rfl : ov = Value.ref a := rx
 exact setattr_ok I2 ea c n l ry fun s3 I3 => ⟨σ, _, I3, q2⟩
def rAdd : V → V → Hp → VK → Prop := fun x y H Q => ∃ i j, x = .int i ∧ y = .int j ∧ Q (.int (i + j)) H
def rSub : V → V → Hp → VK → Prop := fun x y H Q => ∃ i j, x = .int i ∧ y = .int j ∧ Q (.int (i - j)) H
end
section
variable {X : Cx} {pins : List (Addr × Obj)} {σ : St} {H : Hp} {s : Shared} {A : Around} {E : Value → Shared → Prop} {Q : Value → Shared → Prop} {c : Value} {b : Bool}
inductive TyOf (K : Frag) (H : Hp) : V → Value → Prop where
 | non : TyOf K H .non (.type "NoneType")
 | bl (x : Bool) : TyOf K H (.bl x) (.type "bool")
 | int (i : Int) : TyOf K H (.int i) (.type "int")
 | str (x : Str) : TyOf K H (.str x) (.type "str")
 | flt (x : UInt64) : TyOf K H (.flt x) (.type "float")
 | lst {a : Addr} {xs : List V} (e : H a = some (.lst xs)) : TyOf K H (.ref a) (.type "list")
 | frz {a : Addr} {o : Obj} {xs : List V} (e : H a = some (.frz o (.lst xs))) : TyOf K H (.ref a) (.type "list")
 | tup {a : Addr} {xs : List V} (e : H a = some (.tup xs)) : TyOf K H (.ref a) (.type "tuple")
 | dK {a : Addr} {kvs : List (Key × V)} (e : H a = some (.dK kvs)) : TyOf K H (.ref a) (.type "dict")
 | dT {a : Addr} {kvs : List (List Key × V)} (e : H a = some (.dT kvs)) : TyOf K H (.ref a) (.type "dict")
 | ins {a C dx : Addr} {fs : List (Str × V)} (e : H a = some (.ins C dx fs)) (cl : Cls K C) (ha : PySem.W.findIn K (.ref C) "__class__" = some (some (.builtin "object.__class__")))
   (hn : PySem.W.specialIn K (.builtin "object.__class__") "__get__" = some (some (.builtin "getset_descriptor.__get__"))) (htk : PySem.W.takesIn K (.builtin "object.__class__") = some true)
   (hm : PySem.W.mroIn K C (.type "object") = some true) : TyOf K H (.ref a) (.ref C)
theorem isinst_ok {x : V} {u t : Value} (I : Inv X pins σ H s) (rx : RelV x u) (ty : TyOf X.K H x t) (e : PySem.W.kitOne X.K t c = some b) (h : ∀ tk, Q (.bool b) { s with toks := tk }) :
  wpAny (model X.prog X.w) A (call (.builtin "isinstance") [u, c]) Q E s := by
 cases ty with
 | non => cases (show u = Value.none from rx); exact PySem.W.kia_one PySem.W.kitx_none I.kIn True.intro e (fun z => nomatch z) h
 | bl y => cases (show u = Value.bool y from rx); exact PySem.W.kia_one PySem.W.kitx_bool I.kIn True.intro e (fun z => nomatch z) h
 | int i => obtain ⟨t, q⟩ := (show ∃ t, u = Value.int i t from rx); cases q; exact PySem.W.kia_one PySem.W.kitx_int I.kIn True.intro e (fun z => nomatch z) h
 | str y => obtain ⟨t, q⟩ := (show ∃ t, u = Value.str y t from rx); cases q; exact PySem.W.kia_one PySem.W.kitx_str I.kIn True.intro e (fun z => nomatch z) h
 | flt y => obtain ⟨t, q⟩ := (show ∃ t, u = Value.float y t from rx); cases q; exact PySem.W.kia_one PySem.W.kitx_float I.kIn True.intro e (fun z => nomatch z) h
 | @lst a xs ea =>
  cases (show u = Value.ref a from rx)
  obtain ⟨_, _, n, _, h1⟩ := (show ObjOk X.prog X.w H s.heap a (.lst xs) from I.hok a _ ea)
  exact PySem.W.kia_one PySem.W.kitx_list I.kIn ⟨_, h1, rfl⟩ e (fun z => nomatch z) h
 | @frz a ob xs ea =>
  cases (show u = Value.ref a from rx)
  obtain ⟨_, _, _, n, _, h1⟩ := (show ObjOk X.prog X.w H s.heap a (.frz ob (.lst xs)) from I.hok a _ ea)
  exact PySem.W.kia_one PySem.W.kitx_list I.kIn ⟨_, h1, rfl⟩ e (fun z => nomatch z) h
 | @tup a xs ea =>
  cases (show u = Value.ref a from rx)
  obtain ⟨_, _, _, p⟩ := (show ObjOk X.prog X.w H s.heap a (.tup xs) from I.hok a _ ea)
  obtain ⟨o, h1, h2, _⟩ := p
  exact PySem.W.kia_one PySem.W.kitx_tuple I.kIn ⟨o, h1, h2⟩ e (fun z => nomatch z) h
 | @dK a kvs ea =>
  cases (show u = Value.ref a from rx)
  obtain ⟨_, _, vs, _, p⟩ := (show ObjOk X.prog X.w H s.heap a (.dK kvs) from I.hok a _ ea)
  obtain ⟨o, es, ep, h1, h2, _⟩ := p
  exact PySem.W.kia_one PySem.W.kitx_dict I.kIn ⟨o, h1, h2.1⟩ e (fun z => nomatch z) h
 | @dT a kvs ea =>
  cases (show u = Value.ref a from rx)
  obtain ⟨_, _, xs, _, o, es, ep, h1, h2, _⟩ := (show ObjOk X.prog X.w H s.heap a (.dT kvs) from I.hok a _ ea)
  exact PySem.W.kia_one PySem.W.kitx_dict I.kIn ⟨o, h1, h2.1⟩ e (fun z => nomatch z) h
 | @ins a C dx fs ea cl ha hn htk hm =>
  cases (show u = Value.ref a from rx)
  obtain ⟨mA, O, _⟩ := ins_get I.hok ea
  obtain ⟨od, J, _⟩ := O.look
  exact PySem.W.kia_one (PySem.W.kitx_own (cl.get _) cl.hd ha hn htk hm) I.kIn J e (fun z => nomatch z) h
end
end L2
namespace L2
open PySem PySem.Spec PyProof.Rows
structure Room (k : Nat) (A : Around) : Prop where
 hd : A.handled = none
 dp : A.depth + 3 * k + 5 < recursionLimit
 un : A.units + 16 * k + 200 < cLine
theorem Room.mono {j k : Nat} {A : Around} (r : Room k A) (h : j ≤ k) : Room j A := ⟨r.hd, by have := r.dp; omega, by have := r.un; omega⟩
theorem Room.deeper {k : Nat} {A : Around} (r : Room (k + 1) A) (env : Env) : Room k (A.deeper env) :=
 ⟨r.hd, by have := r.dp; show A.depth + 1 + 3 * k + 5 < _; omega, by have := r.un; show A.units + 3 + 16 * k + 200 < _; omega⟩
theorem make_depth {A : Around} {C : Addr} {us : List Value} {kw : List (Str × Value)} : (A.under (.builtin "type.__call__" ⟨.ref C :: us, kw⟩)).depth = A.depth + 1 := by
 first | rfl | simp [Around.under, Code.weight, Code.isCreation, Code.isGuard, Code.isCaller, Code.frames, Code.isFrame, guardIds]
theorem make_units {A : Around} {C : Addr} {us : List Value} {kw : List (Str × Value)} : (A.under (.builtin "type.__call__" ⟨.ref C :: us, kw⟩)).units = A.units + 1 := by
 first | rfl | simp [Around.under, Code.cUnits, Code.frames, Code.isFrame]
theorem Room.make {k : Nat} {A : Around} (r : Room (k + 1) A) (C : Addr) (us : List Value) (kw : List (Str × Value)) : Room k (A.under (.builtin "type.__call__" ⟨.ref C :: us, kw⟩)) :=
 ⟨r.hd, by have := r.dp; rw [make_depth]; omega, by have := r.un; rw [make_units]; omega⟩
theorem Room.depth {k : Nat} {A : Around} (r : Room k A) : A.depth < recursionLimit := by have := r.dp; omega
theorem Room.units {k : Nat} {A : Around} (r : Room k A) : A.units + 64 < cLine := by have := r.un; omega
def tNil : TA := fun _ H Q => Q [] H
def tCons (ta : TE) (tr : TA) : TA := fun σ H Q => ta σ H fun x H1 => tr σ H1 fun xs H2 => Q (x :: xs) H2
section
variable {X : Cx} {e : Expr} {es : List Expr} {te : TE} {t : TA} {pos : Pos}
theorem pa_nil : PA X [] tNil := fun _ _ _ _ H Q I h => Calls.spliced_nil ⟨[], H, I, .nil, h⟩
theorem pa_cons (ha : PE X e te) (hr : PA X es t) (hs : starEach (e :: es) X.env = (false, eval e X.env) :: starEach es X.env := by rfl) : PA X (e :: es) (tCons te t) := by
 intro pos pins s σ H Q I h
 rw [hs]
 show wpAny _ _ (spliced ((false, eval e X.env) :: backTo pos (starEach es X.env))) _ _ s
 refine Calls.spliced_cons (thn (ha pins s σ H _ I h) fun u s1 ⟨x, H1, I1, r1, q1⟩ => ?_)
 exact thn (hr pos pins s1 σ H1 _ I1 q1) fun us s2 ⟨xs, H2, I2, r2, q2⟩ => ⟨x :: xs, H2, I2, .cons r1 r2, q2⟩
def tTup (t : TA) : TE := fun σ H Q => t σ H fun xs H1 => xs.length ≤ sizeLine ∧ ∀ p, H1 p = none → Q (.ref p) (upd H1 p (.tup xs))
def tLst (t : TA) : TE := fun σ H Q => t σ H fun xs H1 => xs.length ≤ sizeLine ∧ ∀ p, H1 p = none → Q (.ref p) (upd H1 p (.lst xs))
theorem pe_tup {x1} (h : PA X es t) : PE X (.Tuple es x1 pos) (tTup t) := by
 intro pins s σ H Q I hq
 refine wpAny_Tuple_spliced (thn (h pos pins s σ H _ I hq) fun us s1 ⟨xs, H1, I1, r, z, q⟩ => ⟨by rw [← r.length]; exact z, ?_⟩)
 have hf : H1 s1.heap.objs.size = none := I1.hok.fresh (Nat.le_refl _)
 refine ⟨.ref s1.heap.objs.size, upd H1 s1.heap.objs.size (.tup xs), I1.laid (t' := s1.toks) (fun b u e => Heap.get?_push_of_some _ e) (Nat.le_refl _) ?_, rfl, q _ hf⟩
 exact ⟨z, us, r, ⟨_, Heap.get?_push_size _ rfl, rfl, _, rfl⟩⟩
theorem pe_lst (h : PA X es t) : PE X (.List es pos) (tLst t) := by
 intro pins s σ H Q I hq
 refine wpAny_List_spliced (thn (h pos pins s σ H _ I hq) fun us s1 ⟨xs, H1, I1, r, z, q⟩ => ⟨by rw [← r.length]; exact z, ?_⟩)
 have hf : H1 s1.heap.objs.size = none := I1.hok.fresh (Nat.le_refl _)
 refine ⟨.ref s1.heap.objs.size, upd H1 s1.heap.objs.size (.lst xs), I1.laid (t' := s1.toks) (fun b u e => Heap.get?_push_of_some _ e) (Nat.le_refl _) ?_, rfl, q _ hf⟩
 exact ⟨z, us, 0, r, Heap.get?_push_size _ rfl⟩
end
abbrev Sp := List V → Hp → VK → XK → Prop
abbrev CXT := List Env → Hp → Shared → XK → Value → Shared → Prop
structure Env0 (P : Program) (w : World) (K : Frag) (mg : Str → Option Value) (base : Heap) (A : Around) (outer : List Env) (s : Shared) (H : Hp) : Prop where
 frames : A.frames = some outer
 mod : Mod K mg base
 bs : ∀ b o, base.get? b = some o → s.heap.get? b = some o ∧ H b = none
 bsz : base.objs.size ≤ s.heap.objs.size
 funs : s.heap.FunFrames base outer
 frf : ∀ b ∈ frs outer, H b = none
 hok : HOk P w H s.heap
 bare : AllBare s.gens
def CE (outer : List Env) (P : Program) (w : World) (H : Hp) (s : Shared) (Q : VK) (u : Value) (s' : Shared) : Prop :=
 ∃ v H', s'.os = s.os ∧ AllBare s'.gens ∧ Un (frs outer) [] H H' s.heap s'.heap ∧ HOk P w H' s'.heap ∧ RelV v u ∧ Q v H'
def CR (CX : CXT) (outer : List Env) (P : Program) (w : World) (H : Hp) (s : Shared) (Q : VK) (E : XK) (r : Result) (s' : Shared) : Prop :=
 match r with
 | .ok (.ret u) => CE outer P w H s Q u s'
 | .ok _ => False
 | .error e => CX outer H s E e s'
structure FnOk (P : Program) (w : World) (K : Frag) (mg : Str → Option Value) (base : Heap) (CX : CXT) (k : Nat) (f : Addr) (fd : FuncData) (ps : List Str) (sp : Sp) : Prop where
 len : ∀ vs H Q E, sp vs H Q E → vs.length = ps.length
 run : ∀ (A : Around) (outer : List Env) (s : Shared) (H : Hp) (args : Args) (us : List Value) (vs : List V) (Q : VK) (E : XK), Room k A → Env0 P w K mg base A outer s H → BindsTo s fd args (ps.zip us) → Vals vs us → sp vs H Q E →
  codeAny (model P w) A (.call (.ref f) args) (CR CX outer P w H s Q E) s
theorem FnOk.mono {P : Program} {w : World} {K : Frag} {mg : Str → Option Value} {base : Heap} {CX : CXT} {j k : Nat} {f : Addr} {fd : FuncData} {ps : List Str} {sp : Sp} (F : FnOk P w K mg base CX j f fd ps sp) (h : j ≤ k) :
  FnOk P w K mg base CX k f fd ps sp := ⟨F.len, fun A outer s H args us vs Q E hr => F.run A outer s H args us vs Q E (hr.mono h)⟩
theorem FnOk.imp {P : Program} {w : World} {K : Frag} {mg : Str → Option Value} {base : Heap} {CX : CXT} {k : Nat} {f : Addr} {fd : FuncData} {ps : List Str} {sp sp' : Sp} (F : FnOk P w K mg base CX k f fd ps sp)
  (h : ∀ vs H Q E, sp' vs H Q E → sp vs H Q E) : FnOk P w K mg base CX k f fd ps sp' :=
 ⟨fun vs H Q E q => F.len vs H Q E (h _ _ _ _ q), fun A outer s H args us vs Q E hr he hb hv hs => F.run A outer s H args us vs Q E hr he hb hv (h _ _ _ _ hs)⟩
theorem Env0.make {P : Program} {w : World} {K : Frag} {mg : Str → Option Value} {base : Heap} {A : Around} {outer : List Env} {s : Shared} {H : Hp} (e : Env0 P w K mg base A outer s H) (C : Addr) (us : List Value) (kw : List (Str × Value)) :
  Env0 P w K mg base (A.under (.builtin "type.__call__" ⟨.ref C :: us, kw⟩)) outer s H := ⟨by first | exact e.frames | (simpa [Around.under, Code.envs, Code.isFrame, pushEnvs] using e.frames), e.mod, e.bs, e.bsz, e.funs, e.frf, e.hok, e.bare⟩
section
variable {X : Cx} {pins : List (Addr × Obj)} {σ : St} {H : Hp} {s s' : Shared}
theorem Inv.env0 (I : Inv X pins σ H s) : Env0 X.prog X.w X.K X.mg X.base X.A X.stack s H :=
 ⟨I.ok.frames, I.ok.mod, I.bs, Nat.le_trans I.ok.bsz I.sz, I.stack, I.stkFree, I.hok, I.bare⟩
theorem Inv.after {Q : VK} {u : Value} (I : Inv X pins σ H s) (h : CE X.stack X.prog X.w H s Q u s') : EP X pins σ Q u s' := by
 obtain ⟨v, H', os, bare, un, hok, r, q⟩ := h
 obtain ⟨hh, g, d, t, os'⟩ := s'
 obtain rfl : os' = s.os := os
 exact ⟨v, H', I.call (h' := hh) (g' := g) (d' := d) (t' := t) (ch := []) un hok bare (fun b z => absurd z (by simp)), r, q⟩
end
def tCall (sp : Sp) (dvs : List V) (E : XK) (t : TA) : TE := fun σ H Q => t σ H fun vs H1 => sp (vs ++ dvs) H1 Q E
def tMeth (C : Addr) (m : Str) (sp : Sp) (dvs : List V) (E : XK) (ta : TE) (t : TA) : TE := fun σ H Q => ta σ H fun x H1 => ∃ a dx fs, x = .ref a ∧ H1 a = some (.ins C dx fs) ∧ fs.lookup m = none ∧
 t σ H1 fun vs H2 => sp (x :: (vs ++ dvs)) H2 Q E
def tMake (C : Addr) (sp : Sp) (dvs : List V) (E : XK) (t : TA) : TE := fun σ H Q => t σ H fun vs H1 => ∀ x dx, H1 x = none → H1 dx = none → dx ≠ x →
 sp (.ref x :: (vs ++ dvs)) (upd (upd H1 dx (.own x)) x (.ins C dx [])) (fun v H2 => v = .non ∧ Q (.ref x) H2) E
def Binds (K : Frag) (fd : FuncData) (ps : List Str) (ds : List Value) : Prop :=
 ∀ (s : Shared) (us : List Value), K.In s.heap → (us ++ ds).length = ps.length → BindsTo s fd ⟨us, []⟩ (ps.zip (us ++ ds))
theorem Binds.all {K : Frag} {fd : FuncData} {ps : List Str} (h : ∀ us : List Value, us.length = ps.length → bindArgs fd ⟨us, []⟩ = pure (ps.zip us)) : Binds K fd ps [] := fun s us _ hl => by
 rw [List.append_nil] at hl ⊢
 exact .of_eq (h us hl)
def Passes (CX : CXT) (X : Cx) (E : XK) : Prop := ∀ (pins : List (Addr × Obj)) (σ : St) (H : Hp) (s : Shared) (e : Value) (s' : Shared), Inv X pins σ H s → CX X.stack H s E e s' → X.xe e s'
section
variable {X : Cx} {CX : CXT} {k : Nat} {f C : Addr} {fd : FuncData} {ps : List Str} {sp : Sp} {dvs : List V} {ds : List Value} {E : XK} {x m : Str} {p pos apos : Pos} {e o : Expr} {es : List Expr} {ta : TE} {t : TA}
theorem run_fn {pins : List (Addr × Obj)} {σ : St} {H : Hp} {s : Shared} {Q : VK} {us : List Value} {vs : List V} (F : FnOk X.prog X.w X.K X.mg X.base CX k f fd ps sp) (hr : Room k X.A) (hb : Binds X.K fd ps ds) (hd : Vals dvs ds) (hx : Passes CX X E)
  (I : Inv X pins σ H s) (r : Vals vs us) (h : sp (vs ++ dvs) H Q E) : wpAny (model X.prog X.w) X.A (call (.ref f) us) (EP X pins σ Q) X.xe s := by
 have r2 : Vals (vs ++ dvs) (us ++ ds) := r.append hd
 have hl : (us ++ ds).length = ps.length := by rw [← r2.length]; exact F.len _ _ _ _ h
 refine wpAny_call (codeAny_mono (F.run X.A X.stack s H ⟨us, []⟩ (us ++ ds) (vs ++ dvs) Q E hr I.env0 (hb s us I.kIn hl) r2 h) fun r s' hq => ?_)
 cases r with
 | error e => exact hx pins σ H s e s' I hq
 | ok fl =>
  cases fl with
  | ret u => exact I.after hq
  | next => exact False.elim hq
  | brk => exact False.elim hq
  | cont => exact False.elim hq
theorem pe_call (F : FnOk X.prog X.w X.K X.mg X.base CX k f fd ps sp) (hr : Room k X.A) (hg : Gl X x) (hm : X.mg x = some (.ref f)) (hk : keepIn X.K (.ref f) = true) (hb : Binds X.K fd ps ds) (hd : Vals dvs ds) (hx : Passes CX X E)
  (ha : PA X (e :: es) t) (hdb : (x == ("__debug__" : Str)) = false := by decide) (he : starEach (e :: es) X.env = (false, eval e X.env) :: starEach es X.env := by rfl) (hpl : (backTo pos (starEach es X.env)).any (·.1) = false := by rfl) :
  PE X (.Call (.Name x p) (e :: es) [] pos) (tCall sp dvs E t) := by
 intro pins s σ H Q I h
 refine wpAny_Call_Name_kw (ld_glob I hg hm ?_ hdb)
 refine PySem.W.callWith_K (h₀ := X.base) I.ok.mod.kin hk (thn (ha pos pins s σ H _ I h) fun us s1 ⟨vs, H1, I1, r, q⟩ => ⟨I1.kIn, ?_⟩) he hpl
 exact run_fn F hr hb hd hx I1 r q
structure Mk (K : Frag) (C f : Addr) : Prop where
 makes : PySem.W.makesIn K C = true
 init : PySem.W.findIn K (.ref C) "__init__" = some (some (.ref f))
 fn : PySem.W.isFn K (.ref f) = true
 kp : keepIn K (.ref C) = true
theorem run_make {pins : List (Addr × Obj)} {σ : St} {H : Hp} {s : Shared} {Q : VK} {us : List Value} {vs : List V} (M : Mk X.K C f) (F : FnOk X.prog X.w X.K X.mg X.base CX k f fd ps sp) (hr : Room (k + 1) X.A) (hb : Binds X.K fd ps ds) (hd : Vals dvs ds)
  (hx : Passes CX X E) (I : Inv X pins σ H s) (r : Vals vs us)
  (h : ∀ x dx, H x = none → H dx = none → dx ≠ x → sp (.ref x :: (vs ++ dvs)) (upd (upd H dx (.own x)) x (.ins C dx [])) (fun v H2 => v = .non ∧ Q (.ref x) H2) E) :
  wpAny (model X.prog X.w) X.A (call (.ref C) us) (EP X pins σ Q) X.xe s := by
 have hq := h (s.heap.objs.size + 1) s.heap.objs.size (I.hok.fresh (Nat.le_succ _)) (I.hok.fresh (Nat.le_refl _)) (Nat.ne_of_lt (Nat.lt_succ_self _))
 have I2 := Inv.made (C := C) I
 have r2 : Vals (V.ref (s.heap.objs.size + 1) :: (vs ++ dvs)) (Value.ref (s.heap.objs.size + 1) :: (us ++ ds)) := .cons rfl (r.append hd)
 have hl : (Value.ref (s.heap.objs.size + 1) :: us ++ ds).length = ps.length := by
  have e := r2.length
  rw [F.len _ _ _ _ hq] at e
  exact e.symm
 refine wpAny_call (make_map (f := f) I.kIn M.makes M.init (beq_iff_eq.mp M.fn) (codeAny_mono (F.run _ X.stack _ _ ⟨Value.ref (s.heap.objs.size + 1) :: us, []⟩ (Value.ref (s.heap.objs.size + 1) :: (us ++ ds)) _ _ E (hr.make C us [])
  (I2.env0.make C us []) (hb _ (Value.ref (s.heap.objs.size + 1) :: us) I2.kIn hl) r2 hq) fun r s' hq' => ?_))
 cases r with
 | error e => exact hx pins σ _ _ e s' I2 hq'
 | ok fl =>
  cases fl with
  | ret u =>
   obtain ⟨v, H', I3, rv, ev, q3⟩ := I2.after hq'
   subst ev
   exact ⟨rv, ⟨V.ref (s.heap.objs.size + 1), H', I3, rfl, q3⟩⟩
  | next => exact False.elim hq'
  | brk => exact False.elim hq'
  | cont => exact False.elim hq'
theorem pe_make (M : Mk X.K C f) (F : FnOk X.prog X.w X.K X.mg X.base CX k f fd ps sp) (hr : Room (k + 1) X.A) (hg : Gl X x) (hm : X.mg x = some (.ref C)) (hb : Binds X.K fd ps ds) (hd : Vals dvs ds) (hx : Passes CX X E)
  (ha : PA X (e :: es) t) (hdb : (x == ("__debug__" : Str)) = false := by decide) (he : starEach (e :: es) X.env = (false, eval e X.env) :: starEach es X.env := by rfl) (hpl : (backTo pos (starEach es X.env)).any (·.1) = false := by rfl) :
  PE X (.Call (.Name x p) (e :: es) [] pos) (tMake C sp dvs E t) := by
 intro pins s σ H Q I h
 refine wpAny_Call_Name_kw (ld_glob I hg hm ?_ hdb)
 refine PySem.W.callWith_K (h₀ := X.base) I.ok.mod.kin M.kp (thn (ha pos pins s σ H _ I h) fun us s1 ⟨vs, H1, I1, r, q⟩ => ⟨I1.kIn, ?_⟩) he hpl
 exact run_make M F hr hb hd hx I1 r q
theorem pe_make0 (M : Mk X.K C f) (F : FnOk X.prog X.w X.K X.mg X.base CX k f fd ps sp) (hr : Room (k + 1) X.A) (hg : Gl X x) (hm : X.mg x = some (.ref C)) (hb : Binds X.K fd ps ds) (hd : Vals dvs ds) (hx : Passes CX X E)
  (hdb : (x == ("__debug__" : Str)) = false := by decide) : PE X (.Call (.Name x p) [] [] pos) (tMake C sp dvs E tNil) := by
 intro pins s σ H Q I h
 refine wpAny_Call_Name_kw (ld_glob I hg hm ?_ hdb)
 exact PySem.W.callWith_K0 I.kIn M.kp (run_make (us := []) M F hr hb hd hx I .nil h)
end
def PK (X : Cx) (kws : List Keyword) (t : TA) : Prop :=
 ∀ (pos : Pos) (pins : List (Addr × Obj)) (s : Shared) (σ : St) (H : Hp) (Q : List V → Hp → Prop), Inv X pins σ H s → t σ H Q → wpAny (model X.prog X.w) X.A (evalAll ((backToKw pos (keywordEach kws X.env)).map (·.2))) (AP X pins σ Q) X.xe s
section
variable {X : Cx} {CX : CXT} {k : Nat} {f C : Addr} {fd : FuncData} {ps ks : List Str} {sp : Sp} {E : XK} {x m : Str} {p pos apos kpos : Pos} {e o : Expr} {es : List Expr} {kws : List Keyword} {te ta : TE} {t tk : TA} {nm : Option Str}
structure KBinds (K : Frag) (fd : FuncData) (ps ks : List Str) (g : List Value → List Value → List Value) (gV : List V → List V → List V) : Prop where
 to : ∀ (s : Shared) (us ws : List Value), K.In s.heap → (g us ws).length = ps.length → BindsTo s fd ⟨us, ks.zip ws⟩ (ps.zip (g us ws))
 rel : ∀ {vs : List V} {us : List Value} {zs : List V} {ws : List Value}, Vals vs us → Vals zs ws → Vals (gV vs zs) (g us ws)
def tCallK (sp : Sp) (gV : List V → List V → List V) (E : XK) (t tk : TA) : TE := fun σ H Q => t σ H fun vs H1 => tk σ H1 fun zs H2 => sp (gV vs zs) H2 Q E
variable {g : List Value → List Value → List Value} {gV : List V → List V → List V}
end
structure FnScope (N P : List Str) (sc : Scope) : Prop where
 kind : sc.kind = .function
 co : sc.isCoroutine = false
 gen : sc.isGenerator = false
 nd : N.Nodup
 pre : N.take P.length = P
 par : ∀ x ∈ P, sc.names.lookup x = some .local ∨ sc.names.lookup x = some .cell
 nofree : ∀ y ∈ sc.names, y.2 ≠ .free
theorem bindL_out {kindOf : Str → Option NameKind} {x : Str} : ∀ {binds : List (Str × Value)} {m : Str → Option Value}, (∀ v, (x, v) ∉ binds) → bindL kindOf binds m x = m x
 | [], _, _ => rfl
 | (n, v) :: r, m, h => by
  unfold bindL
  rw [bindL_out fun w hw => h w (List.mem_cons_of_mem _ hw)]
  split
  ·have : x ≠ n := by rintro rfl; exact h v List.mem_cons_self
   simp [this]
  ·rfl
theorem bindC_out {kindOf : Str → Option NameKind} {x : Str} : ∀ {binds : List (Str × Value)} {m : Str → Option Value}, (∀ v, (x, v) ∉ binds) → bindC kindOf binds m x = m x
 | [], _, _ => rfl
 | (n, v) :: r, m, h => by
  unfold bindC
  rw [bindC_out fun w hw => h w (List.mem_cons_of_mem _ hw)]
  split
  ·rfl
  ·have : x ≠ n := by rintro rfl; exact h v List.mem_cons_self
   simp [this]
theorem bindL_get {kindOf : Str → Option NameKind} {x : Str} {v : Value} : ∀ {P : List Str} {vs : List Value} {i : Nat} {m : Str → Option Value}, P.Nodup → P[i]? = some x → vs[i]? = some v → kindOf x = some .local →
  bindL kindOf (P.zip vs) m x = some v
 | [], _, _, _, _, h, _, _ => by simp at h
 | _ :: _, [], _, _, _, _, h, _ => by simp at h
 | p :: P, w :: vs, 0, m, nd, h1, h2, hk => by
  simp at h1 h2; subst h1; subst h2
  show bindL kindOf ((p, w) :: P.zip vs) m p = _
  unfold bindL
  rw [bindL_out fun v hv => (List.nodup_cons.mp nd).1 (List.of_mem_zip hv).1, if_pos hk]
  simp
 | p :: P, w :: vs, i + 1, m, nd, h1, h2, hk => by
  show bindL kindOf ((p, w) :: P.zip vs) m x = _
  unfold bindL
  exact bindL_get (i := i) (List.nodup_cons.mp nd).2 (by simpa using h1) (by simpa using h2) hk
theorem bindC_get {kindOf : Str → Option NameKind} {x : Str} {v : Value} : ∀ {P : List Str} {vs : List Value} {i : Nat} {m : Str → Option Value}, P.Nodup → P[i]? = some x → vs[i]? = some v → kindOf x ≠ some .local →
  bindC kindOf (P.zip vs) m x = some v
 | [], _, _, _, _, h, _, _ => by simp at h
 | _ :: _, [], _, _, _, _, h, _ => by simp at h
 | p :: P, w :: vs, 0, m, nd, h1, h2, hk => by
  simp at h1 h2; subst h1; subst h2
  show bindC kindOf ((p, w) :: P.zip vs) m p = _
  unfold bindC
  rw [bindC_out fun v hv => (List.nodup_cons.mp nd).1 (List.of_mem_zip hv).1, if_neg hk]
  simp
 | p :: P, w :: vs, i + 1, m, nd, h1, h2, hk => by
  show bindC kindOf ((p, w) :: P.zip vs) m x = _
  unfold bindC
  exact bindC_get (i := i) (List.nodup_cons.mp nd).2 (by simpa using h1) (by simpa using h2) hk
def start (N : List Str) (vs : List V) : St := vs.map some ++ List.replicate (N.length - vs.length) none
def cxOf (CX : CXT) (P : Program) (w : World) (K : Frag) (mg : Str → Option Value) (base : Heap) (N : List Str) (qual : Str) (scope : Scope) (f : Addr) (cd : Value) (A : Around) (outer : List Env) (s : Shared) (H : Hp) (E : XK) : Cx where
 prog := P
 w := w
 K := K
 mg := mg
 base := base
 A := A.deeper (envOfC qual scope s.heap.objs.size f cd)
 N := N
 s₀ := s
 H₀ := H
 env := envOfC qual scope s.heap.objs.size f cd
 outer := outer
 stack := envOfC qual scope s.heap.objs.size f cd :: outer
 ex := []
 calm := true
 fn := fun _ => true
 pn := []
 xe := fun e s' => wpAny (model P w) (A.deeper (envOfC qual scope s.heap.objs.size f cd)) (leaving (envOfC qual scope s.heap.objs.size f cd) e) (fun _ s'' => CX outer H s E e s'') (fun e' s'' => CX outer H s E e' s'') s'
theorem cell_has {sc : Scope} {n : Nat} {x : Str} (h : sc.names.lookup x = some .cell) : ∃ c, (cellsFrom n sc.names []).lookup x = some c := by
 have q := PySem.W.cellsFrom_some sc.names n [] (.inl h)
 exact Option.isSome_iff_exists.mp q
theorem inv_start {CX : CXT} {P : Program} {w : World} {K : Frag} {mg : Str → Option Value} {base : Heap} {N ps : List Str} {qual : Str} {scope : Scope} {f : Addr} {cd : Value} {A : Around} {outer : List Env} {s s1 : Shared} {H : Hp} {E : XK} {us : List Value} {vs : List V}
  (S : FnScope N ps scope) (hd : A.handled = none) (e0 : Env0 P w K mg base A outer s H) (hl : vs.length = ps.length) (r : Vals vs us)
  (x : InCallC s s.heap.objs.size (bindL (envOfC qual scope s.heap.objs.size f cd).kindOf (ps.zip us) fun _ => none) (cellsFrom (s.heap.objs.size + 1) scope.names []) (bindC (envOfC qual scope s.heap.objs.size f cd).kindOf (ps.zip us) fun _ => none) s1) :
  Inv (cxOf CX P w K mg base N qual scope f cd A outer s H E) [] (start N vs) H s1 := by
 have hpl : ps.length ≤ N.length := by have := congrArg List.length S.pre; rw [List.length_take] at this; omega
 obtain ⟨h1, tk, rfl, hk⟩ := x.done
 have noA : ∀ b : Addr, b ∉ (cxOf CX P w K mg base N qual scope f cd A outer s H E).ex := fun b z => absurd (show b ∈ ([] : List Addr) from z) (by simp)
 refine ⟨⟨e0.mod, S.kind, rfl, rfl, Nat.le_refl _, fun y z c h1 h2 => ?_, fun y hy => ?_, fun y c _ h => ?_, fun _ => hd, Around.frames_deeper e0.frames, .inr ⟨rfl, rfl⟩, fun b z => absurd z (noA b), e0.bs, e0.bsz, fun b _ _ => noA b, fun b z => absurd z (noA b), e0.funs, e0.frf⟩,
  rfl, e0.bare, Un.kept hk, ⟨_, x.toInCall.ns, fun i y v h1 h2 h3 => ?_⟩, fun y c h => ⟨_, x.cell y c h⟩, e0.hok.fresh (Nat.le_refl _), fun y c h => ?_, fun p hp => absurd (show p ∈ ([] : List (Addr × Obj)) from hp) (by simp), e0.hok.kept hk, ?_⟩
 ·exact name_of_addr x.apart (PySem.mem_of_lookup h1) (PySem.mem_of_lookup h2)
 ·have hy : scope.names.lookup y = some .cell ∨ scope.names.lookup y = some .free := hy
  rcases hy with hy | hy
  ·exact cell_has hy
  ·exact absurd rfl (S.nofree _ (PySem.mem_of_lookup hy))
 ·exact Nat.le_of_lt (x.above y c (PySem.mem_of_lookup h))
 ·have hi : i < vs.length := by
   unfold start at h2
   by_cases hi : i < vs.length
   ·exact hi
   ·rw [List.getElem?_append_right (by simpa using hi)] at h2
    rw [List.getElem?_replicate] at h2
    split at h2 <;> cases h2
  have ha : vs[i]? = some v := by
   unfold start at h2
   rw [List.getElem?_append_left (by simpa using hi), List.getElem?_map] at h2
   cases e : vs[i]? with
   | none => rw [e] at h2; cases h2
   | some a => rw [e] at h2; cases h2; rfl
  obtain ⟨u, hu, rv⟩ := r.get ha
  have hp : ps[i]? = some y := by
   rw [← S.pre, List.getElem?_take_of_lt (by omega)]; exact h1
  have ndP : ps.Nodup := by rw [← S.pre]; exact S.nd.sublist (List.take_sublist _ _)
  refine ⟨u, rv, ?_⟩
  rcases S.par y (List.mem_of_getElem? hp) with k | k
  ·exact .inl ⟨k, bindL_get ndP hp hu k⟩
  ·obtain ⟨c, e⟩ := cell_has (n := s.heap.objs.size + 1) k
   refine .inr ⟨.inl k, c, e, ?_⟩
   have q := x.cell y c e
   rw [bindC_get ndP hp hu (by show scope.names.lookup y ≠ _; rw [k]; decide)] at q
   exact q
 ·exact e0.hok.fresh (Nat.le_of_lt (x.above y c (PySem.mem_of_lookup h)))
 ·unfold start
  show _ = N.length
  rw [List.length_append, List.length_map, List.length_replicate]
  omega
theorem fn_of {CX : CXT} {P : Program} {w : World} {K : Frag} {mg : Str → Option Value} {base : Heap} {k : Nat} {f : Addr} {name qual : Str} {params : Arguments} {body : List Stmt} {scope : Scope} {dV kV doc pm cdv ct oc : Value} {an od : Option Addr}
  {osl : Array (Option Value)} {N ps : List Str} {sp : Sp} (lk : K.lookup f = some ⟨oc, od, .func (fnOf name qual params body scope dV kV doc pm an cdv ct), osl⟩) (hcd : codeIn K cdv qual = true) (S : FnScope N ps scope)
  (len : ∀ vs H Q E, sp vs H Q E → vs.length = ps.length)
  (hbody : ∀ (A : Around) (outer : List Env) (s : Shared) (H : Hp) (vs : List V) (Q : VK) (E : XK), Room k (A.deeper (envOfC qual scope s.heap.objs.size f cdv)) → sp vs H Q E →
   ∃ t, PSs (cxOf CX P w K mg base N qual scope f cdv A outer s H E) body t ∧ t { nx := fun _ H' => Q .non H', rt := Q } (start N vs) H) :
  FnOk P w K mg base CX (k + 1) f (fnOf name qual params body scope dV kV doc pm an cdv ct) ps sp := by
 refine ⟨len, fun A outer s H args us vs Q E hr e0 hb r hsp => ?_⟩
 have hl := len _ _ _ _ hsp
 have KX : K.In s.heap := e0.mod.kin.keeps fun b o e => (e0.bs b o e).1
 have lim : s.heap.NoLimit := e0.mod.nolimit.keeps fun b o e => (e0.bs b o e).1
 have hkind : ∀ y ∈ ps.zip us, scope.names.lookup y.1 = some .local ∨ (scope.names.lookup y.1 = some .cell ∧ ((cellsFrom (s.heap.objs.size + 1) scope.names []).lookup y.1).isSome = true) := fun ⟨n, v⟩ hy => by
  rcases S.par n (List.of_mem_zip hy).1 with q | q
  ·exact .inl q
  ·exact .inr ⟨q, PySem.W.cellsFrom_some _ _ _ (.inl q)⟩
 refine codeAny_call_function hr.depth (KX _ _ lk) rfl S.co S.gen rfl (PySem.W.codeRec_of KX hcd) (hb _ _ _ _ ?_)
 refine wpAny_newFunctionEnv_cells S.kind hkind fun env he s1 x => ?_
 subst he
 refine ⟨lim.keeps x.toInCall.keep, codeAny_func ?_⟩
 obtain ⟨t, ht, hq⟩ := hbody A outer s H vs Q E (hr.deeper _) hsp
 have I : Inv (cxOf CX P w K mg base N qual scope f cdv A outer s H E) [] (start N vs) H s1 := inv_start S hr.hd e0 hl r x
 refine wpAny_mono (ht [] s1 (start N vs) H _ I hq) (fun fl s' hs => ?_) fun e s' hs => hs
 have fin : ∀ {σ' : St} {H' : Hp} {v : V} {u : Value}, Inv (cxOf CX P w K mg base N qual scope f cdv A outer s H E) [] σ' H' s' → RelV v u → Q v H' → CE outer P w H s Q u s' :=
  fun {σ' H' v u} J rv q => ⟨v, H', J.os, J.bare, J.base, J.hok, rv, q⟩
 cases fl with
 | ret u =>
  obtain ⟨v, σ', H', J, rv, q⟩ := hs
  exact fin J rv q
 | next =>
  obtain ⟨σ', H', J, q⟩ := hs
  exact fin (v := V.non) (u := Value.none) J rfl q
 | brk =>
  obtain ⟨_, _, _, q⟩ := hs
  exact False.elim q
 | cont =>
  obtain ⟨_, _, _, q⟩ := hs
  exact False.elim q
end L2
namespace L2
open PySem PySem.Spec PyProof.Rows
section
variable {X : Cx} {x : Str} {p pos : Pos} {e : Expr} {es : List Expr} {t : TA} {id T : String} {r : List V → Hp → VK → Prop}
def tCB (r : List V → Hp → VK → Prop) (t : TA) : TE := fun σ H Q => t σ H fun vs H1 => r vs H1 Q
theorem pe_callB (hc : CallR X (.builtin id) r) (hg : Gl X x) (hm : X.mg x = none) (hv : bootBuiltins x = some (.builtin id)) (ha : PA X (e :: es) t) (hn : x ≠ "__name__" := by decide) (hdb : (x == ("__debug__" : Str)) = false := by decide)
  (he : starEach (e :: es) X.env = (false, eval e X.env) :: starEach es X.env := by rfl) (hpl : (backTo pos (starEach es X.env)).any (·.1) = false := by rfl) : PE X (.Call (.Name x p) (e :: es) [] pos) (tCB r t) := by
 intro pins s σ H Q I h
 refine wpAny_Call_Name_kw (ld_blt I hg hm hv ?_ hn hdb)
 exact PyProof.Rows.callWith_builtin1 (thn (ha pos pins s σ H _ I h) fun us s1 ⟨vs, H1, I1, r1, q1⟩ => hc pins s1 σ H1 vs us Q I1 r1 q1) he hpl
theorem pe_callTy (hc : CallR X (.type T) r) (hg : Gl X x) (hm : X.mg x = none) (hv : bootBuiltins x = some (.type T)) (ha : PA X (e :: es) t) (hn : x ≠ "__name__" := by decide) (hdb : (x == ("__debug__" : Str)) = false := by decide)
  (he : starEach (e :: es) X.env = (false, eval e X.env) :: starEach es X.env := by rfl) (hpl : (backTo pos (starEach es X.env)).any (·.1) = false := by rfl) : PE X (.Call (.Name x p) (e :: es) [] pos) (tCB r t) := by
 intro pins s σ H Q I h
 refine wpAny_Call_Name_kw (ld_blt I hg hm hv ?_ hn hdb)
 exact PyProof.Rows.callWith_type1 (thn (ha pos pins s σ H _ I h) fun us s1 ⟨vs, H1, I1, r1, q1⟩ => hc pins s1 σ H1 vs us Q I1 r1 q1) he hpl
end
end L2
namespace HT
open PySem PyProof.Rows
def lexLt : List Int → List Int → Bool
 | [], [] => false
 | [], _ :: _ => true
 | _ :: _, [] => false
 | x :: xs, y :: ys => if x = y then lexLt xs ys else decide (x < y)
section
open PySem.SeqAt
open PySem.AutoSeq1 (wpAny_loadPart')
open PySem.MeetsSeq PySem.MeetsSeq2 PySem.MeetsSeq3
end
section
variable {prog : Program} {w : World} {A : Around} {E : Value → Shared → Prop} {s : Shared}
def sIx (n d : Nat) : Option Int → Nat
 | none => d
 | some v => if v < 0 then (v + (n : Int)).toNat else min v.toNat n
end
end HT
namespace L2
open PySem PySem.Spec PyProof.Rows
abbrev TO := St → Hp → (Option Int → Hp → Prop) → Prop
def PO (X : Cx) (e : Option Expr) (t : TO) : Prop :=
 ∀ (pins : List (Addr × Obj)) (s : Shared) (σ : St) (H : Hp) (Q : Option Int → Hp → Prop), Inv X pins σ H s → t σ H Q →
  wpAny (model X.prog X.w) X.A (evalPart e X.env) (fun u s' => ∃ o H', Inv X pins σ H' s' ∧ IsPart u o ∧ Q o H') X.xe s
def tNoPart : TO := fun _ H Q => Q none H
def tPart (t : TE) : TO := fun σ H Q => t σ H fun x H1 => ∃ i, x = .int i ∧ Q (some i) H1
section
variable {X : Cx} {e : Expr} {te : TE} {lo hi : Option Expr} {tl th : TO} {pos p2 : Pos}
theorem po_none : PO X none tNoPart := by
 intro pins s σ H Q I h
 rw [evalPart_none]
 exact wpAny_pure ⟨none, H, I, .none, h⟩
theorem po_some (h : PE X e te) : PO X (some e) (tPart te) := by
 intro pins s σ H Q I hw
 rw [evalPart_some]
 refine thn (h pins s σ H _ I hw) fun u s1 ⟨x, H1, I1, r1, q1⟩ => ?_
 obtain ⟨i, rfl, q⟩ := q1
 obtain ⟨t, rfl⟩ := r1
 exact ⟨some i, H1, I1, .int i t, q⟩
def SlR (X : Cx) (r : V → Option Int → Option Int → Hp → VK → Prop) : Prop :=
 ∀ (pins : List (Addr × Obj)) (s : Shared) (σ : St) (H : Hp) (x : V) (v vl vu : Value) (lo hi : Option Int) (sl : Addr) (Q : VK), Inv X pins σ H s → RelV x v → s.heap.IsSliceOf sl vl vu .none → IsPart vl lo → IsPart vu hi → r x lo hi H Q →
  ∃ T id, typeLookup (.type T) "__getitem__" = pure (some (.builtin id)) ∧ s.TypeIs v T ∧ wpAny (model X.prog X.w) X.A (getItem v (.ref sl)) (EP X pins σ Q) X.xe s
def tSl (r : V → Option Int → Option Int → Hp → VK → Prop) (te : TE) (tl th : TO) : TE := fun σ H Q => te σ H fun x H1 => tl σ H1 fun l H2 => th σ H2 fun u H3 => r x l u H3 Q
theorem pe_slice {r : V → Option Int → Option Int → Hp → VK → Prop} (hr : SlR X r) (he : PE X e te) (hl : PO X lo tl) (hu : PO X hi th) : PE X (.Subscript e (.Slice lo hi none p2) pos) (tSl r te tl th) := by
 intro pins s σ H Q I h
 refine Subscript_ (thn (he pins s σ H _ I h) fun v s1 ⟨x, H1, I1, r1, q1⟩ => ?_)
 refine wpAny_Slice (thn (hl pins s1 σ H1 _ I1 q1) fun vl s2 ⟨l, H2, I2, pl, q2⟩ => thn (hu pins s2 σ H2 _ I2 q2) fun vu s3 ⟨u, H3, I3, pu, q3⟩ => ?_)
 rw [evalPart_none]
 refine wpAny_pure ?_
 have I4 : Inv X pins σ H3 { s3 with heap := s3.heap.push { cls := .type "slice", data := .fields #[vl, vu, .none] } } := I3.kept (t' := s3.toks) fun b ob q => Heap.get?_push_of_some _ q
 obtain ⟨T, id, hT, ht, hg⟩ := hr pins { s3 with heap := s3.heap.push { cls := .type "slice", data := .fields #[vl, vu, .none] } } σ H3 x v vl vu l u s3.heap.objs.size Q I4 r1 (Heap.IsSliceOf.new ..) pl pu q3
 show wpAny (model X.prog X.w) X.A (subscriptTail e (.Slice lo hi none p2) v (.ref s3.heap.objs.size)) (EP X pins σ Q) X.xe { s3 with heap := s3.heap.push { cls := .type "slice", data := .fields #[vl, vu, .none] } }
 exact tail_any (ops := [.ref s3.heap.objs.size, v]) ht hT hg (by with_unfolding_all rfl)
def cutV (xs : List V) (lo hi : Option Int) : List V := (xs.drop (HT.sIx xs.length 0 lo)).take (HT.sIx xs.length xs.length hi - HT.sIx xs.length 0 lo)
def rSlT (K : Frag) : V → Option Int → Option Int → Hp → VK → Prop := fun x lo hi H Q => ∃ a xs, x = .ref a ∧ SqT K H a xs ∧
 ¬ (HT.sIx xs.length 0 lo = 0 ∧ HT.sIx xs.length xs.length hi = xs.length) ∧ ∀ p, H p = none → Q (.ref p) (upd H p (.tup (cutV xs lo hi)))
def rLtT (K : Frag) : R2 := fun x y H Q => ∃ a b ns ms, x = .ref a ∧ y = .ref b ∧ SqT K H a (ns.map V.int) ∧ SqT K H b (ms.map V.int) ∧ Q (.bl (HT.lexLt ns ms)) H
def rCatT (K : Frag) : R2 := fun x y H Q => ∃ a b xs ys, x = .ref a ∧ y = .ref b ∧ SqT K H a xs ∧ SqT K H b ys ∧ xs ≠ [] ∧ xs.length + ys.length ≤ sizeLine ∧
 (ys = [] → Q (.ref a) H) ∧ (ys ≠ [] → ∀ p, H p = none → Q (.ref p) (upd H p (.tup (xs ++ ys))))
end
end L2
namespace L2
open PySem PySem.Spec PyProof.Rows
def ixN (n : Nat) (i : Int) : Option Nat := if 0 ≤ i then (if i < n then some i.toNat else none) else if -(n : Int) ≤ i then some (i + n).toNat else none
def atI {α : Type} (xs : List α) (i : Int) : Option α := (ixN xs.length i).bind fun j => xs[j]?
theorem ixN_seq {n : Nat} {i : Int} {j : Nat} (h : ixN n i = some j) : seqIndex? i n = some j ∧ j < n ∧ -(n : Int) ≤ i ∧ i < n := by
 unfold ixN at h
 by_cases h0 : 0 ≤ i
 ·rw [if_pos h0] at h
  by_cases h1 : i < n
  ·rw [if_pos h1] at h
   have e : i.toNat = j := Option.some.inj h
   exact ⟨by rw [seqIndex_of h0 h1, e], by omega, by omega, h1⟩
  ·rw [if_neg h1] at h; cases h
 ·rw [if_neg h0] at h
  by_cases h1 : -(n : Int) ≤ i
  ·rw [if_pos h1] at h
   have e : (i + n).toNat = j := Option.some.inj h
   exact ⟨by rw [seqIndex_neg (by omega) h1, e], by omega, h1, by omega⟩
  ·rw [if_neg h1] at h; cases h
theorem atI_get {α : Type} {xs : List α} {i : Int} {v : α} (h : atI xs i = some v) : ∃ j, seqIndex? i xs.length = some j ∧ xs[j]? = some v ∧ j < xs.length ∧ -(xs.length : Int) ≤ i ∧ i < xs.length := by
 unfold atI at h
 cases e : ixN xs.length i with
 | none => rw [e] at h; cases h
 | some j =>
  rw [e] at h
  obtain ⟨h1, h2, h3, h4⟩ := ixN_seq e
  exact ⟨j, h1, h, h2, h3, h4⟩
theorem atI_nat {α : Type} {xs : List α} {j : Nat} {v : α} (h : xs[j]? = some v) : atI xs (j : Int) = some v := by
 have hj : j < xs.length := (List.getElem?_eq_some_iff.mp h).1
 have e : ixN xs.length (j : Int) = some j := by
  unfold ixN
  rw [if_pos (by omega), if_pos (by omega)]; simp
 unfold atI; rw [e]; exact h
def PlainIx (b : Expr) : Prop := ∀ o i, subscripted b false o i = operate [o, i] (getItem o i)
def IxR (X : Cx) (r : R2) : Prop :=
 ∀ (value slice : Expr) (pins : List (Addr × Obj)) (s : Shared) (σ : St) (H : Hp) (x y : V) (v u : Value) (Q : VK), Inv X pins σ H s → RelV x v → RelV y u → r x y H Q →
  subscripted slice false v u = operate [v, u] (getItem v u) → wpAny (model X.prog X.w) X.A (subscriptTail value slice v u) (EP X pins σ Q) X.xe s
def MtR (X : Cx) (id : String) (r : V → List V → Hp → VK → Prop) : Prop :=
 ∀ (pins : List (Addr × Obj)) (s : Shared) (σ : St) (H : Hp) (x : V) (xs : List V) (v : Value) (us : List Value) (Q : VK), Inv X pins σ H s → RelV x v → Vals xs us → r x xs H Q →
  wpAny (model X.prog X.w) X.A (call (.builtin id) (v :: us)) (EP X pins σ Q) X.xe s
section
variable {X : Cx} {a b : Expr} {ta tb : TE} {pos : Pos}
theorem pe_ix {r : R2} (hr : IxR X r) (ha : PE X a ta) (hb : PE X b tb) (hs : PlainIx b) : PE X (.Subscript a b pos) (tOp r ta tb) := by
 intro pins s σ H Q I h
 exact Subscript_ (binT ha hb I h fun v u s2 x y H2 I2 rx ry q => hr a b pins s2 σ H2 x y v u Q I2 rx ry q (hs _ _))
def rIxL (K : Frag) : R2 := fun x y H Q => ∃ p xs i v, x = .ref p ∧ y = .int i ∧ SqL K H p xs ∧ atI xs i = some v ∧ Q v H
def rIxT (K : Frag) : R2 := fun x y H Q => ∃ p xs i v, x = .ref p ∧ y = .int i ∧ SqT K H p xs ∧ atI xs i = some v ∧ Q v H
def rIxS : R2 := fun x y H Q => ∃ z i c, x = .str z ∧ y = .int i ∧ z.length ≤ sizeLine ∧ atI z.cps.toList i = some c ∧ Q (.str ⟨#[c]⟩) H
theorem ix_list : IxR X (rIxL X.K) := by
 intro value slice pins s σ H x y v u Q I rx ry h hs
 obtain ⟨p, xs, i, z, rfl, rfl, hq, he, q⟩ := h
 cases rx
 obtain ⟨t, rfl⟩ := ry
 obtain ⟨its, r, pl, hz⟩ := I.list hq
 obtain ⟨j, h1, h2, h3, h4, h5⟩ := atI_get he
 obtain ⟨w, ew, rw'⟩ := r.get h2
 have hl := r.length
 have hn := line63
 have fin : EP X pins σ Q w s := ⟨z, H, I, rw', q⟩
 by_cases h0 : 0 ≤ i
 ·have hj : i.toNat = j := by
   rw [seqIndex_of h0 h5] at h1
   exact Option.some.inj h1
  exact item_listR pl.isList h0 (by omega) (by rw [hj]; simpa using ew) fin hs
 ·have hj : (i + (its.toArray.size : Int)).toNat = j := by
   rw [seqIndex_neg (by omega) h4] at h1
   rw [List.size_toArray, ← hl]
   exact Option.some.inj h1
  exact subscriptTail_builtinR (x := w) pl.isList.typeIs slot_list_getitem.lookup
   (wpAny_getItem_list_neg (Q := fun r s' => r = w ∧ EP X pins σ Q r s') pl.isList (by omega) (by rw [List.size_toArray] <;> omega) (by omega) (by rw [hj]; simpa using ew) ⟨rfl, fin⟩) hs
theorem ix_tup : IxR X (rIxT X.K) := by
 intro value slice pins s σ H x y v u Q I rx ry h hs
 obtain ⟨p, xs, i, z, rfl, rfl, hq, he, q⟩ := h
 cases rx
 obtain ⟨t, rfl⟩ := ry
 obtain ⟨its, r, pl, hz⟩ := I.tuple hq
 obtain ⟨j, h1, h2, h3, h4, h5⟩ := atI_get he
 obtain ⟨w, ew, rw'⟩ := r.get h2
 have hl := r.length
 have hn := line63
 have fin : EP X pins σ Q w s := ⟨z, H, I, rw', q⟩
 exact subscriptTail_builtinR (x := w) pl.typeIs slot_tuple_getitem.lookup
  (getItem_tuple (j := j) (Q := fun r s' => r = w ∧ EP X pins σ Q r s') pl (by omega) (by omega) (by rw [List.size_toArray, ← hl]; exact h1) (by simpa using ew) ⟨rfl, fin⟩) hs
theorem ix_str : IxR X rIxS := by
 intro value slice pins s σ H x y v u Q I rx ry h hs
 obtain ⟨z, i, c, rfl, rfl, hz, he, q⟩ := h
 obtain ⟨t, rfl⟩ := rx
 obtain ⟨t', rfl⟩ := ry
 obtain ⟨j, h1, h2, h3, h4, h5⟩ := atI_get he
 have hl : z.cps.toList.length = z.length := by simp [Str.length]
 rw [hl] at h1 h4 h5
 have hn := line63
 exact tail_any (typeIs_str s z t) slot_str_getitem.lookup (getItem_str (c := c) (by
  have e1 : decide (i < -(2 ^ 63 : Int)) = false := decide_eq_false (by omega)
  have e2 : decide (i ≥ 2 ^ 63) = false := decide_eq_false (by omega)
  rw [e1, e2, Bool.or_false]) (by rw [h1]; simpa using h2) ⟨.str ⟨#[c]⟩, H, I.tok _, ⟨_, rfl⟩, q⟩) hs
def rIx (K : Frag) : R2 := fun x y H Q => rIxL K x y H Q ∨ rIxT K x y H Q ∨ rIxS x y H Q
theorem mapSeq_set (its : List Value) (n j : Nat) (u : Value) : Obj.mapSeq (·.setIfInBounds j u) { cls := .type "list", data := .seq its.toArray n } = { cls := .type "list", data := .seq (its.set j u).toArray n } := by
 simp [Obj.mapSeq]
theorem Inv.lst {pins : List (Addr × Obj)} {σ : St} {H : Hp} {s : Shared} {p : Addr} {xs : List V} (I : Inv X pins σ H s) (h : H p = some (.lst xs)) :
  ∃ (its : List Value) (n : Nat), Vals xs its ∧ s.heap.get? p = some { cls := .type "list", data := .seq its.toArray n } ∧ xs.length ≤ sizeLine := by
 obtain ⟨z, its, n, r, e⟩ := I.hok p _ h
 exact ⟨its, n, r, e, z⟩
theorem Inv.lstUpd {pins : List (Addr × Obj)} {σ : St} {H : Hp} {s : Shared} {p : Addr} {xs ys : List V} {its its' : List Value} {n n' : Nat} {f : Obj → Obj} (I : Inv X pins σ H s) (h : H p = some (.lst xs))
  (ho : s.heap.get? p = some { cls := .type "list", data := .seq its.toArray n }) (hf : f { cls := .type "list", data := .seq its.toArray n } = { cls := .type "list", data := .seq its'.toArray n' }) (r : Vals ys its') (hz : ys.length ≤ sizeLine) (t : Nat) :
  Inv X pins σ (upd H p (.lst ys)) { s with heap := s.heap.update p f, toks := t } := by
 have e : (s.heap.update p f).get? p = some { cls := .type "list", data := .seq its'.toArray n' } := by
  rw [Heap.get?_update_self f ho (by rw [hf] <;> rfl), hf]
 refine I.write (x := p) (e := p) (by rw [h]; trivial) (.inl rfl) (fun b u hb q => (Heap.get?_update_other _ _ (Ne.symm hb)).trans q) ⟨_, e⟩ ?_
 exact ⟨hz, its', n', r, e⟩
def rSetL : V → V → V → Hp → (Hp → Prop) → Prop := fun o i v H Q => ∃ p xs k j, o = .ref p ∧ i = .int k ∧ H p = some (.lst xs) ∧ ixN xs.length k = some j ∧ Q (upd H p (.lst (xs.set j v)))
theorem set_list : PSet X rSetL := by
 intro pins s σ H o i v ov iv u Q I ro ri rv h
 obtain ⟨p, xs, k, j, rfl, rfl, hp, hj, q⟩ := h
 cases ro
 obtain ⟨t, rfl⟩ := ri
 obtain ⟨its, n, r, ho, hz⟩ := I.lst hp
 obtain ⟨h1, h2, h3, h4⟩ := ixN_seq hj
 have hl := r.length
 have hn := line63
 have I' : Inv X pins σ (upd H p (.lst (xs.set j v))) { s with heap := s.heap.update p (Obj.mapSeq (·.setIfInBounds j u)) } :=
  I.lstUpd hp ho (mapSeq_set its n j u) (r.set rv j) (by rw [List.length_set]; exact hz) s.toks
 by_cases h0 : 0 ≤ k
 ·have hk : k.toNat = j := by
   rw [seqIndex_of h0 h4] at h1
   exact Option.some.inj h1
  exact PySem.W.ki_setAt ho h0 (by omega) (by rw [List.size_toArray, ← hl]; exact h4) (by rw [hk]; exact ⟨_, I', q⟩)
 ·have hk : (k + (its.toArray.size : Int)).toNat = j := by
   rw [seqIndex_neg (by omega) h3] at h1
   rw [List.size_toArray, ← hl]
   exact Option.some.inj h1
  exact PySem.W.ki_setBack ho (by omega) (by rw [List.size_toArray, ← hl]; exact h3) (by omega) (by rw [hk]; exact ⟨_, I', q⟩)
def rSlL (K : Frag) : V → Option Int → Option Int → Hp → VK → Prop := fun x lo hi H Q => ∃ a xs, x = .ref a ∧ SqL K H a xs ∧ ∀ p, H p = none → Q (.ref p) (upd H p (.lst (cutV xs lo hi)))
def flatV : V → Bool
 | .non => true
 | .bl _ => true
 | .int _ => true
 | .str _ => true
 | _ => false
def eqV : V → V → Bool
 | .non, .non => true
 | .bl a, .bl b => a == b
 | .bl a, .int b => (if a then 1 else 0) == b
 | .int a, .bl b => a == (if b then 1 else 0)
 | .int a, .int b => a == b
 | .str a, .str b => a == b
 | _, _ => false
theorem eqAt_V {A : Around} {s : Shared} {y x : V} {u v : Value} (ry : RelV y u) (rx : RelV x v) (fy : flatV y = true) (fx : flatV x = true) : SeqAt.EqAt A s u v (eqV y x) := by
 cases y with
 | non =>
  cases ry
  cases x with
  | non => cases rx; exact SeqAt.EqAt.same _
  | bl b => cases rx; exact SeqAt.EqAt.none_bool b
  | int b => obtain ⟨t, rfl⟩ := rx; exact SeqAt.EqAt.none_int b t
  | str b => obtain ⟨t, rfl⟩ := rx; exact SeqAt.EqAt.none_str b t
  | _ => exact absurd (show false = true from fx) Bool.false_ne_true
 | bl a =>
  cases ry
  cases x with
  | non => cases rx; exact SeqAt.EqAt.bool_none a
  | bl b => cases rx; exact SeqAt.EqAt.bool_bool a b
  | int b => obtain ⟨t, rfl⟩ := rx; exact SeqAt.EqAt.bool_int a b t
  | str b => obtain ⟨t, rfl⟩ := rx; exact SeqAt.EqAt.bool_str a b t
  | _ => exact absurd (show false = true from fx) Bool.false_ne_true
 | int a =>
  obtain ⟨t', rfl⟩ := ry
  cases x with
  | non => cases rx; exact SeqAt.EqAt.int_none a t'
  | bl b => cases rx; exact SeqAt.EqAt.int_bool a t' b
  | int b => obtain ⟨t, rfl⟩ := rx; exact SeqAt.EqAt.int_int a t' b t
  | str b => obtain ⟨t, rfl⟩ := rx; exact SeqAt.EqAt.int_str a t' b t
  | _ => exact absurd (show false = true from fx) Bool.false_ne_true
 | str a =>
  obtain ⟨t', rfl⟩ := ry
  cases x with
  | non => cases rx; exact SeqAt.EqAt.str_none a t'
  | bl b => cases rx; exact SeqAt.EqAt.str_bool a t' b
  | int b => obtain ⟨t, rfl⟩ := rx; exact SeqAt.EqAt.str_int a t' b t
  | str b => obtain ⟨t, rfl⟩ := rx; exact SeqAt.EqAt.str_str a t' b t
  | _ => exact absurd (show false = true from fx) Bool.false_ne_true
 | _ => exact absurd (show false = true from fy) Bool.false_ne_true
def eqU (x : V) (u : Value) : Bool := match u with
 | .none => eqV .non x
 | .bool b => eqV (.bl b) x
 | .int i _ => eqV (.int i) x
 | .str z _ => eqV (.str z) x
 | _ => false
theorem eqU_of {x y : V} {u : Value} (r : RelV y u) (f : flatV y = true) : eqU x u = eqV y x := by
 cases y with
 | non => cases r; rfl
 | bl b => cases r; rfl
 | int i => obtain ⟨t, rfl⟩ := r; rfl
 | str z => obtain ⟨t, rfl⟩ := r; rfl
 | _ => exact absurd (show false = true from f) Bool.false_ne_true
theorem any_eqU {x : V} : ∀ {xs : List V} {us : List Value}, Vals xs us → xs.all flatV = true → us.any (eqU x) = xs.any fun y => eqV y x
 | _, _, .nil, _ => rfl
 | y :: xs, u :: us, .cons r t, f => by
  rw [List.all_cons, Bool.and_eq_true] at f
  rw [List.any_cons, List.any_cons, eqU_of r f.1, any_eqU t f.2]
theorem mem_eqAt {A : Around} {s : Shared} {x : V} {v : Value} (rx : RelV x v) (fx : flatV x = true) : ∀ {xs : List V} {us : List Value}, Vals xs us → xs.all flatV = true → ∀ u ∈ us, SeqAt.EqAt A s u v (eqU x u)
 | _, _, .nil, _ => fun u hu => by cases hu
 | y :: xs, u :: us, .cons r t, f => fun u' hu => by
  rw [List.all_cons, Bool.and_eq_true] at f
  rcases List.mem_cons.mp hu with rfl | hu
  ·rw [eqU_of r f.1]; exact eqAt_V r rx f.1 fx
  ·exact mem_eqAt rx fx t f.2 u' hu
def inV (x : V) (xs : List V) : Bool := xs.any fun y => eqV y x
def rIn (K : Frag) (neg : Bool) : R2 := fun x y H Q => ∃ p xs, y = .ref p ∧ (SqL K H p xs ∨ SqT K H p xs) ∧ flatV x = true ∧ xs.all flatV = true ∧ Q (.bl (if neg then !inV x xs else inV x xs)) H
theorem op_in_seq : OpR X (compareOp .In) (rIn X.K false) := by
 intro pins s σ H x y v u Q I rx ry h
 obtain ⟨p, xs, rfl, hq, fx, fs, q⟩ := h
 cases ry
 rcases hq with hq | hq
 ·obtain ⟨its, r, pl, hz⟩ := I.list hq
  refine SeqAt.in_listAt (eqU x) pl.isList (fun w hw => mem_eqAt rx fx r fs w (by simpa using hw)) ⟨.bl _, H, I, rfl, ?_⟩
  rw [show its.toArray.any (eqU x) = its.any (eqU x) by simp, any_eqU r fs]
  exact q
 ·obtain ⟨its, r, pl, hz⟩ := I.tuple hq
  refine SeqAt.in_tupleAt (eqU x) pl (fun w hw => mem_eqAt rx fx r fs w (by simpa using hw)) ⟨.bl _, H, I, rfl, ?_⟩
  rw [show its.toArray.any (eqU x) = its.any (eqU x) by simp, any_eqU r fs]
  exact q
theorem call_len_seq : CallR X (.builtin "len") (fun xs H Q => ∃ p ys, xs = [.ref p] ∧ (SqL X.K H p ys ∨ SqT X.K H p ys) ∧ Q (.int ys.length) H) := by
 intro pins s σ H xs us Q I r h
 obtain ⟨p, ys, rfl, hq, q⟩ := h
 obtain ⟨u, rfl, rx⟩ := vals1 r
 cases rx
 have hn := line63
 rcases hq with hq | hq
 ·obtain ⟨its, r', pl, hz⟩ := I.list hq
  have hlen := r'.length
  exact Calls.call_len_list pl.isList (by simp only [List.size_toArray] <;> omega) ⟨.int ys.length, H, I.tok _, ⟨s.toks + 1, by rw [List.size_toArray, hlen]⟩, q⟩
 ·obtain ⟨its, r', pl, hz⟩ := I.tuple hq
  have hlen := r'.length
  exact len_tuple pl (by simp only [List.size_toArray] <;> omega) ⟨.int ys.length, H, I.tok _, ⟨s.toks + 1, by rw [List.size_toArray, hlen]⟩, q⟩
theorem call_len_str : CallR X (.builtin "len") (fun xs H Q => ∃ z, xs = [.str z] ∧ z.length ≤ sizeLine ∧ Q (.int z.length) H) := by
 intro pins s σ H xs us Q I r h
 obtain ⟨z, rfl, hz, q⟩ := h
 obtain ⟨u, rfl, t, rfl⟩ := vals1 r
 have hn := line63
 exact len_str (by omega) ⟨.int z.length, H, I.tok _, ⟨_, rfl⟩, q⟩
theorem call_list_of : CallR X (.type "list") (fun xs H Q => ∃ p ys, xs = [.ref p] ∧ (SqL X.K H p ys ∨ SqT X.K H p ys) ∧ ∀ l, H l = none → Q (.ref l) (upd H l (.lst ys))) := by
 intro pins s σ H xs us Q I r h
 obtain ⟨p, ys, rfl, hq, q⟩ := h
 obtain ⟨u, rfl, rx⟩ := vals1 r
 cases rx
 have fin : ∀ (its : List Value), Vals ys its → ys.length ≤ sizeLine → ∀ (h' : Heap) (c' : Nat), (∀ b o', s.heap.get? b = some o' → h'.get? b = some o') →
   h'.get? s.heap.objs.size = some { cls := .type "list", dict := none, data := .seq its.toArray c', slots := #[] } → EP X pins σ Q (.ref s.heap.objs.size) { s with heap := h' } := fun its r' hz h' c' kp e =>
  ⟨.ref s.heap.objs.size, _, I.laid (t' := s.toks) kp (Nat.le_refl _) (show ObjOk X.prog X.w _ h' _ (.lst ys) from ⟨hz, its, c', r', e⟩), rfl, q _ (I.hok.fresh (Nat.le_refl _))⟩
 rcases hq with hq | hq
 ·obtain ⟨its, r', pl, hz⟩ := I.list hq
  have hlen := r'.length
  obtain ⟨o, ho, hc, n, hd⟩ := pl.isList
  exact call_list_seq p (.inl rfl) ho hc hd (fun h' c' kp e => fin its r' hz h' c' kp e) (by simp only [List.size_toArray] <;> omega)
 ·obtain ⟨its, r', pl, hz⟩ := I.tuple hq
  have hlen := r'.length
  obtain ⟨o, ho, hc, n, hd⟩ := pl
  exact call_list_seq p (.inr rfl) ho hc hd (fun h' c' kp e => fin its r' hz h' c' kp e) (by simp only [List.size_toArray] <;> omega)
def tyV (K : Frag) (T : String) (x : V) (H : Hp) : Prop := match x with
 | .str _ => T = "str"
 | .int _ => T = "int"
 | .ref p => (T = "list" ∧ ∃ xs, SqL K H p xs) ∨ (T = "tuple" ∧ ∃ o, K.lookup p = some o ∧ o.cls = .type "tuple" ∧ o.dict = none) ∨
   (T = "dict" ∧ ((∃ kvs, H p = some (.dK kvs)) ∨ ∃ kvs, H p = some (.dT kvs))) ∨ (T = "set" ∧ ∃ S n, H p = some (.set S n))
 | _ => False
theorem tyV_is {pins : List (Addr × Obj)} {σ : St} {H : Hp} {s : Shared} {T : String} {x : V} {v : Value} (I : Inv X pins σ H s) (r : RelV x v) (ty : tyV X.K T x H) :
  s.TypeIs v T ∧ ∀ a, v = .ref a → ∃ ob, s.heap.get? a = some ob ∧ ob.dict = none := by
 cases x with
 | str z =>
  obtain ⟨t, rfl⟩ := r
  cases (show T = "str" from ty)
  exact ⟨typeIs_str s z t, fun _ e => nomatch e⟩
 | int i =>
  obtain ⟨t, rfl⟩ := r
  cases (show T = "int" from ty)
  exact ⟨typeIs_int s i t, fun _ e => nomatch e⟩
 | ref p =>
  cases r
  rcases ty with ⟨rfl, xs, hq⟩ | ⟨rfl, o, hk, hc, hd⟩ | ⟨rfl, hk⟩ | ⟨rfl, S, n, hk⟩
  ·obtain ⟨its, _, pl, _⟩ := I.list hq
   refine ⟨pl.isList.typeIs, fun a e => ?_⟩
   cases e
   obtain ⟨o, n, e, c, hd, _⟩ := pl
   exact ⟨o, e, hd⟩
  ·refine ⟨⟨o, I.kIn p o hk, hc⟩, fun a e => ?_⟩
   cases e
   exact ⟨o, I.kIn _ o hk, hd⟩
  ·have z : ∃ o, s.heap.get? p = some o ∧ o.ExactDict := by
    rcases hk with ⟨kvs, hk⟩ | ⟨kvs, hk⟩
    ·obtain ⟨_, _, _, _, o, _, _, e, ex, _⟩ := I.hok p _ hk
     exact ⟨o, e, ex⟩
    ·obtain ⟨_, _, _, _, o, _, _, e, ex, _⟩ := I.hok p _ hk
     exact ⟨o, e, ex⟩
   obtain ⟨o, e, ex⟩ := z
   refine ⟨⟨o, e, ex.1⟩, fun a e2 => ?_⟩
   cases e2
   exact ⟨o, e, ex.2.1⟩
  ·obtain ⟨o, _, _, _, e, ex, _⟩ := I.hok p _ hk
   refine ⟨⟨o, e, ex.1⟩, fun a e2 => ?_⟩
   cases e2
   exact ⟨o, e, ex.2.1⟩
 | _ => exact False.elim ty
def tBM0 (K : Frag) (T : String) (r : V → List V → Hp → VK → Prop) (to : TE) : TE := fun σ H Q => to σ H fun x H1 => tyV K T x H1 ∧ r x [] H1 Q
def tBM (K : Frag) (T : String) (r : V → List V → Hp → VK → Prop) (to : TE) (t : TA) : TE := fun σ H Q => to σ H fun x H1 => tyV K T x H1 ∧ t σ H1 fun xs H2 => r x xs H2 Q
variable {o e : Expr} {es : List Expr} {to : TE} {t : TA} {name : Str} {apos cpos : Pos} {T id : String} {r : V → List V → Hp → VK → Prop}
theorem pe_bm (pa : PlainAttrs T) (slot : Slot T name id) (hty : typeOf (.builtin id) = pure (.type "method_descriptor")) (hm : MtR X id r) (ho : PE X o to) (ha : PA X (e :: es) t)
  (hbase : attributeBase o name X.env (eval o X.env) = eval o X.env := by rfl)
  (hfew : ((backTo cpos (starEach (e :: es) X.env)).all (fun x => !x.1) && (backToKw cpos (keywordEach [] X.env)).all (fun x => x.1.isSome)
   && decide ((e :: es).length + ([] : List Keyword).length + (if ([] : List Keyword).isEmpty then 0 else 1) < 30)) = true := by rfl)
  (hline : (apos.endLine == cpos.line) = true := by rfl) (hs : starEach (e :: es) X.env = (false, eval e X.env) :: starEach es X.env := by rfl) (hplain : (backTo cpos (starEach es X.env)).any (·.1) = false := by rfl) :
  PE X (.Call (.Attribute o name apos) (e :: es) [] cpos) (tBM X.K T r to t) := by
 intro pins s σ H Q I h
 refine wpAny_Call_method_late hbase hfew hline rfl (thn (ho pins s σ H _ I h) fun v s1 ⟨x, H1, I1, r1, ty, q1⟩ => ?_)
 obtain ⟨h1, h2⟩ := tyV_is I1 r1 ty
 refine ⟨T, id, pa, slot, hty, h1, h2, ?_⟩
 have hA := ha cpos pins s1 σ H1 _ I1 q1
 rw [hs] at hA ⊢
 refine Calls.callWith_builtin (by show (false || (backTo cpos (starEach es X.env)).any (·.1)) = false; rw [hplain] <;> rfl) (Calls.evalArgs_plain ?_)
 exact thn hA fun us s2 ⟨vs, H2, I2, r2, q2⟩ => hm pins s2 σ H2 x vs v us Q I2 r1 r2 q2
end
end L2
namespace L2
open PySem PySem.Spec PyProof.Rows
def MtM (X : Cx) (id : String) (r : V → List V → Hp → VK → Prop) : Prop :=
 ∀ (pins : List (Addr × Obj)) (s : Shared) (σ : St) (H : Hp) (x : V) (xs : List V) (v : Value) (us : List Value) (Q : VK), Inv X pins σ H s → RelV x v → Vals xs us → r x xs H Q →
  wpAny (model X.prog X.w) X.A (call (.builtin id) (v :: us)) (EP X pins σ Q) X.xe s
theorem Vals.one : ∀ {x : V} {us : List Value}, Vals [x] us → ∃ u, us = [u] ∧ RelV x u
 | _, _, .cons r .nil => ⟨_, rfl, r⟩
theorem Vals.eraseIdx : ∀ {xs : List V} {us : List Value} (i : Nat), Vals xs us → Vals (xs.eraseIdx i) (us.eraseIdx i)
 | _, _, _, .nil => .nil
 | _, _, 0, .cons _ t => t
 | _, _, i + 1, .cons r t => .cons r (Vals.eraseIdx i t)
theorem len_erase {α : Type} : ∀ (l : List α) (i : Nat), (l.eraseIdx i).length ≤ l.length
 | [], _ => Nat.le_refl _
 | _ :: _, 0 => Nat.le_succ _
 | _ :: r, i + 1 => Nat.succ_le_succ (len_erase r i)
section
variable {X : Cx} {pins : List (Addr × Obj)} {σ : St} {H : Hp} {s : Shared} {l b : Addr} {xs ys zs : List V}
theorem Inv.lset {its its' : List Value} {n : Nat} {f : Array Value → Array Value} {t' : Nat} (I : Inv X pins σ H s) (hH : H l = some (.lst xs))
  (e : s.heap.get? l = some { cls := .type "list", data := .seq its.toArray n }) (hf : f its.toArray = its'.toArray) (hv : Vals ys its') (hz : ys.length ≤ sizeLine) :
  Inv X pins σ (upd H l (.lst ys)) { s with heap := s.heap.update l (Obj.mapSeq f), toks := t' } := by
 have q := PySem.IsL.update e f
 rw [hf] at q
 refine I.write (x := l) (e := l) (by rw [hH]; exact trivial) (.inl rfl) (fun b' u hb hu => (Heap.get?_update_other s.heap (Obj.mapSeq f) (Ne.symm hb)).trans hu) ⟨_, q⟩ ?_
 exact ⟨hz, its', _, hv, q⟩
theorem Inv.lnew {its : List Value} {t' : Nat} (I : Inv X pins σ H s) (hv : Vals ys its) (hz : ys.length ≤ sizeLine) :
  Inv X pins σ (upd H s.heap.objs.size (.lst ys)) { s with heap := s.heap.push { cls := .type "list", data := .seq its.toArray }, toks := t' } :=
 I.laid (fun _ _ q => Heap.get?_push_of_some _ q) (Nat.le_refl _) ⟨hz, its, 0, hv, Heap.get?_push_size _ rfl⟩
theorem Inv.lstM (I : Inv X pins σ H s) (hH : H l = some (.lst xs)) : xs.length ≤ sizeLine ∧ ∃ (its : List Value) (n : Nat), Vals xs its ∧ xs.length = its.length ∧ s.heap.get? l = some { cls := .type "list", data := .seq its.toArray n } := by
 obtain ⟨z, its, n, r, e⟩ := I.hok l _ hH
 exact ⟨z, its, n, r, r.length, e⟩
end
section
variable {X : Cx}
def rAppend : V → List V → Hp → VK → Prop := fun x vs H Q => ∃ l xs y, x = .ref l ∧ vs = [y] ∧ H l = some (.lst xs) ∧ xs.length < sizeLine ∧ Q .non (upd H l (.lst (xs ++ [y])))
theorem mt_append : MtM X "list.append" rAppend := by
 intro pins s σ H x vs v us Q I rx rv h
 obtain ⟨l, xs, y, rfl, rfl, hH, hz, q⟩ := h
 cases rx
 obtain ⟨u, rfl, ru⟩ := rv.one
 obtain ⟨z, its, n, r, hl, e⟩ := I.lstM hH
 refine call_meets F.slot_list_append ⟨_, e, rfl⟩ F.entry_list_append (F.args_list_append_2 _ _) (PySem.list_append l its.toArray n u (by rw [List.size_toArray]; omega)) ⟨e, ?_⟩
 refine ⟨.non, _, I.lset (its' := its ++ [u]) hH e (by simp) (r.append (.cons ru .nil)) ?_, rfl, q⟩
 rw [List.length_append, List.length_singleton]
 omega
def rExtend : V → List V → Hp → VK → Prop := fun x vs H Q => ∃ l b xs zs, x = .ref l ∧ vs = [.ref b] ∧ H l = some (.lst xs) ∧ H b = some (.lst zs) ∧ xs.length + zs.length ≤ sizeLine ∧ Q .non (upd H l (.lst (xs ++ zs)))
def rPop : V → List V → Hp → VK → Prop := fun x vs H Q => ∃ l xs y, x = .ref l ∧ vs = [] ∧ H l = some (.lst xs) ∧ xs[xs.length - 1]? = some y ∧ Q y (upd H l (.lst xs.dropLast))
def rPopAt : V → List V → Hp → VK → Prop := fun x vs H Q => ∃ l xs i k y, x = .ref l ∧ vs = [.int i] ∧ H l = some (.lst xs) ∧ -(2 ^ 63) ≤ i ∧ i < 2 ^ 63 ∧ seqIndex? i xs.length = some k ∧ xs[k]? = some y ∧ Q y (upd H l (.lst (xs.eraseIdx k)))
theorem mt_popAt : MtM X "list.pop" rPopAt := by
 intro pins s σ H x vs v us Q I rx rv h
 obtain ⟨l, xs, i, k, y, rfl, rfl, hH, h1, h2, hk, hy, q⟩ := h
 cases rx
 obtain ⟨u, rfl, ru⟩ := rv.one
 obtain ⟨t, rfl⟩ := ru
 obtain ⟨z, its, n, r, hl, e⟩ := I.lstM hH
 obtain ⟨w, hw, rw'⟩ := r.get hy
 refine call_meets F.slot_list_pop ⟨_, e, rfl⟩ F.entry_list_pop (F.args_list_pop_2 _ _)
  (MeetsSeq.list_pop_at l its.toArray n i t k w (fitsIndex_both h1 h2) (by rw [List.size_toArray, ← hl]; exact hk) (by rw [← Array.getElem?_toList]; exact hw) (by rw [List.size_toArray]; omega)) ⟨e, ?_⟩
 refine ⟨y, _, I.lset (its' := its.eraseIdx k) hH e ?_ (r.eraseIdx k) ?_, rw', q⟩
 ·show its.toArray.eraseIdxIfInBounds k = (its.eraseIdx k).toArray
  rw [List.eraseIdxIfInBounds_toArray]
 ·have := len_erase xs k
  omega
def rReverse : V → List V → Hp → VK → Prop := fun x vs H Q => ∃ l xs, x = .ref l ∧ vs = [] ∧ H l = some (.lst xs) ∧ Q .non (upd H l (.lst xs.reverse))
def rClear : V → List V → Hp → VK → Prop := fun x vs H Q => ∃ l xs, x = .ref l ∧ vs = [] ∧ H l = some (.lst xs) ∧ Q .non (upd H l (.lst []))
def rCat : R2 := fun x y H Q => ∃ l b xs zs, x = .ref l ∧ y = .ref b ∧ H l = some (.lst xs) ∧ H b = some (.lst zs) ∧ xs.length + zs.length ≤ sizeLine ∧ ∀ p, H p = none → Q (.ref p) (upd H p (.lst (xs ++ zs)))
def rRep : R2 := fun x y H Q => ∃ l k xs, x = .ref l ∧ y = .int k ∧ H l = some (.lst xs) ∧ -(2 ^ 63) ≤ k ∧ k < 2 ^ 63 ∧ xs.length * k.toNat ≤ sizeLine ∧
 ∀ p, H p = none → Q (.ref p) (upd H p (.lst (List.replicate k.toNat xs).flatten))
end
section
variable {prog : Program} {w : World} {A : Around} {E : Value → Shared → Prop} {s : Shared}
set_option maxRecDepth 100000 in
end
section
variable {X : Cx}
end
end L2
namespace Att
open PySem PySem.W PySem.Calls PyProof.Rows
theorem ints_of_wellAll {P : Params} {h : Heap} : ∀ (ns : List Int) (vs : List Value), WellAll P h vs (ns.map WData.int) → IntsAre vs ns := by
 intro ns
 induction ns with
 | nil =>
  intro vs w
  rw [List.map_nil] at w
  cases w
  exact .nil
 | cons n ns ih =>
  intro vs w
  rw [List.map_cons] at w
  cases w with
  | cons a b =>
   cases a
   exact .cons _ _ (ih _ b)
theorem script_of {l : OpenLaw} {n : Nat} (hn : l.most = some n) {P : Params} {h : Heap} {args : List WData} {vals : List Value}
  (hpre : l.row.toRowW.claim.pre args = true) (hwl : WellAll P h vals args) :
  ∃ a vs ns, vals = [Value.ref a] ∧ args = [WData.list (ns.map WData.int)] ∧ h.get? a = some { cls := .type "list", data := .seq vs.toArray } ∧ IntsAre vs ns ∧ ns.length ≤ n := by
 have hsh : WShape.hasAll [] args [.list .int] = true := (pre_splitW hpre).1
 have hc : l.pre.holds [] { args := args } = true := (pre_splitW hpre).2
 obtain ⟨d, r, rfl, h1, h2⟩ := hasAllW_cons hsh
 obtain rfl := hasAllW_nil h2
 obtain ⟨xs, rfl, h3⟩ := hasW_list h1
 obtain ⟨ns, rfl⟩ := items_int h3
 have hlen : ns.length ≤ n := by
  unfold OpenLaw.pre at hc
  have h4 : (WTm.not (.lt (.lit (.int (n : Int))) (.len (.arg 0)))).holds [] { args := [.list (ns.map .int)] } = true := by
   have h4 := (holds_andW hc).1
   rw [hn] at h4
   exact h4
  have h5 := condW_of h4 (w_not (w_lt w_lit (w_len_list (w_arg rfl))))
  rw [List.length_map] at h5
  refine Nat.le_of_not_lt fun q => ?_
  have q' : (n : Int) < ((ns.length : Nat) : Int) := by omega
  first
   | (rw [decide_eq_true q'] at h5; exact absurd h5 (by decide))
   | (simp at h5; omega)
 cases hwl with
 | cons w1 w2 =>
  cases w2
  cases w1 with
  | list ho hall => exact ⟨_, _, ns, rfl, rfl, ho, ints_of_wellAll ns _ hall, hlen⟩
theorem post_true (l : OpenLaw) (args : List WData) : l.row.toRowW.claim.post args (.bool true) args = true :=
 postW_of (r := l.row.toRowW) (X := (true == true))
  (show WShape.has [] (.bool true) .bool = true by first | rfl | decide | simp [WShape.has, WShape.arms, WShape.armsAll])
  (show (WTm.eq .res (.lit (.bool true))).value [] { args := args, res := some (.bool true), after := args } = some (.bool (true == true)) from w_eq_bool (w_res rfl) w_lit) rfl
section
variable {prog : Program} {w : World} {A : Around} {E : Value → Shared → Prop} {s : Shared} {K : Frag}
def noObjs (h : Heap) : Heap := { h with objs := #[] }
def ledger (h : Heap) (L d : Addr) : List (Addr × Obj) := (List.range h.objs.size).filterMap fun a => if a = L ∨ a = d then none else (h.get? a).map fun o => (a, o)
end
end Att
namespace L2
open PySem PySem.Spec PyProof.Rows
theorem vals_ints : ∀ {vs : List Value} {ns : List Int}, IntsAre vs ns → Vals (ns.map V.int) vs
 | _, _, .nil => .nil
 | _, _, .cons n t h => .cons ⟨t, rfl⟩ (vals_ints h)
def Only (H : Hp) : Prop := ∀ b, H b = none ∨ ∃ o xs, H b = some (.frz o (.lst xs))
theorem law_call {P : Program} {w : World} {K : Frag} {mg mb : Str → Option Value} {CX : CXT} {k : Nat} {fa a : Addr} {fd : FuncData} {x : Str} {sp : Sp} {s₁ : Shared} {vs : List Value} {ns : List Int}
  (KX : K.In s₁.heap) (hns : s₁.heap.Ns mainGlobals mg) (hb : s₁.heap.Ns builtinsNs mb) (hbb : ∀ x : Str, x ≠ "__name__" → mb x = bootBuiltins x) (hlim : s₁.heap.NoLimit) (hsee : s₁.heap.NoSeer) (hg : s₁.gens = #[])
  (ha : s₁.heap.get? a = some { cls := .type "list", data := .seq vs.toArray }) (hi : IntsAre vs ns) (hl : ns.length ≤ sizeLine) (hr : Room k callerA)
  (F : ∀ base : Heap, K.In base → base.Ns mainGlobals mg → FnOk P w K mg base CX k fa fd [x] sp) (hbind : ∀ (s : Shared) (u : Value), BindsTo s fd ⟨[u], []⟩ [(x, u)])
  (hsp : ∀ H : Hp, Only H → SqL K H a (ns.map V.int) → sp [.ref a] H (fun v _ => v = .bl true) fun _ _ _ => False)
  (hCX : ∀ H e s', CX [] H s₁ (fun _ _ _ => False) e s' → False) :
  codeAny (model P w) callerA (.call (.ref fa) ⟨[.ref a], []⟩) (fun r s' => r = .ok (.ret (.bool true)) ∧ OldK s₁.heap s'.heap ∧ s'.os = s₁.os ∧ AllBare s'.gens) s₁ := by
 have rv := vals_ints hi
 have lenV := hi.length
 have core : ∀ H : Hp, Only H → SqL K H a (ns.map V.int) → HOk P w H s₁.heap → (∀ b, H b ≠ none → b = a) → (H a ≠ none → K.lookup a = none) →
   codeAny (model P w) callerA (.call (.ref fa) ⟨[.ref a], []⟩) (fun r s' => r = .ok (.ret (.bool true)) ∧ OldK s₁.heap s'.heap ∧ s'.os = s₁.os ∧ AllBare s'.gens) s₁ := by
  intro H hO hS hok hA hK
  have base_of : ∀ {b : Addr} {o : Obj}, s₁.heap.get? b = some o → H b = none → (hidT s₁.heap H).get? b = some o := fun e n => hidT_get e n
  have noA : ∀ {b : Addr} {o : Obj} {es : Array DictEntry} {ep : Nat}, s₁.heap.get? b = some o → o.data = .dict es ep → H b = none := fun {b o es ep} e d => by
   cases q : H b with
   | none => rfl
   | some u =>
    have e' : b = a := hA b (by rw [q]; simp)
    subst e'
    rw [ha] at e; cases e
    have d' : Data.seq vs.toArray _ = Data.dict es ep := d
    cases d'
  have nsK : ∀ {b : Addr} {m : Str → Option Value}, s₁.heap.Ns b m → (hidT s₁.heap H).Ns b m := fun {b m} ⟨o, es, ep, e, d, r⟩ => ⟨o, es, ep, base_of e (noA e d), d, r⟩
  have hKb : K.In (hidT s₁.heap H) := fun b o e => base_of (KX b o e) (by
   cases q : H b with
   | none => rfl
   | some u =>
    have e' : b = a := hA b (by rw [q]; simp)
    subst e'
    rw [hK (by rw [q]; simp)] at e; cases e)
  have hM : Mod K mg (hidT s₁.heap H) := ⟨hKb, nsK hns, ⟨mb, nsK hb, hbb⟩, let ⟨mc, h1, h2⟩ := hlim; ⟨mc, nsK h1, h2⟩,
   ⟨let ⟨mc, h1, h2⟩ := hsee.statics; ⟨mc, nsK h1, h2⟩, let ⟨mc, h1, h2⟩ := hsee.mods; ⟨mc, nsK h1, h2⟩, let ⟨mc, h1, h2⟩ := hsee.imp; ⟨mc, nsK h1, h2⟩,
    let ⟨mg', bm, ob, h1, h2, h3, h4, h5⟩ := hsee.main; ⟨mg', bm, ob, nsK h1, h2, base_of h3 (by
     cases q : H bm with
     | none => rfl
     | some u =>
      have e' : bm = a := hA bm (by rw [q]; simp)
      subst e'
      rw [ha] at h3
      cases h3
      have h4' : Value.type "list" = Value.type "module" := h4
      injection h4' with e9
      exact absurd e9 (by decide)), h4, h5⟩⟩⟩
  have e0 : Env0 P w K mg (hidT s₁.heap H) callerA [] s₁ H := ⟨rfl, hM, fun b o e => of_hidT e, Nat.le_of_eq (hidT_size _ _), trivial, fun b hb => absurd (show b ∈ ([] : List Addr) from hb) (by simp), hok, .of_eq hg⟩
  refine codeAny_mono ((F _ hKb (nsK hns)).run callerA [] s₁ H ⟨[.ref a], []⟩ [.ref a] [.ref a] _ _ hr e0 (hbind s₁ (.ref a)) (.cons rfl .nil) (hsp H hO hS)) fun r s' h => ?_
  cases r with
  | error e => exact (hCX H e s' h).elim
  | ok fl =>
   cases fl with
   | next => exact False.elim h
   | brk => exact False.elim h
   | cont => exact False.elim h
   | ret u =>
    obtain ⟨v, H', os, bare, un, hok', r', q⟩ := h
    have q' : v = .bl true := q
    subst q'
    obtain rfl : u = Value.bool true := r'
    refine ⟨rfl, OldK.of_keep fun b o e => ?_, os, bare⟩
    cases q : H b with
    | none => exact un.keep b o e q (by intro z; exact absurd (show b ∈ ([] : List Addr) from z) (by simp)) (by simp)
    | some u =>
     rcases hO b with z | ⟨ob, xs, z⟩
     ·rw [q] at z; cases z
     ·have z2 := un.frzs b ob _ z
      obtain ⟨e1, _⟩ := hok b _ z
      obtain ⟨e2, _⟩ := hok' b _ z2
      rw [e] at e1; cases e1
      exact e2
 cases hk : K.lookup a with
 | some o =>
  have e := KX a o hk
  rw [ha] at e
  cases e
  refine core (fun _ => none) (fun _ => .inl rfl) (.inr ⟨_, vs.toArray, _, hk, rfl, rfl, rfl, by rw [List.size_toArray, lenV]; exact hl, by simpa using rv⟩) (fun b u z => by have z' : (none : Option HO) = some u := z; cases z') (fun b z => absurd rfl z) fun z => absurd rfl z
 | none =>
  refine core (fun b => if b = a then some (.frz { cls := .type "list", data := .seq vs.toArray } (.lst (ns.map V.int))) else none) (fun b => ?_) (.inl (.inr ⟨{ cls := .type "list", data := .seq vs.toArray }, if_pos rfl⟩)) (fun b u z => ?_) (fun b z => ?_) fun _ => hk
  ·by_cases hb : b = a
   ·exact .inr ⟨_, _, if_pos hb⟩
   ·exact .inl (if_neg hb)
  ·by_cases hb : b = a
   ·have z' := (if_pos hb).symm.trans z
    cases z'
    subst hb
    exact ⟨ha, by rw [List.length_map]; exact hl, vs, _, rv, ha⟩
   ·have z' := (if_neg hb).symm.trans z
    cases z'
  ·by_cases hb : b = a
   ·exact hb
   ·exact absurd (if_neg hb) z
end L2
namespace L2
open PySem PySem.Spec PyProof.Rows
abbrev KOf {K : Frag} {h : Heap} (_ : K.In h) : Frag := K
end L2
namespace L2
open PySem PySem.Spec PyProof.Rows
def inClass (s : Stmt) (j : Nat) : Stmt := match s with
 | .ClassDef _ _ _ body _ _ _ _ _ _ _ => body.getD j (.Pass ⟨0, 0, 0, 0⟩)
 | _ => .Pass ⟨0, 0, 0, 0⟩
def defArgs (s : Stmt) : Arguments := match s with
 | .FunctionDef _ a _ _ _ _ _ _ _ _ => a
 | _ => { posonlyargs := [], args := [], vararg := none, kwonlyargs := [], kw_defaults := [], kwarg := none, defaults := [] }
def defBody (s : Stmt) : List Stmt := match s with
 | .FunctionDef _ _ b _ _ _ _ _ _ _ => b
 | _ => []
def defScope (s : Stmt) : Scope := match s with
 | .FunctionDef _ _ _ _ _ _ sc _ _ _ => sc
 | _ => { kind := .function, names := [], isGenerator := false, isCoroutine := false }
abbrev CX0 : CXT := fun _ _ _ _ _ _ => False
abbrev E0 : XK := fun _ _ _ => False
structure Fun (K : Frag) (x qual : Str) (st : Stmt) (f : Addr) (fd : FuncData) : Prop where
 ex : ∃ (oc : Value) (od : Option Addr) (kV doc pm : Value) (an : Option Addr) (cdv ct : Value) (osl : Array (Option Value)),
  fd = fnOf x qual (defArgs st) (defBody st) (defScope st) .none kV doc pm an cdv ct ∧ K.lookup f = some ⟨oc, od, .func fd, osl⟩ ∧ codeIn K cdv qual = true
 kp : keepIn K (.ref f) = true
section
variable {P : Program} {w : World} {K : Frag} {mg : Str → Option Value} {base : Heap}
theorem Fun.binds {x qual : Str} {st : Stmt} {f : Addr} {fd : FuncData} {ps : List Str} (F : Fun K x qual st f fd)
  (h : ∀ (kV doc pm : Value) (an : Option Addr) (cdv ct : Value) (us : List Value), us.length = ps.length → bindArgs (fnOf x qual (defArgs st) (defBody st) (defScope st) .none kV doc pm an cdv ct) ⟨us, []⟩ = pure (ps.zip us)) : Binds K fd ps [] := by
 obtain ⟨oc, od, kV, doc, pm, an, cdv, ct, osl, rfl, lk, hcd⟩ := F.ex
 exact .all (h kV doc pm an cdv ct)
theorem fun_mk {x qual : Str} {st : Stmt} {f : Addr} {oc : Value} {od an : Option Addr} {osl : Array (Option Value)} {kV doc pm cdv ct : Value} (l : K.lookup f = some ⟨oc, od, .func (fnOf x qual (defArgs st) (defBody st) (defScope st) .none kV doc pm an cdv ct), osl⟩)
  (c : codeIn K cdv qual = true) (k : keepIn K (.ref f) = true) : Fun K x qual st f (fnOf x qual (defArgs st) (defBody st) (defScope st) .none kV doc pm an cdv ct) := ⟨⟨oc, od, kV, doc, pm, an, cdv, ct, osl, rfl, l, c⟩, k⟩
end
theorem hu_of {A : Around} {k : Nat} (hr : Room k A) : A.units + 1 < cLine := Nat.lt_of_le_of_lt (Nat.add_le_add_left (by decide : 1 ≤ 64) _) hr.units
section
variable {X : Cx}
theorem pv (i : Nat) {x : Str} {pos : Pos} (hN : X.N[i]? = some x := by rfl) (hv : Vis X.env.scope x := by first | exact Or.inl rfl | exact Or.inr (Or.inl rfl) | exact Or.inr (Or.inr rfl)) (hd : (x == ("__debug__" : Str)) = false := by decide)
  (hcd : (x == ("__classdict__" : Str)) = false := by decide) : PE X (.Name x pos) (tVar i) := pe_var hN hv hd hcd
end
theorem iteF {A B : Prop} (h : B) : if false = true then A else B := by
 rw [if_neg Bool.false_ne_true]
 exact h
theorem ite2 {c A B : Prop} [Decidable c] (h1 : c → A) (h2 : ¬ c → B) : if c then A else B := by
 by_cases h : c
 ·rw [if_pos h]
  exact h1 h
 ·rw [if_neg h]
  exact h2 h
theorem iteNS {c A B : Prop} [Decidable c] (hc : c) (h : B) : if (!decide c) = true then A else B := by
 rw [decide_eq_true hc]
 exact iteF h
def Same (H H' : Hp) : Prop := ∀ b o, H b = some o → H' b = some o
theorem Same.refl (H : Hp) : Same H H := fun _ _ h => h
theorem Same.trans {H H1 H2 : Hp} (a : Same H H1) (b : Same H1 H2) : Same H H2 := fun c o h => b c o (a c o h)
theorem Same.free {H H' : Hp} (e : Same H H') {l : Addr} (h : H' l = Option.none) : H l = Option.none := by
 cases q : H l with
 | none => rfl
 | some o =>
  rw [e l o q] at h
  cases h
theorem Same.seq {K : Frag} {H H' : Hp} {a : Addr} {xs : List V} (e : Same H H') (h : SqL K H a xs) : SqL K H' a xs := by
 rcases h with (h | ⟨o, h⟩) | h
 ·exact .inl (.inl (e _ _ h))
 ·exact .inl (.inr ⟨o, e _ _ h⟩)
 ·exact .inr h
end L2
namespace Ty
def gz (t b : Int) : Int := (Int.gcd t b : Nat)
def sg (t b : Int) : Int := if b < 0 then -gz t b else gz t b
def low (t b : Int) : Int × Int := (t.fdiv (sg t b), b.fdiv (sg t b))
theorem gcd_step (a b : Int) : Int.gcd b (a.fmod b) = Int.gcd a b := by
 rw [Int.fmod_def, Int.gcd_sub_mul_left_right, Int.gcd_comm]
theorem fmod_less {a b : Int} (h : b ≠ 0) : (a.fmod b).natAbs < b.natAbs := by
 rcases Int.lt_trichotomy b 0 with q | q | q
 ·have h1 : (-a).fmod (-b) = -(a.fmod b) := by
   rw [Int.fmod_def, Int.fmod_def, Int.neg_fdiv_neg, Int.neg_mul]
   omega
  have h2 := Int.fmod_nonneg_of_pos (-a) (show 0 < -b by omega)
  have h3 := Int.fmod_lt_of_pos (-a) (show 0 < -b by omega)
  omega
 ·exact absurd q h
 ·have h2 := Int.fmod_nonneg_of_pos a q
  have h3 := Int.fmod_lt_of_pos a q
  omega
theorem gz_pos {t b : Int} (h : b ≠ 0) : 0 < gz t b := by
 have := Int.gcd_pos_iff.mpr (Or.inr h : t ≠ 0 ∨ b ≠ 0)
 show (0 : Int) < ((Int.gcd t b : Nat) : Int)
 omega
theorem sg_ne {t b : Int} (h : b ≠ 0) : sg t b ≠ 0 := by
 have := gz_pos (t := t) h
 unfold sg
 split <;> omega
theorem sg_abs {t b : Int} : (sg t b).natAbs = (gz t b).natAbs := by
 unfold sg
 split
 ·exact Int.natAbs_neg _
 ·rfl
theorem sg_dvd_left (t b : Int) : sg t b ∣ t := by
 unfold sg gz
 split
 ·exact Int.neg_dvd.mpr (Int.gcd_dvd_left t b)
 ·exact Int.gcd_dvd_left t b
theorem sg_dvd_right (t b : Int) : sg t b ∣ b := by
 unfold sg gz
 split
 ·exact Int.neg_dvd.mpr (Int.gcd_dvd_right t b)
 ·exact Int.gcd_dvd_right t b
theorem fdiv_of_dvd {a g : Int} (h : g ≠ 0) (d : g ∣ a) : a = g * a.fdiv g := by
 obtain ⟨c, hc⟩ := d
 have := Int.fdiv_eq_of_eq_mul_right h hc
 rw [this]
 exact hc
theorem low_top {t b : Int} (h : b ≠ 0) : t = sg t b * (low t b).1 := fdiv_of_dvd (sg_ne h) (sg_dvd_left t b)
theorem low_bot {t b : Int} (h : b ≠ 0) : b = sg t b * (low t b).2 := fdiv_of_dvd (sg_ne h) (sg_dvd_right t b)
theorem low_pos {t b : Int} (h : b ≠ 0) : 0 < (low t b).2 := by
 have e := low_bot (t := t) h
 have g := gz_pos (t := t) h
 rcases Int.lt_trichotomy (low t b).2 0 with q | q | q
 ·exfalso
  by_cases c : b < 0
  ·have s : sg t b = -gz t b := by unfold sg; rw [if_pos c]
   rw [s] at e
   have := Int.mul_pos_of_neg_of_neg (show -gz t b < 0 by omega) q
   omega
  ·have s : sg t b = gz t b := by unfold sg; rw [if_neg c]
   rw [s] at e
   have := Int.mul_neg_of_pos_of_neg g q
   omega
 ·exfalso
  rw [q, Int.mul_zero] at e
  exact h e
 ·exact q
theorem low_cross {t b : Int} (h : b ≠ 0) : (low t b).1 * b = t * (low t b).2 := by
 have e1 := low_top (t := t) h
 have e2 := low_bot (t := t) h
 calc (low t b).1 * b = (low t b).1 * (sg t b * (low t b).2) := by rw [← e2]
  _ = sg t b * (low t b).1 * (low t b).2 := by rw [← Int.mul_assoc, Int.mul_comm (low t b).1]
  _ = t * (low t b).2 := by rw [← e1]
theorem low_gcd {t b : Int} (h : b ≠ 0) : Int.gcd (low t b).1 (low t b).2 = 1 := by
 have e1 := low_top (t := t) h
 have e2 := low_bot (t := t) h
 have k : Int.gcd t b = (sg t b).natAbs * Int.gcd (low t b).1 (low t b).2 := by
  have q := Int.gcd_mul_left (sg t b) (low t b).1 (low t b).2
  rw [← e1, ← e2] at q
  exact q
 have g : (sg t b).natAbs = Int.gcd t b := by
  rw [sg_abs]
  rfl
 have p := Int.gcd_pos_iff.mpr (Or.inr h : t ≠ 0 ∨ b ≠ 0)
 rw [g] at k
 have k' : Int.gcd t b * 1 = Int.gcd t b * Int.gcd (low t b).1 (low t b).2 := by rw [Nat.mul_one]; exact k
 exact (Nat.eq_of_mul_eq_mul_left p k').symm
theorem natAbs_factor {g a : Int} (h : g ≠ 0) : a.natAbs ≤ (g * a).natAbs := by
 rw [Int.natAbs_mul]
 have : 1 ≤ g.natAbs := by omega
 have := Nat.mul_le_mul_right a.natAbs this
 omega
theorem low_top_le {t b : Int} (h : b ≠ 0) : (low t b).1.natAbs ≤ t.natAbs := by
 have e := low_top (t := t) h
 have := natAbs_factor (g := sg t b) (a := (low t b).1) (sg_ne h)
 rw [← e] at this
 exact this
theorem low_bot_le {t b : Int} (h : b ≠ 0) : (low t b).2.natAbs ≤ b.natAbs := by
 have e := low_bot (t := t) h
 have := natAbs_factor (g := sg t b) (a := (low t b).2) (sg_ne h)
 rw [← e] at this
 exact this
theorem low_of {t b g x y : Int} (hg : g ≠ 0) (ht : t = g * x) (hb : b = g * y) (hy : 0 < y) (h1 : Int.gcd x y = 1) : low t b = (x, y) := by
 have hbn : b ≠ 0 := by
  rw [hb]
  exact Int.mul_ne_zero hg (by omega)
 have gg : Int.gcd t b = g.natAbs := by
  rw [ht, hb, Int.gcd_mul_left, h1, Nat.mul_one]
 have s : sg t b = g := by
  unfold sg gz
  rw [gg]
  by_cases c : g < 0
  ·have : b < 0 := by rw [hb]; exact Int.mul_neg_of_neg_of_pos c hy
   rw [if_pos this]
   omega
  ·have : ¬ b < 0 := by
    have := Int.mul_nonneg (show 0 ≤ g by omega) (show 0 ≤ y by omega)
    omega
   rw [if_neg this]
   omega
 unfold low
 rw [s]
 rw [Int.fdiv_eq_of_eq_mul_right hg ht, Int.fdiv_eq_of_eq_mul_right hg hb]
theorem low_self {x y : Int} (hy : 0 < y) (h : Int.gcd x y = 1) : low x y = (x, y) := low_of (g := 1) (by decide) (by omega) (by omega) hy h
theorem low_scale {t b k : Int} (hk : k ≠ 0) (h : b ≠ 0) : low (k * t) (k * b) = low t b := by
 refine low_of (g := k * sg t b) (Int.mul_ne_zero hk (sg_ne h)) ?_ ?_ (low_pos h) (low_gcd h)
 ·rw [Int.mul_assoc]
  exact congrArg (k * ·) (low_top h)
 ·rw [Int.mul_assoc]
  exact congrArg (k * ·) (low_bot h)
theorem low_cross_iff {t b u c : Int} (hb : b ≠ 0) (hc : c ≠ 0) (h : t * c = u * b) : low t b = low u c := by
 rw [← low_scale (t := t) (b := b) hc hb, ← low_scale (t := u) (b := c) hb hc]
 rw [Int.mul_comm c t, h, Int.mul_comm u b, Int.mul_comm c b]
end Ty
set_option maxHeartbeats 4000000
namespace Ty
open PySem PySem.Spec PyProof.Rows L2
open Builtin.Int (intBits)
section
variable {X : Cx}
def CMulB (i j : Int) : Prop := intBits i ≤ 33554432 ∧ intBits j ≤ 33554432
theorem op_mulB : OpR X (binaryOp .Mult) (rI CMulB fun i j => .int (i * j)) :=
 opI fun _ _ _ _ _ _ _ hc q => mul_int q (IntMulOk.of_le hc.1 hc.2 (by decide))
def CDivB (i j : Int) : Prop := j ≠ 0 ∧ intBits j ≤ 9000
theorem noPy {i j : Int} (h : intBits j ≤ 9000) : Builtin.divisionGoesByPylong i j = false := by
 refine PyProof.noPylong_of_log2 ?_
 have h1 := intBits_le_iff.mp h
 by_cases h0 : j.natAbs = 0
 ·rw [h0]
  decide +kernel
 ·exact (Nat.log2_lt h0).mpr h1
theorem op_fdivB : OpR X (binaryOp .FloorDiv) (rI CDivB fun i j => .int (i.fdiv j)) :=
 opI fun _ _ _ _ _ _ _ hc q => floordiv_int hc.1 q (.inl (noPy hc.2))
end
inductive Da where
 | v (x : V)
 | t (ds : List Da)
 | l (ds : List Da)
mutual
def Is (K : Frag) (H : Hp) : Da → V → Prop
 | .v x, u => u = x ∧ flatV x = true
 | .t ds, u => ∃ p xs, u = .ref p ∧ SqT K H p xs ∧ Iss K H ds xs
 | .l ds, u => ∃ p xs, u = .ref p ∧ SqL K H p xs ∧ Iss K H ds xs
def Iss (K : Frag) (H : Hp) : List Da → List V → Prop
 | [], [] => True
 | d :: ds, x :: xs => Is K H d x ∧ Iss K H ds xs
 | _, _ => False
end
mutual
def eqDa : Da → Da → Bool
 | .v x, .v y => eqV x y
 | .t ds, .t es => eqDas ds es
 | .l ds, .l es => eqDas ds es
 | _, _ => false
def eqDas : List Da → List Da → Bool
 | [], [] => true
 | d :: ds, e :: es => eqDa d e && eqDas ds es
 | _, _ => false
end
mutual
def alike : Da → Da → Bool
 | .v _, .v _ => true
 | .t ds, .t es => alikes ds es
 | .l ds, .l es => alikes ds es
 | _, _ => false
def alikes : List Da → List Da → Bool
 | d :: ds, e :: es => alike d e && alikes ds es
 | _, _ => true
end
mutual
def dep : Da → Nat
 | .v _ => 0
 | .t ds => deps ds + 1
 | .l ds => deps ds + 1
def deps : List Da → Nat
 | [] => 0
 | d :: ds => max (dep d) (deps ds)
end
theorem Iss.length {K : Frag} {H : Hp} : ∀ {ds : List Da} {xs : List V}, Iss K H ds xs → ds.length = xs.length
 | [], [], _ => rfl
 | _ :: _, _ :: _, h => congrArg (· + 1) (Iss.length (by unfold Iss at h; exact h.2))
 | [], _ :: _, h => by unfold Iss at h; exact h.elim
 | _ :: _, [], h => by unfold Iss at h; exact h.elim
def bitDa (ds es : List Da) (j : Nat) : Bool := match ds[j]?, es[j]? with
 | some d, some e => eqDa d e
 | _, _ => true
theorem eqDas_bits : ∀ ds es : List Da, eqDas ds es = ((List.range (min ds.length es.length)).all (bitDa ds es) && ds.length == es.length)
 | [], [] => rfl
 | [], _ :: _ => by simp [eqDas]
 | _ :: _, [] => by simp [eqDas]
 | d :: ds, e :: es => by
  have ih := eqDas_bits ds es
  have r : min (d :: ds).length (e :: es).length = min ds.length es.length + 1 := by simp [Nat.succ_min_succ]
  rw [r, List.range_succ_eq_map, List.all_cons, List.all_map]
  have b0 : bitDa (d :: ds) (e :: es) 0 = eqDa d e := rfl
  have b1 : (bitDa (d :: ds) (e :: es) ∘ Nat.succ) = bitDa ds es := by
   funext j
   rfl
  have l1 : ((d :: ds).length == (e :: es).length) = (ds.length == es.length) := by simp
  rw [b0, b1, l1, Bool.and_assoc, ← ih]
  rfl
section
variable {X : Cx} {pins : List (Addr × Obj)} {σ : L2.St} {H : Hp} {s : Shared}
theorem eqV_refl {x : V} (h : flatV x = true) : eqV x x = true := by
 cases x <;> first | rfl | (simp [eqV]; done) | (cases h; done)
mutual
theorem is_same (I : Inv X pins σ H s) : ∀ (d e : Da) (x : V), Is X.K H d x → Is X.K H e x → alike d e = true → eqDa d e = true
 | .v a, .v b, x, h1, h2, _ => by
  unfold Is at h1 h2
  obtain ⟨rfl, f⟩ := h1
  obtain ⟨rfl, _⟩ := h2
  unfold eqDa
  exact eqV_refl f
 | .t ds, .t es, x, h1, h2, a => by
  unfold Is at h1 h2
  obtain ⟨p, xs, rfl, q1, k1⟩ := h1
  obtain ⟨p', ys, e', q2, k2⟩ := h2
  cases e'
  cases I.tuple_inj q1 q2
  unfold eqDa
  unfold alike at a
  exact iss_same I ds es xs k1 k2 a
 | .l ds, .l es, x, h1, h2, a => by
  unfold Is at h1 h2
  obtain ⟨p, xs, rfl, q1, k1⟩ := h1
  obtain ⟨p', ys, e', q2, k2⟩ := h2
  cases e'
  cases I.list_inj q1 q2
  unfold eqDa
  unfold alike at a
  exact iss_same I ds es xs k1 k2 a
 | .v _, .t _, _, _, _, a => by unfold alike at a; cases a
 | .v _, .l _, _, _, _, a => by unfold alike at a; cases a
 | .t _, .v _, _, _, _, a => by unfold alike at a; cases a
 | .t _, .l _, _, _, _, a => by unfold alike at a; cases a
 | .l _, .v _, _, _, _, a => by unfold alike at a; cases a
 | .l _, .t _, _, _, _, a => by unfold alike at a; cases a
theorem iss_same (I : Inv X pins σ H s) : ∀ (ds es : List Da) (xs : List V), Iss X.K H ds xs → Iss X.K H es xs → alikes ds es = true → eqDas ds es = true
 | [], [], _, _, _, _ => by unfold eqDas; rfl
 | d :: ds, e :: es, x :: xs, h1, h2, a => by
  unfold Iss at h1 h2
  unfold alikes at a
  rw [Bool.and_eq_true] at a
  unfold eqDas
  rw [is_same I d e x h1.1 h2.1 a.1, iss_same I ds es xs h1.2 h2.2 a.2]
  rfl
 | [], _ :: _, [], _, h2, _ => by unfold Iss at h2; exact h2.elim
 | [], _ :: _, _ :: _, h1, _, _ => by unfold Iss at h1; exact h1.elim
 | _ :: _, [], [], h1, _, _ => by unfold Iss at h1; exact h1.elim
 | _ :: _, [], _ :: _, _, h2, _ => by unfold Iss at h2; exact h2.elim
 | _ :: _, _ :: _, [], h1, _, _ => by unfold Iss at h1; exact h1.elim
end
theorem in1_units (A : Around) : A.in1.units = A.units + 1 := rfl
mutual
theorem eqAt_da (I : Inv X pins σ H s) : ∀ (d e : Da) (x y : V) (u w : Value) (A : Around), Is X.K H d x → Is X.K H e y → alike d e = true → RelV x u → RelV y w → A.units + dep d < cLine → SeqAt.EqAt A s u w (eqDa d e)
 | .v a, .v b, x, y, u, w, A, h1, h2, _, r1, r2, _ => by
  unfold Is at h1 h2
  obtain ⟨rfl, f1⟩ := h1
  obtain ⟨rfl, f2⟩ := h2
  unfold eqDa
  exact eqAt_V r1 r2 f1 f2
 | .t ds, .t es, x, y, u, w, A, h1, h2, a, r1, r2, hu => by
  have h1' := h1
  have h2' := h2
  unfold Is at h1 h2
  obtain ⟨p, xs, rfl, q1, k1⟩ := h1
  obtain ⟨p', ys, rfl, q2, k2⟩ := h2
  cases r1
  cases r2
  by_cases e : p = p'
  ·subst e
   rw [is_same I _ _ _ h1' h2' a]
   exact .same _
  ·refine .of_refs e ?_
   obtain ⟨its, v1, t1, _⟩ := I.tuple q1
   obtain ⟨its2, v2, t2, _⟩ := I.tuple q2
   unfold eqDa
   rw [eqDas_bits, k1.length, k2.length, v1.length, v2.length]
   have z := SeqAt.RcAt.tuples (A := A) (e := bitDa ds es) t1 t2 (by unfold dep at hu; omega) fun j g1 g2 => by
    unfold dep at hu
    unfold alike at a
    exact eqAt_das I ds es xs ys its its2 A.in1 k1 k2 a v1 v2 (by rw [in1_units]; omega) j (by simpa using g1) (by simpa using g2)
   simpa using z
 | .l ds, .l es, x, y, u, w, A, h1, h2, a, r1, r2, hu => by
  have h1' := h1
  have h2' := h2
  unfold Is at h1 h2
  obtain ⟨p, xs, rfl, q1, k1⟩ := h1
  obtain ⟨p', ys, rfl, q2, k2⟩ := h2
  cases r1
  cases r2
  by_cases e : p = p'
  ·subst e
   rw [is_same I _ _ _ h1' h2' a]
   exact .same _
  ·refine .of_refs e ?_
   obtain ⟨its, v1, t1, _⟩ := I.list q1
   obtain ⟨its2, v2, t2, _⟩ := I.list q2
   unfold eqDa
   unfold dep at hu
   unfold alike at a
   by_cases el : its.length = its2.length
   ·rw [eqDas_bits, k1.length, k2.length, v1.length, v2.length]
    have z := SeqAt.RcAt.lists (A := A) (e := bitDa ds es) t1.isList t2.isList (by simpa using el) (by omega) fun j g1 g2 =>
     eqAt_das I ds es xs ys its its2 A.in1 k1 k2 a v1 v2 (by rw [in1_units]; omega) j (by simpa using g1) (by simpa using g2)
    rw [el, Nat.min_self, beq_self_eq_true, Bool.and_true]
    rw [List.size_toArray, el] at z
    exact z
   ·have ne : eqDas ds es = false := by
     rw [eqDas_bits, k1.length, k2.length, v1.length, v2.length, beq_eq_false_iff_ne.mpr el, Bool.and_false]
    rw [ne]
    exact SeqAt.RcAt.lists_lengths t1.isList t2.isList (by simpa using el) (by omega)
 | .v _, .t _, _, _, _, _, _, _, _, a, _, _, _ => by unfold alike at a; cases a
 | .v _, .l _, _, _, _, _, _, _, _, a, _, _, _ => by unfold alike at a; cases a
 | .t _, .v _, _, _, _, _, _, _, _, a, _, _, _ => by unfold alike at a; cases a
 | .t _, .l _, _, _, _, _, _, _, _, a, _, _, _ => by unfold alike at a; cases a
 | .l _, .v _, _, _, _, _, _, _, _, a, _, _, _ => by unfold alike at a; cases a
 | .l _, .t _, _, _, _, _, _, _, _, a, _, _, _ => by unfold alike at a; cases a
theorem eqAt_das (I : Inv X pins σ H s) : ∀ (ds es : List Da) (xs ys : List V) (us ws : List Value) (A : Around), Iss X.K H ds xs → Iss X.K H es ys → alikes ds es = true → Vals xs us → Vals ys ws → A.units + deps ds < cLine →
  ∀ (j : Nat) (h1 : j < us.length) (h2 : j < ws.length), SeqAt.EqAt A s us[j] ws[j] (bitDa ds es j)
 | d :: ds, e :: es, x :: xs, y :: ys, u :: us, w :: ws, A, k1, k2, a, .cons r1 v1, .cons r2 v2, hu, 0, _, _ => by
  unfold Iss at k1 k2
  unfold alikes at a
  rw [Bool.and_eq_true] at a
  unfold deps at hu
  exact eqAt_da I d e x y u w A k1.1 k2.1 a.1 r1 r2 (by omega)
 | d :: ds, e :: es, x :: xs, y :: ys, u :: us, w :: ws, A, k1, k2, a, .cons r1 v1, .cons r2 v2, hu, j + 1, h1, h2 => by
  unfold Iss at k1 k2
  unfold alikes at a
  rw [Bool.and_eq_true] at a
  unfold deps at hu
  exact eqAt_das I ds es xs ys us ws A k1.2 k2.2 a.2 v1 v2 (by omega) j (by simpa using h1) (by simpa using h2)
 | [], _, [], _, _, _, _, _, _, _, .nil, _, _, _, h1, _ => absurd h1 (Nat.not_lt_zero _)
 | _, [], _, [], _, _, _, _, _, _, _, .nil, _, _, _, h2 => absurd h2 (Nat.not_lt_zero _)
 | [], _, _ :: _, _, _, _, _, k1, _, _, _, _, _, _, _, _ => by unfold Iss at k1; exact k1.elim
 | _ :: _, _, [], _, _, _, _, k1, _, _, _, _, _, _, _, _ => by unfold Iss at k1; exact k1.elim
 | _, [], _, _ :: _, _, _, _, _, k2, _, _, _, _, _, _, _ => by unfold Iss at k2; exact k2.elim
 | _, _ :: _, _, [], _, _, _, _, k2, _, _, _, _, _, _, _ => by unfold Iss at k2; exact k2.elim
end
end
section
variable {X : Cx}
def rEqDa (K : Frag) : R2 := fun x y H Q => ∃ ds es, ((Is K H (.t ds) x ∧ Is K H (.t es) y) ∨ (Is K H (.l ds) x ∧ Is K H (.l es) y)) ∧ alikes ds es = true ∧ deps ds ≤ 60 ∧ Q (.bl (eqDas ds es)) H
def rNeDa (K : Frag) : R2 := fun x y H Q => ∃ ds es, ((Is K H (.t ds) x ∧ Is K H (.t es) y) ∨ (Is K H (.l ds) x ∧ Is K H (.l es) y)) ∧ alikes ds es = true ∧ deps ds ≤ 60 ∧ Q (.bl (!eqDas ds es)) H
theorem op_eqDa (hu : X.A.units + 64 < cLine) : OpR X (compareOp .Eq) (rEqDa X.K) := by
 intro pins s σ H x y v u Q I rx ry h
 obtain ⟨ds, es, h, a, hd, q⟩ := h
 rcases h with ⟨h1, h2⟩ | ⟨h1, h2⟩
 ·unfold Is at h1 h2
  obtain ⟨p, xs, rfl, q1, k1⟩ := h1
  obtain ⟨p', ys, rfl, q2, k2⟩ := h2
  cases rx
  cases ry
  obtain ⟨its, v1, t1, _⟩ := I.tuple q1
  obtain ⟨its2, v2, t2, _⟩ := I.tuple q2
  have z := SeqAt.RcAt.tuples (A := X.A) (e := bitDa ds es) t1 t2 (by omega) fun j g1 g2 =>
   eqAt_das I ds es xs ys its its2 X.A.in1 k1 k2 a v1 v2 (by rw [in1_units]; omega) j (by simpa using g1) (by simpa using g2)
  refine z X.prog X.w X.xe _ ⟨.bl _, H, I, rfl, ?_⟩
  have e := eqDas_bits ds es
  rw [k1.length, k2.length, v1.length, v2.length] at e
  simpa [e] using q
 ·unfold Is at h1 h2
  obtain ⟨p, xs, rfl, q1, k1⟩ := h1
  obtain ⟨p', ys, rfl, q2, k2⟩ := h2
  cases rx
  cases ry
  obtain ⟨its, v1, t1, _⟩ := I.list q1
  obtain ⟨its2, v2, t2, _⟩ := I.list q2
  have e := eqDas_bits ds es
  rw [k1.length, k2.length, v1.length, v2.length] at e
  by_cases el : its.length = its2.length
  ·have z := SeqAt.RcAt.lists (A := X.A) (e := bitDa ds es) t1.isList t2.isList (by simpa using el) (by omega) fun j g1 g2 =>
    eqAt_das I ds es xs ys its its2 X.A.in1 k1 k2 a v1 v2 (by rw [in1_units]; omega) j (by simpa using g1) (by simpa using g2)
   refine z X.prog X.w X.xe _ ⟨.bl _, H, I, rfl, ?_⟩
   rw [el, Nat.min_self, beq_self_eq_true, Bool.and_true] at e
   simpa [e, el] using q
  ·have ne : eqDas ds es = false := by rw [e, beq_eq_false_iff_ne.mpr el, Bool.and_false]
   rw [ne] at q
   exact SeqAt.RcAt.lists_lengths t1.isList t2.isList (by simpa using el) (by omega) X.prog X.w X.xe _ ⟨.bl _, H, I, rfl, q⟩
theorem op_neDa (hu : X.A.units + 64 < cLine) : OpR X (compareOp .NotEq) (rNeDa X.K) := by
 intro pins s σ H x y v u Q I rx ry h
 obtain ⟨ds, es, h, a, hd, q⟩ := h
 rcases h with ⟨h1, h2⟩ | ⟨h1, h2⟩
 ·unfold Is at h1 h2
  obtain ⟨p, xs, rfl, q1, k1⟩ := h1
  obtain ⟨p', ys, rfl, q2, k2⟩ := h2
  cases rx
  cases ry
  obtain ⟨its, v1, t1, _⟩ := I.tuple q1
  obtain ⟨its2, v2, t2, _⟩ := I.tuple q2
  have z := SeqAt.RcNeAt.tuples (A := X.A) (e := bitDa ds es) t1 t2 (by omega) fun j g1 g2 =>
   eqAt_das I ds es xs ys its its2 X.A.in1 k1 k2 a v1 v2 (by rw [in1_units]; omega) j (by simpa using g1) (by simpa using g2)
  refine z X.prog X.w X.xe _ ⟨.bl _, H, I, rfl, ?_⟩
  have e := eqDas_bits ds es
  rw [k1.length, k2.length, v1.length, v2.length] at e
  simpa [e] using q
 ·unfold Is at h1 h2
  obtain ⟨p, xs, rfl, q1, k1⟩ := h1
  obtain ⟨p', ys, rfl, q2, k2⟩ := h2
  cases rx
  cases ry
  obtain ⟨its, v1, t1, _⟩ := I.list q1
  obtain ⟨its2, v2, t2, _⟩ := I.list q2
  have e := eqDas_bits ds es
  rw [k1.length, k2.length, v1.length, v2.length] at e
  by_cases el : its.length = its2.length
  ·have z := SeqAt.RcNeAt.lists (A := X.A) (e := bitDa ds es) t1.isList t2.isList (by simpa using el) (by omega) fun j g1 g2 =>
    eqAt_das I ds es xs ys its its2 X.A.in1 k1 k2 a v1 v2 (by rw [in1_units]; omega) j (by simpa using g1) (by simpa using g2)
   refine z X.prog X.w X.xe _ ⟨.bl _, H, I, rfl, ?_⟩
   rw [el, Nat.min_self, beq_self_eq_true, Bool.and_true] at e
   simpa [e, el] using q
  ·have ne : eqDas ds es = false := by rw [e, beq_eq_false_iff_ne.mpr el, Bool.and_false]
   rw [ne] at q
   exact SeqAt.RcNeAt.lists_lengths t1.isList t2.isList (by simpa using el) (by omega) X.prog X.w X.xe _ ⟨.bl _, H, I, rfl, q⟩
def clsV : V → Value
 | .ty n => .type n
 | .ref a => .ref a
 | _ => .none
def isCls : V → Bool
 | .ty _ => true
 | .ref _ => true
 | _ => false
theorem cls_rel {c : V} {u : Value} (h : isCls c = true) (r : RelV c u) : u = clsV c := by
 cases c <;> first | exact r | (cases h; done)
def rIsi (K : Frag) : List V → Hp → VK → Prop := fun xs H Q => ∃ x c t b, xs = [x, c] ∧ isCls c = true ∧ TyOf K H x t ∧ PySem.W.kitOne K t (clsV c) = some b ∧ Q (.bl b) H
theorem call_isi : CallR X (.builtin "isinstance") (rIsi X.K) := by
 intro pins s σ H xs us Q I r h
 obtain ⟨x, c, t, b, rfl, hc, ty, e, q⟩ := h
 obtain ⟨u, w, rfl, r1, r2⟩ := vals2 r
 obtain rfl := cls_rel hc r2
 exact isinst_ok I r1 ty e fun tk => ⟨.bl b, H, I.tok tk, rfl, q⟩
end
section
variable {K : Frag}
theorem kind_sub {a b : String} {v : Bool} (h : ((Value.type a == Value.type b) = true → v = true) ∧ ((Value.type a == Value.type b) = false → PySem.W.kitMeta b = true ∧ (fastBuiltinMro a).map (·.contains (Value.type b)) = some v)) : PySem.W.kitOne K (.type a) (.type b) = some v := by
 unfold PySem.W.kitOne
 by_cases e : (Value.type a == Value.type b) = true
 ·rw [if_pos e, h.1 e]
 ·rw [if_neg e]
  obtain ⟨h1, h2⟩ := h.2 (by simpa using e)
  unfold PySem.W.kitCls
  dsimp only
  rw [if_pos h1]
  exact h2
end
theorem b_len : bootBuiltins "len" = some (.builtin "len") := by decide +kernel
theorem b_abs : bootBuiltins "abs" = some (.builtin "abs") := by decide +kernel
theorem b_isinstance : bootBuiltins "isinstance" = some (.builtin "isinstance") := by decide +kernel
theorem b_all : bootBuiltins "all" = some (.builtin "all") := by decide +kernel
theorem b_int : bootBuiltins "int" = some (.type "int") := by decide +kernel
theorem b_bool : bootBuiltins "bool" = some (.type "bool") := by decide +kernel
theorem b_list : bootBuiltins "list" = some (.type "list") := by decide +kernel
theorem b_tuple : bootBuiltins "tuple" = some (.type "tuple") := by decide +kernel
theorem b_dict : bootBuiltins "dict" = some (.type "dict") := by decide +kernel
theorem pe_ty {X : Cx} {x : Str} {n : String} {pos : Pos} (hg : Gl X x) (hm : X.mg x = none) (hv : bootBuiltins x = some (.type n)) (hn : x ≠ "__name__" := by decide) (hd : (x == ("__debug__" : Str)) = false := by decide) : PE X (.Name x pos) (tC (.ty n)) := pe_bltn (v := .ty n) hg hm hv rfl hn hd
def CMod (_ j : Int) : Prop := j ≠ 0
theorem nz {i j : Int} (h : j ≠ 0) : CMod i j := h
theorem op_modB {X : Cx} : OpR X (binaryOp .Mod) (rI CMod fun i j => .int (i.fmod j)) := op_modN
end Ty
set_option maxHeartbeats 4000000
namespace TyAtt
open PySem PySem.W PySem.Calls PyProof.Rows
open Builtin.Int (intBits)
theorem bits_item {ns : List Int} {n : Int} (h : (WData.list (ns.map WData.int)).layable = true) (hn : n ∈ ns) : intBits n ≤ 1048576 := by
 obtain ⟨_, _, hw⟩ := layableW_iff.mp h
 have a : ∀ (l : List Int), n ∈ l → intBits n ≤ WData.weightAll (l.map WData.int) := by
  intro l
  induction l with
  | nil => intro q; cases q
  | cons y r ih =>
   intro q
   rw [List.map_cons]
   unfold WData.weightAll
   rcases List.mem_cons.mp q with z | z
   ·subst z
    have : intBits n ≤ WData.weight (.int n) := by
     unfold WData.weight
     exact Nat.le_refl _
    omega
   ·have := ih z
    omega
 have b := a ns hn
 unfold WData.weight at hw
 omega
theorem attach_bits {l : OpenLaw} {n : Nat} {q : Program} {loose : List Str} {XP : (Str → Option Value) → Heap → Prop} {YP : World → Heap → Prop} {d : DefRec}
  (hn : l.most = some n) (hdf : d.params.defaults = [])
  (call : ∀ (w : World) (s₀ s₁ : Shared) (mg mb : Str → Option Value) (fa : Addr) (o : Obj) (pm cd doc : Value) (a : Addr) (vs : List Value) (ns : List Int),
   Ground q loose [] XP w s₀ mg mb s₁.heap → YP w s₁.heap →
   s₁.heap.get? fa = some o → o.data = .func (docDef d.name d.params d.body d.scope pm cd doc) → s₁.heap.CodeRec cd d.name → mg d.name = some (.ref fa) →
   s₁.heap.get? a = some { cls := .type "list", data := .seq vs.toArray } → IntsAre vs ns → ns.length ≤ n → (∀ i ∈ ns, intBits i ≤ 1048576) → s₁.gens = #[] →
   codeAny (model l.prog w) callerA (.call (.ref fa) ⟨[.ref a], []⟩) (fun r s' => r = .ok (.ret (.bool true)) ∧ OldK s₁.heap s'.heap ∧ s'.os = s₁.os ∧ AllBare s'.gens) s₁) :
  WalkO q loose XP YP l.row.toRowW d [] (fun f vs => PySem.call f vs) := by
 intro w s₀ s₁ mg mb G Y fa o pm cd doc dV kV ho hd hcd hD hmg hg args vals as hpre hlay hrd hwl hlo
 obtain rfl : dV = .none := Dflts.none hD hdf
 obtain rfl : kV = .none := Dflts.noKw hD
 obtain ⟨a, vs, ns, rfl, rfl, hobj, hints, hlen⟩ := Att.script_of hn hpre hwl
 have hb : ∀ i ∈ ns, intBits i ≤ 1048576 := fun i hi => bits_item (layW_cons hlay).1 hi
 refine enter_call (codeAny_mono (call w s₀ s₁ mg mb fa o pm cd doc a vs ns G Y ho (fd_plain hd) hcd hmg hobj hints hlen hb hg) fun r s' hq => ?_)
 obtain ⟨rfl, h2, h3, h4⟩ := hq
 exact ⟨.inl ⟨.bool true, .bool true, [], rfl, fun _ => rfl, .bool true, Att.post_true l _, fun _ => ⟨List.Pairwise.nil, fun _ hm => (nomatch hm)⟩⟩, h2, h3, h4⟩
end TyAtt
namespace Ty
open PySem PySem.Spec PyProof.Rows L2
open Builtin.Int (intBits)
structure Fn (P : Program) (w : World) (K : Frag) (mg : Str → Option Value) (base : Heap) (CX : CXT) (k : Nat) (x : Str) (ps : List Str) (sp : Sp) : Prop where
 ex : ∃ (f : Addr) (fd : FuncData), FnOk P w K mg base CX k f fd ps sp ∧ Binds K fd ps [] ∧ mg x = some (.ref f) ∧ keepIn K (.ref f) = true
structure Def (K : Frag) (mg : Str → Option Value) (x : Str) (st : Stmt) (ps : List Str) : Prop where
 ex : ∃ (f : Addr) (dV oc : Value) (od : Option Addr) (kV doc pm : Value) (an : Option Addr) (cdv ct : Value) (osl : Array (Option Value)),
  K.lookup f = some ⟨oc, od, .func (fnOf x x (defArgs st) (defBody st) (defScope st) dV kV doc pm an cdv ct), osl⟩ ∧ codeIn K cdv x = true ∧ keepIn K (.ref f) = true ∧
  Binds K (fnOf x x (defArgs st) (defBody st) (defScope st) dV kV doc pm an cdv ct) ps [] ∧ mg x = some (.ref f)
theorem Def.of {K : Frag} {mg : Str → Option Value} {x : Str} {st : Stmt} {ps : List Str} {f : Addr} {fd : FuncData} (F : Fun K x x st f fd) (b : Binds K fd ps []) (m : mg x = some (.ref f)) : Def K mg x st ps := by
 obtain ⟨oc, od, kV, doc, pm, an, cdv, ct, osl, rfl, lk, hcd⟩ := F.ex
 exact ⟨f, .none, oc, od, kV, doc, pm, an, cdv, ct, osl, lk, hcd, F.kp, b, m⟩
structure DefD (K : Frag) (mg : Str → Option Value) (x : Str) (st : Stmt) (ps : List Str) (ds : List Value) : Prop where
 ex : ∃ (f : Addr) (dV oc : Value) (od : Option Addr) (kV doc pm : Value) (an : Option Addr) (cdv ct : Value) (osl : Array (Option Value)),
  K.lookup f = some ⟨oc, od, .func (fnOf x x (defArgs st) (defBody st) (defScope st) dV kV doc pm an cdv ct), osl⟩ ∧ codeIn K cdv x = true ∧ keepIn K (.ref f) = true ∧
  Binds K (fnOf x x (defArgs st) (defBody st) (defScope st) dV kV doc pm an cdv ct) ps [] ∧ Binds K (fnOf x x (defArgs st) (defBody st) (defScope st) dV kV doc pm an cdv ct) ps ds ∧ mg x = some (.ref f)
section
variable {P : Program} {w : World} {K : Frag} {mg : Str → Option Value} {base : Heap} {CX : CXT}
theorem Def.ok {x : Str} {st : Stmt} {N ps : List Str} {k : Nat} {sp : Sp} (D : Def K mg x st ps) (S : FnScope N ps (defScope st)) (len : ∀ vs H Q E, sp vs H Q E → vs.length = ps.length)
  (hbody : ∀ (f : Addr) (cdv : Value) (A : Around) (outer : List Env) (s : Shared) (H : Hp) (vs : List V) (Q : VK) (E : XK), Room k (A.deeper (envOfC x (defScope st) s.heap.objs.size f cdv)) → sp vs H Q E →
   ∃ t, PSs (cxOf CX P w K mg base N x (defScope st) f cdv A outer s H E).nox (defBody st) t ∧ t { nx := fun _ H' => Q .non H', rt := Q } (start N vs) H) : Fn P w K mg base CX (k + 1) x ps sp := by
 obtain ⟨f, dV, oc, od, kV, doc, pm, an, cdv, ct, osl, lk, hcd, kp, b, m⟩ := D.ex
 refine ⟨f, _, fn_of lk hcd S len fun A outer s H vs Q E hr hsp => ?_, b, m, kp⟩
 obtain ⟨t, h, q⟩ := hbody f cdv A outer s H vs Q E hr hsp
 exact ⟨t, h.nox, q⟩
theorem _root_.L2.Fun.okG {x : Str} {st : Stmt} {f : Addr} {fd : FuncData} {N ps : List Str} {k : Nat} {sp : Sp} (F : Fun K x x st f fd) (S : FnScope N ps (defScope st)) (len : ∀ vs H Q E, sp vs H Q E → vs.length = ps.length)
  (hbody : ∀ (cdv : Value) (A : Around) (outer : List Env) (s : Shared) (H : Hp) (vs : List V) (Q : VK) (E : XK), Room k (A.deeper (envOfC x (defScope st) s.heap.objs.size f cdv)) → sp vs H Q E →
   ∃ t, PSs (cxOf CX P w K mg base N x (defScope st) f cdv A outer s H E).nox (defBody st) t ∧ t { nx := fun _ H' => Q .non H', rt := Q } (start N vs) H) : FnOk P w K mg base CX (k + 1) f fd ps sp := by
 obtain ⟨oc, od, kV, doc, pm, an, cdv, ct, osl, rfl, lk, hcd⟩ := F.ex
 refine fn_of lk hcd S len fun A outer s H vs Q E hr hsp => ?_
 obtain ⟨t, h, q⟩ := hbody cdv A outer s H vs Q E hr hsp
 exact ⟨t, h.nox, q⟩
def Mute (CX : CXT) : Prop := ∀ outer H s e s', CX outer H s E0 e s' → False
theorem passM {X : Cx} (h : Mute CX) : Passes CX X.nox E0 := fun _ _ _ _ _ _ _ q => (h _ _ _ _ _ q).elim
section
variable {X : Cx} {k : Nat} {ps : List Str} {sp : Sp} {E : XK} {x : Str} {p pos : Pos} {e : Expr} {es : List Expr} {t : TA}
theorem pe_fn (F : Fn X.prog X.w X.K X.mg X.base CX k x ps sp) (hr : Room k X.A) (hx : Passes CX X E) (ha : PA X (e :: es) t) (hg : Gl X x := by rfl) (hdb : (x == ("__debug__" : Str)) = false := by decide)
  (he : starEach (e :: es) X.env = (false, eval e X.env) :: starEach es X.env := by rfl) (hpl : (backTo pos (starEach es X.env)).any (·.1) = false := by rfl) : PE X (.Call (.Name x p) (e :: es) [] pos) (tCall sp [] E t) := by
 obtain ⟨f, fd, G, b, m, kp⟩ := F.ex
 exact pe_call G hr hg m kp b .nil hx ha hdb he hpl
structure FnD (P : Program) (w : World) (K : Frag) (mg : Str → Option Value) (base : Heap) (CX : CXT) (k : Nat) (x : Str) (ps : List Str) (ds : List Value) (sp : Sp) : Prop where
 ex : ∃ (f : Addr) (fd : FuncData), FnOk P w K mg base CX k f fd ps sp ∧ Binds K fd ps ds ∧ mg x = some (.ref f) ∧ keepIn K (.ref f) = true
end
end
def spLaw (K : Frag) : Sp := fun vs H Q _ => ∃ (a : Addr) (ns : List Int), vs = [.ref a] ∧ SqL K H a (ns.map V.int) ∧ ns.length ≤ 63 ∧ (∀ i ∈ ns, intBits i ≤ 1048576) ∧ ∀ H', Q (.bl true) H'
theorem walk {l : PySem.W.OpenLaw} {q : Program} {loose : List Str} {XP : (Str → Option Value) → Heap → Prop} {YP : World → Heap → Prop} {d : DefRec} {K : Params → Frag} {CX : World → CXT} {x : Str} {k : Nat}
  (hn : l.most = some 63) (hdf : d.params.defaults = []) (hi : importsNone q = true) (hr : Room k callerA)
  (hY : ∀ (w : World) (h : Heap), YP w h → (K w.params).In h) (hm : ∀ w, Mute (CX w))
  (F : ∀ (w : World) (mg : Str → Option Value) (fa : Addr) (h : Heap), (K w.params).In h → h.Ns mainGlobals mg → mg d.name = some (.ref fa) →
   ∃ fd : FuncData, (∀ (s : Shared) (u : Value), BindsTo s fd ⟨[u], []⟩ [(x, u)]) ∧
    ∀ base : Heap, (K w.params).In base → base.Ns mainGlobals mg → FnOk l.prog w (K w.params) mg base (CX w) k fa fd [x] (spLaw (K w.params))) :
  PySem.W.WalkO q loose XP YP l.row.toRowW d [] (fun f vs => PySem.call f vs) := by
 refine TyAtt.attach_bits hn hdf fun w s₀ s₁ mg mb fa o pm cd doc a vs ns G Y ho hd hcd hmg hobj hints hlen hb hg => ?_
 have KX := hY w _ Y
 obtain ⟨fd, hbd, hF⟩ := F w mg fa _ KX G.T.g hmg
 exact law_call KX G.T.g G.T.b G.T.builtins G.T.nolimit (G.T.seer hi) hg hobj hints (Nat.le_trans hlen (by decide)) hr hF hbd (fun H hO hS => ⟨a, ns, rfl, hS, hlen, hb, fun _ => rfl⟩) fun H e s' => hm w [] H s₁ e s'
end Ty
set_option maxHeartbeats 4000000
namespace Ty
open PySem PySem.Spec PyProof.Rows
def KD (h h' : Heap) : Prop := ∀ b o, h.get? b = some o → ∃ o', h'.get? b = some o' ∧ o'.dict = o.dict
def Kp {α : Type} : Sem α → Prop
 | .pure _ => True
 | .raise _ => True
 | .unsupported _ => True
 | .finish _ => True
 | .rule _ k => Kp (k ())
 | .at _ k => Kp (k ())
 | .load _ _ k => ∀ o, Kp (k o)
 | .update _ _ f k => (∀ o, (f o).dict = o.dict ∧ (f o).isFreed = o.isFreed) ∧ Kp (k ())
 | .alloc _ k => ∀ a, Kp (k a)
 | .loadIfAlive _ k => ∀ o, Kp (k o)
 | .point _ k => Kp (k ())
 | .fresh k => ∀ t, Kp (k t)
 | .ask k => ∀ t, Kp (k t)
 | .handled _ k => ∀ t, Kp (k t)
 | .stack k => ∀ t, Kp (k t)
 | .thread k => ∀ t, Kp (k t)
 | _ => False
end Ty
set_option maxHeartbeats 4000000
namespace Ty
open PySem PySem.Spec PyProof.Rows L2
def DictAt (h : Heap) (a : Addr) (dx : Option Addr) : Prop := ∃ o, h.get? a = some o ∧ o.dict = dx
def CXr (P : Program) (w : World) : CXT := fun outer H s E e s' => ∃ (a : Addr) (cls a0 : Value) (dx : Option Addr) (H' : Hp) (B : Heap),
 e = .ref a ∧ Heap.FlyingW B outer a cls a0 s'.heap ∧ DictAt s'.heap a dx ∧ Un (frs outer) [] H H' s.heap s'.heap ∧ HOk P w H' s'.heap ∧ s'.os = s.os ∧ AllBare s'.gens ∧
 (∀ b o, s.heap.get? b = some o → b ∉ frs outer → ∃ o', B.get? b = some o') ∧ (∀ b u, H' b = some u → ∃ o, B.get? b = some o) ∧ E cls dx H'
theorem CXr.mute {P : Program} {w : World} : Mute (CXr P w) := fun _ _ _ _ _ ⟨_, _, _, _, _, _, _, _, _, _, _, _, _, _, _, z⟩ => z
section
variable {P : Program} {w : World} {K : Frag} {mg : Str → Option Value} {base : Heap} {N : List Str} {qual : Str} {scope : Scope} {f : Addr} {cdv : Value} {A : Around} {outer : List Env} {s0 : Shared} {H0 : Hp} {E : XK}
abbrev cxr (P : Program) (w : World) (K : Frag) (mg : Str → Option Value) (base : Heap) (N : List Str) (qual : Str) (scope : Scope) (f : Addr) (cdv : Value) (A : Around) (outer : List Env) (s0 : Shared) (H0 : Hp) (E : XK) : Cx := cxOf (CXr P w) P w K mg base N qual scope f cdv A outer s0 H0 E
def tRaise (C : Addr) (E : XK) (ta : TA) : TS := fun _ σ H => ta σ H fun vs H1 => vs.length ≤ sizeLine ∧ E (.ref C) none H1
end
end Ty
set_option maxHeartbeats 4000000
namespace Ty
open PySem PySem.Spec PyProof.Rows L2
section
variable {X : Cx} {pins : List (Addr × Obj)} {σ : L2.St} {H H' : Hp} {s : Shared}
abbrev hnd (X : Cx) (a : Addr) : Cx := { X with A := X.A.mark (some (.ref a)), calm := false, xe := fun _ _ => False }
def excO (cls : Value) (a : Addr) (dx : Option Addr) : HO := .ext fun h => ∃ o vs, h.get? a = some o ∧ o.cls = cls ∧ o.data = .fields vs ∧ o.dict = dx
structure Ld (X : Cx) (pins : List (Addr × Obj)) (σ : L2.St) (H : Hp) (a : Addr) (cls : Value) (dx : Option Addr) (s : Shared) : Prop where
 ex : ∃ (H0 : Hp) (s0 : Shared) (a0 : Value) (B : Heap), Inv X pins σ H0 s0 ∧ Heap.FlyingW B X.stack a cls a0 s.heap ∧ DictAt s.heap a dx ∧ Un (frs X.stack) [] H0 H s0.heap s.heap ∧ HOk X.prog X.w H s.heap ∧ s.os = s0.os ∧ AllBare s.gens ∧
  (∀ b o, s0.heap.get? b = some o → b ∉ frs X.stack → ∃ o', B.get? b = some o') ∧ (∀ b u, H b = some u → ∃ o, B.get? b = some o)
abbrev TH := Value → Option Addr → Ends → L2.St → Hp → Prop
def PH (X : Cx) (hs : List ExceptHandler) (t : TH) : Prop :=
 ∀ (pins : List (Addr × Obj)) (s : Shared) (σ : L2.St) (H : Hp) (a : Addr) (cls : Value) (dx : Option Addr) (D : Ends), Ld X pins σ H a cls dx s → t cls dx D σ H → wpAny (model X.prog X.w) X.A (handleBy (.ref a) X.env hs) (SP X pins D) X.xe s
structure ClsN (X : Cx) (c : Str) (cv : Value) : Prop where
 ld : ∀ (a : Addr) (pins : List (Addr × Obj)) (s : Shared) (σ : L2.St) (H : Hp) (np : Pos) (Q : Value → Shared → Prop) (E : Value → Shared → Prop), Inv (hnd X a) pins σ H s → Q cv s → wpAny (model X.prog X.w) (X.A.mark (some (.ref a))) (eval (.Name c np) X.env) Q E s
def tAs (i : Nat) (cv : Value) (K : Frag) (ts : TS) (tr : TH) : TH := fun cls dx D σ H => ∃ b, PySem.W.exmOne K cls cv = some b ∧
 if b = true then ∀ a, H a = none → ts { nx := fun σ2 H2 => D.nx (σ2.set i none) H2, rt := D.rt, bk := fun σ2 H2 => D.bk (σ2.set i none) H2, ct := fun σ2 H2 => D.ct (σ2.set i none) H2 } (σ.set i (some (.ref a))) (upd H a (excO cls a dx)) else tr cls dx D σ H
def XP (X : Cx) (pins : List (Addr × Obj)) (σ : L2.St) (E : XK) (e : Value) (s' : Shared) : Prop := ∃ H s, Inv X pins σ H s ∧ CXr X.prog X.w X.stack H s E e s'
abbrev TEx := L2.St → Hp → VK → XK → Prop
abbrev TSx := Ends → (L2.St → XK) → L2.St → Hp → Prop
def PEx (X : Cx) (e : Expr) (t : TEx) : Prop :=
 ∀ (pins : List (Addr × Obj)) (s : Shared) (σ : L2.St) (H : Hp) (Q : VK) (E : XK), Inv X pins σ H s → t σ H Q E → wpAny (model X.prog X.w) X.A (eval e X.env) (EP X pins σ Q) (XP X pins σ E) s
def PSx (X : Cx) (st : Stmt) (t : TSx) : Prop :=
 ∀ (pins : List (Addr × Obj)) (s : Shared) (σ : L2.St) (H : Hp) (D : Ends) (E : L2.St → XK), Inv X pins σ H s → t D E σ H → wpAny (model X.prog X.w) X.A (exec st X.env) (SP X pins D) (fun e s' => ∃ σ', XP X pins σ' (E σ') e s') s
end
end Ty
set_option maxHeartbeats 4000000
namespace TyExc
open PySem PySem.W PySem.Calls PyProof.Rows Builtin Builtin.ObjectAttr Builtin.Getset_descriptor
structure ExcK (K : Frag) (C : Addr) : Prop where
 ga : findIn K (.ref C) "__getattribute__" = some (some (.builtin "BaseException.__getattribute__"))
 gt : findIn K (.ref C) "__getattr__" = some none
 cl : findIn K (.ref C) "__class__" = some (some (.builtin "object.__class__"))
 mo : mroIn K C (.type "object") = some true
 mb : mroIn K C (.type "BaseException") = some true
 is : (clsIn K C).isSome = true
section
variable {prog : Program} {w : World} {A : Around} {E : Value → Shared → Prop} {K : Frag} {h : Heap} {g : Array GenState} {d : Drawn} {t : Nat} {os : OsState} {a C : Addr} {o : Obj}
end
def ExcAt (a C : Addr) (h : Heap) : Prop := ∃ o vs, h.get? a = some o ∧ o.cls = .ref C ∧ o.data = .fields vs
end TyExc
set_option maxHeartbeats 4000000
namespace Ty
open PySem PySem.Spec PyProof.Rows L2
section
variable {X : Cx}
def rIsiX (K : Frag) : List V → Hp → VK → Prop := fun xs H Q => ∃ a C c b dx, xs = [.ref a, c] ∧ isCls c = true ∧ H a = some (excO (.ref C) a dx) ∧ TyExc.ExcK K C ∧ PySem.W.kitOne K (.ref C) (clsV c) = some b ∧ Q (.bl b) H
def rCount (K : Frag) : V → List V → Hp → VK → Prop := fun x vs H Q => ∃ l xs y, x = .ref l ∧ vs = [y] ∧ SqL K H l xs ∧ flatV y = true ∧ xs.all flatV = true ∧ Q (.int (xs.countP (fun z => eqV z y) : Nat)) H
end
structure RoomH (k : Nat) (A : Around) : Prop where
 dp : A.depth + 3 * k + 5 < recursionLimit
 un : A.units + 16 * k + 200 < cLine
structure FnOkH (P : Program) (w : World) (K : Frag) (mg : Str → Option Value) (base : Heap) (k : Nat) (f : Addr) (fd : FuncData) (ps : List Str) (sp : Sp) : Prop where
 len : ∀ vs H Q E, sp vs H Q E → vs.length = ps.length
 run : ∀ (A : Around) (outer : List Env) (s : Shared) (H : Hp) (args : Args) (us : List Value) (vs : List V) (Q : VK), RoomH k A → Env0 P w K mg base A outer s H → BindsTo s fd args (ps.zip us) → Vals vs us → sp vs H Q E0 →
  codeAny (model P w) A (.call (.ref f) args) (CR CX0 outer P w H s Q E0) s
def cxh (P : Program) (w : World) (K : Frag) (mg : Str → Option Value) (base : Heap) (N : List Str) (qual : Str) (scope : Scope) (f : Addr) (cdv : Value) (A : Around) (outer : List Env) (s : Shared) (H : Hp) : Cx :=
 { cxOf CX0 P w K mg base N qual scope f cdv A outer s H E0 with calm := false, xe := fun _ _ => False }
structure FnH (P : Program) (w : World) (K : Frag) (mg : Str → Option Value) (base : Heap) (k : Nat) (x : Str) (ps : List Str) (sp : Sp) : Prop where
 ex : ∃ (f : Addr) (fd : FuncData), FnOkH P w K mg base k f fd ps sp ∧ Binds K fd ps [] ∧ mg x = some (.ref f) ∧ keepIn K (.ref f) = true
abbrev bmVE : List Value := [.type "ValueError", .type "Exception", .type "BaseException", .type "object"]
end Ty
set_option maxHeartbeats 4000000
namespace Ty
open PySem PySem.Spec PyProof.Rows L2
section
variable {prog : Program} {w : World} {A : Around} {R : Result → Shared → Prop} {s : Shared}
theorem compLoop_any {elt target iter : Expr} {ifs : List Expr} {scope : Scope} {pos : Pos} {it acc : Value} {env : Env} (I : Nat → Shared → Prop)
  (turn : ∀ n s, I n s → wpAny (model prog w) A (pyNext it) (fun r s₁ => match r with
   | none => R (.ok .next) s₁
   | some v => wpAny (model prog w) A (letOwnedTupleGo target it v) (fun _ s₁' => wpAny (model prog w) A (assign target env v) (fun _ s₂ =>
     wpAny (model prog w) A (forIn ifs true fun c r => if r = true then do let ok ← isTrue c env (eval c env); pure (ForInStep.yield ok) else pure (ForInStep.yield r)) (fun ok s₃ =>
      if ok = true then wpAny (model prog w) A (eval elt env) (fun x s₄ =>
       wpAny (model prog w) A (call (.builtin "list.append") [acc, x]) (fun _ s₅ => ∃ m, m < n ∧ I m s₅) (fun _ _ => False) s₄) (fun _ _ => False) s₃
      else ∃ m, m < n ∧ I m s₃) (fun _ _ => False) s₂) (fun _ _ => False) s₁') (fun _ _ => False) s₁) (fun _ _ => False) s)
  (n : Nat) (h : I n s) :
  codeAny (model prog w) A (.compLoop (.ListComp elt [⟨target, iter, ifs, 0⟩] scope pos) 0 it acc env) R s := by
 refine codeAny_loop rfl I (fun n s hI => ?_) n h
 show wpAny _ A ((compTurn (.ListComp elt [⟨target, iter, ifs, 0⟩] scope pos) 0 it acc env).onRaise (fun x => do noteFrame x env; theTreesLotGoes x)) _ _ s
 refine wpAny_noted ?_
 rw [compTurn_list]
 refine wpAny_bind (wpAny_standAt (wpAny_bind (wpAny_mono (turn n s hI) (fun r s₁ h₁ => ?_) fun _ _ h' => h'.elim)))
 cases r with
 | none => exact wpAny_pure h₁
 | some v =>
  refine wpAny_bind (wpAny_mono h₁ (fun _ s₁' h₁' => ?_) fun _ _ h' => h'.elim)
  refine wpAny_bind (wpAny_mono h₁' (fun _ s₂ h₂ => wpAny_bind (wpAny_mono h₂ (fun ok s₃ h₃ => ?_) fun _ _ h' => h'.elim)) fun _ _ h' => h'.elim)
  cases ok with
  | false => exact wpAny_pure ⟨rfl, h₃⟩
  | true =>
   exact wpAny_bind (wpAny_bind (wpAny_mono h₃ (fun x s₄ h₄ => wpAny_bind (wpAny_mono h₄ (fun _ s₅ h₅ => wpAny_pure (wpAny_pure ⟨rfl, h₅⟩)) fun _ _ h' => h'.elim)) fun _ _ h' => h'.elim))
end
def capCl (env : Env) (fr : List Str) : List (Str × Addr) := fr.filterMap fun n => (env.cells.lookup n).map fun c => (n, c)
theorem lookup_mem {α : Type} {x : Str} {c : α} : ∀ {l : List (Str × α)}, l.lookup x = some c → (x, c) ∈ l
 | [], h => by simp at h
 | (y, d) :: r, h => by
  rw [List.lookup_cons] at h
  cases e : x == y with
  | true =>
   rw [e] at h
   have e1 : x = y := by simpa using e
   cases h
   rw [e1]
   exact List.mem_cons_self
  | false =>
   rw [e] at h
   exact List.mem_cons_of_mem _ (lookup_mem h)
theorem capCl_mem {env : Env} {fr : List Str} {x : Str} {c : Addr} (h : (x, c) ∈ capCl env fr) : env.cells.lookup x = some c := by
 obtain ⟨n, _, e⟩ := List.mem_filterMap.mp h
 cases q : env.cells.lookup n with
 | none => rw [q] at e; cases e
 | some d =>
  rw [q] at e
  have e' : (n, d) = (x, c) := Option.some.inj e
  cases e'
  exact q
theorem capCl_get {env : Env} {fr : List Str} {x : Str} {c : Addr} (h : (capCl env fr).lookup x = some c) : env.cells.lookup x = some c := capCl_mem (lookup_mem h)
theorem capCl_has {env : Env} {x : Str} {c : Addr} (q : env.cells.lookup x = some c) : ∀ {fr : List Str}, x ∈ fr → (capCl env fr).lookup x = some c
 | [], h => nomatch h
 | y :: r, h => by
  unfold capCl
  rw [List.filterMap_cons]
  by_cases e : x = y
  ·subst e
   rw [q]
   simp
  ·have hr : x ∈ r := by
    rcases List.mem_cons.mp h with z | z
    ·exact absurd z e
    ·exact z
   have ih := capCl_has q hr
   cases z : env.cells.lookup y with
   | none => exact ih
   | some d =>
    show List.lookup x ((y, d) :: _) = _
    rw [List.lookup_cons]
    have ne : (x == y) = false := by simpa using e
    rw [ne]
    exact ih
def AllCap (env : Env) : List Str → Prop
 | [] => True
 | y :: r => (env.kindOf y = some .cell ∨ env.kindOf y = some .free) ∧ AllCap env r
theorem AllCap.at {env : Env} {x : Str} : ∀ {fr : List Str}, AllCap env fr → x ∈ fr → env.kindOf x = some .cell ∨ env.kindOf x = some .free
 | [], _, h => nomatch h
 | y :: r, a, h => by
  rcases List.mem_cons.mp h with z | z
  ·rw [z]
   exact a.1
  ·exact AllCap.at a.2 z
section
variable {X : Cx}
def cxB (X : Cx) (NB : List Str) (scope : Scope) (cl : List (Str × Addr)) (C : Addr) (s : Shared) (H : Hp) (fp : List Addr) : Cx :=
 { prog := X.prog, w := X.w, K := X.K, mg := X.mg, base := X.base, A := X.A, N := NB, s₀ := s, H₀ := H, env := compEnvC scope cl C X.env, outer := X.stack, stack := X.stack, ex := fp, fn := fun _ => false, calm := X.calm, pn := [], xe := fun _ _ => False }
structure BlkS (X : Cx) (scope : Scope) (fr : List Str) (caps : List Nat) : Prop where
 clos : closureFor scope X.env = pure (capCl X.env fr)
 cell : ∀ y ∈ scope.names, y.2 ≠ .cell
 kind : scope.kind = .function
 names : ∀ y ∈ scope.names, y.2 = .local → scope.names.lookup y.1 = some .local
 free : ∀ y ∈ scope.names, y.2 = .free → y.1 ∈ fr
 caps : caps.map (fun i => X.N[i]?) = fr.map some
 out : AllCap X.env fr
 inn : AllCap (compEnvC scope [] 0 X.env) fr
def PF (X : Cx) (ifs : List Expr) (t : TT) : Prop :=
 ∀ (pins : List (Addr × Obj)) (s : Shared) (σ : L2.St) (H : Hp) (Q : Bool → Hp → Prop), Inv X pins σ H s → t σ H Q →
  wpAny (model X.prog X.w) X.A (forIn ifs true fun c r => if r = true then do let ok ← isTrue c X.env (eval c X.env); pure (ForInStep.yield ok) else pure (ForInStep.yield r)) (TP X pins σ Q) X.xe s
def tYes : TT := fun _ H Q => Q true H
theorem pf_nil : PF X [] tYes := fun _ _ _ H _ I h => wpAny_tests_nil ⟨H, I, h⟩
theorem pf_one {c : Expr} {t : TT} (h : PT X c t) : PF X [c] t := fun pins s σ H Q I q => wpAny_tests_one (h pins s σ H Q I q)
def sB (k : Nat) (caps : List Nat) (σ : L2.St) : L2.St := List.replicate k none ++ caps.map fun i => (σ[i]?).getD none
def tBlk (D : Addr) (g : TG) (tt : TT) (te : TE) (J : It) (σ0 : L2.St) (H1 : Hp) (Q : VK) : Prop := ∃ W : Nat → Nat → L2.St → List V → Hp → Prop,
 (∃ m, W 0 m σ0 [] (upd H1 D (.lst []))) ∧ ∀ i m σ2 ys H2, W i m σ2 ys H2 → (J.stop i H2 ∧ Q (.ref D) H2) ∨ (J.go i H2 ∧ ∀ x H3, J.yld i H2 x H3 → g x σ2 H3 fun σ4 H4 => tt σ4 H4 fun b H5 =>
  if b = true then te σ4 H5 fun v H6 => H6 D = some (.lst ys) ∧ ys.length < sizeLine ∧ ∃ m', m' < m ∧ W (i + 1) m' σ4 (ys ++ [v]) (upd H6 D (.lst (ys ++ [v]))) else ∃ m', m' < m ∧ W (i + 1) m' σ4 ys H5)
def tComp (k : Nat) (caps : List Nat) (wi : TI) (g : TG) (tt : TT) (te : TE) : TE := fun σ H Q => wi σ H fun J H1 => ∀ D, H1 D = none → tBlk D g tt te J (sB k caps σ) H1 Q
theorem sB_get {k : Nat} {caps : List Nat} {σ : L2.St} {i : Nat} {v : V} (h : (sB k caps σ)[i]? = some (some v)) : k ≤ i ∧ ∃ j, caps[i - k]? = some j ∧ σ[j]? = some (some v) := by
 unfold sB at h
 by_cases c : i < k
 ·rw [List.getElem?_append_left (by simpa using c), List.getElem?_replicate, if_pos c] at h
  cases h
 ·rw [List.getElem?_append_right (by simpa using Nat.le_of_not_lt c), List.length_replicate, List.getElem?_map] at h
  refine ⟨Nat.le_of_not_lt c, ?_⟩
  cases e : caps[i - k]? with
  | none => rw [e] at h; cases h
  | some j =>
   rw [e] at h
   refine ⟨j, rfl, ?_⟩
   have h' : (σ[j]?).getD none = some v := Option.some.inj h
   cases z : σ[j]? with
   | none => rw [z] at h'; cases h'
   | some o =>
    rw [z] at h'
    exact congrArg some h'
theorem comp_block {elt target iter : Expr} {ifs : List Expr} {scope : Scope} {pos : Pos} {tn fr : List Str} {caps : List Nat} {g : TG} {tt : TT} {te : TE} {pins : List (Addr × Obj)} {σ : L2.St} {H2 : Hp} {s2 : Shared} {J : It} {fp : List Addr} {it : Addr}
  {tnn : Nat → Heap → Prop} {Q : VK} {RR : Value → Addr → Result → Shared → Prop} {E : Value → Shared → Prop} (hc : X.calm = true) (B : BlkS X scope fr caps)
  (hg : ∀ C s H fp, PG (cxB X (tn ++ fr) scope (capCl X.env fr) C s H fp) target g) (ht : ∀ C s H fp, PF (cxB X (tn ++ fr) scope (capCl X.env fr) C s H fp) ifs tt) (he : ∀ C s H fp, PE (cxB X (tn ++ fr) scope (capCl X.env fr) C s H fp) elt te)
  (I2 : Inv X pins σ H2 s2) (T : Turn X.prog X.w X.K target J fp it tnn) (st2 : tnn 0 s2.heap) (f2 : ∀ b ∈ fp, FpOk X pins H2 b) (q : ∀ D, H2 D = none → tBlk D g tt te J (sB tn.length caps σ) H2 Q)
  (fin : ∀ D C H' s' m, Inv X pins σ H' s' → s'.heap.Ns C m → FpOk X pins H' C → Q (.ref D) H' → RR (.ref D) C (.ok .next) s') :
  wpAny (model X.prog X.w) X.A (newList []) (fun acc s₃ => wpAny (model X.prog X.w) X.A (newFunctionEnv scope X.env.globals (capCl X.env fr) [] X.env.qual none .none (some X.env)) (fun cenv s₄ =>
   codeAny (model X.prog X.w) X.A (.compStart (.ListComp elt [⟨target, iter, ifs, 0⟩] scope pos) 0 (.ref it) acc { cenv with scope := relabel scope X.env }) (RR acc cenv.locals) s₄) E s₃) E s2 := by
 refine wpAny_newObj_type (wpAny_newFunctionEnv B.cell (by intro y hy; simp at hy) (fun h₁ hns₁ hsb₁ => ?_) B.kind)
 have I3 : Inv X pins σ (upd H2 s2.heap.objs.size (.lst [])) { s2 with heap := s2.heap.push { cls := .type "list", data := .seq ([] : List Value).toArray } } := I2.lnew (t' := s2.toks) (its := []) .nil (Nat.zero_le _)
 obtain ⟨W, ⟨m0, w0⟩, turn⟩ := q s2.heap.objs.size (I2.hok.fresh (Nat.le_refl _))
 generalize hH3 : upd H2 s2.heap.objs.size (.lst []) = H3 at I3 w0
 have f3 : ∀ b ∈ fp, FpOk X pins H3 b := fun b hb => by
  obtain ⟨a0, a1⟩ := f2 b hb
  refine ⟨?_, a1⟩
  obtain ⟨o, e, _⟩ := T.obj _ _ st2 b hb
  rw [← hH3, upd_ne (Nat.ne_of_lt (Heap.lt_size e))]
  exact a0
 generalize hD : s2.heap.objs.size = D at *
 generalize hs3 : ({ s2 with heap := s2.heap.push { cls := .type "list", data := .seq ([] : List Value).toArray } } : Shared) = s3 at *
 have e3 : s3.heap = s2.heap.push { cls := .type "list", data := .seq ([] : List Value).toArray } := by rw [← hs3]
 have st3 : tnn 0 s3.heap := T.keep _ _ _ st2 fun b _ o e => by rw [e3]; exact Heap.get?_push_of_some _ e
 have kept : ∀ b o, s3.heap.get? b = some o → h₁.get? b = some o := fun b o e => (hsb₁.2 b (Nat.ne_of_lt (Heap.lt_size e))).trans (Heap.get?_push_of_some _ e)
 generalize hC : s3.heap.objs.size = C at *
 have hCs : s3.heap.objs.size ≤ C := Nat.le_of_eq hC
 have I4 : Inv X pins σ H3 { s3 with heap := h₁, toks := s3.toks + ([] : List (Str × Value)).length } := I3.kept kept
 have fpC : ∀ b ∈ fp, b ≠ C := fun b hb z => by
  obtain ⟨o, e, _⟩ := T.obj _ _ st3 b hb
  exact absurd z (Nat.ne_of_lt (Nat.lt_of_lt_of_le (Heap.lt_size e) hCs))
 have nst : ∀ b ∈ fp, b ∉ frs X.stack := fun b hb z => (List.mem_cons.mp (I3.stkSub b z)).elim (f3 b hb).2.1 (f3 b hb).2.2.1
 have okB : (cxB X (tn ++ fr) scope (capCl X.env fr) C s3 H3 fp).Ok := by
  refine ⟨I3.ok.mod, B.kind, I3.ok.glob, I3.ok.blt, hCs, fun x y c e1 e2 => I3.ok.inj x y c (capCl_get e1) (capCl_get e2), fun x hx => ?_, fun x c z => (nomatch z), I3.ok.hd, I3.ok.frames, .inl rfl,
   fun b hb => ⟨fpC b hb, fun x c e => (f3 b hb).2.2.2.2.1 x c (capCl_get e)⟩, I3.bs, Nat.le_trans I3.ok.bsz I3.sz, fun b o e hb => ?_, nst, I3.stack, I3.stkFree⟩
  ·have hm : ∃ k, (x, k) ∈ scope.names ∧ k ≠ .local ∧ (k = .cell ∨ k = .free) := by
    have : ∃ k', (relabel scope X.env).names.lookup x = some k' ∧ (k' = .cell ∨ k' = .free) := by
     rcases hx with z | z
     ·exact ⟨_, z, .inl rfl⟩
     ·exact ⟨_, z, .inr rfl⟩
    obtain ⟨k', e', h'⟩ := this
    obtain ⟨⟨n, k⟩, hn, en⟩ := List.mem_map.mp (lookup_mem e')
    dsimp only at en
    by_cases cc : (k == NameKind.free && X.env.scope.kind == .function && X.env.kindOf n == some .cell) = true
    ·rw [if_pos cc] at en
     cases en
     have kf : k = .free := by
      rw [Bool.and_eq_true, Bool.and_eq_true] at cc
      simpa using cc.1.1
     exact ⟨k, hn, (by intro z; rw [kf] at z; cases z), .inr kf⟩
    ·rw [if_neg cc] at en
     cases en
     exact ⟨k', hn, fun z' => by rcases h' with y | y <;> (rw [y] at z'; cases z'), h'⟩
   obtain ⟨k, hk, _, h2⟩ := hm
   rcases h2 with z | z
   ·exact absurd z (B.cell _ hk)
   ·have hf := B.free _ hk z
    obtain ⟨c, ec⟩ := I3.ok.has x (B.out.at hf)
    exact ⟨c, capCl_has ec hf⟩
  ·obtain ⟨_, _, _, h1, _⟩ := f3 b hb
   rcases h1 with z | z
   ·exact I3.ok.noex b o e z
   ·exact Nat.lt_irrefl _ (Nat.lt_of_lt_of_le (Nat.lt_of_lt_of_le (Heap.lt_size e) I3.ok.bsz) z)
 have IB : Inv (cxB X (tn ++ fr) scope (capCl X.env fr) C s3 H3 fp) [] (sB tn.length caps σ) H3 { s3 with heap := h₁, toks := s3.toks + ([] : List (Str × Value)).length } := by
  refine ⟨okB, rfl, I3.bare, Un.kept kept, ⟨_, hns₁, fun i x v e1 e2 _ => ?_⟩, fun x c e => I4.cell x c (capCl_get e), ?_, fun x c e => I3.freeC x c (capCl_get e), fun p hp => (nomatch hp), I3.hok.kept kept, ?_⟩
  ·obtain ⟨hk, j, ej, es⟩ := sB_get e2
   have e1' : fr[i - tn.length]? = some x := by
    have z : (tn ++ fr)[i]? = some x := e1
    rw [List.getElem?_append_right hk] at z
    exact z
   have hx : x ∈ fr := List.mem_of_getElem? e1'
   have eN : X.N[j]? = some x := by
    have z := congrArg (fun l : List (Option Str) => l[i - tn.length]?) B.caps
    simp only [List.getElem?_map, ej, e1', Option.map_some] at z
    exact Option.some.inj z
   have ko := B.out.at hx
   obtain ⟨m, hn, hl⟩ := I4.loc
   obtain ⟨u, r, lk⟩ := hl j x v eN es (by rcases ko with z | z; exact .inr (.inl z); exact .inr (.inr z))
   refine ⟨u, r, ?_⟩
   rcases lk with ⟨k1, _⟩ | ⟨_, c, ec, ic⟩
   ·rcases ko with z | z <;> (rw [z] at k1; cases k1)
   ·exact .inr ⟨B.inn.at hx, c, capCl_has ec hx, ic⟩
  ·exact I3.hok.fresh hCs
  ·have := congrArg List.length B.caps
   simp only [List.length_map] at this
   show (sB tn.length caps σ).length = (tn ++ fr).length
   unfold sB
   simp [this]
 have statB : ∀ {H' : Hp}, (∀ b ∈ fp, H' b = none) → ∀ b ∈ fp, FpOk (cxB X (tn ++ fr) scope (capCl X.env fr) C s3 H3 fp) [] H' b := fun hn b hb =>
  ⟨hn b hb, fpC b hb, nst b hb, .inl hb, fun x c e => (f3 b hb).2.2.2.2.1 x c (capCl_get e), fun p hp => (nomatch hp)⟩
 have st4 : tnn 0 h₁ := T.keep _ _ _ st3 fun b _ o e => kept b o e
 have loop : codeAny (model X.prog X.w) X.A (.compLoop (.ListComp elt [⟨target, iter, ifs, 0⟩] scope pos) 0 (.ref it) (.ref D) (compEnvC scope (capCl X.env fr) C X.env)) (RR (.ref D) C) { s3 with heap := h₁, toks := s3.toks + ([] : List (Str × Value)).length } := by
  refine compLoop_any (fun n s' => ∃ i σ' ys H', Inv (cxB X (tn ++ fr) scope (capCl X.env fr) C s3 H3 fp) [] σ' H' s' ∧ tnn i s'.heap ∧ (∀ b ∈ fp, H' b = none) ∧ W i n σ' ys H') ?_ m0 ⟨0, _, [], H3, IB, st4, fun b hb => (f3 b hb).1, w0⟩
  rintro n s5 ⟨i, σ5, ys, H5, I5, st5, fr5, w5⟩
  rcases turn i n σ5 ys H5 w5 with ⟨stop, qn⟩ | ⟨go, step⟩
  ·refine wpAny_mono (T.done (cxB X (tn ++ fr) scope (capCl X.env fr) C s3 H3 fp) rfl rfl rfl hc i [] s5 σ5 H5 (fun _ _ => False) I5 (statB fr5) st5 stop) (fun r s6 ⟨hr, I6⟩ => ?_) fun _ _ z => z
   subst hr
   obtain ⟨m, hn, _⟩ := I6.loc
   have J6 : Inv X pins σ H5 s6 := I3.call' (ch := fp) I6.os I6.base I6.hok I6.bare fun b hb => ⟨(f3 b hb).2.2.2.1, (f3 b hb).2.1, (f3 b hb).2.2.2.2.1, (f3 b hb).2.2.2.2.2⟩
   exact fin D C H5 s6 m J6 hn (I3.fpOk hCs I6.free) qn
  ·refine wpAny_mono (T.item (cxB X (tn ++ fr) scope (capCl X.env fr) C s3 H3 fp) rfl rfl rfl hc i [] s5 σ5 H5 (fun _ _ => False) I5 (statB fr5) st5 go) (fun r s6 ⟨u, hr, h6⟩ => ?_) fun _ _ z => z
   subst hr
   refine wpAny_mono h6 (fun _ s7 ⟨x, H7, I7, r7, y7, st7, fr7⟩ => ?_) fun _ _ z => z
   have I7' := I7.pinned (statB fr7) (T.obj _ _ st7)
   have held : ∀ {σ' : L2.St} {H' : Hp} {s' : Shared}, Inv (cxB X (tn ++ fr) scope (capCl X.env fr) C s3 H3 fp) ([] ++ pinsAt fp s7.heap) σ' H' s' → tnn (i + 1) s'.heap ∧ ∀ b ∈ fp, H' b = none := fun {σ' H' s'} I' => by
    refine ⟨T.keep _ _ _ st7 fun b hb o e => (I'.pin (b, o) (List.mem_append_right _ (List.mem_append_right _ (mem_pinsAt hb e)))).1, fun b hb => ?_⟩
    obtain ⟨o, e, d⟩ := T.obj _ _ st7 b hb
    exact (I'.pin (b, o) (List.mem_append_right _ (List.mem_append_right _ (mem_pinsAt hb e)))).2.1
   refine wpAny_mono (hg C s3 H3 fp _ s7 σ5 H7 x u _ I7' r7 (step x H7 y7)) (fun _ s8 ⟨σ8, H8, I8, q8⟩ => ?_) fun _ _ z => z
   refine wpAny_mono (ht C s3 H3 fp _ s8 σ8 H8 _ I8 q8) (fun ok s9 ⟨H9, I9, q9⟩ => ?_) fun _ _ z => z
   cases ok with
   | false =>
    rw [if_neg Bool.false_ne_true] at q9
    obtain ⟨m', hm, w9⟩ := q9
    rw [if_neg Bool.false_ne_true]
    obtain ⟨a, b⟩ := held I9
    exact ⟨m', hm, i + 1, σ8, ys, H9, I9.unpinned, a, b, w9⟩
   | true =>
    rw [if_pos rfl] at q9
    rw [if_pos rfl]
    refine wpAny_mono (he C s3 H3 fp _ s9 σ8 H9 _ I9 q9) (fun v s10 ⟨y, H10, I10, r10, hDD, hl, m', hm, w10⟩ => ?_) fun _ _ z => z
    refine wpAny_mono (mt_append (X := cxB X (tn ++ fr) scope (capCl X.env fr) C s3 H3 fp) _ s10 σ8 H10 (.ref D) [y] (.ref D) [v] (fun _ H' => W (i + 1) m' σ8 (ys ++ [y]) H') I10 rfl (.cons r10 .nil) ⟨D, ys, y, rfl, rfl, hDD, hl, w10⟩) (fun _ s11 ⟨z, H11, I11, _, q11⟩ => ?_) fun _ _ z => z
    obtain ⟨a, b⟩ := held I11
    exact ⟨m', hm, i + 1, σ8, ys ++ [y], H11, I11.unpinned, a, b, q11⟩
 exact codeAny_compStart_list loop (T.self X.A 0 _ _ _ st4 loop)
theorem pe_comp {elt target iter : Expr} {ifs : List Expr} {scope : Scope} {pos : Pos} {tn fr : List Str} {caps : List Nat} {wi : TI} {g : TG} {tt : TT} {te : TE} (hc : X.calm = true) (B : BlkS X scope fr caps) (hi : PI X target iter wi)
  (hg : ∀ C s H fp, PG (cxB X (tn ++ fr) scope (capCl X.env fr) C s H fp) target g) (ht : ∀ C s H fp, PF (cxB X (tn ++ fr) scope (capCl X.env fr) C s H fp) ifs tt) (he : ∀ C s H fp, PE (cxB X (tn ++ fr) scope (capCl X.env fr) C s H fp) elt te)
  (hs : ∀ x, foldedSetIterable iter X.env x = pure x := by intro _; rfl) : PE X (.ListComp elt [⟨target, iter, ifs, 0⟩] scope pos) (tComp tn.length caps wi g tt te) := by
 intro pins s σ H Q I h
 rw [eval_ListComp]
 refine wpAny_comprehension_free (use := none) rfl hs B.clos B.kind B.names (thn (hi pins s σ H _ I h) fun v s1 h1 => thn h1 fun itv s2 h2 => ?_)
 obtain ⟨it, fp, tnn, J, H2, rfl, I2, T, st2, f2, q⟩ := h2
 refine comp_block (Q := Q) (RR := fun acc C => compPost (model X.prog X.w) X.A X.xe none (EP X pins σ Q) acc C) hc B hg ht he I2 T st2 f2 q ?_
 intro D C H' s' m I' hn fc qq
 obtain ⟨g0, g1, g2, g3, g4, g5⟩ := fc
 exact ⟨m, hn, fun h' hs' => ⟨.ref D, H', I'.turned (t' := s'.toks) (fun b o hb e => (hs'.2 b hb).trans e) g0 g1 g3 g4 g5, rfl, qq⟩⟩
theorem ps_setC {i : Nat} {y : Str} {py : Pos} {spos : Pos} {elt target iter : Expr} {ifs : List Expr} {scope : Scope} {pos : Pos} {tn fr : List Str} {caps : List Nat} {wi : TI} {g : TG} {tt : TT} {te : TE} (hN : X.N.Nodup) (hiN : X.N[i]? = some y) (hx : Loc X.env.scope y)
  (hc : X.calm = true) (B : BlkS X scope fr caps) (hi : PI X target iter wi)
  (hg : ∀ C s H fp, PG (cxB X (tn ++ fr) scope (capCl X.env fr) C s H fp) target g) (ht : ∀ C s H fp, PF (cxB X (tn ++ fr) scope (capCl X.env fr) C s H fp) ifs tt) (he : ∀ C s H fp, PE (cxB X (tn ++ fr) scope (capCl X.env fr) C s H fp) elt te)
  (hsw : swapsWith (.ListComp elt [⟨target, iter, ifs, 0⟩] scope pos) (some (.Name y py)) spos.line X.env = pure true := by rfl)
  (hs : ∀ x, foldedSetIterable iter X.env x = pure x := by intro _; rfl) (hf : X.fn y = true ∨ X.env.scope.names.lookup y = some .local := by first | exact .inl rfl | exact .inr rfl | assumption) :
  PS X (.Assign [.Name y py] (.ListComp elt [⟨target, iter, ifs, 0⟩] scope pos) spos) (tAsg (tComp tn.length caps wi g tt te) (gName i)) := by
 intro pins s σ H D I h
 rw [exec_Assign_Name_used _ _ _ _ hsw]
 refine wpAny_bind (wpAny_standAt (wpAny_bind ?_))
 show wpAny _ X.A (do let _ ← comprehension (.ListComp elt [⟨target, iter, ifs, 0⟩] scope pos) scope X.env _ (newList []) false (eval iter X.env) (some (assign (.Name y py) X.env))) _ _ s
 refine wpAny_bind (wpAny_mono (wpAny_comprehension_free (use := some (assign (.Name y py) X.env)) (Q := fun _ s' => SP X pins D .next s') rfl hs B.clos B.kind B.names
  (thn (hi pins s σ H _ I h) fun v s1 h1 => thn h1 fun itv s2 h2 => ?_)) (fun _ s' hq => wpAny_pure (wpAny_pure hq)) fun _ _ e => e)
 obtain ⟨it, fp, tnn, J, H2, rfl, I2, T, st2, f2, q⟩ := h2
 refine comp_block (Q := fun v H1 => gName i v σ H1 D.nx) (RR := fun acc C => compPost (model X.prog X.w) X.A X.xe (some (assign (.Name y py) X.env)) (fun _ s' => SP X pins D .next s') acc C) hc B hg ht he I2 T st2 f2 q ?_
 intro DD C H' s' m I' hn fc qq
 obtain ⟨g0, g1, g2, g3, g4, g5⟩ := fc
 show wpAny _ X.A (assign (.Name y py) X.env (.ref DD)) _ _ _
 refine wpAny_assign_Name (store_ok2 I' hN hiN hx (v := .ref DD) (u := .ref DD) rfl (fun s'' I'' ⟨a, sb, ha⟩ => ?_) hf)
 have hCa : C ≠ a := by
  rcases ha with z | z
  ·rw [z]
   exact g1
  ·exact fun e => g4 y a z e.symm
 exact ⟨m, hn.sameBut sb hCa, fun h' hs' => ⟨_, H', I''.turned (t' := s''.toks) (fun b o hb e => (hs'.2 b hb).trans e) g0 g1 g3 g4 g5, qq⟩⟩
end
section
variable {D : Addr} {te : TE} {cap : L2.St} {H1 : Hp} {Q : VK}
theorem blk_of {J : It} (n : Nat) (xs : Nat → V) (Pv : Nat → List V → Hp → Prop) (h0 : Pv 0 [] (upd H1 D (.lst [])))
  (go : ∀ i ys H, i < n → Pv i ys H → J.go i H ∧ ∀ x H', J.yld i H x H' → H' = H ∧ x = xs i) (stop : ∀ ys H, Pv n ys H → J.stop n H)
  (hs : ∀ i ys H (R : VK), i < n → Pv i ys H → H D = some (.lst ys) → (∀ v H6, H6 D = some (.lst ys) → ys.length < sizeLine → Pv (i + 1) (ys ++ [v]) (upd H6 D (.lst (ys ++ [v]))) → R v H6) → te (some (xs i) :: cap) H R)
  (hd : ∀ ys H, Pv n ys H → H D = some (.lst ys) → Q (.ref D) H) : tBlk D (gName 0) tYes te J (none :: cap) H1 Q := by
 refine ⟨fun i m σ ys H => m = n - i ∧ i ≤ n ∧ (∃ o, σ = o :: cap) ∧ Pv i ys H ∧ H D = some (.lst ys), ⟨n, by simp, Nat.zero_le _, ⟨none, rfl⟩, h0, upd_same⟩, ?_⟩
 rintro i m σ ys H ⟨rfl, hi, ⟨o, rfl⟩, p, hD⟩
 by_cases hlt : i < n
 ·obtain ⟨g1, g2⟩ := go i ys H hlt p
  refine .inr ⟨g1, fun x H' y => ?_⟩
  obtain ⟨e1, e2⟩ := g2 x H' y
  subst e1 e2
  unfold gName tYes
  dsimp only
  rw [if_pos rfl]
  exact hs i ys _ _ hlt p hD fun v H6 a b c => ⟨a, b, n - (i + 1), by omega, rfl, by omega, ⟨_, rfl⟩, c, upd_same⟩
 ·have e : i = n := by omega
  subst e
  exact .inl ⟨stop ys H p, hd ys H p hD⟩
end
def Its (x : Str) : It := ⟨fun i _ => i < x.cps.size, fun i H v H' => H' = H ∧ ∃ c, x.cps[i]? = some c ∧ v = .str ⟨#[c]⟩, fun i _ => i = x.cps.size⟩
section
variable {X : Cx} {tg : Expr}
def iStr (tl : TE) : TI := fun σ H R => tl σ H fun x H1 => ∃ z, x = .str z ∧ R (Its z) H1
end
end Ty
set_option maxHeartbeats 4000000
namespace Ty
open PySem PySem.Spec PyProof.Rows L2
section
variable {prog : Program} {w : World} {A : Around} {E : Value → Shared → Prop}
end
def gLst (K : Frag) (n : Nat) (t : TGs) : TG := fun v σ H Q => ∃ a xs, v = .ref a ∧ SqL K H a xs ∧ xs.length = n ∧ t xs σ H Q
structure Mk0 (K : Frag) (C : Addr) : Prop where
 makes : PySem.W.makesIn K C = true
 init : PySem.W.findIn K (.ref C) "__init__" = some (some (.builtin "object.__init__"))
 kp : keepIn K (.ref C) = true
def tMk0 (C : Addr) : TE := fun _ H Q => ∀ x dx, H x = none → H dx = none → dx ≠ x → Q (.ref x) (upd (upd H dx (.own x)) x (.ins C dx []))
section
variable {X : Cx}
theorem run_mk0 {pins : List (Addr × Obj)} {σ : L2.St} {H : Hp} {s : Shared} {Q : VK} {C : Addr} (M : Mk0 X.K C) (I : Inv X pins σ H s) (h : tMk0 C σ H Q) : wpAny (model X.prog X.w) X.A (call (.ref C) []) (EP X pins σ Q) X.xe s := by
 have hq := h (s.heap.objs.size + 1) s.heap.objs.size (I.hok.fresh (Nat.le_succ _)) (I.hok.fresh (Nat.le_refl _)) (Nat.ne_of_lt (Nat.lt_succ_self _))
 have I2 := Inv.made (C := C) I
 have Y := PySem.W.makes_of (M := model X.prog X.w) I.kIn M.makes
 refine wpAny_call (make_map0 I.kIn M.makes M.init (fun self => PySem.W.Looks.of_pure (PySem.W.oi_bind self)) ?_)
 have ho : ((s.heap.push PySem.W.emptyDict).push (PySem.W.instObj C s.heap.objs.size)).get? (s.heap.objs.size + 1) = some (PySem.W.instObj C s.heap.objs.size) := by
  have := Heap.get?_push_size (s.heap.push PySem.W.emptyDict) (o := PySem.W.instObj C s.heap.objs.size) rfl
  rwa [Heap.size_push] at this
 have t1 : PySem.W.Looks (model X.prog X.w) ((s.heap.push PySem.W.emptyDict).push (PySem.W.instObj C s.heap.objs.size)) (typeOf (.ref (s.heap.objs.size + 1))) (.ref C) := (PySem.W.Looks.ld ho).andThen .now
 have t2 : PySem.W.Looks (model X.prog X.w) ((s.heap.push PySem.W.emptyDict).push (PySem.W.instObj C s.heap.objs.size)) (isInstance (.ref (s.heap.objs.size + 1)) (.type "object")) true :=
  t1.andThen (Y.top.keeps fun b o e => Heap.get?_push_of_some _ (Heap.get?_push_of_some _ e))
 refine codeAny_call_builtin PySem.W.oi_plain PySem.W.entry_oi (@PySem.W.check_slot (model X.prog X.w) _ _ _ "object.__init__" "object" "__init__" (.ref (s.heap.objs.size + 1)) [] [] _ PySem.W.oi_kind PySem.W.oi_split t2 (PySem.W.oi_args (.ref (s.heap.objs.size + 1))) ?_)
 rw [PySem.W.oi_run]
 exact wpAny_pure (And.intro rfl ⟨V.ref (s.heap.objs.size + 1), _, I2, rfl, hq⟩)
theorem pe_mk0 {x : Str} {p pos : Pos} {C : Addr} (M : Mk0 X.K C) (hg : Gl X x) (hm : X.mg x = some (.ref C)) (hdb : (x == ("__debug__" : Str)) = false := by decide) : PE X (.Call (.Name x p) [] [] pos) (tMk0 C) := by
 intro pins s σ H Q I h
 refine wpAny_Call_Name_kw (ld_glob I hg hm ?_ hdb)
 exact PySem.W.callWith_K0 I.kIn M.kp (run_mk0 M I h)
end
structure MtdOk (P : Program) (w : World) (K : Frag) (mg : Str → Option Value) (base : Heap) (CX : CXT) (k : Nat) (C : Addr) (m : Str) (ps : List Str) (sp : Sp) : Prop where
 ex : ∃ (f : Addr) (fd : FuncData), Cls K C ∧ Meth K C m f ∧ FnOk P w K mg base CX k f fd ps sp ∧ Binds K fd ps []
theorem MtdOk.mono {P : Program} {w : World} {K : Frag} {mg : Str → Option Value} {base : Heap} {CX : CXT} {j k : Nat} {C : Addr} {m : Str} {ps : List Str} {sp : Sp} (M : MtdOk P w K mg base CX j C m ps sp) (h : j ≤ k) : MtdOk P w K mg base CX k C m ps sp := by
 obtain ⟨f, fd, a, b, c, d⟩ := M.ex
 exact ⟨f, fd, a, b, c.mono h, d⟩
section
variable {X : Cx} {CX : CXT} {k : Nat} {E : XK} {m : Str} {pos apos : Pos} {e o : Expr} {es : List Expr} {ta : TE} {t : TA}
def tMtd (P : Program) (w : World) (K : Frag) (mg : Str → Option Value) (base : Heap) (CX : CXT) (k : Nat) (m : Str) (E : XK) (ta : TE) (t : TA) : TE := fun σ H Q => ta σ H fun x H1 => ∃ a C dx fs ps sp, x = .ref a ∧ H1 a = some (.ins C dx fs) ∧ fs.lookup m = none ∧
 MtdOk P w K mg base CX k C m ps sp ∧ t σ H1 fun vs H2 => sp (x :: vs) H2 Q E
theorem pe_mtd0 {pl : Sem Bool} (he : PE X o ta) (hr : Room k X.A) (hx : Passes CX X E)
  (ht : eval (.Call (.Attribute o m apos) [] [] pos) X.env = (do
   let ov ← eval o X.env
   standAt apos.atName
   let (f, first) ← holding [ov] (getMethod ov m pl)
   callWith pos f first (backTo pos (starEach [] X.env)) (backToKw pos (keywordEach [] X.env))) := by rfl) :
  PE X (.Call (.Attribute o m apos) [] [] pos) (tMtd X.prog X.w X.K X.mg X.base CX k m E ta tNil) := by
 intro pins s σ H Q I h
 refine PySem.W.methodCall_KW (pl := pl) (thn (he pins s σ H _ I h) fun u s1 ⟨x, H1, I1, rx, a, C, dx, fs, ps, sp, ex, ea, l, M, q⟩ => ?_) ht
 subst ex
 obtain rfl : u = Value.ref a := rx
 obtain ⟨f, fd, c, hm, F, hb⟩ := M.ex
 refine getmeth_ok I1 ea c hm l ?_
 exact PySem.W.callWith_K0 (first := [.ref a]) I1.kIn hm.kp (run_fn (us := [.ref a]) (vs := [.ref a]) (dvs := []) F hr hb .nil hx I1 (.cons rfl .nil) q)
theorem pe_mtd {pl : Sem Bool} (he : PE X o ta) (hr : Room k X.A) (hx : Passes CX X E) (ha : PA X (e :: es) t)
  (hst : starEach (e :: es) X.env = (false, eval e X.env) :: starEach es X.env := by rfl) (hpl : (backTo pos (starEach es X.env)).any (·.1) = false := by rfl)
  (ht : eval (.Call (.Attribute o m apos) (e :: es) [] pos) X.env = (do
   let ov ← eval o X.env
   standAt apos.atName
   let (f, first) ← holding [ov] (getMethod ov m pl)
   callWith pos f first (backTo pos (starEach (e :: es) X.env)) (backToKw pos (keywordEach [] X.env))) := by rfl) :
  PE X (.Call (.Attribute o m apos) (e :: es) [] pos) (tMtd X.prog X.w X.K X.mg X.base CX k m E ta t) := by
 intro pins s σ H Q I h
 refine PySem.W.methodCall_KW (pl := pl) (thn (he pins s σ H _ I h) fun u s1 ⟨x, H1, I1, rx, a, C, dx, fs, ps, sp, ex, ea, l, M, q⟩ => ?_) ht
 subst ex
 obtain rfl : u = Value.ref a := rx
 obtain ⟨f, fd, c, hm, F, hb⟩ := M.ex
 refine getmeth_ok I1 ea c hm l ?_
 refine PySem.W.callWith_K (first := [.ref a]) (h₀ := X.base) I.ok.mod.kin hm.kp (thn (ha pos pins s1 σ H1 _ I1 q) fun us s2 ⟨vs, H2, I2, r, q2⟩ => ⟨I2.kIn, ?_⟩) hst hpl
 refine run_fn (us := .ref a :: us) (vs := .ref a :: vs) (dvs := []) F hr hb .nil hx I2 (.cons rfl r) ?_
 rw [List.append_nil]
 exact q2
end
theorem passB {X : Cx} {CX : CXT} (h : Mute CX) (e : X.xe = fun _ _ => False) : Passes CX X E0 := fun _ _ _ _ _ _ _ q => (h _ _ _ _ _ q).elim
end Ty
set_option maxHeartbeats 4000000
namespace Ty
open PySem PySem.Spec PyProof.Rows L2
section
variable {σ : L2.St} {H : Hp} {Q : VK} {QB : Bool → Hp → Prop} {QA : List V → Hp → Prop} {D : Ends} {t u : TS} {ta tb te : TE} {tc td : TT} {t1 : TA}
end
end Ty
set_option maxHeartbeats 4000000
namespace Ty
open PySem PySem.Spec PyProof.Rows L2
section
variable {X : Cx}
def tFmt (te : TE) : TE := fun σ H Q => te σ H fun x H1 => ∃ z, x = .str z ∧ z.length ≤ sizeLine ∧ Q (.str z) H1
abbrev TJ := L2.St → Hp → (List Str → Hp → Prop) → Prop
def PJ (X : Cx) (es : List Expr) (t : TJ) : Prop :=
 ∀ (pins : List (Addr × Obj)) (s : Shared) (σ : L2.St) (H : Hp) (acc : Str) (Q : List Str → Hp → Prop), Inv X pins σ H s → acc.length + 5000 * es.length ≤ sizeLine → t σ H Q →
  Joins (model X.prog X.w) X.A X.xe (evalEach es X.env) acc (fun out s1 => ∃ ys H1, Inv X pins σ H1 s1 ∧ out = ys.foldl (· ++ ·) acc ∧ out.length ≤ sizeLine ∧ Q ys H1) s
def jNil : TJ := fun _ H Q => Q [] H
def jCons (te : TE) (t : TJ) : TJ := fun σ H Q => te σ H fun x H1 => ∃ z, x = .str z ∧ z.length ≤ 5000 ∧ t σ H1 fun ys H2 => Q (z :: ys) H2
def tJoin (t : TJ) : TE := fun σ H Q => t σ H fun ys H1 => Q (.str (ys.foldl (· ++ ·) Str.empty)) H1
def rStarts : V → List V → Hp → VK → Prop := fun x vs H Q => ∃ z y, x = .str z ∧ vs = [.str y] ∧ Q (.bl (Txt.startswith z y)) H
def rFind : V → List V → Hp → VK → Prop := fun x vs H Q => ∃ z y, x = .str z ∧ vs = [.str y] ∧ Q (.int (Txt.find z y)) H
def rPartition : V → List V → Hp → VK → Prop := fun x vs H Q => ∃ z y, x = .str z ∧ vs = [.str y] ∧ (y.length == 0) = false ∧ z.length ≤ sizeLine ∧
 ∀ p, H p = none → Q (.ref p) (upd H p (.tup [.str (Txt.partition z y).1, .str (Txt.partition z y).2.1, .str (Txt.partition z y).2.2]))
def rSlS : V → Option Int → Option Int → Hp → VK → Prop := fun x lo hi H Q => ∃ z, x = .str z ∧ z.length ≤ sizeLine ∧ Q (.str (Txt.slice z lo hi)) H
theorem sl_str : SlR X rSlS := by
 intro pins s σ H x v vl vu lo hi sl Q I rx hs pl pu h
 obtain ⟨z, rfl, hz, q⟩ := h
 obtain ⟨t, rfl⟩ := rx
 refine ⟨"str", _, F.slot_str_getitem.lookup, typeIs_str _ _ _, ?_⟩
 cases pl <;> cases pu
 ·exact wpAny_getItem_str_slice (l := none) (u := none) (st := none) hs rfl (post_val_or_str ⟨Nat.le_trans (Txt.slice_le z _ _) hz, fun t' k => ⟨.str _, H, I.tok k, ⟨t', rfl⟩, q⟩⟩)
 ·rename_i j uj
  exact wpAny_getItem_str_slice (l := none) (u := some (j, uj)) (st := none) hs rfl (post_val_or_str ⟨Nat.le_trans (Txt.slice_le z _ _) hz, fun t' k => ⟨.str _, H, I.tok k, ⟨t', rfl⟩, q⟩⟩)
 ·rename_i i ui
  exact wpAny_getItem_str_slice (l := some (i, ui)) (u := none) (st := none) hs rfl (post_val_or_str ⟨Nat.le_trans (Txt.slice_le z _ _) hz, fun t' k => ⟨.str _, H, I.tok k, ⟨t', rfl⟩, q⟩⟩)
 ·rename_i i ui j uj
  exact wpAny_getItem_str_slice (l := some (i, ui)) (u := some (j, uj)) (st := none) hs rfl (post_val_or_str ⟨Nat.le_trans (Txt.slice_le z _ _) hz, fun t' k => ⟨.str _, H, I.tok k, ⟨t', rfl⟩, q⟩⟩)
def rIntText : List V → Hp → VK → Prop := fun xs H Q => ∃ z n, xs = [.str z] ∧ PySem.intText? z = some n ∧ z.length ≤ 640 ∧ Q (.int n) H
def rMulS : R2 := fun x y H Q => ∃ z n, x = .str z ∧ y = .int n ∧ MulOk z n ∧ Q (.str (Txt.mul z n)) H
theorem op_mulS : OpR X (binaryOp .Mult) rMulS := by
 intro pins s σ H x y v u Q I rx ry h
 obtain ⟨z, n, rfl, rfl, ok, q⟩ := h
 obtain ⟨t, rfl⟩ := rx
 obtain ⟨t', rfl⟩ := ry
 exact SB.mul ok fun t' k => ⟨.str _, H, I.tok k, ⟨t', rfl⟩, q⟩
theorem all_range (bs : List Bool) : (List.range bs.length).all (fun i => (bs[i]?).getD true) = bs.all id := by
 induction bs with
 | nil => rfl
 | cons b r ih =>
  rw [List.length_cons, List.range_succ_eq_map, List.all_cons, List.all_map, List.all_cons, ← ih]
  rfl
def rAll (K : Frag) : List V → Hp → VK → Prop := fun xs H Q => ∃ (p : Addr) (bs : List Bool), xs = [.ref p] ∧ SqL K H p (bs.map V.bl) ∧ Q (.bl (bs.all id)) H
theorem call_allB (hc : X.calm = true) : CallR X (.builtin "all") (rAll X.K) := by
 intro pins s σ H xs us Q I r h
 obtain ⟨p, bs, rfl, hq, q⟩ := h
 obtain ⟨u, rfl, r1⟩ := vals1 r
 cases r1
 obtain ⟨its, rv, pl, hz⟩ := I.list hq
 refine call_all_walk (wpAny_pyIter_list pl.isList ?_)
 have hne : p ≠ s.heap.objs.size := by obtain ⟨o, ho, _⟩ := pl.isList; exact Nat.ne_of_lt (Heap.lt_size ho)
 have I1 : Inv X pins σ H { s with heap := s.heap.push { cls := .type "list_iterator", data := .fields #[.ref p, .int 0 0] } } := I.kept (t' := s.toks) fun b o e => Heap.get?_push_of_some _ e
 obtain ⟨f0, f1, f2, f3, f4, f5⟩ := I.fpOk (H' := H) (Nat.le_refl s.heap.objs.size) (I.hok.fresh (Nat.le_refl _))
 have hl : its.length = bs.length := by rw [← rv.length, List.length_map]
 refine ⟨s.heap.objs.size, _, _, _, _, _, fun i => (bs[i]?).getD true, rfl, Walks.list (A := X.A.in1) (I.ok.hd hc) s.heap.objs.size p hne its.toArray, ⟨⟨_, Heap.get?_push_size _ rfl, rfl, rfl⟩, pl.isList.at fun o e => Heap.get?_push_of_some _ e⟩, ?_, fun h' tk kk => ?_⟩
 ·intro i v s' Q' E' hv hq'
  have hv' : its[i]? = some v := by simpa using hv
  have hi : i < bs.length := by rw [← hl]; exact (List.getElem?_eq_some_iff.mp hv').1
  have eb : (bs.map V.bl)[i]? = some (.bl bs[i]) := by rw [List.getElem?_map, gE hi]; rfl
  obtain ⟨u, eu, ru⟩ := rv.get eb
  rw [hv'] at eu
  cases eu
  cases ru
  dsimp only at hq'
  rw [gE hi] at hq'
  exact wpAny_truthy_bool hq'
 ·refine ⟨.bl (bs.all id), H, I1.turned (t' := tk) (it := s.heap.objs.size) (fun b o hb e => kk b o (by simpa using hb) e) f0 f1 f3 f4 f5, ?_, q⟩
  show _ = _
  rw [← all_range bs, List.size_toArray, hl]
end
end Ty
set_option maxHeartbeats 4000000
namespace Ty
open PySem PySem.Spec PyProof.Rows L2 PySem.NumText
theorem cps_append (x y : Str) : (x ++ y).cps.toList = x.cps.toList ++ y.cps.toList := by
 show (x.cps ++ y.cps).toList = _
 simp
def dg (m : Nat) : List Nat := (Nat.toDigits 10 m).map Char.toNat
def tx (n : Int) : Str := Str.ofString (toString n)
def slash : Str := Str.ofString "/"
def nt (q : Int × Int) : Str := if q.2 = 1 then tx q.1 else tx q.1 ++ slash ++ tx q.2
theorem one_sign (c : Nat) : (⟨#[c]⟩ : Str).length = 1 := rfl
end Ty
set_option maxHeartbeats 4000000
namespace Ty
open PySem PySem.Spec PyProof.Rows L2 PySem.NumText
structure Txk (x : Str) : Prop where
 len : x.length ≤ 400
 cod : ∀ c ∈ x.cps.toList, c < 1000
section
variable {X : Cx}
def tRep (te : TE) : TE := fun σ H Q => te σ H fun x H1 => ∃ z, x = .str z ∧ Txk z ∧ ∀ y : Str, y.length ≤ 5000 → Q (.str y) H1
def rJoinL (K : Frag) : V → List V → Hp → VK → Prop := fun x vs H Q => ∃ (z : Str) (p : Addr) (ys : List Str), x = .str z ∧ vs = [.ref p] ∧ SqL K H p (ys.map V.str) ∧ (ys.map (·.length)).sum + ys.length * z.length ≤ 16777216 ∧ Q (.str (Txt.join z ys)) H
end
def isStar : Expr → Bool
 | .Starred .. => true
 | _ => false
theorem star_cons {e : Expr} {es : List Expr} {env : Env} (h : isStar e = false) : starEach (e :: es) env = (false, eval e env) :: starEach es env := by
 cases e <;> first | rfl | (cases h; done)
theorem pac {X : Cx} {e : Expr} {es : List Expr} {te : TE} {t : TA} (ha : PE X e te) (hr : PA X es t) (h : isStar e = false := by rfl) : PA X (e :: es) (tCons te t) := pa_cons ha hr (star_cons h)
def writs : List Expr → Option (List Str)
 | [] => some []
 | .Constant (.str x) _ _ :: r => (writs r).map (x :: ·)
 | _ => none
def tStrs (xs : List Str) : TA := fun _ H Q => Q (xs.map V.str) H
end Ty
set_option maxHeartbeats 4000000
namespace Ty
open PySem PySem.Spec PyProof.Rows L2
section
variable {D : Addr} {te : TE} {cap : L2.St} {H1 : Hp} {Q : VK}
def KSame (D : Addr) (H H' : Hp) : Prop := ∀ b o, b ≠ D → H b = some o → H' b = some o
theorem KSame.of {H H' : Hp} (s : Same H H') : KSame D H H' := fun b o _ e => s b o e
theorem KSame.upd {H : Hp} {o : HO} : KSame D H (upd H D o) := fun b o' n e => by rw [upd_ne n]; exact e
theorem comp_gen {J : It} (n : Nat) (xs : Nat → V) (Rel : Nat → V → Hp → Prop) (nD : H1 D = none) (hn : n < sizeLine)
  (go : ∀ i H, i < n → Same H1 H → J.go i H ∧ ∀ x H', J.yld i H x H' → H' = H ∧ x = xs i) (stop : ∀ H, Same H1 H → J.stop n H)
  (hR : ∀ i v H H' ys, H D = some (.lst ys) → KSame D H H' → Rel i v H → Rel i v H')
  (he : ∀ i H (R : VK), i < n → Same H1 H → (∀ v H6, Same H H6 → Rel i v H6 → R v H6) → te (some (xs i) :: cap) H R)
  (hd : ∀ ys H, ys.length = n → (∀ i v, ys[i]? = some v → Rel i v H) → Same H1 H → H D = some (.lst ys) → Q (.ref D) H) :
  tBlk D (gName 0) tYes te J (none :: cap) H1 Q := by
 refine blk_of n xs (fun i ys H => ys.length = i ∧ (∀ i v, ys[i]? = some v → Rel i v H) ∧ Same H1 H) ⟨rfl, fun i v e => by simp at e, fun b o e => by rw [upd_ne (ne_of_none e nD)]; exact e⟩ ?_ ?_ ?_ ?_
 ·rintro i ys H hi ⟨_, _, s⟩
  exact go i H hi s
 ·rintro ys H ⟨_, _, s⟩
  exact stop H s
 ·rintro i ys H R hi ⟨l, r, s⟩ hD k
  refine he i H R hi s fun v H6 s6 rv => k v H6 (s6 _ _ hD) (by omega) ⟨by simp [l], fun j u e => ?_, fun b o e => ?_⟩
  ·by_cases c : j < ys.length
   ·rw [List.getElem?_append_left c] at e
    have ru := hR j u H H6 ys hD (KSame.of s6) (r j u e)
    exact hR j u H6 _ ys (s6 _ _ hD) KSame.upd ru
   ·rw [List.getElem?_append_right (by omega)] at e
    have ej : j = i := by
     by_cases z : j - ys.length = 0
     ·omega
     ·rw [List.getElem?_eq_none (by simp; omega)] at e
      cases e
    subst ej
    have : v = u := by
     rw [show j - ys.length = 0 by omega] at e
     exact Option.some.inj e
    subst this
    exact hR j v H6 _ ys (s6 _ _ hD) KSame.upd rv
  ·rw [upd_ne (ne_of_none e nD)]
   exact s6 _ _ (s _ _ e)
 ·rintro ys H ⟨l, r, s⟩ hD
  exact hd ys H l r s hD
theorem comp_list {K : Frag} {a : Addr} {xs : List V} (Rel : Nat → V → Hp → Prop) (nD : H1 D = none) (hn : xs.length < sizeLine) (hS : ∀ H, Same H1 H → SqL K H a xs)
  (hR : ∀ i v H H' ys, H D = some (.lst ys) → KSame D H H' → Rel i v H → Rel i v H')
  (he : ∀ i x H (R : VK), xs[i]? = some x → Same H1 H → (∀ v H6, Same H H6 → Rel i v H6 → R v H6) → te (some x :: cap) H R)
  (hd : ∀ ys H, ys.length = xs.length → (∀ i v, ys[i]? = some v → Rel i v H) → Same H1 H → H D = some (.lst ys) → Q (.ref D) H) :
  tBlk D (gName 0) tYes te (Itl K a) (none :: cap) H1 Q := by
 refine comp_gen xs.length (fun i => (xs[i]?).getD .non) Rel nD hn (fun i H hi s => ⟨⟨xs, xs[i], hS H s, gE hi⟩, fun x H' y => ⟨y.1, ?_⟩⟩) (fun H s => ⟨xs, hS H s, Nat.le_refl _⟩) hR (fun i H R hi s k => ?_) hd
 ·rw [y.2 xs (hS H s)]; rfl
 ·have e : xs[i]? = some xs[i] := gE hi
  have k' := he i _ H R e s k
  rw [← (show (xs[i]?).getD .non = xs[i] by rw [e]; rfl)] at k'
  exact k'
theorem comp_range {lo : Int} {n : Nat} (Rel : Nat → V → Hp → Prop) (nD : H1 D = none) (hn : n < sizeLine)
  (hR : ∀ i v H H' ys, H D = some (.lst ys) → KSame D H H' → Rel i v H → Rel i v H')
  (he : ∀ (i : Nat) H (R : VK), i < n → Same H1 H → (∀ v H6, Same H H6 → Rel i v H6 → R v H6) → te (some (.int (lo + i)) :: cap) H R)
  (hd : ∀ ys H, ys.length = n → (∀ i v, ys[i]? = some v → Rel i v H) → Same H1 H → H D = some (.lst ys) → Q (.ref D) H) :
  tBlk D (gName 0) tYes te (Itr lo n) (none :: cap) H1 Q :=
 comp_gen n (fun i => .int (lo + i)) Rel nD hn (fun i H hi s => ⟨hi, fun x H' y => y⟩) (fun H s => Nat.le_refl n) hR he hd
end
end Ty
set_option maxHeartbeats 4000000
namespace Ty
open PySem PySem.Spec PyProof.Rows L2
section
variable {X : Cx} {pins : List (Addr × Obj)} {σ : L2.St} {H : Hp} {s : Shared} {h' : Heap}
theorem Inv.turnedL {t' : Nat} {fp : List Addr} (I : Inv X pins σ H s) (k : ∀ b o, b ∉ fp → s.heap.get? b = some o → h'.get? b = some o) (hf : ∀ b ∈ fp, FpOk X pins H b) : Inv X pins σ H { s with heap := h', toks := t' } := by
 have nit : ∀ b u, H b = some u → b ∉ fp := fun b u e z => by rw [(hf b z).1] at e; cases e
 refine I.step (g' := s.gens) (d' := s.drawn) (ch := fp) (fun b hb => ?_) (fun b o _ _ hc e _ => k b o hc e) (fun b o _ _ hc e _ => ⟨o.slots, k b o hc e⟩) (fun _ _ _ _ n => n)
  (fun b o hc e => ⟨o, k b o hc e⟩) (fun _ _ e => e) (fun _ _ _ e => e) (fun b ps e => ⟨#[], by rw [e]; simp⟩) (fun m hm => ?_) (fun b u e => ?_) I.bare
 ·obtain ⟨f0, f1, f2, f3, f4, f5⟩ := hf b hb
  exact ⟨f3, f1, f4, f5⟩
 ·obtain ⟨o, es, ep, ho, r⟩ := hm
  exact ⟨o, es, ep, k _ o (fun z => (hf _ z).2.1 rfl) ho, r⟩
 ·refine (I.hok b u e).stay (fun c v hc q => k c v ?_ q) (fun _ q => q) fun _ _ q => q
  rcases hc with z | z
  ·rw [z]; exact nit b u e
  ·exact nit c _ z
theorem Inv.turnedT {t' : Nat} {fp : List Addr} {T : Addr} {xs : List V} {its : List Value} (I : Inv X pins σ H s) (k : ∀ b o, b ∉ fp → s.heap.get? b = some o → h'.get? b = some o) (hf : ∀ b ∈ fp, FpOk X pins H b) (hT : s.heap.objs.size ≤ T)
  (hz : xs.length ≤ sizeLine) (rv : Vals xs its) (ht : IsTup h' T its.toArray) : Inv X pins σ (upd H T (.tup xs)) { s with heap := h', toks := t' } := by
 have hn := I.hok.fresh hT
 have nit : ∀ b u, H b = some u → b ∉ fp := fun b u e z => by rw [(hf b z).1] at e; cases e
 have ne : ∀ b o, s.heap.get? b = some o → b ≠ T := fun b o e => Nat.ne_of_lt (Nat.lt_of_lt_of_le (Heap.lt_size e) hT)
 refine I.step (g' := s.gens) (d' := s.drawn) (ch := fp) (fun b hb => ?_) (fun b o _ _ hc e _ => k b o hc e) (fun b o _ _ hc e _ => ⟨o.slots, k b o hc e⟩) (fun b o _ e n => by rw [upd_ne (ne b o e)]; exact n)
  (fun b o hc e => ⟨o, k b o hc e⟩) (fun b ys e => by rw [upd_ne (ne_of_none e hn)]; exact e) (fun b o u e => by rw [upd_ne (ne_of_none e hn)]; exact e) (fun b ps e => ⟨#[], by rw [upd_ne (ne_of_none e hn), e]; simp⟩) (fun m hm => ?_) (fun b u e => ?_) I.bare
 ·obtain ⟨f0, f1, f2, f3, f4, f5⟩ := hf b hb
  exact ⟨f3, f1, f4, f5⟩
 ·obtain ⟨o, es, ep, ho, r⟩ := hm
  exact ⟨o, es, ep, k _ o (fun z => (hf _ z).2.1 rfl) ho, r⟩
 ·by_cases hb : b = T
  ·subst hb
   rw [upd_same] at e
   cases e
   exact ⟨hz, its, rv, ht⟩
  ·rw [upd_ne hb] at e
   refine (I.hok b u e).stay (fun c v hc q => k c v ?_ q) (fun c q => by rw [upd_ne (ne_of_none q hn)]; exact q) fun c ys q => by rw [upd_ne (ne_of_none q hn)]; exact q
   rcases hc with z | z
   ·rw [z]; exact nit b u e
   ·exact nit c _ z
end
def Itz (K : Frag) (a b : Addr) : It :=
 ⟨fun i H => ∃ xs ys x y, SqL K H a xs ∧ SqL K H b ys ∧ xs[i]? = some x ∧ ys[i]? = some y,
  fun i H v H' => ∃ p x y, (∀ xs, SqL K H a xs → xs[i]? = some x) ∧ (∀ ys, SqL K H b ys → ys[i]? = some y) ∧ v = .ref p ∧ H p = none ∧ H' = upd H p (.tup [x, y]),
  fun i H => ∃ xs ys, SqL K H a xs ∧ SqL K H b ys ∧ (xs.length ≤ i ∨ ys.length ≤ i)⟩
theorem turn_zip {P : Program} {w : World} {K : Frag} {es : List Expr} {k : Nat} {pos : Pos} (a b z TI TO i1 i2 : Addr) (D : ZipApart z TI TO i1 i2 a b) :
  Turn P w K (.Tuple es k pos) (Itz K a b) [z, TI, TO, i1, i2] z (fun i h => IsZip h z TI TO .none ∧ IsPair h TI (.ref i1) (.ref i2) ∧ (∃ x y, IsPair h TO x y) ∧ h.IsListIter i1 a i ∧ h.IsListIter i2 b i) where
 mem := by simp
 obj := fun i h st c hc => by
  obtain ⟨hz, hTI, ⟨x, y, hTO⟩, ⟨o1, e1, c1, d1⟩, ⟨o2, e2, c2, d2⟩⟩ := st
  have hc' : c = z ∨ c = TI ∨ c = TO ∨ c = i1 ∨ c = i2 := by simpa using hc
  rcases hc' with e | e | e | e | e <;> subst e
  ·exact ⟨_, hz, fun v z => by cases z⟩
  ·exact ⟨_, hTI, fun v z => by cases z⟩
  ·exact ⟨_, hTO, fun v z => by cases z⟩
  ·exact ⟨_, e1, fun v z => by rw [d1] at z; cases z⟩
  ·exact ⟨_, e2, fun v z => by rw [d2] at z; cases z⟩
 keep := fun i h h' st k => by
  obtain ⟨hz, hTI, ⟨x, y, hTO⟩, h1, h2⟩ := st
  exact ⟨k z (by simp) _ hz, k TI (by simp) _ hTI, ⟨x, y, k TO (by simp) _ hTO⟩, h1.at fun o e => k i1 (by simp) o e, h2.at fun o e => k i2 (by simp) o e⟩
 item := by
  intro X hP hw hK hc i pins s σ H E I hf st hg
  subst hP hw hK
  obtain ⟨hz, hTI, ⟨x0, y0, hTO⟩, h1, h2⟩ := st
  obtain ⟨xs, ys, x, y, qx, qy, ex, ey⟩ := hg
  obtain ⟨its, rv, p, _⟩ := I.list qx
  obtain ⟨jts, rw', p', _⟩ := I.list qy
  obtain ⟨u, hu, ru⟩ := rv.get ex
  obtain ⟨v, hv, rv'⟩ := rw'.get ey
  refine wpAny_pyNext_zip_item D hz hTI hTO h1 h2 p.isList p'.isList (x := u) (y := v) (by simpa using hu) (by simpa using hv) fun h' a1 a2 a3 a4 a5 a6 a7 => ?_
  refine ⟨_, rfl, wpAny_letOwnedTupleGo_zip (s := { s with heap := h' }) a1 fun h'' b1 sb => ?_⟩
  have nz : ∀ c, c ≠ z → ∀ o, h'.get? c = some o → h''.get? c = some o := fun c hc o e => (sb.2 c hc).trans e
  have kk : ∀ b o, b ∉ [z, TI, TO, i1, i2] → s.heap.get? b = some o → h''.get? b = some o := fun b o hb e => by
   have hb' : b ≠ z ∧ b ≠ TI ∧ b ≠ TO ∧ b ≠ i1 ∧ b ≠ i2 := by simpa using hb
   exact nz b hb'.1 o (a7 b o hb'.1 hb'.2.2.1 hb'.2.2.2.1 hb'.2.2.2.2 e)
  have sz : ∀ c o, s.heap.get? c = some o → s.heap.objs.size ≠ c := fun c o e => Nat.ne_of_gt (Heap.lt_size e)
  have tz : s.heap.objs.size ≠ z := sz _ _ hz
  have hn := I.hok.fresh (Nat.le_refl s.heap.objs.size)
  have I2 : Inv X pins σ (upd H s.heap.objs.size (.tup [x, y])) { s with heap := h'', toks := s.toks } :=
   Inv.turnedT I kk hf (Nat.le_refl _) (by show 2 ≤ sizeLine; decide) (its := [u, v]) (.cons ru (.cons rv' .nil)) ⟨_, nz _ tz _ a5, rfl, _, rfl⟩
  refine ⟨.ref s.heap.objs.size, _, I2, rfl, ⟨s.heap.objs.size, x, y, fun xs' q => by rw [I.list_inj q qx]; exact ex, fun ys' q => by rw [I.list_inj q qy]; exact ey, rfl, hn, rfl⟩, ⟨b1, nz _ D.TIz _ (a7 _ _ D.TIz D.TITO D.TIi1 D.TIi2 hTI), ⟨_, _, nz _ D.TOz _ a2⟩, a3.at fun o e => nz _ D.i1z o e, a4.at fun o e => nz _ D.i2z o e⟩, fun b hb => ?_⟩
  have ob : ∃ o, s.heap.get? b = some o := by
   obtain ⟨o1, e1, _⟩ := h1
   obtain ⟨o2, e2, _⟩ := h2
   have hc' : b = z ∨ b = TI ∨ b = TO ∨ b = i1 ∨ b = i2 := by simpa using hb
   rcases hc' with e | e | e | e | e <;> subst e
   ·exact ⟨_, hz⟩
   ·exact ⟨_, hTI⟩
   ·exact ⟨_, hTO⟩
   ·exact ⟨_, e1⟩
   ·exact ⟨_, e2⟩
  obtain ⟨o, e⟩ := ob
  rw [upd_ne (Ne.symm (sz _ _ e))]
  exact (hf b hb).1
 done := by
  intro X hP hw hK hc i pins s σ H E I hf st hg
  subst hP hw hK
  obtain ⟨hz, hTI, ⟨x0, y0, hTO⟩, h1, h2⟩ := st
  obtain ⟨xs, ys, qx, qy, ee⟩ := hg
  obtain ⟨its, rv, p, _⟩ := I.list qx
  obtain ⟨jts, rw', p', _⟩ := I.list qy
  have l1 := rv.length
  have l2 := rw'.length
  refine wpAny_pyNext_zip_end (I.ok.hd hc) D hz hTI hTO h1 h2 p.isList p'.isList ?_ fun h' kk => ⟨rfl, Inv.turnedL I (fun b o hb e => ?_) hf⟩
  ·rcases ee with e | e
   ·exact .inl (by simp; omega)
   ·exact .inr (by simp; omega)
  ·have hb' : b ≠ z ∧ b ≠ TI ∧ b ≠ TO ∧ b ≠ i1 ∧ b ≠ i2 := by simpa using hb
   exact kk b o hb'.1 hb'.2.2.1 hb'.2.2.2.1 hb'.2.2.2.2 e
 self := fun _ _ _ _ _ st h => wpAny_pyIter_zip st.1 h
theorem boot_zip : bootBuiltins "zip" = some (.type "zip") := by decide +kernel
section
variable {X : Cx}
def iZip (K : Frag) (ta : TA) : TI := fun σ H R => ta σ H fun vs H1 => ∃ a b, vs = [.ref a, .ref b] ∧ (∃ xs, SqL K H1 a xs) ∧ (∃ ys, SqL K H1 b ys) ∧ R (Itz K a b) H1
theorem pi_zip {e1 e2 : Expr} {ta : TA} {p pos : Pos} {es : List Expr} {k : Nat} {tpos : Pos} (hg : Gl X "zip") (hm : X.mg "zip" = none) (ha : PA X [e1, e2] ta) (hs : starEach [e1, e2] X.env = [(false, eval e1 X.env), (false, eval e2 X.env)] := by rfl) (hs2 : starEach [e2] X.env = [(false, eval e2 X.env)] := by rfl) :
  PI X (.Tuple es k tpos) (.Call (.Name "zip" p) [e1, e2] [] pos) (iZip X.K ta) := by
 intro pins s σ H R I h
 refine Call_ (ld_blt I hg hm boot_zip (PyProof.Rows.callWith_type1 (thn (ha pos pins s σ H _ I h) fun us s1 ⟨vs, H1, I1, r1, q1⟩ => ?_) (by rw [hs, hs2]) (by rw [hs2]; rfl)))
 obtain ⟨a, b, e, ⟨xs, hx⟩, ⟨ys, hy⟩, q⟩ := q1
 subst e
 cases r1 with
 | cons r rr =>
  cases rr with
  | cons r' rr =>
   cases rr
   cases r
   cases r'
   obtain ⟨its, rv, pl, _⟩ := I1.list hx
   obtain ⟨jts, rw', pl', _⟩ := I1.list hy
   have lt1 : a < s1.heap.objs.size := by obtain ⟨o, ho, _⟩ := pl.isList; exact Heap.lt_size ho
   have lt2 : b < s1.heap.objs.size := by obtain ⟨o, ho, _⟩ := pl'.isList; exact Heap.lt_size ho
   refine call_zip_2 pl.isList pl'.isList fun h' hz hTI hTO hi1 hi2 hsz hk => wpAny_pyIter_zip (s := { s1 with heap := h' }) hz ?_
   refine ⟨s1.heap.objs.size + 4, [s1.heap.objs.size + 4, s1.heap.objs.size + 2, s1.heap.objs.size + 3, s1.heap.objs.size, s1.heap.objs.size + 1], _, _, H1, rfl, I1.kept (t' := s1.toks) hk, turn_zip a b _ _ _ _ _ ?_, ⟨hz, hTI, ⟨_, _, hTO⟩, hi1, hi2⟩, fun c hc => ?_, q⟩
   ·constructor <;> (intro z; simp only [Addr] at *; omega)
   ·have hc' : s1.heap.objs.size ≤ c := by
     have : c = s1.heap.objs.size + 4 ∨ c = s1.heap.objs.size + 2 ∨ c = s1.heap.objs.size + 3 ∨ c = s1.heap.objs.size ∨ c = s1.heap.objs.size + 1 := by simpa using hc
     simp only [Addr] at *
     omega
    exact I1.fpOk hc' (I1.hok.fresh hc')
def rSum (K : Frag) : List V → Hp → VK → Prop := fun xs H Q => ∃ (p : Addr) (ns : List Int), xs = [.ref p] ∧ SqL K H p (ns.map V.int) ∧ Q (.int ns.sum) H
def rListL (K : Frag) : List V → Hp → VK → Prop := fun xs H Q => ∃ (p : Addr) (ys : List V), xs = [.ref p] ∧ SqL K H p ys ∧ ∀ l, H l = none → Q (.ref l) (upd H l (.lst ys))
theorem call_listL : CallR X (.type "list") (rListL X.K) := by
 intro pins s σ H xs us Q I r h
 obtain ⟨p, ys, rfl, hq, q⟩ := h
 obtain ⟨u, rfl, r1⟩ := vals1 r
 cases r1
 obtain ⟨its, rv, ⟨o, n, e, c, d1, d⟩, hz⟩ := I.list hq
 have hlen := rv.length
 refine call_list_seq p (.inl rfl) e c d (fun h' c' hk hl => ?_) (by simp; omega)
 have hn := I.hok.fresh (Nat.le_refl s.heap.objs.size)
 have I2 : Inv X pins σ (upd H s.heap.objs.size (.lst ys)) { s with heap := h', toks := s.toks } := I.laid (t' := s.toks) hk (Nat.le_refl _) ⟨hz, its, c', rv, hl⟩
 exact ⟨.ref _, _, I2, rfl, q _ hn⟩
end
section
variable {X : Cx} {K : Frag}
theorem ix_tupK (h : X.K = K) : IxR X (rIxT K) := by subst h; exact ix_tup
theorem pg_tupK {es : List Expr} {k : Nat} {t : TGs} {n : Nat} {pos : Pos} (hK : X.K = K) (hc : X.calm = true) (h : PGs X es t)
  (hn : (assignEach es X.env).length = n := by rfl) (hst : (assignEach es X.env).findIdx? (·.1) = none := by rfl) : PG X (.Tuple es k pos) (gTup K n t) := by subst hK; exact pg_tup hc h hn hst
end
section
variable {D : Addr} {te : TE} {cap : L2.St} {H1 : Hp} {Q : VK}
end
end Ty
set_option maxHeartbeats 4000000
namespace Ty
open PySem PySem.Spec PyProof.Rows L2
open Builtin.Int (intBits)
def vl (q : Int × Int) : Rat := (q.1 : Rat) / (q.2 : Rat)
structure Sm (T B : Nat) (q : Int × Int) : Prop where
 pos : 0 < q.2
 low : Int.gcd q.1 q.2 = 1
 top : q.1.natAbs ≤ 2 ^ T
 bot : q.2.natAbs ≤ 2 ^ B
theorem ratne {b : Int} (h : b ≠ 0) : (b : Rat) ≠ 0 := by simpa using h
theorem vl_low {t b : Int} (h : b ≠ 0) : vl (low t b) = (t : Rat) / (b : Rat) := by
 have c := low_cross (t := t) h
 have p := low_pos (t := t) h
 have h1 := ratne h
 have h2 := ratne (b := (low t b).2) (by omega)
 have c' : ((low t b).1 : Rat) * b = t * (low t b).2 := by exact_mod_cast c
 unfold vl
 grind
theorem cross_of_vl {t b u c : Int} (hb : b ≠ 0) (hc : c ≠ 0) (h : (t : Rat) / b = (u : Rat) / c) : t * c = u * b := by
 have h1 := ratne hb
 have h2 := ratne hc
 have : (t : Rat) * c = u * b := by grind
 exact_mod_cast this
theorem vl_inj {q r : Int × Int} (hq : 0 < q.2) (hr : 0 < r.2) (gq : Int.gcd q.1 q.2 = 1) (gr : Int.gcd r.1 r.2 = 1) (h : vl q = vl r) : q = r := by
 have c := cross_of_vl (t := q.1) (b := q.2) (u := r.1) (c := r.2) (by omega) (by omega) h
 have e := low_cross_iff (t := q.1) (b := q.2) (u := r.1) (c := r.2) (by omega) (by omega) c
 rw [low_self hq gq, low_self hr gr] at e
 exact Prod.ext (congrArg Prod.fst e) (congrArg Prod.snd e)
def dotZ (xs ys : List Int) : Int := (List.zipWith (fun a b => a * b) xs ys).sum
def dotQ (xs ys : List (Int × Int)) : Rat := (List.zipWith (fun a b => vl a * vl b) xs ys).sum
def Whole (ts : List Int) (qs : List (Int × Int)) (b : Int) : Prop := ts.length = qs.length ∧ ∀ (i : Nat) (t : Int) (q : Int × Int), ts[i]? = some t → qs[i]? = some q → (t : Rat) = vl q * b
end Ty
set_option maxHeartbeats 4000000
namespace Ty
open PySem PySem.Spec PyProof.Rows L2
section
variable {D : Addr} {te : TE} {cap : L2.St} {H1 : Hp} {Q : VK}
end
section
variable {X : Cx}
theorem call_listLK {K : Frag} (h : X.K = K) : CallR X (.type "list") (rListL K) := by subst h; exact call_listL
def cxB1 (X : Cx) (NB : List Str) (scope : Scope) (y : Str) (cl : List (Str × Addr)) (C : Addr) (s : Shared) (H : Hp) (fp : List Addr) : Cx :=
 { prog := X.prog, w := X.w, K := X.K, mg := X.mg, base := X.base, A := X.A, N := NB, s₀ := s, H₀ := H, env := compEnvC scope ((y, C + 1) :: cl) C X.env, outer := X.stack, stack := X.stack, ex := fp, fn := fun x => x == y, calm := X.calm, pn := [], xe := fun _ _ => False }
structure Blk1 (X : Cx) (scope : Scope) (y : Str) (fr : List Str) (caps : List Nat) : Prop where
 clos : closureFor scope X.env = pure (capCl X.env fr)
 kind : scope.kind = .function
 names : ∀ y ∈ scope.names, y.2 = .local → scope.names.lookup y.1 = some .local
 free : ∀ y ∈ scope.names, y.2 = .free → y.1 ∈ fr
 caps : caps.map (fun i => X.N[i]?) = fr.map some
 out : AllCap X.env fr
 inn : AllCap (compEnvC scope [] 0 X.env) fr
 cells1 : ∀ n acc, cellsFrom n scope.names acc = (y, n) :: acc
 push1 : ∀ h, pushCells h scope.names = h.push { cls := .type "cell", data := .cell none }
 only : ∀ z ∈ scope.names, z.2 = .cell → z.1 = y
 ny : y ∉ fr
end
end Ty
namespace L2
open PySem PySem.Spec PyProof.Rows
section
variable {κ : Type} [DecidableEq κ]
def valV (kvs : List (κ × V)) (k : κ) : Option V := (kvs.find? fun kv => decide (kv.1 = k)).map (·.2)
def putK (kvs : List (κ × V)) (k : κ) (v : V) : List (κ × V) :=
 if (kvs.any fun kv => decide (kv.1 = k)) = true then kvs.map (fun kv => if kv.1 = k then (kv.1, v) else kv) else kvs ++ [(k, v)]
def dropK (kvs : List (κ × V)) (k : κ) : List (κ × V) := kvs.filter fun kv => decide (kv.1 ≠ k)
theorem valV_pos {p : κ × V} {r : List (κ × V)} {k : κ} (e : p.1 = k) : valV (p :: r) k = some p.2 := by simp [valV, List.find?_cons, e]
theorem valV_neg {p : κ × V} {r : List (κ × V)} {k : κ} (e : ¬ p.1 = k) : valV (p :: r) k = valV r k := by simp [valV, List.find?_cons, e]
theorem valV_any (k : κ) : ∀ kvs : List (κ × V), (kvs.any fun kv => decide (kv.1 = k)) = (valV kvs k).isSome
 | [] => rfl
 | p :: r => by
  rw [List.any_cons]
  by_cases e : p.1 = k
  ·simp only [valV_pos e, decide_eq_true e, Bool.true_or, Option.isSome_some]
  ·rw [valV_neg e, decide_eq_false e, Bool.false_or]; exact valV_any k r
theorem valV_map (k j : κ) (y : V) : ∀ kvs : List (κ × V), valV (kvs.map fun kv => if kv.1 = k then (kv.1, y) else kv) j = (valV kvs j).map fun x => if j = k then y else x
 | [] => rfl
 | p :: r => by
  have ih := valV_map k j y r
  rw [List.map_cons]
  by_cases h : p.1 = k
  ·rw [if_pos h]
   by_cases e : p.1 = j
   ·rw [valV_pos (p := (p.1, y)) e, valV_pos e, Option.map_some, if_pos (e.symm.trans h)]
   ·rw [valV_neg (p := (p.1, y)) e, valV_neg e, ih]
  ·rw [if_neg h]
   by_cases e : p.1 = j
   ·rw [valV_pos (p := p) e, valV_pos e, Option.map_some, if_neg (fun z => h (e.trans z))]
   ·rw [valV_neg (p := p) e, valV_neg e, ih]
theorem valV_snoc (k j : κ) (y : V) : ∀ kvs : List (κ × V), valV kvs k = none → valV (kvs ++ [(k, y)]) j = if j = k then some y else valV kvs j
 | [], _ => by
  by_cases e : k = j
  ·rw [if_pos e.symm]; exact valV_pos (p := (k, y)) e
  ·rw [if_neg (fun z => e z.symm)]; exact valV_neg (p := (k, y)) e
 | p :: r, hn => by
  rw [List.cons_append]
  have hk : ¬ p.1 = k := fun z => by rw [valV_pos z] at hn; cases hn
  rw [valV_neg hk] at hn
  have ih := valV_snoc k j y r hn
  by_cases e : p.1 = j
  ·rw [valV_pos e, valV_pos e, if_neg (fun z => hk (e.trans z))]
  ·rw [valV_neg e, valV_neg e, ih]
theorem valV_put (kvs : List (κ × V)) (k j : κ) (y : V) : valV (putK kvs k y) j = if j = k then some y else valV kvs j := by
 unfold putK
 by_cases a : (kvs.any fun kv => decide (kv.1 = k)) = true
 ·rw [if_pos a, valV_map]
  rw [valV_any] at a
  by_cases e : j = k
  ·obtain ⟨x, hx⟩ := Option.isSome_iff_exists.mp a
   rw [if_pos e, e, hx, Option.map_some, if_pos rfl]
  ·rw [if_neg e]
   cases valV kvs j with
   | none => rfl
   | some x => rw [Option.map_some, if_neg e]
 ·rw [if_neg a]
  refine valV_snoc k j y kvs ?_
  rw [valV_any] at a
  cases q : valV kvs k with
  | none => rfl
  | some x => rw [q] at a; exact (a rfl).elim
theorem length_putK (kvs : List (κ × V)) (k : κ) (v : V) : (putK kvs k v).length ≤ kvs.length + 1 := by
 unfold putK
 split
 ·rw [List.length_map]; omega
 ·rw [List.length_append, List.length_cons, List.length_nil]; omega
theorem putK_new {kvs : List (κ × V)} {k : κ} (v : V) (h : valV kvs k = none) : putK kvs k v = kvs ++ [(k, v)] := by
 unfold putK
 rw [valV_any, h]
 exact if_neg (by decide)
theorem RelO.isSome_eq {o : Option V} {u : Option Value} (r : RelO o u) : o.isSome = u.isSome := by
 cases o with
 | none => cases u with
  | none => rfl
  | some _ => exact (show False from r).elim
 | some _ => cases u with
  | none => exact (show False from r).elim
  | some _ => rfl
theorem RelO.getD {o : Option V} {u : Option Value} {d : V} {d' : Value} (r : RelO o u) (rd : RelV d d') : RelV (o.getD d) (u.getD d') := by
 cases o with
 | none => cases u with
  | none => exact rd
  | some _ => exact (show False from r).elim
 | some _ => cases u with
  | none => exact (show False from r).elim
  | some _ => exact r
theorem KV.val {kvs : List (κ × V)} {vs : List (κ × Value)} (r : KV kvs vs) (k : κ) : RelO (valV kvs k) (valueAt vs k) := by
 unfold KV at r
 induction r with
 | nil => exact True.intro
 | @cons p q ps qs h t ih =>
  obtain ⟨h1, h2⟩ := h
  by_cases e : p.1 = k
  ·have e' : q.1 = k := h1.symm.trans e
   have b : valueAt (q :: qs) k = some q.2 := by simp [valueAt, List.find?_cons, e']
   rw [valV_pos e, b]; exact h2
  ·have e' : ¬ q.1 = k := fun z => e (h1.trans z)
   have b : valueAt (q :: qs) k = valueAt qs k := by simp [valueAt, List.find?_cons, e']
   rw [valV_neg e, b]; exact ih
theorem KV.any {kvs : List (κ × V)} {vs : List (κ × Value)} (r : KV kvs vs) (k : κ) : (kvs.any fun kv => decide (kv.1 = k)) = vs.any fun kv => decide (kv.1 = k) := by
 unfold KV at r
 induction r with
 | nil => rfl
 | cons h t ih => rw [List.any_cons, List.any_cons, ih, h.1]
theorem KV.repl {kvs : List (κ × V)} {vs : List (κ × Value)} (r : KV kvs vs) (k : κ) {y : V} {u : Value} (ry : RelV y u) :
  KV (kvs.map fun kv => if kv.1 = k then (kv.1, y) else kv) (vs.map fun kv => if kv.1 = k then (kv.1, u) else kv) := by
 unfold KV at r ⊢
 induction r with
 | nil => exact .nil
 | @cons p q ps qs h t ih =>
  rw [List.map_cons, List.map_cons]
  refine .cons ?_ ih
  obtain ⟨h1, h2⟩ := h
  by_cases e : p.1 = k
  ·rw [if_pos e, if_pos (h1.symm.trans e)]; exact ⟨h1, ry⟩
  ·rw [if_neg e, if_neg (fun z => e (h1.trans z))]; exact ⟨h1, h2⟩
theorem KV.put {kvs : List (κ × V)} {vs : List (κ × Value)} (r : KV kvs vs) (k : κ) {y : V} {u : Value} (ry : RelV y u) : KV (putK kvs k y) (stored vs k u) := by
 unfold putK stored
 rw [r.any k]
 by_cases e : (vs.any fun kv => decide (kv.1 = k)) = true
 ·rw [if_pos e, if_pos e]; exact r.repl k ry
 ·rw [if_neg e, if_neg e]; exact Paired.snoc r ⟨rfl, ry⟩
theorem KV.drop {kvs : List (κ × V)} {vs : List (κ × Value)} (r : KV kvs vs) (k : κ) : KV (dropK kvs k) (without vs k) := by
 unfold KV at r ⊢
 unfold dropK without
 induction r with
 | nil => exact .nil
 | @cons p q ps qs h t ih =>
  obtain ⟨h1, h2⟩ := h
  rw [List.filter_cons, List.filter_cons]
  by_cases e : p.1 = k
  ·have a : ¬ decide (p.1 ≠ k) = true := by simp [e]
   have b : ¬ decide (q.1 ≠ k) = true := by simp [h1.symm.trans e]
   rw [if_neg a, if_neg b]; exact ih
  ·have e' : ¬ q.1 = k := fun z => e (h1.trans z)
   have a : decide (p.1 ≠ k) = true := by simp [e]
   have b : decide (q.1 ≠ k) = true := by simp [e']
   rw [if_pos a, if_pos b]; exact .cons ⟨h1, h2⟩ ih
theorem KV.length {kvs : List (κ × V)} {vs : List (κ × Value)} (r : KV kvs vs) : kvs.length = vs.length := Paired.length r
theorem dropK_le (kvs : List (κ × V)) (k : κ) : (dropK kvs k).length ≤ kvs.length := List.length_filter_le _ _
end
theorem kV_is {P : Program} {w : World} {k : Key} {u : Value} (r : RelV (kV k) u) : (mixKind P w).is k u = true := by
 cases k with
 | inl i => obtain ⟨t, e⟩ := (show ∃ t, u = Value.int i t from r); subst e; exact mixKind_int P w i t
 | inr x => obtain ⟨t, e⟩ := (show ∃ t, u = Value.str x t from r); subst e; exact mixKind_str P w x t
theorem items_are {P : Program} {w : World} : ∀ {ks : List Key} {us : List Value}, Vals (ks.map kV) us → ItemsAre (mixKind P w) ks us
 | [], _, r => by rw [List.map_nil] at r; cases r; exact .nil
 | k :: ks, _, r => by
  rw [List.map_cons] at r
  cases r with
  | cons h t => exact .cons (kV_is h) (items_are t)
abbrev KT (H : Hp) : List (List Key × V) → List (List Key × Addr × Value) → Prop := Paired fun p q => p.1 = q.1 ∧ H q.2.1 = some (.tup (p.1.map kV)) ∧ RelV p.2 q.2.2
theorem KT.val {H : Hp} {kvs : List (List Key × V)} {xs : List (List Key × Addr × Value)} (r : KT H kvs xs) (k : List Key) : RelO (valV kvs k) ((atKey xs k).map (·.2)) := by
 induction r with
 | nil => exact True.intro
 | @cons p q ps qs h t ih =>
  obtain ⟨h1, _, h2⟩ := h
  by_cases e : p.1 = k
  ·have e' : q.1 = k := h1.symm.trans e
   have b : atKey (q :: qs) k = some q.2 := by simp [atKey, List.find?_cons, e']
   rw [valV_pos e, b]; exact h2
  ·have e' : ¬ q.1 = k := fun z => e (h1.trans z)
   have b : atKey (q :: qs) k = atKey qs k := by simp [atKey, List.find?_cons, e']
   rw [valV_neg e, b]; exact ih
theorem KT.repl {H : Hp} {kvs : List (List Key × V)} {xs : List (List Key × Addr × Value)} (r : KT H kvs xs) (k : List Key) {y : V} {u : Value} (ry : RelV y u) :
  KT H (kvs.map fun kv => if kv.1 = k then (kv.1, y) else kv) (xs.map (putAt k u)) := by
 induction r with
 | nil => exact .nil
 | @cons p q ps qs h t ih =>
  rw [List.map_cons, List.map_cons]
  refine .cons ?_ ih
  obtain ⟨h1, h2, h3⟩ := h
  unfold putAt
  by_cases e : p.1 = k
  ·rw [if_pos e, if_pos (h1.symm.trans e)]; exact ⟨h1, h2, ry⟩
  ·rw [if_neg e, if_neg (fun z => e (h1.trans z))]; exact ⟨h1, h2, h3⟩
theorem KT.put {H : Hp} {kvs : List (List Key × V)} {xs : List (List Key × Addr × Value)} (r : KT H kvs xs) (k : List Key) {b : Addr} {y : V} {u : Value} (hb : H b = some (.tup (k.map kV))) (ry : RelV y u) :
  KT H (putK kvs k y) (storedH xs k b u) := by
 have e : (kvs.any fun kv => decide (kv.1 = k)) = (atKey xs k).isSome := by
  rw [valV_any, (r.val k).isSome_eq, Option.isSome_map]
 unfold putK storedH
 rw [e]
 by_cases q : (atKey xs k).isSome = true
 ·rw [if_pos q, if_pos q]; exact r.repl k ry
 ·rw [if_neg q, if_neg q]; exact Paired.snoc r ⟨rfl, hb, ry⟩
theorem KT.keeps {H H' : Hp} {kvs : List (List Key × V)} {xs : List (List Key × Addr × Value)} (r : KT H kvs xs) (ht : ∀ b ys, H b = some (.tup ys) → H' b = some (.tup ys)) : KT H' kvs xs :=
 Paired.mapP r fun _ _ z => ⟨z.1, ht _ _ z.2.1, z.2.2⟩
section
variable {P : Program} {w : World} {H : Hp} {h : Heap} {a : Addr}
theorem rd_of {u : HO} (ok : HOk P w H h) (e : Rd H a u) : ObjOk P w H h a u := e.ok ok
theorem dk_rd {kvs : List (Key × V)} (ok : HOk P w H h) (e : Rd H a (.dK kvs)) : kvs.length ≤ sizeLine ∧ (a == sysModules) = false ∧ ∃ vs, KV kvs vs ∧ h.DictOf (mixKind P w) a vs :=
 show ObjOk P w H h a (.dK kvs) from rd_of ok e
theorem dk_of {kvs : List (Key × V)} (ok : HOk P w H h) (e : H a = some (.dK kvs)) : kvs.length ≤ sizeLine ∧ (a == sysModules) = false ∧ ∃ vs, KV kvs vs ∧ h.DictOf (mixKind P w) a vs := dk_rd ok (.inl e)
theorem key_of {ks : List Key} (ok : HOk P w H h) (e : H a = some (.tup (ks.map kV))) : (tupleKind (mixKind P w)).is h ks a := by
 obtain ⟨_, its, r, o, h1, h2, n, h3⟩ := (show ObjOk P w H h a (.tup (ks.map kV)) from ok a _ e)
 exact ⟨o, its.toArray, n, h1, h2, h3, by simpa using items_are r⟩
theorem dt_rd {kvs : List (List Key × V)} (ok : HOk P w H h) (e : Rd H a (.dT kvs)) : kvs.length ≤ sizeLine ∧ (a == sysModules) = false ∧
  ∃ xs, KT H kvs xs ∧ h.DictOfH (tupleKind (mixKind P w)) a xs := by
 obtain ⟨z, y, xs, r, o, es, ep, h1, h2, h3, h4, h5⟩ := (show ObjOk P w H h a (.dT kvs) from rd_of ok e)
 refine ⟨z, y, xs, r, o, es, ep, h1, h2, h3, h4, fun x hx => ?_, h5⟩
 have all : ∀ {l : List (List Key × V)} {m : List (List Key × Addr × Value)}, KT H l m → ∀ x ∈ m, (tupleKind (mixKind P w)).is h x.1 x.2.1 := by
  intro l m q
  induction q with
  | nil => intro x hx; exact nomatch hx
  | @cons p q ps qs hq t ih =>
   intro x hx
   rcases List.mem_cons.mp hx with e | hx
   ·subst e
    exact key_of ok (by rw [← hq.1]; exact hq.2.1)
   ·exact ih x hx
 exact all r x hx
theorem dt_of {kvs : List (List Key × V)} (ok : HOk P w H h) (e : H a = some (.dT kvs)) : kvs.length ≤ sizeLine ∧ (a == sysModules) = false ∧
  ∃ xs, KT H kvs xs ∧ h.DictOfH (tupleKind (mixKind P w)) a xs := dt_rd ok (.inl e)
end
def DGet (H : Hp) (a : Addr) (y : V) (r : Option V) : Prop :=
 (∃ kvs k, Rd H a (.dK kvs) ∧ y = kV k ∧ r = valV kvs k) ∨ ∃ kvs k b, Rd H a (.dT kvs) ∧ y = .ref b ∧ H b = some (.tup (k.map kV)) ∧ r = valV kvs k
def DPut (H : Hp) (a : Addr) (y v : V) (H' : Hp) : Prop :=
 (∃ kvs k, H a = some (.dK kvs) ∧ y = kV k ∧ kvs.length < sizeLine ∧ H' = upd H a (.dK (putK kvs k v))) ∨
 ∃ kvs k b, H a = some (.dT kvs) ∧ y = .ref b ∧ H b = some (.tup (k.map kV)) ∧ kvs.length < sizeLine ∧ H' = upd H a (.dT (putK kvs k v))
theorem DGet.k {H : Hp} {a : Addr} {kvs : List (Key × V)} {k : Key} (e : H a = some (.dK kvs)) : DGet H a (kV k) (valV kvs k) := .inl ⟨kvs, k, .inl e, rfl, rfl⟩
theorem DPut.k {H : Hp} {a : Addr} {kvs : List (Key × V)} {k : Key} {v : V} (e : H a = some (.dK kvs)) (hl : kvs.length < sizeLine) : DPut H a (kV k) v (upd H a (.dK (putK kvs k v))) := .inl ⟨kvs, k, e, rfl, hl, rfl⟩
section
variable {X : Cx} {pins : List (Addr × Obj)} {σ : St} {H : Hp} {s : Shared} {a : Addr} {y v : V} {u r : Value} {o : Option V} {A : Around} {E : Value → Shared → Prop}
theorem Inv.big (I : Inv X pins σ H s) : sysModules < s.heap.objs.size := by
 have h : mainGlobals < s.heap.objs.size := (I.mod.glob.keeps I.bk).lt
 exact Nat.lt_trans (by decide) h
theorem d_getItem {Q : Value → Shared → Prop} (hu : A.units + 1 < cLine) (I : Inv X pins σ H s) (g : DGet H a y (some v)) (ry : RelV y u) (h : ∀ w' s', Inv X pins σ H s' → RelV v w' → Q w' s') :
  wpAny (model X.prog X.w) A (getItem (.ref a) u) Q E s := by
 rcases g with ⟨kvs, k, e, ey, l⟩ | ⟨kvs, k, b, e, ey, eb, l⟩
 ·subst ey
  obtain ⟨z, hd, vs, rel, dd⟩ := dk_rd I.hok e
  obtain ⟨w', hw, rw'⟩ := RelO.some_of (v := v) (o := valueAt vs k) (by rw [l]; exact rel.val k)
  exact wpAny_getItem_of (kV_is ry) dd.mapOf hw (h w' _ (I.tok _) rw')
 ·subst ey
  cases (show u = Value.ref b from ry)
  obtain ⟨z, hd, xs, rel, dd⟩ := dt_rd I.hok e
  obtain ⟨w', hw, rw'⟩ := RelO.some_of (v := v) (o := (atKey xs k).map (·.2)) (by rw [l]; exact rel.val k)
  obtain ⟨p, hp, hp2⟩ := Option.map_eq_some_iff.mp hw
  refine wpAny_getItem_heap (tupleKind_room_in1 hu) (key_of I.hok eb) dd hp ?_
  rw [hp2]
  exact h w' _ (I.tok _) rw'
theorem d_in {Q : Value → Shared → Prop} (hu : A.units + 1 < cLine) (I : Inv X pins σ H s) (g : DGet H a y o) (ry : RelV y u) (h : ∀ s', Inv X pins σ H s' → Q (.bool o.isSome) s') :
  wpAny (model X.prog X.w) A (compareOp .In u (.ref a)) Q E s := by
 rcases g with ⟨kvs, k, e, ey, l⟩ | ⟨kvs, k, b, e, ey, eb, l⟩
 ·subst ey
  obtain ⟨z, hd, vs, rel, dd⟩ := dk_rd I.hok e
  refine wpAny_in_of (kV_is ry) hd dd.mapOf ?_
  rw [← (rel.val k).isSome_eq, ← l]
  exact h _ (I.tok _)
 ·subst ey
  cases (show u = Value.ref b from ry)
  obtain ⟨z, hd, xs, rel, dd⟩ := dt_rd I.hok e
  refine wpAny_in_heap (tupleKind_room_in1 hu) (key_of I.hok eb) hd dd ?_
  have q := (rel.val k).isSome_eq
  rw [Option.isSome_map] at q
  rw [← q, ← l]
  exact h _ (I.tok _)
theorem d_notIn {Q : Value → Shared → Prop} (hu : A.units + 1 < cLine) (I : Inv X pins σ H s) (g : DGet H a y o) (ry : RelV y u) (h : ∀ s', Inv X pins σ H s' → Q (.bool (!o.isSome)) s') :
  wpAny (model X.prog X.w) A (compareOp .NotIn u (.ref a)) Q E s := by
 rcases g with ⟨kvs, k, e, ey, l⟩ | ⟨kvs, k, b, e, ey, eb, l⟩
 ·subst ey
  obtain ⟨z, hd, vs, rel, dd⟩ := dk_rd I.hok e
  refine wpAny_notIn_of (kV_is ry) hd dd.mapOf ?_
  rw [← (rel.val k).isSome_eq, ← l]
  exact h _ (I.tok _)
 ·subst ey
  cases (show u = Value.ref b from ry)
  obtain ⟨z, hd, xs, rel, dd⟩ := dt_rd I.hok e
  refine wpAny_notIn_heap (tupleKind_room_in1 hu) (key_of I.hok eb) hd dd ?_
  have q := (rel.val k).isSome_eq
  rw [Option.isSome_map] at q
  rw [← q, ← l]
  exact h _ (I.tok _)
theorem d_write {h' : Heap} {t' : Nat} {ob : HO} (I : Inv X pins σ H s) (mu : Mut (H a)) (hs : Heap.SameBut a s.heap h') (he : ∃ q, h'.get? a = some q) (new : ObjOk X.prog X.w (upd H a ob) h' a ob) :
  Inv X pins σ (upd H a ob) { s with heap := h', toks := t' } :=
 I.write (x := a) (e := a) mu (.inl rfl) (fun b q hb z => (hs.2 b hb).trans z) he new
theorem dk_new {P : Program} {w : World} {H' : Hp} {h' : Heap} {kvs : List (Key × V)} {vs : List (Key × Value)} (z : kvs.length ≤ sizeLine) (hd : (a == sysModules) = false) (rel : KV kvs vs) (dd : h'.DictOf (mixKind P w) a vs) :
  ObjOk P w H' h' a (.dK kvs) := ⟨z, hd, vs, rel, dd⟩
theorem d_setItem {H' : Hp} {Q : Unit → Shared → Prop} (hu : A.units + 1 < cLine) (I : Inv X pins σ H s) (g : DPut H a y v H') (ry : RelV y u) (rv : RelV v r) (h : ∀ s', Inv X pins σ H' s' → Q () s') :
  wpAny (model X.prog X.w) A (setItem (.ref a) u r) Q E s := by
 rcases g with ⟨kvs, k, e, ey, l, eH⟩ | ⟨kvs, k, b, e, ey, eb, l, eH⟩
 ·subst ey eH
  obtain ⟨z, hd, vs, rel, dd⟩ := dk_of I.hok e
  have hz : vs.length ≤ sizeLine := by rw [← rel.length]; exact z
  have hl : (putK kvs k v).length ≤ sizeLine := by have := length_putK kvs k v; omega
  refine wpAny_setItem_pairs (hsz := hz) (kV_is ry) dd fun h' dd' hs => h _ ?_
  have he : ∃ q, h'.get? a = some q := let ⟨q, _, _, hq, _⟩ := dd'; ⟨q, hq⟩
  exact d_write I (by rw [e]; exact True.intro) hs he (dk_new hl hd (rel.put k rv) dd')
 ·subst ey eH
  cases (show u = Value.ref b from ry)
  obtain ⟨z, hd, xs, rel, dd⟩ := dt_of I.hok e
  have hz : xs.length ≤ sizeLine := by rw [← Paired.length rel]; exact z
  have hl : (putK kvs k v).length ≤ sizeLine := by have := length_putK kvs k v; omega
  refine wpAny_setItem_heap (hsz := hz) (tupleKind_room_in1 hu) (key_of I.hok eb) dd fun h' dd' hs => h _ ?_
  obtain ⟨q, es, ep, hq, h2, h3, h4, _, h5⟩ := dd'
  refine d_write I (by rw [e]; exact True.intro) hs ⟨q, hq⟩ ⟨hl, hd, _, (rel.put k eb rv).keeps fun c ys ec => ?_, q, es, ep, hq, h2, h3, h4, h5⟩
  rw [upd_ne (ne_of ec e (fun z => nomatch z))]
  exact ec
end
section
variable {X : Cx} {pins : List (Addr × Obj)} {σ : St} {H : Hp} {s : Shared} {a : Addr} {kvs : List (Key × V)} {k : Key} {u : Value} {A : Around} {E : Value → Shared → Prop}
theorem d_pop {v : V} {more : List Value} {Q : Value → Shared → Prop} (I : Inv X pins σ H s) (e : H a = some (.dK kvs)) (ry : RelV (kV k) u) (l : valV kvs k = some v) (hm : more = [] ∨ ∃ x, more = [x])
  (h : ∀ w' s', Inv X pins σ (upd H a (.dK (dropK kvs k))) s' → RelV v w' → Q w' s') : wpAny (model X.prog X.w) A (call (.builtin "dict.pop") (.ref a :: u :: more)) Q E s := by
 obtain ⟨z, hd, vs, rel, dd⟩ := dk_of I.hok e
 obtain ⟨w', hw, rw'⟩ := RelO.some_of (v := v) (o := valueAt vs k) (by rw [← l]; exact rel.val k)
 have hp : (keyPart u).isSome = true := by
  cases k with
  | inl i => obtain ⟨t, q⟩ := (show ∃ t, u = Value.int i t from ry); subst q; rfl
  | inr x => obtain ⟨t, q⟩ := (show ∃ t, u = Value.str x t from ry); subst q; rfl
 have ha : argsOk "dict.pop" ⟨.ref a :: u :: more, []⟩ := by
  rcases hm with q | ⟨x, q⟩
  ·subst q; exact PySem.F.args_dict_pop_2 _ _
  ·subst q; exact PySem.F.args_dict_pop_3 _ _ _
 refine call_meetsIn PySem.F.slot_dict_pop dd.typeIs PySem.F.entry_dict_pop ha (meets_dict_pop_there (mixKind X.prog X.w) a (kV_is ry) more hm hp)
  ⟨vs, w', dd, by rw [← rel.length]; exact z, hw, fun h' dd' hs => h w' _ ?_ rw'⟩
 have he : ∃ q, h'.get? a = some q := let ⟨q, _, _, hq, _⟩ := dd'; ⟨q, hq⟩
 exact d_write I (by rw [e]; exact True.intro) hs he (dk_new (Nat.le_trans (dropK_le kvs k) z) hd (rel.drop k) dd')
theorem d_len {Q : Value → Shared → Prop} (I : Inv X pins σ H s) (e : Rd H a (.dK kvs)) (h : ∀ t s', Inv X pins σ H s' → Q (.int kvs.length t) s') : wpAny (model X.prog X.w) A (call (.builtin "len") [.ref a]) Q E s := by
 obtain ⟨z, hd, vs, rel, dd⟩ := dk_rd I.hok e
 refine call_len_dict hd dd (by rw [← rel.length]; rw [sizeLine_eq] at z; omega) ?_
 rw [← rel.length]
 exact h _ _ (I.tok _)
end
def NoSl (i : Expr) : Prop := ∀ ov iv, subscripted i false ov iv = operate [ov, iv] (getItem ov iv)
theorem subD_of {prog : Program} {w : World} {A : Around} {E : Value → Shared → Prop} {s : Shared} {env : Env} {value slice : Expr} {pos : Pos} {T id : String} {Q : Value → Shared → Prop}
  (hl : typeLookup (.type T) "__getitem__" = pure (some (.builtin id))) (hs : NoSl slice)
  (h : wpAny (model prog w) A (eval value env) (fun o s₁ => wpAny (model prog w) A (eval slice env) (fun i s₂ => s₂.TypeIs o T ∧ wpAny (model prog w) A (getItem o i) Q E s₂) E s₁) E s) :
  wpAny (model prog w) A (eval (.Subscript value slice pos) env) Q E s := by
 refine Subscript_ (wpAny_mono h (fun o s₁ h₁ => wpAny_mono h₁ (fun i s₂ h₂ => ?_) fun _ _ x => x) fun _ _ x => x)
 obtain ⟨hT, h₂⟩ := h₂
 unfold subscriptTail
 refine wpAny_bind ?_
 rw [getitemInPython_of_ne hT.not_modules]
 refine wpAny_bind (wpAny_specialOf hT hl ?_)
 have fin : wpAny (model prog w) A (subscripted slice false o i) (fun r s₃ => wpAny (model prog w) A (letTemporaryGo value o r >>= fun _ => pure r) Q E s₃) E s₂ := by
  rw [hs o i]
  exact wpAny_operating (wpAny_mono h₂ (fun r s₃ h₃ => wpAny_bind (wpAny_letTemporaryGo (wpAny_pure h₃))) fun _ _ x => x)
 first
  | exact wpAny_pure (wpAny_bind fin)
  | exact wpAny_bind (wpAny_pure (wpAny_bind fin))
  | exact wpAny_bind fin
theorem dict_typeIs {X : Cx} {pins : List (Addr × Obj)} {σ : St} {H : Hp} {s : Shared} {a : Addr} {y : V} {o : Option V} (I : Inv X pins σ H s) (g : DGet H a y o) : s.TypeIs (.ref a) "dict" := by
 rcases g with ⟨kvs, k, e, _, _⟩ | ⟨kvs, k, b, e, _, _, _⟩
 ·obtain ⟨_, _, vs, _, dd⟩ := dk_rd I.hok e
  exact dd.typeIs
 ·obtain ⟨_, _, xs, _, dd⟩ := dt_rd I.hok e
  exact dd.typeIs
def tDGet (td ty : TE) : TE := fun σ H Q => td σ H fun x H1 => ty σ H1 fun y H2 => ∃ a v, x = .ref a ∧ DGet H2 a y (some v) ∧ Q v H2
def tDIn (ty td : TE) : TE := fun σ H Q => ty σ H fun y H1 => td σ H1 fun x H2 => ∃ a o, x = .ref a ∧ DGet H2 a y o ∧ Q (.bl o.isSome) H2
def tDNotIn (ty td : TE) : TE := fun σ H Q => ty σ H fun y H1 => td σ H1 fun x H2 => ∃ a o, x = .ref a ∧ DGet H2 a y o ∧ Q (.bl (!o.isSome)) H2
def sDPut (td ty tv : TE) : TS := fun D σ H => tv σ H fun v H1 => td σ H1 fun x H2 => ty σ H2 fun y H3 => ∃ a H4, x = .ref a ∧ DPut H3 a y v H4 ∧ D.nx σ H4
def sDAug (td ty tv : TE) (rd : V → V → Hp → VK → Prop) : TS := fun D σ H => td σ H fun x H1 => ty σ H1 fun y H2 => ∃ a v, x = .ref a ∧ DGet H2 a y (some v) ∧
 tv σ H2 fun y2 H3 => rd v y2 H3 fun z H4 => ∃ H5, DPut H4 a y z H5 ∧ D.nx σ H5
def sDDel (td ty : TE) : TS := fun D σ H => td σ H fun x H1 => ty σ H1 fun y H2 => ∃ a kvs k, x = .ref a ∧ H2 a = some (.dK kvs) ∧ y = kV k ∧ (valV kvs k).isSome = true ∧ D.nx σ (upd H2 a (.dK (dropK kvs k)))
section
variable {X : Cx} {o i e value : Expr} {pos pos' tpos : Pos} {td ty tv : TE}
theorem pe_dget (hu : X.A.units + 1 < cLine) (ho : PE X o td) (hi : PE X i ty) (hs : NoSl i) : PE X (.Subscript o i pos) (tDGet td ty) := by
 intro pins s σ H Q I h
 refine subD_of PySem.F.slot_dict_getitem.lookup hs (thn (ho pins s σ H _ I h) fun u s1 ⟨x, H1, I1, rx, q1⟩ => thn (hi pins s1 σ H1 _ I1 q1) fun iv s2 ⟨y, H2, I2, ry, a, v, ex, g, q2⟩ => ?_)
 subst ex
 obtain rfl : u = Value.ref a := rx
 exact ⟨dict_typeIs I2 g, d_getItem hu I2 g ry fun w' s3 I3 rw' => ⟨v, H2, I3, rw', q2⟩⟩
theorem pc_din (hu : X.A.units + 1 < cLine) (hi : PE X i ty) (ho : PE X o td) : PC X .In i o (tDIn ty td) := by
 intro pins s σ H Q I h
 refine thn (hi pins s σ H _ I h) fun iv s1 ⟨y, H1, I1, ry, q1⟩ => thn (ho pins s1 σ H1 _ I1 q1) fun u s2 ⟨x, H2, I2, rx, a, ov, ex, g, q2⟩ => ?_
 subst ex
 obtain rfl : u = Value.ref a := rx
 exact d_in hu I2 g ry fun s3 I3 => ⟨.bl ov.isSome, H2, I3, rfl, q2⟩
theorem pc_dnotin (hu : X.A.units + 1 < cLine) (hi : PE X i ty) (ho : PE X o td) : PC X .NotIn i o (tDNotIn ty td) := by
 intro pins s σ H Q I h
 refine thn (hi pins s σ H _ I h) fun iv s1 ⟨y, H1, I1, ry, q1⟩ => thn (ho pins s1 σ H1 _ I1 q1) fun u s2 ⟨x, H2, I2, rx, a, ov, ex, g, q2⟩ => ?_
 subst ex
 obtain rfl : u = Value.ref a := rx
 exact d_notIn hu I2 g ry fun s3 I3 => ⟨.bl (!ov.isSome), H2, I3, rfl, q2⟩
theorem ps_dput (hu : X.A.units + 1 < cLine) (ho : PE X o td) (hi : PE X i ty) (hv : PE X value tv) (hs : swapsWith value (some (.Subscript o i pos')) pos.line X.env = pure false) :
  PS X (.Assign [.Subscript o i pos'] value pos) (sDPut td ty tv) := by
 intro pins s σ H D I h
 refine wpAny_Assign_Subscript (thn (hv pins s σ H _ I h) fun r s1 ⟨v, H1, I1, rv, q1⟩ => thn (ho pins s1 σ H1 _ I1 q1) fun u s2 ⟨x, H2, I2, rx, q2⟩ => thn (hi pins s2 σ H2 _ I2 q2) fun iv s3 ⟨y, H3, I3, ry, a, H4, ex, g, q3⟩ => ?_) hs
 subst ex
 obtain rfl : u = Value.ref a := rx
 exact d_setItem hu I3 g ry rv fun s4 I4 => ⟨σ, H4, I4, q3⟩
end
theorem dk_empty {P : Program} {w : World} {H : Hp} (h : Heap) (hb : sysModules < h.objs.size) : ObjOk P w H (h.push { cls := .type "dict", data := .dict #[] }) h.objs.size (.dK []) :=
 ⟨Nat.zero_le _, beq_eq_false_iff_ne.mpr (Ne.symm (Nat.ne_of_lt hb)), [], .nil, Heap.DictOf.new h⟩
def tDNewK : TE := fun _ H Q => ∀ p, H p = none → Q (.ref p) (upd H p (.dK []))
def tDNewT : TE := fun _ H Q => ∀ p, H p = none → Q (.ref p) (upd H p (.dT []))
section
variable {X : Cx} {pos : Pos}
theorem pe_dnewK : PE X (.Dict [] [] pos) tDNewK := fun pins s σ H Q I h =>
 wpAny_Dict_empty ⟨.ref s.heap.objs.size, _, I.laid (a := s.heap.objs.size) (o := .dK []) (t' := s.toks) (fun _ _ q => Heap.get?_push_of_some _ q) (Nat.le_refl _) (dk_empty s.heap I.big), rfl, h _ (I.hok.fresh (Nat.le_refl _))⟩
end
def tPairs : List (TE × TE) → St → Hp → (List (V × V) → Hp → Prop) → Prop
 | [], _, H, Q => Q [] H
 | (tk, tv) :: r, σ, H, Q => tk σ H fun x H1 => tv σ H1 fun y H2 => tPairs r σ H2 fun ps H3 => Q ((x, y) :: ps) H3
abbrev VV : List (V × V) → List (Value × Value) → Prop := Paired fun p q => RelV p.1 q.1 ∧ RelV p.2 q.2
def PPs (X : Cx) (pos : Pos) (keys : List (Option Expr)) (values : List Expr) (trs : List (TE × TE)) : Prop :=
 ∀ (pins : List (Addr × Obj)) (s : Shared) (σ : St) (H : Hp) (Q : List (V × V) → Hp → Prop), Inv X pins σ H s → tPairs trs σ H Q →
  wpAny (model X.prog X.w) X.A (evalPairs (pairTrees keys values X.env pos)) (fun vs s' => ∃ ps H', Inv X pins σ H' s' ∧ VV ps vs ∧ Q ps H') X.xe s
def mergeK (kvs more : List (Key × V)) : List (Key × V) := more.foldl (fun acc kv => putK acc kv.1 kv.2) kvs
def tDisp (trs : List (TE × TE)) : TE := fun σ H Q => ∀ p, H p = none → tPairs trs σ (upd H p (.dK [])) fun ps H2 => H2 p = some (.dK []) ∧ ∃ kvs : List (Key × V), ps = kvs.map (fun kv => (kV kv.1, kv.2)) ∧ kvs.length ≤ 15 ∧ Q (.ref p) (upd H2 p (.dK (mergeK [] kvs)))
structure M1 (X : Cx) (o : Expr) (m : Str) (apos : Pos) (e : Expr) (cpos : Pos) : Prop where
 base : attributeBase o m X.env (eval o X.env) = eval o X.env
 few : ((backTo cpos (starEach [e] X.env)).all (fun x => !x.1) && (backToKw cpos (keywordEach [] X.env)).all (fun x => x.1.isSome)
  && decide (([e] : List Expr).length + ([] : List Keyword).length + (if ([] : List Keyword).isEmpty then 0 else 1) < 30)) = true
 line : (apos.endLine == cpos.line) = true
 trees : backTo cpos (starEach [e] X.env) = [(false, eval e X.env)]
structure M2 (X : Cx) (o : Expr) (m : Str) (apos : Pos) (e f : Expr) (cpos : Pos) : Prop where
 base : attributeBase o m X.env (eval o X.env) = eval o X.env
 few : ((backTo cpos (starEach [e, f] X.env)).all (fun x => !x.1) && (backToKw cpos (keywordEach [] X.env)).all (fun x => x.1.isSome)
  && decide (([e, f] : List Expr).length + ([] : List Keyword).length + (if ([] : List Keyword).isEmpty then 0 else 1) < 30)) = true
 line : (apos.endLine == cpos.line) = true
 trees : backTo cpos (starEach [e, f] X.env) = [(false, eval e X.env), (false, eval f X.env)]
def IsD (H : Hp) (a : Addr) : Prop := (∃ kvs, Rd H a (.dK kvs)) ∨ ∃ kvs, Rd H a (.dT kvs)
theorem isD_at {X : Cx} {pins : List (Addr × Obj)} {σ : St} {H : Hp} {s : Shared} {a : Addr} (I : Inv X pins σ H s) (d : IsD H a) :
  s.TypeIs (.ref a) "dict" ∧ (∀ b, Value.ref a = .ref b → ∃ ob, s.heap.get? b = some ob ∧ ob.dict = none) ∧ (a == sysModules) = false := by
 rcases d with ⟨kvs, e⟩ | ⟨kvs, e⟩
 ·obtain ⟨_, hd, vs, _, dd⟩ := dk_rd I.hok e
  refine ⟨dd.typeIs, fun b q => ?_, hd⟩
  cases q
  obtain ⟨ob, _, _, h1, h2, _⟩ := dd
  exact ⟨ob, h1, h2.2.1⟩
 ·obtain ⟨_, hd, xs, _, dd⟩ := dt_rd I.hok e
  refine ⟨dd.typeIs, fun b q => ?_, hd⟩
  cases q
  obtain ⟨ob, _, _, h1, h2, _⟩ := dd
  exact ⟨ob, h1, h2.2.1⟩
section
variable {X : Cx} {pins : List (Addr × Obj)} {σ : St} {H : Hp} {s : Shared} {a : Addr} {y d : V} {u r : Value} {o : Option V} {A : Around} {E : Value → Shared → Prop}
theorem d_get2 {Q : Value → Shared → Prop} (hu : A.units + 1 < cLine) (I : Inv X pins σ H s) (g : DGet H a y o) (ry : RelV y u) (rd : RelV d r) (h : ∀ w' s', Inv X pins σ H s' → RelV (o.getD d) w' → Q w' s') :
  wpAny (model X.prog X.w) A (call (.builtin "dict.get") [.ref a, u, r]) Q E s := by
 rcases g with ⟨kvs, k, e, ey, l⟩ | ⟨kvs, k, b, e, ey, eb, l⟩
 ·subst ey
  obtain ⟨z, hd, vs, rel, dd⟩ := dk_rd I.hok e
  refine call_meetsIn PySem.F.slot_dict_get dd.typeIs PySem.F.entry_dict_get (PySem.F.args_dict_get_3 _ _ _) (meets_dict_get_default (mixKind X.prog X.w) a (kV_is ry) hd r) ⟨_, dd.mapOf, h _ _ (I.tok _) ?_⟩
  rw [l]
  exact (rel.val k).getD rd
 ·subst ey
  cases (show u = Value.ref b from ry)
  obtain ⟨z, hd, xs, rel, dd⟩ := dt_rd I.hok e
  refine call_meetsIn PySem.F.slot_dict_get dd.typeIs PySem.F.entry_dict_get (PySem.F.args_dict_get_3 _ _ _) (meetsH_dict_get_default (tupleKind (mixKind X.prog X.w)) a b hd r) ⟨tupleKind_room_in1 hu, k, xs, key_of I.hok eb, dd, h _ _ (I.tok _) ?_⟩
  rw [l]
  exact (rel.val k).getD rd
end
def tDGet1 (td ty : TE) : TE := fun σ H Q => td σ H fun x H1 => ∃ a, x = .ref a ∧ IsD H1 a ∧ ty σ H1 fun y H2 => ∃ o, DGet H2 a y o ∧ Q (o.getD .non) H2
def tDGet2 (td ty tx : TE) : TE := fun σ H Q => td σ H fun x H1 => ∃ a, x = .ref a ∧ IsD H1 a ∧ ty σ H1 fun y H2 => tx σ H2 fun z H3 => ∃ o, DGet H3 a y o ∧ Q (o.getD z) H3
def tDPop1 (td ty : TE) : TE := fun σ H Q => td σ H fun x H1 => ∃ a, x = .ref a ∧ IsD H1 a ∧ ty σ H1 fun y H2 => ∃ kvs k v, H2 a = some (.dK kvs) ∧ y = kV k ∧ valV kvs k = some v ∧ Q v (upd H2 a (.dK (dropK kvs k)))
def tDPop2 (td ty tx : TE) : TE := fun σ H Q => td σ H fun x H1 => ∃ a, x = .ref a ∧ IsD H1 a ∧ ty σ H1 fun y H2 => tx σ H2 fun z H3 => ∃ kvs k, H3 a = some (.dK kvs) ∧ y = kV k ∧
 (∀ v, valV kvs k = some v → Q v (upd H3 a (.dK (dropK kvs k)))) ∧ (valV kvs k = none → Q z H3)
section
variable {X : Cx} {o e f : Expr} {apos cpos : Pos} {td ty tx : TE}
theorem pe_dget2 (hu : X.A.units + 1 < cLine) (ho : PE X o td) (he : PE X e ty) (hf : PE X f tx) (m : M2 X o "get" apos e f cpos) : PE X (.Call (.Attribute o "get" apos) [e, f] [] cpos) (tDGet2 td ty tx) := by
 intro pins s σ H Q I h
 refine wpAny_Call_method m.base m.few m.line PySem.F.plainAttrs_dict PySem.F.slot_dict_get PySem.F.type_dict_get (thn (ho pins s σ H _ I h) fun u s1 ⟨x, H1, I1, rx, a, ex, d, q1⟩ => ?_)
 subst ex
 obtain rfl : u = Value.ref a := rx
 obtain ⟨t1, t2, _⟩ := isD_at I1 d
 refine ⟨t1, t2, ?_⟩
 rw [m.trees]
 refine Calls.callWith_builtin rfl (Calls.evalArgs_plain (Calls.spliced_cons (thn (he pins s1 σ H1 _ I1 q1) fun iv s2 ⟨y, H2, I2, ry, q2⟩ =>
  Calls.spliced_cons (thn (hf pins s2 σ H2 _ I2 q2) fun fv s3 ⟨z, H3, I3, rz, ov, g, q3⟩ => Calls.spliced_nil ?_))))
 exact d_get2 hu I3 g ry rz fun w' s4 I4 rw' => ⟨_, H3, I4, rw', q3⟩
theorem pe_dpop1 (ho : PE X o td) (he : PE X e ty) (m : M1 X o "pop" apos e cpos) : PE X (.Call (.Attribute o "pop" apos) [e] [] cpos) (tDPop1 td ty) := by
 intro pins s σ H Q I h
 refine wpAny_Call_method m.base m.few m.line PySem.F.plainAttrs_dict PySem.F.slot_dict_pop PySem.F.type_dict_pop (thn (ho pins s σ H _ I h) fun u s1 ⟨x, H1, I1, rx, a, ex, d, q1⟩ => ?_)
 subst ex
 obtain rfl : u = Value.ref a := rx
 obtain ⟨t1, t2, _⟩ := isD_at I1 d
 refine ⟨t1, t2, ?_⟩
 rw [m.trees]
 refine Calls.callWith_builtin rfl (Calls.evalArgs_plain (Calls.spliced_cons (thn (he pins s1 σ H1 _ I1 q1) fun iv s2 ⟨y, H2, I2, ry, kvs, k, v, ea, ey, l, q2⟩ => Calls.spliced_nil ?_)))
 subst ey
 exact d_pop I2 ea ry l (.inl rfl) fun w' s3 I3 rw' => ⟨v, _, I3, rw', q2⟩
end
section
variable {X : Cx} {pins : List (Addr × Obj)} {σ : St} {H : Hp} {s : Shared} {a : Addr} {kvs : List (Key × V)} {A : Around} {E : Value → Shared → Prop}
end
section
variable {X : Cx} {pins : List (Addr × Obj)} {σ : St} {H : Hp} {s : Shared} {a : Addr} {y : V} {u : Value} {A : Around} {E : Value → Shared → Prop}
end
end L2
set_option maxHeartbeats 4000000
namespace Ty
open PySem PySem.Spec PyProof.Rows L2
section
variable {X : Cx}
theorem seer_of {pins : List (Addr × Obj)} {σ : L2.St} {H : Hp} {s : Shared} (I : Inv X pins σ H s) : s.heap.NoSeer := I.ok.mod.seer.keeps I.bk
theorem Room.py {k : Nat} {A : Around} (r : Room k A) (h : 32 ≤ k) : A.depth + Builtin.pylongFrames < recursionLimit := by
 have := r.dp
 have : Builtin.pylongFrames = 100 := rfl
 omega
theorem op_fdivU {env : Env} {l : List Env} (ht : X.prog.given.tree = none) (hd : X.A.depth + Builtin.pylongFrames < recursionLimit) (hst : X.stack = env :: l) (h1 : env.scope.isGenerator = false) (h2 : env.scope.isCoroutine = false) (h3 : env.builtins = builtinsNs) (h4 : env.globals = mainGlobals) :
  OpR X (binaryOp .FloorDiv) (rI CMod fun i j => .int (i.fdiv j)) := by
 intro pins s σ H x y v u Q I rx ry h
 obtain ⟨i, j, rfl, rfl, hc, q⟩ := h
 obtain ⟨t, rfl⟩ := rx
 obtain ⟨t', rfl⟩ := ry
 exact floordiv_int hc ⟨.int _, H, I.tok _, ⟨_, rfl⟩, q⟩ (.inr (PylongRoom.of I.nolimit hd (SeerAt.of (seer_of I) ht (by rw [I.ok.frames, hst]) h1 h2 h3 h4)))
end
end Ty
set_option maxHeartbeats 4000000
namespace Ty
open PySem PySem.Spec PyProof.Rows L2
section
variable {prog : Program} {w : World} {A : Around} {E : Value → Shared → Prop} {s : Shared} {KK : Type} [DecidableEq KK] {knd : KeyKind prog w KK}
theorem hint_dict {d : Addr} {kvs : List (KK × Value)} {Q : Bool → Shared → Prop} (hm : s.heap.DictOf knd d kvs) (h : Q false s) : wpAny (model prog w) A (Builtin.List.listLengthHint (.ref d)) Q E s := by
 unfold Builtin.List.listLengthHint
 refine wpAny_bind (wpAny_specialOf (name := Str.ofString "__len__") hm.typeIs F.slot_dict_len.lookup ?_)
 generalize hid : ("dict.__len__" : String) = id0
 wp_delta
 rw [show splitId id0 = some ("dict", "__len__") from by subst hid; decide +kernel]
 subst hid
 refine wpAny_bind (wpAny_isInstance (T := "dict") (b := true) hm.typeIs (by rw [isSubtype_type]; kernel_rfl) ?_)
 refine wpAny_ite_split (fun hab => absurd hab (by decide)) (fun _ => ?_)
 refine wpAny_ite_split (fun _ => ?_) (fun hab => absurd (by decide +kernel) hab)
 refine wpAny_bind (wpAny_typeOf (T := "dict") hm.typeIs ?_)
 exact wpAny_pure h
theorem extend_dict {R : Result → Shared → Prop} {d : Addr} {kvs : List (KK × Value)} {ep : Nat} (hh : A.handled = none) (hd : (d == sysModules) = false) (hm : s.heap.DictAt knd d kvs ep) (hlen : kvs.length ≤ sizeLine) (S : Addr) (res : Value) (c₀ : Nat) (hS : s.heap.get? S = some { cls := .type "list", data := .seq #[] c₀ })
  (hR : ∀ h' tk acc' c', (∀ b o, b ≠ S → s.heap.get? b = some o → h'.get? b = some o) → h'.get? S = some { cls := .type "list", dict := none, data := .seq acc' c', slots := #[] } →
   ItemsOf (fun i v => ∃ k x, kvs[i]? = some (k, x) ∧ knd.is k v = true) acc' kvs.length → R (.ok (.ret res)) { s with heap := h', toks := tk }) :
  wpAny (model prog w) A.in1 (Builtin.List.listExtendWith (.ref S) (.ref d) res)
   (fun fin s' => match fin with | .done f => R (.ok f) s' | .again c' => c'.quiet = true ∧ codeAny (model prog w) A c' R s') (fun e s' => R (.error e) s') s := by
 obtain ⟨od, es, hod, hcd, hdat, hk0, hp0, hn0⟩ := id hm
 have hT : s.TypeIs (.ref d) "dict" := hm.dictOf.typeIs
 have hSd : S ≠ d := fun e => by
  rw [e] at hS
  rw [hS] at hod
  cases hod
  cases hdat
 have hdI : d ≠ s.heap.objs.size := Nat.ne_of_lt (Heap.lt_size hod)
 have hSI : S ≠ s.heap.objs.size := Nat.ne_of_lt (Heap.lt_size hS)
 have hSf : S ∉ [s.heap.objs.size, d] := fun hm => by
  rcases List.mem_cons.mp hm with z | z
  ·exact hSI z
  ·exact hSd (List.mem_singleton.mp z)
 have W := (Walks.dictKeys (knd := knd) (A := A.in1) hh s.heap.objs.size d hdI kvs ep).toS
 unfold Builtin.List.listExtendWith
 refine wpAny_bind (wpAny_typeOf (T := "dict") hT ?_)
 have h1 : Builtin.List.listSameRef (.ref S) (.ref d) = false := by simp [Builtin.List.listSameRef, hSd]
 have h2 : (Value.type "dict" == Value.type "list") = false := by decide
 have h3 : (Value.type "dict" == Value.type "tuple") = false := by decide
 simp only [h1, h2, h3, Bool.or_false, Bool.false_eq_true, if_false]
 refine wpAny_bind (wpAny_pyIter_dict hd hm ?_)
 have hm1 : (s.heap.push { cls := .type "dict_keyiterator", data := .fields #[.ref d, .int 0 0, .int kvs.length 0, .int ep 0] }).DictAt knd d kvs ep := hm.at' fun o e => Heap.get?_push_of_some _ e
 refine wpAny_bind (wpAny_holding (hint_dict (knd := knd) hm1.dictOf ?_))
 have hS₁ := Heap.get?_push_of_some { cls := .type "dict_keyiterator", data := .fields #[.ref d, .int 0 0, .int kvs.length 0, .int ep 0] } hS
 have it₁ : (s.heap.push { cls := .type "dict_keyiterator", data := .fields #[.ref d, .int 0 0, .int kvs.length 0, .int ep 0] }).IsKeyIter s.heap.objs.size d 0 kvs.length ep := ⟨_, Heap.get?_push_size _ rfl, rfl, rfl⟩
 have key : ∀ (h : Heap) (c₁ tk : Nat), h.IsKeyIter s.heap.objs.size d 0 kvs.length ep → h.DictAt knd d kvs ep → (∀ b o, b ≠ S → s.heap.get? b = some o → h.get? b = some o) →
   h.get? S = some { cls := .type "list", data := .seq #[] c₁ } → codeAny (model prog w) A (.builtin "list.extend.loop" ⟨[.ref S, .ref s.heap.objs.size, res], []⟩) R { s with heap := h, toks := tk } := by
  intro h c₁ tk hit hdm hk hS₁
  refine codeAny_extend_loopS W hlen S hSf res kvs.length 0 _ #[] c₁ rfl (Nat.zero_le _) ⟨hit, hdm⟩ hS₁ (ItemsOf.nil _) fun s' acc' c' hm' hS' hacc => ?_
  rw [Moved.eq_with hm']
  refine hR s'.heap s'.toks acc' c' (fun b o hb e => hm'.heap b o (fun hmem => ?_) (hk b o hb e)) hS' hacc
  rcases List.mem_cons.mp hmem with e' | hmem
  ·exact hb e'
  ·exact absurd (Heap.lt_size e) (by rw [List.mem_singleton.mp hmem]; exact Nat.lt_irrefl _)
 refine wpAny_ite_split (fun _ => ?_) (fun _ => wpAny_pure ⟨plainId_quiet F.plain_extend_loop _, key _ c₀ _ it₁ hm1 (fun b o _ e => Heap.get?_push_of_some _ e) hS₁⟩)
 refine wpAny_bind (wpAny_rule ?_)
 refine wpAny_bind ?_
 show wpAny _ _ (updateSeq S (·.push .none) >>= fun _ => updateSeq S (·.pop)) _ _ _
 refine wpAny_bind (wpAny_updateSeq hS₁ rfl ?_)
 have hS₂ := Heap.get?_update_self (Obj.mapSeq (·.push Value.none)) hS₁ rfl
 refine wpAny_updateSeq (hz := by seq_fits) hS₂ rfl ?_
 have hS₃ := Heap.get?_update_self (Obj.mapSeq (·.pop)) hS₂ rfl
 refine wpAny_pure ⟨plainId_quiet F.plain_extend_loop _, key _ _ _ (it₁.at fun o e => ?_) (hm1.at' fun o e => ?_) (fun b o hb e => ?_) hS₃⟩
 ·exact (Heap.get?_update_other _ _ hSI).trans ((Heap.get?_update_other _ _ hSI).trans e)
 ·exact (Heap.get?_update_other _ _ hSd).trans ((Heap.get?_update_other _ _ hSd).trans e)
 ·exact (Heap.get?_update_other _ _ (Ne.symm hb)).trans ((Heap.get?_update_other _ _ (Ne.symm hb)).trans (Heap.get?_push_of_some _ e))
theorem list_init_dict {R : Result → Shared → Prop} {d : Addr} {kvs : List (KK × Value)} {ep : Nat} (hh : A.handled = none) (hd : (d == sysModules) = false) (hm : s.heap.DictAt knd d kvs ep) (hlen : kvs.length ≤ sizeLine) (S : Addr) (hS : s.heap.get? S = some { cls := .type "list", data := .seq #[] })
  (hR : ∀ h' tk acc' c', (∀ b o, b ≠ S → s.heap.get? b = some o → h'.get? b = some o) → h'.get? S = some { cls := .type "list", dict := none, data := .seq acc' c', slots := #[] } →
   ItemsOf (fun i v => ∃ k x, kvs[i]? = some (k, x) ∧ knd.is k v = true) acc' kvs.length → R (.ok (.ret .none)) { s with heap := h', toks := tk }) :
  wpAny (model prog w) A.in1 (Builtin.«list.__init__» ⟨[.ref S, .ref d], []⟩)
   (fun fin s' => match fin with | .done f => R (.ok f) s' | .again c' => c'.quiet = true ∧ codeAny (model prog w) A c' R s') (fun e s' => R (.error e) s') s := by
 obtain ⟨od, es, hod, hcd, hdat, hk0, hp0, hn0⟩ := id hm
 have hSd : S ≠ d := fun e => by
  rw [e] at hS
  rw [hS] at hod
  cases hod
  cases hdat
 show wpAny _ _ (do let old ← Builtin.List.listItems (.ref S); Builtin.List.listUpdate (.ref S) (fun _ => #[]); letGo old.toList.reverse; Builtin.List.listExtendWith (.ref S) (.ref d) .none) _ _ s
 refine wpAny_bind ?_
 unfold Builtin.List.listItems
 refine wpAny_bind (wpAny_seqItems hS rfl (wpAny_pure ?_))
 show wpAny _ _ (updateSeq S (fun _ => #[]) >>= fun _ => letGo (#[] : Array Value).toList.reverse >>= fun _ => Builtin.List.listExtendWith (.ref S) (.ref d) .none) _ _ s
 refine wpAny_bind (wpAny_updateSeq hS rfl ?_)
 have hS₂ := Heap.get?_update_self (Obj.mapSeq (fun _ => (#[] : Array Value))) hS rfl
 have oth : ∀ b o, b ≠ S → s.heap.get? b = some o → (s.heap.update S (Obj.mapSeq (fun _ => (#[] : Array Value)))).get? b = some o :=
  fun b o hb e => (Heap.get?_update_other _ _ (Ne.symm hb)).trans e
 refine wpAny_bind (wpAny_letGo ?_)
 refine extend_dict hh hd (hm.at' fun o e => oth d o (Ne.symm hSd) e) hlen S .none _ hS₂ fun h' tk acc' c' hk hS' hacc => ?_
 exact hR h' tk acc' c' (fun b o hb e => hk b o hb (oth b o hb e)) hS' hacc
theorem call_list_dict {Q : Value → Shared → Prop} {d : Addr} {kvs : List (KK × Value)} {ep : Nat} (hh : A.handled = none) (hd : (d == sysModules) = false) (hm : s.heap.DictAt knd d kvs ep) (hlen : kvs.length ≤ sizeLine)
  (hQ : ∀ h' tk acc' c', (∀ b o, s.heap.get? b = some o → h'.get? b = some o) →
   h'.get? s.heap.objs.size = some { cls := .type "list", dict := none, data := .seq acc' c', slots := #[] } → ItemsOf (fun i v => ∃ k x, kvs[i]? = some (k, x) ∧ knd.is k v = true) acc' kvs.length → Q (.ref s.heap.objs.size) { s with heap := h', toks := tk }) :
  wpAny (model prog w) A (call (.type "list") [.ref d]) Q E s := by
 refine callType_codes (Q₁ := fun obj s₁ => obj = .ref s.heap.objs.size ∧ s₁ = { s with heap := s.heap.push { cls := .type "list", data := .seq #[] } }) F.called_list (F.typeCall_list_1 _) F.entry_list_init
  (code_list_new _ ⟨rfl, rfl⟩) fun obj s₁ h₁ => ?_
 obtain ⟨rfl, rfl⟩ := h₁
 have hS : (s.heap.push { cls := .type "list", data := .seq #[] }).get? s.heap.objs.size = some { cls := .type "list", data := .seq #[] } := Heap.get?_push_size _ rfl
 refine ⟨⟨_, hS, rfl⟩, F.args_list_init_2 _ _, list_init_dict (A := A.in1) hh hd (hm.at' fun o e => Heap.get?_push_of_some _ e) hlen _ hS fun h' tk acc' c' hk hS' hacc => ?_⟩
 exact ⟨rfl, hQ h' tk acc' c' (fun b o e => hk b o (Nat.ne_of_lt (Heap.lt_size e)) (Heap.get?_push_of_some _ e)) hS' hacc⟩
end
theorem paired_get {α β : Type} {F : α → β → Prop} : ∀ {l₁ : List α} {l₂ : List β} {i : Nat} {a : α}, Paired F l₁ l₂ → l₁[i]? = some a → ∃ b, l₂[i]? = some b ∧ F a b
 | _, _, _, _, .nil, h => by simp at h
 | _, _, 0, _, .cons r _, h => by
  cases h
  exact ⟨_, rfl, r⟩
 | _, _, i + 1, _, .cons _ t, h => by
  obtain ⟨b, e, f⟩ := paired_get (i := i) t (by simpa using h)
  exact ⟨b, by simpa using e, f⟩
theorem paired_of {α β : Type} {F : α → β → Prop} : ∀ {l₁ : List α} {l₂ : List β}, l₁.length = l₂.length → (∀ (i : Nat) (a : α) (b : β), l₁[i]? = some a → l₂[i]? = some b → F a b) → Paired F l₁ l₂
 | [], [], _, _ => .nil
 | a :: l₁, b :: l₂, h, f => .cons (f 0 a b rfl rfl) (paired_of (by simpa using h) fun i a b e1 e2 => f (i + 1) a b (by simpa using e1) (by simpa using e2))
 | [], _ :: _, h, _ => by simp at h
 | _ :: _, [], h, _ => by simp at h
theorem key_rel {P : Program} {w : World} {k : Key} {u : Value} (h : (mixKind P w).is k u = true) : RelV (kV k) u := by
 rcases keyIs_shape h with ⟨i, t, rfl, rfl⟩ | ⟨x, t, rfl, rfl⟩
 ·exact ⟨t, rfl⟩
 ·exact ⟨t, rfl⟩
section
variable {X : Cx}
def rListD : List V → Hp → VK → Prop := fun xs H Q => ∃ (p : Addr) (kvs : List (Key × V)), xs = [.ref p] ∧ Rd H p (.dK kvs) ∧ ∀ l, H l = none → Q (.ref l) (upd H l (.lst (kvs.map fun kv => kV kv.1)))
theorem call_listD (hc : X.calm = true) : CallR X (.type "list") rListD := by
 intro pins s σ H xs us Q I r h
 obtain ⟨p, kvs, rfl, hq, q⟩ := h
 obtain ⟨u, rfl, r1⟩ := vals1 r
 cases r1
 obtain ⟨z, hd, vs, rel, o, es, ep, ho, hx, hdat, hk, hp, hn⟩ := dk_rd I.hok hq
 have hl := rel.length
 refine call_list_dict (knd := mixKind X.prog X.w) (I.ok.hd hc) hd ⟨o, es, ho, hx, hdat, hk, hp, hn⟩ (by omega) fun h' tk acc' c' kk hS hacc => ?_
 have hn' := I.hok.fresh (Nat.le_refl s.heap.objs.size)
 have rv : Vals (kvs.map fun kv => kV kv.1) acc'.toList := paired_of (by have := hacc.1; simp; omega) fun i a b e1 e2 => by
  rw [List.getElem?_map] at e1
  obtain ⟨kv, ek, rfl⟩ := Option.map_eq_some_iff.mp e1
  obtain ⟨q', eq, e3, _⟩ := paired_get rel ek
  obtain ⟨k, x, e4, e5⟩ := hacc.2 i b (by simpa using e2)
  rw [eq] at e4
  cases e4
  rw [e3]
  exact key_rel e5
 have I2 : Inv X pins σ (upd H s.heap.objs.size (.lst (kvs.map fun kv => kV kv.1))) { s with heap := h', toks := tk } := I.laid (t' := tk) kk (Nat.le_refl _) ⟨by rw [List.length_map]; exact z, acc'.toList, c', rv, by simpa using hS⟩
 exact ⟨.ref _, _, I2, rfl, q _ hn'⟩
theorem Inv.freeze {pins : List (Addr × Obj)} {σ : L2.St} {H : Hp} {s : Shared} {d : Addr} {kvs : List (Key × V)} {o : Obj} (I : Inv X pins σ H s) (e : H d = some (.dK kvs)) (ho : s.heap.get? d = some o) : Inv X pins σ (upd H d (.frz o (.dK kvs))) s := by
 have nx : ∀ b u, H b = some u → b ≠ d → upd H d (.frz o (.dK kvs)) b = some u := fun b u q n => by rw [upd_ne n]; exact q
 refine I.step (g' := s.gens) (t' := s.toks) (d' := s.drawn) (ch := []) (fun _ z => nomatch z) (fun b o _ _ _ e _ => e) (fun b o _ _ _ e _ => ⟨o.slots, e⟩) (fun b o _ _ n => by rw [upd_ne (fun z => by rw [z, e] at n; cases n)]; exact n) (fun b o _ e => ⟨o, e⟩)
  (fun b xs q => nx b _ q fun z => by rw [z, e] at q; cases q) (fun b o' u q => nx b _ q fun z => by rw [z, e] at q; cases q) (fun b ps q => ⟨#[], by rw [nx b _ q fun z => by rw [z, e] at q; cases q]; simp⟩) (fun m hm => hm) (fun b u q => ?_) I.bare
 by_cases hb : b = d
 ·subst hb
  rw [upd_same] at q
  cases q
  exact ⟨ho, I.hok b _ e⟩
 ·rw [upd_ne hb] at q
  exact (I.hok b u q).stay (fun _ _ _ k => k) (fun c k => nx c _ k fun z => by rw [z, e] at k; cases k) fun c xs k => nx c _ k fun z => by rw [z, e] at k; cases k
def Itd (d : Addr) (o : Obj) (kvs : List (Key × V)) : It :=
 ⟨fun i H => H d = some (.frz o (.dK kvs)) ∧ i < kvs.length,
  fun i H v H' => ∃ p k x, kvs[i]? = some (k, x) ∧ v = .ref p ∧ H p = none ∧ H' = upd H p (.tup [kV k, x]),
  fun i H => H d = some (.frz o (.dK kvs)) ∧ kvs.length ≤ i⟩
theorem frz_at {P : Program} {w : World} {H : Hp} {h : Heap} {d : Addr} {o : Obj} {kvs : List (Key × V)} {es0 : Array DictEntry} {ep : Nat} (ok : HOk P w H h) (e : H d = some (.frz o (.dK kvs))) (he : o.data = .dict es0 ep) :
  (d == sysModules) = false ∧ ∃ vs, KV kvs vs ∧ h.DictAt (mixKind P w) d vs ep ∧ kvs.length ≤ sizeLine := by
 obtain ⟨h1, z, hd, vs, rel, o', es, ep', ho, hx, hdat, hk, hp, hn⟩ := ok d _ e
 rw [h1] at ho
 cases ho
 rw [he] at hdat
 cases hdat
 exact ⟨hd, vs, rel, ⟨o, es0, h1, hx, he, hk, hp, hn⟩, z⟩
theorem entry_iter_items : entryFor table "dict_itemiterator.__iter__" = some Builtin.«dict_keyiterator.__iter__» :=
 entryFor_alias (id' := "dict_keyiterator.__iter__") (by kernel_rfl) (by first | rfl | decide +kernel | (unfold String.splitOn; simp +decide [String.splitOnAux])) (by decide +kernel) (by kernel_rfl)
theorem iter_items {P : Program} {w : World} {A : Around} {E : Value → Shared → Prop} {s : Shared} {it d : Addr} {i n ep : Nat} {ok ov : Value} {Q : Value → Shared → Prop} (st : IsItemIter s.heap it d i n ep ok ov) (h : Q (.ref it) s) : wpAny (model P w) A (pyIter (.ref it)) Q E s := by
 have hT : s.TypeIs (.ref it) "dict_itemiterator" := ⟨_, st, rfl⟩
 refine wpAny_pyIter_slot hT F.slot_dict_itemiterator_iter (wpAny_call_entry F.slot_dict_itemiterator_iter hT entry_iter_items ?_ (F.args_dict_itemiterator_iter_1 _))
 show wpAny _ _ (ret (.ref it)) _ _ s
 exact wpAny_pure ⟨_, rfl, "dict_itemiterator", _, hT, F.slot_dict_itemiterator_next.lookup, h⟩
theorem turn_items {P : Program} {w : World} {K : Frag} {es : List Expr} {k : Nat} {pos : Pos} (d it : Addr) (o : Obj) (kvs : List (Key × V)) {es0 : Array DictEntry} {ep : Nat} (he : o.data = .dict es0 ep) (hne : it ≠ d) :
  Turn P w K (.Tuple es k pos) (Itd d o kvs) [it] it (fun i h => ∃ ok ov, IsItemIter h it d i kvs.length ep ok ov) where
 mem := by simp
 obj := fun i h st b hb => by
  have e : b = it := by simpa using hb
  subst e
  obtain ⟨ok, ov, st⟩ := st
  exact ⟨_, st, fun v z => by cases z⟩
 keep := fun i h h' st k => by
  obtain ⟨ok, ov, st⟩ := st
  exact ⟨ok, ov, k it (by simp) _ st⟩
 item := by
  intro X hP hw hK hc i pins s σ H E I hf st hg
  subst hP hw hK
  obtain ⟨ok, ov, st⟩ := st
  obtain ⟨fz, hi⟩ := hg
  obtain ⟨hd, vs, rel, da, _⟩ := frz_at I.hok fz he
  have ek : kvs[i]? = some kvs[i] := gE hi
  obtain ⟨⟨k', u⟩, ev, e1, ru⟩ := paired_get rel ek
  have lv := rel.length
  rw [lv] at st
  refine wpAny_pyNext_items_item st da ev fun key h' hkey out tup sz kk => ?_
  refine ⟨_, rfl, wpAny_letOwnedTupleGo_items (s := { s with heap := h' }) out fun h'' it'' sb => ?_⟩
  have hsz : ∀ c o, s.heap.get? c = some o → s.heap.objs.size ≠ c := fun c o e => Nat.ne_of_gt (Heap.lt_size e)
  have tz : s.heap.objs.size ≠ it := hsz _ _ st
  have nz : ∀ c, c ≠ it → ∀ o, h'.get? c = some o → h''.get? c = some o := fun c hc o e => (sb.2 c hc).trans e
  have hn := I.hok.fresh (Nat.le_refl s.heap.objs.size)
  have e1' : kvs[i].1 = k' := e1
  have I2 : Inv X pins σ (upd H s.heap.objs.size (.tup [kV kvs[i].1, kvs[i].2])) { s with heap := h'', toks := s.toks } :=
   Inv.turnedT I (fun b o hb e => nz b (by simpa using hb) o (kk b o (by simpa using hb) e)) hf (Nat.le_refl _) (by show 2 ≤ sizeLine; decide) (its := [key, u]) (.cons (by rw [e1']; exact key_rel hkey) (.cons ru .nil)) ⟨_, nz _ tz _ tup, rfl, _, rfl⟩
  refine ⟨.ref s.heap.objs.size, _, I2, rfl, ⟨s.heap.objs.size, kvs[i].1, kvs[i].2, ek, rfl, hn, rfl⟩, ⟨_, _, by rw [lv]; exact it''⟩, fun b hb => ?_⟩
  have eb : b = it := by simpa using hb
  rw [upd_ne (by rw [eb]; exact Ne.symm tz)]
  exact (hf b hb).1
 done := by
  intro X hP hw hK hc i pins s σ H E I hf st hg
  subst hP hw hK
  obtain ⟨ok, ov, st⟩ := st
  obtain ⟨fz, hi⟩ := hg
  obtain ⟨hd, vs, rel, da, _⟩ := frz_at I.hok fz he
  have lv := rel.length
  rw [lv] at st
  obtain ⟨f0, f1, f2, f3, f4, f5⟩ := hf it (by simp)
  exact wpAny_pyNext_items_end (I.ok.hd hc) st da (List.getElem?_eq_none (by omega)) fun h' eb => ⟨rfl, I.turned (t' := s.toks) (fun b o hb e => eb b o hb e) f0 f1 f3 f4 f5⟩
 self := fun _ _ _ _ _ st h => by
  obtain ⟨ok, ov, st⟩ := st
  exact iter_items st h
def iItems (te : TE) : TI := fun σ H R => te σ H fun x H1 => ∃ d kvs, x = .ref d ∧ H1 d = some (.dK kvs) ∧ ∀ o, R (Itd d o kvs) (upd H1 d (.frz o (.dK kvs)))
theorem pi_items {e : Expr} {te : TE} {apos cpos : Pos} {es : List Expr} {k : Nat} {tpos : Pos} (ho : PE X e te) (hbase : attributeBase e "items" X.env (eval e X.env) = eval e X.env := by rfl) (hline : (apos.endLine == cpos.line) = true := by rfl) :
  PI X (.Tuple es k tpos) (.Call (.Attribute e "items" apos) [] [] cpos) (iItems te) := by
 intro pins s σ H R I h
 refine wpAny_Call_method0_late hbase hline (thn (ho pins s σ H _ I h) fun v s1 ⟨x, H1, I1, r1, q1⟩ => ?_)
 obtain ⟨d, kvs, rfl, e, q⟩ := q1
 cases r1
 obtain ⟨z, hd, vs, rel, o, es1, ep, ho1, hx, hdat, hk, hp, hn⟩ := dk_of I1.hok e
 obtain ⟨h1, h2⟩ := tyV_is (T := "dict") I1 (show RelV (.ref d) (.ref d) from rfl) (.inr (.inr (.inl ⟨rfl, .inl ⟨kvs, e⟩⟩)))
 have da : s1.heap.DictAt (mixKind X.prog X.w) d vs ep := ⟨o, es1, ho1, hx, hdat, hk, hp, hn⟩
 have lv := rel.length
 refine ⟨"dict", "dict.items", F.plainAttrs_dict, F.slot_dict_items, F.type_dict_items, h1, h2, Calls.callWith_builtin rfl (PySem.evalArgs_none ?_)⟩
 refine call_meetsIn F.slot_dict_items h1 F.entry_dict_items (F.args_dict_items_1 _) (meets_dict_items (mixKind X.prog X.w) d hd) ⟨⟨vs, da.dictOf⟩, ?_⟩
 have I2 := Inv.freeze I1 e ho1
 have da2 : (s1.heap.push { cls := .type "dict_items", data := .fields #[.ref d] }).DictAt (mixKind X.prog X.w) d vs ep := da.at' fun o e => Heap.get?_push_of_some _ e
 show wpAny (model X.prog X.w) X.A (pyIter (.ref s1.heap.objs.size)) _ _ _
 refine wpAny_pyIter_items (s := { s1 with heap := s1.heap.push { cls := .type "dict_items", data := .fields #[.ref d] } }) ⟨_, Heap.get?_push_size _ rfl, rfl, rfl⟩ da2 ?_
 have sz : (s1.heap.push { cls := .type "dict_items", data := .fields #[.ref d] }).objs.size = s1.heap.objs.size + 1 := Heap.size_push ..
 have ne : (s1.heap.push { cls := .type "dict_items", data := .fields #[.ref d] }).objs.size ≠ d := by
  rw [sz]
  exact Ne.symm (Nat.ne_of_lt (Nat.lt_succ_of_lt (Heap.lt_size ho1)))
 have I3 : Inv X pins σ (upd H1 d (.frz o (.dK kvs))) { s1 with heap := (s1.heap.push { cls := .type "dict_items", data := .fields #[.ref d] }).push { cls := .type "dict_itemiterator", data := .fields #[.none, .bool false, .ref d, .int 0 0, .int vs.length 0, .int ep 0, .none, .none] } } := I2.kept (t' := s1.toks) fun b o e => Heap.get?_push_of_some _ (Heap.get?_push_of_some _ e)
 refine ⟨_, [_], _, _, _, rfl, I3, turn_items d _ o kvs hdat ne, ⟨_, _, by rw [lv]; exact Heap.get?_push_size _ rfl⟩, fun b hb => ?_, q o⟩
 have eb : b = (s1.heap.push { cls := .type "dict_items", data := .fields #[.ref d] }).objs.size := by simpa using hb
 have le : s1.heap.objs.size ≤ b := by rw [eb, sz]; exact Nat.le_succ _
 exact I2.fpOk le (I2.hok.fresh le)
end
end Ty
set_option maxHeartbeats 4000000
namespace Ty
def ev : List Int → (Nat → Rat) → Rat
 | [], _ => 0
 | a :: r, z => (a : Rat) * z 0 + ev r (fun i => z (i + 1))
def csum : List Rat → List (List Int) → Nat → Rat
 | c :: y, o :: os, j => c * ((o.getD j 0 : Int) : Rat) + csum y os j
 | _, _, _ => 0
def Comb (os : List (List Int)) (l : List Int) : Prop := ∃ y : List Rat, y.length = os.length ∧ ∀ j, ((l.getD j 0 : Int) : Rat) = csum y os j
def zOf (y : List Rat) : Nat → Rat := fun i => if i < y.length then y.getD i 0 else -1
structure Clr (line lead new : List Int) (c : Nat) : Prop where
 len : new.length = line.length
 nought : new.getD c 0 = 0
 lin : ∃ s t u : Int, s ≠ 0 ∧ t ≠ 0 ∧ ∀ j, s * new.getD j 0 = t * line.getD j 0 - u * lead.getD j 0
end Ty
set_option maxHeartbeats 4000000
namespace Ty
open PySem PySem.Spec PyProof.Rows L2
def Itn (K : Frag) (a : Addr) : It :=
 ⟨fun i H => ∃ xs x, SqL K H a xs ∧ xs[i]? = some x,
  fun i H v H' => ∃ p x, (∀ xs, SqL K H a xs → xs[i]? = some x) ∧ v = .ref p ∧ H p = none ∧ H' = upd H p (.tup [.int (i : Int), x]),
  fun i H => ∃ xs, SqL K H a xs ∧ xs.length ≤ i⟩
section
variable {X : Cx}
def iEnum (K : Frag) (ta : TA) : TI := fun σ H R => ta σ H fun vs H1 => ∃ a, vs = [.ref a] ∧ (∃ xs, SqL K H1 a xs) ∧ R (Itn K a) H1
theorem any_range (bs : List Bool) : (List.range bs.length).any (fun i => (bs[i]?).getD true) = bs.any id := by
 rw [Bool.eq_iff_iff, List.any_eq_true, List.any_eq_true]
 constructor
 ·rintro ⟨i, hi, h⟩
  have hi' : i < bs.length := List.mem_range.mp hi
  rw [gE hi'] at h
  exact ⟨bs[i], List.getElem_mem hi', h⟩
 ·rintro ⟨b, hb, h⟩
  obtain ⟨i, hi⟩ := List.getElem?_of_mem hb
  exact ⟨i, List.mem_range.mpr (List.getElem?_eq_some_iff.mp hi).1, by rw [hi]; exact h⟩
def rAny (K : Frag) : List V → Hp → VK → Prop := fun xs H Q => ∃ (p : Addr) (bs : List Bool), xs = [.ref p] ∧ SqL K H p (bs.map V.bl) ∧ Q (.bl (bs.any id)) H
theorem call_anyB (hc : X.calm = true) : CallR X (.builtin "any") (rAny X.K) := by
 intro pins s σ H xs us Q I r h
 obtain ⟨p, bs, rfl, hq, q⟩ := h
 obtain ⟨u, rfl, r1⟩ := vals1 r
 cases r1
 obtain ⟨its, rv, pl, hz⟩ := I.list hq
 refine call_any_walk (wpAny_pyIter_list pl.isList ?_)
 have hne : p ≠ s.heap.objs.size := by obtain ⟨o, ho, _⟩ := pl.isList; exact Nat.ne_of_lt (Heap.lt_size ho)
 have I1 : Inv X pins σ H { s with heap := s.heap.push { cls := .type "list_iterator", data := .fields #[.ref p, .int 0 0] } } := I.kept (t' := s.toks) fun b o e => Heap.get?_push_of_some _ e
 obtain ⟨f0, f1, f2, f3, f4, f5⟩ := I.fpOk (H' := H) (Nat.le_refl s.heap.objs.size) (I.hok.fresh (Nat.le_refl _))
 have hl : its.length = bs.length := by rw [← rv.length, List.length_map]
 refine ⟨s.heap.objs.size, _, _, _, _, _, fun i => (bs[i]?).getD true, rfl, Walks.list (A := X.A.in1) (I.ok.hd hc) s.heap.objs.size p hne its.toArray, ⟨⟨_, Heap.get?_push_size _ rfl, rfl, rfl⟩, pl.isList.at fun o e => Heap.get?_push_of_some _ e⟩, ?_, fun h' tk kk => ?_⟩
 ·intro i v s' Q' E' hv hq'
  have hv' : its[i]? = some v := by simpa using hv
  have hi : i < bs.length := by rw [← hl]; exact (List.getElem?_eq_some_iff.mp hv').1
  have eb : (bs.map V.bl)[i]? = some (.bl bs[i]) := by rw [List.getElem?_map, gE hi]; rfl
  obtain ⟨u, eu, ru⟩ := rv.get eb
  rw [hv'] at eu
  cases eu
  cases ru
  dsimp only at hq'
  rw [gE hi] at hq'
  exact wpAny_truthy_bool hq'
 ·refine ⟨.bl (bs.any id), H, I1.turned (t' := tk) (it := s.heap.objs.size) (fun b o hb e => kk b o (by simpa using hb) e) f0 f1 f3 f4 f5, ?_, q⟩
  show _ = _
  rw [← any_range bs, List.size_toArray, hl]
theorem b_any : bootBuiltins "any" = some (.builtin "any") := by decide +kernel
end
theorem for_items {d : Addr} {o : Obj} {kvs : List (Key × V)} {g : TG} {tb : TS} {D : Ends} {σ : L2.St} {H : Hp} (Pv : Nat → L2.St → Hp → Prop) (h0 : Pv 0 σ H) (hl : ∀ i σ H, i ≤ kvs.length → Pv i σ H → H d = some (.frz o (.dK kvs)))
  (hs : ∀ i k x σ H p, kvs[i]? = some (k, x) → Pv i σ H → H p = none → g (.ref p) σ (upd H p (.tup [kV k, x])) fun σ2 H2 => tb { D with nx := Pv (i + 1), ct := Pv (i + 1), bk := D.nx } σ2 H2) (hd : ∀ σ H, Pv kvs.length σ H → D.nx σ H) :
  ∃ W : Nat → Nat → L2.St → Hp → Prop, (∃ m, W 0 m σ H) ∧ ∀ i m σ H, W i m σ H →
   ((Itd d o kvs).stop i H ∧ D.nx σ H) ∨ ((Itd d o kvs).go i H ∧ ∃ N : L2.St → Hp → Prop, (∀ σ' H', N σ' H' → ∃ m', m' < m ∧ W (i + 1) m' σ' H') ∧ ∀ x H', (Itd d o kvs).yld i H x H' → g x σ H' fun σ2 H2 => tb { D with nx := N, ct := N, bk := D.nx } σ2 H2) := by
 refine ⟨fun i m σ H => m = kvs.length - i ∧ i ≤ kvs.length ∧ Pv i σ H, ⟨kvs.length, by simp, Nat.zero_le _, h0⟩, ?_⟩
 rintro i m σ H ⟨rfl, hi, p⟩
 have q := hl i σ H hi p
 by_cases hlt : i < kvs.length
 ·refine .inr ⟨⟨q, hlt⟩, Pv (i + 1), fun σ' H' z => ⟨kvs.length - (i + 1), by omega, rfl, by omega, z⟩, fun x H' y => ?_⟩
  obtain ⟨pp, k, x', y1, rfl, np, rfl⟩ := y
  exact hs i k x' σ H pp y1 p np
 ·have e : i = kvs.length := by omega
  subst e
  exact .inl ⟨⟨q, Nat.le_refl _⟩, hd σ H p⟩
end Ty
set_option maxHeartbeats 4000000
namespace Ty
open PySem PySem.Spec PyProof.Rows L2
open Builtin.Int (intBits)
section
variable {X : Cx}
def CMulS (i j : Int) : Prop := intBits i + intBits j ≤ 134217728
def rIsiT (K : Frag) : List V → Hp → VK → Prop := fun xs H Q => ∃ p ys, xs = [.ref p, .ty "tuple"] ∧ SqT K H p ys ∧ Q (.bl true) H
theorem call_isiT : CallR X (.builtin "isinstance") (rIsiT X.K) := by
 intro pins s σ H xs us Q I r h
 obtain ⟨p, ys, rfl, hq, q⟩ := h
 obtain ⟨u, w, rfl, r1, r2⟩ := vals2 r
 obtain rfl := cls_rel (c := .ty "tuple") rfl r2
 cases r1
 obtain ⟨its, rv, ⟨o, h1, h2, _⟩, _⟩ := I.tuple hq
 have e : PySem.W.kitOne X.K (.type "tuple") (clsV (.ty "tuple")) = some true := by unfold PySem.W.kitOne; rw [if_pos (by decide)]
 exact PySem.W.kia_one PySem.W.kitx_tuple I.kIn ⟨o, h1, h2⟩ e (fun z => nomatch z) fun tk => ⟨.bl true, H, I.tok tk, rfl, q⟩
end
theorem Same.seqT {K : Frag} {H H' : Hp} {a : Addr} {xs : List V} (e : Same H H') (h : SqT K H a xs) : SqT K H' a xs := by
 rcases h with (h | ⟨o, h⟩) | h
 ·exact .inl (.inl (e _ _ h))
 ·exact .inl (.inr ⟨o, e _ _ h⟩)
 ·exact .inr h
section
variable {D : Addr} {te : TE} {cap : L2.St} {H1 : Hp} {Q : VK}
end
def NmK (K : Frag) (H : Hp) (v : V) (q : Int × Int) : Prop := ∃ p, v = .ref p ∧ SqT K H p [.int q.1, .int q.2]
theorem NmK.same {K : Frag} {H H' : Hp} {v : V} {q : Int × Int} (h : NmK K H v q) (s : Same H H') : NmK K H' v q := by
 obtain ⟨p, e, k⟩ := h
 exact ⟨p, e, Ty.Same.seqT s k⟩
def NmsK (K : Frag) (H : Hp) (us : List V) (qs : List (Int × Int)) : Prop := us.length = qs.length ∧ ∀ (i : Nat) (u : V) (q : Int × Int), us[i]? = some u → qs[i]? = some q → NmK K H u q
def RowK (K : Frag) (H : Hp) (a : Addr) (qs : List (Int × Int)) : Prop := ∃ us, SqL K H a us ∧ NmsK K H us qs
def sumTo : Nat → (Nat → Rat) → Rat
 | 0, _ => 0
 | n + 1, f => f 0 + sumTo n (fun i => f (i + 1))
end Ty
set_option maxHeartbeats 4000000
namespace Ty
open PySem PySem.Spec PyProof.Rows L2
section
variable {X : Cx}
def iItemsR (te : TE) : TI := fun σ H R => te σ H fun x H1 => ∃ d kvs, x = .ref d ∧ Rd H1 d (.dK kvs) ∧ ∀ o, R (Itd d o kvs) (upd H1 d (.frz o (.dK kvs)))
end
section
variable {D : Addr} {te : TE} {cap : L2.St} {H1 : Hp} {Q : VK}
end
end Ty
set_option maxHeartbeats 4000000
namespace Ty
open PySem PySem.Spec PyProof.Rows L2
section
variable {X : Cx}
def rSorted (K : Frag) : List V → Hp → VK → Prop := fun xs H Q => ∃ (p : Addr) (ns : List Int), xs = [.ref p] ∧ SqL K H p (ns.map V.int) ∧ ns.length < 64 ∧ ∀ (l : Addr) (ms : List Int), H l = none → ms.Perm ns → ms.Pairwise (· ≤ ·) → Q (.ref l) (upd H l (.lst (ms.map V.int)))
def tListR (ta : TA) : TE := fun σ H Q => ta σ H fun vs H1 => ∃ n : Nat, vs = [.int (n : Int)] ∧ n ≤ 1000 ∧ ∀ l, H1 l = none → Q (.ref l) (upd H1 l (.lst ((List.range n).map fun (i : Nat) => V.int (i : Int))))
def Itv (d : Addr) (o : Obj) (kvs : List (Key × V)) : It :=
 ⟨fun i H => H d = some (.frz o (.dK kvs)) ∧ i < kvs.length,
  fun i H v H' => H' = H ∧ ∃ k, kvs[i]? = some (k, v),
  fun i H => H d = some (.frz o (.dK kvs)) ∧ kvs.length ≤ i⟩
def iVals (te : TE) : TI := fun σ H R => te σ H fun x H1 => ∃ d o kvs, x = .ref d ∧ H1 d = some (.frz o (.dK kvs)) ∧ R (Itv d o kvs) H1
def tClear (H0 : Hp) (te : TE) : TE := fun σ H Q => te σ H fun x H1 => ∃ d o kvs, x = .ref d ∧ H1 d = some (.frz o (.dK kvs)) ∧ H0 d = none ∧ Q .non (upd H1 d (.dK []))
end
end Ty
set_option maxHeartbeats 4000000
namespace Ty
open PySem PySem.Spec PyProof.Rows L2
section
variable {X : Cx}
theorem vals_rev {xs : List V} {us : List Value} (h : Vals xs us) : Vals xs.reverse us.reverse := by
 have hl := h.length
 refine paired_of (by simp [hl]) fun i a b e1 e2 => ?_
 have hi : i < xs.length := by
  have := (List.getElem?_eq_some_iff.mp e1).1
  simpa using this
 rw [List.getElem?_reverse hi] at e1
 rw [List.getElem?_reverse (by omega), ← hl] at e2
 obtain ⟨b', e3, r⟩ := paired_get h e1
 rw [e2] at e3
 cases e3
 exact r
def tRev (K : Frag) (te ts : TE) : TE := fun σ H Q => te σ H fun x H1 => ts σ H1 fun y H2 => y = .int (-1) ∧ ∃ l xs, x = .ref l ∧ SqL K H2 l xs ∧ ∀ p, H2 p = none → Q (.ref p) (upd H2 p (.lst xs.reverse))
theorem pe_rev {K : Frag} {e st : Expr} {te ts : TE} {p2 pos : Pos} (hK : X.K = K) (he : PE X e te) (hs : PE X st ts) : PE X (.Subscript e (.Slice none none (some st) p2) pos) (tRev K te ts) := by
 subst hK
 intro pins s σ H Q I h
 refine Subscript_ (thn (he pins s σ H _ I h) fun v s1 ⟨x, H1, I1, r1, q1⟩ => ?_)
 refine wpAny_Slice ?_
 rw [evalPart_none]
 refine wpAny_pure (wpAny_pure ?_)
 rw [evalPart_some]
 refine thn (hs pins s1 σ H1 _ I1 q1) fun vk s3 ⟨y, H3, I3, ry, q3⟩ => ?_
 obtain ⟨rfl, l, xs, rfl, hx, q⟩ := q3
 obtain ⟨t, rfl⟩ := ry
 cases r1
 have I4 : Inv X pins σ H3 { s3 with heap := s3.heap.push { cls := .type "slice", data := .fields #[.none, .none, .int (-1) t] } } := I3.kept (t' := s3.toks) fun b ob q => Heap.get?_push_of_some _ q
 obtain ⟨its, r, ht, hz⟩ := I4.list hx
 have hlen := r.length
 show wpAny (model X.prog X.w) X.A (subscriptTail e (.Slice none none (some st) p2) (.ref l) (.ref s3.heap.objs.size)) (EP X pins σ Q) X.xe { s3 with heap := s3.heap.push { cls := .type "slice", data := .fields #[.none, .none, .int (-1) t] } }
 refine tail_any (ops := [.ref l, .ref s3.heap.objs.size]) ht.isList.typeIs slot_list_getitem.lookup ?_ (by with_unfolding_all rfl)
 refine wpAny_getItem_list_slice ht.isList (Heap.IsSliceOf.new ..) .none .none (.int (-1) t) (by decide) ?_ (by rw [List.size_toArray] <;> omega)
 rw [PySem.W.krv_pick]
 refine ⟨.ref _, _, I4.laid (t' := s3.toks) (o := .lst xs.reverse) (fun b ob q => Heap.get?_push_of_some _ q) (Nat.le_refl _) ?_, rfl, q _ (I4.hok.fresh (Nat.le_refl _))⟩
 exact ⟨by rw [List.length_reverse]; exact hz, its.reverse, 0, vals_rev r, Heap.get?_push_size _ rfl⟩
def rLenD : List V → Hp → VK → Prop := fun xs H Q => ∃ (p : Addr) (kvs : List (Key × V)), xs = [.ref p] ∧ Rd H p (.dK kvs) ∧ Q (.int (kvs.length : Int)) H
theorem call_lenD : CallR X (.builtin "len") rLenD := by
 intro pins s σ H xs us Q I r h
 obtain ⟨p, kvs, rfl, hq, q⟩ := h
 obtain ⟨u, rfl, r1⟩ := vals1 r
 cases r1
 exact d_len I hq fun t s' I' => ⟨.int _, H, I', ⟨t, rfl⟩, q⟩
end
section
variable {D : Addr} {te : TE} {cap : L2.St} {H1 : Hp} {Q : VK}
end
end Ty
set_option maxHeartbeats 4000000
namespace Ty
open PySem PySem.Spec PyProof.Rows L2
section
variable {X : Cx}
theorem Inv.thawG {pins : List (Addr × Obj)} {σ : L2.St} {H : Hp} {s : Shared} {d : Addr} {u : HO} {o : Obj} (I : Inv X pins σ H s) (e : H d = some (.frz o u)) (n : ∀ o' u', X.H₀ d ≠ some (.frz o' u')) (nt : ∀ xs, u ≠ .tup xs) : Inv X pins σ (upd H d u) s := by
 have nx : ∀ b u', H b = some u' → b ≠ d → upd H d u b = some u' := fun b u q n => by rw [upd_ne n]; exact q
 have nn : ∀ b, H b = none → upd H d u b = none := fun b q => by rw [upd_ne (fun z => by rw [z, e] at q; cases q)]; exact q
 refine ⟨I.ok, I.os, I.bare, ⟨I.base.keep, I.base.slot, fun b ob q z hx => nn b (I.base.free b ob q z hx), I.base.there, fun b xs q => ?_, fun b ob u' q => ?_, fun b ps q => ?_⟩, I.loc, I.cell, nn _ I.free, fun x c q => nn _ (I.freeC x c q), fun p hp => ?_, ?_, I.len⟩
 ·have z := I.base.tups b xs q
  exact nx b _ z fun y => by rw [y, e] at z; cases z
 ·have z := I.base.frzs b ob u' q
  exact nx b _ z fun y => by rw [y] at q; exact n _ _ q
 ·obtain ⟨m, z⟩ := I.base.tbls b ps q
  exact ⟨m, nx b _ z fun y => by rw [y, e] at z; cases z⟩
 ·obtain ⟨a1, a2, a3⟩ := I.pin p hp
  exact ⟨a1, nn _ a2, a3⟩
 ·have st : ∀ {b u'}, ObjOk X.prog X.w H s.heap b u' → ObjOk X.prog X.w (upd H d u) s.heap b u' := fun {b u'} k => k.stay (fun _ _ _ z => z) (fun c z => nx c _ z fun y => by rw [y, e] at z; cases z) fun c xs z => nx c _ z fun y => by rw [y, e] at z; cases z
  intro b u' q
  by_cases hb : b = d
  ·subst hb
   rw [upd_same] at q
   cases q
   exact st (I.hok b _ e).2
  ·rw [upd_ne hb] at q
   exact st (I.hok b u' q)
def tThaw (H0 : Hp) (t : TS) : TS := fun D σ H => t { D with nx := fun σ' H' => ∃ d o kvs, H' d = some (.frz o (.dK kvs)) ∧ (∀ o' u', H0 d ≠ some (.frz o' u')) ∧ D.nx σ' (upd H' d (.dK kvs)) } σ H
theorem ps_thaw {st : Stmt} {t : TS} (h : PS X st t) : PS X st (tThaw X.H₀ t) := by
 intro pins s σ H D I q
 refine wpAny_mono (h pins s σ H _ I q) (fun f s' z => ?_) fun _ _ z => z
 cases f with
 | next =>
  obtain ⟨σ', H', I', d, o, kvs, e, n, k⟩ := z
  exact ⟨σ', _, Inv.thawG I' e n (fun _ z => nomatch z), k⟩
 | brk => exact z
 | cont => exact z
 | ret u => exact z
def Itk (d : Addr) (o : Obj) (kvs : List (Key × V)) : It :=
 ⟨fun i H => H d = some (.frz o (.dK kvs)) ∧ i < kvs.length,
  fun i H v H' => H' = H ∧ ∃ k x, kvs[i]? = some (k, x) ∧ v = kV k,
  fun i H => H d = some (.frz o (.dK kvs)) ∧ kvs.length ≤ i⟩
def iKeys (te : TE) : TI := fun σ H R => te σ H fun x H1 => ∃ d kvs, x = .ref d ∧ H1 d = some (.dK kvs) ∧ ∀ o, R (Itk d o kvs) (upd H1 d (.frz o (.dK kvs)))
def rDictD : List V → Hp → VK → Prop := fun xs H Q => ∃ (p : Addr) (kvs : List (Key × V)), xs = [.ref p] ∧ Rd H p (.dK kvs) ∧ ∀ l, H l = none → Q (.ref l) (upd H l (.dK kvs))
end
end Ty
set_option maxHeartbeats 4000000
namespace Ty
open PySem PySem.Spec PyProof.Rows L2
section
variable {prog : Program} {w : World} {KK : Type} [DecidableEq KK] {knd : KeyKind prog w KK} {A : Around} {E : Value → Shared → Prop} {s : Shared}
def EqIn (prog : Program) (w : World) (A : Around) (s : Shared) (y x : Value) : Prop := ∀ (E : Value → Shared → Prop) (Q : Bool → Shared → Prop), Q true s → wpAny (model prog w) A (eqBool y x) Q E s
open MeetsSeq MeetsSeq2 MeetsSeq3 SeqRoads2 in
open MeetsSeq MeetsSeq2 MeetsSeq3 SeqRoads2 in
end
section
variable {X : Cx}
def SameD (H : Hp) (u v : V) : Prop := ∃ a b kvs, u = .ref a ∧ v = .ref b ∧ Rd H a (.dK kvs) ∧ Rd H b (.dK kvs) ∧ ∀ kv ∈ kvs, flatV kv.2 = true ∨ ∃ c, kv.2 = .ref c
def rEqLD (K : Frag) : R2 := fun x y H Q => ∃ p p' xs ys, x = .ref p ∧ y = .ref p' ∧ SqL K H p xs ∧ SqL K H p' ys ∧ xs.length = ys.length ∧ (∀ (j : Nat) (u v : V), xs[j]? = some u → ys[j]? = some v → SameD H u v) ∧ Q (.bl true) H
end
end Ty
set_option maxHeartbeats 4000000
namespace Ty
open PySem PySem.Spec PyProof.Rows L2
structure FunD (K : Frag) (x qual : Str) (st : Stmt) (f : Addr) (fd : FuncData) : Prop where
 ex : ∃ (dV oc : Value) (od : Option Addr) (kV doc pm : Value) (an : Option Addr) (cdv ct : Value) (osl : Array (Option Value)),
  fd = fnOf x qual (defArgs st) (defBody st) (defScope st) dV kV doc pm an cdv ct ∧ K.lookup f = some ⟨oc, od, .func fd, osl⟩ ∧ codeIn K cdv qual = true
 kp : keepIn K (.ref f) = true
section
variable {P : Program} {w : World} {K : Frag} {mg : Str → Option Value} {base : Heap} {CX : CXT}
theorem fun_mkD {x qual : Str} {st : Stmt} {f : Addr} {dV oc : Value} {od an : Option Addr} {osl : Array (Option Value)} {kV doc pm cdv ct : Value} (l : K.lookup f = some ⟨oc, od, .func (fnOf x qual (defArgs st) (defBody st) (defScope st) dV kV doc pm an cdv ct), osl⟩)
  (c : codeIn K cdv qual = true) (k : keepIn K (.ref f) = true) : FunD K x qual st f (fnOf x qual (defArgs st) (defBody st) (defScope st) dV kV doc pm an cdv ct) := ⟨⟨dV, oc, od, kV, doc, pm, an, cdv, ct, osl, rfl, l, c⟩, k⟩
theorem fun_okF {name qual : Str} {st : Stmt} {f : Addr} {fd : FuncData} {N ps : List Str} {k : Nat} {sp : Sp} (F : Fun K name qual st f fd) (S : FnScope N ps (defScope st)) (len : ∀ vs H Q E, sp vs H Q E → vs.length = ps.length)
  (hbody : ∀ (cdv : Value) (A : Around) (outer : List Env) (s : Shared) (H : Hp) (vs : List V) (Q : VK) (E : XK), Room k (A.deeper (envOfC qual (defScope st) s.heap.objs.size f cdv)) → sp vs H Q E →
   ∃ t, PSs (cxr P w K mg base N qual (defScope st) f cdv A outer s H E).nox (defBody st) t ∧ t { nx := fun _ H' => Q .non H', rt := Q } (start N vs) H) : FnOk P w K mg base (CXr P w) (k + 1) f fd ps sp := by
 obtain ⟨oc, od, kV, doc, pm, an, cdv, ct, osl, rfl, lk, hcd⟩ := F.ex
 exact fn_of lk hcd S len fun A outer s H vs Q E hr hsp => by
  obtain ⟨t, h, q⟩ := hbody cdv A outer s H vs Q E hr hsp
  exact ⟨t, h.nox, q⟩
theorem fun_okFD {name qual : Str} {st : Stmt} {f : Addr} {fd : FuncData} {N ps : List Str} {k : Nat} {sp : Sp} (F : FunD K name qual st f fd) (S : FnScope N ps (defScope st)) (len : ∀ vs H Q E, sp vs H Q E → vs.length = ps.length)
  (hbody : ∀ (cdv : Value) (A : Around) (outer : List Env) (s : Shared) (H : Hp) (vs : List V) (Q : VK) (E : XK), Room k (A.deeper (envOfC qual (defScope st) s.heap.objs.size f cdv)) → sp vs H Q E →
   ∃ t, PSs (cxr P w K mg base N qual (defScope st) f cdv A outer s H E).nox (defBody st) t ∧ t { nx := fun _ H' => Q .non H', rt := Q } (start N vs) H) : FnOk P w K mg base (CXr P w) (k + 1) f fd ps sp := by
 obtain ⟨dV, oc, od, kV, doc, pm, an, cdv, ct, osl, rfl, lk, hcd⟩ := F.ex
 exact fn_of lk hcd S len fun A outer s H vs Q E hr hsp => by
  obtain ⟨t, h, q⟩ := hbody cdv A outer s H vs Q E hr hsp
  exact ⟨t, h.nox, q⟩
end
structure MtdOkD (P : Program) (w : World) (K : Frag) (mg : Str → Option Value) (base : Heap) (CX : CXT) (k : Nat) (C : Addr) (m : Str) (ps : List Str) (ds : List Value) (sp : Sp) : Prop where
 ex : ∃ (f : Addr) (fd : FuncData), Cls K C ∧ Meth K C m f ∧ FnOk P w K mg base CX k f fd ps sp ∧ Binds K fd ps ds
section
variable {X : Cx} {CX : CXT} {k : Nat} {E : XK} {m : Str} {pos apos : Pos} {e o : Expr} {es : List Expr} {ta : TE} {t : TA}
def tMtdD (P : Program) (w : World) (K : Frag) (mg : Str → Option Value) (base : Heap) (CX : CXT) (k : Nat) (m : Str) (E : XK) (ta : TE) (t : TA) : TE := fun σ H Q => ta σ H fun x H1 => ∃ a C dx fs ps sp, x = .ref a ∧ H1 a = some (.ins C dx fs) ∧ fs.lookup m = none ∧
 MtdOkD P w K mg base CX k C m ps [.none] sp ∧ t σ H1 fun vs H2 => sp (x :: vs ++ [.non]) H2 Q E
end
theorem valV_mem {κ : Type} [DecidableEq κ] {k : κ} {v : V} : ∀ {kvs : List (κ × V)}, valV kvs k = some v → (k, v) ∈ kvs
 | p :: r, h => by
  by_cases e : p.1 = k
  ·rw [valV_pos e] at h
   cases h
   subst e
   exact List.mem_cons_self ..
  ·rw [valV_neg e] at h
   exact List.mem_cons_of_mem _ (valV_mem h)
theorem valV_none {κ : Type} [DecidableEq κ] {k : κ} : ∀ {kvs : List (κ × V)}, k ∉ kvs.map (·.1) → valV kvs k = none
 | [], _ => rfl
 | p :: r, h => by
  rw [List.map_cons, List.mem_cons, not_or] at h
  rw [valV_neg (fun e => h.1 e.symm)]
  exact valV_none h.2
theorem valV_some {κ : Type} [DecidableEq κ] {k : κ} : ∀ {kvs : List (κ × V)}, k ∈ kvs.map (·.1) → ∃ v, valV kvs k = some v
 | p :: r, h => by
  by_cases e : p.1 = k
  ·exact ⟨_, valV_pos e⟩
  ·rw [valV_neg e]
   rw [List.map_cons, List.mem_cons] at h
   rcases h with h | h
   ·exact absurd h.symm e
   ·exact valV_some h
def tDPopN (td ty tx : TE) : TE := fun σ H Q => td σ H fun x H1 => ∃ a, x = .ref a ∧ IsD H1 a ∧ ty σ H1 fun y H2 => tx σ H2 fun z H3 => ∃ kvs k, H3 a = some (.dK kvs) ∧ y = kV k ∧ ∀ v, Q v (upd H3 a (.dK (dropK kvs k)))
def NmD (K : Frag) (H : Hp) (kvs : List (Key × V)) (F : Str → Option (Int × Int)) : Prop :=
 ∀ nm, (valV kvs (.inr nm) = none ∧ F nm = none) ∨ ∃ v q, valV kvs (.inr nm) = some v ∧ F nm = some q ∧ NmK K H v q
structure FrC (K : Frag) (C : Addr) : Prop where
 cls : Cls K C
 pl : NoAttr K C "pin_places"
 wy : NoAttr K C "pin_ways"
 br : NoAttr K C "bar_ends"
abbrev frF (pP pW pB : Addr) : List (Str × V) := [("pin_places", .ref pP), ("pin_ways", .ref pW), ("bar_ends", .ref pB)]
abbrev Pt := (Int × Int) × (Int × Int)
abbrev spotD (p : Pt) : List Da := [.t [.v (.int p.1.1), .v (.int p.1.2)], .t [.v (.int p.2.1), .v (.int p.2.2)]]
def SameT (H H' : Hp) : Prop := ∀ b xs, Rd H b (.tup xs) → Rd H' b (.tup xs)
theorem SameT.of {H H' : Hp} (s : Same H H') : SameT H H' := fun b xs e => by
 rcases e with e | ⟨o, e⟩
 ·exact .inl (s _ _ e)
 ·exact .inr ⟨o, s _ _ e⟩
theorem SameT.trans {H H1 H2 : Hp} (a : SameT H H1) (b : SameT H1 H2) : SameT H H2 := fun c xs e => b c xs (a c xs e)
theorem SameT.dict {H : Hp} {d : Addr} {kvs : List (Key × V)} {o : HO} (e : H d = some (.dK kvs)) : SameT H (upd H d o) := fun b xs r => by
 rcases r with r | ⟨o, r⟩
 ·exact .inl (by rw [upd_ne (fun z => by rw [z, e] at r; cases r)]; exact r)
 ·exact .inr ⟨o, by rw [upd_ne (fun z => by rw [z, e] at r; cases r)]; exact r⟩
theorem SameT.list {H : Hp} {d : Addr} {xs : List V} {o : HO} (e : H d = some (.lst xs)) : SameT H (upd H d o) := fun b xs r => by
 rcases r with r | ⟨o, r⟩
 ·exact .inl (by rw [upd_ne (fun z => by rw [z, e] at r; cases r)]; exact r)
 ·exact .inr ⟨o, by rw [upd_ne (fun z => by rw [z, e] at r; cases r)]; exact r⟩
theorem SameT.seqT {K : Frag} {H H' : Hp} (s : SameT H H') {p : Addr} {xs : List V} (q : SqT K H p xs) : SqT K H' p xs := by
 rcases q with q | q
 ·exact .inl (s _ _ q)
 ·exact .inr q
theorem NmK.sameT {K : Frag} {H H' : Hp} {v : V} {q : Int × Int} (h : NmK K H v q) (s : SameT H H') : NmK K H' v q := by
 obtain ⟨p, e, k⟩ := h
 exact ⟨p, e, s.seqT k⟩
def Spot (K : Frag) (H : Hp) (v : V) (p : Pt) : Prop := ∃ a u1 u2, v = .ref a ∧ SqT K H a [u1, u2] ∧ NmK K H u1 p.1 ∧ NmK K H u2 p.2
theorem Spot.sameT {K : Frag} {H H' : Hp} {v : V} {p : Pt} (h : Spot K H v p) (s : SameT H H') : Spot K H' v p := by
 obtain ⟨a, u1, u2, e, h1, h2, h3⟩ := h
 exact ⟨a, u1, u2, e, s.seqT h1, h2.sameT s, h3.sameT s⟩
theorem is_numF {K : Frag} {H : Hp} {v : V} {q : Int × Int} (h : NmK K H v q) : Is K H (.t [.v (.int q.1), .v (.int q.2)]) v := by
 obtain ⟨p, rfl, e⟩ := h
 unfold Is
 refine ⟨p, _, rfl, e, ?_⟩
 unfold Iss
 refine ⟨by unfold Is; exact ⟨rfl, rfl⟩, ?_⟩
 unfold Iss
 refine ⟨by unfold Is; exact ⟨rfl, rfl⟩, ?_⟩
 unfold Iss
 trivial
theorem Spot.is {K : Frag} {H : Hp} {v : V} {p : Pt} (h : Spot K H v p) : Is K H (.t (spotD p)) v := by
 obtain ⟨a, u1, u2, rfl, h1, h2, h3⟩ := h
 unfold Is
 refine ⟨a, _, rfl, h1, ?_⟩
 unfold Iss
 refine ⟨is_numF h2, ?_⟩
 unfold Iss
 refine ⟨is_numF h3, ?_⟩
 unfold Iss
 trivial
theorem eq_spots (p q : Pt) : eqDas (spotD p) (spotD q) = decide (p = q) := by
 have e : eqDas (spotD p) (spotD q) = ((p.1.1 == q.1.1 && (p.1.2 == q.1.2 && true)) && ((p.2.1 == q.2.1 && (p.2.2 == q.2.2 && true)) && true)) := by
  simp only [spotD, eqDas, eqDa, eqV]
 rw [e]
 obtain ⟨⟨a, b⟩, c, d⟩ := p
 obtain ⟨⟨a', b'⟩, c', d'⟩ := q
 by_cases h : a = a' <;> by_cases h1 : b = b' <;> by_cases h2 : c = c' <;> by_cases h3 : d = d' <;> simp [h, h1, h2, h3, Prod.mk.injEq]
theorem alike_spots (p q : Pt) : alikes (spotD p) (spotD q) = true := by simp [spotD, alikes, alike]
theorem dep_spots (p : Pt) : deps (spotD p) ≤ 60 := by simp [spotD, deps, dep]
structure FrR (K : Frag) (H : Hp) (C a dx pP pW pB : Addr) (ps : List (Str × Pt)) (bs : List (Str × Str × Str)) (kP kW kB : List (Key × V)) : Prop where
 obj : H a = some (.ins C dx (frF pP pW pB))
 pl : H pP = some (.dK kP)
 wy : H pW = some (.dK kW)
 br : H pB = some (.dK kB)
 ne1 : pP ≠ pW
 ne2 : pP ≠ pB
 ne3 : pW ≠ pB
 rp : Paired (fun (p : Str × Pt) (kv : Key × V) => kv.1 = .inr p.1 ∧ Spot K H kv.2 p.2) ps kP
 rb : Paired (fun (b : Str × Str × Str) (kv : Key × V) => kv.1 = .inr b.1 ∧ ∃ p, kv.2 = .ref p ∧ Rd H p (.tup [.str b.2.1, .str b.2.2])) bs kB
section
variable {K : Frag} {H H' : Hp} {C a dx pP pW pB : Addr} {ps : List (Str × Pt)} {bs : List (Str × Str × Str)} {kP kW kB : List (Key × V)}
theorem paired_keys {α : Type} {R : (Str × α) → (Key × V) → Prop} : ∀ {l : List (Str × α)} {kvs : List (Key × V)}, Paired (fun b kv => kv.1 = .inr b.1 ∧ R b kv) l kvs → kvs.map (·.1) = l.map (fun b => (Sum.inr b.1 : Key))
 | _, _, .nil => rfl
 | _, _, .cons h t => by rw [List.map_cons, List.map_cons, h.1, paired_keys t]
theorem key_mem {l : List Str} {x : Str} : (Sum.inr x : Key) ∈ l.map (fun b => (Sum.inr b : Key)) ↔ x ∈ l := by
 constructor
 ·intro h
  obtain ⟨y, hy, e⟩ := List.mem_map.mp h
  exact Sum.inr.inj e ▸ hy
 ·exact fun h => List.mem_map.mpr ⟨x, h, rfl⟩
theorem FrR.sameT_of (R : FrR K H C a dx pP pW pB ps bs kP kW kB) (s : SameT H H') (h1 : H' a = H a) (h2 : H' pP = H pP) (h3 : H' pW = H pW) (h4 : H' pB = H pB) : FrR K H' C a dx pP pW pB ps bs kP kW kB :=
 ⟨h1.trans R.obj, h2.trans R.pl, h3.trans R.wy, h4.trans R.br, R.ne1, R.ne2, R.ne3, Paired.mapP R.rp fun _ _ h => ⟨h.1, h.2.sameT s⟩, Paired.mapP R.rb fun _ _ h => ⟨h.1, by obtain ⟨p, e, k⟩ := h.2; exact ⟨p, e, s _ _ k⟩⟩⟩
theorem FrR.same (R : FrR K H C a dx pP pW pB ps bs kP kW kB) (s : Same H H') : FrR K H' C a dx pP pW pB ps bs kP kW kB :=
 R.sameT_of (.of s) ((s _ _ R.obj).trans R.obj.symm) ((s _ _ R.pl).trans R.pl.symm) ((s _ _ R.wy).trans R.wy.symm) ((s _ _ R.br).trans R.br.symm)
theorem FrR.keysB (R : FrR K H C a dx pP pW pB ps bs kP kW kB) : kB.map (·.1) = (bs.map (·.1)).map (fun b => (Sum.inr b : Key)) := by
 rw [paired_keys R.rb, List.map_map]
 rfl
theorem FrR.keysP (R : FrR K H C a dx pP pW pB ps bs kP kW kB) : kP.map (·.1) = (ps.map (·.1)).map (fun b => (Sum.inr b : Key)) := by
 rw [paired_keys R.rp, List.map_map]
 rfl
theorem FrR.bar (R : FrR K H C a dx pP pW pB ps bs kP kW kB) (x : Str) : (valV kB (.inr x)).isSome = decide (x ∈ bs.map (·.1)) := by
 by_cases h : x ∈ bs.map (·.1)
 ·obtain ⟨v, e⟩ := valV_some (kvs := kB) (k := .inr x) (by rw [R.keysB]; exact key_mem.mpr h)
  rw [e, decide_eq_true h]
  rfl
 ·rw [valV_none (by rw [R.keysB]; exact fun z => h (key_mem.mp z)), decide_eq_false h]
  rfl
theorem FrR.pin (R : FrR K H C a dx pP pW pB ps bs kP kW kB) (x : Str) : (valV kP (.inr x)).isSome = decide (x ∈ ps.map (·.1)) := by
 by_cases h : x ∈ ps.map (·.1)
 ·obtain ⟨v, e⟩ := valV_some (kvs := kP) (k := .inr x) (by rw [R.keysP]; exact key_mem.mpr h)
  rw [e, decide_eq_true h]
  rfl
 ·rw [valV_none (by rw [R.keysP]; exact fun z => h (key_mem.mp z)), decide_eq_false h]
  rfl
theorem FrR.ab (R : FrR K H C a dx pP pW pB ps bs kP kW kB) : a ≠ pP ∧ a ≠ pW ∧ a ≠ pB :=
 ⟨fun z => (by have h := R.obj; rw [z, R.pl] at h; cases h), fun z => (by have h := R.obj; rw [z, R.wy] at h; cases h), fun z => (by have h := R.obj; rw [z, R.br] at h; cases h)⟩
theorem FrR.putBar (R : FrR K H C a dx pP pW pB ps bs kP kW kB) {x one other : Str} {t : Addr} (ht : Rd H t (.tup [.str one, .str other])) :
  FrR K (upd H pB (.dK (kB ++ [(.inr x, .ref t)]))) C a dx pP pW pB ps (bs ++ [(x, one, other)]) kP kW (kB ++ [(.inr x, .ref t)]) := by
 have s : SameT H (upd H pB (.dK (kB ++ [(.inr x, .ref t)]))) := .dict R.br
 exact ⟨by rw [upd_ne R.ab.2.2]; exact R.obj, by rw [upd_ne R.ne2]; exact R.pl, by rw [upd_ne R.ne3]; exact R.wy, upd_same, R.ne1, R.ne2, R.ne3, Paired.mapP R.rp fun _ _ h => ⟨h.1, h.2.sameT s⟩,
  Paired.snoc (Paired.mapP R.rb fun _ _ h => ⟨h.1, by obtain ⟨p, e, k⟩ := h.2; exact ⟨p, e, s _ _ k⟩⟩) ⟨rfl, t, rfl, s _ _ ht⟩⟩
theorem paired_drop {α : Type} {R : (Str × α) → (Key × V) → Prop} (x : Str) : ∀ {l : List (Str × α)} {kvs : List (Key × V)}, Paired (fun b kv => kv.1 = .inr b.1 ∧ R b kv) l kvs → Paired (fun b kv => kv.1 = .inr b.1 ∧ R b kv) (l.filter fun b => decide (b.1 ≠ x)) (dropK kvs (.inr x))
 | _, _, .nil => .nil
 | b :: _, kv :: _, .cons h t => by
  unfold dropK
  rw [List.filter_cons, List.filter_cons]
  have ih := paired_drop x t
  unfold dropK at ih
  by_cases e : b.1 = x
  ·have e' : kv.1 = .inr x := by rw [h.1, e]
   rw [if_neg (by simp [e]), if_neg (by simp [e'])]
   exact ih
  ·have e' : ¬ kv.1 = .inr x := fun z => e (Sum.inr.inj (h.1.symm.trans z))
   rw [if_pos (by simp [e]), if_pos (by simp [e'])]
   exact .cons h ih
theorem FrR.dropBar (R : FrR K H C a dx pP pW pB ps bs kP kW kB) (x : Str) :
  FrR K (upd H pB (.dK (dropK kB (.inr x)))) C a dx pP pW pB ps (bs.filter fun b => decide (b.1 ≠ x)) kP kW (dropK kB (.inr x)) := by
 have s : SameT H (upd H pB (.dK (dropK kB (.inr x)))) := .dict R.br
 exact ⟨by rw [upd_ne R.ab.2.2]; exact R.obj, by rw [upd_ne R.ne2]; exact R.pl, by rw [upd_ne R.ne3]; exact R.wy, upd_same, R.ne1, R.ne2, R.ne3, Paired.mapP R.rp fun _ _ h => ⟨h.1, h.2.sameT s⟩,
  paired_drop x (Paired.mapP R.rb fun _ _ h => ⟨h.1, by obtain ⟨p, e, k⟩ := h.2; exact ⟨p, e, s _ _ k⟩⟩)⟩
theorem paired_flip {α β : Type} {R : α → β → Prop} : ∀ {l : List α} {m : List β}, Paired R l m → Paired (fun b a => R a b) m l
 | _, _, .nil => .nil
 | _, _, .cons h t => .cons h (paired_flip t)
theorem FrR.putPin (R : FrR K H C a dx pP pW pB ps bs kP kW kB) {x : Str} {p : Pt} {t : Addr} (ht : Spot K H (.ref t) p) :
  FrR K (upd H pP (.dK (kP ++ [(.inr x, .ref t)]))) C a dx pP pW pB (ps ++ [(x, p)]) bs (kP ++ [(.inr x, .ref t)]) kW kB := by
 have s : SameT H (upd H pP (.dK (kP ++ [(.inr x, .ref t)]))) := .dict R.pl
 exact ⟨by rw [upd_ne R.ab.1]; exact R.obj, upd_same, by rw [upd_ne (Ne.symm R.ne1)]; exact R.wy, by rw [upd_ne (Ne.symm R.ne2)]; exact R.br, R.ne1, R.ne2, R.ne3,
  Paired.snoc (Paired.mapP R.rp fun _ _ h => ⟨h.1, h.2.sameT s⟩) ⟨rfl, ht.sameT s⟩, Paired.mapP R.rb fun _ _ h => ⟨h.1, by obtain ⟨p, e, k⟩ := h.2; exact ⟨p, e, s _ _ k⟩⟩⟩
theorem FrR.putWays (R : FrR K H C a dx pP pW pB ps bs kP kW kB) (kW' : List (Key × V)) : FrR K (upd H pW (.dK kW')) C a dx pP pW pB ps bs kP kW' kB := by
 have s : SameT H (upd H pW (.dK kW')) := .dict R.wy
 exact ⟨by rw [upd_ne R.ab.2.1]; exact R.obj, by rw [upd_ne R.ne1]; exact R.pl, upd_same, by rw [upd_ne (Ne.symm R.ne3)]; exact R.br, R.ne1, R.ne2, R.ne3,
  Paired.mapP R.rp fun _ _ h => ⟨h.1, h.2.sameT s⟩, Paired.mapP R.rb fun _ _ h => ⟨h.1, by obtain ⟨p, e, k⟩ := h.2; exact ⟨p, e, s _ _ k⟩⟩⟩
end
end Ty
set_option maxHeartbeats 4000000
namespace Ty
open PySem PySem.Spec PyProof.Rows L2
open Builtin.Int (intBits)
def qr (r : Rat) : Int × Int := (r.num, (r.den : Int))
theorem qr_pos (r : Rat) : 0 < (qr r).2 := by
 have := r.den_pos
 show (0 : Int) < (r.den : Int)
 omega
theorem qr_gcd (r : Rat) : Int.gcd (qr r).1 (qr r).2 = 1 := by
 have := r.reduced
 show Int.gcd r.num (r.den : Int) = 1
 unfold Int.gcd
 simpa [Nat.Coprime] using this
theorem vl_qr (r : Rat) : vl (qr r) = r := by
 show (r.num : Rat) / ((r.den : Int) : Rat) = r
 rw [← Rat.divInt_eq_div]
 exact Rat.num_divInt_den r
theorem qr_of {q : Int × Int} (h : 0 < q.2) (g : Int.gcd q.1 q.2 = 1) : q = qr (vl q) := vl_inj h (qr_pos _) g (qr_gcd _) (vl_qr _).symm
theorem low_qr {t b : Int} (h : b ≠ 0) : low t b = qr ((t : Rat) / (b : Rat)) := by
 rw [← vl_low h]
 exact qr_of (low_pos h) (low_gcd h)
theorem qr_inj {a b : Rat} (h : qr a = qr b) : a = b := by
 rw [← vl_qr a, ← vl_qr b, h]
theorem qr_int (i : Int) : qr (i : Rat) = (i, 1) := by
 have e : (i, (1 : Int)) = qr (vl (i, 1)) := qr_of (by show (0 : Int) < 1; decide) (by show Int.gcd i 1 = 1; simp)
 have v : vl (i, (1 : Int)) = (i : Rat) := by
  unfold vl
  show (i : Rat) / ((1 : Int) : Rat) = i
  have : ((1 : Int) : Rat) = 1 := by rfl
  rw [this]
  grind
 rw [e, v]
theorem qr_neg (r : Rat) : qr (-r) = (-(qr r).1, (qr r).2) := by
 have e : ((-(qr r).1, (qr r).2) : Int × Int) = qr (vl (-(qr r).1, (qr r).2)) := qr_of (qr_pos r) (by
  have := qr_gcd r
  show Int.gcd (-(qr r).1) (qr r).2 = 1
  rw [Int.neg_gcd]
  exact this)
 have v : vl (-(qr r).1, (qr r).2) = -r := by
  have h := vl_qr r
  unfold vl at h ⊢
  push_cast
  rw [← h]
  grind
 rw [e, v]
theorem ratz {r : Rat} : ((qr r).2 : Rat) ≠ 0 := ratne (Int.ne_of_gt (qr_pos r))
theorem qr_add (a b : Rat) : low ((qr a).1 * (qr b).2 + (qr b).1 * (qr a).2) ((qr a).2 * (qr b).2) = qr (a + b) := by
 have ha := qr_pos a
 have hb := qr_pos b
 rw [low_qr (Int.ne_of_gt (Int.mul_pos ha hb))]
 have e1 := vl_qr a
 have e2 := vl_qr b
 have z1 := ratz (r := a)
 have z2 := ratz (r := b)
 unfold vl at e1 e2
 congr 1
 push_cast
 grind
theorem qr_sub (a b : Rat) : low ((qr a).1 * (qr b).2 - (qr b).1 * (qr a).2) ((qr a).2 * (qr b).2) = qr (a - b) := by
 have ha := qr_pos a
 have hb := qr_pos b
 rw [low_qr (Int.ne_of_gt (Int.mul_pos ha hb))]
 have e1 := vl_qr a
 have e2 := vl_qr b
 have z1 := ratz (r := a)
 have z2 := ratz (r := b)
 unfold vl at e1 e2
 congr 1
 push_cast
 grind
theorem qr_mul (a b : Rat) : low ((qr a).1 * (qr b).1) ((qr a).2 * (qr b).2) = qr (a * b) := by
 have ha := qr_pos a
 have hb := qr_pos b
 rw [low_qr (Int.ne_of_gt (Int.mul_pos ha hb))]
 have e1 := vl_qr a
 have e2 := vl_qr b
 have z1 := ratz (r := a)
 have z2 := ratz (r := b)
 unfold vl at e1 e2
 congr 1
 push_cast
 grind
structure Sz (k : Nat) (r : Rat) : Prop where
 top : intBits (qr r).1 ≤ k
 bot : intBits (qr r).2 ≤ k
theorem Sz.up {k l : Nat} {r : Rat} (h : Sz k r) (kl : k ≤ l) : Sz l r := ⟨Nat.le_trans h.top kl, Nat.le_trans h.bot kl⟩
theorem bits_addF {a b : Int} {k : Nat} (ha : intBits a ≤ k) (hb : intBits b ≤ k) : intBits (a + b) ≤ k + 1 := by
 rw [intBits_le_iff] at ha hb ⊢
 have := Int.natAbs_add_le a b
 rw [Nat.pow_succ]
 omega
theorem bits_subF {a b : Int} {k : Nat} (ha : intBits a ≤ k) (hb : intBits b ≤ k) : intBits (a - b) ≤ k + 1 := by
 rw [intBits_le_iff] at ha hb ⊢
 have := Int.natAbs_sub_le a b
 rw [Nat.pow_succ]
 omega
theorem sz_low {t b : Int} {k : Nat} (hb : b ≠ 0) (h1 : intBits t ≤ k) (h2 : intBits b ≤ k) : Sz k ((t : Rat) / (b : Rat)) := by
 rw [← vl_low hb]
 have e := qr_of (low_pos (t := t) hb) (low_gcd hb)
 exact ⟨by rw [← e]; exact intBits_le_of_natAbs (low_top_le hb) h1, by rw [← e]; exact intBits_le_of_natAbs (low_bot_le hb) h2⟩
theorem sz_of {t b : Int} {k : Nat} {r : Rat} (hb : b ≠ 0) (e : low t b = qr r) (h1 : intBits t ≤ k) (h2 : intBits b ≤ k) : Sz k r := by
 have z := low_qr (t := t) hb
 rw [z] at e
 have := qr_inj e
 rw [← this]
 exact sz_low hb h1 h2
theorem Sz.add {k l : Nat} {a b : Rat} (ha : Sz k a) (hb : Sz l b) : Sz (k + l + 1) (a + b) :=
 sz_of (Int.ne_of_gt (Int.mul_pos (qr_pos a) (qr_pos b))) (qr_add a b) (bits_addF (intBits_mul_le ha.top hb.bot) (by rw [Nat.add_comm]; exact intBits_mul_le hb.top ha.bot)) (Nat.le_succ_of_le (intBits_mul_le ha.bot hb.bot))
theorem Sz.sub {k l : Nat} {a b : Rat} (ha : Sz k a) (hb : Sz l b) : Sz (k + l + 1) (a - b) :=
 sz_of (Int.ne_of_gt (Int.mul_pos (qr_pos a) (qr_pos b))) (qr_sub a b) (bits_subF (intBits_mul_le ha.top hb.bot) (by rw [Nat.add_comm]; exact intBits_mul_le hb.top ha.bot)) (Nat.le_succ_of_le (intBits_mul_le ha.bot hb.bot))
theorem Sz.mul {k l : Nat} {a b : Rat} (ha : Sz k a) (hb : Sz l b) : Sz (k + l) (a * b) :=
 sz_of (Int.ne_of_gt (Int.mul_pos (qr_pos a) (qr_pos b))) (qr_mul a b) (intBits_mul_le ha.top hb.top) (intBits_mul_le ha.bot hb.bot)
theorem Sz.neg {k : Nat} {a : Rat} (ha : Sz k a) : Sz k (-a) := by
 refine ⟨?_, ?_⟩
 ·rw [qr_neg]
  have := ha.top
  rw [intBits_le_iff] at this ⊢
  show (-(qr a).1).natAbs < 2 ^ k
  rw [Int.natAbs_neg]
  exact this
 ·rw [qr_neg]
  exact ha.bot
theorem sz_int {i : Int} {k : Nat} (h : i.natAbs < 2 ^ k) (hk : 1 ≤ k) : Sz k (i : Rat) := by
 refine ⟨?_, ?_⟩
 ·rw [qr_int]
  exact intBits_le_iff.mpr h
 ·rw [qr_int]
  refine intBits_le_iff.mpr ?_
  show 1 < 2 ^ k
  exact Nat.one_lt_two_pow (by omega)
def NmR (K : Frag) (H : Hp) (v : V) (r : Rat) : Prop := NmK K H v (qr r)
def PtR (K : Frag) (H : Hp) (v : V) (p : Rat × Rat) : Prop := ∃ a u1 u2, v = .ref a ∧ SqT K H a [u1, u2] ∧ NmR K H u1 p.1 ∧ NmR K H u2 p.2
section
variable {K : Frag} {H H' : Hp} {v : V} {r : Rat} {p : Rat × Rat}
theorem NmR.sameT (h : NmR K H v r) (s : SameT H H') : NmR K H' v r := NmK.sameT h s
theorem NmR.same (h : NmR K H v r) (s : Same H H') : NmR K H' v r := NmK.same h s
theorem PtR.sameT (h : PtR K H v p) (s : SameT H H') : PtR K H' v p := by
 obtain ⟨a, u1, u2, e, h1, h2, h3⟩ := h
 exact ⟨a, u1, u2, e, s.seqT h1, h2.sameT s, h3.sameT s⟩
theorem PtR.same (h : PtR K H v p) (s : Same H H') : PtR K H' v p := h.sameT (.of s)
abbrev ptQ (p : Rat × Rat) : Pt := (qr p.1, qr p.2)
theorem PtR.spot (h : PtR K H v p) : Spot K H v (ptQ p) := h
def PtsR (K : Frag) (H : Hp) (us : List V) (ps : List (Rat × Rat)) : Prop := Paired (PtR K H) us ps
theorem PtsR.sameT {us : List V} {ps : List (Rat × Rat)} (h : PtsR K H us ps) (s : SameT H H') : PtsR K H' us ps := Paired.mapP h fun _ _ z => z.sameT s
theorem PtsR.same {us : List V} {ps : List (Rat × Rat)} (h : PtsR K H us ps) (s : Same H H') : PtsR K H' us ps := h.sameT (.of s)
end
section
variable {X : Cx}
theorem ptR_inj {pins : List (Addr × Obj)} {σ : L2.St} {H : Hp} {s : Shared} {v : V} {p q : Rat × Rat} (I : Inv X pins σ H s) (h1 : PtR X.K H v p) (h2 : PtR X.K H v q) : p = q := by
 obtain ⟨a, u1, u2, rfl, t1, ⟨b1, rfl, n1⟩, b2, rfl, n2⟩ := h1
 obtain ⟨a', w1, w2, e, t2, ⟨c1, rfl, m1⟩, c2, rfl, m2⟩ := h2
 cases e
 cases I.tuple_inj t1 t2
 have e1 := I.tuple_inj n1 m1
 have e2 := I.tuple_inj n2 m2
 simp only [List.cons.injEq, V.int.injEq, and_true] at e1 e2
 exact Prod.ext (qr_inj (Prod.ext e1.1 e1.2)) (qr_inj (Prod.ext e2.1 e2.2))
def rInPt (K : Frag) (neg : Bool) : R2 := fun x y H Q => ∃ p l us ps, y = .ref l ∧ SqL K H l us ∧ PtR K H x p ∧ PtsR K H us ps ∧ Q (.bl (if neg then !decide (p ∈ ps) else decide (p ∈ ps))) H
theorem in_pt {pins : List (Addr × Obj)} {σ : L2.St} {H : Hp} {s : Shared} {A : Around} {x : V} {v : Value} {p : Rat × Rat} {us : List V} {its : List Value} {ps : List (Rat × Rat)} (I : Inv X pins σ H s) (hu : A.units + 60 < cLine) (hx : PtR X.K H x p) (rx : RelV x v) (hp : PtsR X.K H us ps) (rv : Vals us its) :
  ∃ e : Value → Bool, (∀ y, y ∈ its.toArray → SeqAt.EqAt A s y v (e y)) ∧ its.toArray.any e = decide (p ∈ ps) := by
 have key : ∀ (j : Nat) (y : Value), its[j]? = some y → ∃ u q, us[j]? = some u ∧ ps[j]? = some q ∧ RelV u y ∧ PtR X.K H u q := fun j y ey => by
  obtain ⟨u, eu, ru⟩ := paired_get (paired_flip rv) ey
  obtain ⟨q, eq, hq⟩ := paired_get hp eu
  exact ⟨u, q, eu, eq, ru, hq⟩
 refine ⟨fun y => @decide (∃ u q, RelV u y ∧ PtR X.K H u q ∧ q = p) (Classical.propDecidable _), fun y hy => ?_, ?_⟩
 ·obtain ⟨j, hj, ey⟩ := List.mem_iff_getElem.mp (by simpa using hy : y ∈ its)
  obtain ⟨u, q, eu, eq, ru, hq⟩ := key j y (by rw [gE hj, ey])
  have z := eqAt_da (A := A) I (.t (spotD (ptQ q))) (.t (spotD (ptQ p))) u x y v hq.spot.is hx.spot.is (by unfold alike; exact alike_spots _ _) ru rx (by have := dep_spots (ptQ q); unfold dep; simp only [spotD, deps, dep] at this ⊢; omega)
  have e : eqDa (.t (spotD (ptQ q))) (.t (spotD (ptQ p))) = @decide (∃ u q, RelV u y ∧ PtR X.K H u q ∧ q = p) (Classical.propDecidable _) := by
   unfold eqDa
   rw [eq_spots]
   by_cases c : q = p
   ·subst c
    rw [decide_eq_true rfl]
    symm
    exact @decide_eq_true _ (Classical.propDecidable _) ⟨u, q, ru, hq, rfl⟩
   ·rw [decide_eq_false (fun z => c (Prod.ext (qr_inj (congrArg Prod.fst z)) (qr_inj (congrArg Prod.snd z))))]
    symm
    refine @decide_eq_false _ (Classical.propDecidable _) fun ⟨u', q', ru', hq', e'⟩ => ?_
    obtain ⟨a, _, _, rfl, _⟩ := id hq
    obtain ⟨a', _, _, rfl, _⟩ := id hq'
    have r1 : y = Value.ref a := ru
    have r2 : y = Value.ref a' := ru'
    rw [r1] at r2
    cases r2
    exact c ((ptR_inj I hq hq').trans e')
  rw [e] at z
  exact z
 ·rw [Bool.eq_iff_iff, decide_eq_true_iff]
  simp only [List.any_toArray, List.any_eq_true]
  constructor
  ·rintro ⟨y, hy, ey⟩
   obtain ⟨j, hj, ej⟩ := List.mem_iff_getElem.mp hy
   obtain ⟨u, q, eu, eq, ru, hq⟩ := key j y (by rw [gE hj, ej])
   obtain ⟨u', q', ru', hq', e'⟩ := @of_decide_eq_true _ (Classical.propDecidable _) ey
   obtain ⟨a, _, _, rfl, _⟩ := id hq
   obtain ⟨a', _, _, rfl, _⟩ := id hq'
   have r1 : y = Value.ref a := ru
   have r2 : y = Value.ref a' := ru'
   rw [r1] at r2
   cases r2
   rw [← e', ← ptR_inj I hq hq']
   exact List.mem_of_getElem? eq
  ·intro hm
   obtain ⟨j, hj, ej⟩ := List.mem_iff_getElem.mp hm
   have lu : us.length = ps.length := Paired.length hp
   have li : us.length = its.length := rv.length
   have hj' : j < its.length := by omega
   refine ⟨its[j], List.getElem_mem hj', ?_⟩
   obtain ⟨u, q, eu, eq, ru, hq⟩ := key j its[j] (gE hj')
   rw [gE hj, ej] at eq
   cases eq
   exact @decide_eq_true _ (Classical.propDecidable _) ⟨u, p, ru, hq, rfl⟩
theorem op_notInPt (hu : X.A.units + 64 < cLine) : OpR X (compareOp .NotIn) (rInPt X.K true) := by
 intro pins s σ H x y v u Q I rx ry h
 obtain ⟨p, l, us, ps, rfl, hq, hx, hp, q⟩ := h
 cases ry
 obtain ⟨its, rv, pl, hz⟩ := I.list hq
 obtain ⟨e, he, ea⟩ := in_pt (A := X.A.in1) I (by rw [in1_units]; omega) hx rx hp rv
 refine SeqAt.notIn_listAt e pl.isList he ⟨.bl _, H, I, rfl, ?_⟩
 rw [ea]
 exact q
end
end Ty
set_option maxHeartbeats 4000000
namespace Ty
open PySem PySem.Spec PyProof.Rows L2
theorem paired_val {α : Type} {R : (Str × α) → (Key × V) → Prop} {x : Str} {y : α} : ∀ {l : List (Str × α)} {kvs : List (Key × V)}, Paired (fun b kv => kv.1 = .inr b.1 ∧ R b kv) l kvs → (l.map (·.1)).Nodup → (x, y) ∈ l → ∃ v, valV kvs (.inr x) = some v ∧ R (x, y) (.inr x, v)
 | _ :: _, kv :: _, .cons h t, nd, m => by
  rw [List.map_cons, List.nodup_cons] at nd
  rcases List.mem_cons.mp m with e | m
  ·subst e
   have h1 : kv.1 = .inr x := h.1
   refine ⟨kv.2, valV_pos h1, ?_⟩
   have h2 := h.2
   rw [← h1]
   exact h2
  ·obtain ⟨v, e, r⟩ := paired_val t nd.2 m
   refine ⟨v, ?_, r⟩
   rw [valV_neg (fun z => ?_)]
   ·exact e
   ·rw [h.1] at z
    exact nd.1 (Sum.inr.inj z ▸ List.mem_map.mpr ⟨_, m, rfl⟩)
def WyR (K : Frag) (H : Hp) (pw : List (Str × List (Rat × Rat))) (kW : List (Key × V)) : Prop :=
 Paired (fun (p : Str × List (Rat × Rat)) (kv : Key × V) => kv.1 = .inr p.1 ∧ ∃ l us, kv.2 = .ref l ∧ H l = some (.lst us) ∧ PtsR K H us p.2) pw kW
theorem WyR.same {K : Frag} {H H' : Hp} {pw : List (Str × List (Rat × Rat))} {kW : List (Key × V)} (h : WyR K H pw kW) (s : Same H H') : WyR K H' pw kW :=
 Paired.mapP h fun _ _ z => ⟨z.1, by obtain ⟨l, us, e1, e2, e3⟩ := z.2; exact ⟨l, us, e1, s _ _ e2, e3.same s⟩⟩
theorem WyR.dict {K : Frag} {H : Hp} {pw : List (Str × List (Rat × Rat))} {kW kvs : List (Key × V)} {d : Addr} {o : HO} (h : WyR K H pw kW) (e : H d = some (.dK kvs)) : WyR K (upd H d o) pw kW :=
 Paired.mapP h fun _ _ z => ⟨z.1, by
  obtain ⟨l, us, e1, e2, e3⟩ := z.2
  exact ⟨l, us, e1, by rw [upd_ne (fun q => by rw [q, e] at e2; cases e2)]; exact e2, e3.sameT (.dict e)⟩⟩
theorem WyR.keys {K : Frag} {H : Hp} {pw : List (Str × List (Rat × Rat))} {kW : List (Key × V)} (h : WyR K H pw kW) : kW.map (·.1) = (pw.map (·.1)).map (fun b => (Sum.inr b : Key)) := by
 rw [paired_keys h, List.map_map]
 rfl
theorem FrR.ends {K : Frag} {H : Hp} {C a dx pP pW pB : Addr} {ps : List (Str × Pt)} {bs : List (Str × Str × Str)} {kP kW kB : List (Key × V)} (R : FrR K H C a dx pP pW pB ps bs kP kW kB) (nd : (bs.map (·.1)).Nodup) {x one other : Str} (m : (x, one, other) ∈ bs) :
  ∃ p, valV kB (.inr x) = some (.ref p) ∧ Rd H p (.tup [.str one, .str other]) := by
 obtain ⟨v, e, p, ep, r⟩ := paired_val R.rb nd m
 have ep' : v = .ref p := ep
 exact ⟨p, by rw [e, ep'], r⟩
theorem FrR.place {K : Frag} {H : Hp} {C a dx pP pW pB : Addr} {ps : List (Str × Pt)} {bs : List (Str × Str × Str)} {kP kW kB : List (Key × V)} (R : FrR K H C a dx pP pW pB ps bs kP kW kB) (nd : (ps.map (·.1)).Nodup) {x : Str} {p : Pt} (m : (x, p) ∈ ps) :
  ∃ v, valV kP (.inr x) = some v ∧ Spot K H v p := paired_val R.rp nd m
end Ty
namespace Ty
open PySem PySem.Spec PyProof.Rows L2
structure PinD where
 nm : Str
 sp : Rat × Rat
 ws : List (Rat × Rat)
structure BarD where
 nm : Str
 one : PinD
 other : PinD
structure FrA (K : Frag) (H : Hp) (C a : Addr) (pins : List PinD) (bars : List BarD) : Prop where
 ex : ∃ (dx pP pW pB : Addr) (kP kW kB : List (Key × V)), FrR K H C a dx pP pW pB (pins.map fun p => (p.nm, ptQ p.sp)) (bars.map fun b => (b.nm, b.one.nm, b.other.nm)) kP kW kB ∧ WyR K H (pins.map fun p => (p.nm, p.ws)) kW
structure GoodF (pins : List PinD) (bars : List BarD) : Prop where
 np : (pins.map (·.nm)).Nodup
 nb : (bars.map (·.nm)).Nodup
 ends : ∀ b ∈ bars, b.one ∈ pins ∧ b.other ∈ pins ∧ b.one.nm ≠ b.other.nm
 sz : ∀ p ∈ pins, Sz 100 p.sp.1 ∧ Sz 100 p.sp.2 ∧ ∀ w ∈ p.ws, Sz 50 w.1 ∧ Sz 50 w.2
 lp : pins.length ≤ 6
 lb : bars.length ≤ 8
 lw : ∀ p ∈ pins, p.ws.length ≤ 2
theorem FrA.same {K : Frag} {H H' : Hp} {C a : Addr} {pins : List PinD} {bars : List BarD} (h : FrA K H C a pins bars) (s : Same H H') : FrA K H' C a pins bars := by
 obtain ⟨dx, pP, pW, pB, kP, kW, kB, R, W⟩ := h.ex
 exact ⟨dx, pP, pW, pB, kP, kW, kB, R.same s, W.same s⟩
def PtD (K : Frag) (H : Hp) (kvs : List (Key × V)) (F : Str → Option (Rat × Rat)) : Prop :=
 ∀ nm, (valV kvs (.inr nm) = none ∧ F nm = none) ∨ ∃ v p, valV kvs (.inr nm) = some v ∧ F nm = some p ∧ PtR K H v p
def RtD (K : Frag) (H : Hp) (kvs : List (Key × V)) (F : Str → Option Rat) : Prop :=
 ∀ nm, (valV kvs (.inr nm) = none ∧ F nm = none) ∨ ∃ v p, valV kvs (.inr nm) = some v ∧ F nm = some p ∧ NmR K H v p
def LtD (K : Frag) (H : Hp) (kvs : List (Key × V)) (F : Str → Option (List Rat)) : Prop :=
 ∀ nm, (valV kvs (.inr nm) = none ∧ F nm = none) ∨ ∃ l us rs, valV kvs (.inr nm) = some (.ref l) ∧ F nm = some rs ∧ H l = some (.lst us) ∧ Paired (NmR K H) us rs
section
variable {K : Frag} {H H' : Hp} {kvs : List (Key × V)}
theorem RtD.same {F : Str → Option Rat} (h : RtD K H kvs F) (s : Same H H') : RtD K H' kvs F := fun nm => by
 rcases h nm with h | ⟨v, q, h1, h2, h3⟩
 ·exact .inl h
 ·exact .inr ⟨v, q, h1, h2, h3.same s⟩
theorem LtD.same {F : Str → Option (List Rat)} (h : LtD K H kvs F) (s : Same H H') : LtD K H' kvs F := fun nm => by
 rcases h nm with h | ⟨l, us, q, h1, h2, h3, h4⟩
 ·exact .inl h
 ·exact .inr ⟨l, us, q, h1, h2, s _ _ h3, Paired.mapP h4 fun _ _ z => z.same s⟩
theorem RtD.dget {F : Str → Option Rat} (h : RtD K H kvs F) {x : Str} {v : V} {q : Rat} (n : NmR K H v q) : NmR K H ((valV kvs (.inr x)).getD v) ((F x).getD q) := by
 rcases h x with ⟨h1, h2⟩ | ⟨u, q', h1, h2, h3⟩
 ·rw [h1, h2]
  exact n
 ·rw [h1, h2]
  exact h3
end
end Ty
namespace Ty
open PySem PySem.Spec PyProof.Rows L2
theorem for_zip {K : Frag} {a b : Addr} {xs ys : List V} {g : TG} {tb : TS} {D : Ends} {σ : L2.St} {H : Hp} (Pv : Nat → L2.St → Hp → Prop) (h0 : Pv 0 σ H) (hl : ∀ i σ H, Pv i σ H → SqL K H a xs ∧ SqL K H b ys)
  (hs : ∀ i x y σ H p, xs[i]? = some x → ys[i]? = some y → Pv i σ H → H p = none → g (.ref p) σ (upd H p (.tup [x, y])) fun σ2 H2 => tb { D with nx := Pv (i + 1), ct := Pv (i + 1), bk := D.nx } σ2 H2) (hd : ∀ σ H, Pv (min xs.length ys.length) σ H → D.nx σ H) :
  ∃ W : Nat → Nat → L2.St → Hp → Prop, (∃ m, W 0 m σ H) ∧ ∀ i m σ H, W i m σ H →
   ((Itz K a b).stop i H ∧ D.nx σ H) ∨ ((Itz K a b).go i H ∧ ∃ N : L2.St → Hp → Prop, (∀ σ' H', N σ' H' → ∃ m', m' < m ∧ W (i + 1) m' σ' H') ∧ ∀ x H', (Itz K a b).yld i H x H' → g x σ H' fun σ2 H2 => tb { D with nx := N, ct := N, bk := D.nx } σ2 H2) := by
 refine ⟨fun i m σ H => m = min xs.length ys.length - i ∧ i ≤ min xs.length ys.length ∧ Pv i σ H, ⟨min xs.length ys.length, by simp, Nat.zero_le _, h0⟩, ?_⟩
 rintro i m σ H ⟨rfl, hi, p⟩
 obtain ⟨q1, q2⟩ := hl i σ H p
 by_cases hlt : i < min xs.length ys.length
 ·have l1 : i < xs.length := by omega
  have l2 : i < ys.length := by omega
  refine .inr ⟨⟨xs, ys, xs[i], ys[i], q1, q2, gE l1, gE l2⟩, Pv (i + 1), fun σ' H' z => ⟨min xs.length ys.length - (i + 1), by omega, rfl, by omega, z⟩, fun v H' y => ?_⟩
  obtain ⟨c, x, y, e1, e2, rfl, nc, rfl⟩ := y
  exact hs i x y σ H c (e1 xs q1) (e2 ys q2) p nc
 ·have e : i = min xs.length ys.length := by omega
  subst e
  exact .inl ⟨⟨xs, ys, q1, q2, by omega⟩, hd σ H p⟩
end Ty
namespace Ty
open PySem PySem.Spec PyProof.Rows L2
theorem nm_inj {α : Type} {nm : α → Str} {l : List α} (nd : (l.map nm).Nodup) {b b' : α} (h : b ∈ l) (h' : b' ∈ l) (e : nm b = nm b') : b = b' := by
 obtain ⟨i, hi, ei⟩ := List.mem_iff_getElem.mp h
 obtain ⟨j, hj, ej⟩ := List.mem_iff_getElem.mp h'
 have q1 : (l.map nm)[i]? = some (nm b) := by rw [List.getElem?_map, gE hi, ei]; rfl
 have q2 : (l.map nm)[j]? = some (nm b) := by rw [List.getElem?_map, gE hj, ej, e]; rfl
 have ij := (List.getElem?_inj (by rw [List.length_map]; exact hi) nd).mp (q1.trans q2.symm)
 subst ij
 rw [← ei, ← ej]
theorem take_new {α : Type} {nm : α → Str} {l : List α} (nd : (l.map nm).Nodup) {i : Nat} {b b' : α} (h : l[i]? = some b) (m : b' ∈ l.take i) : nm b' ≠ nm b := fun e => by
 have il := (List.getElem?_eq_some_iff.mp h).1
 obtain ⟨j, hj, ej⟩ := List.mem_iff_getElem.mp m
 rw [List.getElem_take] at ej
 rw [List.length_take] at hj
 have q1 : (l.map nm)[j]? = some (nm b) := by rw [List.getElem?_map, gE (by omega), ej, ← e]; rfl
 have q2 : (l.map nm)[i]? = some (nm b) := by rw [List.getElem?_map, h]; rfl
 have := (List.getElem?_inj (by rw [List.length_map]; omega) nd).mp (q1.trans q2.symm)
 omega
theorem take_snoc {α : Type} {l : List α} {i : Nat} {b : α} (h : l[i]? = some b) : l.take (i + 1) = l.take i ++ [b] := by rw [List.take_add_one, h]; rfl
end Ty
namespace Ty
open PySem PySem.Spec PyProof.Rows L2
theorem valV_at' {κ : Type} [DecidableEq κ] : ∀ {kvs : List (κ × V)} {t : Nat} {k : κ} {y : V}, (kvs.map (·.1)).Nodup → kvs[t]? = some (k, y) → valV kvs k = some y
 | p :: r, 0, k, y, nd, e => by
  cases e
  exact valV_pos rfl
 | p :: r, t + 1, k, y, nd, e => by
  rw [List.map_cons, List.nodup_cons] at nd
  have e' : r[t]? = some (k, y) := e
  rw [valV_neg (fun z => nd.1 (z ▸ List.mem_map.mpr ⟨_, List.mem_of_getElem? e', rfl⟩))]
  exact valV_at' nd.2 e'
theorem nodup_inr {xs : List Str} (h : xs.Nodup) : (xs.map fun x => (Sum.inr x : Key)).Nodup := by
 unfold List.Nodup
 rw [List.pairwise_map]
 exact List.Pairwise.imp (fun h e => h (Sum.inr.inj e)) h
end Ty
set_option maxHeartbeats 4000000
namespace Ty
open PySem PySem.Spec PyProof.Rows L2
theorem sm_tr {H1 H2 H3 : Hp} (a : Same H1 H2) (b : Same H2 H3) : Same H1 H3 := fun c o z => b _ _ (a _ _ z)
theorem none_back {H H' : Hp} (s : Same H H') {p : Addr} (n : H' p = none) : H p = none := by
 cases e : H p with
 | none => rfl
 | some o => rw [s _ _ e] at n; cases n
theorem nodup_range_map {α : Type} {f : Nat → α} {n : Nat} (h : ∀ i j, i < n → j < n → f i = f j → i = j) : ((List.range n).map f).Nodup := by
 unfold List.Nodup
 rw [List.pairwise_map]
 refine List.Pairwise.imp_of_mem ?_ (List.nodup_range (n := n))
 intro a b ha hb hne e
 exact hne (h a b (List.mem_range.mp ha) (List.mem_range.mp hb) e)
theorem list_of_rel {α : Type} {f : Nat → α} {n : Nat} {ys : List α} (hl : ys.length = n) (h : ∀ i v, ys[i]? = some v → v = f i) : ys = (List.range n).map f := by
 refine List.ext_getElem? fun i => ?_
 by_cases hi : i < n
 ·have e : ys[i]? = some ys[i] := gE (by omega)
  rw [e, h i _ e, List.getElem?_map, List.getElem?_range hi]
  rfl
 ·rw [List.getElem?_eq_none (by omega), List.getElem?_eq_none (by simp; omega)]
theorem foldl_size (a : Array Nat) : ∀ (n : Nat) (acc : Array Nat), ((List.replicate n a).foldl (· ++ ·) acc).size = acc.size + n * a.size
 | 0, acc => by simp
 | n + 1, acc => by
  rw [List.replicate_succ, List.foldl_cons, foldl_size a n, Array.size_append, Nat.succ_mul]
  omega
theorem mul_len {x : Str} {n : Nat} (h : x.length = 1) : (Txt.mul x (n : Int)).length = n := by
 unfold Txt.mul
 have hs : x.cps.size = 1 := h
 by_cases h0 : (n : Int) < 1
 ·rw [if_pos h0]
  have : n = 0 := by omega
  subst this
  rfl
 rw [if_neg h0]
 by_cases h1 : ((n : Int) == 1 || x.length == 0) = true
 ·rw [if_pos h1]
  rw [h] at h1 ⊢
  have : (n : Int) = 1 := by simpa using h1
  omega
 ·rw [if_neg h1]
  show ((List.replicate (n : Int).toNat x.cps).foldl (· ++ ·) #[]).size = n
  rw [foldl_size, hs]
  simp
theorem mulOk1 {x : Str} {n : Nat} (h : x.length = 1) (hn : n < 20) : MulOk x (n : Int) := by
 unfold MulOk
 rw [h]
 revert n
 decide +kernel
end Ty
namespace Ty
open PySem PySem.Spec PyProof.Rows L2
section
variable {X : Cx}
def rTupL (K : Frag) : List V → Hp → VK → Prop := fun xs H Q => ∃ (p : Addr) (ys : List V), xs = [.ref p] ∧ SqL K H p ys ∧ ∀ t, H t = none → Q (.ref t) (upd H t (.tup ys))
end
section
variable {D : Addr} {te : TE} {cap : L2.St} {H1 : Hp} {Q : VK}
theorem comp_tup {K : Frag} {a : Addr} {xs : List V} (Rel : Nat → V → Hp → Prop) (nD : H1 D = none) (hn : xs.length < sizeLine) (hS : ∀ H, Same H1 H → SqT K H a xs)
  (hR : ∀ i v H H' ys, H D = some (.lst ys) → KSame D H H' → Rel i v H → Rel i v H')
  (he : ∀ i x H (R : VK), xs[i]? = some x → Same H1 H → (∀ v H6, Same H H6 → Rel i v H6 → R v H6) → te (some x :: cap) H R)
  (hd : ∀ ys H, ys.length = xs.length → (∀ i v, ys[i]? = some v → Rel i v H) → Same H1 H → H D = some (.lst ys) → Q (.ref D) H) :
  tBlk D (gName 0) tYes te (Itt K a) (none :: cap) H1 Q := by
 refine comp_gen xs.length (fun i => (xs[i]?).getD .non) Rel nD hn (fun i H hi s => ⟨⟨xs, xs[i], hS H s, gE hi⟩, fun x H' y => ⟨y.1, ?_⟩⟩) (fun H s => ⟨xs, hS H s, Nat.le_refl _⟩) hR (fun i H R hi s k => ?_) hd
 ·rw [y.2 xs (hS H s)]; rfl
 ·have e : xs[i]? = some xs[i] := gE hi
  have k' := he i _ H R e s k
  rw [← (show (xs[i]?).getD .non = xs[i] by rw [e]; rfl)] at k'
  exact k'
end
end Ty
set_option maxHeartbeats 4000000
namespace Ty
open PySem PySem.Spec PyProof.Rows L2
abbrev IsZipB (h : Heap) (z TI TO : Addr) (f0 : Value) (fb : Bool) : Prop :=
 h.get? z = some { cls := .type "zip", dict := none, data := .fields #[f0, .bool fb, .bool false, .ref TI, .ref TO], slots := #[] }
section
variable {prog : Program} {w : World} {A : Around} {E : Value → Shared → Prop} {s : Shared}
end
def ZSt (h : Heap) (z TI TO i1 i2 a b S : Addr) (i : Nat) : Prop := (IsZipB h z TI TO .none false ∨ ∃ (T : Addr) (o : Obj) (fb : Bool), IsZipB h z TI TO (rawInt T) fb ∧ h.get? T = some o ∧ T ≠ z ∧ T ≠ TO ∧ T ≠ i1 ∧ T ≠ i2 ∧ T ≠ S) ∧ IsPair h TI (.ref i1) (.ref i2) ∧ (∃ x y, IsPair h TO x y) ∧ h.IsListIter i1 a i ∧ h.IsListIter i2 b i
section
variable {prog : Program} {w : World} {A : Around} {E : Value → Shared → Prop} {s : Shared} {z TI TO i1 i2 a b S : Addr} {i : Nat}
end
end Ty
namespace Ty
open PySem PySem.Spec PyProof.Rows L2
section
variable {X : Cx} {pins : List (Addr × Obj)} {σ : L2.St}
def ZLs (H : Hp) (xs ys us : List V) : Prop := ∀ (j : Nat) (u : V), us[j]? = some u → ∃ (x y : V) (p : Addr), xs[j]? = some x ∧ ys[j]? = some y ∧ u = .ref p ∧ H p = some (.tup [x, y])
def tListZ (ta : TA) : TE := fun σ H Q => ta σ H fun vs H1 => ∃ (a b : Addr) (xs ys : List V), vs = [.ref a, .ref b] ∧ H1 a = some (.lst xs) ∧ H1 b = some (.lst ys) ∧
 ∀ (l : Addr) (us : List V) (H' : Hp), Same H1 H' → H1 l = none → H' l = some (.lst us) → us.length = min xs.length ys.length → ZLs H' xs ys us → Q (.ref l) H'
theorem boot_list : bootBuiltins "list" = some (.type "list") := by decide +kernel
end
end Ty
set_option maxHeartbeats 4000000
namespace Ty
open PySem PySem.Spec PyProof.Rows L2
section
variable {X : Cx} {pins : List (Addr × Obj)} {σ : L2.St} {H : Hp} {s : Shared}
def tListKs (te : TE) : TE := fun σ H Q => te σ H fun x H1 => ∃ d kvs, x = .ref d ∧ H1 d = some (.dK kvs) ∧ ∀ l, H1 l = none → Q (.ref l) (upd H1 l (.lst (kvs.map fun kv => kV kv.1)))
theorem pe_listKs {e : Expr} {te : TE} {apos cpos p pos : Pos} (hc : X.calm = true) (hg : Gl X "list") (hm : X.mg "list" = none) (ho : PE X e te) (hbase : attributeBase e "keys" X.env (eval e X.env) = eval e X.env := by rfl) (hline : (apos.endLine == cpos.line) = true := by rfl)
  (hs : starEach [(.Call (.Attribute e "keys" apos) [] [] cpos : Expr)] X.env = [(false, eval (.Call (.Attribute e "keys" apos) [] [] cpos) X.env)] := by rfl) :
  PE X (.Call (.Name "list" p) [.Call (.Attribute e "keys" apos) [] [] cpos] [] pos) (tListKs te) := by
 intro pins s σ H Q I h
 refine Call_ (ld_blt I hg hm boot_list (PyProof.Rows.callWith_type1 ?_ hs rfl))
 rw [hs]
 show wpAny _ _ (spliced ((false, eval (.Call (.Attribute e "keys" apos) [] [] cpos) X.env) :: [])) _ _ s
 refine Calls.spliced_cons ?_
 refine wpAny_Call_method0_late hbase hline (thn (ho pins s σ H _ I h) fun v s1 ⟨x, H1, I1, r1, q1⟩ => ?_)
 obtain ⟨d, kvs, rfl, e, q⟩ := q1
 cases r1
 obtain ⟨h1, h2, hd⟩ := isD_at I1 (.inl ⟨kvs, .inl e⟩)
 obtain ⟨z, hd', vs, rel, o, es1, ep, ho1, hx, hdat, hk, hp, hn⟩ := dk_of I1.hok e
 have da : s1.heap.DictAt (mixKind X.prog X.w) d vs ep := ⟨o, es1, ho1, hx, hdat, hk, hp, hn⟩
 have lv := rel.length
 refine ⟨"dict", "dict.keys", F.plainAttrs_dict, F.slot_dict_keys, F.type_dict_keys, h1, h2, Calls.callWith_builtin rfl (PySem.evalArgs_none ?_)⟩
 refine call_meetsIn F.slot_dict_keys h1 F.entry_dict_keys (F.args_dict_keys_1 _) (PySem.W.kdl_meets_keys (mixKind X.prog X.w) d hd) ⟨⟨vs, da.dictOf⟩, Calls.spliced_nil ?_⟩
 have da2 : (s1.heap.push { cls := .type "dict_keys", data := .fields #[.ref d] }).DictAt (mixKind X.prog X.w) d vs ep := da.at' fun o e => Heap.get?_push_of_some _ e
 have I2 : Inv X pins σ H1 { s1 with heap := s1.heap.push { cls := .type "dict_keys", data := .fields #[.ref d] }, toks := s1.toks } := I1.kept (t' := s1.toks) fun b o e => Heap.get?_push_of_some _ e
 refine PySem.W.kdl_call (s := { s1 with heap := s1.heap.push { cls := .type "dict_keys", data := .fields #[.ref d] } }) (PySem.W.kdl_keys (knd := mixKind X.prog X.w) (r := s1.heap.objs.size) (kvs := vs) (ep := ep)) (I1.ok.hd hc) ⟨⟨_, Heap.get?_push_size _ rfl, rfl, rfl⟩, da2⟩ (by omega) fun h' tk acc' c' kk hS hacc => ?_
 have hn' := I2.hok.fresh (Nat.le_refl (s1.heap.push { cls := .type "dict_keys", data := .fields #[.ref d] }).objs.size)
 have rv : Vals (kvs.map fun kv => kV kv.1) acc'.toList := paired_of (by have := hacc.1; simp; omega) fun i a b e1 e2 => by
  rw [List.getElem?_map] at e1
  obtain ⟨kv, ek, rfl⟩ := Option.map_eq_some_iff.mp e1
  obtain ⟨q', eq, e3, _⟩ := paired_get rel ek
  obtain ⟨k, x, e4, e5⟩ := hacc.2 i b (by simpa using e2)
  rw [eq] at e4
  cases e4
  rw [e3]
  exact key_rel e5
 have I3 := I2.laid (t' := tk) (o := .lst (kvs.map fun kv => kV kv.1)) kk (Nat.le_refl _) ⟨by rw [List.length_map]; exact z, acc'.toList, c', rv, by simpa using hS⟩
 exact ⟨.ref _, _, I3, rfl, q _ hn'⟩
def tListIs (te : TE) : TE := fun σ H Q => te σ H fun x H1 => ∃ d kvs, x = .ref d ∧ H1 d = some (.dK kvs) ∧
 ∀ (l : Addr) (us : List V) (H' : Hp), Same H1 H' → H1 l = none → H' l = some (.lst us) → Paired (fun u (kv : Key × V) => ∃ p, u = .ref p ∧ H' p = some (.tup [kV kv.1, kv.2])) us kvs → Q (.ref l) H'
def iValsF (te : TE) : TI := fun σ H R => te σ H fun x H1 => ∃ d kvs, x = .ref d ∧ H1 d = some (.dK kvs) ∧ ∀ o, R (Itv d o kvs) (upd H1 d (.frz o (.dK kvs)))
theorem call_isiK {K : Frag} (h : X.K = K) : CallR X (.builtin "isinstance") (rIsi K) := by subst h; exact call_isi
theorem op_in_seqK {K : Frag} (h : X.K = K) : OpR X (compareOp .In) (rIn K false) := by subst h; exact op_in_seq
def rInBy (K : Frag) (neg : Bool) : R2 := fun x y H Q => ∃ (l : Addr) (us : List V) (ds : List Da) (n : Str) (d : List Da) (b : Bool), y = .ref l ∧ SqL K H l us ∧ Iss K H ds us ∧ Is K H (.t (.v (.str n) :: d)) x ∧
 (∀ e ∈ ds, ∃ m r, e = Da.t (.v (.str m) :: r) ∧ alikes r d = true ∧ dep e ≤ 60 ∧ (m = n → eqDas r d = true)) ∧ (b = true ↔ ∃ r, Da.t (.v (.str n) :: r) ∈ ds) ∧ Q (.bl (if neg then !b else b)) H
theorem iss_get {K : Frag} : ∀ {ds : List Da} {us : List V} {j : Nat} {u : V}, Iss K H ds us → us[j]? = some u → ∃ d, ds[j]? = some d ∧ Is K H d u
 | _ :: _, _ :: _, 0, _, h, e => by
  unfold Iss at h
  cases e
  exact ⟨_, rfl, h.1⟩
 | _ :: _, _ :: _, j + 1, _, h, e => by
  unfold Iss at h
  obtain ⟨d, e1, e2⟩ := iss_get (j := j) h.2 (by simpa using e)
  exact ⟨d, by simpa using e1, e2⟩
 | [], [], _, _, _, e => by simp at e
 | [], _ :: _, _, _, h, _ => by unfold Iss at h; exact h.elim
 | _ :: _, [], _, _, h, _ => by unfold Iss at h; exact h.elim
theorem in_by {A : Around} {x : V} {v : Value} {us : List V} {its : List Value} {ds d : List Da} {n : Str} {b : Bool} (I : Inv X pins σ H s) (hu : A.units + 60 < cLine) (hx : Is X.K H (.t (.v (.str n) :: d)) x) (rx : RelV x v) (hp : Iss X.K H ds us) (rv : Vals us its)
  (hd : ∀ e ∈ ds, ∃ m r, e = Da.t (.v (.str m) :: r) ∧ alikes r d = true ∧ dep e ≤ 60 ∧ (m = n → eqDas r d = true)) (hb : b = true ↔ ∃ r, Da.t (.v (.str n) :: r) ∈ ds) :
  ∃ e : Value → Bool, (∀ y, y ∈ its.toArray → SeqAt.EqAt A s y v (e y)) ∧ its.toArray.any e = b := by
 let Nn : Value → Prop := fun y => ∃ p r, y = .ref p ∧ SqT X.K H p (.str n :: r)
 have key : ∀ (j : Nat) (y : Value), its[j]? = some y → ∃ u m r, ds[j]? = some (Da.t (.v (.str m) :: r)) ∧ RelV u y ∧ Is X.K H (.t (.v (.str m) :: r)) u ∧ alikes r d = true ∧ dep (.t (.v (.str m) :: r)) ≤ 60 ∧ (m = n → eqDas r d = true) ∧ (Nn y ↔ m = n) := fun j y ey => by
  obtain ⟨u, eu, ru⟩ := paired_get (paired_flip rv) ey
  obtain ⟨e, ee, he⟩ := iss_get hp eu
  obtain ⟨m, r, rfl, a1, a2, a3⟩ := hd e (List.mem_of_getElem? ee)
  refine ⟨u, m, r, ee, ru, he, a1, a2, a3, ?_⟩
  unfold Is at he
  obtain ⟨p, xs, rfl, hq, hk⟩ := he
  cases xs with
  | nil => unfold Iss at hk; exact hk.elim
  | cons x0 xs =>
   unfold Iss at hk
   have e0 := hk.1
   unfold Is at e0
   obtain ⟨e0, _⟩ := e0
   cases ru
   constructor
   ·rintro ⟨p', r', e', t'⟩
    cases e'
    have z := I.tuple_inj hq t'
    rw [e0] at z
    simp only [List.cons.injEq, V.str.injEq] at z
    exact z.1
   ·rintro rfl
    exact ⟨p, xs, rfl, by rw [e0] at hq; exact hq⟩
 refine ⟨fun y => @decide (Nn y) (Classical.propDecidable _), fun y hy => ?_, ?_⟩
 ·obtain ⟨j, hj, ey⟩ := List.mem_iff_getElem.mp (by simpa using hy : y ∈ its)
  obtain ⟨u, m, r, _, ru, hi, a1, a2, a3, a4⟩ := key j y (by rw [gE hj, ey])
  have z := eqAt_da (A := A) I (.t (.v (.str m) :: r)) (.t (.v (.str n) :: d)) u x y v hi hx (by unfold alike alikes; simp only [alike, a1, Bool.and_self, Bool.true_and]) ru rx (by omega)
  have e : eqDa (.t (.v (.str m) :: r)) (.t (.v (.str n) :: d)) = @decide (Nn y) (Classical.propDecidable _) := by
   unfold eqDa eqDas
   by_cases c : m = n
   ·rw [a3 c, @decide_eq_true _ (Classical.propDecidable _) (a4.mpr c)]
    subst c
    simp [eqDa, eqV]
   ·rw [@decide_eq_false _ (Classical.propDecidable _) (fun z => c (a4.mp z))]
    simp [eqDa, eqV, c]
  rw [e] at z
  exact z
 ·rw [Bool.eq_iff_iff, hb]
  simp only [List.any_toArray, List.any_eq_true]
  constructor
  ·rintro ⟨y, hy, ey⟩
   obtain ⟨j, hj, ej⟩ := List.mem_iff_getElem.mp hy
   obtain ⟨u, m, r, em, ru, hi, a1, a2, a3, a4⟩ := key j y (by rw [gE hj, ej])
   have mn := a4.mp (@of_decide_eq_true _ (Classical.propDecidable _) ey)
   subst mn
   exact ⟨r, List.mem_of_getElem? em⟩
  ·rintro ⟨r, hm⟩
   obtain ⟨j, hj, ej⟩ := List.mem_iff_getElem.mp hm
   have lu := hp.length
   have li : us.length = its.length := rv.length
   have hj' : j < its.length := by omega
   refine ⟨its[j], List.getElem_mem hj', ?_⟩
   obtain ⟨u, m, r', em, ru, hi, a1, a2, a3, a4⟩ := key j its[j] (gE hj')
   rw [gE hj, ej] at em
   simp only [Option.some.injEq, Da.t.injEq, List.cons.injEq, Da.v.injEq, V.str.injEq] at em
   exact @decide_eq_true _ (Classical.propDecidable _) (a4.mpr em.1.symm)
theorem op_notInBy {K : Frag} (hK : X.K = K) (hu : X.A.units + 64 < cLine) : OpR X (compareOp .NotIn) (rInBy K true) := by
 subst hK
 intro pins s σ H x y v u Q I rx ry h
 obtain ⟨l, us, ds, n, d, b, rfl, hq, hi, hx, hd, hb, q⟩ := h
 cases ry
 obtain ⟨its, rv, pl, hz⟩ := I.list hq
 obtain ⟨e, he, ea⟩ := in_by (A := X.A.in1) I (by rw [in1_units]; omega) hx rx hi rv hd hb
 refine SeqAt.notIn_listAt e pl.isList he ⟨.bl _, H, I, rfl, ?_⟩
 rw [ea]
 exact q
end
theorem comp_listF {K : Frag} {D : Addr} {te : TE} {tt : TT} {cap : L2.St} {H1 : Hp} {Q : VK} {a : Addr} {α : Type} {xs : List V} {zs : List α} {Rl : V → α → Prop} (p : α → Bool) (hp : Paired Rl xs zs) (nD : H1 D = none) (hn : xs.length < sizeLine) (hS : ∀ H, Same H1 H → SqL K H a xs)
  (ht : ∀ x z H (R : Bool → Hp → Prop), Rl x z → z ∈ zs → Same H1 H → (∀ H', Same H H' → R (p z) H') → tt (some x :: cap) H R)
  (he : ∀ x z H (R : VK), Rl x z → Same H1 H → R x H → te (some x :: cap) H R)
  (hd : ∀ ys H, Paired Rl ys (zs.filter p) → Same H1 H → H D = some (.lst ys) → Q (.ref D) H) :
  tBlk D (gName 0) tt te (Itl K a) (none :: cap) H1 Q := by
 have lz : xs.length = zs.length := Paired.length hp
 have ps : ∀ {l₁ : List V} {l₂ : List α} {a : V} {b : α}, Paired Rl l₁ l₂ → Rl a b → Paired Rl (l₁ ++ [a]) (l₂ ++ [b]) := fun {l₁ l₂ a b} h h' => by
  induction h with
  | nil => exact .cons h' .nil
  | cons x _ ih => exact .cons x ih
 refine ⟨fun i m σ ys H => m = xs.length - i ∧ i ≤ xs.length ∧ (∃ o, σ = o :: cap) ∧ Same H1 H ∧ H D = some (.lst ys) ∧ Paired Rl ys ((zs.take i).filter p) ∧ ys.length ≤ i, ⟨xs.length, by simp, Nat.zero_le _, ⟨none, rfl⟩, fun b o e => by rw [upd_ne (ne_of_none e nD)]; exact e, upd_same, by simpa using Paired.nil, Nat.le_refl _⟩, ?_⟩
 rintro i m σ ys H ⟨rfl, hi, ⟨o, rfl⟩, s, hD, ey, ly⟩
 by_cases hlt : i < xs.length
 ·refine .inr ⟨⟨xs, xs[i], hS H s, gE hlt⟩, fun v H' y => ?_⟩
  obtain ⟨rfl, y2⟩ := y
  have q1 := y2 xs (hS _ s)
  obtain ⟨z, ez, hz⟩ := paired_get hp q1
  have er : (zs.take (i + 1)).filter p = (zs.take i).filter p ++ (if p z = true then [z] else []) := by
   rw [take_snoc ez, List.filter_append]
   by_cases c : p z = true
   ·rw [if_pos c, List.filter_cons_of_pos c]
    rfl
   ·rw [if_neg c, List.filter_cons_of_neg c]
    rfl
  unfold gName
  refine ht v z _ _ hz (List.mem_of_getElem? ez) s fun H2 s2 => ?_
  have s12 : Same H1 H2 := fun b o e => s2 _ _ (s _ _ e)
  have hD2 := s2 _ _ hD
  by_cases c : p z = true
  ·rw [if_pos c]
   rw [if_pos c] at er
   refine he v z _ _ hz s12 ⟨hD2, by omega, xs.length - (i + 1), by omega, rfl, by omega, ⟨_, rfl⟩, ?_, upd_same, ?_, by simp; omega⟩
   ·exact fun b o e => by
     rw [upd_ne (ne_of_none e nD)]
     exact s12 _ _ e
   ·rw [er]
    exact ps ey hz
  ·rw [if_neg c]
   rw [if_neg c, List.append_nil] at er
   exact ⟨xs.length - (i + 1), by omega, rfl, by omega, ⟨_, rfl⟩, s12, hD2, by rw [er]; exact ey, by omega⟩
 ·have e : i = xs.length := by omega
  subst e
  refine .inl ⟨⟨xs, hS _ s, Nat.le_refl _⟩, hd ys H ?_ s hD⟩
  rw [lz, List.take_length] at ey
  exact ey
theorem seq_rest {t u : TS} {D : Ends} {σ : L2.St} {H : Hp} (inv : L2.St → Hp → Prop) (h1 : ∀ N : L2.St → Hp → Prop, (∀ σ' H', inv σ' H' → N σ' H') → t { D with nx := N } σ H) (h2 : ∀ σ' H', inv σ' H' → u D σ' H') : tSeq t u D σ H := h1 _ h2
end Ty
set_option maxHeartbeats 4000000
namespace Ty
open PySem PySem.Spec PyProof.Rows L2
section
variable {prog : Program} {w : World} {KK : Type} [DecidableEq KK] {knd : KeyKind prog w KK} {A : Around} {E : Value → Shared → Prop} {s : Shared}
theorem alive_any {a : Addr} {Q : Option Obj → Shared → Prop} (h : Q (s.heap.get? a) s) : wpAny (model prog w) A (loadIfAlive a) Q E s := fun _ _ _ => h
theorem items_out {it d a : Addr} {f : Bool} {i ep : Nat} {kvs : List (KK × Value)} {k : KK} {v ok ov : Value} {Q : Option Value → Shared → Prop} (hit : PySem.W.KdxIt s.heap it d i kvs.length ep ok ov a f)
  (hm : s.heap.DictAt knd d kvs ep) (hx : kvs[i]? = some (k, v))
  (hQ : ∀ key h', knd.is k key = true → (∃ ok ov a f, PySem.W.KdxIt h' it d (i + 1) kvs.length ep ok ov a f) →
   h'.get? s.heap.objs.size = some { cls := .type "tuple", data := .seq #[key, v] } → (∀ b o, b ≠ it → s.heap.get? b = some o → h'.get? b = some o) → Q (some (.ref s.heap.objs.size)) { s with heap := h' }) :
  wpAny (model prog w) A (pyNext (.ref it)) Q E s := by
 obtain ⟨hp, g, dr, tk, os⟩ := s
 obtain ⟨od, es, hod, hcd, hdd, hk, hpr, hn⟩ := id hm
 have hT : Shared.TypeIs ⟨hp, g, dr, tk, os⟩ (.ref it) "dict_itemiterator" := ⟨_, hit, rfl⟩
 unfold pyNext
 refine wpAny_bind (wpAny_attempt (wpAny_callSpecial?_slot (name := Str.ofString "__next__") hT PySem.F.slot_dict_itemiterator_next
  (wpAny_call_entry PySem.F.slot_dict_itemiterator_next hT PySem.F.entry_dict_itemiterator_next ?_ (PySem.F.args_dict_itemiterator_next_1 _))))
 refine wpAny_bind (wpAny_pure ?_)
 refine wpAny_bind ?_
 refine wpAny_bind ?_
 first | refine wpAny_bind (wpAny_typeNameOfWhole_itemiter hT (wpAny_pure ?_)) | refine wpAny_bind (wpAny_typeNameOf_itemiter hT (wpAny_pure ?_))
 refine wpAny_bind (wpAny_fieldsOf hit rfl ?_)
 have hown : Builtin.Dict_items.ownsTuple "dict_itemiterator" = true := by decide
 simp only [hown, if_true]
 show wpAny _ _ (if (Value.ref d == Value.none) = true then _ else _) _ _ _
 rw [if_neg (show ¬ ((Value.ref d == Value.none) = true) from Bool.false_ne_true)]
 refine wpAny_bind (wpAny_pure ?_)
 refine wpAny_bind (wpAny_dictEntries hod hdd ?_)
 have hsz : es.size = kvs.length := by rw [← hpr.length]; simp
 rw [if_neg (by rw [hsz]; simp)]
 refine wpAny_bind (wpAny_pure ?_)
 refine wpAny_bind (wpAny_dictEpoch hod hdd ?_)
 rw [if_neg (by simp)]
 refine wpAny_pure ?_
 have hlt : i < kvs.length := (List.getElem?_eq_some_iff.mp hx).1
 have hlt' : i < es.size := by rw [hsz]; exact hlt
 obtain ⟨hkey, hval⟩ := hpr.get? (e := es[i]) (by simp [hlt']) hx
 simp only [show ¬ ((i : Int) < 0) from by omega, if_false, Int.toNat_natCast, Array.getElem?_eq_getElem hlt']
 refine wpAny_bind ?_
 first | refine wpAny_bind (wpAny_typeNameOfWhole_itemiter hT (wpAny_pure ?_)) | refine wpAny_bind (wpAny_typeNameOf_itemiter hT (wpAny_pure ?_))
 refine wpAny_bind (wpAny_isOneOf_itemiter hT ?_)
 show wpAny _ _ (setField (.ref it) 3 (rawInt ((i : Int) + 1)) >>= _) _ _ ⟨hp, g, dr, tk, os⟩
 refine wpAny_bind (wpAny_setField_rec hit (by simp) fun h₁ he₁ hs₁ => ?_)
 replace hs₁ : Heap.SameBut it hp h₁ := hs₁
 replace he₁ : PySem.W.KdxIt h₁ it d (i + 1) kvs.length ep ok ov a f := by
  have e : ((i + 1 : Nat) : Int) = (i : Int) + 1 := by omega
  unfold PySem.W.KdxIt; rw [e]; simpa [rawInt] using he₁
 have hT₁ : Shared.TypeIs ⟨h₁, g, dr, tk, os⟩ (.ref it) "dict_itemiterator" := ⟨_, he₁, rfl⟩
 refine wpAny_bind (wpAny_holding ?_)
 refine wpAny_bind (wpAny_isOneOf_itemiter hT₁ ?_)
 refine wpAny_bind (wpAny_isOneOf_itemiter hT₁ ?_)
 show wpAny _ _ (Builtin.Dict_items.pairFromOwner (.ref it) 6 es[i].key es[i].val) _ _ ⟨h₁, g, dr, tk, os⟩
 unfold Builtin.Dict_items.pairFromOwner
 refine wpAny_bind (wpAny_newTuple ?_)
 have he₂ : PySem.W.KdxIt (h₁.push { cls := .type "tuple", data := .seq #[es[i].key, es[i].val] }) it d (i + 1) kvs.length ep ok ov a f := Heap.get?_push_of_some _ he₁
 generalize hh₂ : h₁.push { cls := .type "tuple", data := .seq #[es[i].key, es[i].val] } = h₂ at he₂
 have hz₁ : h₁.objs.size = hp.objs.size := hs₁.1
 have hil : it < hp.objs.size := Heap.lt_size hit
 have ht₂ : h₂.get? hp.objs.size = some { cls := .type "tuple", data := .seq #[es[i].key, es[i].val] } := by rw [← hh₂, ← hz₁]; exact Heap.get?_push_size _ rfl
 have hk₂ : ∀ b o, b ≠ it → hp.get? b = some o → h₂.get? b = some o := fun b o hb e => by rw [← hh₂]; exact Heap.get?_push_of_some _ (hs₁.extBut b o hb e)
 show wpAny _ _ (Builtin.Dict_items.ownedTupleIsFree (.ref it) >>= _) _ _ ⟨h₂, g, dr, tk, os⟩
 rw [hz₁]
 clear hh₂ he₁ hs₁ hT₁ hz₁ h₁
 refine wpAny_bind ?_
 unfold Builtin.Dict_items.ownedTupleIsFree
 refine wpAny_bind (wpAny_field he₂ rfl (x := rawInt a) rfl ?_)
 show wpAny _ _ (loadIfAlive ((a : Int).toNat) >>= _) _ _ _
 rw [Int.toNat_natCast]
 refine wpAny_bind (alive_any ?_)
 have fin : ∀ h₃ : Heap, (∃ ok ov a f, PySem.W.KdxIt h₃ it d (i + 1) kvs.length ep ok ov a f) → Heap.SameBut it h₂ h₃ → Q (some (.ref hp.objs.size)) ⟨h₃, g, dr, tk, os⟩ := fun h₃ he₃ hs₃ =>
  hQ es[i].key h₃ hkey he₃ (by rw [← hval]; exact hs₃.extBut _ _ (Nat.ne_of_gt hil) ht₂) fun b o hb e => hs₃.extBut b o hb (hk₂ b o hb e)
 cases hal : h₂.get? a with
 | some oa =>
  simp only [Option.isNone_some, Bool.false_eq_true, if_false]
  refine wpAny_bind (wpAny_field he₂ rfl (x := .bool f) rfl ?_)
  cases f with
  | true =>
   rw [if_neg (show ¬ ((Value.bool true != Value.bool true) = true) from Bool.false_ne_true)]
   refine wpAny_pure ?_
   simp only [Bool.false_eq_true, if_false]
   exact wpAny_pure (wpAny_pure ⟨_, rfl, wpAny_pure (fin h₂ ⟨_, _, _, _, he₂⟩ (Heap.SameBut.refl _ _))⟩)
  | false =>
   rw [if_pos (show (Value.bool false != Value.bool true) = true from rfl)]
   refine wpAny_bind (wpAny_setField_rec he₂ (by simp) fun h₃ he₃ hs₃ => ?_)
   replace hs₃ : Heap.SameBut it h₂ h₃ := hs₃
   replace he₃ : PySem.W.KdxIt h₃ it d (i + 1) kvs.length ep ok ov a true := he₃
   refine wpAny_pure ?_
   simp only [Bool.false_eq_true, if_false]
   exact wpAny_pure (wpAny_pure ⟨_, rfl, wpAny_pure (fin h₃ ⟨_, _, _, _, he₃⟩ hs₃)⟩)
 | none =>
  simp only [Option.isNone_none, if_true]
  refine wpAny_pure ?_
  simp only [if_true]
  refine wpAny_bind (wpAny_field he₂ rfl (x := ok) rfl ?_)
  refine wpAny_bind (wpAny_field he₂ rfl (x := ov) rfl ?_)
  refine wpAny_bind (wpAny_setField_rec he₂ (by simp) fun h₃ he₃ hs₃ => ?_)
  replace hs₃ : Heap.SameBut it h₂ h₃ := hs₃
  replace he₃ : PySem.W.KdxIt h₃ it d (i + 1) kvs.length ep es[i].key ov a f := he₃
  refine wpAny_bind (wpAny_setField_rec he₃ (by simp) fun h₄ he₄ hs₄ => ?_)
  replace hs₄ : Heap.SameBut it h₃ h₄ := hs₄
  replace he₄ : PySem.W.KdxIt h₄ it d (i + 1) kvs.length ep es[i].key es[i].val a f := he₄
  refine wpAny_bind (wpAny_setField_rec he₄ (by simp) fun h₅ he₅ hs₅ => ?_)
  replace hs₅ : Heap.SameBut it h₄ h₅ := hs₅
  replace he₅ : PySem.W.KdxIt h₅ it d (i + 1) kvs.length ep es[i].key es[i].val hp.objs.size f := he₅
  refine wpAny_bind (wpAny_setField_rec he₅ (by simp) fun h₆ he₆ hs₆ => ?_)
  replace hs₆ : Heap.SameBut it h₅ h₆ := hs₆
  replace he₆ : PySem.W.KdxIt h₆ it d (i + 1) kvs.length ep es[i].key es[i].val hp.objs.size false := he₆
  refine wpAny_bind (wpAny_letGo (wpAny_pure (wpAny_pure ⟨_, rfl, wpAny_pure (fin h₆ ⟨_, _, _, _, he₆⟩ ?_)⟩)))
  exact hs₃.trans (hs₄.trans (hs₅.trans hs₆))
end
section
variable {X : Cx}
theorem iter_it {P : Program} {w : World} {A : Around} {E : Value → Shared → Prop} {s : Shared} {it : Addr} {Q : Value → Shared → Prop} (hT : s.TypeIs (.ref it) "dict_itemiterator") (h : Q (.ref it) s) : wpAny (model P w) A (pyIter (.ref it)) Q E s := by
 refine wpAny_pyIter_slot hT F.slot_dict_itemiterator_iter (wpAny_call_entry F.slot_dict_itemiterator_iter hT entry_iter_items ?_ (F.args_dict_itemiterator_iter_1 _))
 show wpAny _ _ (ret (.ref it)) _ _ s
 exact wpAny_pure ⟨_, rfl, "dict_itemiterator", _, hT, F.slot_dict_itemiterator_next.lookup, h⟩
def StN (it d : Addr) (n ep i : Nat) (h : Heap) : Prop := (∃ ok ov, IsItemIter h it d i n ep ok ov) ∨ ∃ ok ov a f, PySem.W.KdxIt h it d i n ep ok ov a f
theorem StN.typ {it d : Addr} {n ep i : Nat} {s : Shared} (st : StN it d n ep i s.heap) : s.TypeIs (.ref it) "dict_itemiterator" := by
 rcases st with ⟨ok, ov, st⟩ | ⟨ok, ov, a, f, st⟩
 ·exact ⟨_, st, rfl⟩
 ·exact ⟨_, st, rfl⟩
theorem turn_itemsN {P : Program} {w : World} {K : Frag} {x : Str} {pos : Pos} (d it : Addr) (o : Obj) (kvs : List (Key × V)) {es0 : Array DictEntry} {ep : Nat} (he : o.data = .dict es0 ep) (hne : it ≠ d) :
  Turn P w K (.Name x pos) (Itd d o kvs) [it] it (StN it d kvs.length ep) where
 mem := by simp
 obj := fun i h st b hb => by
  have e : b = it := by simpa using hb
  subst e
  rcases st with ⟨ok, ov, st⟩ | ⟨ok, ov, a, f, st⟩
  ·exact ⟨_, st, fun v z => by cases z⟩
  ·exact ⟨_, st, fun v z => by cases z⟩
 keep := fun i h h' st k => by
  rcases st with ⟨ok, ov, st⟩ | ⟨ok, ov, a, f, st⟩
  ·exact .inl ⟨ok, ov, k it (by simp) _ st⟩
  ·exact .inr ⟨ok, ov, a, f, k it (by simp) _ st⟩
 item := by
  intro X hP hw hK hc i pins s σ H E I hf st hg
  subst hP hw hK
  obtain ⟨fz, hi⟩ := hg
  obtain ⟨hd, vs, rel, da, _⟩ := frz_at I.hok fz he
  have ek : kvs[i]? = some kvs[i] := gE hi
  obtain ⟨⟨k', u⟩, ev, e1, ru⟩ := paired_get rel ek
  have lv := rel.length
  rw [lv] at st
  have tz : s.heap.objs.size ≠ it := by
   obtain ⟨o, e, _⟩ := st.typ
   exact Nat.ne_of_gt (Heap.lt_size e)
  have hn := I.hok.fresh (Nat.le_refl s.heap.objs.size)
  have e1' : kvs[i].1 = k' := e1
  have fin : ∀ key h', (mixKind X.prog X.w).is k' key = true → (∃ ok ov a f, PySem.W.KdxIt h' it d (i + 1) vs.length ep ok ov a f) → h'.get? s.heap.objs.size = some { cls := .type "tuple", data := .seq #[key, u] } → (∀ b o, b ≠ it → s.heap.get? b = some o → h'.get? b = some o) →
    ∃ v, some (Value.ref s.heap.objs.size) = some v ∧ wpAny (model X.prog X.w) X.A (letOwnedTupleGo (.Name x pos) (.ref it) v) (fun _ s2 => ∃ x H', Inv X pins σ H' s2 ∧ RelV x v ∧ (Itd d o kvs).yld i H x H' ∧ StN it d kvs.length ep (i + 1) s2.heap ∧ ∀ b ∈ [it], H' b = none) E { s with heap := h' } := fun key h' hkey out tup kk => by
   refine ⟨_, rfl, wpAny_pure ?_⟩
   have I2 : Inv X pins σ (upd H s.heap.objs.size (.tup [kV kvs[i].1, kvs[i].2])) { s with heap := h', toks := s.toks } :=
    Inv.turnedT I (fun b o hb e => kk b o (by simpa using hb) e) hf (Nat.le_refl _) (by show 2 ≤ sizeLine; decide) (its := [key, u]) (.cons (by rw [e1']; exact key_rel hkey) (.cons ru .nil)) ⟨_, tup, rfl, _, rfl⟩
   refine ⟨.ref s.heap.objs.size, _, I2, rfl, ⟨s.heap.objs.size, kvs[i].1, kvs[i].2, ek, rfl, hn, rfl⟩, .inr (by rw [lv]; exact out), fun b hb => ?_⟩
   have eb : b = it := by simpa using hb
   rw [upd_ne (by rw [eb]; exact Ne.symm tz)]
   exact (hf b hb).1
  rcases st with ⟨ok, ov, st⟩ | ⟨ok, ov, a, f, st⟩
  ·exact wpAny_pyNext_items_item st da ev fun key h' hkey out tup sz kk => fin key h' hkey ⟨_, _, _, _, out⟩ tup kk
  ·exact items_out st da ev fun key h' hkey out tup kk => fin key h' hkey out tup kk
 done := by
  intro X hP hw hK hc i pins s σ H E I hf st hg
  subst hP hw hK
  obtain ⟨fz, hi⟩ := hg
  obtain ⟨hd, vs, rel, da, _⟩ := frz_at I.hok fz he
  have lv := rel.length
  rw [lv] at st
  obtain ⟨f0, f1, f2, f3, f4, f5⟩ := hf it (by simp)
  rcases st with ⟨ok, ov, st⟩ | ⟨ok, ov, a, f, st⟩
  ·exact wpAny_pyNext_items_end (I.ok.hd hc) st da (List.getElem?_eq_none (by omega)) fun h' eb => ⟨rfl, I.turned (t' := s.toks) (fun b o hb e => eb b o hb e) f0 f1 f3 f4 f5⟩
  ·exact PySem.W.kdx_end_out (I.ok.hd hc) st da (List.getElem?_eq_none (by omega)) fun h' eb => ⟨rfl, I.turned (t' := s.toks) (fun b o hb e => eb b o hb e) f0 f1 f3 f4 f5⟩
 self := fun _ _ _ _ _ st h => iter_it st.typ h
theorem pi_itemsN {e : Expr} {te : TE} {apos cpos : Pos} {x : Str} {tpos : Pos} (ho : PE X e te) (hbase : attributeBase e "items" X.env (eval e X.env) = eval e X.env := by rfl) (hline : (apos.endLine == cpos.line) = true := by rfl) :
  PI X (.Name x tpos) (.Call (.Attribute e "items" apos) [] [] cpos) (iItems te) := by
 intro pins s σ H R I h
 refine wpAny_Call_method0_late hbase hline (thn (ho pins s σ H _ I h) fun v s1 ⟨x, H1, I1, r1, q1⟩ => ?_)
 obtain ⟨d, kvs, rfl, e, q⟩ := q1
 cases r1
 obtain ⟨z, hd, vs, rel, o, es1, ep, ho1, hx, hdat, hk, hp, hn⟩ := dk_of I1.hok e
 obtain ⟨h1, h2⟩ := tyV_is (T := "dict") I1 (show RelV (.ref d) (.ref d) from rfl) (.inr (.inr (.inl ⟨rfl, .inl ⟨kvs, e⟩⟩)))
 have da : s1.heap.DictAt (mixKind X.prog X.w) d vs ep := ⟨o, es1, ho1, hx, hdat, hk, hp, hn⟩
 have lv := rel.length
 refine ⟨"dict", "dict.items", F.plainAttrs_dict, F.slot_dict_items, F.type_dict_items, h1, h2, Calls.callWith_builtin rfl (PySem.evalArgs_none ?_)⟩
 refine call_meetsIn F.slot_dict_items h1 F.entry_dict_items (F.args_dict_items_1 _) (meets_dict_items (mixKind X.prog X.w) d hd) ⟨⟨vs, da.dictOf⟩, ?_⟩
 have I2 := Inv.freeze I1 e ho1
 have da2 : (s1.heap.push { cls := .type "dict_items", data := .fields #[.ref d] }).DictAt (mixKind X.prog X.w) d vs ep := da.at' fun o e => Heap.get?_push_of_some _ e
 show wpAny (model X.prog X.w) X.A (pyIter (.ref s1.heap.objs.size)) _ _ _
 refine wpAny_pyIter_items (s := { s1 with heap := s1.heap.push { cls := .type "dict_items", data := .fields #[.ref d] } }) ⟨_, Heap.get?_push_size _ rfl, rfl, rfl⟩ da2 ?_
 have sz : (s1.heap.push { cls := .type "dict_items", data := .fields #[.ref d] }).objs.size = s1.heap.objs.size + 1 := Heap.size_push ..
 have ne : (s1.heap.push { cls := .type "dict_items", data := .fields #[.ref d] }).objs.size ≠ d := by
  rw [sz]
  exact Ne.symm (Nat.ne_of_lt (Nat.lt_succ_of_lt (Heap.lt_size ho1)))
 have I3 : Inv X pins σ (upd H1 d (.frz o (.dK kvs))) { s1 with heap := (s1.heap.push { cls := .type "dict_items", data := .fields #[.ref d] }).push { cls := .type "dict_itemiterator", data := .fields #[.none, .bool false, .ref d, .int 0 0, .int vs.length 0, .int ep 0, .none, .none] } } := I2.kept (t' := s1.toks) fun b o e => Heap.get?_push_of_some _ (Heap.get?_push_of_some _ e)
 refine ⟨_, [_], _, _, _, rfl, I3, turn_itemsN d _ o kvs hdat ne, .inl ⟨_, _, by rw [lv]; exact Heap.get?_push_size _ rfl⟩, fun b hb => ?_, q o⟩
 have eb : b = (s1.heap.push { cls := .type "dict_items", data := .fields #[.ref d] }).objs.size := by simpa using hb
 have le : s1.heap.objs.size ≤ b := by rw [eb, sz]; exact Nat.le_succ _
 exact I2.fpOk le (I2.hok.fresh le)
end
theorem comp_itemsN {D : Addr} {H1 : Hp} {Q : VK} {d : Addr} {o : Obj} {kvs : List (Key × V)} (nD : H1 D = none) (hn : kvs.length < sizeLine) (hX : H1 d = some (.frz o (.dK kvs)))
  (hd : ∀ us H, Same H1 H → H D = some (.lst us) → Paired (fun u (kv : Key × V) => ∃ p, u = .ref p ∧ H p = some (.tup [kV kv.1, kv.2])) us kvs → Q (.ref D) H) :
  tBlk D (gName 0) tYes (tVar 0) (Itd d o kvs) [none] H1 Q := by
 have snoc : ∀ {F : V → Key × V → Prop} {l₁ : List V} {l₂ : List (Key × V)} {a : V} {b : Key × V}, Paired F l₁ l₂ → F a b → Paired F (l₁ ++ [a]) (l₂ ++ [b]) := fun {F l₁ l₂ a b} h h' => by
  induction h with
  | nil => exact .cons h' .nil
  | cons x _ ih => exact .cons x ih
 refine ⟨fun i m σ zs H => m = kvs.length - i ∧ i ≤ kvs.length ∧ (∃ o, σ = [o]) ∧ Same H1 H ∧ H D = some (.lst zs) ∧ Paired (fun u (kv : Key × V) => ∃ p, u = .ref p ∧ H p = some (.tup [kV kv.1, kv.2])) zs (kvs.take i), ⟨kvs.length, by simp, Nat.zero_le _, ⟨none, rfl⟩, fun b o e => by rw [upd_ne (ne_of_none e nD)]; exact e, upd_same, by simpa using Paired.nil⟩, ?_⟩
 rintro i m σ zs H ⟨rfl, hi, ⟨o1, rfl⟩, s, hD, pz⟩
 by_cases hlt : i < kvs.length
 ·refine .inr ⟨⟨s _ _ hX, hlt⟩, fun v H' y => ?_⟩
  obtain ⟨p, k, x, q1, rfl, np, rfl⟩ := y
  have sp : Same H (upd H p (.tup [kV k, x])) := fun b o e => by rw [upd_ne (ne_of_none e np)]; exact e
  have hD2 := sp _ _ hD
  have lz := Paired.length pz
  rw [List.length_take] at lz
  unfold gName tYes
  dsimp only
  rw [if_pos rfl]
  have nDp : p ≠ D := fun z => by rw [z, hD] at np; cases np
  refine ⟨_, rfl, hD2, by omega, kvs.length - (i + 1), by omega, rfl, by omega, ⟨_, rfl⟩, fun b o e => ?_, upd_same, ?_⟩
  ·rw [upd_ne (ne_of_none e nD)]
   exact sp _ _ (s _ _ e)
  ·rw [take_snoc q1]
   refine snoc (Paired.mapP pz fun _ _ ⟨p', e1, e2⟩ => ⟨p', e1, ?_⟩) ⟨p, rfl, ?_⟩
   ·rw [upd_ne (fun z => by rw [z, hD] at e2; cases e2)]
    exact sp _ _ e2
   ·rw [upd_ne nDp, upd_same]
 ·have e : i = kvs.length := by omega
  subst e
  refine .inl ⟨⟨s _ _ hX, Nat.le_refl _⟩, hd zs H s hD ?_⟩
  rw [List.take_length] at pz
  exact pz
theorem comp_itemsD {K : Frag} {D : Addr} {te : TE} {cap : L2.St} {H1 : Hp} {Q : VK} {d : Addr} {o : Obj} {kvs : List (Key × V)} (Rel : Nat → V → Hp → Prop) (nD : H1 D = none) (hn : kvs.length < sizeLine) (hX : H1 d = some (.frz o (.dK kvs)))
  (hR : ∀ i v H H' ys, H D = some (.lst ys) → KSame D H H' → Rel i v H → Rel i v H')
  (he : ∀ i k y H (R : VK), kvs[i]? = some (k, y) → Same H1 H → (∃ zs, H D = some (.lst zs)) → (∀ v H6, Same H H6 → Rel i v H6 → R v H6) → te (some (kV k) :: some y :: cap) H R)
  (hd : ∀ zs H, zs.length = kvs.length → (∀ i v, zs[i]? = some v → Rel i v H) → Same H1 H → H D = some (.lst zs) → Q (.ref D) H) :
  tBlk D (gTup K 2 (gCons (gName 0) (gCons (gName 1) gNil))) tYes te (Itd d o kvs) (none :: none :: cap) H1 Q := by
 refine ⟨fun i m σ zs H => m = kvs.length - i ∧ i ≤ kvs.length ∧ (∃ o o', σ = o :: o' :: cap) ∧ (zs.length = i ∧ (∀ i v, zs[i]? = some v → Rel i v H) ∧ Same H1 H) ∧ H D = some (.lst zs), ⟨kvs.length, by simp, Nat.zero_le _, ⟨none, none, rfl⟩, ⟨rfl, fun i v e => by simp at e, fun b o e => by rw [upd_ne (ne_of_none e nD)]; exact e⟩, upd_same⟩, ?_⟩
 rintro i m σ zs H ⟨rfl, hi, ⟨o1, o', rfl⟩, ⟨l, r, s⟩, hD⟩
 by_cases hlt : i < kvs.length
 ·refine .inr ⟨⟨s _ _ hX, hlt⟩, fun v H' y => ?_⟩
  obtain ⟨p, k, x, q1, rfl, np, rfl⟩ := y
  have sp : Same H (upd H p (.tup [kV k, x])) := fun b o e => by rw [upd_ne (ne_of_none e np)]; exact e
  refine ⟨p, _, rfl, SqT.of upd_same, rfl, _, _, rfl, _, _, rfl, rfl, ?_⟩
  unfold tYes
  dsimp only
  rw [if_pos rfl]
  refine he i k x _ _ q1 (fun b o e => sp _ _ (s _ _ e)) ⟨zs, sp _ _ hD⟩ fun v H6 s6 rv => ⟨s6 _ _ (sp _ _ hD), by omega, kvs.length - (i + 1), by omega, rfl, by omega, ⟨_, _, rfl⟩, ⟨by simp [l], fun j u e => ?_, fun b o e => ?_⟩, upd_same⟩
  ·by_cases c : j < zs.length
   ·rw [List.getElem?_append_left c] at e
    have ru := hR j u H H6 zs hD (KSame.of fun b o q => s6 _ _ (sp _ _ q)) (r j u e)
    exact hR j u H6 _ zs (s6 _ _ (sp _ _ hD)) KSame.upd ru
   ·rw [List.getElem?_append_right (by omega)] at e
    have ej : j = i := by
     by_cases z : j - zs.length = 0
     ·omega
     ·rw [List.getElem?_eq_none (by simp; omega)] at e
      cases e
    subst ej
    have : v = u := by
     rw [show j - zs.length = 0 by omega] at e
     exact Option.some.inj e
    subst this
    exact hR j v H6 _ zs (s6 _ _ (sp _ _ hD)) KSame.upd rv
  ·rw [upd_ne (ne_of_none e nD)]
   exact s6 _ _ (sp _ _ (s _ _ e))
 ·have e : i = kvs.length := by omega
  subst e
  exact .inl ⟨⟨s _ _ hX, Nat.le_refl _⟩, hd zs H l r s hD⟩
end Ty
set_option maxHeartbeats 4000000
namespace T_k15
open PySem PySem.Spec PyProof.Rows L2 Ty
open Builtin.Int (intBits)
seal L2.PE L2.PS L2.PSs L2.PA
theorem sq {N P : List Str} {sc : Scope} (a : sc.kind = .function := by exact rfl) (b : sc.isCoroutine = false := by exact rfl) (c : sc.isGenerator = false := by exact rfl) (d : N.Nodup := by decide +kernel) (e : N.take P.length = P := by exact rfl) (f : ∀ x ∈ P, sc.names.lookup x = some .local ∨ sc.names.lookup x = some .cell := by decide +kernel) (g : ∀ y ∈ sc.names, y.2 ≠ .free := by decide +kernel) : FnScope N P sc := ⟨a, b, c, d, e, f, g⟩
theorem pY (P : Program) (w : World) {X : Cx} : Passes (CXr P w) X.nox E0 := passM CXr.mute
theorem pX {P : Program} {w : World} {X : Cx} : Passes (CXr P w) X.nox E0 := passM CXr.mute
theorem _root_.L2.Room.mo {j k : Nat} {A : Around} (r : L2.Room k A) (h : j ≤ k := by decide) : L2.Room j A := r.mono h
theorem pe_tx {X : Cx} {a : Expr} {ta : TE} {i j p1 p2} (h : PE X a ta) : PE X (.Subscript a (.Constant (.int i) j p1) p2) (tOp (rIxT X.K) ta (tC (.int i))) := pe_ix ix_tup h pe_int (fun _ _ => rfl)
theorem pe_lx {X : Cx} {a : Expr} {ta : TE} {i j p1 p2} (h : PE X a ta) : PE X (.Subscript a (.Constant (.int i) j p1) p2) (tOp (rIxL X.K) ta (tC (.int i))) := pe_ix ix_list h pe_int (fun _ _ => rfl)
theorem _root_.L2.Fun.bnd {K : Frag} {x qual : Str} {st : Stmt} {f : Addr} {fd : FuncData} {ps : List Str} (F : L2.Fun K x qual st f fd)
 (h : ∀ (kV doc pm : Value) (an : Option Addr) (cdv ct : Value) (us : List Value), us.length = ps.length → bindArgs (fnOf x qual (defArgs st) (defBody st) (defScope st) .none kV doc pm an cdv ct) ⟨us, []⟩ = pure (ps.zip us) := by first | exact (fun _ _ _ _ _ _ us hl => match us, hl with | [_], _ => rfl) | exact (fun _ _ _ _ _ _ us hl => match us, hl with | [_, _], _ => rfl) | exact (fun _ _ _ _ _ _ us hl => match us, hl with | [_, _, _], _ => rfl) | exact (fun _ _ _ _ _ _ us hl => match us, hl with | [_, _, _, _], _ => rfl) | exact (fun _ _ _ _ _ _ us hl => match us, hl with | [_, _, _, _, _], _ => rfl)) : Binds K fd ps [] := F.binds h
theorem dof {K : Frag} {mg : Str → Option Value} {h : Heap} {x : Str} {st : Stmt} {ps : List Str} {f : Addr} {oc : Value} {od an : Option Addr} {osl : Array (Option Value)} {kV doc pm cdv ct : Value} (X : K.In h) (G : h.Ns mainGlobals mg) (l : K.lookup f = some ⟨oc, od, .func (fnOf x x (defArgs st) (defBody st) (defScope st) .none kV doc pm an cdv ct), osl⟩) (c : codeIn K cdv x = true) (k : keepIn K (.ref f) = true) (a : nsIn K mainGlobals x = some (some (.ref f)))
 (b : ∀ (kV doc pm : Value) (an : Option Addr) (cdv ct : Value) (us : List Value), us.length = ps.length → bindArgs (fnOf x x (defArgs st) (defBody st) (defScope st) .none kV doc pm an cdv ct) ⟨us, []⟩ = pure (ps.zip us) := by first | exact (fun _ _ _ _ _ _ us hl => match us, hl with | [_], _ => rfl) | exact (fun _ _ _ _ _ _ us hl => match us, hl with | [_, _], _ => rfl) | exact (fun _ _ _ _ _ _ us hl => match us, hl with | [_, _, _], _ => rfl) | exact (fun _ _ _ _ _ _ us hl => match us, hl with | [_, _, _, _], _ => rfl) | exact (fun _ _ _ _ _ _ us hl => match us, hl with | [_, _, _, _, _], _ => rfl)) : Def K mg x st ps := Def.of (fun_mk l c k) ((fun_mk l c k).binds b) (mg_of X G a)
def top (i : Nat) : Stmt := PySem.Challenge.pw_trussyard_k15_forces_at_pins.main.body.getD i (.Pass ⟨0, 0, 0, 0⟩)
abbrev s_b5 : Stmt := top 1
abbrev s_bi : Stmt := top 2
abbrev s_PinThere : Stmt := top 3
abbrev s_SpotTaken : Stmt := top 4
abbrev s_NoPin : Stmt := top 5
abbrev s_PinBusy : Stmt := top 6
abbrev s_BarThere : Stmt := top 7
abbrev s_NoBar : Stmt := top 8
abbrev s_NoLength : Stmt := top 9
abbrev s_TooMany : Stmt := top 10
abbrev s_bg : Stmt := top 13
abbrev s_a8 : Stmt := top 14
abbrev s_am : Stmt := top 15
abbrev s_ac : Stmt := top 16
abbrev s_a0 : Stmt := top 17
abbrev s_az : Stmt := top 20
abbrev s_an : Stmt := top 21
abbrev s_af : Stmt := top 22
abbrev s_bd : Stmt := top 23
abbrev s_a1 : Stmt := top 24
abbrev s_ay : Stmt := top 25
abbrev s_Frame : Stmt := top 29
abbrev s_Hold : Stmt := top 31
abbrev s_Roller : Stmt := top 32
abbrev s_Fixed : Stmt := top 33
abbrev s_ad : Stmt := top 35
abbrev s_b6 : Stmt := top 36
abbrev s_aj : Stmt := top 37
abbrev s_b7 : Stmt := top 38
abbrev s_au : Stmt := top 39
abbrev s_av : Stmt := top 40
abbrev s_aw : Stmt := top 41
abbrev s_b8 : Stmt := top 42
abbrev s_b9 : Stmt := top 43
abbrev s_ba : Stmt := top 44
abbrev s_ae : Stmt := top 45
abbrev s_ax : Stmt := top 46
abbrev s_ab : Stmt := top 47
abbrev s_ak : Stmt := top 48
abbrev s_bb : Stmt := top 49
abbrev s_al : Stmt := top 50
abbrev s_a7 : Stmt := top 51
abbrev s_a4 : Stmt := top 52
abbrev s_be : Stmt := top 53
abbrev s_bc : Stmt := top 54
abbrev s_law : Stmt := top 55
abbrev s_ao : Stmt := inClass (top 29) 0
abbrev s_a9 : Stmt := inClass (top 29) 1
abbrev s_aa : Stmt := inClass (top 29) 2
abbrev s_a3 : Stmt := inClass (top 29) 3
abbrev s_a2 : Stmt := inClass (top 29) 4
abbrev s_a5 : Stmt := inClass (top 29) 5
abbrev s_a6 : Stmt := inClass (top 29) 6
abbrev s_ap : Stmt := inClass (top 29) 7
abbrev s_aq : Stmt := inClass (top 29) 8
abbrev s_ag : Stmt := inClass (top 29) 9
abbrev s_ar : Stmt := inClass (top 29) 10
abbrev s_as : Stmt := inClass (top 29) 11
abbrev s_b0 : Stmt := inClass (top 31) 0
abbrev s_ah : Stmt := inClass (top 32) 0
abbrev s_ai : Stmt := inClass (top 32) 1
abbrev s_at : Stmt := inClass (top 33) 0
section
variable {P : Program} {w : World} {K : Frag} {mg : Str → Option Value} {base : Heap} {CX : CXT}
def Nm (H : Hp) (v : V) (q : Int × Int) : Prop := ∃ p, v = .ref p ∧ H p = some (.tup [.int q.1, .int q.2])
structure Okn (k : Nat) (q : Int × Int) : Prop where
 pos : 0 < q.2
 top : intBits q.1 ≤ k
 bot : intBits q.2 ≤ k
theorem same_new {H : Hp} {p : Addr} (h : H p = none) (o : HO) : Same H (upd H p o) := fun b u q => by rw [upd_ne (ne_of_none q h)]; exact q
theorem nw {H H' : Hp} {l : Addr} {o : HO} (n : H l = none) (e : upd H l o = H') : Same H H' ∧ H' l = some o := by subst e; exact ⟨same_new n o, upd_same⟩
def gives (H : Hp) (Q : VK) (q : Int × Int) : Prop := ∀ (p : Addr) (H' : Hp), Same H H' → H' p = some (.tup [.int q.1, .int q.2]) → Q (.ref p) H'
def spShared : Sp := fun vs H Q _ => ∃ a b : Int, vs = [.int a, .int b] ∧ Q (.int (gz a b)) H
def spLowest : Sp := fun vs H Q _ => ∃ t b : Int, vs = [.int t, .int b] ∧ b ≠ 0 ∧ intBits b ≤ 9000 ∧ gives H Q (low t b)
def spBin (f : Int × Int → Int × Int → Int × Int) : Sp := fun vs H Q _ => ∃ (u v : V) (x y : Int × Int), vs = [u, v] ∧ Nm H u x ∧ Nm H v y ∧ Okn 4000 x ∧ Okn 4000 y ∧ gives H Q (f x y)
def addQ (x y : Int × Int) : Int × Int := low (x.1 * y.2 + y.1 * x.2) (x.2 * y.2)
def subQ (x y : Int × Int) : Int × Int := low (x.1 * y.2 - y.1 * x.2) (x.2 * y.2)
def mulQ (x y : Int × Int) : Int × Int := low (x.1 * y.1) (x.2 * y.2)
theorem pos_mul {x y : Int × Int} {k l : Nat} (hx : Okn k x) (hy : Okn l y) : x.2 * y.2 ≠ 0 := Int.ne_of_gt (Int.mul_pos hx.pos hy.pos)
theorem at0 {a b : V} : atI [a, b] 0 = some a := rfl
theorem at1 {a b : V} : atI [a, b] 1 = some b := rfl
theorem sc_a0 : FnScope ["one", "other", "left"] ["one", "other"] (defScope s_a0) := sq
theorem ok_a0 (D : Def K mg "greatest_shared" s_a0 ["one", "other"]) (m_abs : mg "abs" = none) : Fn P w K mg base CX 1 "greatest_shared" ["one", "other"] spShared := by
 refine D.ok sc_a0 (fun vs H Q E h => ?_) (fun f cdv A outer s H vs Q E hr h => ?_)
 ·obtain ⟨a, b, rfl, _⟩ := h
  rfl
 obtain ⟨a, b, rfl, q⟩ := h
 refine ⟨_, (pss_cons (ps_while PassesOwn.never (pt_cmpR op_ne (pv 1) pe_int (nomark _)) (pss_cons (ps_set (i := 2) sc_a0.nd rfl (Or.inl rfl) (pe_op op_modB (pv 0) (pv 1)))
   (pss_cons (ps_set (i := 0) sc_a0.nd rfl (Or.inl rfl) (pv 1))
   (pss_one (ps_set (i := 1) sc_a0.nd rfl (Or.inl rfl) (pv 2))))))
  (pss_one (ps_ret (pe_callB call_abs rfl m_abs b_abs (pac (pv 0) pa_nil))))), ?_⟩
 refine while_by (fun σ H' => ∃ (x y : Int) (l : Option V), σ = [some (.int x), some (.int y), l] ∧ H' = H ∧ Int.gcd x y = Int.gcd a b) (fun σ _ => match σ with | [_, some (.int y), _] => y.natAbs | _ => 0) ⟨a, b, none, rfl, rfl, rfl⟩ ?_ ?_
 ·rintro σ H' ⟨x, y, l, rfl, rfl, g⟩
  refine ⟨_, rfl, rfl, _, rfl, ?_⟩
  refine ite2 (fun c => ?_) (fun c => ?_)
  ·have hy : y ≠ 0 := by
    intro z
    subst z
    simp at c
   refine ⟨_, rfl, _, rfl, _, _, rfl, rfl, hy, ?_⟩
   refine ⟨_, rfl, _, rfl, ?_⟩
   exact ⟨⟨_, _, _, rfl, rfl, by rw [gcd_step]; exact g⟩, fmod_less hy⟩
  ·have hy : y = 0 := by
    have := Bool.eq_false_iff.mpr c
    simp at this
    exact this
   subst hy
   refine ⟨_, rfl, x, rfl, ?_⟩
   have e : (if x < 0 then -x else x) = gz a b := by
    rw [Int.gcd_zero_right] at g
    unfold gz
    rw [← g]
    split <;> omega
   rw [e]
   exact q
 ·rintro σ H' Q1 Q2 h ⟨v, e1, e2, k, ek, z⟩
  exact ⟨v, e1, e2, k, ek, h _ _ z⟩
def spLowestU : Sp := fun vs H Q _ => ∃ t b : Int, vs = [.int t, .int b] ∧ b ≠ 0 ∧ gives H Q (low t b)
theorem sc_ac : FnScope ["top", "bottom", "shared"] ["top", "bottom"] (defScope s_ac) := sq
theorem ok_ac (ht : P.given.tree = none) (D : Def K mg "lowest_terms" s_ac ["top", "bottom"]) (G_a0 : Fn P w K mg base (CXr P w) 1 "greatest_shared" ["one", "other"] spShared) : Fn P w K mg base (CXr P w) 33 "lowest_terms" ["top", "bottom"] spLowestU := by
 refine D.ok sc_ac (fun vs H Q E h => ?_) (fun f cdv A outer s H vs Q E hr h => ?_)
 ·obtain ⟨t, b, rfl, _⟩ := h
  rfl
 obtain ⟨t, b, rfl, hb, q⟩ := h
 have tail2 : ∃ tt, PSs (cxOf (CXr P w) P w K mg base ["top", "bottom", "shared"] "lowest_terms" (defScope s_ac) f cdv A outer s H E).nox ((defBody s_ac).drop 2) tt ∧ ∀ g : Int, g = sg t b → tt { nx := fun _ H' => Q .non H', rt := Q } [some (.int t), some (.int b), some (.int g)] H := by
  refine ⟨_, (pss_one (ps_ret (pe_tup (pac (pe_op (op_fdivU ht (Ty.Room.py hr (by decide)) rfl rfl rfl rfl rfl) (pv 0) (pv 2)) (pac (pe_op (op_fdivU ht (Ty.Room.py hr (by decide)) rfl rfl rfl rfl rfl) (pv 1) (pv 2)) pa_nil))))), ?_⟩
  rintro g rfl
  have c := sg_ne (t := t) hb
  refine ⟨_, rfl, _, rfl, _, _, rfl, rfl, c, _, rfl, _, rfl, _, _, rfl, rfl, c, (by show 2 ≤ sizeLine; decide), fun p hp => ?_⟩
  exact q p _ (same_new hp _) upd_same
 obtain ⟨t2, p2, q2⟩ := tail2
 refine ⟨_, (pss_cons (ps_set (i := 2) sc_ac.nd rfl (Or.inl rfl) (pe_fn G_a0 hr.mo pX (pac (pv 0) (pac (pv 1) pa_nil)))) (pss_cons (ps_if (pt_cmpR op_lt (pv 1) pe_int (nomark _)) (pss_one (ps_set (i := 2) sc_ac.nd rfl (Or.inl rfl) (pe_un un_neg (pv 2)))) pss_nil) p2)), ?_⟩
 refine ⟨_, rfl, _, rfl, t, b, rfl, ?_⟩
 refine ⟨_, rfl, _, _, rfl, rfl, _, rfl, ?_⟩
 refine ite2 (fun c => ?_) (fun c => ?_)
 ·refine ⟨_, rfl, _, rfl, q2 _ ?_⟩
  have c' : b < 0 := of_decide_eq_true c
  unfold sg
  rw [if_pos c']
 ·refine q2 _ ?_
  have c' : ¬ b < 0 := of_decide_eq_false (Bool.eq_false_iff.mpr c)
  unfold sg
  rw [if_neg c']
def spBinK (K : Frag) (f : Int × Int → Int × Int → Int × Int) : Sp := fun vs H Q _ => ∃ (u v : V) (x y : Int × Int), vs = [u, v] ∧ NmK K H u x ∧ NmK K H v y ∧ Okn 100000 x ∧ Okn 100000 y ∧ gives H Q (f x y)
theorem sc_bg : FnScope ["one", "other"] ["one", "other"] (defScope s_bg) := sq
theorem ok_bg (hM : Mute CX) (D : Def K mg "sum_of" s_bg ["one", "other"]) (G_ac : Fn P w K mg base CX 33 "lowest_terms" ["top", "bottom"] spLowestU) : Fn P w K mg base CX 34 "sum_of" ["one", "other"] (spBinK K addQ) := by
 refine D.ok sc_bg (fun vs H Q E h => ?_) (fun f cdv A outer s H vs Q E hr h => ?_)
 ·obtain ⟨u, v, x, y, rfl, _⟩ := h
  rfl
 obtain ⟨u, v, x, y, rfl, ⟨p1, rfl, h1⟩, ⟨p2, rfl, h2⟩, k1, k2, q⟩ := h
 have px := passM (X := cxOf CX P w K mg base ["one", "other"] "sum_of" (defScope s_bg) f cdv A outer s H E) hM
 refine ⟨_, (pss_one (ps_ret (pe_fn G_ac hr.mo px (pac (pe_op op_add (pe_op op_mulB (pe_tx (pv 0)) (pe_tx (pv 1))) (pe_op op_mulB (pe_tx (pv 1)) (pe_tx (pv 0)))) (pac (pe_op op_mulB (pe_tx (pv 0)) (pe_tx (pv 1))) pa_nil))))), ?_⟩
 have b1 := k1.top
 have b2 := k1.bot
 have b3 := k2.top
 have b4 := k2.bot
 have c : ∀ {i j : Int}, intBits i ≤ 100000 → intBits j ≤ 100000 → CMulB i j := fun a b => ⟨Nat.le_trans a (by decide), Nat.le_trans b (by decide)⟩
 refine ⟨_, rfl, p1, _, _, _, rfl, rfl, h1, at0, _, rfl, p2, _, _, _, rfl, rfl, h2, at1, _, _, rfl, rfl, c b1 b4, ?_⟩
 refine ⟨_, rfl, p2, _, _, _, rfl, rfl, h2, at0, _, rfl, p1, _, _, _, rfl, rfl, h1, at1, _, _, rfl, rfl, c b3 b2, ?_⟩
 refine ⟨_, _, rfl, rfl, ?_⟩
 refine ⟨_, rfl, p1, _, _, _, rfl, rfl, h1, at1, _, rfl, p2, _, _, _, rfl, rfl, h2, at1, _, _, rfl, rfl, c b2 b4, ?_⟩
 exact ⟨_, _, rfl, pos_mul k1 k2, q⟩
theorem sc_a8 : FnScope ["one", "other"] ["one", "other"] (defScope s_a8) := sq
theorem ok_a8 (hM : Mute CX) (D : Def K mg "difference_of" s_a8 ["one", "other"]) (G_ac : Fn P w K mg base CX 33 "lowest_terms" ["top", "bottom"] spLowestU) : Fn P w K mg base CX 34 "difference_of" ["one", "other"] (spBinK K subQ) := by
 refine D.ok sc_a8 (fun vs H Q E h => ?_) (fun f cdv A outer s H vs Q E hr h => ?_)
 ·obtain ⟨u, v, x, y, rfl, _⟩ := h
  rfl
 obtain ⟨u, v, x, y, rfl, ⟨p1, rfl, h1⟩, ⟨p2, rfl, h2⟩, k1, k2, q⟩ := h
 have px := passM (X := cxOf CX P w K mg base ["one", "other"] "difference_of" (defScope s_a8) f cdv A outer s H E) hM
 refine ⟨_, (pss_one (ps_ret (pe_fn G_ac hr.mo px (pac (pe_op op_sub (pe_op op_mulB (pe_tx (pv 0)) (pe_tx (pv 1))) (pe_op op_mulB (pe_tx (pv 1)) (pe_tx (pv 0)))) (pac (pe_op op_mulB (pe_tx (pv 0)) (pe_tx (pv 1))) pa_nil))))), ?_⟩
 have b1 := k1.top
 have b2 := k1.bot
 have b3 := k2.top
 have b4 := k2.bot
 have c : ∀ {i j : Int}, intBits i ≤ 100000 → intBits j ≤ 100000 → CMulB i j := fun a b => ⟨Nat.le_trans a (by decide), Nat.le_trans b (by decide)⟩
 refine ⟨_, rfl, p1, _, _, _, rfl, rfl, h1, at0, _, rfl, p2, _, _, _, rfl, rfl, h2, at1, _, _, rfl, rfl, c b1 b4, ?_⟩
 refine ⟨_, rfl, p2, _, _, _, rfl, rfl, h2, at0, _, rfl, p1, _, _, _, rfl, rfl, h1, at1, _, _, rfl, rfl, c b3 b2, ?_⟩
 refine ⟨_, _, rfl, rfl, ?_⟩
 refine ⟨_, rfl, p1, _, _, _, rfl, rfl, h1, at1, _, rfl, p2, _, _, _, rfl, rfl, h2, at1, _, _, rfl, rfl, c b2 b4, ?_⟩
 exact ⟨_, _, rfl, pos_mul k1 k2, q⟩
theorem sc_am : FnScope ["one", "other"] ["one", "other"] (defScope s_am) := sq
theorem ok_am (hM : Mute CX) (D : Def K mg "product_of" s_am ["one", "other"]) (G_ac : Fn P w K mg base CX 33 "lowest_terms" ["top", "bottom"] spLowestU) : Fn P w K mg base CX 34 "product_of" ["one", "other"] (spBinK K mulQ) := by
 refine D.ok sc_am (fun vs H Q E h => ?_) (fun f cdv A outer s H vs Q E hr h => ?_)
 ·obtain ⟨u, v, x, y, rfl, _⟩ := h
  rfl
 obtain ⟨u, v, x, y, rfl, ⟨p1, rfl, h1⟩, ⟨p2, rfl, h2⟩, k1, k2, q⟩ := h
 have px := passM (X := cxOf CX P w K mg base ["one", "other"] "product_of" (defScope s_am) f cdv A outer s H E) hM
 refine ⟨_, (pss_one (ps_ret (pe_fn G_ac hr.mo px (pac (pe_op op_mulB (pe_tx (pv 0)) (pe_tx (pv 1))) (pac (pe_op op_mulB (pe_tx (pv 0)) (pe_tx (pv 1))) pa_nil))))), ?_⟩
 have b1 := k1.top
 have b2 := k1.bot
 have b3 := k2.top
 have b4 := k2.bot
 have c : ∀ {i j : Int}, intBits i ≤ 100000 → intBits j ≤ 100000 → CMulB i j := fun a b => ⟨Nat.le_trans a (by decide), Nat.le_trans b (by decide)⟩
 refine ⟨_, rfl, p1, _, _, _, rfl, rfl, h1, at0, _, rfl, p2, _, _, _, rfl, rfl, h2, at0, _, _, rfl, rfl, c b1 b3, ?_⟩
 refine ⟨_, rfl, p1, _, _, _, rfl, rfl, h1, at1, _, rfl, p2, _, _, _, rfl, rfl, h2, at1, _, _, rfl, rfl, c b2 b4, ?_⟩
 exact ⟨_, _, rfl, pos_mul k1 k2, q⟩
def givesR (H : Hp) (Q : VK) (r : Rat) : Prop := gives H Q (qr r)
def spBinR (K : Frag) (f : Rat → Rat → Rat) : Sp := fun vs H Q _ => ∃ (u v : V) (x y : Rat), vs = [u, v] ∧ NmR K H u x ∧ NmR K H v y ∧ Sz 100000 x ∧ Sz 100000 y ∧ gives H Q (qr (f x y))
theorem okn_qr {k : Nat} {r : Rat} (h : Sz k r) : Okn k (qr r) := ⟨qr_pos r, h.top, h.bot⟩
theorem fn_add {k : Nat} {x : Str} {ps : List Str} (F : Fn P w K mg base CX k x ps (spBinK K addQ)) : Fn P w K mg base CX k x ps (spBinR K fun a b => a + b) := by
 obtain ⟨f, fd, G, r⟩ := F.ex
 refine ⟨f, fd, G.imp fun vs H Q E h => ?_, r⟩
 obtain ⟨u, v, a, b, e, h1, h2, k1, k2, q⟩ := h
 refine ⟨u, v, qr a, qr b, e, h1, h2, okn_qr k1, okn_qr k2, ?_⟩
 unfold addQ
 rw [qr_add]
 exact q
theorem fn_sub {k : Nat} {x : Str} {ps : List Str} (F : Fn P w K mg base CX k x ps (spBinK K subQ)) : Fn P w K mg base CX k x ps (spBinR K fun a b => a - b) := by
 obtain ⟨f, fd, G, r⟩ := F.ex
 refine ⟨f, fd, G.imp fun vs H Q E h => ?_, r⟩
 obtain ⟨u, v, a, b, e, h1, h2, k1, k2, q⟩ := h
 refine ⟨u, v, qr a, qr b, e, h1, h2, okn_qr k1, okn_qr k2, ?_⟩
 unfold subQ
 rw [qr_sub]
 exact q
theorem fn_mul {k : Nat} {x : Str} {ps : List Str} (F : Fn P w K mg base CX k x ps (spBinK K mulQ)) : Fn P w K mg base CX k x ps (spBinR K fun a b => a * b) := by
 obtain ⟨f, fd, G, r⟩ := F.ex
 refine ⟨f, fd, G.imp fun vs H Q E h => ?_, r⟩
 obtain ⟨u, v, a, b, e, h1, h2, k1, k2, q⟩ := h
 refine ⟨u, v, qr a, qr b, e, h1, h2, okn_qr k1, okn_qr k2, ?_⟩
 unfold mulQ
 rw [qr_mul]
 exact q
def givesP (K : Frag) (H : Hp) (Q : VK) (p : Rat × Rat) : Prop := ∀ (v : V) (H' : Hp), Same H H' → PtR K H' v p → Q v H'
def spPair (K : Frag) (f : Rat → Rat → Rat) : Sp := fun vs H Q _ => ∃ (u v : V) (x y : Rat × Rat), vs = [u, v] ∧ PtR K H u x ∧ PtR K H v y ∧ Sz 100000 x.1 ∧ Sz 100000 x.2 ∧ Sz 100000 y.1 ∧ Sz 100000 y.2 ∧ givesP K H Q (f x.1 y.1, f x.2 y.2)
theorem sc_bd : FnScope ["one", "other"] ["one", "other"] (defScope s_bd) := sq
theorem ok_bd (hM : Mute CX) (D : Def K mg "pair_sum" s_bd ["one", "other"]) (G_bg : Fn P w K mg base CX 34 "sum_of" ["one", "other"] (spBinR K fun a b => a + b)) : Fn P w K mg base CX 35 "pair_sum" ["one", "other"] (spPair K fun a b => a + b) := by
 refine D.ok sc_bd (fun vs H Q E h => ?_) (fun f cdv A outer s H vs Q E hr h => ?_)
 ·obtain ⟨u, v, x, y, rfl, _⟩ := h
  rfl
 obtain ⟨u, v, x, y, rfl, ⟨p1, a1, a2, rfl, h1, n1, n2⟩, ⟨p2, b1, b2, rfl, h2, m1, m2⟩, k1, k2, l1, l2, q⟩ := h
 have px := passM (X := (cxOf (CXr P w) P w K mg base ["one", "other"] "pair_sum" (defScope s_bd) f cdv A outer s H E)) hM
 refine ⟨_, (pss_one (ps_ret (pe_tup (pac (pe_fn G_bg hr.mo px (pac (pe_tx (pv 0)) (pac (pe_tx (pv 1)) pa_nil))) (pac (pe_fn G_bg hr.mo px (pac (pe_tx (pv 0)) (pac (pe_tx (pv 1)) pa_nil))) pa_nil))))), ?_⟩
 refine ⟨_, rfl, p1, _, _, _, rfl, rfl, h1, at0, _, rfl, p2, _, _, _, rfl, rfl, h2, at0, a1, b1, _, _, rfl, n1, m1, k1, l1, fun c1 H1 s1 e1 => ?_⟩
 refine ⟨_, rfl, p1, _, _, _, rfl, rfl, Ty.Same.seqT s1 h1, at1, _, rfl, p2, _, _, _, rfl, rfl, Ty.Same.seqT s1 h2, at1, a2, b2, _, _, rfl, n2.same s1, m2.same s1, k2, l2, fun c2 H2 s2 e2 => ?_⟩
 refine ⟨(by show 2 ≤ sizeLine; decide), fun c3 n3 => ?_⟩
 have s3 := same_new n3 (.tup [.ref c1, .ref c2])
 exact q (.ref c3) _ (fun b o z => s3 _ _ (s2 _ _ (s1 _ _ z))) ⟨c3, _, _, rfl, SqT.of upd_same, ⟨c1, rfl, SqT.of (s3 _ _ (s2 _ _ e1))⟩, ⟨c2, rfl, SqT.of (s3 _ _ e2)⟩⟩
theorem sc_a1 : FnScope ["one", "other"] ["one", "other"] (defScope s_a1) := sq
theorem ok_a1 (hM : Mute CX) (D : Def K mg "pair_difference" s_a1 ["one", "other"]) (G_a8 : Fn P w K mg base CX 34 "difference_of" ["one", "other"] (spBinR K fun a b => a - b)) : Fn P w K mg base CX 35 "pair_difference" ["one", "other"] (spPair K fun a b => a - b) := by
 refine D.ok sc_a1 (fun vs H Q E h => ?_) (fun f cdv A outer s H vs Q E hr h => ?_)
 ·obtain ⟨u, v, x, y, rfl, _⟩ := h
  rfl
 obtain ⟨u, v, x, y, rfl, ⟨p1, a1, a2, rfl, h1, n1, n2⟩, ⟨p2, b1, b2, rfl, h2, m1, m2⟩, k1, k2, l1, l2, q⟩ := h
 have px := passM (X := (cxOf (CXr P w) P w K mg base ["one", "other"] "pair_difference" (defScope s_a1) f cdv A outer s H E)) hM
 refine ⟨_, (pss_one (ps_ret (pe_tup (pac (pe_fn G_a8 hr.mo px (pac (pe_tx (pv 0)) (pac (pe_tx (pv 1)) pa_nil))) (pac (pe_fn G_a8 hr.mo px (pac (pe_tx (pv 0)) (pac (pe_tx (pv 1)) pa_nil))) pa_nil))))), ?_⟩
 refine ⟨_, rfl, p1, _, _, _, rfl, rfl, h1, at0, _, rfl, p2, _, _, _, rfl, rfl, h2, at0, a1, b1, _, _, rfl, n1, m1, k1, l1, fun c1 H1 s1 e1 => ?_⟩
 refine ⟨_, rfl, p1, _, _, _, rfl, rfl, Ty.Same.seqT s1 h1, at1, _, rfl, p2, _, _, _, rfl, rfl, Ty.Same.seqT s1 h2, at1, a2, b2, _, _, rfl, n2.same s1, m2.same s1, k2, l2, fun c2 H2 s2 e2 => ?_⟩
 refine ⟨(by show 2 ≤ sizeLine; decide), fun c3 n3 => ?_⟩
 have s3 := same_new n3 (.tup [.ref c1, .ref c2])
 exact q (.ref c3) _ (fun b o z => s3 _ _ (s2 _ _ (s1 _ _ z))) ⟨c3, _, _, rfl, SqT.of upd_same, ⟨c1, rfl, SqT.of (s3 _ _ (s2 _ _ e1))⟩, ⟨c2, rfl, SqT.of (s3 _ _ e2)⟩⟩
def spStretched (K : Frag) : Sp := fun vs H Q _ => ∃ (u v : V) (x : Rat) (y : Rat × Rat), vs = [u, v] ∧ NmR K H u x ∧ PtR K H v y ∧ Sz 100000 x ∧ Sz 100000 y.1 ∧ Sz 100000 y.2 ∧ givesP K H Q (x * y.1, x * y.2)
theorem sc_ay : FnScope ["number", "pair"] ["number", "pair"] (defScope s_ay) := sq
theorem ok_ay (hM : Mute CX) (D : Def K mg "stretched" s_ay ["number", "pair"]) (G_am : Fn P w K mg base CX 34 "product_of" ["one", "other"] (spBinR K fun a b => a * b)) : Fn P w K mg base CX 35 "stretched" ["number", "pair"] (spStretched K) := by
 refine D.ok sc_ay (fun vs H Q E h => ?_) (fun f cdv A outer s H vs Q E hr h => ?_)
 ·obtain ⟨u, v, x, y, rfl, _⟩ := h
  rfl
 obtain ⟨u, v, x, y, rfl, n0, ⟨p2, b1, b2, rfl, h2, m1, m2⟩, k1, l1, l2, q⟩ := h
 have px := passM (X := (cxOf (CXr P w) P w K mg base ["number", "pair"] "stretched" (defScope s_ay) f cdv A outer s H E)) hM
 refine ⟨_, (pss_one (ps_ret (pe_tup (pac (pe_fn G_am hr.mo px (pac (pv 0) (pac (pe_tx (pv 1)) pa_nil))) (pac (pe_fn G_am hr.mo px (pac (pv 0) (pac (pe_tx (pv 1)) pa_nil))) pa_nil))))), ?_⟩
 refine ⟨_, rfl, _, rfl, p2, _, _, _, rfl, rfl, h2, at0, u, b1, _, _, rfl, n0, m1, k1, l1, fun c1 H1 s1 e1 => ?_⟩
 refine ⟨_, rfl, _, rfl, p2, _, _, _, rfl, rfl, Ty.Same.seqT s1 h2, at1, u, b2, _, _, rfl, n0.same s1, m2.same s1, k1, l2, fun c2 H2 s2 e2 => ?_⟩
 refine ⟨(by show 2 ≤ sizeLine; decide), fun c3 n3 => ?_⟩
 have s3 := same_new n3 (.tup [.ref c1, .ref c2])
 exact q (.ref c3) _ (fun b o z => s3 _ _ (s2 _ _ (s1 _ _ z))) ⟨c3, _, _, rfl, SqT.of upd_same, ⟨c1, rfl, SqT.of (s3 _ _ (s2 _ _ e1))⟩, ⟨c2, rfl, SqT.of (s3 _ _ e2)⟩⟩
def spFInit (K : Frag) (C : Addr) : Sp := fun vs H Q _ => ∃ (a dx : Addr), vs = [.ref a] ∧ H a = some (.ins C dx []) ∧
 ∀ (pP pW pB : Addr) (H' : Hp), KSame a H H' → H pP = none → H pW = none → H pB = none → FrR K H' C a dx pP pW pB [] [] [] [] [] → Q .non H'
theorem putF_p1 {x : V} : putF "pin_places" x [] = ([("pin_places", x)] : List (Str × V)) := rfl
theorem putF_w1 {x y : V} : putF "pin_ways" y [("pin_places", x)] = ([("pin_places", x), ("pin_ways", y)] : List (Str × V)) := by
 simp only [putF]
 rw [if_neg (by decide)]
theorem putF_e1 {x y z : V} : putF "bar_ends" z [("pin_places", x), ("pin_ways", y)] = ([("pin_places", x), ("pin_ways", y), ("bar_ends", z)] : List (Str × V)) := by
 simp only [putF]
 rw [if_neg (by decide), if_neg (by decide)]
theorem sc_ao : FnScope ["self"] ["self"] (defScope s_ao) := sq
theorem ok_ao {f : Addr} {fd : FuncData} {C : Addr} (F : Fun K "__init__" "Frame.__init__" s_ao f fd) (fc : FrC K C) : FnOk P w K mg base (CXr P w) 1 f fd ["self"] (spFInit K C) := by
 refine fun_okF F sc_ao (fun vs H Q E h => ?_) (fun cdv A outer s H vs Q E hr h => ?_)
 ·obtain ⟨a, dx, rfl, _⟩ := h
  rfl
 obtain ⟨a, dx, rfl, ha, q⟩ := h
 refine ⟨_, (pss_cons (ps_fld (pv 0) pe_dnewK rfl)
  (pss_cons (ps_fld (pv 0) pe_dnewK rfl)
  (pss_one (ps_fld (pv 0) pe_dnewK rfl)))), ?_⟩
 intro pP nP
 have aP : a ≠ pP := ne_of_none ha nP
 refine ⟨_, rfl, a, C, dx, _, rfl, (by rw [upd_ne aP]; exact ha), fc.cls, fc.pl, (by show 0 < 1000; decide), ?_⟩
 rw [putF_p1]
 generalize e1 : upd (upd H pP (.dK [])) a (.ins C dx [("pin_places", .ref pP)]) = H1
 have o1 : H1 a = some (.ins C dx [("pin_places", .ref pP)]) := by rw [← e1, upd_same]
 have p1 : H1 pP = some (.dK []) := by rw [← e1, upd_ne (Ne.symm aP), upd_same]
 have k1 : ∀ b o, b ≠ a → H b = some o → H1 b = some o := fun b o n e => by rw [← e1, upd_ne n, upd_ne (ne_of_none e nP)]; exact e
 intro pW nW
 have aW : a ≠ pW := ne_of_none o1 nW
 refine ⟨_, rfl, a, C, dx, _, rfl, (by rw [upd_ne aW]; exact o1), fc.cls, fc.wy, (by show 1 < 1000; decide), ?_⟩
 rw [putF_w1]
 generalize e2 : upd (upd H1 pW (.dK [])) a (.ins C dx [("pin_places", .ref pP), ("pin_ways", .ref pW)]) = H2
 have PW : pP ≠ pW := ne_of_none p1 nW
 have o2 : H2 a = some (.ins C dx [("pin_places", .ref pP), ("pin_ways", .ref pW)]) := by rw [← e2, upd_same]
 have w2 : H2 pW = some (.dK []) := by rw [← e2, upd_ne (Ne.symm aW), upd_same]
 have k2 : ∀ b o, b ≠ a → H1 b = some o → H2 b = some o := fun b o n e => by rw [← e2, upd_ne n, upd_ne (ne_of_none e nW)]; exact e
 intro pB nB
 have aB : a ≠ pB := ne_of_none o2 nB
 have p2 := k2 _ _ (Ne.symm aP) p1
 refine ⟨_, rfl, a, C, dx, _, rfl, (by rw [upd_ne aB]; exact o2), fc.cls, fc.br, (by show 2 < 1000; decide), ?_⟩
 rw [putF_e1]
 have PB : pP ≠ pB := ne_of_none p2 nB
 have WB : pW ≠ pB := ne_of_none w2 nB
 have k3 : ∀ b o, b ≠ a → H2 b = some o → (upd (upd H2 pB (.dK [])) a (.ins C dx [("pin_places", .ref pP), ("pin_ways", .ref pW), ("bar_ends", .ref pB)])) b = some o := fun b o n e => by rw [upd_ne n, upd_ne (ne_of_none e nB)]; exact e
 have f1 : ∀ b, b ≠ a → H1 b = none → H b = none := fun b n e => by
  cases z : H b with
  | none => rfl
  | some o => rw [k1 b o n z] at e; cases e
 have f2 : ∀ b, b ≠ a → H2 b = none → H b = none := fun b n e => by
  cases z : H b with
  | none => rfl
  | some o => rw [k2 b o n (k1 b o n z)] at e; cases e
 refine q pP pW pB _ (fun b o n e => k3 b o n (k2 b o n (k1 b o n e))) nP (f1 _ (Ne.symm aW) nW) (f2 _ (Ne.symm aB) nB) ⟨upd_same, k3 _ _ (Ne.symm aP) p2, k3 _ _ (Ne.symm aW) w2, ?_, PW, PB, WB, .nil, .nil⟩
 rw [upd_ne (Ne.symm aB), upd_same]
def spBars (K : Frag) (C : Addr) : Sp := fun vs H Q _ => ∃ (a dx pP pW pB : Addr) (ps : List (Str × Pt)) (bs : List (Str × Str × Str)) (kP kW kB : List (Key × V)), vs = [.ref a] ∧ FrR K H C a dx pP pW pB ps bs kP kW kB ∧
 ∀ (l : Addr) (H' : Hp), Same H H' → H l = none → H' l = some (.lst ((bs.map (·.1)).map V.str)) → Q (.ref l) H'
theorem sc_aq : FnScope ["self"] ["self"] (defScope s_aq) := sq
theorem ok_aq {f : Addr} {fd : FuncData} {C : Addr} (F : Fun K "bars" "Frame.bars" s_aq f fd) (fc : FrC K C) (m_list : mg "list" = none) : FnOk P w K mg base (CXr P w) 1 f fd ["self"] (spBars K C) := by
 refine fun_okF F sc_aq (fun vs H Q E h => ?_) (fun cdv A outer s H vs Q E hr h => ?_)
 ·obtain ⟨a, dx, pP, pW, pB, ps, bs, kP, kW, kB, rfl, _⟩ := h
  rfl
 obtain ⟨a, dx, pP, pW, pB, ps, bs, kP, kW, kB, rfl, R, q⟩ := h
 refine ⟨_, (pss_one (ps_ret (pe_callTy (call_listD rfl) rfl m_list b_list (pac (pe_fld (pv 0) rfl) pa_nil)))), ?_⟩
 refine ⟨_, rfl, a, C, dx, _, _, rfl, R.obj, fc.cls, fc.br, rfl, pB, kB, rfl, .inl R.br, fun l nl => ?_⟩
 refine q l _ (same_new nl _) nl ?_
 rw [upd_same]
 have e : kB.map (fun kv => kV kv.1) = (bs.map (·.1)).map V.str := by
  have z : kB.map (fun kv => kV kv.1) = (kB.map (·.1)).map kV := by rw [List.map_map]; rfl
  rw [z, R.keysB, List.map_map]
  rfl
 rw [e]
def spPins (K : Frag) (C : Addr) : Sp := fun vs H Q _ => ∃ (a dx pP pW pB : Addr) (ps : List (Str × Pt)) (bs : List (Str × Str × Str)) (kP kW kB : List (Key × V)), vs = [.ref a] ∧ FrR K H C a dx pP pW pB ps bs kP kW kB ∧
 ∀ (l : Addr) (H' : Hp), Same H H' → H l = none → H' l = some (.lst ((ps.map (·.1)).map V.str)) → Q (.ref l) H'
theorem sc_ap : FnScope ["self"] ["self"] (defScope s_ap) := sq
theorem ok_ap {f : Addr} {fd : FuncData} {C : Addr} (F : Fun K "pins" "Frame.pins" s_ap f fd) (fc : FrC K C) (m_list : mg "list" = none) : FnOk P w K mg base (CXr P w) 1 f fd ["self"] (spPins K C) := by
 refine fun_okF F sc_ap (fun vs H Q E h => ?_) (fun cdv A outer s H vs Q E hr h => ?_)
 ·obtain ⟨a, dx, pP, pW, pB, ps, bs, kP, kW, kB, rfl, _⟩ := h
  rfl
 obtain ⟨a, dx, pP, pW, pB, ps, bs, kP, kW, kB, rfl, R, q⟩ := h
 refine ⟨_, (pss_one (ps_ret (pe_callTy (call_listD rfl) rfl m_list b_list (pac (pe_fld (pv 0) rfl) pa_nil)))), ?_⟩
 refine ⟨_, rfl, a, C, dx, _, _, rfl, R.obj, fc.cls, fc.pl, rfl, pP, kP, rfl, .inl R.pl, fun l nl => ?_⟩
 refine q l _ (same_new nl _) nl ?_
 rw [upd_same]
 have e : kP.map (fun kv => kV kv.1) = (ps.map (·.1)).map V.str := by
  have z : kP.map (fun kv => kV kv.1) = (kP.map (·.1)).map kV := by rw [List.map_map]; rfl
  rw [z, R.keysP, List.map_map]
  rfl
 rw [e]
def spCheckPin (K : Frag) (C : Addr) : Sp := fun vs H Q _ => ∃ (a dx pP pW pB : Addr) (ps : List (Str × Pt)) (bs : List (Str × Str × Str)) (kP kW kB : List (Key × V)) (x : Str), vs = [.ref a, .str x] ∧ FrR K H C a dx pP pW pB ps bs kP kW kB ∧ x ∈ ps.map (·.1) ∧ Q .non H
theorem sc_a2 : FnScope ["self", "pin"] ["self", "pin"] (defScope s_a2) := sq
theorem ok_a2 {f : Addr} {fd : FuncData} {C : Addr} (F : Fun K "check_pin" "Frame.check_pin" s_a2 f fd) (fc : FrC K C) : FnOk P w K mg base (CXr P w) 1 f fd ["self", "pin"] (spCheckPin K C) := by
 refine fun_okF F sc_a2 (fun vs H Q E h => ?_) (fun cdv A outer s H vs Q E hr h => ?_)
 ·obtain ⟨a, dx, pP, pW, pB, ps, bs, kP, kW, kB, x, rfl, _⟩ := h
  rfl
 obtain ⟨a, dx, pP, pW, pB, ps, bs, kP, kW, kB, x, rfl, R, hx, q⟩ := h
 refine ⟨_, (pss_one (ps_if (pt_cmp (pc_dnotin (hu_of hr) (pv 1) (pe_fld (pv 0) rfl))) (pss_one (ps_never)) pss_nil)), ?_⟩
 refine ⟨_, rfl, _, rfl, a, C, dx, _, _, rfl, R.obj, fc.cls, fc.pl, rfl, pP, _, rfl, DGet.k (k := .inr x) R.pl, _, rfl, ?_⟩
 rw [R.pin x, decide_eq_true hx]
 exact q
def spCheckBar (K : Frag) (C : Addr) : Sp := fun vs H Q _ => ∃ (a dx pP pW pB : Addr) (ps : List (Str × Pt)) (bs : List (Str × Str × Str)) (kP kW kB : List (Key × V)) (x one other : Str), vs = [.ref a, .str x, .str one, .str other] ∧ FrR K H C a dx pP pW pB ps bs kP kW kB ∧
 x ∉ bs.map (·.1) ∧ one ∈ ps.map (·.1) ∧ other ∈ ps.map (·.1) ∧ one ≠ other ∧ bs.length < 60 ∧ Q .non H
theorem sc_a3 : FnScope ["self", "name", "one", "other"] ["self", "name", "one", "other"] (defScope s_a3) := sq
theorem ok_a3 {f : Addr} {fd : FuncData} {C : Addr} (F : Fun K "check_bar" "Frame.check_bar" s_a3 f fd) (fc : FrC K C) {tkB : Tok} (m_b4 : mg "MOST_BARS" = some (.int 60 tkB)) (m_len : mg "len" = none)
  (MC : MtdOk P w K mg base (CXr P w) 1 C "check_pin" ["self", "pin"] (spCheckPin K C)) : FnOk P w K mg base (CXr P w) 2 f fd ["self", "name", "one", "other"] (spCheckBar K C) := by
 refine fun_okF F sc_a3 (fun vs H Q E h => ?_) (fun cdv A outer s H vs Q E hr h => ?_)
 ·obtain ⟨a, dx, pP, pW, pB, ps, bs, kP, kW, kB, x, one, other, rfl, _⟩ := h
  rfl
 obtain ⟨a, dx, pP, pW, pB, ps, bs, kP, kW, kB, x, one, other, rfl, R, hx, h1, h2, ne, hl, q⟩ := h
 refine ⟨_, (pss_cons (ps_if (pt_cmp (pc_din (hu_of hr) (pv 1) (pe_fld (pv 0) rfl))) (pss_one (ps_never)) pss_nil)
  (pss_cons (ps_expr (pe_mtd (k := 1) (pv 0) hr.mo (pY P w) (pac (pv 2) pa_nil)))
  (pss_cons (ps_expr (pe_mtd (k := 1) (pv 0) hr.mo (pY P w) (pac (pv 3) pa_nil)))
  (pss_cons (ps_if (pt_cmpR op_eq (pv 2) (pv 3) (nomark _)) (pss_one (ps_never)) pss_nil)
  (pss_one (ps_if (pt_cmpR op_ge (pe_callB call_lenD rfl m_len b_len (pac (pe_fld (pv 0) rfl) pa_nil)) (pe_glob (v := .int 60) rfl m_b4 ⟨_, rfl⟩) (nomark _)) (pss_one (ps_never)) pss_nil)))))), ?_⟩
 refine ⟨_, rfl, _, rfl, a, C, dx, _, _, rfl, R.obj, fc.cls, fc.br, rfl, pB, _, rfl, DGet.k (k := .inr x) R.br, _, rfl, ?_⟩
 rw [R.bar x, decide_eq_false hx]
 refine ⟨_, rfl, a, C, dx, _, _, _, rfl, R.obj, rfl, MC, _, rfl, a, dx, pP, pW, pB, ps, bs, kP, kW, kB, one, rfl, R, h1, ?_⟩
 refine ⟨_, rfl, a, C, dx, _, _, _, rfl, R.obj, rfl, MC, _, rfl, a, dx, pP, pW, pB, ps, bs, kP, kW, kB, other, rfl, R, h2, ?_⟩
 refine ⟨_, rfl, _, rfl, rfl, _, rfl, ?_⟩
 refine ite2 (fun c => absurd (by simpa [eqV] using c) ne) (fun _ => ?_)
 have lk : kB.length = bs.length := (Paired.length R.rb).symm
 refine ⟨_, rfl, a, C, dx, _, _, rfl, R.obj, fc.cls, fc.br, rfl, pB, kB, rfl, .inl R.br, _, _, rfl, rfl, _, rfl, ?_⟩
 refine ite2 (fun c => ?_) (fun _ => q)
 have c' : (60 : Int) ≤ (kB.length : Int) := of_decide_eq_true c
 omega
def spPutBar (K : Frag) (C : Addr) : Sp := fun vs H Q _ => ∃ (a dx pP pW pB : Addr) (ps : List (Str × Pt)) (bs : List (Str × Str × Str)) (kP kW kB : List (Key × V)) (x one other : Str), vs = [.ref a, .str x, .str one, .str other] ∧ FrR K H C a dx pP pW pB ps bs kP kW kB ∧
 x ∉ bs.map (·.1) ∧ one ∈ ps.map (·.1) ∧ other ∈ ps.map (·.1) ∧ one ≠ other ∧ bs.length < 60 ∧ ∀ (H' : Hp) (kB' : List (Key × V)), KSame pB H H' → FrR K H' C a dx pP pW pB ps (bs ++ [(x, one, other)]) kP kW kB' → Q .non H'
theorem sc_aa : FnScope ["self", "name", "one", "other"] ["self", "name", "one", "other"] (defScope s_aa) := sq
theorem ok_aa {f : Addr} {fd : FuncData} {C : Addr} (F : Fun K "put_bar" "Frame.put_bar" s_aa f fd) (fc : FrC K C)
  (MC : MtdOk P w K mg base (CXr P w) 2 C "check_bar" ["self", "name", "one", "other"] (spCheckBar K C)) : FnOk P w K mg base (CXr P w) 3 f fd ["self", "name", "one", "other"] (spPutBar K C) := by
 refine fun_okF F sc_aa (fun vs H Q E h => ?_) (fun cdv A outer s H vs Q E hr h => ?_)
 ·obtain ⟨a, dx, pP, pW, pB, ps, bs, kP, kW, kB, x, one, other, rfl, _⟩ := h
  rfl
 obtain ⟨a, dx, pP, pW, pB, ps, bs, kP, kW, kB, x, one, other, rfl, R, hx, h1, h2, ne, hl, q⟩ := h
 refine ⟨_, (pss_cons (ps_expr (pe_mtd (k := 2) (pv 0) hr.mo (pY P w) (pac (pv 1) (pac (pv 2) (pac (pv 3) pa_nil)))))
  (pss_one (ps_dput (hu_of hr) (pe_fld (pv 0) rfl) (pv 1) (pe_tup (pac (pv 2) (pac (pv 3) pa_nil))) rfl))), ?_⟩
 refine ⟨_, rfl, a, C, dx, _, _, _, rfl, R.obj, rfl, MC, _, rfl, _, rfl, _, rfl, a, dx, pP, pW, pB, ps, bs, kP, kW, kB, x, one, other, rfl, R, hx, h1, h2, ne, hl, ?_⟩
 refine ⟨_, rfl, _, rfl, (by show 2 ≤ sizeLine; decide), fun t nt => ?_⟩
 have s := same_new nt (.tup [.str one, .str other])
 have R' := R.same s
 have lk : kB.length = bs.length := (Paired.length R.rb).symm
 refine ⟨_, rfl, a, C, dx, _, _, rfl, R'.obj, fc.cls, fc.br, rfl, _, rfl, pB, _, rfl, DPut.k (k := .inr x) R'.br (Nat.lt_of_le_of_lt (show kB.length ≤ 1000 by omega) (by decide)), ?_⟩
 have e : putK kB (.inr x) (.ref t) = kB ++ [(.inr x, .ref t)] := putK_new _ (valV_none (by rw [R.keysB]; exact fun z => hx (key_mem.mp z)))
 rw [e]
 refine q _ _ (fun b o n z => ?_) (R'.putBar (.inl upd_same))
 rw [upd_ne n]
 exact s _ _ z
def spPlace (K : Frag) (C : Addr) : Sp := fun vs H Q _ => ∃ (a dx pP pW pB : Addr) (ps : List (Str × Pt)) (bs : List (Str × Str × Str)) (kP kW kB : List (Key × V)) (x : Str) (p : Pt), vs = [.ref a, .str x] ∧ FrR K H C a dx pP pW pB ps bs kP kW kB ∧ (ps.map (·.1)).Nodup ∧ (x, p) ∈ ps ∧ ∀ v, Spot K H v p → Q v H
theorem sc_ag : FnScope ["self", "pin"] ["self", "pin"] (defScope s_ag) := sq
theorem ok_ag {f : Addr} {fd : FuncData} {C : Addr} (F : Fun K "place" "Frame.place" s_ag f fd) (fc : FrC K C) (MC : MtdOk P w K mg base (CXr P w) 1 C "check_pin" ["self", "pin"] (spCheckPin K C)) : FnOk P w K mg base (CXr P w) 2 f fd ["self", "pin"] (spPlace K C) := by
 refine fun_okF F sc_ag (fun vs H Q E h => ?_) (fun cdv A outer s H vs Q E hr h => ?_)
 ·obtain ⟨a, dx, pP, pW, pB, ps, bs, kP, kW, kB, x, p, rfl, _⟩ := h
  rfl
 obtain ⟨a, dx, pP, pW, pB, ps, bs, kP, kW, kB, x, p, rfl, R, nd, hx, q⟩ := h
 refine ⟨_, (pss_cons (ps_expr (pe_mtd (k := 1) (pv 0) hr.mo (pY P w) (pac (pv 1) pa_nil)))
  (pss_one (ps_ret (pe_dget (hu_of hr) (pe_fld (pv 0) rfl) (pv 1) (fun _ _ => rfl))))), ?_⟩
 refine ⟨_, rfl, a, C, dx, _, _, _, rfl, R.obj, rfl, MC, _, rfl, a, dx, pP, pW, pB, ps, bs, kP, kW, kB, x, rfl, R, List.mem_map.mpr ⟨_, hx, rfl⟩, ?_⟩
 obtain ⟨v, ev, hv⟩ := R.place nd hx
 exact ⟨_, rfl, a, C, dx, _, _, rfl, R.obj, fc.cls, fc.pl, rfl, _, rfl, pP, v, rfl, (by rw [← ev]; exact DGet.k (k := .inr x) R.pl), q v hv⟩
def spEnds (K : Frag) (C : Addr) : Sp := fun vs H Q _ => ∃ (a dx pP pW pB : Addr) (ps : List (Str × Pt)) (bs : List (Str × Str × Str)) (kP kW kB : List (Key × V)) (x one other : Str), vs = [.ref a, .str x] ∧ FrR K H C a dx pP pW pB ps bs kP kW kB ∧ (bs.map (·.1)).Nodup ∧ (x, one, other) ∈ bs ∧ ∀ p, Rd H p (.tup [.str one, .str other]) → Q (.ref p) H
theorem sc_as : FnScope ["self", "bar"] ["self", "bar"] (defScope s_as) := sq
theorem ok_as {f : Addr} {fd : FuncData} {C : Addr} (F : Fun K "ends" "Frame.ends" s_as f fd) (fc : FrC K C) : FnOk P w K mg base (CXr P w) 1 f fd ["self", "bar"] (spEnds K C) := by
 refine fun_okF F sc_as (fun vs H Q E h => ?_) (fun cdv A outer s H vs Q E hr h => ?_)
 ·obtain ⟨a, dx, pP, pW, pB, ps, bs, kP, kW, kB, x, one, other, rfl, _⟩ := h
  rfl
 obtain ⟨a, dx, pP, pW, pB, ps, bs, kP, kW, kB, x, one, other, rfl, R, nd, hx, q⟩ := h
 refine ⟨_, (pss_cons (ps_if (pt_cmp (pc_dnotin (hu_of hr) (pv 1) (pe_fld (pv 0) rfl))) (pss_one (ps_never)) pss_nil)
  (pss_one (ps_ret (pe_dget (hu_of hr) (pe_fld (pv 0) rfl) (pv 1) (fun _ _ => rfl))))), ?_⟩
 have hm : x ∈ bs.map (·.1) := List.mem_map.mpr ⟨_, hx, rfl⟩
 refine ⟨_, rfl, _, rfl, a, C, dx, _, _, rfl, R.obj, fc.cls, fc.br, rfl, pB, _, rfl, DGet.k (k := .inr x) R.br, _, rfl, ?_⟩
 rw [R.bar x, decide_eq_true hm]
 obtain ⟨p, ev, hv⟩ := R.ends nd hx
 exact ⟨_, rfl, a, C, dx, _, _, rfl, R.obj, fc.cls, fc.br, rfl, _, rfl, pB, .ref p, rfl, (by rw [← ev]; exact DGet.k (k := .inr x) R.br), q p hv⟩
def spWays (K : Frag) (C : Addr) : Sp := fun vs H Q _ => ∃ (a dx pP pW pB : Addr) (ps : List (Str × Pt)) (bs : List (Str × Str × Str)) (kP kW kB : List (Key × V)) (pw : List (Str × List (Rat × Rat))) (x : Str) (ws : List (Rat × Rat)), vs = [.ref a, .str x] ∧ FrR K H C a dx pP pW pB ps bs kP kW kB ∧ WyR K H pw kW ∧ (pw.map (·.1)).Nodup ∧ (x, ws) ∈ pw ∧ x ∈ ps.map (·.1) ∧
 ∀ (l : Addr) (us : List V) (H' : Hp), Same H H' → H l = none → H' l = some (.lst us) → PtsR K H' us ws → Q (.ref l) H'
theorem sc_ar : FnScope ["self", "pin"] ["self", "pin"] (defScope s_ar) := sq
theorem ok_ar {f : Addr} {fd : FuncData} {C : Addr} (F : Fun K "ways" "Frame.ways" s_ar f fd) (fc : FrC K C) (m_list : mg "list" = none) (MC : MtdOk P w K mg base (CXr P w) 1 C "check_pin" ["self", "pin"] (spCheckPin K C)) : FnOk P w K mg base (CXr P w) 2 f fd ["self", "pin"] (spWays K C) := by
 refine fun_okF F sc_ar (fun vs H Q E h => ?_) (fun cdv A outer s H vs Q E hr h => ?_)
 ·obtain ⟨a, dx, pP, pW, pB, ps, bs, kP, kW, kB, pw, x, ws, rfl, _⟩ := h
  rfl
 obtain ⟨a, dx, pP, pW, pB, ps, bs, kP, kW, kB, pw, x, ws, rfl, R, W, nd, hx, hp, q⟩ := h
 refine ⟨_, (pss_cons (ps_expr (pe_mtd (k := 1) (pv 0) hr.mo (pY P w) (pac (pv 1) pa_nil)))
  (pss_one (ps_ret (pe_callTy call_listL rfl m_list b_list (pac (pe_dget (hu_of hr) (pe_fld (pv 0) rfl) (pv 1) (fun _ _ => rfl)) pa_nil))))), ?_⟩
 refine ⟨_, rfl, a, C, dx, _, _, _, rfl, R.obj, rfl, MC, _, rfl, a, dx, pP, pW, pB, ps, bs, kP, kW, kB, x, rfl, R, hp, ?_⟩
 obtain ⟨v, ev, l, us, el, hl, pt⟩ := paired_val W nd hx
 have el' : v = .ref l := el
 subst el'
 refine ⟨_, rfl, a, C, dx, _, _, rfl, R.obj, fc.cls, fc.wy, rfl, _, rfl, pW, .ref l, rfl, (by rw [← ev]; exact DGet.k (k := .inr x) R.wy), ?_⟩
 exact ⟨l, us, rfl, SqL.of hl, fun l2 n2 => q l2 us _ (same_new n2 _) n2 upd_same (pt.same (same_new n2 _))⟩
def AnsR (K : Frag) (H : Hp) (Q : VK) (ws : List (Rat × Rat)) : Prop := ∀ (l : Addr) (us : List V) (H' : Hp), Same H H' → H l = none → H' l = some (.lst us) → PtsR K H' us ws → Q (.ref l) H'
def spHold (K : Frag) : Sp := fun vs H Q _ => ∃ a : Addr, vs = [.ref a] ∧ AnsR K H Q []
theorem sc_b0 : FnScope ["self"] ["self"] (defScope s_b0) := sq
theorem ok_b0 {f : Addr} {fd : FuncData} (F : Fun K "ways" "Hold.ways" s_b0 f fd) : FnOk P w K mg base (CXr P w) 1 f fd ["self"] (spHold K) := by
 refine fun_okF F sc_b0 (fun vs H Q E h => ?_) (fun cdv A outer s H vs Q E hr h => ?_)
 ·obtain ⟨a, rfl, _⟩ := h
  rfl
 obtain ⟨a, rfl, q⟩ := h
 refine ⟨_, (pss_one (ps_ret (pe_lst pa_nil))), ?_⟩
 exact ⟨(by show 0 ≤ sizeLine; decide), fun l hl => q l [] _ (same_new hl _) hl upd_same .nil⟩
theorem qr_zero {x : Rat} (h : (qr x).1 = 0) : x = 0 := by
 have := vl_qr x
 unfold vl at this
 rw [h] at this
 have z := ratz (r := x)
 have e : ((0 : Int) : Rat) = 0 := by rfl
 rw [e] at this
 grind
def spRInit (K : Frag) (C : Addr) : Sp := fun vs H Q _ => ∃ (a dx : Addr) (ux uy : V) (x y : Rat), vs = [.ref a, ux, uy] ∧ H a = some (.ins C dx []) ∧ NmR K H ux x ∧ NmR K H uy y ∧ ¬ (x = 0 ∧ y = 0) ∧ ∀ p, H p = none → Q .non (upd (upd H p (.tup [ux, uy])) a (.ins C dx [("way", .ref p)]))
theorem sc_ah : FnScope ["self", "x", "y"] ["self", "x", "y"] (defScope s_ah) := sq
theorem ok_ah {f : Addr} {fd : FuncData} {C : Addr} (F : Fun K "__init__" "Roller.__init__" s_ah f fd) (cl : Cls K C) (nw : NoAttr K C "way") : FnOk P w K mg base (CXr P w) 1 f fd ["self", "x", "y"] (spRInit K C) := by
 refine fun_okF F sc_ah (fun vs H Q E h => ?_) (fun cdv A outer s H vs Q E hr h => ?_)
 ·obtain ⟨a, dx, ux, uy, x, y, rfl, _⟩ := h
  rfl
 obtain ⟨a, dx, ux, uy, x, y, rfl, ha, ⟨p1, rfl, h1⟩, ⟨p2, rfl, h2⟩, nz, q⟩ := h
 have sz : (2 : Nat) ≤ sizeLine := by decide
 refine ⟨_, (pss_cons (ps_if (PW.pt (pw_and (pt_cmpR op_eq (pe_tx (pv 1)) pe_int (nomark _)) (pw_and1 (pt_cmpR op_eq (pe_tx (pv 2)) pe_int (nomark _))))) (pss_one (ps_never)) pss_nil)
  (pss_one (ps_fld (pv 0) (pe_tup (pac (pv 1) (pac (pv 2) pa_nil))) rfl))), ?_⟩
 refine ⟨_, rfl, p1, _, _, _, rfl, rfl, h1, at0, rfl, _, rfl, ?_⟩
 refine ite2 (fun c1 => ?_) (fun c1 => ?_)
 ·have e1 : (qr x).1 = 0 := by simpa using of_decide_eq_true c1
  refine ⟨_, rfl, p2, _, _, _, rfl, rfl, h2, at0, rfl, _, rfl, ?_⟩
  refine ite2 (fun c2 => ?_) (fun c2 => ?_)
  ·have e2 : (qr y).1 = 0 := by simpa using of_decide_eq_true c2
   exact absurd ⟨qr_zero e1, qr_zero e2⟩ nz
  ·exact ⟨_, rfl, _, rfl, sz, fun p hp => ⟨_, rfl, a, C, dx, [], rfl, (by rw [upd_ne (ne_of_none ha hp)]; exact ha), cl, nw, (by show 0 < 1000; decide), q p hp⟩⟩
 ·refine iteF ?_
  exact ⟨_, rfl, _, rfl, sz, fun p hp => ⟨_, rfl, a, C, dx, [], rfl, (by rw [upd_ne (ne_of_none ha hp)]; exact ha), cl, nw, (by show 0 < 1000; decide), q p hp⟩⟩
def spRWays (K : Frag) (C : Addr) : Sp := fun vs H Q _ => ∃ (a dx p : Addr) (w : Rat × Rat), vs = [.ref a] ∧ H a = some (.ins C dx [("way", .ref p)]) ∧ PtR K H (.ref p) w ∧ AnsR K H Q [w]
theorem sc_ai : FnScope ["self"] ["self"] (defScope s_ai) := sq
theorem ok_ai {f : Addr} {fd : FuncData} {C : Addr} (F : Fun K "ways" "Roller.ways" s_ai f fd) (cl : Cls K C) (nw : NoAttr K C "way") : FnOk P w K mg base (CXr P w) 1 f fd ["self"] (spRWays K C) := by
 refine fun_okF F sc_ai (fun vs H Q E h => ?_) (fun cdv A outer s H vs Q E hr h => ?_)
 ·obtain ⟨a, dx, p, w, rfl, _⟩ := h
  rfl
 obtain ⟨a, dx, p, w, rfl, ha, hw, q⟩ := h
 refine ⟨_, (pss_one (ps_ret (pe_lst (pac (pe_fld (pv 0) rfl) pa_nil)))), ?_⟩
 refine ⟨_, rfl, a, C, dx, _, .ref p, rfl, ha, cl, nw, (by simp), (by show 1 ≤ sizeLine; decide), fun l hl => ?_⟩
 exact q l [.ref p] _ (same_new hl _) hl upd_same (.cons (hw.same (same_new hl _)) .nil)
def spFixed (K : Frag) : Sp := fun vs H Q _ => ∃ a : Addr, vs = [.ref a] ∧ AnsR K H Q [(1, 0), (0, 1)]
theorem qr_one : qr 1 = (1, 1) := by
 have := qr_int 1
 simpa using this
theorem qr_nought : qr 0 = (0, 1) := by
 have := qr_int 0
 simpa using this
theorem pt_mk {H : Hp} {p p1 p2 : Addr} {a b : Rat} {x y : Int × Int} (ea : qr a = x) (eb : qr b = y) (h : H p = some (.tup [.ref p1, .ref p2])) (h1 : H p1 = some (.tup [.int x.1, .int x.2])) (h2 : H p2 = some (.tup [.int y.1, .int y.2])) : PtR K H (.ref p) (a, b) :=
 ⟨p, .ref p1, .ref p2, rfl, SqT.of h, ⟨p1, rfl, by rw [ea]; exact SqT.of h1⟩, ⟨p2, rfl, by rw [eb]; exact SqT.of h2⟩⟩
theorem sc_at : FnScope ["self"] ["self"] (defScope s_at) := sq
theorem ok_at {f : Addr} {fd : FuncData} (F : Fun K "ways" "Fixed.ways" s_at f fd) : FnOk P w K mg base (CXr P w) 1 f fd ["self"] (spFixed K) := by
 refine fun_okF F sc_at (fun vs H Q E h => ?_) (fun cdv A outer s H vs Q E hr h => ?_)
 ·obtain ⟨a, rfl, _⟩ := h
  rfl
 obtain ⟨a, rfl, q⟩ := h
 have sz : (2 : Nat) ≤ sizeLine := by decide
 refine ⟨_, (pss_one (ps_ret (pe_lst (pac (pe_tup (pac (pe_tup (pac pe_int (pac pe_int pa_nil))) (pac (pe_tup (pac pe_int (pac pe_int pa_nil))) pa_nil))) (pac (pe_tup (pac (pe_tup (pac pe_int (pac pe_int pa_nil))) (pac (pe_tup (pac pe_int (pac pe_int pa_nil))) pa_nil))) pa_nil))))), ?_⟩
 refine ⟨sz, fun p1 n1 => ?_⟩
 have s1 := same_new n1 (.tup [.int 1, .int 1])
 have e1 : upd H p1 (.tup [.int 1, .int 1]) p1 = some (.tup [.int 1, .int 1]) := upd_same
 generalize upd H p1 (.tup [.int 1, .int 1]) = H1 at s1 e1 ⊢
 refine ⟨sz, fun p2 n2 => ?_⟩
 have s2 := same_new n2 (.tup [.int 0, .int 1])
 have e2 : upd H1 p2 (.tup [.int 0, .int 1]) p2 = some (.tup [.int 0, .int 1]) := upd_same
 generalize upd H1 p2 (.tup [.int 0, .int 1]) = H2 at s2 e2 ⊢
 refine ⟨sz, fun p3 n3 => ?_⟩
 have s3 := same_new n3 (.tup [.ref p1, .ref p2])
 have e3 : upd H2 p3 (.tup [.ref p1, .ref p2]) p3 = some (.tup [.ref p1, .ref p2]) := upd_same
 generalize upd H2 p3 (.tup [.ref p1, .ref p2]) = H3 at s3 e3 ⊢
 refine ⟨sz, fun p4 n4 => ?_⟩
 have s4 := same_new n4 (.tup [.int 0, .int 1])
 have e4 : upd H3 p4 (.tup [.int 0, .int 1]) p4 = some (.tup [.int 0, .int 1]) := upd_same
 generalize upd H3 p4 (.tup [.int 0, .int 1]) = H4 at s4 e4 ⊢
 refine ⟨sz, fun p5 n5 => ?_⟩
 have s5 := same_new n5 (.tup [.int 1, .int 1])
 have e5 : upd H4 p5 (.tup [.int 1, .int 1]) p5 = some (.tup [.int 1, .int 1]) := upd_same
 generalize upd H4 p5 (.tup [.int 1, .int 1]) = H5 at s5 e5 ⊢
 refine ⟨sz, fun p6 n6 => ?_⟩
 have s6 := same_new n6 (.tup [.ref p4, .ref p5])
 have e6 : upd H5 p6 (.tup [.ref p4, .ref p5]) p6 = some (.tup [.ref p4, .ref p5]) := upd_same
 generalize upd H5 p6 (.tup [.ref p4, .ref p5]) = H6 at s6 e6 ⊢
 refine ⟨sz, fun l nl => ?_⟩
 have s7 := same_new nl (.lst [.ref p3, .ref p6])
 have e7 : upd H6 l (.lst [.ref p3, .ref p6]) l = some (.lst [.ref p3, .ref p6]) := upd_same
 generalize upd H6 l (.lst [.ref p3, .ref p6]) = H7 at s7 e7 ⊢
 have s16 := s1.trans (s2.trans (s3.trans (s4.trans (s5.trans s6))))
 have w1 : PtR K H7 (.ref p3) (1, 0) := pt_mk qr_one qr_nought (s7 _ _ (s6 _ _ (s5 _ _ (s4 _ _ e3)))) (s7 _ _ (s6 _ _ (s5 _ _ (s4 _ _ (s3 _ _ (s2 _ _ e1)))))) (s7 _ _ (s6 _ _ (s5 _ _ (s4 _ _ (s3 _ _ e2)))))
 have w2 : PtR K H7 (.ref p6) (0, 1) := pt_mk qr_nought qr_one (s7 _ _ e6) (s7 _ _ (s6 _ _ (s5 _ _ e4))) (s7 _ _ (s6 _ _ e5))
 exact q l [.ref p3, .ref p6] H7 (s16.trans s7) (s16.free nl) e7 (.cons w1 (.cons w2 .nil))
def spPutPinW (P : Program) (w : World) (K : Frag) (mg : Str → Option Value) (base : Heap) (C : Addr) : Sp := fun vs H Q _ => ∃ (a dx pP pW pB : Addr) (ps : List (Str × Pt)) (bs : List (Str × Str × Str)) (kP kW kB : List (Key × V)) (pw : List (Str × List (Rat × Rat))) (x : Str) (u v hv : V) (p : Pt) (h Ch dxh : Addr) (fsh : List (Str × V)) (psh : List Str) (sph : Sp) (ws : List (Rat × Rat)), vs = [.ref a, .str x, u, v, hv] ∧ FrR K H C a dx pP pW pB ps bs kP kW kB ∧ WyR K H pw kW ∧ pw.map (·.1) = ps.map (·.1) ∧
 NmK K H u p.1 ∧ NmK K H v p.2 ∧ x ∉ ps.map (·.1) ∧ (∀ z ∈ ps, z.2 ≠ p) ∧ ps.length < 24 ∧
 hv = .ref h ∧ H h = some (.ins Ch dxh fsh) ∧ fsh.lookup ("ways" : Str) = none ∧ MtdOk P w K mg base (CXr P w) 2 Ch "ways" psh sph ∧ (∀ H1, H1 h = some (.ins Ch dxh fsh) → SameT H H1 → ∀ Q', AnsR K H1 Q' ws → sph [.ref h] H1 Q' E0) ∧
 ∀ (H' : Hp) (kP' kW' : List (Key × V)), (∀ b o, b ≠ pP → b ≠ pW → H b = some o → H' b = some o) → FrR K H' C a dx pP pW pB (ps ++ [(x, p)]) bs kP' kW' kB → WyR K H' (pw ++ [(x, ws)]) kW' → (∃ l, kW' = kW ++ [(.inr x, .ref l)] ∧ H l = none) → Q .non H'
theorem sc_a9 : FnScope ["self", "name", "x", "y", "hold", "pin", "spot"] ["self", "name", "x", "y", "hold"] (defScope s_a9) := sq
theorem ok_a9 {f : Addr} {fd : FuncData} {C : Addr} (F : FunD K "put_pin" "Frame.put_pin" s_a9 f fd) (fc : FrC K C) {tkP : Tok} (m_b3 : mg "MOST_PINS" = some (.int 24 tkP)) (m_len : mg "len" = none) (m_list : mg "list" = none) : FnOk P w K mg base (CXr P w) 3 f fd ["self", "name", "x", "y", "hold"] (spPutPinW P w K mg base C) := by
 refine fun_okFD F sc_a9 (fun vs H Q E h => ?_) (fun cdv A outer s H vs Q E hr h => ?_)
 ·obtain ⟨a, dx, pP, pW, pB, ps, bs, kP, kW, kB, pw, x, u, v, hv, p, h, Ch, dxh, fsh, psh, sph, ws, rfl, _⟩ := h
  rfl
 obtain ⟨a, dx, pP, pW, pB, ps, bs, kP, kW, kB, pw, x, u, v, _, p, h, Ch, dxh, fsh, psh, sph, ws, rfl, R, W, ew, hu, hv, hx, hs, hl, rfl, hh, hlk, MH, hsp, q⟩ := h
 refine ⟨_, (pss_cons (ps_if (pt_cmp (pc_din (hu_of hr) (pv 1) (pe_fld (pv 0) rfl))) (pss_one (ps_never)) pss_nil)
  (pss_cons (ps_thaw (ps_for PassesOwn.never rfl (pi_items (pe_fld (pv 0) rfl)) (pg_tup rfl (pgs_cons (pg_name (i := 5) sc_a9.nd rfl (Or.inl rfl)) (pgs_cons (pg_name (i := 6) sc_a9.nd rfl (Or.inl rfl)) pgs_nil))) (pss_one (ps_if (pt_cmpR (op_eqDa hr.units) (pv 6) (pe_tup (pac (pv 2) (pac (pv 3) pa_nil))) (nomark _)) (pss_one (ps_never)) pss_nil))))
  (pss_cons (ps_if (pt_cmpR op_ge (pe_callB call_lenD rfl m_len b_len (pac (pe_fld (pv 0) rfl) pa_nil)) (pe_glob (v := .int 24) rfl m_b3 ⟨_, rfl⟩) (nomark _)) (pss_one (ps_never)) pss_nil)
  (pss_cons (ps_dput (hu_of hr) (pe_fld (pv 0) rfl) (pv 1) (pe_tup (pac (pv 2) (pac (pv 3) pa_nil))) rfl)
  (pss_one (ps_dput (hu_of hr) (pe_fld (pv 0) rfl) (pv 1) (pe_ifExp (pt_cmpR op_isN (pv 4) pe_non (nomark _)) (pe_lst pa_nil) (pe_callTy call_listL rfl m_list b_list (pac (pe_mtd0 (k := 2) (pv 4) hr.mo (pY P w)) pa_nil))) rfl)))))), ?_⟩
 refine ⟨_, rfl, _, rfl, a, C, dx, _, _, rfl, R.obj, fc.cls, fc.pl, rfl, pP, _, rfl, DGet.k (k := .inr x) R.pl, _, rfl, ?_⟩
 rw [R.pin x, decide_eq_false hx]
 have lk : kP.length = ps.length := (Paired.length R.rp).symm
 refine ⟨_, rfl, a, C, dx, _, _, rfl, R.obj, fc.cls, fc.pl, rfl, pP, kP, rfl, R.pl, fun o => ?_⟩
 have k0 : KSame pP H (upd H pP (.frz o (.dK kP))) := fun b o' n e => by rw [upd_ne n]; exact e
 refine for_items (d := pP) (o := o) (kvs := kP) (fun t σ H' => ∃ (o2 o3 : Option V), σ = [some (.ref a), some (.str x), some u, some v, some (.ref h), o2, o3] ∧ KSame pP H H' ∧ H' pP = some (.frz o (.dK kP))) ⟨none, none, rfl, k0, upd_same⟩ (fun t σ H' _ h => by
   obtain ⟨_, _, _, _, h⟩ := h
   exact h) ?_ ?_
 ·rintro t k y σ H6 p7 ekv ⟨o2, o3, rfl, k6, hd6⟩ n7
  obtain ⟨z, ez, hz1, hz2⟩ := paired_get (paired_flip R.rp) ekv
  have hz1' : k = .inr z.1 := hz1
  subst hz1'
  have s6 : SameT H H6 := fun b xs r => by
   rcases r with r | ⟨o', r⟩
   ·exact .inl (k6 _ _ (fun e => by rw [e, R.pl] at r; cases r) r)
   ·exact .inr ⟨o', k6 _ _ (fun e => by rw [e, R.pl] at r; cases r) r⟩
  have s7 := same_new n7 (.tup [kV (.inr z.1), y])
  have s67 : SameT H (upd H6 p7 (.tup [kV (.inr z.1), y])) := s6.trans (.of s7)
  refine ⟨p7, _, rfl, SqT.of upd_same, rfl, _, _, rfl, _, _, rfl, rfl, ?_⟩
  refine ⟨_, rfl, _, rfl, _, rfl, (by show 2 ≤ sizeLine; decide), fun t8 n8 => ?_⟩
  have s8 := same_new n8 (.tup [u, v])
  have s78 : SameT H (upd (upd H6 p7 (.tup [kV (.inr z.1), y])) t8 (.tup [u, v])) := s67.trans (.of s8)
  refine ⟨spotD z.2, spotD p, .inl ⟨(Spot.sameT hz2 s78).is, (Spot.is (p := p) ⟨t8, u, v, rfl, SqT.of upd_same, hu.sameT s78, hv.sameT s78⟩)⟩, alike_spots _ _, dep_spots _, ?_⟩
  rw [eq_spots]
  refine ⟨_, rfl, ?_⟩
  refine ite2 (fun c => absurd (of_decide_eq_true c) (hs z (List.mem_of_getElem? ez))) (fun _ => ?_)
  exact ⟨_, _, rfl, fun b o' n e => s8 _ _ (s7 _ _ (k6 b o' n e)), s8 _ _ (s7 _ _ hd6)⟩
 ·rintro σ H1 ⟨o2, o3, rfl, k1, hd1⟩
  refine ⟨pP, o, kP, hd1, fun o' u' z => (by have z' : H pP = some (.frz o' u') := z; rw [R.pl] at z'; cases z'), ?_⟩
  have s2 : Same H (upd H1 pP (.dK kP)) := fun b o' e => by
   by_cases n : b = pP
   ·subst n
    rw [R.pl] at e
    rw [upd_same]
    exact e
   ·rw [upd_ne n]
    exact k1 b o' n e
  generalize upd H1 pP (.dK kP) = H2 at s2 ⊢
  have R2 := R.same s2
  refine ⟨_, rfl, a, C, dx, _, _, rfl, R2.obj, fc.cls, fc.pl, rfl, pP, kP, rfl, .inl R2.pl, _, _, rfl, rfl, _, rfl, ?_⟩
  refine ite2 (fun c => ?_) (fun _ => ?_)
  ·have c' : (24 : Int) ≤ (kP.length : Int) := of_decide_eq_true c
   omega
  refine ⟨_, rfl, _, rfl, (by show 2 ≤ sizeLine; decide), fun t nt => ?_⟩
  have s3 := same_new nt (.tup [u, v])
  have R3 := R2.same s3
  have hu3 := (hu.same s2).same s3
  have hv3 := (hv.same s2).same s3
  refine ⟨_, rfl, a, C, dx, _, _, rfl, R3.obj, fc.cls, fc.pl, rfl, _, rfl, pP, _, rfl, DPut.k (k := .inr x) R3.pl (Nat.lt_of_le_of_lt (show kP.length ≤ 1000 by omega) (by decide)), ?_⟩
  have e : putK kP (.inr x) (.ref t) = kP ++ [(.inr x, .ref t)] := putK_new _ (valV_none (by rw [R.keysP]; exact fun z => hx (key_mem.mp z)))
  rw [e]
  have R4 := R3.putPin (x := x) (p := p) (t := t) ⟨t, u, v, rfl, SqT.of upd_same, hu3, hv3⟩
  have k4 : ∀ b o, b ≠ pP → H b = some o → (upd (upd H2 t (.tup [u, v])) pP (.dK (kP ++ [(.inr x, .ref t)]))) b = some o := fun b o n e => by rw [upd_ne n]; exact s3 _ _ (s2 _ _ e)
  generalize upd (upd H2 t (.tup [u, v])) pP (.dK (kP ++ [(.inr x, .ref t)])) = H4 at R4 k4 ⊢
  have lw : kW.length = ps.length := by
   have e1 : kW.length = pw.length := (Paired.length W).symm
   have e2 := congrArg List.length ew
   rw [List.length_map, List.length_map] at e2
   omega
  have t4 : SameT H H4 := fun b xs r => by
   rcases r with r | ⟨o', r⟩
   ·exact .inl (k4 _ _ (fun e => by rw [e, R.pl] at r; cases r) r)
   ·exact .inr ⟨o', k4 _ _ (fun e => by rw [e, R.pl] at r; cases r) r⟩
  have W4 : WyR K H4 pw kW := Paired.mapP W fun _ _ z => ⟨z.1, by
   obtain ⟨l, us, e1, e2, e3⟩ := z.2
   exact ⟨l, us, e1, k4 _ _ (fun e => by rw [e, R.pl] at e2; cases e2) e2, e3.sameT t4⟩⟩
  have h4 : H4 h = some (.ins Ch dxh fsh) := k4 _ _ (fun e => by rw [e, R.pl] at hh; cases hh) hh
  refine ⟨_, rfl, rfl, _, rfl, ?_⟩
  refine ite2 (fun c => absurd (of_decide_eq_true c) (fun z => nomatch z)) (fun _ => ?_)
  refine ⟨_, rfl, h, Ch, dxh, fsh, psh, sph, rfl, h4, hlk, MH, hsp H4 h4 t4 _ fun l1 us H5 s5 n5 e5 p5 => ?_⟩
  refine ⟨l1, us, rfl, SqL.of e5, fun l2 n6 => ?_⟩
  have s6 := same_new n6 (.lst us)
  have R6 := (R4.same s5).same s6
  have W6 := (W4.same s5).same s6
  refine ⟨_, rfl, a, C, dx, _, _, rfl, R6.obj, fc.cls, fc.wy, rfl, _, rfl, pW, _, rfl, DPut.k (k := .inr x) R6.wy (Nat.lt_of_le_of_lt (show kW.length ≤ 1000 by omega) (by decide)), ?_⟩
  have ek : putK kW (.inr x) (.ref l2) = kW ++ [(.inr x, .ref l2)] := putK_new _ (valV_none (by rw [W.keys, ew]; exact fun z => hx (key_mem.mp z)))
  rw [ek]
  have s46 : Same H4 (upd H5 l2 (.lst us)) := fun b o z => s6 _ _ (s5 _ _ z)
  refine q _ _ _ (fun b o n1 n2 e => by rw [upd_ne n2]; exact s46 _ _ (k4 b o n1 e)) (R6.putWays _) ?_ ⟨l2, rfl, ?_⟩
  have ne6 : l2 ≠ pW := fun z => by have h := R6.wy; rw [← z, upd_same] at h; cases h
  rotate_left
  ·cases e : H l2 with
   | none => rfl
   | some o2 =>
    have np2 : l2 ≠ pP := fun z => by
     have z1 := s5 _ _ R4.pl
     rw [← z, n6] at z1
     cases z1
    have z1 := s5 _ _ (k4 _ _ np2 e)
    rw [n6] at z1
    cases z1
  exact Paired.snoc (W6.dict R6.wy) ⟨rfl, l2, us, rfl, by rw [upd_ne ne6, upd_same], (p5.same s6).sameT (.dict R6.wy)⟩
def spTakeBar (K : Frag) (C : Addr) : Sp := fun vs H Q _ => ∃ (a dx pP pW pB : Addr) (ps : List (Str × Pt)) (bs : List (Str × Str × Str)) (kP kW kB : List (Key × V)) (x : Str), vs = [.ref a, .str x] ∧ FrR K H C a dx pP pW pB ps bs kP kW kB ∧
 x ∈ bs.map (·.1) ∧ ∀ (H' : Hp) (kB' : List (Key × V)), KSame pB H H' → FrR K H' C a dx pP pW pB ps (bs.filter fun b => decide (b.1 ≠ x)) kP kW kB' → Q .non H'
theorem sc_a5 : FnScope ["self", "name"] ["self", "name"] (defScope s_a5) := sq
theorem ok_a5 {f : Addr} {fd : FuncData} {C : Addr} (F : Fun K "take_bar" "Frame.take_bar" s_a5 f fd) (fc : FrC K C) : FnOk P w K mg base (CXr P w) 1 f fd ["self", "name"] (spTakeBar K C) := by
 refine fun_okF F sc_a5 (fun vs H Q E h => ?_) (fun cdv A outer s H vs Q E hr h => ?_)
 ·obtain ⟨a, dx, pP, pW, pB, ps, bs, kP, kW, kB, x, rfl, _⟩ := h
  rfl
 obtain ⟨a, dx, pP, pW, pB, ps, bs, kP, kW, kB, x, rfl, R, hx, q⟩ := h
 refine ⟨_, (pss_cons (ps_if (pt_cmp (pc_dnotin (hu_of hr) (pv 1) (pe_fld (pv 0) rfl))) (pss_one (ps_never)) pss_nil)
  (pss_one (ps_expr (pe_dpop1 (pe_fld (pv 0) rfl) (pv 1) ⟨rfl, rfl, rfl, rfl⟩)))), ?_⟩
 refine ⟨_, rfl, _, rfl, a, C, dx, _, _, rfl, R.obj, fc.cls, fc.br, rfl, pB, _, rfl, DGet.k (k := .inr x) R.br, _, rfl, ?_⟩
 rw [R.bar x, decide_eq_true hx]
 obtain ⟨v, ev⟩ := valV_some (kvs := kB) (k := .inr x) (by rw [R.keysB]; exact key_mem.mpr hx)
 refine ⟨_, rfl, a, C, dx, _, _, rfl, R.obj, fc.cls, fc.br, rfl, pB, rfl, .inl ⟨_, .inl R.br⟩, _, rfl, kB, .inr x, v, R.br, rfl, ev, ?_⟩
 exact q _ _ (fun b o n z => by rw [upd_ne n]; exact z) (R.dropBar x)
theorem frDropPin {K : Frag} {H : Hp} {C a dx pP pW pB : Addr} {ps : List (Str × Pt)} {bs : List (Str × Str × Str)} {kP kW kB : List (Key × V)} (R : FrR K H C a dx pP pW pB ps bs kP kW kB) (x : Str) :
  FrR K (upd H pP (.dK (dropK kP (.inr x)))) C a dx pP pW pB (ps.filter fun b => decide (b.1 ≠ x)) bs (dropK kP (.inr x)) kW kB := by
 have s : SameT H (upd H pP (.dK (dropK kP (.inr x)))) := .dict R.pl
 exact ⟨by rw [upd_ne R.ab.1]; exact R.obj, upd_same, by rw [upd_ne (Ne.symm R.ne1)]; exact R.wy, by rw [upd_ne (Ne.symm R.ne2)]; exact R.br, R.ne1, R.ne2, R.ne3, paired_drop x (Paired.mapP R.rp fun _ _ h => ⟨h.1, h.2.sameT s⟩),
  Paired.mapP R.rb fun _ _ h => ⟨h.1, by obtain ⟨p, e, k⟩ := h.2; exact ⟨p, e, s _ _ k⟩⟩⟩
def spTakePinW (K : Frag) (C : Addr) : Sp := fun vs H Q E => ∃ (a dx pP pW pB : Addr) (ps : List (Str × Pt)) (bs : List (Str × Str × Str)) (kP kW kB : List (Key × V)) (pw : List (Str × List (Rat × Rat))) (x : Str), vs = [.ref a, .str x] ∧ FrR K H C a dx pP pW pB ps bs kP kW kB ∧ WyR K H pw kW ∧ pw.map (·.1) = ps.map (·.1) ∧ x ∈ ps.map (·.1) ∧ (∀ b ∈ bs, x ≠ b.2.1 ∧ x ≠ b.2.2) ∧
 ∀ (H' : Hp) (kP' kW' : List (Key × V)), (∀ b o, b ≠ pP → b ≠ pW → H b = some o → H' b = some o) → FrR K H' C a dx pP pW pB (ps.filter fun b => decide (b.1 ≠ x)) bs kP' kW' kB → WyR K H' (pw.filter fun b => decide (b.1 ≠ x)) kW' → (∀ kv ∈ kW', kv ∈ kW) → Q .non H'
theorem sc_a6 : FnScope ["self", "name", "bar", "two"] ["self", "name"] (defScope s_a6) := sq
theorem ok_a6 {f : Addr} {fd : FuncData} {C : Addr} (F : Fun K "take_pin" "Frame.take_pin" s_a6 f fd) (fc : FrC K C) (MC : MtdOk P w K mg base (CXr P w) 1 C "check_pin" ["self", "pin"] (spCheckPin K C)) : FnOk P w K mg base (CXr P w) 2 f fd ["self", "name"] (spTakePinW K C) := by
 refine fun_okF F sc_a6 (fun vs H Q E h => ?_) (fun cdv A outer s H vs Q E hr h => ?_)
 ·obtain ⟨a, dx, pP, pW, pB, ps, bs, kP, kW, kB, pw, x, rfl, _⟩ := h
  rfl
 obtain ⟨a, dx, pP, pW, pB, ps, bs, kP, kW, kB, pw, x, rfl, R, W, ew, hx, hb, q⟩ := h
 refine ⟨_, (pss_cons (ps_expr (pe_mtd (k := 1) (pv 0) hr.mo (pY P w) (pac (pv 1) pa_nil)))
  (pss_cons (ps_thaw (ps_for PassesOwn.never rfl (pi_items (pe_fld (pv 0) rfl)) (pg_tup rfl (pgs_cons (pg_name (i := 2) sc_a6.nd rfl (Or.inl rfl)) (pgs_cons (pg_name (i := 3) sc_a6.nd rfl (Or.inl rfl)) pgs_nil))) (pss_one (ps_if (pt_cmpR op_in_seq (pv 1) (pv 3) rfl) (pss_one (ps_never)) pss_nil))))
  (pss_cons (ps_expr (pe_dpop1 (pe_fld (pv 0) rfl) (pv 1) ⟨rfl, rfl, rfl, rfl⟩))
  (pss_one (ps_expr (pe_dpop1 (pe_fld (pv 0) rfl) (pv 1) ⟨rfl, rfl, rfl, rfl⟩)))))), ?_⟩
 refine ⟨_, rfl, a, C, dx, _, _, _, rfl, R.obj, rfl, MC, _, rfl, a, dx, pP, pW, pB, ps, bs, kP, kW, kB, x, rfl, R, hx, ?_⟩
 have lk : kB.length = bs.length := (Paired.length R.rb).symm
 refine ⟨_, rfl, a, C, dx, _, _, rfl, R.obj, fc.cls, fc.br, rfl, pB, kB, rfl, R.br, fun o => ?_⟩
 have k0 : KSame pB H (upd H pB (.frz o (.dK kB))) := fun b o' n e => by rw [upd_ne n]; exact e
 refine for_items (d := pB) (o := o) (kvs := kB) (fun t σ H' => ∃ (o2 o3 : Option V), σ = [some (.ref a), some (.str x), o2, o3] ∧ KSame pB H H' ∧ H' pB = some (.frz o (.dK kB))) ⟨none, none, rfl, k0, upd_same⟩ (fun t σ H' _ h => by
   obtain ⟨_, _, _, _, h⟩ := h
   exact h) ?_ ?_
 ·rintro t k y σ H6 p7 ekv ⟨o2, o3, rfl, k6, hd6⟩ n7
  obtain ⟨z, ez, hz1, p, ep, hz2⟩ := paired_get (paired_flip R.rb) ekv
  have hz1' : k = .inr z.1 := hz1
  subst hz1'
  have ep' : y = .ref p := ep
  subst ep'
  have s6 : SameT H H6 := fun b xs r => by
   rcases r with r | ⟨o', r⟩
   ·exact .inl (k6 _ _ (fun e => by rw [e, R.br] at r; cases r) r)
   ·exact .inr ⟨o', k6 _ _ (fun e => by rw [e, R.br] at r; cases r) r⟩
  have s7 := same_new n7 (.tup [kV (.inr z.1), .ref p])
  have s67 : SameT H (upd H6 p7 (.tup [kV (.inr z.1), .ref p])) := s6.trans (.of s7)
  obtain ⟨n1, n2⟩ := hb z (List.mem_of_getElem? ez)
  refine ⟨p7, _, rfl, SqT.of upd_same, rfl, _, _, rfl, _, _, rfl, rfl, ?_⟩
  refine ⟨_, rfl, _, rfl, p, [.str z.2.1, .str z.2.2], rfl, .inr (s67.seqT (.inl hz2)), rfl, rfl, _, rfl, ?_⟩
  refine ite2 (fun c => ?_) (fun _ => ⟨_, _, rfl, fun b o' n e => s7 _ _ (k6 b o' n e), s7 _ _ hd6⟩)
  exfalso
  have c' : inV (.str x) [.str z.2.1, .str z.2.2] = true := c
  simp [inV, eqV] at c'
  rcases c' with c' | c'
  ·exact n1 c'.symm
  ·exact n2 c'.symm
 ·rintro σ H1 ⟨o2, o3, rfl, k1, hd1⟩
  refine ⟨pB, o, kB, hd1, fun o' u' z => (by have z' : H pB = some (.frz o' u') := z; rw [R.br] at z'; cases z'), ?_⟩
  have s2 : Same H (upd H1 pB (.dK kB)) := fun b o' e => by
   by_cases n : b = pB
   ·subst n
    rw [R.br] at e
    rw [upd_same]
    exact e
   ·rw [upd_ne n]
    exact k1 b o' n e
  generalize upd H1 pB (.dK kB) = H2 at s2 ⊢
  have R2 := R.same s2
  obtain ⟨v, ev⟩ := valV_some (kvs := kP) (k := .inr x) (by rw [R.keysP]; exact key_mem.mpr hx)
  have kk : kW.map (·.1) = (ps.map (·.1)).map (fun b => (Sum.inr b : Key)) := by rw [paired_keys W, ← ew, List.map_map]; rfl
  obtain ⟨v2, ev2⟩ := valV_some (kvs := kW) (k := .inr x) (by rw [kk]; exact key_mem.mpr hx)
  refine ⟨_, rfl, a, C, dx, _, _, rfl, R2.obj, fc.cls, fc.pl, rfl, pP, rfl, .inl ⟨_, .inl R2.pl⟩, _, rfl, kP, .inr x, v, R2.pl, rfl, ev, ?_⟩
  have R3 := frDropPin R2 x
  have k3 : ∀ b o, b ≠ pP → H b = some o → (upd H2 pP (.dK (dropK kP (.inr x)))) b = some o := fun b o n e => by rw [upd_ne n]; exact s2 _ _ e
  have k2 : KSame pP H2 (upd H2 pP (.dK (dropK kP (.inr x)))) := fun b o n e => by rw [upd_ne n]; exact e
  generalize upd H2 pP (.dK (dropK kP (.inr x))) = H3 at R3 k3 k2 ⊢
  refine ⟨_, rfl, a, C, dx, _, _, rfl, R3.obj, fc.cls, fc.wy, rfl, pW, rfl, .inl ⟨_, .inl R3.wy⟩, _, rfl, kW, .inr x, v2, R3.wy, rfl, ev2, ?_⟩
  have t3 : SameT H2 H3 := fun b xs r => by
   rcases r with r | ⟨o', r⟩
   ·exact .inl (k2 _ _ (fun e => by rw [e, R2.pl] at r; cases r) r)
   ·exact .inr ⟨o', k2 _ _ (fun e => by rw [e, R2.pl] at r; cases r) r⟩
  have t4 : SameT H3 (upd H3 pW (.dK (dropK kW (.inr x)))) := .dict R3.wy
  refine q _ _ _ (fun b o n1 n2 e => by rw [upd_ne n2]; exact k3 b o n1 e) (R3.putWays _) (paired_drop x (Paired.mapP (W.same s2) fun _ _ z => ⟨z.1, ?_⟩)) (fun kv h => by unfold dropK at h; exact (List.mem_filter.mp h).1)
  obtain ⟨l, us, z1, z2, z3⟩ := z.2
  exact ⟨l, us, z1, by rw [upd_ne (fun e => by rw [e, R2.wy] at z2; cases z2)]; exact k2 _ _ (fun e => by rw [e, R2.pl] at z2; cases z2) z2, (z3.sameT t3).sameT t4⟩
def armP (p q : PinD) : Rat × Rat := (q.sp.1 - p.sp.1, q.sp.2 - p.sp.2)
def spArm (K : Frag) (C : Addr) : Sp := fun vs H Q _ => ∃ (a : Addr) (pins : List PinD) (bars : List BarD) (p q : PinD), vs = [.ref a, .str p.nm, .str q.nm] ∧ FrA K H C a pins bars ∧ GoodF pins bars ∧ p ∈ pins ∧ q ∈ pins ∧ givesP K H Q (armP p q)
theorem np_of {pins : List PinD} (h : (pins.map (·.nm)).Nodup) : ((pins.map fun p => (p.nm, ptQ p.sp)).map (·.1)).Nodup := by
 rw [List.map_map]
 exact h
theorem nw_of {pins : List PinD} (h : (pins.map (·.nm)).Nodup) : ((pins.map fun p => (p.nm, p.ws)).map (·.1)).Nodup := by
 rw [List.map_map]
 exact h
theorem nb_of {bars : List BarD} (h : (bars.map (·.nm)).Nodup) : ((bars.map fun b => (b.nm, b.one.nm, b.other.nm)).map (·.1)).Nodup := by
 rw [List.map_map]
 exact h
theorem sc_af : FnScope ["F", "one", "other"] ["F", "one", "other"] (defScope s_af) := sq
theorem ok_af {C : Addr} (D : Def K mg "arm_between" s_af ["F", "one", "other"]) (MP : MtdOk P w K mg base (CXr P w) 2 C "place" ["self", "pin"] (spPlace K C)) (G_a1 : Fn P w K mg base (CXr P w) 35 "pair_difference" ["one", "other"] (spPair K fun a b => a - b)) : Fn P w K mg base (CXr P w) 36 "arm_between" ["F", "one", "other"] (spArm K C) := by
 refine D.ok sc_af (fun vs H Q E h => ?_) (fun f cdv A outer s H vs Q E hr h => ?_)
 ·obtain ⟨a, pins, bars, p, q, rfl, _⟩ := h
  rfl
 obtain ⟨a, pins, bars, p, q, rfl, R, g, hp, hq, k⟩ := h
 obtain ⟨dx, pP, pW, pB, kP, kW, kB, R, W⟩ := R.ex
 refine ⟨_, (pss_one (ps_ret (pe_fn G_a1 hr.mo (pY P w) (pac (pe_mtd (k := 2) (pv 0) hr.mo (pY P w) (pac (pv 2) pa_nil)) (pac (pe_mtd (k := 2) (pv 0) hr.mo (pY P w) (pac (pv 1) pa_nil)) pa_nil))))), ?_⟩
 refine ⟨_, rfl, a, C, dx, _, _, _, rfl, R.obj, rfl, MP, _, rfl, a, dx, pP, pW, pB, _, _, kP, kW, kB, q.nm, ptQ q.sp, rfl, R, np_of g.np, List.mem_map.mpr ⟨q, hq, rfl⟩, fun v1 h1 => ?_⟩
 refine ⟨_, rfl, a, C, dx, _, _, _, rfl, R.obj, rfl, MP, _, rfl, a, dx, pP, pW, pB, _, _, kP, kW, kB, p.nm, ptQ p.sp, rfl, R, np_of g.np, List.mem_map.mpr ⟨p, hp, rfl⟩, fun v2 h2 => ?_⟩
 have z1 := g.sz q hq
 have z2 := g.sz p hp
 exact ⟨v1, v2, q.sp, p.sp, rfl, h1, h2, z1.1.up (by decide), z1.2.1.up (by decide), z2.1.up (by decide), z2.2.1.up (by decide), k⟩
def hfo (ws : List (Rat × Rat)) (rs : List Rat) : Nat → Rat × Rat
 | 0 => (0, 0)
 | i + 1 => ((hfo ws rs i).1 + rs.getD i 0 * (ws.getD i (0, 0)).1, (hfo ws rs i).2 + rs.getD i 0 * (ws.getD i (0, 0)).2)
def spHoldForce (K : Frag) : Sp := fun vs H Q _ => ∃ (l m : Addr) (us vs' : List V) (ws : List (Rat × Rat)) (rs : List Rat), vs = [.ref l, .ref m] ∧ H l = some (.lst us) ∧ PtsR K H us ws ∧ H m = some (.lst vs') ∧ Paired (NmR K H) vs' rs ∧ ws.length ≤ 2 ∧ (∀ w ∈ ws, Sz 50 w.1 ∧ Sz 50 w.2) ∧ (∀ r ∈ rs, Sz 50 r) ∧ givesP K H Q (hfo ws rs (min ws.length rs.length))
theorem sz_zero {k : Nat} (hk : 1 ≤ k) : Sz k 0 := by
 have := sz_int (i := 0) (k := k) (by exact Nat.two_pow_pos _) hk
 simpa using this
theorem hfo_sz {ws : List (Rat × Rat)} {rs : List Rat} (hw : ∀ w ∈ ws, Sz 50 w.1 ∧ Sz 50 w.2) (hr : ∀ r ∈ rs, Sz 50 r) : ∀ i, i ≤ min ws.length rs.length → Sz (101 * i + 1) (hfo ws rs i).1 ∧ Sz (101 * i + 1) (hfo ws rs i).2
 | 0, _ => ⟨sz_zero (by omega), sz_zero (by omega)⟩
 | i + 1, h => by
  obtain ⟨a, b⟩ := hfo_sz hw hr i (by omega)
  have l1 : i < ws.length := by omega
  have l2 : i < rs.length := by omega
  have e1 : ws.getD i (0, 0) = ws[i] := by rw [List.getD_eq_getElem?_getD, gE l1]; rfl
  have e2 : rs.getD i 0 = rs[i] := by rw [List.getD_eq_getElem?_getD, gE l2]; rfl
  have z1 := hw ws[i] (List.getElem_mem l1)
  have z2 := hr rs[i] (List.getElem_mem l2)
  unfold hfo
  rw [e1, e2]
  exact ⟨(a.add (z2.mul z1.1)).up (by omega), (b.add (z2.mul z1.2)).up (by omega)⟩
theorem sc_an : FnScope ["ways", "pushes", "force", "way", "push"] ["ways", "pushes"] (defScope s_an) := sq
theorem ok_an {aM : Addr} (hM : ∀ H : Hp, PtR K H (.ref aM) (0, 0)) (m_bf : mg "NO_MOVE" = some (.ref aM)) (m_zip : mg "zip" = none) (D : Def K mg "hold_force" s_an ["ways", "pushes"]) (G_bd : Fn P w K mg base (CXr P w) 35 "pair_sum" ["one", "other"] (spPair K fun a b => a + b)) (G_ay : Fn P w K mg base (CXr P w) 35 "stretched" ["number", "pair"] (spStretched K)) :
  Fn P w K mg base (CXr P w) 36 "hold_force" ["ways", "pushes"] (spHoldForce K) := by
 refine D.ok sc_an (fun vs H Q E h => ?_) (fun f cdv A outer s H vs Q E hr h => ?_)
 ·obtain ⟨l, m, us, vs', ws, rs, rfl, _⟩ := h
  rfl
 obtain ⟨l, m, us, vs', ws, rs, rfl, hl, pl, hm, pm, lw, zw, zr, q⟩ := h
 refine ⟨_, (pss_cons (ps_set (i := 2) sc_an.nd rfl (Or.inl rfl) (pe_glob (v := .ref aM) rfl m_bf rfl))
  (pss_cons (ps_for PassesOwn.never rfl (pi_zip rfl m_zip (pac (pv 0) (pac (pv 1) pa_nil))) (pg_tup rfl (pgs_cons (pg_name (i := 3) sc_an.nd rfl (Or.inl rfl)) (pgs_cons (pg_name (i := 4) sc_an.nd rfl (Or.inl rfl)) pgs_nil))) (pss_one (ps_set (i := 2) sc_an.nd rfl (Or.inl rfl) (pe_fn G_bd hr.mo pX (pac (pv 2) (pac (pe_fn G_ay hr.mo pX (pac (pv 4) (pac (pv 3) pa_nil))) pa_nil))))))
  (pss_one (ps_ret (pv 2))))), ?_⟩
 have e1 : us.length = ws.length := Paired.length pl
 have e2 : vs'.length = rs.length := Paired.length pm
 refine ⟨_, rfl, _, rfl, l, m, rfl, ⟨_, SqL.of hl⟩, ⟨_, SqL.of hm⟩, for_zip (K := K) (a := l) (b := m) (xs := us) (ys := vs') (fun i σ H' => ∃ (v : V) (o3 o4 : Option V), σ = [some (.ref l), some (.ref m), some v, o3, o4] ∧ Same H H' ∧ i ≤ min ws.length rs.length ∧ PtR K H' v (hfo ws rs i)) ⟨.ref aM, none, none, rfl, fun b o z => z, Nat.zero_le _, hM _⟩ (fun i σ H' h => by
   obtain ⟨_, _, _, _, s, _⟩ := h
   exact ⟨SqL.of (s _ _ hl), SqL.of (s _ _ hm)⟩) ?_ ?_⟩
 ·rintro i x y σ H4 p7 ex ey ⟨v, o3, o4, rfl, s4, hi, n4⟩ n7
  have lx : i < us.length := (List.getElem?_eq_some_iff.mp ex).1
  have ly : i < vs'.length := (List.getElem?_eq_some_iff.mp ey).1
  obtain ⟨wv, ew, hw⟩ := paired_get pl ex
  obtain ⟨rv, er, hr'⟩ := paired_get pm ey
  have s7 := same_new n7 (.tup [x, y])
  refine ⟨p7, _, rfl, SqT.of upd_same, rfl, _, _, rfl, _, _, rfl, rfl, ?_⟩
  have z1 := zw wv (List.mem_of_getElem? ew)
  have z2 := zr rv (List.mem_of_getElem? er)
  refine ⟨_, rfl, _, rfl, _, rfl, y, x, rv, wv, rfl, (hr'.same s4).same s7, (hw.same s4).same s7, z2.up (by decide), z1.1.up (by decide), z1.2.up (by decide), fun v8 H8 s8 h8 => ?_⟩
  obtain ⟨a1, a2⟩ := hfo_sz zw zr i (by omega)
  refine ⟨v, v8, _, _, rfl, (n4.same s7).same s8, h8, a1.up (by omega), a2.up (by omega), (z2.mul z1.1).up (by decide), (z2.mul z1.2).up (by decide), fun v9 H9 s9 h9 => ?_⟩
  refine ⟨v9, _, _, rfl, fun b o z => s9 _ _ (s8 _ _ (s7 _ _ (s4 _ _ z))), by omega, ?_⟩
  have g1 : ws.getD i (0, 0) = wv := by rw [List.getD_eq_getElem?_getD, ew]; rfl
  have g2 : rs.getD i 0 = rv := by rw [List.getD_eq_getElem?_getD, er]; rfl
  unfold hfo
  rw [g1, g2]
  exact h9
 ·rintro σ H4 ⟨v, o3, o4, rfl, s4, hi, n4⟩
  rw [e1, e2] at n4
  exact ⟨_, rfl, q v H4 s4 n4⟩
def pullD (T : Str → Option Rat) (b : BarD) : Rat × Rat := ((T b.nm).getD 0 * (armP b.one b.other).1, (T b.nm).getD 0 * (armP b.one b.other).2)
def onPin (T : Str → Option Rat) (b : BarD) (x : Str) : Rat × Rat := if x = b.one.nm then pullD T b else if x = b.other.nm then (-(pullD T b).1, -(pullD T b).2) else (0, 0)
def hold0 (U : Str → Option (List Rat)) (p : PinD) : Rat × Rat := hfo p.ws ((U p.nm).getD []) (min p.ws.length ((U p.nm).getD []).length)
def forceP (T : Str → Option Rat) (U : Str → Option (List Rat)) (bars : List BarD) (p : PinD) : Rat × Rat := bars.foldl (fun f b => (f.1 + (onPin T b p.nm).1, f.2 + (onPin T b p.nm).2)) (hold0 U p)
theorem forceP_snoc {T : Str → Option Rat} {U : Str → Option (List Rat)} {bars : List BarD} {b : BarD} {p : PinD} : forceP T U (bars ++ [b]) p = ((forceP T U bars p).1 + (onPin T b p.nm).1, (forceP T U bars p).2 + (onPin T b p.nm).2) := by
 unfold forceP
 rw [List.foldl_append]
 rfl
structure FzOk (T : Str → Option Rat) (U : Str → Option (List Rat)) : Prop where
 t : ∀ x, Sz 50 ((T x).getD 0)
 u : ∀ x, ∀ r ∈ (U x).getD [], Sz 50 r
theorem pull_sz {pins : List PinD} {bars : List BarD} (g : GoodF pins bars) {T : Str → Option Rat} {U : Str → Option (List Rat)} (z : FzOk T U) {b : BarD} (hb : b ∈ bars) : Sz 251 (pullD T b).1 ∧ Sz 251 (pullD T b).2 := by
 obtain ⟨m1, m2, _⟩ := g.ends b hb
 have y1 := g.sz _ m1
 have y2 := g.sz _ m2
 have t := z.t b.nm
 exact ⟨(t.mul (y2.1.sub y1.1)).up (by decide), (t.mul (y2.2.1.sub y1.2.1)).up (by decide)⟩
theorem on_sz {pins : List PinD} {bars : List BarD} (g : GoodF pins bars) {T : Str → Option Rat} {U : Str → Option (List Rat)} (z : FzOk T U) {b : BarD} (hb : b ∈ bars) (x : Str) : Sz 251 (onPin T b x).1 ∧ Sz 251 (onPin T b x).2 := by
 obtain ⟨p1, p2⟩ := pull_sz g z hb
 unfold onPin
 split
 ·exact ⟨p1, p2⟩
 ·split
  ·exact ⟨p1.neg, p2.neg⟩
  ·exact ⟨sz_zero (by decide), sz_zero (by decide)⟩
theorem force_sz {pins : List PinD} {bars : List BarD} (g : GoodF pins bars) {T : Str → Option Rat} {U : Str → Option (List Rat)} (z : FzOk T U) {p : PinD} (hp : p ∈ pins) : ∀ (n : Nat) (bs : List BarD), bs.length = n → (∀ b ∈ bs, b ∈ bars) → Sz (204 + 252 * n) (forceP T U bs p).1 ∧ Sz (204 + 252 * n) (forceP T U bs p).2 := by
 intro n
 induction n with
 | zero =>
  intro bs e _
  obtain rfl := List.length_eq_zero_iff.mp e
  have := hfo_sz (ws := p.ws) (rs := (U p.nm).getD []) (g.sz p hp).2.2 (z.u p.nm) _ (Nat.le_refl _)
  have l := g.lw p hp
  exact ⟨this.1.up (by omega), this.2.up (by omega)⟩
 | succ n ih =>
  intro bs e hb
  have ne : bs ≠ [] := by intro z; subst z; cases e
  have e1 : bs = bs.dropLast ++ [bs.getLast ne] := (List.dropLast_concat_getLast ne).symm
  have a := ih bs.dropLast (by rw [List.length_dropLast]; omega) (fun b m => hb b (List.dropLast_subset _ m))
  have o := on_sz g z (hb _ (List.getLast_mem ne)) p.nm
  rw [e1, forceP_snoc]
  exact ⟨(a.1.add o.1).up (by omega), (a.2.add o.2).up (by omega)⟩
def spForces (K : Frag) (C : Addr) : Sp := fun vs H Q _ => ∃ (a d m : Addr) (pins : List PinD) (bars : List BarD) (kvs kus : List (Key × V)) (T : Str → Option Rat) (U : Str → Option (List Rat)), vs = [.ref a, .ref d, .ref m] ∧ FrA K H C a pins bars ∧ GoodF pins bars ∧ H d = some (.dK kvs) ∧ RtD K H kvs T ∧ H m = some (.dK kus) ∧ LtD K H kus U ∧ FzOk T U ∧
 ∀ (e : Addr) (kvs' : List (Key × V)) (H' : Hp), Same H H' → H e = none → H' e = some (.dK kvs') → kvs'.map (·.1) = pins.map (fun b => (Sum.inr b.nm : Key)) → (∀ p ∈ pins, ∃ v, valV kvs' (.inr p.nm) = some v ∧ PtR K H' v (forceP T U bars p)) → Q (.ref e) H'
theorem putK_there {κ : Type} [DecidableEq κ] {kvs : List (κ × V)} {k : κ} {v : V} (h : (valV kvs k).isSome = true) : (putK kvs k v).map (·.1) = kvs.map (·.1) ∧ (putK kvs k v).length = kvs.length := by
 unfold putK
 rw [valV_any, h, if_pos rfl]
 refine ⟨?_, by rw [List.length_map]⟩
 rw [List.map_map]
 refine List.map_congr_left fun kv _ => ?_
 show (if kv.1 = k then (kv.1, v) else kv).1 = kv.1
 split <;> rfl
theorem sc_az : FnScope ["F", "pulls", "pushes", "forces", "pin", "bar", "two", "drawn"] ["F", "pulls", "pushes"] (defScope s_az) := sq
theorem ok_az {C aN : Addr} (hN : ∀ H : Hp, NmR K H (.ref aN) 0) (m_bh : mg "NOUGHT" = some (.ref aN)) (D : Def K mg "forces_at" s_az ["F", "pulls", "pushes"]) (MPn : MtdOk P w K mg base (CXr P w) 1 C "pins" ["self"] (spPins K C)) (MW : MtdOk P w K mg base (CXr P w) 2 C "ways" ["self", "pin"] (spWays K C)) (MB : MtdOk P w K mg base (CXr P w) 1 C "bars" ["self"] (spBars K C)) (ME : MtdOk P w K mg base (CXr P w) 1 C "ends" ["self", "bar"] (spEnds K C))
  (G_an : Fn P w K mg base (CXr P w) 36 "hold_force" ["ways", "pushes"] (spHoldForce K)) (G_af : Fn P w K mg base (CXr P w) 36 "arm_between" ["F", "one", "other"] (spArm K C)) (G_ay : Fn P w K mg base (CXr P w) 35 "stretched" ["number", "pair"] (spStretched K))
  (G_bd : Fn P w K mg base (CXr P w) 35 "pair_sum" ["one", "other"] (spPair K fun a b => a + b)) (G_a1 : Fn P w K mg base (CXr P w) 35 "pair_difference" ["one", "other"] (spPair K fun a b => a - b)) :
  Fn P w K mg base (CXr P w) 37 "forces_at" ["F", "pulls", "pushes"] (spForces K C) := by
 refine D.ok sc_az (fun vs H Q E h => ?_) (fun f cdv A outer s H vs Q E hr h => ?_)
 ·obtain ⟨a, d, m, pins, bars, kvs, kus, T, U, rfl, _⟩ := h
  rfl
 obtain ⟨a, d, m, pins, bars, kvs, kus, T, U, rfl, R, g, hd, hT, hm, hU, fz, q⟩ := h
 refine ⟨_, (pss_cons (ps_set (i := 3) sc_az.nd rfl (Or.inl rfl) pe_dnewK)
  (pss_cons (ps_for PassesOwn.never rfl (pi_list (pe_mtd0 (k := 1) (pv 0) hr.mo (pY P w))) (pg_name (i := 4) sc_az.nd rfl (Or.inl rfl)) (pss_one (ps_dput (hu_of hr) (pv 3) (pv 4) (pe_fn G_an hr.mo (pY P w) (pac (pe_mtd (k := 2) (pv 0) hr.mo (pY P w) (pac (pv 4) pa_nil)) (pac (pe_dget2 (hu_of hr) (pv 2) (pv 4) (pe_lst pa_nil) ⟨rfl, rfl, rfl, rfl⟩) pa_nil))) rfl)))
  (pss_cons (ps_for PassesOwn.never rfl (pi_list (pe_mtd0 (k := 1) (pv 0) hr.mo (pY P w))) (pg_name (i := 5) sc_az.nd rfl (Or.inl rfl)) (pss_cons (ps_set (i := 6) sc_az.nd rfl (Or.inl rfl) (pe_mtd (k := 1) (pv 0) hr.mo (pY P w) (pac (pv 5) pa_nil)))
   (pss_cons (ps_set (i := 7) sc_az.nd rfl (Or.inl rfl) (pe_fn G_ay hr.mo (pY P w) (pac (pe_dget2 (hu_of hr) (pv 1) (pv 5) (pe_glob (v := .ref aN) rfl m_bh rfl) ⟨rfl, rfl, rfl, rfl⟩) (pac (pe_fn G_af hr.mo (pY P w) (pac (pv 0) (pac (pe_tx (pv 6)) (pac (pe_tx (pv 6)) pa_nil)))) pa_nil))))
   (pss_cons (ps_dput (hu_of hr) (pv 3) (pe_tx (pv 6)) (pe_fn G_bd hr.mo (pY P w) (pac (pe_dget (hu_of hr) (pv 3) (pe_tx (pv 6)) (fun _ _ => rfl)) (pac (pv 7) pa_nil))) rfl)
   (pss_one (ps_dput (hu_of hr) (pv 3) (pe_tx (pv 6)) (pe_fn G_a1 hr.mo (pY P w) (pac (pe_dget (hu_of hr) (pv 3) (pe_tx (pv 6)) (fun _ _ => rfl)) (pac (pv 7) pa_nil))) rfl))))))
  (pss_one (ps_ret (pv 3)))))), ?_⟩
 intro e ne
 have s1 := same_new ne (.dK [])
 have e1 : (upd H e (.dK [])) e = some (.dK []) := upd_same
 generalize upd H e (.dK []) = H1 at s1 e1 ⊢
 have R1 := R.same s1
 obtain ⟨dx, pP, pW, pB, kP, kW, kB, F1, W1⟩ := R1.ex
 refine ⟨_, rfl, a, C, dx, _, _, _, rfl, F1.obj, rfl, MPn, a, dx, pP, pW, pB, _, _, kP, kW, kB, rfl, F1, fun l H2 s2 nl el => ?_⟩
 have nmb : ((pins.map fun p => (p.nm, ptQ p.sp)).map (·.1)) = pins.map (·.nm) := by rw [List.map_map]; rfl
 rw [nmb] at el
 refine ⟨l, rfl, ⟨_, SqL.of el⟩, for_list (K := K) (a := l) (xs := (pins.map (·.nm)).map V.str) (fun i σ H' => ∃ (o3 : Option V) (kv' : List (Key × V)), σ = [some (.ref a), some (.ref d), some (.ref m), some (.ref e), o3, none, none, none] ∧ Same H H' ∧ H' l = some (.lst ((pins.map (·.nm)).map V.str)) ∧ H' e = some (.dK kv') ∧ kv'.map (·.1) = (pins.take i).map (fun b => (Sum.inr b.nm : Key)) ∧
  ∀ p ∈ pins.take i, ∃ v, valV kv' (.inr p.nm) = some v ∧ PtR K H' v (hold0 U p)) ⟨none, [], rfl, fun b o z => s2 _ _ (s1 _ _ z), el, s2 _ _ e1, rfl, fun b hb => by simp at hb⟩ (fun i σ H' _ h => by
   obtain ⟨_, _, _, _, h, _⟩ := h
   exact SqL.of h) ?_ ?_⟩
 ·rintro i z σ H4 hi ⟨o3, kv', rfl, s4, l4, e4, ks, tl⟩
  rw [List.getElem?_map, List.getElem?_map] at hi
  obtain ⟨x, hx, rfl⟩ := Option.map_eq_some_iff.mp hi
  obtain ⟨b, hb, rfl⟩ := Option.map_eq_some_iff.mp hx
  have mb : b ∈ pins := List.mem_of_getElem? hb
  have R4 := R.same s4
  obtain ⟨dx, pP, pW, pB, kP, kW, kB, F4, W4⟩ := R4.ex
  have mp : b.nm ∈ (pins.map fun p => (p.nm, ptQ p.sp)).map (·.1) := by rw [nmb]; exact List.mem_map.mpr ⟨b, mb, rfl⟩
  refine ⟨_, rfl, a, C, dx, _, _, _, rfl, F4.obj, rfl, MW, _, rfl, a, dx, pP, pW, pB, _, _, kP, kW, kB, _, b.nm, b.ws, rfl, F4, W4, nw_of g.np, List.mem_map.mpr ⟨b, mb, rfl⟩, mp, fun l5 us H5 s5 n5 e5 p5 => ?_⟩
  have s05 : Same H H5 := fun b o z => s5 _ _ (s4 _ _ z)
  have m5 := s05 _ _ hm
  have U5 := hU.same s05
  refine ⟨_, rfl, m, rfl, .inl ⟨_, .inl m5⟩, _, rfl, (by show 0 ≤ sizeLine; decide), fun l6 n6 => ?_⟩
  have s6 := same_new n6 (.lst [])
  refine ⟨_, DGet.k (k := .inr b.nm) (s6 _ _ m5), ?_⟩
  have pu : ∃ (l7 : Addr) (us7 : List V), (valV kus (.inr b.nm)).getD (.ref l6) = .ref l7 ∧ (upd H5 l6 (.lst [])) l7 = some (.lst us7) ∧ Paired (NmR K (upd H5 l6 (.lst []))) us7 ((U b.nm).getD []) := by
   rcases U5 b.nm with ⟨h1, h2⟩ | ⟨l7, us7, rs, h1, h2, h3, h4⟩
   ·rw [h1, h2]
    exact ⟨l6, [], rfl, upd_same, .nil⟩
   ·rw [h1, h2]
    exact ⟨l7, us7, rfl, s6 _ _ h3, Paired.mapP h4 fun _ _ z => z.same s6⟩
  obtain ⟨l7, us7, e7, h7, p7⟩ := pu
  rw [e7]
  refine ⟨l5, l7, us, us7, b.ws, (U b.nm).getD [], rfl, s6 _ _ e5, p5.same s6, h7, p7, g.lw b mb, (g.sz b mb).2.2, fz.u b.nm, fun v8 H8 s8 h8 => ?_⟩
  have s48 : Same H4 H8 := fun b o z => s8 _ _ (s6 _ _ (s5 _ _ z))
  have e8 := s48 _ _ e4
  have lk : kv'.length ≤ 6 := by
   have z := congrArg List.length ks
   rw [List.length_map, List.length_map, List.length_take] at z
   have := g.lp
   omega
  have fresh : (Sum.inr b.nm : Key) ∉ kv'.map (·.1) := by
   rw [ks]
   intro z
   obtain ⟨b', hb', eb'⟩ := List.mem_map.mp z
   exact take_new (nm := PinD.nm) g.np hb hb' (Sum.inr.inj eb')
  have pk : putK kv' (.inr b.nm) v8 = kv' ++ [(.inr b.nm, v8)] := putK_new _ (valV_none fresh)
  refine ⟨_, rfl, _, rfl, e, _, rfl, DPut.k (k := .inr b.nm) e8 (Nat.lt_of_le_of_lt (show kv'.length ≤ 1000 by omega) (by decide)), ?_⟩
  have t8 : SameT H8 (upd H8 e (.dK (putK kv' (.inr b.nm) v8))) := .dict e8
  have tk := take_snoc hb
  refine ⟨_, _, rfl, fun c o z => ?_, ?_, upd_same, ?_, fun p' hp' => ?_⟩
  ·rw [upd_ne (ne_of_none z ne)]
   exact s48 _ _ (s4 _ _ z)
  ·rw [upd_ne (fun z => by rw [z, e4] at l4; cases l4)]
   exact s48 _ _ l4
  ·rw [pk, List.map_append, ks, tk, List.map_append]
   rfl
  ·rw [valV_put]
   by_cases c : p'.nm = b.nm
   ·have eb : p' = b := nm_inj (nm := PinD.nm) g.np (List.mem_of_mem_take hp') mb c
    subst eb
    rw [if_pos rfl]
    exact ⟨v8, rfl, h8.sameT t8⟩
   ·rw [if_neg (fun z => c (Sum.inr.inj z))]
    rw [tk, List.mem_append] at hp'
    rcases hp' with hp' | hp'
    ·obtain ⟨v, h1, h2⟩ := tl p' hp'
     exact ⟨v, h1, (h2.same s48).sameT t8⟩
    ·rw [List.mem_singleton] at hp'
     exact absurd (by rw [hp']) c
 ·rintro σ H3 ⟨o3, kv3, rfl, s3, l3, e3, ks3, tl3⟩
  rw [List.length_map, List.length_map, List.take_length] at ks3 tl3
  have R3 := R.same s3
  obtain ⟨dx, pP, pW, pB, kP, kW, kB, F3, W3⟩ := R3.ex
  refine ⟨_, rfl, a, C, dx, _, _, _, rfl, F3.obj, rfl, MB, a, dx, pP, pW, pB, _, _, kP, kW, kB, rfl, F3, fun lb H5 s5 nlb elb => ?_⟩
  have nmb2 : ((bars.map fun b => (b.nm, b.one.nm, b.other.nm)).map (·.1)) = bars.map (·.nm) := by rw [List.map_map]; rfl
  rw [nmb2] at elb
  refine ⟨lb, rfl, ⟨_, SqL.of elb⟩, for_list (K := K) (a := lb) (xs := (bars.map (·.nm)).map V.str) (fun i σ H' => ∃ (o5 o6 o7 : Option V) (kv' : List (Key × V)), σ = [some (.ref a), some (.ref d), some (.ref m), some (.ref e), o3, o5, o6, o7] ∧ Same H H' ∧ H' lb = some (.lst ((bars.map (·.nm)).map V.str)) ∧ H' e = some (.dK kv') ∧ kv'.map (·.1) = pins.map (fun b => (Sum.inr b.nm : Key)) ∧
   ∀ p ∈ pins, ∃ v, valV kv' (.inr p.nm) = some v ∧ PtR K H' v (forceP T U (bars.take i) p)) ⟨none, none, none, kv3, rfl, fun b o z => s5 _ _ (s3 _ _ z), elb, s5 _ _ e3, ks3, fun p hp => by
    obtain ⟨v, h1, h2⟩ := tl3 p hp
    exact ⟨v, h1, h2.same s5⟩⟩ (fun i σ H' _ h => by
    obtain ⟨_, _, _, _, _, _, h, _⟩ := h
    exact SqL.of h) ?_ ?_⟩
  ·rintro i z σ H6 hi ⟨o5, o6, o7, kv', rfl, s6, l6, e6, ks, tl⟩
   rw [List.getElem?_map, List.getElem?_map] at hi
   obtain ⟨x, hx, rfl⟩ := Option.map_eq_some_iff.mp hi
   obtain ⟨b, hb, rfl⟩ := Option.map_eq_some_iff.mp hx
   have il : i < bars.length := (List.getElem?_eq_some_iff.mp hb).1
   have mb : b ∈ bars := List.mem_of_getElem? hb
   obtain ⟨m1, m2, m3⟩ := g.ends b mb
   have R6 := R.same s6
   obtain ⟨dx, pP, pW, pB, kP, kW, kB, F6, W6⟩ := R6.ex
   refine ⟨_, rfl, a, C, dx, _, _, _, rfl, F6.obj, rfl, ME, _, rfl, a, dx, pP, pW, pB, _, _, kP, kW, kB, b.nm, b.one.nm, b.other.nm, rfl, F6, nb_of g.nb, List.mem_map.mpr ⟨b, mb, rfl⟩, fun p rd => ?_⟩
   have tp : SqT K H6 p [.str b.one.nm, .str b.other.nm] := .inl rd
   have d6 := s6 _ _ hd
   have T6 := hT.same s6
   refine ⟨_, rfl, d, rfl, .inl ⟨_, .inl d6⟩, _, rfl, _, DGet.k (k := .inr b.nm) d6, ?_⟩
   have g1 : NmR K H6 ((valV kvs (.inr b.nm)).getD (.ref aN)) ((T b.nm).getD 0) := T6.dget (hN H6)
   generalize (valV kvs (.inr b.nm)).getD (.ref aN) = v1 at g1 ⊢
   refine ⟨_, rfl, _, rfl, p, _, _, _, rfl, rfl, tp, at0, _, rfl, p, _, _, _, rfl, rfl, tp, at1, a, pins, bars, b.one, b.other, rfl, R6, g, m1, m2, fun v7 H7 s7 h7 => ?_⟩
   have y1 := g.sz _ m1
   have y2 := g.sz _ m2
   refine ⟨v1, v7, _, _, rfl, g1.same s7, h7, (fz.t b.nm).up (by decide), (y2.1.sub y1.1).up (by decide), (y2.2.1.sub y1.2.1).up (by decide), fun v8 H8 s8 h8 => ?_⟩
   have h8' : PtR K H8 v8 (pullD T b) := h8
   have s68 : Same H6 H8 := fun b o z => s8 _ _ (s7 _ _ z)
   have e8 := s68 _ _ e6
   have tp8 := Ty.Same.seqT s68 tp
   have pz := pull_sz g fz mb
   have lt : (bars.take i).length = i := by rw [List.length_take]; omega
   have ib : i ≤ 8 := by have := g.lb; omega
   have fs1 := force_sz g fz m1 i (bars.take i) lt (fun b m => List.mem_of_mem_take m)
   have fs2 := force_sz g fz m2 i (bars.take i) lt (fun b m => List.mem_of_mem_take m)
   obtain ⟨w1, ew1, hw1⟩ := tl _ m1
   obtain ⟨w2, ew2, hw2⟩ := tl _ m2
   have lk : kv'.length ≤ 6 := by
    have z := congrArg List.length ks
    rw [List.length_map, List.length_map] at z
    have := g.lp
    omega
   refine ⟨_, rfl, _, rfl, p, _, _, _, rfl, rfl, tp8, at0, e, w1, rfl, (by rw [← ew1]; exact DGet.k (k := .inr b.one.nm) e8), _, rfl, w1, v8, _, _, rfl, hw1.same s68, h8', fs1.1.up (by omega), fs1.2.up (by omega), pz.1.up (by decide), pz.2.up (by decide), fun v9 H9 s9 h9 => ?_⟩
   have e9 := s9 _ _ e8
   have tp9 := Ty.Same.seqT s9 tp8
   refine ⟨_, rfl, _, rfl, p, _, _, _, rfl, rfl, tp9, at0, e, _, rfl, DPut.k (k := .inr b.one.nm) e9 (Nat.lt_of_le_of_lt (show kv'.length ≤ 1000 by omega) (by decide)), ?_⟩
   obtain ⟨kk1, kl1⟩ := putK_there (kvs := kv') (k := (Sum.inr b.one.nm : Key)) (v := v9) (by rw [ew1]; rfl)
   have t9 : SameT H9 (upd H9 e (.dK (putK kv' (.inr b.one.nm) v9))) := .dict e9
   have x9 : valV (putK kv' (.inr b.one.nm) v9) (.inr b.other.nm) = some w2 := by
    rw [valV_put, if_neg (fun z => m3 (Sum.inr.inj z).symm)]
    exact ew2
   have ea : (upd H9 e (.dK (putK kv' (.inr b.one.nm) v9))) e = some (.dK (putK kv' (.inr b.one.nm) v9)) := upd_same
   have ka : ∀ c o, c ≠ e → H9 c = some o → (upd H9 e (.dK (putK kv' (.inr b.one.nm) v9))) c = some o := fun c o n z => by rw [upd_ne n]; exact z
   generalize upd H9 e (.dK (putK kv' (.inr b.one.nm) v9)) = Ha at t9 ea ka ⊢
   have tpa := t9.seqT tp9
   have s69 : Same H6 H9 := fun b o z => s9 _ _ (s68 _ _ z)
   refine ⟨_, rfl, _, rfl, p, _, _, _, rfl, rfl, tpa, at1, e, w2, rfl, (by rw [← x9]; exact DGet.k (k := .inr b.other.nm) ea), _, rfl, w2, v8, _, _, rfl, (hw2.same s69).sameT t9, (h8'.same s9).sameT t9, fs2.1.up (by omega), fs2.2.up (by omega), pz.1.up (by decide), pz.2.up (by decide), fun vb Hb sb hb' => ?_⟩
   have eb := sb _ _ ea
   refine ⟨_, rfl, _, rfl, p, _, _, _, rfl, rfl, Ty.Same.seqT sb tpa, at1, e, _, rfl, DPut.k (k := .inr b.other.nm) eb (Nat.lt_of_le_of_lt (show (putK kv' (.inr b.one.nm) v9).length ≤ 1000 by omega) (by decide)), ?_⟩
   obtain ⟨kk2, kl2⟩ := putK_there (kvs := putK kv' (.inr b.one.nm) v9) (k := (Sum.inr b.other.nm : Key)) (v := vb) (by rw [x9]; rfl)
   have tb : SameT Hb (upd Hb e (.dK (putK (putK kv' (.inr b.one.nm) v9) (.inr b.other.nm) vb))) := .dict eb
   refine ⟨_, _, _, _, rfl, fun c o z => ?_, ?_, upd_same, by rw [kk2, kk1, ks], fun p' hp' => ?_⟩
   ·have ce := ne_of_none z ne
    rw [upd_ne ce]
    exact sb _ _ (ka _ _ ce (s69 _ _ (s6 _ _ z)))
   ·have le : lb ≠ e := fun z => by rw [z, e6] at l6; cases l6
    rw [upd_ne le]
    exact sb _ _ (ka _ _ le (s69 _ _ l6))
   ·rw [take_snoc hb, forceP_snoc, valV_put]
    by_cases c2 : p'.nm = b.other.nm
    ·have ep : p' = b.other := nm_inj (nm := PinD.nm) g.np hp' m2 c2
     subst ep
     rw [if_pos rfl]
     refine ⟨vb, rfl, ?_⟩
     have z : onPin T b b.other.nm = (-(pullD T b).1, -(pullD T b).2) := by
      unfold onPin
      rw [if_neg (fun z => m3 z.symm), if_pos rfl]
     rw [z]
     have y : ((forceP T U (bars.take i) b.other).1 + -(pullD T b).1, (forceP T U (bars.take i) b.other).2 + -(pullD T b).2) = ((forceP T U (bars.take i) b.other).1 - (pullD T b).1, (forceP T U (bars.take i) b.other).2 - (pullD T b).2) := by
      rw [Rat.sub_eq_add_neg, Rat.sub_eq_add_neg]
     show PtR K _ vb ((forceP T U (bars.take i) b.other).1 + -(pullD T b).1, (forceP T U (bars.take i) b.other).2 + -(pullD T b).2)
     rw [y]
     exact PtR.sameT hb' tb
    ·rw [if_neg (fun z => c2 (Sum.inr.inj z)), valV_put]
     by_cases c1 : p'.nm = b.one.nm
     ·have ep : p' = b.one := nm_inj (nm := PinD.nm) g.np hp' m1 c1
      subst ep
      rw [if_pos rfl]
      refine ⟨v9, rfl, ?_⟩
      have z : onPin T b b.one.nm = pullD T b := by
       unfold onPin
       rw [if_pos rfl]
      rw [z]
      exact (PtR.sameT (PtR.sameT h9 t9) (.of sb)).sameT tb
     ·rw [if_neg (fun z => c1 (Sum.inr.inj z))]
      obtain ⟨v, h1, h2⟩ := tl p' hp'
      refine ⟨v, h1, ?_⟩
      have z : onPin T b p'.nm = (0, 0) := by
       unfold onPin
       rw [if_neg c1, if_neg c2]
      rw [z]
      have y : ((forceP T U (bars.take i) p').1 + 0, (forceP T U (bars.take i) p').2 + 0) = forceP T U (bars.take i) p' := by
       rw [Rat.add_zero, Rat.add_zero]
      show PtR K _ v ((forceP T U (bars.take i) p').1 + 0, (forceP T U (bars.take i) p').2 + 0)
      rw [y]
      exact (((h2.same s69).sameT t9).sameT (.of sb)).sameT tb
  ·rintro σ H6 ⟨o5, o6, o7, kv', rfl, s6, l6, e6, ks, tl⟩
   rw [List.length_map, List.length_map, List.take_length] at tl
   exact ⟨_, rfl, q e kv' H6 s6 ne e6 ks tl⟩
theorem fmod_in {x m : Int} (h : 0 < m) : 0 ≤ x.fmod m ∧ x.fmod m < m := ⟨Int.fmod_nonneg_of_pos x h, Int.fmod_lt_of_pos x h⟩
def spCell (K : Frag) : Sp := fun vs H Q _ => ∃ (a : Addr) (ns : List Int) (k : Int), vs = [.ref a, .int k] ∧ SqL K H a (ns.map V.int) ∧ (∀ i ∈ ns, intBits i ≤ 1048576) ∧ 0 ≤ k ∧ k ≤ 100 ∧ ∀ v, intBits v ≤ 1048576 → Q (.int v) H
theorem sc_ad : FnScope ["_law_script", "_law_k"] ["_law_script", "_law_k"] (defScope s_ad) := sq
theorem ok_ad (D : Def K mg "_law_cell_at" s_ad ["_law_script", "_law_k"]) (m_len : mg "len" = none) : Fn P w K mg base CX 1 "_law_cell_at" ["_law_script", "_law_k"] (spCell K) := by
 refine D.ok sc_ad (fun vs H Q E h => ?_) (fun f cdv A outer s H vs Q E hr h => ?_)
 ·obtain ⟨a, ns, k, rfl, _⟩ := h
  rfl
 obtain ⟨a, ns, k, rfl, hS, hb, h0, h1, q⟩ := h
 refine ⟨_, (pss_cons (ps_if (pt_cmpR op_lt (pv 1) (pe_callB call_len_seq rfl m_len b_len (pac (pv 0) pa_nil)) (nomark _)) (pss_one (ps_ret (pe_ix ix_list (pv 0) (pv 1) (fun _ _ => rfl)))) pss_nil)
  (pss_one (ps_ret (pe_op op_modB (pe_op op_mulB (pe_op op_modB (pe_op op_mulB (pe_op op_add (pv 1) pe_int) (pe_op op_pow pe_int pe_int)) pe_int) (pe_op op_add (pv 1) pe_int)) pe_int)))), ?_⟩
 have hl : (ns.map V.int).length = ns.length := List.length_map _
 refine ⟨_, rfl, _, rfl, a, _, rfl, .inl hS, _, _, rfl, rfl, _, rfl, ?_⟩
 refine ite2 (fun c => ?_) (fun c => ?_)
 ·have c' : k < (((ns.map V.int).length : Nat) : Int) := of_decide_eq_true c
  rw [hl] at c'
  have hk : k.toNat < ns.length := by omega
  have ek : k = ((k.toNat : Nat) : Int) := by omega
  have e : atI (ns.map V.int) k = some (.int ns[k.toNat]) := by
   have z : atI (ns.map V.int) ((k.toNat : Nat) : Int) = some (.int ns[k.toNat]) := atI_nat (by rw [List.getElem?_map, gE hk]; rfl)
   rw [← ek] at z
   exact z
  exact ⟨_, rfl, _, rfl, a, _, k, _, rfl, rfl, hS, e, q _ (hb _ (List.getElem_mem hk))⟩
 ·have b1 : intBits (k + 7) ≤ 64 := intBits_le_64 (by omega) (by omega)
  have b2 : intBits (k + 3) ≤ 64 := intBits_le_64 (by omega) (by omega)
  have e1 := fmod_in (x := (k + 7) * 48271 ^ (2 : Int).toNat) (m := 2147483647) (by decide)
  have b3 : intBits (((k + 7) * 48271 ^ (2 : Int).toNat).fmod 2147483647) ≤ 64 := intBits_le_64 (by omega) (by omega)
  have e2 := fmod_in (x := ((k + 7) * 48271 ^ (2 : Int).toNat).fmod 2147483647 * (k + 3)) (m := 2147483587) (by decide)
  have b4 : intBits ((((k + 7) * 48271 ^ (2 : Int).toNat).fmod 2147483647 * (k + 3)).fmod 2147483587) ≤ 64 := intBits_le_64 (by omega) (by omega)
  have c : ∀ {i j : Int}, intBits i ≤ 64 → intBits j ≤ 64 → CMulB i j := fun a b => ⟨Nat.le_trans a (by decide), Nat.le_trans b (by decide)⟩
  refine ⟨_, rfl, _, _, rfl, rfl, _, _, rfl, rfl, ⟨by decide, by decide, by decide⟩, _, _, rfl, rfl, c b1 (by decide +kernel), _, _, rfl, rfl, nz (by decide), ?_⟩
  exact ⟨_, rfl, _, _, rfl, rfl, _, _, rfl, rfl, c b3 b2, _, _, rfl, rfl, nz (by decide), q _ (Nat.le_trans b4 (by decide))⟩
theorem fdiv_natAbs {a : Int} {m : Int} (h : 1 ≤ m) : (a.fdiv m).natAbs ≤ a.natAbs := by
 rw [Int.fdiv_eq_ediv_of_nonneg _ (by omega)]
 have h1 := Int.mul_ediv_add_emod a m
 have h2 := Int.emod_nonneg a (show m ≠ 0 by omega)
 have h3 := Int.emod_lt_of_pos a (show 0 < m by omega)
 by_cases c : 0 ≤ a
 ·have := Int.ediv_nonneg c (show 0 ≤ m by omega)
  have h4 := Int.ediv_le_self m c
  omega
 ·have h5 : a / m < 0 := Int.ediv_neg_of_neg_of_pos (by omega) (by omega)
  have h6 : a ≤ a / m := Int.le_ediv_of_mul_le (by omega) (by
   have := Int.mul_le_mul_of_nonpos_left (a := a) (b := m) (c := 1) (by omega) h
   omega)
  omega
theorem bits_fdiv {a m : Int} {k : Nat} (h : 1 ≤ m) (b : intBits a ≤ k) : intBits (a.fdiv m) ≤ k := intBits_le_of_natAbs (fdiv_natAbs h) b
def spPart : Sp := fun vs H Q _ => ∃ c k : Int, vs = [.int c, .int k] ∧ intBits c ≤ 2000000 ∧ 0 ≤ k ∧ k < 9 ∧ ∀ (r : Int) (H' : Hp), 0 ≤ r → r < 1000000000000000000 → Same H H' → Q (.int r) H'
theorem sc_b6 : FnScope ["_law_cell", "_law_k", "_law_mixed", "_law_j"] ["_law_cell", "_law_k"] (defScope s_b6) := sq
theorem ok_b6 (D : Def K mg "_law_part" s_b6 ["_law_cell", "_law_k"]) (m_range : mg "range" = none) : Fn P w K mg base CX 1 "_law_part" ["_law_cell", "_law_k"] spPart := by
 refine D.ok sc_b6 (fun vs H Q E h => ?_) (fun f cdv A outer s H vs Q E hr h => ?_)
 ·obtain ⟨c, k, rfl, _⟩ := h
  rfl
 obtain ⟨c, k, rfl, bc, k0, k9, q⟩ := h
 obtain ⟨kn, rfl⟩ : ∃ n : Nat, k = (n : Int) := ⟨k.toNat, by omega⟩
 have e18 : (10 : Int) ^ (18 : Int).toNat = 1000000000000000000 := by decide +kernel
 have p18 : CPow 10 18 := ⟨by decide, by decide, by decide⟩
 have d18 : ∀ i, CDivB i ((10 : Int) ^ (18 : Int).toNat) := fun i => ⟨by rw [e18]; decide, by rw [e18]; decide +kernel⟩
 have tail : ∃ tt, PSs (cxOf (CXr P w) P w K mg base ["_law_cell", "_law_k", "_law_mixed", "_law_j"] "_law_part" (defScope s_b6) f cdv A outer s H E).nox ((defBody s_b6).drop 1) tt ∧ tt { nx := fun _ H' => Q .non H', rt := Q } [some (.int c), some (.int (kn : Int)), none, none] H := by
  refine ⟨_, (pss_cons (ps_for PassesOwn.never rfl (pi_range1 rfl m_range (pac (pv 1) pa_nil)) (pg_name (i := 3) sc_b6.nd rfl (Or.inl rfl)) (pss_one (ps_set (i := 0) sc_b6.nd rfl (Or.inl rfl) (pe_op op_fdivB (pv 0) (pe_op op_pow pe_int pe_int))))) (pss_one (ps_ret (pe_op op_modB (pv 0) (pe_op op_pow pe_int pe_int))))), ?_⟩
  refine ⟨_, rfl, (kn : Int), rfl, by omega, by omega, for_range (lo := 0) (n := kn) (fun i σ H' => ∃ (c' : Int) (o : Option V), σ = [some (.int c'), some (.int (kn : Int)), none, o] ∧ H' = H ∧ intBits c' ≤ 2000000) ⟨c, none, rfl, rfl, bc⟩ ?_ ?_⟩
  ·rintro i σ H' hi ⟨c', o, rfl, rfl, b'⟩
   exact ⟨_, rfl, _, _, rfl, rfl, p18, _, _, rfl, rfl, d18 _, _, _, rfl, rfl, bits_fdiv (by rw [e18]; decide) b'⟩
  ·rintro σ H' ⟨c', o, rfl, rfl, b'⟩
   have m := fmod_in (x := c') (m := 1000000000000000000) (by decide)
   refine ⟨_, rfl, _, _, rfl, rfl, p18, _, _, rfl, rfl, by rw [e18]; exact nz (by decide), ?_⟩
   rw [e18]
   exact q _ _ m.1 m.2 (Same.refl _)
 obtain ⟨tt, pt, ht⟩ := tail
 refine ⟨_, (pss_cons (ps_if (pt_chain op_le op_lt pe_int (pv 0) (pe_op op_pow pe_int pe_int)) (pss_cons (ps_set (i := 2) sc_b6.nd rfl (Or.inl rfl) (pe_op op_modB (pe_op op_mulB (pe_op op_add (pv 0) pe_int) (pe_ix ix_list (pe_lst (pac pe_int (pac pe_int (pac pe_int (pac pe_int (pac pe_int (pac pe_int (pac pe_int (pac pe_int (pac pe_int pa_nil)))))))))) (pv 1) (fun _ _ => rfl))) pe_int))
   (pss_one (ps_ret (pe_op op_modB (pe_op op_mulB (pv 2) (pe_op op_add (pe_op op_add (pe_op op_fdivB (pv 2) pe_int) (pv 1)) pe_int)) pe_int)))) pss_nil) pt), ?_⟩
 refine ⟨_, rfl, _, _, rfl, rfl, _, rfl, ?_⟩
 refine ite2 (fun c1 => ?_) (fun c1 => ?_)
 ·refine ⟨_, _, rfl, rfl, p18, _, _, rfl, rfl, _, rfl, ?_⟩
  refine ite2 (fun c2 => ?_) (fun c2 => ht)
  have h1 : 0 ≤ c := of_decide_eq_true c1
  have h2 : c < 10 ^ (18 : Int).toNat := of_decide_eq_true c2
  rw [e18] at h2
  have ix : ∃ m : Int, atI [V.int 40692, .int 48271, .int 104729, .int 1299709, .int 15485863, .int 611953, .int 7919, .int 69621, .int 32452843] (kn : Int) = some (.int m) ∧ 0 ≤ m ∧ m < 100000000 := by
   have : kn < 9 := by omega
   match kn, this with
   | 0, _ => exact ⟨_, rfl, by decide, by decide⟩
   | 1, _ => exact ⟨_, rfl, by decide, by decide⟩
   | 2, _ => exact ⟨_, rfl, by decide, by decide⟩
   | 3, _ => exact ⟨_, rfl, by decide, by decide⟩
   | 4, _ => exact ⟨_, rfl, by decide, by decide⟩
   | 5, _ => exact ⟨_, rfl, by decide, by decide⟩
   | 6, _ => exact ⟨_, rfl, by decide, by decide⟩
   | 7, _ => exact ⟨_, rfl, by decide, by decide⟩
   | 8, _ => exact ⟨_, rfl, by decide, by decide⟩
  obtain ⟨m, em, m0, m1⟩ := ix
  have cm : ∀ {i j : Int}, intBits i ≤ 64 → intBits j ≤ 64 → CMulB i j := fun a b => ⟨Nat.le_trans a (by decide), Nat.le_trans b (by decide)⟩
  refine ⟨_, rfl, _, _, rfl, rfl, (by show 9 ≤ sizeLine; decide), fun p np => ?_⟩
  have s1 := same_new np (.lst [V.int 40692, .int 48271, .int 104729, .int 1299709, .int 15485863, .int 611953, .int 7919, .int 69621, .int 32452843])
  refine ⟨_, rfl, p, _, _, _, rfl, rfl, SqL.of upd_same, em, _, _, rfl, rfl, cm (intBits_le_64 (by omega) (by omega)) (intBits_le_64 (by omega) (by omega)), _, _, rfl, rfl, nz (by decide), ?_⟩
  have e1 := fmod_in (x := (c + 7919) * m) (m := 2147483647) (by decide)
  have e2 : (((c + 7919) * m).fmod 2147483647).fdiv 7 = (((c + 7919) * m).fmod 2147483647) / 7 := Int.fdiv_eq_ediv_of_nonneg _ (by decide)
  refine ⟨_, rfl, _, rfl, _, _, rfl, rfl, ⟨by decide, by decide +kernel⟩, _, rfl, _, _, rfl, rfl, _, _, rfl, rfl, _, _, rfl, rfl, cm (intBits_le_64 (by omega) (by omega)) (intBits_le_64 (by omega) (by omega)), _, _, rfl, rfl, nz (by decide), ?_⟩
  have e3 := fmod_in (x := ((c + 7919) * m).fmod 2147483647 * ((((c + 7919) * m).fmod 2147483647).fdiv 7 + (kn : Int) + 1)) (m := 2147483587) (by decide)
  exact q _ _ e3.1 (by omega) s1
 ·exact ⟨_, rfl, ht⟩
def spLaw_lowestU : Sp := fun vs H Q _ => ∃ t b : Int, vs = [.int t, .int b] ∧ 0 < b ∧ gives H Q (low t b)
theorem sc_aj : FnScope ["_law_top", "_law_bottom", "_law_one", "_law_other"] ["_law_top", "_law_bottom"] (defScope s_aj) := sq
theorem ok_aj (ht : P.given.tree = none) (D : Def K mg "_law_lowest" s_aj ["_law_top", "_law_bottom"]) (m_abs : mg "abs" = none) : Fn P w K mg base (CXr P w) 33 "_law_lowest" ["_law_top", "_law_bottom"] spLaw_lowestU := by
 refine D.ok sc_aj (fun vs H Q E h => ?_) (fun f cdv A outer s H vs Q E hr h => ?_)
 ·obtain ⟨t, b, rfl, _⟩ := h
  rfl
 obtain ⟨t, b, rfl, hb, q⟩ := h
 refine ⟨_, (pss_cons (ps_set (i := 2) sc_aj.nd rfl (Or.inl rfl) (pe_callB call_abs rfl m_abs b_abs (pac (pv 0) pa_nil)))
  (pss_cons (ps_set (i := 3) sc_aj.nd rfl (Or.inl rfl) (pv 1))
  (pss_cons (ps_while PassesOwn.never (pt_cmpR op_ne (pv 3) pe_int (nomark _)) (pss_one (ps_par (i := 2) (j := 3) rfl sc_aj.nd rfl rfl (by decide) rfl rfl (pac (pv 3) (pac (pe_op op_modB (pv 2) (pv 3)) pa_nil)) rfl)))
  (pss_one (ps_ret (pe_tup (pac (pe_op (op_fdivU ht (Ty.Room.py hr (by decide)) rfl rfl rfl rfl rfl) (pv 0) (pv 2)) (pac (pe_op (op_fdivU ht (Ty.Room.py hr (by decide)) rfl rfl rfl rfl rfl) (pv 1) (pv 2)) pa_nil)))))))), ?_⟩
 refine ⟨_, rfl, t, rfl, ?_⟩
 refine ⟨_, rfl, ?_⟩
 refine while_by (fun σ H' => ∃ x y : Int, σ = [some (.int t), some (.int b), some (.int x), some (.int y)] ∧ H' = H ∧ 0 ≤ x ∧ 0 ≤ y ∧ Int.gcd x y = Int.gcd t b) (fun σ _ => match σ with | [_, _, _, some (.int y)] => y.natAbs | _ => 0) ⟨_, b, rfl, rfl, ?_, by omega, ?_⟩ ?_ ?_
 ·split <;> omega
 ·split
  ·exact Int.neg_gcd
  ·rfl
 ·rintro σ H' ⟨x, y, rfl, rfl, hx, hy, g⟩
  refine ⟨_, rfl, rfl, _, rfl, ?_⟩
  refine ite2 (fun c => ?_) (fun c => ?_)
  ·have hy0 : y ≠ 0 := by
    intro z
    subst z
    simp at c
   refine ⟨_, rfl, _, rfl, _, rfl, _, _, rfl, rfl, hy0, _, _, rfl, ?_⟩
   exact ⟨⟨_, _, rfl, rfl, hy, Int.fmod_nonneg_of_pos _ (by omega), by rw [gcd_step]; exact g⟩, fmod_less hy0⟩
  ·have hy0 : y = 0 := by
    have := Bool.eq_false_iff.mpr c
    simp at this
    exact this
   subst hy0
   have e : x = sg t b := by
    rw [Int.gcd_zero_right] at g
    unfold sg
    rw [if_neg (by omega)]
    unfold gz
    rw [← g]
    omega
   subst e
   have hbn : b ≠ 0 := by omega
   have c := sg_ne (t := t) hbn
   refine ⟨_, rfl, _, rfl, _, _, rfl, rfl, c, _, rfl, _, rfl, _, _, rfl, rfl, c, (by show 2 ≤ sizeLine; decide), fun p hp => ?_⟩
   exact q p _ (same_new hp _) upd_same
 ·rintro σ H' Q1 Q2 h ⟨v, e1, e2, k, ek, z⟩
  exact ⟨v, e1, e2, k, ek, h _ _ z⟩
theorem sc_b7 : FnScope ["_law_x", "_law_y"] ["_law_x", "_law_y"] (defScope s_b7) := sq
theorem ok_b7 (hM : Mute CX) (D : Def K mg "_law_plus" s_b7 ["_law_x", "_law_y"]) (G_aj : Fn P w K mg base CX 33 "_law_lowest" ["_law_top", "_law_bottom"] spLaw_lowestU) : Fn P w K mg base CX 34 "_law_plus" ["_law_x", "_law_y"] (spBinK K addQ) := by
 refine D.ok sc_b7 (fun vs H Q E h => ?_) (fun f cdv A outer s H vs Q E hr h => ?_)
 ·obtain ⟨u, v, x, y, rfl, _⟩ := h
  rfl
 obtain ⟨u, v, x, y, rfl, ⟨p1, rfl, h1⟩, ⟨p2, rfl, h2⟩, k1, k2, q⟩ := h
 have px := passM (X := cxOf CX P w K mg base ["_law_x", "_law_y"] "_law_plus" (defScope s_b7) f cdv A outer s H E) hM
 refine ⟨_, (pss_one (ps_ret (pe_fn G_aj hr.mo px (pac (pe_op op_add (pe_op op_mulB (pe_tx (pv 0)) (pe_tx (pv 1))) (pe_op op_mulB (pe_tx (pv 1)) (pe_tx (pv 0)))) (pac (pe_op op_mulB (pe_tx (pv 0)) (pe_tx (pv 1))) pa_nil))))), ?_⟩
 have b1 := k1.top
 have b2 := k1.bot
 have b3 := k2.top
 have b4 := k2.bot
 have c : ∀ {i j : Int}, intBits i ≤ 100000 → intBits j ≤ 100000 → CMulB i j := fun a b => ⟨Nat.le_trans a (by decide), Nat.le_trans b (by decide)⟩
 refine ⟨_, rfl, p1, _, _, _, rfl, rfl, h1, at0, _, rfl, p2, _, _, _, rfl, rfl, h2, at1, _, _, rfl, rfl, c b1 b4, ?_⟩
 refine ⟨_, rfl, p2, _, _, _, rfl, rfl, h2, at0, _, rfl, p1, _, _, _, rfl, rfl, h1, at1, _, _, rfl, rfl, c b3 b2, ?_⟩
 refine ⟨_, _, rfl, rfl, ?_⟩
 refine ⟨_, rfl, p1, _, _, _, rfl, rfl, h1, at1, _, rfl, p2, _, _, _, rfl, rfl, h2, at1, _, _, rfl, rfl, c b2 b4, ?_⟩
 exact ⟨_, _, rfl, Int.mul_pos k1.pos k2.pos, q⟩
theorem sc_au : FnScope ["_law_x", "_law_y"] ["_law_x", "_law_y"] (defScope s_au) := sq
theorem ok_au (hM : Mute CX) (D : Def K mg "_law_times" s_au ["_law_x", "_law_y"]) (G_aj : Fn P w K mg base CX 33 "_law_lowest" ["_law_top", "_law_bottom"] spLaw_lowestU) : Fn P w K mg base CX 34 "_law_times" ["_law_x", "_law_y"] (spBinK K mulQ) := by
 refine D.ok sc_au (fun vs H Q E h => ?_) (fun f cdv A outer s H vs Q E hr h => ?_)
 ·obtain ⟨u, v, x, y, rfl, _⟩ := h
  rfl
 obtain ⟨u, v, x, y, rfl, ⟨p1, rfl, h1⟩, ⟨p2, rfl, h2⟩, k1, k2, q⟩ := h
 have px := passM (X := cxOf CX P w K mg base ["_law_x", "_law_y"] "_law_times" (defScope s_au) f cdv A outer s H E) hM
 refine ⟨_, (pss_one (ps_ret (pe_fn G_aj hr.mo px (pac (pe_op op_mulB (pe_tx (pv 0)) (pe_tx (pv 1))) (pac (pe_op op_mulB (pe_tx (pv 0)) (pe_tx (pv 1))) pa_nil))))), ?_⟩
 have b1 := k1.top
 have b2 := k1.bot
 have b3 := k2.top
 have b4 := k2.bot
 have c : ∀ {i j : Int}, intBits i ≤ 100000 → intBits j ≤ 100000 → CMulB i j := fun a b => ⟨Nat.le_trans a (by decide), Nat.le_trans b (by decide)⟩
 refine ⟨_, rfl, p1, _, _, _, rfl, rfl, h1, at0, _, rfl, p2, _, _, _, rfl, rfl, h2, at0, _, _, rfl, rfl, c b1 b3, ?_⟩
 refine ⟨_, rfl, p1, _, _, _, rfl, rfl, h1, at1, _, rfl, p2, _, _, _, rfl, rfl, h2, at1, _, _, rfl, rfl, c b2 b4, ?_⟩
 exact ⟨_, _, rfl, Int.mul_pos k1.pos k2.pos, q⟩
def far (s : Int) : Rat := if s = 0 then 3 else 1000000000000
theorem ratB {t b : Int} {n : Int} (hb : 0 < b) (h1 : -n ≤ t) (h2 : t ≤ n) (hn : 0 ≤ n) : -(n : Rat) ≤ (t : Rat) / (b : Rat) ∧ (t : Rat) / (b : Rat) ≤ (n : Rat) := by
 have b0 : (0 : Rat) < (b : Rat) := by exact_mod_cast hb
 have b1 : (1 : Rat) ≤ (b : Rat) := by exact_mod_cast hb
 have n0 : (0 : Rat) ≤ (n : Rat) := by exact_mod_cast hn
 have e : (t : Rat) / (b : Rat) * (b : Rat) = (t : Rat) := Rat.div_mul_cancel (Rat.ne_of_gt b0)
 have t1 : -(n : Rat) ≤ (t : Rat) := by exact_mod_cast h1
 have t2 : (t : Rat) ≤ (n : Rat) := by exact_mod_cast h2
 generalize (t : Rat) / (b : Rat) = r at e ⊢
 have nb : (n : Rat) ≤ (n : Rat) * (b : Rat) := by
  have := Rat.mul_le_mul_of_nonneg_left (c := (n : Rat)) b1 n0
  grind
 refine ⟨?_, ?_⟩
 ·refine Rat.le_of_mul_le_mul_right (c := (b : Rat)) ?_ b0
  rw [e]
  grind
 ·refine Rat.le_of_mul_le_mul_right (c := (b : Rat)) ?_ b0
  rw [e]
  grind
def spDrawn : Sp := fun vs H Q _ => ∃ c s : Int, vs = [.int c, .int s] ∧ intBits c ≤ 2000000 ∧ 0 ≤ s ∧ s ≤ 997 ∧ ∀ r : Rat, Sz 50 r → -(far s) ≤ r ∧ r ≤ far s → gives H Q (qr r)
theorem sc_av : FnScope ["_law_cell", "_law_scale"] ["_law_cell", "_law_scale"] (defScope s_av) := sq
theorem ok_av (D : Def K mg "_law_drawn" s_av ["_law_cell", "_law_scale"]) (G_aj : Fn P w K mg base (CXr P w) 33 "_law_lowest" ["_law_top", "_law_bottom"] spLaw_lowestU) : Fn P w K mg base (CXr P w) 34 "_law_drawn" ["_law_cell", "_law_scale"] spDrawn := by
 refine D.ok sc_av (fun vs H Q E h => ?_) (fun f cdv A outer s H vs Q E hr h => ?_)
 ·obtain ⟨c, k, rfl, _⟩ := h
  rfl
 obtain ⟨c, k, rfl, bc, k0, k9, q⟩ := h
 refine ⟨_, (pss_cons (ps_if (pt_cmpR op_eq (pv 1) pe_int (nomark _)) (pss_one (ps_ret (pe_fn G_aj hr.mo pX (pac (pe_op op_sub (pe_op op_modB (pv 0) pe_int) pe_int) (pac (pe_op op_add pe_int (pe_op op_modB (pe_op op_fdivB (pv 0) pe_int) pe_int)) pa_nil))))) pss_nil)
  (pss_one (ps_ret (pe_fn G_aj hr.mo pX (pac (pe_op op_sub (pe_op op_modB (pe_op op_mulB (pv 0) (pe_op op_pow pe_int pe_int)) (pe_op op_add (pe_op op_mulB pe_int (pe_op op_pow pe_int pe_int)) pe_int)) (pe_op op_pow pe_int pe_int)) (pac (pv 1) pa_nil)))))), ?_⟩
 have fin : ∀ t b : Int, 0 < b → b ≤ 1000 → t.natAbs ≤ 1000000000000 → (∀ r : Rat, r = (t : Rat) / (b : Rat) → -(far k) ≤ r ∧ r ≤ far k) → spLaw_lowestU [.int t, .int b] H Q E0 := fun t b h1 h2 h3 h4 => by
  refine ⟨t, b, rfl, h1, ?_⟩
  rw [low_qr (Int.ne_of_gt h1)]
  exact q _ (sz_low (Int.ne_of_gt h1) (intBits_le_iff.mpr (by show _ < 1125899906842624; omega)) (intBits_le_iff.mpr (by show _ < 1125899906842624; omega))) (h4 _ rfl)
 refine ⟨_, rfl, rfl, _, rfl, ?_⟩
 refine ite2 (fun z => ?_) (fun z => ?_)
 ·have m := fmod_in (x := c) (m := 7) (by decide)
  have m2 := fmod_in (x := c.fdiv 7) (m := 2) (by decide)
  refine ⟨_, rfl, _, _, rfl, rfl, nz (by decide), _, _, rfl, rfl, _, rfl, _, _, rfl, rfl, ⟨by decide, by decide +kernel⟩, _, _, rfl, rfl, nz (by decide), _, _, rfl, rfl, fin _ _ (by omega) (by omega) (by omega) fun r er => ?_⟩
  have k0' : k = 0 := by simpa [eqV] using z
  unfold far
  rw [if_pos k0', er]
  exact ratB (n := 3) (by omega) (by omega) (by omega) (by decide)
 ·have z' : ¬ k = 0 := by simpa [eqV] using z
  have e4 : (48271 : Int) ^ (4 : Int).toNat = 5429316803059692481 := by decide +kernel
  have e12 : (10 : Int) ^ (12 : Int).toNat = 1000000000000 := by decide +kernel
  refine ⟨_, rfl, _, _, rfl, rfl, ⟨by decide, by decide, by decide⟩, _, _, rfl, rfl, ⟨Nat.le_trans bc (by decide), by rw [e4]; decide +kernel⟩, ?_⟩
  refine ⟨_, _, rfl, rfl, ⟨by decide, by decide, by decide⟩, _, _, rfl, rfl, ⟨by decide +kernel, by rw [e12]; decide +kernel⟩, _, _, rfl, rfl, _, _, rfl, rfl, by rw [e12]; exact nz (by decide), ?_⟩
  refine ⟨_, _, rfl, rfl, ⟨by decide, by decide, by decide⟩, _, _, rfl, rfl, _, rfl, ?_⟩
  have m := fmod_in (x := c * 48271 ^ (4 : Int).toNat) (m := 2 * 10 ^ (12 : Int).toNat + 1) (by rw [e12]; decide)
  rw [e12] at m ⊢
  refine fin _ _ (by omega) (by omega) (by omega) fun r er => ?_
  unfold far
  rw [if_neg z', er]
  exact ratB (n := 1000000000000) (by omega) (by omega) (by omega) (by decide)
def WaysOk (ws : List (Rat × Rat)) : Prop := ws = [] ∨ (∃ x y : Rat, ws = [(x, y)] ∧ ¬ (x = 0 ∧ y = 0) ∧ Sz 50 x ∧ Sz 50 y) ∨ ws = [(1, 0), (0, 1)]
theorem nm_lit {K : Frag} {H : Hp} {p : Addr} (i : Int) (h : H p = some (.tup [.int i, .int 1])) : NmR K H (.ref p) (i : Rat) := ⟨p, rfl, by rw [qr_int]; exact SqT.of h⟩
theorem nm_of {K : Frag} {H : Hp} {p : Addr} {r : Rat} (h : H p = some (.tup [.int (qr r).1, .int (qr r).2])) : NmR K H (.ref p) r := ⟨p, rfl, SqT.of h⟩
theorem pt_of {K : Frag} {H : Hp} {p : Addr} {u v : V} {r s : Rat} (h : H p = some (.tup [u, v])) (h1 : NmR K H u r) (h2 : NmR K H v s) : PtR K H (.ref p) (r, s) := ⟨p, u, v, rfl, SqT.of h, h1, h2⟩
def spWaysL (K : Frag) : Sp := fun vs H Q _ => ∃ c : Int, vs = [.int c] ∧ ∀ (l : Addr) (us : List V) (ws : List (Rat × Rat)) (H' : Hp), WaysOk ws → Same H H' → H l = none → H' l = some (.lst us) → PtsR K H' us ws → Q (.ref l) H'
theorem sz_small {i : Int} (h : i.natAbs < 1000) : Sz 50 (i : Rat) := sz_int (by show _ < 1125899906842624; omega) (by decide)
theorem sc_b8 : FnScope ["_law_cell"] ["_law_cell"] (defScope s_b8) := sq
theorem ok_b8 (D : Def K mg "_law_ways" s_b8 ["_law_cell"]) (G_aj : Fn P w K mg base (CXr P w) 33 "_law_lowest" ["_law_top", "_law_bottom"] spLaw_lowestU) : Fn P w K mg base (CXr P w) 34 "_law_ways" ["_law_cell"] (spWaysL K) := by
 refine D.ok sc_b8 (fun vs H Q E h => ?_) (fun f cdv A outer s H vs Q E hr h => ?_)
 ·obtain ⟨c, rfl, _⟩ := h
  rfl
 obtain ⟨c, rfl, q⟩ := h
 have L2 : 2 ≤ sizeLine := by decide
 have L1 : 1 ≤ sizeLine := by decide
 have m1 := fmod_in (x := c.fdiv 5) (m := 7) (by decide)
 have m2 := fmod_in (x := c.fdiv 35) (m := 7) (by decide)
 have m3 := fmod_in (x := c) (m := 2) (by decide)
 have d5 : ∀ i, CDivB i 5 := fun i => ⟨by decide, by decide +kernel⟩
 have d35 : ∀ i, CDivB i 35 := fun i => ⟨by decide, by decide +kernel⟩
 have tail : ∃ tt, PSs (cxOf (CXr P w) P w K mg base ["_law_cell"] "_law_ways" (defScope s_b8) f cdv A outer s H E).nox ((defBody s_b8).drop 3) tt ∧ (¬ ((c.fdiv 5).fmod 7 = 3 ∧ (c.fdiv 35).fmod 7 = 3) → tt { nx := fun _ H' => Q .non H', rt := Q } [some (.int c)] H) := by
  refine ⟨_, (pss_one (ps_ret (pe_lst (pac (pe_tup (pac (pe_fn G_aj hr.mo pX (pac (pe_op op_sub (pe_op op_modB (pe_op op_fdivB (pv 0) pe_int) pe_int) pe_int) (pac (pe_op op_add pe_int (pe_op op_modB (pv 0) pe_int)) pa_nil))) (pac (pe_tup (pac (pe_op op_sub (pe_op op_modB (pe_op op_fdivB (pv 0) pe_int) pe_int) pe_int) (pac pe_int pa_nil))) pa_nil))) pa_nil)))), fun hne => ?_⟩
  refine ⟨_, rfl, _, _, rfl, rfl, d5 _, _, _, rfl, rfl, nz (by decide), _, _, rfl, rfl, _, rfl, _, _, rfl, rfl, nz (by decide), _, _, rfl, rfl, ?_⟩
  refine ⟨_, _, rfl, by omega, fun p1 H1 s1 e1 => ?_⟩
  rw [low_qr (by omega)] at e1
  refine ⟨_, rfl, _, _, rfl, rfl, d35 _, _, _, rfl, rfl, nz (by decide), _, _, rfl, rfl, L2, ?_⟩
  intro p2 n2; generalize eX : upd _ p2 _ = H2; have ⟨s2, e2⟩ := nw n2 eX; clear eX
  refine ⟨L2, ?_⟩
  intro p3 n3; generalize eX : upd _ p3 _ = H3; have ⟨s3, e3⟩ := nw n3 eX; clear eX
  refine ⟨L1, ?_⟩
  intro p4 n4; generalize eX : upd _ p4 _ = H4; have ⟨s4, e4⟩ := nw n4 eX; clear eX
  have f1 : PtR K H3 (.ref p3) ((((c.fdiv 5).fmod 7 - 3 : Int) : Rat) / ((1 + c.fmod 2 : Int) : Rat), (((c.fdiv 35).fmod 7 - 3 : Int) : Rat)) := pt_of e3 (((nm_of e1).same s2).same s3) ((nm_lit _ e2).same s3)
  have sh := sm_tr (sm_tr s1 s2) s3
  refine q p4 _ [_] _ (.inr (.inl ⟨_, _, rfl, ?_, ?_, ?_⟩)) (sm_tr sh s4) (none_back sh n4) e4 (.cons (f1.same s4) .nil)
  ·rintro ⟨h1, h2⟩
   refine hne ⟨?_, ?_⟩
   ·apply Classical.byContradiction
    intro z
    have y1 : (((c.fdiv 5).fmod 7 - 3 : Int) : Rat) ≠ 0 := ratne (by omega)
    have y2 : ((1 + c.fmod 2 : Int) : Rat) ≠ 0 := ratne (by omega)
    exact (by grind : ¬ (((c.fdiv 5).fmod 7 - 3 : Int) : Rat) / ((1 + c.fmod 2 : Int) : Rat) = 0) h1
   ·apply Classical.byContradiction
    intro z
    exact ratne (show (c.fdiv 35).fmod 7 - 3 ≠ 0 by omega) h2
  ·exact sz_low (by omega) (intBits_le_iff.mpr (by show _ < 1125899906842624; omega)) (intBits_le_iff.mpr (by show _ < 1125899906842624; omega))
  ·exact sz_small (by omega)
 obtain ⟨tt, pt, ht⟩ := tail
 refine ⟨_, (pss_cons (ps_if (pt_cmpR op_lt (pe_op op_modB (pv 0) pe_int) pe_int (nomark _)) (pss_one (ps_ret (pe_lst pa_nil))) pss_nil) (pss_cons (ps_if (pt_cmpR op_eq (pe_op op_modB (pv 0) pe_int) pe_int (nomark _)) (pss_one (ps_ret (pe_lst (pac (pe_tup (pac (pe_tup (pac pe_int (pac pe_int pa_nil))) (pac (pe_tup (pac pe_int (pac pe_int pa_nil))) pa_nil))) (pac (pe_tup (pac (pe_tup (pac pe_int (pac pe_int pa_nil))) (pac (pe_tup (pac pe_int (pac pe_int pa_nil))) pa_nil))) pa_nil))))) pss_nil) (pss_cons (ps_if (PW.pt (pw_and (pt_cmpR op_eq (pe_op op_modB (pe_op op_fdivB (pv 0) pe_int) pe_int) pe_int (nomark _)) (pw_and1 (pt_cmpR op_eq (pe_op op_modB (pe_op op_fdivB (pv 0) pe_int) pe_int) pe_int (nomark _))))) (pss_one (ps_ret (pe_lst (pac (pe_tup (pac (pe_tup (pac pe_int (pac pe_int pa_nil))) (pac (pe_tup (pac (pe_op op_sub pe_int pe_int) (pac pe_int pa_nil))) pa_nil))) pa_nil)))) pss_nil) pt))), ?_⟩
 refine ⟨_, rfl, _, _, rfl, rfl, nz (by decide), _, _, rfl, rfl, _, rfl, ?_⟩
 refine ite2 (fun _ => ?_) (fun _ => ?_)
 ·refine ⟨(by show 0 ≤ sizeLine; decide), fun p np => ?_⟩
  exact q p [] [] _ (.inl rfl) (same_new np _) np upd_same .nil
 refine ⟨_, rfl, _, _, rfl, rfl, nz (by decide), rfl, _, rfl, ?_⟩
 refine ite2 (fun _ => ?_) (fun _ => ?_)
 ·refine ⟨L2, ?_⟩
  intro p1 n1; generalize eX : upd _ p1 _ = H1; have ⟨s1, e1⟩ := nw n1 eX; clear eX
  refine ⟨L2, ?_⟩
  intro p2 n2; generalize eX : upd _ p2 _ = H2; have ⟨s2, e2⟩ := nw n2 eX; clear eX
  refine ⟨L2, ?_⟩
  intro p3 n3; generalize eX : upd _ p3 _ = H3; have ⟨s3, e3⟩ := nw n3 eX; clear eX
  refine ⟨L2, ?_⟩
  intro p4 n4; generalize eX : upd _ p4 _ = H4; have ⟨s4, e4⟩ := nw n4 eX; clear eX
  refine ⟨L2, ?_⟩
  intro p5 n5; generalize eX : upd _ p5 _ = H5; have ⟨s5, e5⟩ := nw n5 eX; clear eX
  refine ⟨L2, ?_⟩
  intro p6 n6; generalize eX : upd _ p6 _ = H6; have ⟨s6, e6⟩ := nw n6 eX; clear eX
  refine ⟨L2, ?_⟩
  intro p7 n7; generalize eX : upd _ p7 _ = H7; have ⟨s7, e7⟩ := nw n7 eX; clear eX
  have sh := sm_tr (sm_tr s1 s2) (sm_tr (sm_tr s3 s4) (sm_tr s5 s6))
  have f1 : PtR K H6 (.ref p3) (1, 0) := by
   have z : PtR K H3 (.ref p3) (1, 0) := pt_of e3 (((nm_lit 1 e1).same s2).same s3) ((nm_lit 0 e2).same s3)
   exact ((z.same s4).same s5).same s6
  have f2 : PtR K H6 (.ref p6) (0, 1) := pt_of e6 (((nm_lit 0 e4).same s5).same s6) ((nm_lit 1 e5).same s6)
  exact q p7 _ [(1, 0), (0, 1)] _ (.inr (.inr rfl)) (sm_tr sh s7) (none_back sh n7) e7 (.cons (f1.same s7) (.cons (f2.same s7) .nil))
 refine ⟨_, rfl, _, _, rfl, rfl, d5 _, _, _, rfl, rfl, nz (by decide), rfl, _, rfl, ?_⟩
 refine ite2 (fun c1 => ?_) (fun c1 => ?_)
 ·refine ⟨_, rfl, _, _, rfl, rfl, d35 _, _, _, rfl, rfl, nz (by decide), rfl, _, rfl, ?_⟩
  refine ite2 (fun c2 => ?_) (fun c2 => ?_)
  ·refine ⟨L2, ?_⟩
   intro p1 n1; generalize eX : upd _ p1 _ = H1; have ⟨s1, e1⟩ := nw n1 eX; clear eX
   refine ⟨_, _, rfl, rfl, L2, ?_⟩
   intro p2 n2; generalize eX : upd _ p2 _ = H2; have ⟨s2, e2⟩ := nw n2 eX; clear eX
   refine ⟨L2, ?_⟩
   intro p3 n3; generalize eX : upd _ p3 _ = H3; have ⟨s3, e3⟩ := nw n3 eX; clear eX
   refine ⟨L1, ?_⟩
   intro p4 n4; generalize eX : upd _ p4 _ = H4; have ⟨s4, e4⟩ := nw n4 eX; clear eX
   have sh := sm_tr (sm_tr s1 s2) s3
   have f1 : PtR K H3 (.ref p3) (0, ((0 - 1 : Int) : Rat)) := pt_of e3 (((nm_lit 0 e1).same s2).same s3) ((nm_lit (0 - 1) e2).same s3)
   refine q p4 _ [_] _ (.inr (.inl ⟨_, _, rfl, ?_, sz_zero (by decide), sz_small (by decide)⟩)) (sm_tr sh s4) (none_back sh n4) e4 (.cons (f1.same s4) .nil)
   rintro ⟨_, h2⟩
   exact ratne (show (0 - 1 : Int) ≠ 0 by decide) h2
  ·exact ht fun z => c2 (decide_eq_true (congrArg V.int z.2))
 ·exact ht fun z => c1 (decide_eq_true (congrArg V.int z.1))
theorem at36 (c : Int) : ∃ d : Nat, atI (Str.ofString "abcdefghijklmnopqrstuvwxyz0123456789").cps.toList (c.fmod 36) = some d := by
 have m := fmod_in (x := c) (m := 36) (by decide)
 obtain ⟨n, en⟩ : ∃ n : Nat, c.fmod 36 = (n : Int) := ⟨(c.fmod 36).toNat, by omega⟩
 rw [en] at m ⊢
 have hn : n < 36 := by omega
 have hl : (Str.ofString "abcdefghijklmnopqrstuvwxyz0123456789").cps.toList.length = 36 := by decide +kernel
 exact ⟨_, atI_nat (gE (by omega))⟩
theorem inj36 : ∀ i j : Fin 36, atI (Str.ofString "abcdefghijklmnopqrstuvwxyz0123456789").cps.toList (i.val : Int) = atI (Str.ofString "abcdefghijklmnopqrstuvwxyz0123456789").cps.toList (j.val : Int) → i = j := by decide +kernel
theorem len36 : (Str.ofString "abcdefghijklmnopqrstuvwxyz0123456789").length ≤ sizeLine := by decide +kernel
theorem slice1 (d e : Nat) : ∀ m : Nat, m < 5 → (Txt.slice (Txt.mul (⟨#[d]⟩ : Str) (m : Int) ++ (⟨#[e]⟩ : Str)) none (some 1)).length = 1
 | 0, _ => by kernel_rfl
 | 1, _ => by kernel_rfl
 | 2, _ => by kernel_rfl
 | 3, _ => by kernel_rfl
 | 4, _ => by kernel_rfl
def spNames : Sp := fun vs H Q _ => ∃ c : Int, vs = [.int c, .int 9] ∧ ∀ (l : Addr) (xs : List Str) (H' : Hp), xs.length = 9 → xs.Nodup → Same H H' → H l = none → H' l = some (.lst (xs.map V.str)) → Q (.ref l) H'
theorem sc_aw : FnScope ["_law_cell", "_law_many", "_law_signs", "_law_stem", "_law_at"] ["_law_cell", "_law_many"] (defScope s_aw) := sq
theorem ok_aw (D : Def K mg "_law_names" s_aw ["_law_cell", "_law_many"]) (m_range : mg "range" = none) (m_len : mg "len" = none) : Fn P w K mg base CX 1 "_law_names" ["_law_cell", "_law_many"] spNames := by
 refine D.ok sc_aw (fun vs H Q E h => ?_) (fun f cdv A outer s H vs Q E hr h => ?_)
 ·obtain ⟨c, rfl, _⟩ := h
  rfl
 obtain ⟨c, rfl, q⟩ := h
 refine ⟨_, (pss_cons (ps_set (i := 2) sc_aw.nd rfl (Or.inr rfl) pe_str)
  (pss_cons (ps_set (i := 3) sc_aw.nd rfl (Or.inr rfl) (pe_op op_add_str (pe_op op_mulS (pe_ix ix_str (pv 2) (pe_op op_modB (pe_op op_fdivB (pv 0) pe_int) pe_int) (fun _ _ => rfl)) (pe_op op_modB (pe_op op_fdivB (pv 0) pe_int) pe_int)) (pe_ix ix_str (pv 2) (pe_op op_modB (pe_op op_fdivB (pv 0) pe_int) pe_int) (fun _ _ => rfl))))
  (pss_cons (ps_if (pt_cmpR op_eq (pe_op op_modB (pv 0) pe_int) pe_int (nomark _)) (pss_one (ps_ret (pe_comp (tn := ["_law_k"]) (fr := ["_law_stem"]) (caps := [3]) rfl ⟨rfl, by decide +kernel, rfl, by decide +kernel, by decide +kernel, rfl, ⟨(by first | exact Or.inl rfl | exact Or.inr rfl), trivial⟩, ⟨(by first | exact Or.inl rfl | exact Or.inr rfl), trivial⟩⟩ (pi_range1 rfl m_range (pac (pv 1) pa_nil)) (fun _ _ _ _ => (pg_name (i := 0) (show (["_law_k", "_law_stem"] : List Str).Nodup from by decide +kernel) rfl (Or.inl rfl))) (fun _ _ _ _ => pf_nil) (fun _ _ _ _ => (pe_op op_add_str (pv 1) (pe_op op_mulS (pe_slice sl_str (pv 1) po_none (po_some pe_int)) (pv 0))))))) pss_nil)
  (pss_cons (ps_set (i := 4) sc_aw.nd rfl (Or.inr rfl) (pe_op op_modB (pe_op op_fdivB (pv 0) pe_int) (pe_op op_add (pe_callB call_len_str rfl m_len b_len (pac (pv 3) pa_nil)) pe_int)))
  (pss_one (ps_ret (pe_comp (tn := ["_law_k"]) (fr := ["_law_stem", "_law_signs", "_law_cell", "_law_at"]) (caps := [3, 2, 0, 4]) rfl ⟨rfl, by decide +kernel, rfl, by decide +kernel, by decide +kernel, rfl, ⟨(by first | exact Or.inl rfl | exact Or.inr rfl), ⟨(by first | exact Or.inl rfl | exact Or.inr rfl), ⟨(by first | exact Or.inl rfl | exact Or.inr rfl), ⟨(by first | exact Or.inl rfl | exact Or.inr rfl), trivial⟩⟩⟩⟩, ⟨(by first | exact Or.inl rfl | exact Or.inr rfl), ⟨(by first | exact Or.inl rfl | exact Or.inr rfl), ⟨(by first | exact Or.inl rfl | exact Or.inr rfl), ⟨(by first | exact Or.inl rfl | exact Or.inr rfl), trivial⟩⟩⟩⟩⟩ (pi_range1 rfl m_range (pac (pv 1) pa_nil)) (fun _ _ _ _ => (pg_name (i := 0) (show (["_law_k", "_law_stem", "_law_signs", "_law_cell", "_law_at"] : List Str).Nodup from by decide +kernel) rfl (Or.inl rfl))) (fun _ _ _ _ => pf_nil) (fun _ _ _ _ => (pe_op op_add_str (pe_op op_add_str (pe_slice sl_str (pv 1) po_none (po_some (pv 4))) (pe_ix ix_str (pv 2) (pe_op op_modB (pe_op op_add (pe_op op_fdivB (pv 3) pe_int) (pv 0)) pe_int) (fun _ _ => rfl))) (pe_slice sl_str (pv 1) (po_some (pv 4)) po_none)))))))))), ?_⟩
 obtain ⟨d1, e1⟩ := at36 (c.fdiv 3)
 obtain ⟨d2, e2⟩ := at36 (c.fdiv 5)
 have dv : ∀ i j : Int, 0 < j → j < 1000 → CDivB i j := fun i j h0 h1 => ⟨by omega, Nat.le_trans (intBits_le_64 (by omega) (by omega)) (by decide)⟩
 have m5 := fmod_in (x := c.fdiv 108) (m := 5) (by decide)
 obtain ⟨m, em⟩ : ∃ m : Nat, (c.fdiv 108).fmod 5 = (m : Int) := ⟨((c.fdiv 108).fmod 5).toNat, by omega⟩
 have hm : m < 5 := by omega
 have ls : (Txt.mul (⟨#[d1]⟩ : Str) (m : Int) ++ (⟨#[d2]⟩ : Str)).length = m + 1 := by
  rw [strLen_append, mul_len rfl]
  rfl
 have z20 : ∀ {n : Nat}, n ≤ 40 → n ≤ sizeLine := fun h => Nat.le_trans h (by decide)
 refine ⟨_, rfl, _, rfl, _, _, rfl, rfl, dv _ _ (by decide) (by decide), _, _, rfl, rfl, nz (by decide), _, _, _, rfl, rfl, len36, e1, ?_⟩
 refine ⟨_, rfl, _, _, rfl, rfl, dv _ _ (by decide) (by decide), _, _, rfl, rfl, nz (by decide), _, _, rfl, rfl, (by rw [em]; exact mulOk1 rfl (by omega)), ?_⟩
 refine ⟨_, rfl, _, rfl, _, _, rfl, rfl, dv _ _ (by decide) (by decide), _, _, rfl, rfl, nz (by decide), _, _, _, rfl, rfl, len36, e2, ?_⟩
 rw [em]
 refine ⟨_, _, rfl, rfl, z20 (by rw [mul_len rfl]; show m + 1 ≤ 40; omega), ?_⟩
 generalize hst : Txt.mul (⟨#[d1]⟩ : Str) (m : Int) ++ (⟨#[d2]⟩ : Str) = st at ls ⊢
 refine ⟨_, rfl, _, _, rfl, rfl, nz (by decide), rfl, _, rfl, ?_⟩
 refine ite2 (fun _ => ?_) (fun _ => ?_)
 ·have l1 : (Txt.slice st none (some 1)).length = 1 := by rw [← hst]; exact slice1 d1 d2 m hm
  refine ⟨_, rfl, 9, rfl, by decide, by decide, fun D nD => ?_⟩
  refine comp_range (lo := 0) (n := 9) (fun i v _ => v = .str (st ++ Txt.mul (Txt.slice st none (some 1)) (i : Int))) nD (by decide) (fun _ _ _ _ _ _ _ h => h) ?_ ?_
  ·intro i H2 R hi s2 k
   have ei : (0 : Int) + (i : Int) = (i : Int) := Int.zero_add _
   rw [ei]
   refine ⟨_, rfl, _, rfl, _, rfl, st, rfl, z20 (by omega), _, rfl, _, _, rfl, rfl, mulOk1 l1 (by omega), _, _, rfl, rfl, z20 (by rw [mul_len l1, ls]; omega), k _ _ (Same.refl _) rfl⟩
  ·intro ys H2 hy hrel s2 hD
   have e := list_of_rel (f := fun i => V.str (st ++ Txt.mul (Txt.slice st none (some 1)) (i : Int))) hy hrel
   refine q D ((List.range 9).map fun (i : Nat) => st ++ Txt.mul (Txt.slice st none (some 1)) (i : Int)) H2 (by simp) (nodup_range_map fun i j _ _ h => ?_) s2 nD (by rw [hD, e, List.map_map]; rfl)
   have := congrArg Str.length h
   rw [strLen_append, strLen_append, mul_len l1, mul_len l1] at this
   omega
 ·refine ⟨_, rfl, _, _, rfl, rfl, dv _ _ (by decide) (by decide), _, rfl, st, rfl, z20 (by omega), _, _, rfl, rfl, _, _, rfl, rfl, nz (by omega), ?_⟩
  have c1 : ∀ l u, (Txt.slice st l u).length ≤ 5 := fun l u => Nat.le_trans (Txt.slice_le st l u) (by omega)
  have dx : ∀ k : Nat, ∃ d : Nat, atI (Str.ofString "abcdefghijklmnopqrstuvwxyz0123456789").cps.toList ((c.fdiv 7 + (k : Int)).fmod 36) = some d := fun k => at36 _
  refine ⟨_, rfl, 9, rfl, by decide, by decide, fun D nD => ?_⟩
  refine comp_range (lo := 0) (n := 9) (fun i v _ => v = .str (Txt.slice st none (some ((c.fdiv 540).fmod ((st.length : Int) + 1))) ++ (⟨#[Classical.choose (dx i)]⟩ : Str) ++ Txt.slice st (some ((c.fdiv 540).fmod ((st.length : Int) + 1))) none)) nD (by decide) (fun _ _ _ _ _ _ _ h => h) ?_ ?_
  ·intro i H2 R hi s2 k
   have ei : (0 : Int) + (i : Int) = (i : Int) := Int.zero_add _
   rw [ei]
   refine ⟨_, rfl, _, rfl, _, rfl, st, rfl, z20 (by omega), _, rfl, _, rfl, _, _, rfl, rfl, dv _ _ (by decide) (by decide), _, rfl, _, _, rfl, rfl, _, _, rfl, rfl, nz (by decide), _, _, _, rfl, rfl, len36, Classical.choose_spec (dx i), ?_⟩
   have := c1 none (some ((c.fdiv 540).fmod ((st.length : Int) + 1)))
   have h2 := c1 (some ((c.fdiv 540).fmod ((st.length : Int) + 1))) none
   refine ⟨_, _, rfl, rfl, z20 (by rw [Ty.one_sign]; omega), _, rfl, _, rfl, _, rfl, st, rfl, z20 (by omega), _, _, rfl, rfl, z20 (by rw [strLen_append, Ty.one_sign]; omega), k _ _ (Same.refl _) rfl⟩
  ·intro ys H2 hy hrel s2 hD
   have e := list_of_rel (f := fun i => V.str (Txt.slice st none (some ((c.fdiv 540).fmod ((st.length : Int) + 1))) ++ (⟨#[Classical.choose (dx i)]⟩ : Str) ++ Txt.slice st (some ((c.fdiv 540).fmod ((st.length : Int) + 1))) none)) hy hrel
   refine q D ((List.range 9).map fun (i : Nat) => Txt.slice st none (some ((c.fdiv 540).fmod ((st.length : Int) + 1))) ++ (⟨#[Classical.choose (dx i)]⟩ : Str) ++ Txt.slice st (some ((c.fdiv 540).fmod ((st.length : Int) + 1))) none) H2 (by simp) (nodup_range_map fun i j hi hj h => ?_) s2 nD (by rw [hD, e, List.map_map]; rfl)
   have h' := congrArg (fun x : Str => x.cps.toList) h
   change (_ : Str).cps.toList = (_ : Str).cps.toList at h'
   rw [cps_append, cps_append, cps_append, cps_append] at h'
   have h2 := List.append_cancel_left (List.append_cancel_right h')
   have h3 : Classical.choose (dx i) = Classical.choose (dx j) := by simpa using h2
   have y1 := Classical.choose_spec (dx i)
   have y2 := Classical.choose_spec (dx j)
   rw [h3, ← y2] at y1
   have a1 := fmod_in (x := c.fdiv 7 + (i : Int)) (m := 36) (by decide)
   have a2 := fmod_in (x := c.fdiv 7 + (j : Int)) (m := 36) (by decide)
   obtain ⟨n1, en1⟩ : ∃ n : Nat, (c.fdiv 7 + (i : Int)).fmod 36 = (n : Int) := ⟨_, (Int.toNat_of_nonneg a1.1).symm⟩
   obtain ⟨n2, en2⟩ : ∃ n : Nat, (c.fdiv 7 + (j : Int)).fmod 36 = (n : Int) := ⟨_, (Int.toNat_of_nonneg a2.1).symm⟩
   rw [en1, en2] at y1
   have z := inj36 ⟨n1, by omega⟩ ⟨n2, by omega⟩ y1
   have z' : n1 = n2 := congrArg Fin.val z
   have w1 : (c.fdiv 7 + (i : Int)).fmod 36 = (c.fdiv 7 + (i : Int)) % 36 := Int.fmod_eq_emod_of_nonneg _ (by decide)
   have w2 : (c.fdiv 7 + (j : Int)).fmod 36 = (c.fdiv 7 + (j : Int)) % 36 := Int.fmod_eq_emod_of_nonneg _ (by decide)
   omega
def PinX (K : Frag) (H : Hp) (d : Addr) (v : V) (p : PinD) : Prop := ∃ (a l : Addr) (s : V) (us : List V), v = .ref a ∧ SqT K H a [.str p.nm, s, .ref l] ∧ PtR K H s p.sp ∧ H l = some (.lst us) ∧ PtsR K H us p.ws ∧ l ≠ d
def BarR (K : Frag) (H : Hp) (d : Addr) (v : V) (b : BarD) : Prop := ∃ (a : Addr) (u1 u2 : V), v = .ref a ∧ SqT K H a [.str b.nm, u1, u2] ∧ PinX K H d u1 b.one ∧ PinX K H d u2 b.other
section
variable {K : Frag} {H H' : Hp} {v : V} {p : PinD} {d : Addr}
theorem PinX.same (h : PinX K H d v p) (s : Same H H') : PinX K H' d v p := by
 obtain ⟨a, l, sv, us, e, h1, h2, h3, h4, h5⟩ := h
 exact ⟨a, l, sv, us, e, Ty.Same.seqT s h1, h2.same s, s _ _ h3, h4.same s, h5⟩
theorem PinX.upd {xs : List V} {o : HO} (h : PinX K H d v p) (e : H d = some (.lst xs)) : PinX K (L2.upd H d o) d v p := by
 obtain ⟨a, l, sv, us, ev, h1, h2, h3, h4, h5⟩ := h
 have t : SameT H (L2.upd H d o) := .list e
 exact ⟨a, l, sv, us, ev, t.seqT h1, h2.sameT t, by rw [upd_ne h5]; exact h3, h4.sameT t, h5⟩
theorem BarR.same {b : BarD} (h : BarR K H d v b) (s : Same H H') : BarR K H' d v b := by
 obtain ⟨a, u1, u2, e, h1, h2, h3⟩ := h
 exact ⟨a, u1, u2, e, Ty.Same.seqT s h1, h2.same s, h3.same s⟩
end
structure GoodP (pins : List PinD) : Prop where
 np : (pins.map (·.nm)).Nodup
 ns : (pins.map (·.sp)).Nodup
 sz : ∀ p ∈ pins, Sz 100 p.sp.1 ∧ Sz 100 p.sp.2
 ws : ∀ p ∈ pins, WaysOk p.ws
theorem WaysOk.sz {ws : List (Rat × Rat)} (h : WaysOk ws) : ∀ w ∈ ws, Sz 50 w.1 ∧ Sz 50 w.2 := fun w hw => by
 rcases h with rfl | ⟨x, y, rfl, _, h1, h2⟩ | rfl
 ·cases hw
 ·have : w = (x, y) := by simpa using hw
  rw [this]
  exact ⟨h1, h2⟩
 ·have e1 : Sz 50 (1 : Rat) := sz_small (i := 1) (by decide)
  have e0 : Sz 50 (0 : Rat) := sz_zero (by decide)
  have : w = (1, 0) ∨ w = (0, 1) := by simpa using hw
  rcases this with rfl | rfl
  ·exact ⟨e1, e0⟩
  ·exact ⟨e0, e1⟩
theorem WaysOk.len {ws : List (Rat × Rat)} (h : WaysOk ws) : ws.length ≤ 2 := by
 rcases h with rfl | ⟨x, y, rfl, _⟩ | rfl <;> simp
theorem GoodP.snoc {pins : List PinD} {p : PinD} (g : GoodP pins) (h1 : p.nm ∉ pins.map (·.nm)) (h2 : p.sp ∉ pins.map (·.sp)) (h3 : Sz 100 p.sp.1 ∧ Sz 100 p.sp.2) (h4 : WaysOk p.ws) : GoodP (pins ++ [p]) := by
 refine ⟨?_, ?_, fun q hq => ?_, fun q hq => ?_⟩
 ·rw [List.map_append, List.nodup_append]
  refine ⟨g.np, by simp, fun a ha b hb e => h1 ?_⟩
  have : b = p.nm := by simpa using hb
  rw [← this, ← e]
  exact ha
 ·rw [List.map_append, List.nodup_append]
  refine ⟨g.ns, by simp, fun a ha b hb e => h2 ?_⟩
  have : b = p.sp := by simpa using hb
  rw [← this, ← e]
  exact ha
 ·rcases List.mem_append.mp hq with z | z
  ·exact g.sz q z
  ·rw [List.mem_singleton.mp z]
   exact h3
 ·rcases List.mem_append.mp hq with z | z
  ·exact g.ws q z
  ·rw [List.mem_singleton.mp z]
   exact h4
structure GoodB (pins : List PinD) (bars : List BarD) : Prop where
 nb : (bars.map (·.nm)).Nodup
 ends : ∀ b ∈ bars, b.one ∈ pins ∧ b.other ∈ pins ∧ b.one.nm ≠ b.other.nm
theorem paired_snoc {α β : Type} {F : α → β → Prop} : ∀ {l₁ : List α} {l₂ : List β} {a : α} {b : β}, Paired F l₁ l₂ → F a b → Paired F (l₁ ++ [a]) (l₂ ++ [b])
 | _, _, _, _, .nil, h => .cons h .nil
 | _, _, _, _, .cons h t, h' => .cons h (paired_snoc t h')
theorem bits_cell {c : Int} {k m : Nat} (h : intBits c ≤ 1048576) (hk : k < 20) (hm : m < 100) : intBits (c + (m : Int) * (k : Int) * (k : Int)) ≤ 2000000 := by
 have b : intBits ((m : Int) * (k : Int) * (k : Int)) ≤ 1048576 := by
  have : m * k * k < 100 * 20 * 20 := by
   have h1 : m * k ≤ 100 * 20 := Nat.mul_le_mul (by omega) (by omega)
   have h2 : m * k * k ≤ 100 * 20 * 19 := Nat.mul_le_mul h1 (by omega)
   omega
  have e : (m : Int) * (k : Int) * (k : Int) = ((m * k * k : Nat) : Int) := by push_cast; rfl
  rw [e]
  exact Nat.le_trans (intBits_le_64 (by omega) (by omega)) (by decide)
 exact Nat.le_trans (bits_addF h b) (by decide)
theorem mul_small {m k : Nat} (hm : m < 100) (hk : k < 20) : CMulB (m : Int) (k : Int) ∧ CMulB ((m : Int) * (k : Int)) (k : Int) := by
 have h1 : m * k ≤ 100 * 20 := Nat.mul_le_mul (by omega) (by omega)
 have e : (m : Int) * (k : Int) = ((m * k : Nat) : Int) := by push_cast; rfl
 have z : ∀ n : Nat, n ≤ 2000 → intBits (n : Int) ≤ 33554432 := fun n hn => Nat.le_trans (intBits_le_64 (by omega) (by omega)) (by decide)
 refine ⟨⟨z _ (by omega), z _ (by omega)⟩, ?_, z _ (by omega)⟩
 rw [e]
 exact z _ h1
def Near (sc : Int) (pins : List PinD) : Prop := ∀ p ∈ pins, Sz 50 p.sp.1 ∧ -(far sc) ≤ p.sp.1 ∧ p.sp.1 ≤ far sc
abbrev mpP (pins : List PinD) : List (Str × Pt) := pins.map fun p => (p.nm, ptQ p.sp)
abbrev mpW (pins : List PinD) : List (Str × List (Rat × Rat)) := pins.map fun p => (p.nm, p.ws)
abbrev mpB (bars : List BarD) : List (Str × Str × Str) := bars.map fun b => (b.nm, b.one.nm, b.other.nm)
theorem mpP_app {a b : List PinD} : mpP (a ++ b) = mpP a ++ mpP b := List.map_append
theorem mpW_app {a b : List PinD} : mpW (a ++ b) = mpW a ++ mpW b := List.map_append
theorem mpB_app {a b : List BarD} : mpB (a ++ b) = mpB a ++ mpB b := List.map_append
structure FrB (K : Frag) (H : Hp) (C a dx pP pW pB d : Addr) (pins : List PinD) (bars : List BarD) : Prop where
 ex : ∃ (kP kW kB : List (Key × V)), FrR K H C a dx pP pW pB (mpP pins) (mpB bars) kP kW kB ∧ WyR K H (mpW pins) kW ∧ ∀ kv ∈ kW, kv.2 ≠ .ref d
theorem FrB.fr {K : Frag} {H : Hp} {C a dx pP pW pB d : Addr} {pins : List PinD} {bars : List BarD} (h : FrB K H C a dx pP pW pB d pins bars) : FrA K H C a pins bars := by
 obtain ⟨kP, kW, kB, R, W, _⟩ := h.ex
 exact ⟨dx, pP, pW, pB, kP, kW, kB, R, W⟩
theorem FrB.same {K : Frag} {H H' : Hp} {C a dx pP pW pB d : Addr} {pins : List PinD} {bars : List BarD} (h : FrB K H C a dx pP pW pB d pins bars) (s : Same H H') : FrB K H' C a dx pP pW pB d pins bars := by
 obtain ⟨kP, kW, kB, R, W, n⟩ := h.ex
 exact ⟨kP, kW, kB, R.same s, W.same s, n⟩
theorem ks_t {d : Addr} {H H' : Hp} {kvs : List (Key × V)} (k : KSame d H H') (e : H d = some (.dK kvs)) : SameT H H' := fun b zs r => by
 rcases r with r | ⟨o', r⟩
 ·exact .inl (k _ _ (fun z => by rw [z, e] at r; cases r) r)
 ·exact .inr ⟨o', k _ _ (fun z => by rw [z, e] at r; cases r) r⟩
theorem wy_ks {K : Frag} {H H' : Hp} {d : Addr} {pw : List (Str × List (Rat × Rat))} {kW kd : List (Key × V)} (W : WyR K H pw kW) (k : KSame d H H') (e : H d = some (.dK kd)) : WyR K H' pw kW :=
 Paired.mapP W fun _ _ z => ⟨z.1, by
  obtain ⟨l', us', z1, z2, z3⟩ := z.2
  exact ⟨l', us', z1, k _ _ (fun z => by rw [z, e] at z2; cases z2) z2, z3.sameT (ks_t k e)⟩⟩
def spPinsL (K : Frag) : Sp := fun vs H Q _ => ∃ (sA nA : Addr) (ns : List Int) (xs : List Str) (sc : Int), vs = [.ref sA, .ref nA, .int sc] ∧ SqL K H sA (ns.map V.int) ∧ (∀ i ∈ ns, intBits i ≤ 1048576) ∧ H nA = some (.lst (xs.map V.str)) ∧ xs.length = 9 ∧ xs.Nodup ∧ 0 ≤ sc ∧ sc ≤ 997 ∧
 ∀ (l : Addr) (us : List V) (pins : List PinD) (H' : Hp), Same H H' → H l = none → H' l = some (.lst us) → Paired (PinX K H' l) us pins → GoodP pins → Near sc pins → pins.length ≤ 6 → Q (.ref l) H'
theorem sc_b9 : FnScope ["_law_script", "_law_names_here", "_law_scale", "_law_pins_here", "_law_k", "_law_cell", "_law_spot"] ["_law_script", "_law_names_here", "_law_scale"] (defScope s_b9) := sq
theorem ok_b9 (D : Def K mg "_law_pins" s_b9 ["_law_script", "_law_names_here", "_law_scale"]) (m_range : mg "range" = none) (G_ad : Fn P w K mg base (CXr P w) 1 "_law_cell_at" ["_law_script", "_law_k"] (spCell K)) (G_b6 : Fn P w K mg base (CXr P w) 1 "_law_part" ["_law_cell", "_law_k"] spPart) (G_av : Fn P w K mg base (CXr P w) 34 "_law_drawn" ["_law_cell", "_law_scale"] spDrawn) (G_b8 : Fn P w K mg base (CXr P w) 34 "_law_ways" ["_law_cell"] (spWaysL K)) :
  Fn P w K mg base (CXr P w) 35 "_law_pins" ["_law_script", "_law_names_here", "_law_scale"] (spPinsL K) := by
 refine D.ok sc_b9 (fun vs H Q E h => ?_) (fun f cdv A outer s H vs Q E hr h => ?_)
 ·obtain ⟨sA, nA, ns, xs, sc, rfl, _⟩ := h
  rfl
 obtain ⟨sA, nA, ns, xs, sc, rfl, hS, hb, hn, lx, nx, c0, c9, q⟩ := h
 refine ⟨_, (pss_cons (ps_set (i := 3) sc_b9.nd rfl (Or.inl rfl) (pe_lst pa_nil))
  (pss_cons (ps_for PassesOwn.never rfl (pi_range1 rfl m_range (pac (pe_op op_modB (pe_fn G_ad hr.mo pX (pac (pv 0) (pac pe_int pa_nil))) pe_int) pa_nil)) (pg_name (i := 4) sc_b9.nd rfl (Or.inl rfl)) (pss_cons (ps_set (i := 5) sc_b9.nd rfl (Or.inl rfl) (pe_op op_add (pe_fn G_ad hr.mo pX (pac (pv 0) (pac (pe_op op_add pe_int (pv 4)) pa_nil))) (pe_op op_mulB (pe_op op_mulB pe_int (pv 4)) (pv 4))))
   (pss_cons (ps_set (i := 6) sc_b9.nd rfl (Or.inl rfl) (pe_tup (pac (pe_fn G_av hr.mo pX (pac (pv 5) (pac (pv 2) pa_nil))) (pac (pe_fn G_av hr.mo pX (pac (pe_fn G_b6 hr.mo pX (pac (pv 5) (pac pe_int pa_nil))) (pac (pv 2) pa_nil))) pa_nil))))
   (pss_one (ps_if (pt_cmpR (op_notInPt hr.units) (pv 6) (pe_comp (tn := ["_law_pin"]) (fr := []) (caps := []) rfl ⟨rfl, by decide +kernel, rfl, by decide +kernel, by decide +kernel, rfl, trivial, trivial⟩ (pi_list (pv 3)) (fun _ _ _ _ => (pg_name (i := 0) (show (["_law_pin"] : List Str).Nodup from by decide +kernel) rfl (Or.inl rfl))) (fun _ _ _ _ => pf_nil) (fun _ _ _ _ => (pe_ix (ix_tupK (K := K) rfl) (pv 0) pe_int (fun _ _ => rfl)))) rfl) (pss_one (ps_expr (pe_bm PySem.F.plainAttrs_list PySem.F.slot_list_append PySem.F.type_list_append mt_append (pv 3) (pac (pe_tup (pac (pe_ix ix_list (pv 1) (pv 4) (fun _ _ => rfl)) (pac (pv 6) (pac (pe_fn G_b8 hr.mo pX (pac (pe_fn G_b6 hr.mo pX (pac (pv 5) (pac pe_int pa_nil))) pa_nil)) pa_nil)))) pa_nil)))) pss_nil)))))
  (pss_one (ps_ret (pv 3))))), ?_⟩
 refine ⟨(by show 0 ≤ sizeLine; decide), ?_⟩
 intro lp np; generalize eX : upd _ lp _ = H0; have ⟨sp, ep⟩ := nw np eX; clear eX
 refine ⟨_, rfl, sA, ns, 1, rfl, sp.seq hS, hb, by decide, by decide, fun c1 b1 => ⟨_, _, rfl, rfl, nz (by decide), ?_⟩⟩
 have m7 := fmod_in (x := c1) (m := 7) (by decide)
 obtain ⟨N, eN⟩ : ∃ N : Nat, c1.fmod 7 = (N : Int) := ⟨(c1.fmod 7).toNat, by omega⟩
 refine ⟨(N : Int), (by show [V.int (c1.fmod 7)] = [V.int (N : Int)]; rw [eN]), by omega, by omega, for_range (lo := 0) (n := N) (fun i σ H' => ∃ (o4 o5 o6 : Option V) (us : List V) (pins : List PinD), σ = [some (.ref sA), some (.ref nA), some (.int sc), some (.ref lp), o4, o5, o6] ∧ Same H H' ∧ H' lp = some (.lst us) ∧ Paired (PinX K H' lp) us pins ∧ GoodP pins ∧ Near sc pins ∧ (∀ p ∈ pins, p.nm ∈ xs.take i) ∧ pins.length ≤ i) ⟨none, none, none, [], [], rfl, sp, ep, .nil, ⟨by simp, by simp, by simp, by simp⟩, (fun p hp => nomatch hp), by simp, Nat.zero_le _⟩ ?_ ?_⟩
 ·rintro i σ H1 hi ⟨o4, o5, o6, us, pins, rfl, s1, e1, pp, gp, nr, nm, lp6⟩
  have ei : (0 : Int) + (i : Int) = (i : Int) := Int.zero_add _
  rw [ei]
  have i6 : i < 6 := by omega
  obtain ⟨mm1, mm2⟩ := mul_small (m := 31) (k := i) (by decide) (by omega)
  refine ⟨_, rfl, _, rfl, _, _, rfl, rfl, sA, ns, _, rfl, s1.seq hS, hb, by omega, by omega, fun c2 b2 => ?_⟩
  refine ⟨_, rfl, _, _, rfl, rfl, mm1, _, rfl, _, _, rfl, rfl, mm2, _, _, rfl, rfl, ?_⟩
  have bc := bits_cell (m := 31) (k := i) b2 (by omega) (by decide)
  refine ⟨_, rfl, _, rfl, _, _, rfl, bc, c0, c9, fun r1 z1 f1 p1 H2 s2 e2 => ?_⟩
  refine ⟨_, rfl, _, _, rfl, bc, by decide, by decide, fun c3 H3 h30 h31 s3 => ?_⟩
  have b3 : intBits c3 ≤ 2000000 := Nat.le_trans (intBits_le_64 (by omega) (by omega)) (by decide)
  refine ⟨_, rfl, _, _, rfl, b3, c0, c9, fun r2 z2 f2 p2 H4 s4 e4 => ⟨(by show 2 ≤ sizeLine; decide), ?_⟩⟩
  intro p3 n3; generalize eX : upd _ p3 _ = H5; have ⟨s5, e5⟩ := nw n3 eX; clear eX
  have hs : PtR K H5 (.ref p3) (r1, r2) := pt_of e5 ((((nm_of e2).same s3).same s4).same s5) ((nm_of e4).same s5)
  have s15 := sm_tr (sm_tr s2 s3) (sm_tr s4 s5)
  have e15 := s15 _ _ e1
  have pp5 : Paired (PinX K H5 lp) us pins := Paired.mapP pp fun _ _ z => z.same s15
  have lu : us.length = pins.length := Paired.length pp
  refine ⟨_, rfl, _, rfl, lp, rfl, ⟨_, SqL.of e15⟩, fun D1 n1 => ?_⟩
  refine comp_list (cap := []) (K := K) (a := lp) (xs := us) (fun i v H => ∃ p, pins[i]? = some p ∧ PtR K H v p.sp) n1 (by rw [lu]; exact Nat.lt_of_le_of_lt (show pins.length ≤ 1000 by omega) (by decide)) (fun H2 s2 => SqL.of (s2 _ _ e15)) (fun _ _ _ _ _ h0 ks h => by
    obtain ⟨p, h1, h2⟩ := h
    refine ⟨p, h1, h2.sameT fun b xs r => ?_⟩
    rcases r with r | ⟨o', r⟩
    ·exact .inl (ks _ _ (fun e => by rw [e, h0] at r; cases r) r)
    ·exact .inr ⟨o', ks _ _ (fun e => by rw [e, h0] at r; cases r) r⟩) ?_ ?_
  ·intro j u H6 R hu s6 k
   obtain ⟨p, ep', hp⟩ := paired_get pp5 hu
   obtain ⟨a, l, sv, us', rfl, h1, h2, _⟩ := hp
   exact ⟨_, rfl, a, _, _, _, rfl, rfl, Ty.Same.seqT s6 h1, rfl, k _ _ (Same.refl _) ⟨p, ep', h2.same s6⟩⟩
  ·intro ys H6 hy hrel s6 hD
   have pq : PtsR K H6 ys (pins.map (·.sp)) := paired_of (by rw [List.length_map, hy, lu]) fun j u q' e1' e2' => by
    obtain ⟨p, h1, h2⟩ := hrel j u e1'
    rw [List.getElem?_map, h1] at e2'
    cases e2'
    exact h2
   refine ⟨(r1, r2), D1, ys, _, rfl, SqL.of hD, hs.same s6, pq, _, rfl, ?_⟩
   have s16 := sm_tr s15 s6
   have e16 := s16 _ _ e1
   have pp6 : Paired (PinX K H6 lp) us pins := Paired.mapP pp fun _ _ z => z.same s16
   refine ite2 (fun cc => ?_) (fun _ => ?_)
   ·have fresh : (r1, r2) ∉ pins.map (·.sp) := by simpa using cc
    obtain ⟨x, hx⟩ : ∃ x, xs[i]? = some x := ⟨_, gE (by omega)⟩
    have s06 := sm_tr s1 s16
    refine ⟨_, rfl, .inl ⟨rfl, _, SqL.of e16⟩, _, rfl, _, rfl, nA, _, _, _, rfl, rfl, SqL.of (s06 _ _ hn), atI_nat (by rw [List.getElem?_map, hx]; rfl), _, rfl, _, rfl, _, _, rfl, bc, by decide, by decide, fun c7 H7 h70 h71 s7 => ?_⟩
    refine ⟨_, rfl, fun l8 us8 ws H8 wk s8 n8 e8 p8 => ⟨(by show 3 ≤ sizeLine; decide), ?_⟩⟩
    intro p9 n9; generalize eX : upd _ p9 _ = H9; have ⟨s9, e9⟩ := nw n9 eX; clear eX
    have s19 := sm_tr (sm_tr s7 s8) s9
    have e19 := s19 _ _ e16
    have pp9 : Paired (PinX K H9 lp) us pins := Paired.mapP pp6 fun _ _ z => z.same s19
    refine ⟨lp, _, _, rfl, rfl, e19, (by rw [lu]; exact Nat.lt_of_le_of_lt (show pins.length ≤ 1000 by omega) (by decide)), ?_⟩
    have xt : x ∉ xs.take i := fun z => by
     have := take_new (nm := id) (by rw [List.map_id]; exact nx) hx z
     exact this rfl
    have hsp : PinX K H9 lp (.ref p9) ⟨x, (r1, r2), ws⟩ := ⟨p9, l8, .ref p3, us8, rfl, SqT.of e9, (hs.same s6).same s19, s9 _ _ e8, p8.same s9, fun z => by
     have := s7 _ _ e16
     rw [← z, n8] at this
     cases this⟩
    refine ⟨_, _, _, _, pins ++ [⟨x, (r1, r2), ws⟩], rfl, fun b o z => ?_, upd_same, paired_snoc (Paired.mapP pp9 fun _ _ z => z.upd e19) (hsp.upd e19), gp.snoc (fun z => ?_) fresh ⟨z1.up (by decide), z2.up (by decide)⟩ wk, fun p hp => ?_, fun p hp => ?_, by simp; omega⟩
    ·rw [upd_ne (ne_of_none z np)]
     exact s19 _ _ (s06 _ _ z)
    ·obtain ⟨p, hp, ep'⟩ := List.mem_map.mp z
     exact xt ((show p.nm = x from ep') ▸ nm p hp)
    ·rcases List.mem_append.mp hp with z | z
     ·exact nr p z
     ·rw [List.mem_singleton.mp z]
      exact ⟨z1, f1⟩
    ·rw [take_snoc hx]
     rcases List.mem_append.mp hp with z | z
     ·exact List.mem_append_left _ (nm p z)
     ·rw [List.mem_singleton.mp z]
      simp
   ·refine ⟨_, _, _, us, pins, rfl, sm_tr s1 s16, e16, pp6, gp, nr, fun p hp => ?_, by omega⟩
    exact List.mem_of_mem_take (i := i) (by
     rw [List.take_take, Nat.min_eq_left (by omega)]
     exact nm p hp)
 ·rintro σ H1 ⟨o4, o5, o6, us, pins, rfl, s1, e1, pp, gp, nr, nm, lp6⟩
  exact ⟨_, rfl, q lp us pins H1 s1 np e1 pp gp nr (by omega)⟩
theorem ends_ne {c n r : Int} (hn : 2 ≤ n) (h0 : 0 ≤ r) (h1 : r < n - 1) : (c.fmod n + 1 + r).fmod n ≠ c.fmod n := by
 have m := fmod_in (x := c) (m := n) (by omega)
 generalize c.fmod n = o at m ⊢
 rw [Int.fmod_eq_emod_of_nonneg _ (by omega)]
 by_cases h : o + 1 + r < n
 ·rw [Int.emod_eq_of_lt (by omega) h]
  omega
 ·have e : o + 1 + r = (o + 1 + r - n) + n := by omega
  rw [e, Int.add_emod_right, Int.emod_eq_of_lt (by omega) (by omega)]
  omega
theorem GoodB.snoc {pins : List PinD} {bars : List BarD} {b : BarD} (g : GoodB pins bars) (h1 : b.nm ∉ bars.map (·.nm)) (h2 : b.one ∈ pins ∧ b.other ∈ pins ∧ b.one.nm ≠ b.other.nm) : GoodB pins (bars ++ [b]) := by
 refine ⟨?_, fun q hq => ?_⟩
 ·rw [List.map_append, List.nodup_append]
  refine ⟨g.nb, by simp, fun a ha c hc e => h1 ?_⟩
  have : c = b.nm := by simpa using hc
  rw [← this, ← e]
  exact ha
 ·rcases List.mem_append.mp hq with z | z
  ·exact g.ends q z
  ·rw [List.mem_singleton.mp z]
   exact h2
theorem names_new {pins : List PinD} (np : (pins.map (·.nm)).Nodup) {i j : Nat} {p q : PinD} (hi : pins[i]? = some p) (hj : pins[j]? = some q) (n : i ≠ j) : p.nm ≠ q.nm := fun e => by
 have il := (List.getElem?_eq_some_iff.mp hi).1
 have q1 : (pins.map (·.nm))[i]? = some p.nm := by rw [List.getElem?_map, hi]; rfl
 have q2 : (pins.map (·.nm))[j]? = some p.nm := by rw [List.getElem?_map, hj, e]; rfl
 exact n ((List.getElem?_inj (by rw [List.length_map]; exact il) np).mp (q1.trans q2.symm))
def spBarsL (K : Frag) : Sp := fun vs H Q _ => ∃ (sA nA pA : Addr) (ns : List Int) (xs : List Str) (us : List V) (pins : List PinD), vs = [.ref sA, .ref nA, .ref pA] ∧ SqL K H sA (ns.map V.int) ∧ (∀ i ∈ ns, intBits i ≤ 1048576) ∧ H nA = some (.lst (xs.map V.str)) ∧ xs.length = 9 ∧ xs.Nodup ∧ H pA = some (.lst us) ∧ Paired (PinX K H pA) us pins ∧ (pins.map (·.nm)).Nodup ∧ pins.length ≤ 6 ∧
 ∀ (l : Addr) (vs : List V) (bars : List BarD) (H' : Hp), Same H H' → H l = none → H' l = some (.lst vs) → Paired (BarR K H' pA) vs bars → GoodB pins bars → bars.length ≤ 8 → Q (.ref l) H'
theorem sc_ba : FnScope ["_law_script", "_law_names_here", "_law_pins_here", "_law_bars_here", "_law_k", "_law_cell", "_law_one", "_law_other"] ["_law_script", "_law_names_here", "_law_pins_here"] (defScope s_ba) := sq
theorem ok_ba (D : Def K mg "_law_bars" s_ba ["_law_script", "_law_names_here", "_law_pins_here"]) (m_range : mg "range" = none) (m_len : mg "len" = none) (G_ad : Fn P w K mg base (CXr P w) 1 "_law_cell_at" ["_law_script", "_law_k"] (spCell K)) :
  Fn P w K mg base (CXr P w) 2 "_law_bars" ["_law_script", "_law_names_here", "_law_pins_here"] (spBarsL K) := by
 refine D.ok sc_ba (fun vs H Q E h => ?_) (fun f cdv A outer s H vs Q E hr h => ?_)
 ·obtain ⟨sA, nA, pA, ns, xs, us, pins, rfl, _⟩ := h
  rfl
 obtain ⟨sA, nA, pA, ns, xs, us, pins, rfl, hS, hb, hn, lx, nx, hp, pp, np, lp6, q⟩ := h
 have lu : us.length = pins.length := Paired.length pp
 refine ⟨_, (pss_cons (ps_set (i := 3) sc_ba.nd rfl (Or.inl rfl) (pe_lst pa_nil))
  (pss_cons (ps_if (pt_cmpR op_lt (pe_callB call_len_seq rfl m_len b_len (pac (pv 2) pa_nil)) pe_int (nomark _)) (pss_one (ps_ret (pv 3))) pss_nil)
  (pss_cons (ps_for PassesOwn.never rfl (pi_range1 rfl m_range (pac (pe_op op_modB (pe_fn G_ad hr.mo pX (pac (pv 0) (pac pe_int pa_nil))) pe_int) pa_nil)) (pg_name (i := 4) sc_ba.nd rfl (Or.inl rfl)) (pss_cons (ps_set (i := 5) sc_ba.nd rfl (Or.inl rfl) (pe_op op_add (pe_fn G_ad hr.mo pX (pac (pv 0) (pac (pe_op op_add pe_int (pv 4)) pa_nil))) (pe_op op_mulB (pe_op op_mulB pe_int (pv 4)) (pv 4))))
   (pss_cons (ps_set (i := 6) sc_ba.nd rfl (Or.inl rfl) (pe_op op_modB (pv 5) (pe_callB call_len_seq rfl m_len b_len (pac (pv 2) pa_nil))))
   (pss_cons (ps_set (i := 7) sc_ba.nd rfl (Or.inl rfl) (pe_op op_modB (pe_op op_add (pe_op op_add (pv 6) pe_int) (pe_op op_modB (pe_op op_fdivB (pv 5) (pe_callB call_len_seq rfl m_len b_len (pac (pv 2) pa_nil))) (pe_op op_sub (pe_callB call_len_seq rfl m_len b_len (pac (pv 2) pa_nil)) pe_int))) (pe_callB call_len_seq rfl m_len b_len (pac (pv 2) pa_nil))))
   (pss_one (ps_expr (pe_bm PySem.F.plainAttrs_list PySem.F.slot_list_append PySem.F.type_list_append mt_append (pv 3) (pac (pe_tup (pac (pe_ix ix_list (pv 1) (pv 4) (fun _ _ => rfl)) (pac (pe_ix ix_list (pv 2) (pv 6) (fun _ _ => rfl)) (pac (pe_ix ix_list (pv 2) (pv 7) (fun _ _ => rfl)) pa_nil)))) pa_nil))))))))
  (pss_one (ps_ret (pv 3)))))), ?_⟩
 refine ⟨(by show 0 ≤ sizeLine; decide), ?_⟩
 intro lb nb; generalize eX : upd _ lb _ = H0; have ⟨sb, eb⟩ := nw nb eX; clear eX
 refine ⟨_, rfl, pA, _, rfl, .inl (SqL.of (sb _ _ hp)), _, _, rfl, rfl, _, rfl, ?_⟩
 refine ite2 (fun cc => ?_) (fun cc => ?_)
 ·exact ⟨_, rfl, q lb [] [] H0 sb nb eb .nil ⟨by simp, by simp⟩ (by simp)⟩
 have n2 : 2 ≤ pins.length := by
  have : ¬ ((us.length : Nat) : Int) < 2 := of_decide_eq_false (Bool.eq_false_iff.mpr cc)
  omega
 refine ⟨_, rfl, sA, ns, 8, rfl, sb.seq hS, hb, by decide, by decide, fun c1 b1 => ⟨_, _, rfl, rfl, nz (by decide), ?_⟩⟩
 have m9 := fmod_in (x := c1) (m := 9) (by decide)
 obtain ⟨N, eN⟩ : ∃ N : Nat, c1.fmod 9 = (N : Int) := ⟨(c1.fmod 9).toNat, by omega⟩
 refine ⟨(N : Int), (by show [V.int (c1.fmod 9)] = [V.int (N : Int)]; rw [eN]), by omega, by omega, for_range (lo := 0) (n := N) (fun i σ H' => ∃ (o4 o5 o6 o7 : Option V) (vs : List V) (bars : List BarD), σ = [some (.ref sA), some (.ref nA), some (.ref pA), some (.ref lb), o4, o5, o6, o7] ∧ Same H H' ∧ H' lb = some (.lst vs) ∧ Paired (fun v b => ∃ (a : Addr) (u1 u2 : V), v = .ref a ∧ SqT K H' a [.str b.nm, u1, u2] ∧ PinX K H pA u1 b.one ∧ PinX K H pA u2 b.other) vs bars ∧ GoodB pins bars ∧ (∀ b ∈ bars, b.nm ∈ xs.take i) ∧ bars.length = i) ⟨none, none, none, none, [], [], rfl, sb, eb, .nil, ⟨by simp, by simp⟩, by simp, rfl⟩ ?_ ?_⟩
 ·rintro i σ H1 hi ⟨o4, o5, o6, o7, vs, bars, rfl, s1, e1, pb, gb, nm, lb8⟩
  have ei : (0 : Int) + (i : Int) = (i : Int) := Int.zero_add _
  rw [ei]
  have i8 : i < 8 := by omega
  obtain ⟨mm1, mm2⟩ := mul_small (m := 37) (k := i) (by decide) (by omega)
  refine ⟨_, rfl, _, rfl, _, _, rfl, rfl, sA, ns, _, rfl, s1.seq hS, hb, by omega, by omega, fun c2 b2 => ?_⟩
  refine ⟨_, rfl, _, _, rfl, rfl, mm1, _, rfl, _, _, rfl, rfl, mm2, _, _, rfl, rfl, ?_⟩
  have hp1 := SqL.of (K := K) (s1 _ _ hp)
  have ln : ((us.length : Nat) : Int) = (pins.length : Int) := by rw [lu]
  have m1 := fmod_in (x := c2 + 37 * (i : Int) * (i : Int)) (m := (us.length : Int)) (by omega)
  refine ⟨_, rfl, _, rfl, pA, _, rfl, .inl hp1, _, _, rfl, rfl, nz (by omega), ?_⟩
  have m2 := fmod_in (x := (c2 + 37 * (i : Int) * (i : Int)).fdiv (us.length : Int)) (m := (us.length : Int) - 1) (by omega)
  have dn : CDivB (c2 + 37 * (i : Int) * (i : Int)) (us.length : Int) := ⟨by omega, Nat.le_trans (intBits_le_64 (by omega) (by omega)) (by decide)⟩
  refine ⟨_, rfl, _, _, rfl, rfl, _, rfl, _, rfl, pA, _, rfl, .inl hp1, _, _, rfl, rfl, dn, _, rfl, pA, _, rfl, .inl hp1, _, _, rfl, rfl, _, _, rfl, rfl, nz (by omega), _, _, rfl, rfl, _, rfl, pA, _, rfl, .inl hp1, _, _, rfl, rfl, nz (by omega), ?_⟩
  have en := ends_ne (c := c2 + 37 * (i : Int) * (i : Int)) (n := (us.length : Int)) (by omega) m2.1 m2.2
  have m3 := fmod_in (x := (c2 + 37 * (i : Int) * (i : Int)).fmod (us.length : Int) + 1 + ((c2 + 37 * (i : Int) * (i : Int)).fdiv (us.length : Int)).fmod ((us.length : Int) - 1)) (m := (us.length : Int)) (by omega)
  obtain ⟨j1, ej1⟩ : ∃ n : Nat, (c2 + 37 * (i : Int) * (i : Int)).fmod (us.length : Int) = (n : Int) := ⟨_, (Int.toNat_of_nonneg m1.1).symm⟩
  obtain ⟨j2, ej2⟩ : ∃ n : Nat, ((c2 + 37 * (i : Int) * (i : Int)).fmod (us.length : Int) + 1 + ((c2 + 37 * (i : Int) * (i : Int)).fdiv (us.length : Int)).fmod ((us.length : Int) - 1)).fmod (us.length : Int) = (n : Int) := ⟨_, (Int.toNat_of_nonneg m3.1).symm⟩
  rw [ej2] at m3
  rw [ej2, ej1] at en
  rw [ej1] at m1
  have l1 : j1 < us.length := by omega
  have l2 : j2 < us.length := by omega
  obtain ⟨q1, eq1, hq1⟩ := paired_get pp (gE l1)
  obtain ⟨q2, eq2, hq2⟩ := paired_get pp (gE l2)
  obtain ⟨x, hx⟩ : ∃ x, xs[i]? = some x := ⟨_, gE (by omega)⟩
  have lv : vs.length = bars.length := Paired.length pb
  refine ⟨_, rfl, .inl ⟨rfl, _, SqL.of e1⟩, _, rfl, _, rfl, nA, _, _, _, rfl, rfl, SqL.of (s1 _ _ hn), atI_nat (by rw [List.getElem?_map, hx]; rfl), ?_⟩
  refine ⟨_, rfl, _, rfl, pA, _, _, us[j1], rfl, rfl, hp1, (by rw [ej1]; exact atI_nat (gE l1)), ?_⟩
  refine ⟨_, rfl, _, rfl, pA, _, _, us[j2], rfl, rfl, hp1, (by rw [ej2]; exact atI_nat (gE l2)), (by show 3 ≤ sizeLine; decide), ?_⟩
  intro p9 n9; generalize eX : upd _ p9 _ = H9; have ⟨s9, e9⟩ := nw n9 eX; clear eX
  have e19 := s9 _ _ e1
  refine ⟨lb, _, _, rfl, rfl, e19, (by rw [lv]; exact Nat.lt_of_le_of_lt (show bars.length ≤ 1000 by omega) (by decide)), ?_⟩
  have xt : x ∉ xs.take i := fun z => by
   have := take_new (nm := id) (by rw [List.map_id]; exact nx) hx z
   exact this rfl
  have t9 : SameT H9 (upd H9 lb (.lst (vs ++ [.ref p9]))) := .list e19
  refine ⟨_, _, _, _, _, bars ++ [⟨x, q1, q2⟩], rfl, fun b o z => ?_, upd_same, paired_snoc (Paired.mapP pb fun v b z => ?_) ⟨p9, _, _, rfl, t9.seqT (SqT.of e9), hq1, hq2⟩, gb.snoc (fun z => ?_) ⟨List.mem_of_getElem? eq1, List.mem_of_getElem? eq2, names_new np eq1 eq2 (fun z => en (by rw [z]))⟩, fun p hp => ?_, by simp; omega⟩
  ·rw [upd_ne (ne_of_none z nb)]
   exact s9 _ _ (s1 _ _ z)
  ·obtain ⟨a, u1, u2, ea, h1, h2, h3⟩ := z
   exact ⟨a, u1, u2, ea, t9.seqT (Ty.Same.seqT s9 h1), h2, h3⟩
  ·obtain ⟨p, hp, ep'⟩ := List.mem_map.mp z
   exact xt ((show p.nm = x from ep') ▸ nm p hp)
  ·rw [take_snoc hx]
   rcases List.mem_append.mp hp with z | z
   ·exact List.mem_append_left _ (nm p z)
   ·rw [List.mem_singleton.mp z]
    simp
 ·rintro σ H1 ⟨o4, o5, o6, o7, vs, bars, rfl, s1, e1, pb, gb, nm, lb8⟩
  refine ⟨_, rfl, q lb vs bars H1 s1 nb e1 (Paired.mapP pb fun v b z => ?_) gb (by omega)⟩
  obtain ⟨a, u1, u2, ea, h1, h2, h3⟩ := z
  exact ⟨a, u1, u2, ea, h1, h2.same s1, h3.same s1⟩
theorem no_ways (v : V) : List.lookup ("ways" : Str) [(("way" : Str), v)] = none := by
 have h : (("ways" : Str) == "way") = false := by decide +kernel
 simp [List.lookup, h]
theorem goodF {pins : List PinD} {bars : List BarD} (g : GoodP pins) (b : GoodB pins bars) (lp : pins.length ≤ 6) (lb : bars.length ≤ 8) : GoodF pins bars :=
 ⟨g.np, b.nb, b.ends, fun p hp => ⟨(g.sz p hp).1, (g.sz p hp).2, (g.ws p hp).sz⟩, lp, lb, fun p hp => (g.ws p hp).len⟩
def spPutPinL (K : Frag) (C : Addr) : Sp := fun vs H Q _ => ∃ (a dx pP pW pB d : Addr) (pins : List PinD) (bs : List (Str × Str × Str)) (kP kW kB : List (Key × V)) (v : V) (p : PinD), vs = [.ref a, v] ∧ FrR K H C a dx pP pW pB (mpP pins) bs kP kW kB ∧ WyR K H (mpW pins) kW ∧ PinX K H d v p ∧ p.nm ∉ pins.map (·.nm) ∧ p.sp ∉ pins.map (·.sp) ∧ pins.length < 24 ∧ WaysOk p.ws ∧
 ∀ (H' : Hp) (kP' kW' : List (Key × V)), (∀ b o, b ≠ pP → b ≠ pW → H b = some o → H' b = some o) → FrR K H' C a dx pP pW pB (mpP (pins ++ [p])) bs kP' kW' kB → WyR K H' (mpW (pins ++ [p])) kW' → (∃ l, kW' = kW ++ [(.inr p.nm, .ref l)] ∧ H l = none) → Q .non H'
theorem sc_ae : FnScope ["_law_frame_here", "_law_pin", "_law_name", "_law_spot", "_law_ways_here", "_law_hold"] ["_law_frame_here", "_law_pin"] (defScope s_ae) := sq
theorem ok_ae {C CH CR CF fR : Addr} {fdR : FuncData} (D : Def K mg "_law_put_pin" s_ae ["_law_frame_here", "_law_pin"]) (m_len : mg "len" = none)
  (m_Hold : mg "Hold" = some (.ref CH)) (m_Roller : mg "Roller" = some (.ref CR)) (m_Fixed : mg "Fixed" = some (.ref CF)) (M_Hold : Mk0 K CH) (M_Fixed : Mk0 K CF) (M_Roller : Mk K CR fR) (G_ah : FnOk P w K mg base (CXr P w) 1 fR fdR ["self", "x", "y"] (spRInit K CR)) (b_ah : Binds K fdR ["self", "x", "y"] [])
  (wH : MtdOk P w K mg base (CXr P w) 2 CH "ways" ["self"] (spHold K)) (wR : MtdOk P w K mg base (CXr P w) 2 CR "ways" ["self"] (spRWays K CR)) (wF : MtdOk P w K mg base (CXr P w) 2 CF "ways" ["self"] (spFixed K))
  (MPp : MtdOk P w K mg base (CXr P w) 3 C "put_pin" ["self", "name", "x", "y", "hold"] (spPutPinW P w K mg base C)) :
  Fn P w K mg base (CXr P w) 4 "_law_put_pin" ["_law_frame_here", "_law_pin"] (spPutPinL K C) := by
 refine D.ok sc_ae (fun vs H Q E h => ?_) (fun f cdv A outer s H vs Q E hr h => ?_)
 ·obtain ⟨a, dx, pP, pW, pB, d, pins, bs, kP, kW, kB, v, p, rfl, _⟩ := h
  rfl
 obtain ⟨a, dx, pP, pW, pB, d, pins, bs, kP, kW, kB, v, p, rfl, R, W, hpr, hnm, hsp', hl, wk, q⟩ := h
 obtain ⟨ta, l, sv, ws, rfl, h1, h2, h3, h4, _⟩ := hpr
 obtain ⟨sa, x1, y1, rfl, hsq, hn1, hn2⟩ := h2
 refine ⟨_, (pss_cons (ps_asg (pv 1) (pg_tup rfl (pgs_cons (pg_name (i := 2) sc_ae.nd rfl (Or.inl rfl)) (pgs_cons (pg_name (i := 3) sc_ae.nd rfl (Or.inl rfl)) (pgs_cons (pg_name (i := 4) sc_ae.nd rfl (Or.inl rfl)) pgs_nil)))))
  (pss_cons (ps_set (i := 5) sc_ae.nd rfl (Or.inl rfl) (pe_mk0 M_Hold rfl m_Hold))
  (pss_cons (ps_if (pt_cmpR op_eq (pe_callB call_len_seq rfl m_len b_len (pac (pv 4) pa_nil)) pe_int (nomark _)) (pss_one (ps_set (i := 5) sc_ae.nd rfl (Or.inl rfl) (pe_make M_Roller G_ah hr.mo rfl m_Roller b_ah .nil (pY P w) (pac (pe_tx (pe_lx (pv 4))) (pac (pe_tx (pe_lx (pv 4))) pa_nil))))) pss_nil)
  (pss_cons (ps_if (pt_cmpR op_eq (pe_callB call_len_seq rfl m_len b_len (pac (pv 4) pa_nil)) pe_int (nomark _)) (pss_one (ps_set (i := 5) sc_ae.nd rfl (Or.inl rfl) (pe_mk0 M_Fixed rfl m_Fixed))) pss_nil)
  (pss_one (ps_expr (pe_mtd (k := 3) (pv 0) hr.mo (pY P w) (pac (pv 2) (pac (pe_tx (pv 3)) (pac (pe_tx (pv 3)) (pac (pv 5) pa_nil))))))))))), ?_⟩
 refine ⟨_, rfl, ta, _, rfl, h1, rfl, _, _, rfl, _, _, rfl, _, _, rfl, rfl, ?_⟩
 have fin : ∀ (h Ch dxh : Addr) (fsh : List (Str × V)) (psh : List Str) (sph : Sp) (H5 : Hp) (Q5 : VK) (E5 : XK), Same H H5 → H5 h = some (.ins Ch dxh fsh) → fsh.lookup ("ways" : Str) = none → MtdOk P w K mg base (CXr P w) 2 Ch "ways" psh sph → (∀ H1, H1 h = some (.ins Ch dxh fsh) → SameT H5 H1 → ∀ Q', AnsR K H1 Q' p.ws → sph [.ref h] H1 Q' E0) →
   (∀ H' kP' kW', (∀ b o, b ≠ pP → b ≠ pW → H b = some o → H' b = some o) → FrR K H' C a dx pP pW pB (mpP (pins ++ [p])) bs kP' kW' kB → WyR K H' (mpW (pins ++ [p])) kW' → (∃ l, kW' = kW ++ [(.inr p.nm, .ref l)] ∧ H l = none) → Q5 .non H') → spPutPinW P w K mg base C [.ref a, .str p.nm, x1, y1, .ref h] H5 Q5 E5 := fun h Ch dxh fsh psh sph H5 Q5 E5 s5 eh hlk MH hsp fin => by
  refine ⟨a, dx, pP, pW, pB, _, _, kP, kW, _, _, p.nm, x1, y1, .ref h, ptQ p.sp, h, Ch, dxh, fsh, psh, sph, p.ws, rfl, R.same s5, W.same s5, by rw [List.map_map, List.map_map]; rfl, hn1.same s5, hn2.same s5, fun z => hnm ?_, fun z hz e => hsp' ?_, ?_, rfl, eh, hlk, MH, hsp, fun H' kP' kW' k' R' W' l' => fin H' kP' kW' (fun b o n1 n2 z => k' b o n1 n2 (s5 _ _ z)) ?_ ?_ ?_⟩
  ·rw [List.map_map] at z
   exact z
  ·obtain ⟨p', hp', e'⟩ := List.mem_map.mp hz
   rw [← e'] at e
   have e3 : p'.sp = p.sp := Prod.ext (qr_inj (congrArg Prod.fst e)) (qr_inj (congrArg Prod.snd e))
   exact List.mem_map.mpr ⟨p', hp', e3⟩
  ·rw [List.length_map]
   exact hl
  ·rw [mpP_app]
   exact R'
  ·rw [mpW_app]
   exact W'
  ·obtain ⟨l', e1, e2⟩ := l'
   exact ⟨l', e1, none_back s5 e2⟩
 intro h0 d0 nh0 nd0 ne0
 have s3 : Same H (upd (upd H d0 (.own h0)) h0 (.ins CH d0 [])) := fun b o e => by rw [upd_ne (ne_of_none e nh0), upd_ne (ne_of_none e nd0)]; exact e
 have e3 : (upd (upd H d0 (.own h0)) h0 (.ins CH d0 [])) h0 = some (.ins CH d0 []) := upd_same
 generalize upd (upd H d0 (.own h0)) h0 (.ins CH d0 []) = H3 at s3 e3 ⊢
 have R3 := R.same s3
 have l3 := SqL.of (K := K) (s3 _ _ h3)
 have lw : ws.length = p.ws.length := Paired.length h4
 have hsq3 := Ty.Same.seqT s3 hsq
 refine ⟨_, rfl, l, _, rfl, .inl l3, rfl, _, rfl, ?_⟩
 rcases wk with hw | ⟨wx, wy, hw, wn, _, _⟩ | hw
 ·rw [hw] at lw
  refine ite2 (fun c => by rw [lw] at c; simp at c) (fun _ => ?_)
  refine ⟨_, rfl, l, _, rfl, .inl l3, rfl, _, rfl, ?_⟩
  refine ite2 (fun c => by rw [lw] at c; simp at c) (fun _ => ?_)
  refine ⟨_, rfl, a, C, dx, _, _, _, rfl, R3.obj, rfl, MPp, _, rfl, _, rfl, sa, _, _, _, rfl, rfl, hsq3, at0, _, rfl, sa, _, _, _, rfl, rfl, hsq3, at1, _, rfl, ?_⟩
  dsimp only [tNil]
  refine fin h0 CH d0 [] ["self"] (spHold K) H3 _ _ s3 e3 rfl wH (fun H6 _ _ Q' an => ⟨h0, rfl, by rw [hw] at an; exact an⟩) fun H' kP' kW' k' R' W' l' => q H' kP' kW' k' R' W' l'
 ·rw [hw] at lw h4
  obtain ⟨w0, rfl⟩ : ∃ w0, ws = [w0] := by
   match ws, lw with
   | [w0], _ => exact ⟨w0, rfl⟩
  have hw0 : PtR K H w0 (wx, wy) := by
   cases h4 with
   | cons h _ => exact h
  obtain ⟨wa, y2, y3, rfl, hsw, hm1, hm2⟩ := hw0.same s3
  refine ite2 (fun _ => ?_) (fun c => absurd rfl c)
  refine ⟨_, rfl, l, _, _, _, rfl, rfl, l3, rfl, wa, _, _, _, rfl, rfl, hsw, at0, _, rfl, l, _, _, _, rfl, rfl, l3, rfl, wa, _, _, _, rfl, rfl, hsw, at1, ?_⟩
  intro h1' d1 nh1 nd1 ne1
  have s4 : Same H3 (upd (upd H3 d1 (.own h1')) h1' (.ins CR d1 [])) := fun b o e => by rw [upd_ne (ne_of_none e nh1), upd_ne (ne_of_none e nd1)]; exact e
  have e4 : (upd (upd H3 d1 (.own h1')) h1' (.ins CR d1 [])) h1' = some (.ins CR d1 []) := upd_same
  generalize upd (upd H3 d1 (.own h1')) h1' (.ins CR d1 []) = H4 at s4 e4 ⊢
  refine ⟨h1', d1, y2, y3, wx, wy, rfl, e4, hm1.same s4, hm2.same s4, wn, fun p5 n5 => ⟨rfl, ?_⟩⟩
  have hne : p5 ≠ h1' := fun z => by rw [z, e4] at n5; cases n5
  have s5 : Same H3 (upd (upd H4 p5 (.tup [y2, y3])) h1' (.ins CR d1 [("way", .ref p5)])) := fun b o e => by
   have z : b ≠ h1' := fun z => by rw [z, nh1] at e; cases e
   rw [upd_ne z]
   exact same_new n5 _ _ _ (s4 _ _ e)
  have e5 : (upd (upd H4 p5 (.tup [y2, y3])) h1' (.ins CR d1 [("way", .ref p5)])) h1' = some (.ins CR d1 [("way", .ref p5)]) := upd_same
  have t5 : (upd (upd H4 p5 (.tup [y2, y3])) h1' (.ins CR d1 [("way", .ref p5)])) p5 = some (.tup [y2, y3]) := by rw [upd_ne hne, upd_same]
  generalize upd (upd H4 p5 (.tup [y2, y3])) h1' (.ins CR d1 [("way", .ref p5)]) = H5 at s5 e5 t5 ⊢
  have l5 := SqL.of (K := K) (s5 _ _ (s3 _ _ h3))
  have R5 := R3.same s5
  have hsq5 := Ty.Same.seqT s5 hsq3
  have hway : PtR K H5 (.ref p5) (wx, wy) := pt_of t5 (hm1.same s5) (hm2.same s5)
  refine ⟨_, rfl, l, _, rfl, .inl l5, rfl, _, rfl, ?_⟩
  refine ite2 (fun c => by simp at c) (fun _ => ?_)
  refine ⟨_, rfl, a, C, dx, _, _, _, rfl, R5.obj, rfl, MPp, _, rfl, _, rfl, sa, _, _, _, rfl, rfl, hsq5, at0, _, rfl, sa, _, _, _, rfl, rfl, hsq5, at1, _, rfl, ?_⟩
  dsimp only [tNil]
  refine fin h1' CR d1 _ ["self"] (spRWays K CR) H5 _ _ (sm_tr s3 s5) e5 (no_ways _) wR (fun H6 e6 t6 Q' an => ⟨h1', d1, p5, (wx, wy), rfl, e6, hway.sameT t6, by rw [hw] at an; exact an⟩) fun H' kP' kW' k' R' W' l' => q H' kP' kW' k' R' W' l'
 ·rw [hw] at lw
  refine ite2 (fun c => by rw [lw] at c; simp at c) (fun _ => ?_)
  refine ⟨_, rfl, l, _, rfl, .inl l3, rfl, _, rfl, ?_⟩
  refine ite2 (fun _ => ?_) (fun c => by rw [lw] at c; simp at c)
  intro h1' d1 nh1 nd1 ne1
  have s4 : Same H3 (upd (upd H3 d1 (.own h1')) h1' (.ins CF d1 [])) := fun b o e => by rw [upd_ne (ne_of_none e nh1), upd_ne (ne_of_none e nd1)]; exact e
  have e4 : (upd (upd H3 d1 (.own h1')) h1' (.ins CF d1 [])) h1' = some (.ins CF d1 []) := upd_same
  generalize upd (upd H3 d1 (.own h1')) h1' (.ins CF d1 []) = H4 at s4 e4 ⊢
  have R4 := R3.same s4
  have hsq4 := Ty.Same.seqT s4 hsq3
  refine ⟨_, rfl, a, C, dx, _, _, _, rfl, R4.obj, rfl, MPp, _, rfl, _, rfl, sa, _, _, _, rfl, rfl, hsq4, at0, _, rfl, sa, _, _, _, rfl, rfl, hsq4, at1, _, rfl, ?_⟩
  dsimp only [tNil]
  refine fin h1' CF d1 [] ["self"] (spFixed K) H4 _ _ (sm_tr s3 s4) e4 rfl wF (fun H6 _ _ Q' an => ⟨h1', rfl, by rw [hw] at an; exact an⟩) fun H' kP' kW' k' R' W' l' => q H' kP' kW' k' R' W' l'
def spFrameL (K : Frag) (C : Addr) : Sp := fun vs H Q _ => ∃ (pA bA : Addr) (us vs' : List V) (pins : List PinD) (bars : List BarD), vs = [.ref pA, .ref bA] ∧ H pA = some (.lst us) ∧ Paired (PinX K H pA) us pins ∧ H bA = some (.lst vs') ∧ Paired (BarR K H pA) vs' bars ∧ GoodP pins ∧ GoodB pins bars ∧ pins.length ≤ 6 ∧ bars.length ≤ 8 ∧
 ∀ (a dx pP pW pB : Addr) (H' : Hp), Same H H' → FrB K H' C a dx pP pW pB pA pins bars → Q (.ref a) H'
theorem sc_ax : FnScope ["_law_pins_here", "_law_bars_here", "_law_frame_here", "_law_pin", "_law_name", "_law_one", "_law_other"] ["_law_pins_here", "_law_bars_here"] (defScope s_ax) := sq
theorem ok_ax {C fI : Addr} {fdI : FuncData} (D : Def K mg "_law_frame" s_ax ["_law_pins_here", "_law_bars_here"]) (M_Frame : Mk K C fI) (m_Frame : mg "Frame" = some (.ref C)) (G_ao : FnOk P w K mg base (CXr P w) 1 fI fdI ["self"] (spFInit K C)) (b_ao : Binds K fdI ["self"] [])
  (G_ae : Fn P w K mg base (CXr P w) 4 "_law_put_pin" ["_law_frame_here", "_law_pin"] (spPutPinL K C)) (MPb : MtdOk P w K mg base (CXr P w) 3 C "put_bar" ["self", "name", "one", "other"] (spPutBar K C)) :
  Fn P w K mg base (CXr P w) 5 "_law_frame" ["_law_pins_here", "_law_bars_here"] (spFrameL K C) := by
 refine D.ok sc_ax (fun vs H Q E h => ?_) (fun f cdv A outer s H vs Q E hr h => ?_)
 ·obtain ⟨pA, bA, us, vs', pins, bars, rfl, _⟩ := h
  rfl
 obtain ⟨pA, bA, us, vs', pins, bars, rfl, hp, pp, hb, pb, gp, gb, lp6, lb8, q⟩ := h
 have lu : us.length = pins.length := Paired.length pp
 have lv : vs'.length = bars.length := Paired.length pb
 refine ⟨_, (pss_cons (ps_set (i := 2) sc_ax.nd rfl (Or.inl rfl) (pe_make0 M_Frame G_ao hr.mo rfl m_Frame b_ao .nil (pY P w)))
  (pss_cons (ps_for PassesOwn.never rfl (pi_list (pv 0)) (pg_name (i := 3) sc_ax.nd rfl (Or.inl rfl)) (pss_one (ps_expr (pe_fn G_ae hr.mo (pY P w) (pac (pv 2) (pac (pv 3) pa_nil))))))
  (pss_cons (ps_for PassesOwn.never rfl (pi_list (pv 1)) (pg_tup rfl (pgs_cons (pg_name (i := 4) sc_ax.nd rfl (Or.inl rfl)) (pgs_cons (pg_name (i := 5) sc_ax.nd rfl (Or.inl rfl)) (pgs_cons (pg_name (i := 6) sc_ax.nd rfl (Or.inl rfl)) pgs_nil)))) (pss_one (ps_expr (pe_mtd (k := 3) (pv 2) hr.mo (pY P w) (pac (pv 4) (pac (pe_tx (pv 5)) (pac (pe_tx (pv 6)) pa_nil)))))))
  (pss_one (ps_ret (pv 2)))))), ?_⟩
 intro a dx na ndx nad
 have sF : Same H (upd (upd H dx (.own a)) a (.ins C dx [])) := fun b o e => by rw [upd_ne (ne_of_none e na), upd_ne (ne_of_none e ndx)]; exact e
 refine ⟨a, dx, rfl, upd_same, fun pP pW pB H1 k1 nP nW nB R1 => ⟨rfl, ?_⟩⟩
 have s1 : Same H H1 := fun b o e => k1 b o (ne_of_none e na) (sF _ _ e)
 have nP := none_back sF nP
 have nW := none_back sF nW
 have nB := none_back sF nB
 refine ⟨_, rfl, pA, rfl, ⟨_, SqL.of (s1 _ _ hp)⟩, for_list (K := K) (a := pA) (xs := us) (fun i σ H' => ∃ (o3 : Option V) (kP kW : List (Key × V)), σ = [some (.ref pA), some (.ref bA), some (.ref a), o3, none, none, none] ∧ Same H H' ∧ FrR K H' C a dx pP pW pB (mpP (pins.take i)) [] kP kW [] ∧ WyR K H' (mpW (pins.take i)) kW ∧ ∀ kv ∈ kW, kv.2 ≠ .ref pA) ⟨none, [], [], rfl, s1, R1, .nil, fun kv h => nomatch h⟩ (fun i σ H' _ h => by
   obtain ⟨_, _, _, _, s, _⟩ := h
   exact SqL.of (s _ _ hp)) ?_ ?_⟩
 ·rintro i u σ H2 hu ⟨o3, kP, kW, rfl, s2, R2, W2, n2⟩
  obtain ⟨p, ep, hpr⟩ := paired_get pp hu
  have mp : p ∈ pins := List.mem_of_getElem? ep
  have tk := take_snoc ep
  have il : i < pins.length := (List.getElem?_eq_some_iff.mp ep).1
  refine ⟨_, rfl, _, rfl, a, dx, pP, pW, pB, pA, pins.take i, [], kP, kW, [], u, p, rfl, R2, W2, hpr.same s2, fun z => ?_, fun z => ?_, ?_, gp.ws p mp, fun H' kP' kW' k' R' W' l' => ?_⟩
  ·obtain ⟨p', hp', e'⟩ := List.mem_map.mp z
   exact take_new (nm := PinD.nm) gp.np ep hp' e'
  ·obtain ⟨p', hp', e3⟩ := List.mem_map.mp z
   obtain ⟨j, hj, ej⟩ := List.mem_iff_getElem.mp hp'
   rw [List.getElem_take] at ej
   rw [List.length_take] at hj
   have q1 : (pins.map (·.sp))[j]? = some p.sp := by rw [List.getElem?_map, gE (by omega), ej, ← e3]; rfl
   have q2 : (pins.map (·.sp))[i]? = some p.sp := by rw [List.getElem?_map, ep]; rfl
   have := (List.getElem?_inj (by rw [List.length_map]; omega) gp.ns).mp (q1.trans q2.symm)
   omega
  ·rw [List.length_take]
   omega
  ·obtain ⟨l, rfl, nl⟩ := l'
   refine ⟨_, kP', _, rfl, fun b o z => k' b o (ne_of_none z nP) (ne_of_none z nW) (s2 _ _ z), by rw [tk]; exact R', by rw [tk]; exact W', fun kv h => ?_⟩
   rcases List.mem_append.mp h with h | h
   ·exact n2 kv h
   ·rw [List.mem_singleton.mp h]
    intro z
    cases z
    have := s2 _ _ hp
    rw [nl] at this
    cases this
 ·rintro σ H2 ⟨o3, kP, kW, rfl, s2, R2, W2, n2⟩
  rw [lu, List.take_length] at R2 W2
  refine ⟨_, rfl, bA, rfl, ⟨_, SqL.of (s2 _ _ hb)⟩, for_list (K := K) (a := bA) (xs := vs') (fun i σ H' => ∃ (o4 o7 o8 : Option V) (kB : List (Key × V)), σ = [some (.ref pA), some (.ref bA), some (.ref a), o3, o4, o7, o8] ∧ Same H H' ∧ FrR K H' C a dx pP pW pB (mpP pins) (mpB (bars.take i)) kP kW kB ∧ WyR K H' (mpW pins) kW) ⟨none, none, none, [], rfl, s2, R2, W2⟩ (fun i σ H' _ h => by
    obtain ⟨_, _, _, _, _, s, _⟩ := h
    exact SqL.of (s _ _ hb)) ?_ ?_⟩
  ·rintro i u σ H3 hu ⟨o4, o7, o8, kB, rfl, s3, R3, W3⟩
   obtain ⟨b, ebr, hbr⟩ := paired_get pb hu
   have mb : b ∈ bars := List.mem_of_getElem? ebr
   obtain ⟨ta, u1, u2, rfl, h1, ⟨a1, l1, sv1, us1, rfl, h11, _⟩, ⟨a2, l2, sv2, us2, rfl, h21, _⟩⟩ := hbr.same s3
   obtain ⟨m1, m2, m3⟩ := gb.ends b mb
   have tk := take_snoc ebr
   have il : i < bars.length := (List.getElem?_eq_some_iff.mp ebr).1
   refine ⟨ta, _, rfl, h1, rfl, _, _, rfl, _, _, rfl, _, _, rfl, rfl, ?_⟩
   refine ⟨_, rfl, a, C, dx, _, _, _, rfl, R3.obj, rfl, MPb, _, rfl, _, rfl, a1, _, _, _, rfl, rfl, h11, rfl, _, rfl, a2, _, _, _, rfl, rfl, h21, rfl, ?_⟩
   refine ⟨a, dx, pP, pW, pB, _, _, kP, kW, kB, b.nm, b.one.nm, b.other.nm, rfl, R3, fun z => ?_, ?_, ?_, m3, ?_, fun H' kB' k' R' => ?_⟩
   ·rw [List.map_map] at z
    obtain ⟨b', hb', e'⟩ := List.mem_map.mp z
    exact take_new (nm := BarD.nm) gb.nb ebr hb' e'
   ·rw [List.map_map]
    exact List.mem_map.mpr ⟨_, m1, rfl⟩
   ·rw [List.map_map]
    exact List.mem_map.mpr ⟨_, m2, rfl⟩
   ·rw [List.length_map, List.length_take]
    omega
   ·refine ⟨_, _, _, kB', rfl, fun c o z => k' c o (ne_of_none z nB) (s3 _ _ z), ?_, wy_ks W3 k' R3.br⟩
    rw [tk, mpB_app]
    exact R'
  ·rintro σ H3 ⟨o4, o7, o8, kB, rfl, s3, R3, W3⟩
   rw [lv, List.take_length] at R3
   exact ⟨_, rfl, q a dx pP pW pB H3 s3 ⟨kP, kW, kB, R3, W3, n2⟩⟩
theorem k_dd : PySem.W.kitOne K (.type "dict") (.type "dict") = some true := by unfold PySem.W.kitOne; rw [if_pos (by decide)]
theorem iss_strs {K : Frag} {H : Hp} : ∀ ws : List Str, Iss K H (ws.map fun w => Da.v (.str w)) (ws.map V.str)
 | [] => by unfold Iss; trivial
 | w :: ws => by
  rw [List.map_cons, List.map_cons]
  unfold Iss
  refine ⟨?_, iss_strs ws⟩
  unfold Is
  exact ⟨rfl, rfl⟩
theorem strs_eq : ∀ ws : List Str, eqDas (ws.map fun w => Da.v (.str w)) (ws.map fun w => Da.v (.str w)) = true
 | [] => by simp [eqDas]
 | w :: ws => by
  rw [List.map_cons]
  unfold eqDas
  rw [strs_eq ws]
  simp [eqDa, eqV]
theorem strs_al : ∀ ws : List Str, alikes (ws.map fun w => Da.v (.str w)) (ws.map fun w => Da.v (.str w)) = true
 | [] => by simp [alikes]
 | w :: ws => by
  rw [List.map_cons]
  unfold alikes
  rw [strs_al ws]
  simp [alike]
theorem strs_dep : ∀ ws : List Str, deps (ws.map fun w => Da.v (.str w)) ≤ 60
 | [] => by simp [deps]
 | w :: ws => by
  rw [List.map_cons]
  unfold deps
  have := strs_dep ws
  simp only [dep]
  omega
theorem ne_strs {K : Frag} {H : Hp} {p p2 : Addr} {ws : List Str} {Q : VK} (e1 : H p = some (.lst (ws.map V.str))) (e2 : H p2 = some (.lst (ws.map V.str))) (q : Q (.bl false) H) : rNeDa K (.ref p) (.ref p2) H Q := by
 refine ⟨ws.map fun w => Da.v (.str w), ws.map fun w => Da.v (.str w), .inr ⟨?_, ?_⟩, strs_al ws, strs_dep ws, by rw [strs_eq]; exact q⟩
 ·unfold Is
  exact ⟨p, _, rfl, SqL.of e1, iss_strs ws⟩
 ·unfold Is
  exact ⟨p2, _, rfl, SqL.of e2, iss_strs ws⟩
theorem at_hd {v : V} {r : List V} : atI (v :: r) 0 = some v := by
 exact atI_nat (xs := v :: r) (j := 0) rfl
theorem nms_comp {α : Type} {nm : α → Str} {Rl : V → α → Prop} {σ : L2.St} {o : Option V} {H : Hp} {pA : Addr} {us : List V} {zs : List α} {R : VK} (hp : H pA = some (.lst us)) (pp : Paired Rl us zs) (hr : ∀ v z, Rl v z → ∃ a r, v = .ref a ∧ SqT K H a (.str (nm z) :: r)) (l : zs.length ≤ 1000) (k : ∀ (D : Addr) (H' : Hp), Same H H' → H' D = some (.lst ((zs.map nm).map V.str)) → R (.ref D) H') :
  tComp 1 [] (iList K (tVar 1)) (gName 0) tYes (tOp (rIxT K) (tVar 0) (tC (V.int 0))) (o :: some (.ref pA) :: σ) H R := by
 have lu : us.length = zs.length := Paired.length pp
 refine ⟨_, rfl, pA, rfl, ⟨_, SqL.of hp⟩, fun D1 n1 => ?_⟩
 refine comp_list (cap := []) (K := K) (a := pA) (xs := us) (fun i v _ => ∃ p, zs[i]? = some p ∧ v = .str (nm p)) n1 (by rw [lu]; exact Nat.lt_of_le_of_lt l (by decide)) (fun H2 s2 => SqL.of (s2 _ _ hp)) (fun _ _ _ _ _ _ _ h => h) ?_ ?_
 ·intro i u H2 R hu s2 k
  obtain ⟨p, ep, hpr⟩ := paired_get pp hu
  obtain ⟨a, r, rfl, h1⟩ := hr _ _ hpr
  exact ⟨_, rfl, a, _, _, _, rfl, rfl, Ty.Same.seqT s2 h1, at_hd, k _ _ (Same.refl _) ⟨p, ep, rfl⟩⟩
 ·intro ys H2 hy hrel s2 hD
  refine k D1 H2 s2 ?_
  rw [hD]
  congr 2
  refine List.ext_getElem? fun i => ?_
  rw [List.map_map, List.getElem?_map]
  by_cases c : i < ys.length
  ·obtain ⟨p, e1, e2⟩ := hrel i ys[i] (gE c)
   rw [gE c, e1, e2]
   rfl
  ·rw [List.getElem?_eq_none (by omega), List.getElem?_eq_none (by omega)]
   rfl
theorem keys_nms {α : Type} {nm : α → Str} {kM : List (Key × V)} {zs : List α} (h : kM.map (·.1) = zs.map (fun p => (Sum.inr (nm p) : Key))) : (kM.map fun kv => kV kv.1) = (zs.map nm).map V.str := by
 have : (kM.map fun kv => kV kv.1) = (kM.map (·.1)).map kV := by rw [List.map_map]; rfl
 rw [this, h, List.map_map, List.map_map]
 rfl
theorem PinX.nm {H : Hp} {d : Addr} {v : V} {p : PinD} (h : PinX K H d v p) : ∃ a r, v = .ref a ∧ SqT K H a (.str p.nm :: r) := by
 obtain ⟨a, l, sv, us, e, h1, _⟩ := h
 exact ⟨a, _, e, h1⟩
def RowR (K : Frag) (H : Hp) (u : V) (r : Str × V) : Prop := ∃ a, u = .ref a ∧ SqT K H a [.str r.1, r.2]
theorem RowR.same {K : Frag} {H H' : Hp} {u : V} {r : Str × V} (h : RowR K H u r) (s : Same H H') : RowR K H' u r := by
 obtain ⟨a, e, h⟩ := h
 exact ⟨a, e, Ty.Same.seqT s h⟩
def hdd (rows : List (Str × V)) : List (Key × V) := (rows.filter fun r => !decide (r.2 = V.non)).map fun r => ((Sum.inr r.1 : Key), r.2)
def turnB (b : Bool) (rows : List (Str × V)) : List (Str × V) := if b then rows.reverse else rows
theorem hdd_snoc {rows : List (Str × V)} {r : Str × V} : hdd (rows ++ [r]) = hdd rows ++ (if r.2 = V.non then [] else [(Sum.inr r.1, r.2)]) := by
 unfold hdd
 rw [List.filter_append, List.map_append]
 by_cases c : r.2 = V.non
 ·rw [if_pos c, List.filter_cons_of_neg (by simp [c])]
  rfl
 ·rw [if_neg c, List.filter_cons_of_pos (by simp [c])]
  rfl
theorem hdd_keys {rows : List (Str × V)} {x : Str} (h : (Sum.inr x : Key) ∈ (hdd rows).map (·.1)) : x ∈ rows.map (·.1) := by
 obtain ⟨kv, h1, h2⟩ := List.mem_map.mp h
 obtain ⟨r, h3, h4⟩ := List.mem_map.mp h1
 rw [← h4] at h2
 have e : r.1 = x := Sum.inr.inj h2
 exact List.mem_map.mpr ⟨r, (List.mem_filter.mp h3).1, e⟩
theorem hdd_len {rows : List (Str × V)} : (hdd rows).length ≤ rows.length := by
 unfold hdd
 rw [List.length_map]
 exact List.length_filter_le _ _
theorem paired_rev {α β : Type} {F : α → β → Prop} {l₁ : List α} {l₂ : List β} (h : Paired F l₁ l₂) : Paired F l₁.reverse l₂.reverse := by
 have e := Paired.length h
 refine paired_of (by rw [List.length_reverse, List.length_reverse, e]) fun i a b e1 e2 => ?_
 have i1 : i < l₁.reverse.length := (List.getElem?_eq_some_iff.mp e1).1
 rw [List.length_reverse] at i1
 rw [List.getElem?_reverse i1] at e1
 rw [List.getElem?_reverse (by omega)] at e2
 obtain ⟨b', eb, h'⟩ := paired_get h e1
 rw [e] at eb
 rw [e2] at eb
 cases eb
 exact h'
def spHanded (K : Frag) : Sp := fun vs H Q _ => ∃ (l : Addr) (b : Bool) (us : List V) (rows : List (Str × V)), vs = [.ref l, .bl b] ∧ H l = some (.lst us) ∧ Paired (RowR K H) us rows ∧ (rows.map (·.1)).Nodup ∧ rows.length ≤ 8 ∧
 ∀ (e : Addr) (H' : Hp), Same H H' → H e = none → H' e = some (.dK (hdd (turnB b rows))) → Q (.ref e) H'
theorem sc_ak : FnScope ["_law_rows", "_law_about", "_law_found", "_law_name", "_law_thing"] ["_law_rows", "_law_about"] (defScope s_ak) := sq
theorem ok_ak (D : Def K mg "_law_handed" s_ak ["_law_rows", "_law_about"]) : Fn P w K mg base (CXr P w) 1 "_law_handed" ["_law_rows", "_law_about"] (spHanded K) := by
 refine D.ok sc_ak (fun vs H Q E h => ?_) (fun f cdv A outer s H vs Q E hr h => ?_)
 ·obtain ⟨l, b, us, rows, rfl, _⟩ := h
  rfl
 obtain ⟨l, b, us, rows, rfl, hl, pr, nd, lr, q⟩ := h
 have nd' : ((turnB b rows).map (·.1)).Nodup := by
  unfold turnB
  cases b
  ·exact nd
  ·rw [if_pos rfl, List.map_reverse]
   exact (List.reverse_perm _).nodup_iff.mpr nd
 have lr' : (turnB b rows).length ≤ 8 := by
  unfold turnB
  cases b
  ·exact lr
  ·rw [if_pos rfl, List.length_reverse]
   exact lr
 refine ⟨_, (pss_cons (ps_set (i := 2) sc_ak.nd rfl (Or.inl rfl) pe_dnewK)
  (pss_cons (ps_if (pt_val (pv 1)) (pss_one (ps_set (i := 0) sc_ak.nd rfl (Or.inl rfl) (pe_rev (K := K) rfl (pv 0) (pe_un un_neg pe_int)))) pss_nil)
  (pss_cons (ps_for PassesOwn.never rfl (pi_list (pv 0)) (pg_tup rfl (pgs_cons (pg_name (i := 3) sc_ak.nd rfl (Or.inl rfl)) (pgs_cons (pg_name (i := 4) sc_ak.nd rfl (Or.inl rfl)) pgs_nil))) (pss_one (ps_if (pt_cmpR op_notN (pv 4) pe_non (nomark _)) (pss_one (ps_dput (hu_of hr) (pv 2) (pv 3) (pv 4) rfl)) pss_nil)))
  (pss_one (ps_ret (pv 2)))))), ?_⟩
 intro e ne; generalize eX : upd _ e _ = H1; have ⟨s1, e1⟩ := nw ne eX; clear eX
 dsimp only
 refine seq_rest (fun σ' H' => ∃ (l' : Addr) (us' : List V), σ' = [some (.ref l'), some (.bl b), some (.ref e), none, none] ∧ Same H H' ∧ H' e = some (.dK []) ∧ H' l' = some (.lst us') ∧ Paired (RowR K H) us' (turnB b rows)) (fun Nx hNx => ?_) ?_
 ·refine ⟨_, rfl, _, rfl, ?_⟩
  cases b with
  | true =>
   refine ite2 (fun _ => ?_) (fun c => absurd rfl c)
   refine ⟨_, rfl, _, rfl, rfl, l, us, rfl, SqL.of (s1 _ _ hl), ?_⟩
   intro l2 n2; generalize eX : upd _ l2 _ = H2; have ⟨s2, e2⟩ := nw n2 eX; clear eX
   exact hNx _ _ ⟨l2, _, rfl, sm_tr s1 s2, s2 _ _ e1, e2, paired_rev pr⟩
  | false =>
   refine ite2 (fun c => nomatch c) (fun _ => ?_)
   exact hNx _ _ ⟨l, us, rfl, s1, e1, s1 _ _ hl, pr⟩
 rintro σ' H2 ⟨l', us', rfl, s2, e2, hl2, pr2⟩
 generalize turnB b rows = rs at q pr2 nd' lr'
 have lu : us'.length = rs.length := Paired.length pr2
 have nl : l' ≠ e := fun z => by rw [z, e2] at hl2; cases hl2
 refine ⟨_, rfl, l', rfl, ⟨_, SqL.of hl2⟩, for_list (K := K) (a := l') (xs := us') (fun i σ H' => ∃ (o3 o4 : Option V), σ = [some (.ref l'), some (.bl b), some (.ref e), o3, o4] ∧ Same H H' ∧ H' e = some (.dK (hdd (rs.take i))) ∧ H' l' = some (.lst us')) ⟨none, none, rfl, s2, e2, hl2⟩ (fun i σ H' _ h => by
   obtain ⟨_, _, _, _, _, h⟩ := h
   exact SqL.of h) ?_ ?_⟩
 ·rintro i u σ H3 hu ⟨o3, o4, rfl, s3, e3, l3⟩
  obtain ⟨r, er, hrr⟩ := paired_get pr2 hu
  obtain ⟨a, rfl, ht⟩ := hrr.same s3
  have tk := take_snoc er
  have i8 : i < rs.length := (List.getElem?_eq_some_iff.mp er).1
  refine ⟨a, _, rfl, ht, rfl, _, _, rfl, _, _, rfl, rfl, ?_⟩
  refine ⟨_, rfl, rfl, _, rfl, ?_⟩
  refine ite2 (fun c => ?_) (fun c => ?_)
  ·have c' : r.2 ≠ V.non := by simpa using c
   have lk := hdd_len (rows := rs.take i)
   rw [List.length_take] at lk
   refine ⟨_, rfl, _, rfl, _, rfl, e, _, rfl, DPut.k (k := .inr r.1) e3 (Nat.lt_of_le_of_lt (show (hdd (rs.take i)).length ≤ 1000 by omega) (by decide)), ?_⟩
   refine ⟨_, _, rfl, fun b' o z => ?_, ?_, ?_⟩
   ·rw [upd_ne (ne_of_none z ne)]
    exact s3 _ _ z
   ·rw [upd_same, tk, hdd_snoc, if_neg c', putK_new _ (valV_none fun z => ?_)]
    obtain ⟨r', h1, h2⟩ := List.mem_map.mp (hdd_keys z)
    exact take_new (nm := Prod.fst) nd' er h1 h2
   ·rw [upd_ne nl]
    exact l3
  ·have c' : r.2 = V.non := by simpa using c
   refine ⟨_, _, rfl, s3, ?_, l3⟩
   rw [tk, hdd_snoc, if_pos c', List.append_nil]
   exact e3
 ·rintro σ H3 ⟨o3, o4, rfl, s3, e3, l3⟩
  rw [lu, List.take_length] at e3
  exact ⟨_, rfl, q e H3 s3 ne e3⟩
theorem erase_rest : ∀ {pins : List PinD} {k : Nat} {p : PinD}, (pins.map (·.nm)).Nodup → pins[k]? = some p → pins.filter (fun q => decide (q.nm ≠ p.nm)) = pins.eraseIdx k
 | [], _, _, _, h => by simp at h
 | x :: t, 0, p, nd, h => by
  cases h
  rw [List.map_cons, List.nodup_cons] at nd
  rw [List.filter_cons_of_neg (by simp), List.eraseIdx_zero, List.tail_cons, List.filter_eq_self]
  intro q hq
  refine decide_eq_true fun e => nd.1 ?_
  rw [← e]
  exact List.mem_map.mpr ⟨q, hq, rfl⟩
 | x :: t, k + 1, p, nd, h => by
  rw [List.map_cons, List.nodup_cons] at nd
  have h' : t[k]? = some p := by simpa using h
  have ne : x.nm ≠ p.nm := fun e => nd.1 (by rw [e]; exact List.mem_map.mpr ⟨p, List.mem_of_getElem? h', rfl⟩)
  rw [List.filter_cons_of_pos (by simpa using ne), List.eraseIdx_cons_succ, erase_rest nd.2 h']
theorem paired_erase {α β : Type} {F : α → β → Prop} : ∀ {l₁ : List α} {l₂ : List β} (k : Nat), Paired F l₁ l₂ → Paired F (l₁.eraseIdx k) (l₂.eraseIdx k)
 | _, _, _, .nil => by simpa using Paired.nil
 | _, _, 0, .cons _ t => by simpa using t
 | _, _, k + 1, .cons h t => by
  rw [List.eraseIdx_cons_succ, List.eraseIdx_cons_succ]
  exact .cons h (paired_erase k t)
theorem filt_len {α : Type} (p : α → Bool) : ∀ l : List α, (l.filter fun a => !p a).length + (l.filter p).length = l.length
 | [] => rfl
 | a :: l => by
  have ih := filt_len p l
  cases c : p a
  ·rw [List.filter_cons_of_pos (by simp [c]), List.filter_cons_of_neg (by simp [c]), List.length_cons, List.length_cons]
   omega
  ·rw [List.filter_cons_of_neg (by simp [c]), List.filter_cons_of_pos (by simp [c]), List.length_cons, List.length_cons]
   omega
theorem gone_off {bars : List BarD} (nb : (bars.map (·.nm)).Nodup) (p : BarD → Bool) : (bars.filter fun b => decide (b.nm ∉ (bars.filter p).map (·.nm))) = bars.filter fun b => !p b := by
 refine List.filter_congr fun b hb => ?_
 rw [Bool.eq_iff_iff, decide_eq_true_iff]
 constructor
 ·intro h
  cases c : p b
  ·rfl
  ·exact absurd (List.mem_map.mpr ⟨b, List.mem_filter.mpr ⟨hb, c⟩, rfl⟩) h
 ·intro h z
  obtain ⟨b', h1, h2⟩ := List.mem_map.mp z
  obtain ⟨h3, h4⟩ := List.mem_filter.mp h1
  have e := nm_inj (nm := BarD.nm) nb h3 hb h2
  rw [e] at h4
  rw [h4] at h
  cases h
theorem off_step {bars : List BarD} {A : List Str} {x : Str} : (mpB (bars.filter fun b => decide (b.nm ∉ A))).filter (fun b => decide (b.1 ≠ x)) = mpB (bars.filter fun b => decide (b.nm ∉ A ++ [x])) := by
 unfold mpB
 rw [List.filter_map, List.filter_filter]
 congr 1
 refine List.filter_congr fun b _ => ?_
 rw [Bool.eq_iff_iff]
 simp
 constructor
 ·rintro ⟨h1, h2⟩
  exact ⟨h2, h1⟩
 ·rintro ⟨h1, h2⟩
  exact ⟨h2, h1⟩
theorem nodup_parts {bars : List BarD} (nb : (bars.map (·.nm)).Nodup) (p : BarD → Bool) : ((bars.filter fun b => !p b).map (·.nm) ++ (bars.filter p).map (·.nm)).Nodup := by
 have s1 : ((bars.filter fun b => !p b).map (·.nm)).Nodup := ((List.filter_sublist).map _).nodup nb
 have s2 : ((bars.filter p).map (·.nm)).Nodup := ((List.filter_sublist).map _).nodup nb
 rw [List.nodup_append]
 refine ⟨s1, s2, fun a ha b hb e => ?_⟩
 obtain ⟨x, hx, rfl⟩ := List.mem_map.mp ha
 obtain ⟨y, hy, rfl⟩ := List.mem_map.mp hb
 obtain ⟨x1, x2⟩ := List.mem_filter.mp hx
 obtain ⟨y1, y2⟩ := List.mem_filter.mp hy
 have := nm_inj (nm := BarD.nm) nb x1 y1 e
 rw [this, y2] at x2
 cases x2
def farI (sc : Int) : Int := if sc = 0 then 100 else 3000000000000
theorem far_off {sc : Int} {x y : Rat} (hx : -(far sc) ≤ x) (hy : y ≤ far sc) : x + (farI sc : Rat) ≠ y := by
 intro e
 unfold far at hx hy
 unfold farI at e
 by_cases c : sc = 0
 ·rw [if_pos c] at hx hy e
  have : ((100 : Int) : Rat) = 100 := rfl
  rw [this] at e
  grind
 ·rw [if_neg c] at hx hy e
  have : ((3000000000000 : Int) : Rat) = 3000000000000 := rfl
  rw [this] at e
  grind
theorem far_sz (sc : Int) : Sz 42 (farI sc : Rat) := by
 refine sz_int ?_ (by decide)
 unfold farI
 by_cases c : sc = 0
 ·rw [if_pos c]
  decide +kernel
 ·rw [if_neg c]
  decide +kernel
def pinDa (p : PinD) : Da := .t [.v (.str p.nm), .t (spotD (ptQ p.sp)), .l (p.ws.map fun w => .t (spotD (ptQ w)))]
def barR' (b : BarD) : List Da := [pinDa b.one, pinDa b.other]
def barDa (b : BarD) : Da := .t (.v (.str b.nm) :: barR' b)
theorem ways_alike : ∀ l m : List (Rat × Rat), alikes (l.map fun w => Da.t (spotD (ptQ w))) (m.map fun w => Da.t (spotD (ptQ w))) = true
 | [], _ => by simp [alikes]
 | _ :: _, [] => by simp [alikes]
 | a :: l, b :: m => by
  rw [List.map_cons, List.map_cons]
  unfold alikes
  rw [ways_alike l m]
  unfold alike
  rw [alike_spots]
  rfl
theorem ways_eq : ∀ l : List (Rat × Rat), eqDas (l.map fun w => Da.t (spotD (ptQ w))) (l.map fun w => Da.t (spotD (ptQ w))) = true
 | [] => by simp [eqDas]
 | a :: l => by
  rw [List.map_cons]
  unfold eqDas
  rw [ways_eq l]
  unfold eqDa
  rw [eq_spots, decide_eq_true rfl]
  rfl
theorem ways_dep : ∀ l : List (Rat × Rat), deps (l.map fun w => Da.t (spotD (ptQ w))) ≤ 55
 | [] => by simp [deps]
 | a :: l => by
  rw [List.map_cons]
  unfold deps
  have h1 := ways_dep l
  have h2 : dep (.t (spotD (ptQ a))) ≤ 55 := by simp [dep, deps, spotD]
  omega
theorem pin_alike (p q : PinD) : alike (pinDa p) (pinDa q) = true := by
 unfold pinDa alike alikes alikes alikes alikes
 simp only [alike, alike_spots, ways_alike, Bool.and_self]
theorem pin_eq (p : PinD) : eqDa (pinDa p) (pinDa p) = true := by
 unfold pinDa eqDa eqDas eqDas eqDas eqDas
 simp only [eqDa, eq_spots, ways_eq, eqV, decide_true, Bool.and_self, BEq.rfl]
theorem pin_dep (p : PinD) : dep (pinDa p) ≤ 57 := by
 have h := ways_dep p.ws
 have h2 : deps (spotD (ptQ p.sp)) ≤ 50 := by simp [dep, deps, spotD]
 unfold pinDa dep deps deps deps deps
 simp only [dep]
 omega
theorem bar_alike (a b : BarD) : alikes (barR' a) (barR' b) = true := by
 unfold barR' alikes alikes alikes
 simp only [pin_alike, Bool.and_self]
theorem bar_eq (a : BarD) : eqDas (barR' a) (barR' a) = true := by
 unfold barR' eqDas eqDas eqDas
 simp only [pin_eq, Bool.and_self]
theorem bar_dep (b : BarD) : dep (barDa b) ≤ 60 := by
 have h1 := pin_dep b.one
 have h2 := pin_dep b.other
 unfold barDa barR' dep deps deps deps deps
 simp only [dep]
 omega
theorem pts_iss {H : Hp} : ∀ {us : List V} {ws : List (Rat × Rat)}, PtsR K H us ws → Iss K H (ws.map fun w => Da.t (spotD (ptQ w))) us
 | _, _, .nil => by unfold Iss; trivial
 | _, _, .cons h t => by
  rw [List.map_cons]
  unfold Iss
  exact ⟨h.spot.is, pts_iss t⟩
theorem PinX.is {H : Hp} {d : Addr} {v : V} {p : PinD} (h : PinX K H d v p) : Is K H (pinDa p) v := by
 obtain ⟨a, l, s, us, rfl, h1, h2, h3, h4, _⟩ := h
 unfold pinDa Is
 refine ⟨a, _, rfl, h1, ?_⟩
 unfold Iss
 refine ⟨by unfold Is; exact ⟨rfl, rfl⟩, ?_⟩
 unfold Iss
 refine ⟨h2.spot.is, ?_⟩
 unfold Iss
 refine ⟨?_, by unfold Iss; trivial⟩
 unfold Is
 exact ⟨l, us, rfl, SqL.of h3, pts_iss h4⟩
theorem BarR.is {H : Hp} {d : Addr} {v : V} {b : BarD} (h : BarR K H d v b) : Is K H (barDa b) v := by
 obtain ⟨a, u1, u2, rfl, h1, h2, h3⟩ := h
 unfold barDa barR' Is
 refine ⟨a, _, rfl, h1, ?_⟩
 unfold Iss
 refine ⟨by unfold Is; exact ⟨rfl, rfl⟩, ?_⟩
 unfold Iss
 refine ⟨h2.is, ?_⟩
 unfold Iss
 exact ⟨h3.is, by unfold Iss; trivial⟩
theorem bars_iss {H : Hp} {d : Addr} : ∀ {us : List V} {bs : List BarD}, Paired (BarR K H d) us bs → Iss K H (bs.map barDa) us
 | _, _, .nil => by unfold Iss; trivial
 | _, _, .cons h t => by
  rw [List.map_cons]
  unfold Iss
  exact ⟨h.is, bars_iss t⟩
theorem BarR.upd {H : Hp} {d : Addr} {v : V} {b : BarD} {xs : List V} {o : HO} (h : BarR K H d v b) (e : H d = some (.lst xs)) : BarR K (L2.upd H d o) d v b := by
 obtain ⟨a, u1, u2, e1, h1, h2, h3⟩ := h
 have t : SameT H (L2.upd H d o) := .list e
 exact ⟨a, u1, u2, e1, t.seqT h1, h2.upd e, h3.upd e⟩
theorem FrB.upd {H : Hp} {C a dx pP pW pB d : Addr} {pins : List PinD} {bars : List BarD} {xs : List V} {o : HO} (h : FrB K H C a dx pP pW pB d pins bars) (e : H d = some (.lst xs)) : FrB K (L2.upd H d o) C a dx pP pW pB d pins bars := by
 obtain ⟨kP, kW, kB, R, W, n⟩ := h.ex
 have t : SameT H (L2.upd H d o) := .list e
 refine ⟨kP, kW, kB, R.sameT_of t (upd_ne fun z => ?_) (upd_ne fun z => ?_) (upd_ne fun z => ?_) (upd_ne fun z => ?_), ?_, n⟩
 ·have := R.obj
  rw [z, e] at this
  cases this
 ·have := R.pl
  rw [z, e] at this
  cases this
 ·have := R.wy
  rw [z, e] at this
  cases this
 ·have := R.br
  rw [z, e] at this
  cases this
 ·refine paired_of (Paired.length W) fun i p kv e1 e2 => ?_
  obtain ⟨kv', e3, h1, l, us, h2, h3, h4⟩ := paired_get W e1
  rw [e2] at e3
  cases e3
  refine ⟨h1, l, us, h2, ?_, h4.sameT t⟩
  rw [upd_ne (fun z => n kv (List.mem_of_getElem? e2) (by rw [h2, z]))]
  exact h3
def spAnew (K : Frag) (C : Addr) : Sp := fun vs H Q _ => ∃ (a dx pP pW pB pA bA : Addr) (us vs' : List V) (pins : List PinD) (bars : List BarD) (sc c : Int), vs = [.ref a, .ref pA, .ref bA, .int c, .int (farI sc)] ∧ FrB K H C a dx pP pW pB pA pins bars ∧ H pA = some (.lst us) ∧ Paired (PinX K H pA) us pins ∧ bA ≠ pA ∧ H bA = some (.lst vs') ∧ Paired (BarR K H pA) vs' bars ∧ GoodP pins ∧ GoodB pins bars ∧ Near sc pins ∧ 0 < pins.length ∧ pins.length ≤ 6 ∧ bars.length ≤ 8 ∧ intBits c ≤ 1048576 ∧
 ∀ (bA' : Addr) (us2 vs2 : List V) (rest : List PinD) (p2 : PinD) (bars2 : List BarD) (H' : Hp), (∀ b o, b ≠ pP → b ≠ pW → b ≠ pB → b ≠ pA → H b = some o → H' b = some o) → FrB K H' C a dx pP pW pB pA (rest ++ [p2]) bars2 → H' pA = some (.lst us2) → Paired (PinX K H' pA) us2 (rest ++ [p2]) → H' bA' = some (.lst vs2) → Paired (BarR K H' pA) vs2 bars2 → GoodF (rest ++ [p2]) bars2 → (∀ q ∈ rest, q ∈ pins) → (∀ q ∈ rest ++ [p2], WaysOk q.ws) → Q (.ref bA') H'
theorem PinX.ks {H H' : Hp} {d e : Addr} {v : V} {p : PinD} {kvs : List (Key × V)} (h : PinX K H d v p) (k : KSame e H H') (he : H e = some (.dK kvs)) : PinX K H' d v p := by
 obtain ⟨a, l, sv, us, ev, h1, h2, h3, h4, h5⟩ := h
 have t := ks_t k he
 exact ⟨a, l, sv, us, ev, t.seqT h1, h2.sameT t, k _ _ (fun z => by rw [z, he] at h3; cases h3) h3, h4.sameT t, h5⟩
theorem seq_nat {k n : Nat} (h : k < n) : seqIndex? (k : Int) n = some k := by
 have := PySem.StrLaws.seqIndex_nonneg (i := (k : Int)) (n := n) (by omega) (by omega)
 simpa using this
def K3 (pP pW pB : Addr) (H H' : Hp) : Prop := ∀ b o, b ≠ pP → b ≠ pW → b ≠ pB → H b = some o → H' b = some o
structure D3 (pP pW pB : Addr) (H : Hp) : Prop where
 p : ∃ kvs, H pP = some (.dK kvs)
 w : ∃ kvs, H pW = some (.dK kvs)
 b : ∃ kvs, H pB = some (.dK kvs)
section
variable {pP pW pB d : Addr} {H H' : Hp} {v : V}
theorem D3.ne (h : D3 pP pW pB H) {b : Addr} {o : HO} (e : H b = some o) (n : ∀ kvs, o ≠ .dK kvs) : b ≠ pP ∧ b ≠ pW ∧ b ≠ pB := by
 refine ⟨fun z => ?_, fun z => ?_, fun z => ?_⟩
 ·obtain ⟨kvs, e'⟩ := h.p
  rw [z, e'] at e
  cases e
  exact n _ rfl
 ·obtain ⟨kvs, e'⟩ := h.w
  rw [z, e'] at e
  cases e
  exact n _ rfl
 ·obtain ⟨kvs, e'⟩ := h.b
  rw [z, e'] at e
  cases e
  exact n _ rfl
theorem K3.get (k : K3 pP pW pB H H') (h : D3 pP pW pB H) {b : Addr} {o : HO} (e : H b = some o) (n : ∀ kvs, o ≠ .dK kvs) : H' b = some o := by
 obtain ⟨n1, n2, n3⟩ := h.ne e n
 exact k b o n1 n2 n3 e
theorem K3.lst (k : K3 pP pW pB H H') (h : D3 pP pW pB H) {b : Addr} {xs : List V} (e : H b = some (.lst xs)) : H' b = some (.lst xs) := k.get h e fun _ z => nomatch z
theorem K3.t (k : K3 pP pW pB H H') (h : D3 pP pW pB H) : SameT H H' := fun b zs r => by
 rcases r with r | ⟨o', r⟩
 ·exact .inl (k.get h r fun _ z => nomatch z)
 ·exact .inr ⟨o', k.get h r fun _ z => nomatch z⟩
theorem PinX.k3 {p : PinD} (x : PinX K H d v p) (k : K3 pP pW pB H H') (h : D3 pP pW pB H) : PinX K H' d v p := by
 obtain ⟨a, l, sv, us, ev, h1, h2, h3, h4, h5⟩ := x
 have t := k.t h
 exact ⟨a, l, sv, us, ev, t.seqT h1, h2.sameT t, k.lst h h3, h4.sameT t, h5⟩
theorem BarR.k3 {b : BarD} (x : BarR K H d v b) (k : K3 pP pW pB H H') (h : D3 pP pW pB H) : BarR K H' d v b := by
 obtain ⟨a, u1, u2, e1, h1, h2, h3⟩ := x
 exact ⟨a, u1, u2, e1, (k.t h).seqT h1, h2.k3 k h, h3.k3 k h⟩
end
theorem sc_ab : FnScope ["_law_frame_here", "_law_pins_here", "_law_bars_here", "_law_cell", "_law_far", "_law_name", "_law_spot", "_law_ways_here", "_law_pin", "_law_gone", "_law_bar", "_law_label", "_law_one", "_law_other"] ["_law_frame_here", "_law_pins_here", "_law_bars_here", "_law_cell", "_law_far"] (defScope s_ab) := sq
theorem ok_ab {C : Addr} (D : Def K mg "_law_put_anew" s_ab ["_law_frame_here", "_law_pins_here", "_law_bars_here", "_law_cell", "_law_far"]) (m_len : mg "len" = none)
  (G_b7 : Fn P w K mg base (CXr P w) 34 "_law_plus" ["_law_x", "_law_y"] (spBinR K fun a b => a + b)) (G_b6 : Fn P w K mg base (CXr P w) 1 "_law_part" ["_law_cell", "_law_k"] spPart) (G_b8 : Fn P w K mg base (CXr P w) 34 "_law_ways" ["_law_cell"] (spWaysL K)) (G_ae : Fn P w K mg base (CXr P w) 4 "_law_put_pin" ["_law_frame_here", "_law_pin"] (spPutPinL K C))
  (MPb : MtdOk P w K mg base (CXr P w) 3 C "put_bar" ["self", "name", "one", "other"] (spPutBar K C)) (MTb : MtdOk P w K mg base (CXr P w) 1 C "take_bar" ["self", "name"] (spTakeBar K C)) (MTp : MtdOk P w K mg base (CXr P w) 2 C "take_pin" ["self", "name"] (spTakePinW K C)) :
  Fn P w K mg base (CXr P w) 35 "_law_put_anew" ["_law_frame_here", "_law_pins_here", "_law_bars_here", "_law_cell", "_law_far"] (spAnew K C) := by
 refine D.ok sc_ab (fun vs H Q E h => ?_) (fun f cdv A outer s H vs Q E hr h => ?_)
 ·obtain ⟨a, dx, pP, pW, pB, pA, bA, us, vs', pins, bars, sc, c, rfl, _⟩ := h
  rfl
 obtain ⟨a, dx, pP, pW, pB, pA, bA, us, vs', pins, bars, sc, c, rfl, R, hp, pp, nAB, hb, pb, gp, gb, nr, l0, lp6, lb8, bc, q⟩ := h
 have L2 : 2 ≤ sizeLine := by decide
 have L3 : 3 ≤ sizeLine := by decide
 have lu : us.length = pins.length := Paired.length pp
 have lv : vs'.length = bars.length := Paired.length pb
 refine ⟨_, (pss_cons (ps_asg (pe_bm PySem.F.plainAttrs_list PySem.F.slot_list_pop PySem.F.type_list_pop mt_popAt (pv 1) (pac (pe_op op_modB (pv 3) (pe_callB call_len_seq rfl m_len b_len (pac (pv 1) pa_nil))) pa_nil)) (pg_tup rfl (pgs_cons (pg_name (i := 5) sc_ab.nd rfl (Or.inr rfl)) (pgs_cons (pg_name (i := 6) sc_ab.nd rfl (Or.inl rfl)) (pgs_cons (pg_name (i := 7) sc_ab.nd rfl (Or.inl rfl)) pgs_nil)))))
  (pss_cons (ps_set (i := 8) sc_ab.nd rfl (Or.inl rfl) (pe_tup (pac (pv 5) (pac (pe_tup (pac (pe_fn G_b7 hr.mo (pY P w) (pac (pe_tx (pv 6)) (pac (pe_tup (pac (pv 4) (pac pe_int pa_nil))) pa_nil))) (pac (pe_tx (pv 6)) pa_nil))) (pac (pe_fn G_b8 hr.mo (pY P w) (pac (pe_fn G_b6 hr.mo (pY P w) (pac (pv 3) (pac pe_int pa_nil))) pa_nil)) pa_nil)))))
  (pss_cons (ps_set (i := 9) sc_ab.nd rfl (Or.inr rfl) (pe_comp (tn := ["_law_bar"]) (fr := ["_law_name"]) (caps := [5]) rfl ⟨rfl, by decide +kernel, rfl, by decide +kernel, by decide +kernel, rfl, ⟨(by first | exact Or.inl rfl | exact Or.inr rfl), trivial⟩, ⟨(by first | exact Or.inl rfl | exact Or.inr rfl), trivial⟩⟩ (pi_list (pv 2)) (fun _ _ _ _ => (pg_name (i := 0) (show (["_law_bar", "_law_name"] : List Str).Nodup from by decide +kernel) rfl (Or.inl rfl))) (fun _ _ _ _ => (pf_one (pt_cmpR (op_in_seqK (K := K) rfl) (pv 1) (pe_tup (pac (pe_ix (ix_tupK (K := K) rfl) (pe_ix (ix_tupK (K := K) rfl) (pv 0) pe_int (fun _ _ => rfl)) pe_int (fun _ _ => rfl)) (pac (pe_ix (ix_tupK (K := K) rfl) (pe_ix (ix_tupK (K := K) rfl) (pv 0) pe_int (fun _ _ => rfl)) pe_int (fun _ _ => rfl)) pa_nil))) rfl))) (fun _ _ _ _ => (pv 0))))
  (pss_cons (ps_for PassesOwn.never rfl (pi_list (pv 9)) (pg_name (i := 10) sc_ab.nd rfl (Or.inl rfl)) (pss_one (ps_expr (pe_mtd (k := 1) (pv 0) hr.mo (pY P w) (pac (pe_tx (pv 10)) pa_nil)))))
  (pss_cons (ps_expr (pe_mtd (k := 2) (pv 0) hr.mo (pY P w) (pac (pv 5) pa_nil)))
  (pss_cons (ps_expr (pe_fn G_ae hr.mo (pY P w) (pac (pv 0) (pac (pv 8) pa_nil))))
  (pss_cons (ps_setC (i := 2) sc_ab.nd rfl (Or.inl rfl) (tn := ["_law_bar"]) (fr := ["_law_gone"]) (caps := [9]) rfl ⟨rfl, by decide +kernel, rfl, by decide +kernel, by decide +kernel, rfl, ⟨(by first | exact Or.inl rfl | exact Or.inr rfl), trivial⟩, ⟨(by first | exact Or.inl rfl | exact Or.inr rfl), trivial⟩⟩ (pi_list (pv 2)) (fun _ _ _ _ => (pg_name (i := 0) (show (["_law_bar", "_law_gone"] : List Str).Nodup from by decide +kernel) rfl (Or.inl rfl))) (fun _ _ _ _ => (pf_one (pt_cmpR (op_notInBy (K := K) rfl hr.units) (pv 0) (pv 1) rfl))) (fun _ _ _ _ => (pv 0)))
  (pss_cons (ps_for PassesOwn.never rfl (pi_list (pv 9)) (pg_tup rfl (pgs_cons (pg_name (i := 11) sc_ab.nd rfl (Or.inl rfl)) (pgs_cons (pg_name (i := 12) sc_ab.nd rfl (Or.inl rfl)) (pgs_cons (pg_name (i := 13) sc_ab.nd rfl (Or.inl rfl)) pgs_nil)))) (pss_cons (ps_if (pt_cmpR op_eq (pe_tx (pv 12)) (pv 5) (nomark _)) (pss_one (ps_set (i := 12) sc_ab.nd rfl (Or.inl rfl) (pv 8))) pss_nil)
   (pss_cons (ps_if (pt_cmpR op_eq (pe_tx (pv 13)) (pv 5) (nomark _)) (pss_one (ps_set (i := 13) sc_ab.nd rfl (Or.inl rfl) (pv 8))) pss_nil)
   (pss_cons (ps_if (PW.pt (pw_and (pt_cmpR op_gt (pe_callB call_len_seq rfl m_len b_len (pac (pv 1) pa_nil)) pe_int (nomark _)) (pw_and1 (pt_cmpR op_eq (pv 11) (pe_tx (pe_lx (pv 9))) (nomark _))))) (pss_one (ps_par (i := 12) (j := 13) rfl sc_ab.nd rfl rfl (by decide) rfl rfl (pac (pe_ix ix_list (pv 1) (pe_op op_modB (pe_op op_fdivB (pv 3) pe_int) pe_int) (fun _ _ => rfl)) (pac (pe_ix ix_list (pv 1) (pe_op op_sub pe_int (pe_op op_modB (pe_op op_fdivB (pv 3) pe_int) pe_int)) (fun _ _ => rfl)) pa_nil)) rfl)) pss_nil)
   (pss_cons (ps_expr (pe_mtd (k := 3) (pv 0) hr.mo (pY P w) (pac (pv 11) (pac (pe_tx (pv 12)) (pac (pe_tx (pv 13)) pa_nil)))))
   (pss_one (ps_expr (pe_bm PySem.F.plainAttrs_list PySem.F.slot_list_append PySem.F.type_list_append mt_append (pv 2) (pac (pe_tup (pac (pv 11) (pac (pv 12) (pac (pv 13) pa_nil)))) pa_nil)))))))))
  (pss_cons (ps_expr (pe_bm PySem.F.plainAttrs_list PySem.F.slot_list_append PySem.F.type_list_append mt_append (pv 1) (pac (pv 8) pa_nil)))
  (pss_one (ps_ret (pv 2)))))))))))), ?_⟩
 have mk := fmod_in (x := c) (m := (us.length : Int)) (by omega)
 obtain ⟨k, ek⟩ : ∃ k : Nat, c.fmod (us.length : Int) = (k : Int) := ⟨_, (Int.toNat_of_nonneg mk.1).symm⟩
 have kl : k < us.length := by omega
 refine ⟨_, rfl, .inl ⟨rfl, _, SqL.of hp⟩, _, rfl, _, rfl, pA, _, rfl, .inl (SqL.of hp), _, _, rfl, rfl, nz (by omega), ?_⟩
 refine ⟨pA, us, (k : Int), k, us[k], rfl, (by show [V.int (c.fmod (us.length : Int))] = _; rw [ek]), hp, by omega, by omega, seq_nat kl, gE kl, ?_⟩
 have k1 : ∀ b o, b ≠ pA → H b = some o → (upd H pA (.lst (us.eraseIdx k))) b = some o := fun b o n z => by rw [upd_ne n]; exact z
 have hp1 : (upd H pA (.lst (us.eraseIdx k))) pA = some (.lst (us.eraseIdx k)) := upd_same
 have R1 := R.upd (o := .lst (us.eraseIdx k)) hp
 have pp1 : Paired (PinX K (upd H pA (.lst (us.eraseIdx k))) pA) us pins := Paired.mapP pp fun _ _ z => z.upd hp
 have pb1 : Paired (BarR K (upd H pA (.lst (us.eraseIdx k))) pA) vs' bars := Paired.mapP pb fun _ _ z => z.upd hp
 have hb1 := k1 _ _ nAB hb
 generalize upd H pA (.lst (us.eraseIdx k)) = H1 at k1 hp1 R1 pp1 pb1 hb1 ⊢
 obtain ⟨p, ep, hpr⟩ := paired_get pp1 (gE kl)
 have mp : p ∈ pins := List.mem_of_getElem? ep
 obtain ⟨ta, lw, sv, uw, eta, t1, ⟨sa, x1, y1, esv, hsq, hn1, hn2⟩, t3, t4, t5⟩ := hpr
 subst esv
 refine ⟨ta, _, eta, t1, rfl, _, _, rfl, _, _, rfl, _, _, rfl, rfl, ?_⟩
 refine ⟨_, rfl, _, rfl, sa, _, _, _, rfl, rfl, hsq, at0, _, rfl, L2, ?_⟩
 intro t6 n6; generalize eX : upd _ t6 _ = H6; have ⟨s6, e6⟩ := nw n6 eX; clear eX
 refine ⟨x1, .ref t6, _, _, rfl, hn1.same s6, nm_lit (farI sc) e6, ((nr p mp).1).up (by decide), (far_sz sc).up (by decide), fun c7 H7 s7 e7 => ?_⟩
 refine ⟨_, rfl, sa, _, _, _, rfl, rfl, Ty.Same.seqT s7 (Ty.Same.seqT s6 hsq), at1, L2, ?_⟩
 intro t8 n8; generalize eX : upd _ t8 _ = H8; have ⟨s8, e8⟩ := nw n8 eX; clear eX
 refine ⟨_, rfl, _, _, rfl, Nat.le_trans bc (by decide), by decide, by decide, fun c9 H9 h90 h91 s9 => ?_⟩
 refine ⟨_, rfl, fun lN usN wsN HA wk sA nA eA pN => ⟨L3, ?_⟩⟩
 intro pn nB; generalize eX : upd _ pn _ = HB; have ⟨sB, eB⟩ := nw nB eX; clear eX
 have s7B := sm_tr (sm_tr s8 s9) (sm_tr sA sB)
 have s8B := sm_tr s9 (sm_tr sA sB)
 have s1B := sm_tr (sm_tr s6 s7) s7B
 have hpn : PinX K HB pA (.ref pn) ⟨p.nm, (p.sp.1 + (farI sc : Rat), p.sp.2), wsN⟩ := by
  refine ⟨pn, lN, .ref t8, usN, rfl, SqT.of eB, pt_of (s8B _ _ e8) ((nm_of e7).same s7B) (hn2.same s1B), sB _ _ eA, pN.same sB, fun z => ?_⟩
  have := s9 _ _ (s8 _ _ (s7 _ _ (s6 _ _ hp1)))
  rw [← z, nA] at this
  cases this
 generalize hp2 : (⟨p.nm, (p.sp.1 + (farI sc : Rat), p.sp.2), wsN⟩ : PinD) = p2 at hpn
 have pbB : Paired (BarR K HB pA) vs' bars := Paired.mapP pb1 fun _ _ z => z.same s1B
 have hbB := s1B _ _ hb1
 refine ⟨_, rfl, bA, rfl, ⟨_, SqL.of hbB⟩, fun DG nG => ?_⟩
 refine comp_listF (K := K) (a := bA) (xs := vs') (zs := bars) (Rl := BarR K HB pA) (cap := [some (.str p.nm)]) (fun b => inV (.str p.nm) [.str b.one.nm, .str b.other.nm]) pbB nG (by rw [lv]; exact Nat.lt_of_le_of_lt (show bars.length ≤ 1000 by omega) (by decide)) (fun H2 s2 => SqL.of (s2 _ _ hbB)) ?_ ?_ ?_
 ·intro x z HC RC hz mz sC kC
  obtain ⟨ta', u1, u2, rfl, b1, ⟨a1, l1, sv1, us1, rfl, b11, _⟩, ⟨a2, l2, sv2, us2, rfl, b21, _⟩⟩ := hz.same sC
  refine ⟨_, rfl, _, rfl, ta', _, _, _, rfl, rfl, b1, rfl, a1, _, _, _, rfl, rfl, b11, rfl, ?_⟩
  refine ⟨_, rfl, ta', _, _, _, rfl, rfl, b1, rfl, a2, _, _, _, rfl, rfl, b21, rfl, L2, ?_⟩
  intro tC nC; generalize eX : upd _ tC _ = HC2; have ⟨sC2, eC⟩ := nw nC eX; clear eX
  exact ⟨tC, _, rfl, .inr (SqT.of eC), rfl, rfl, _, rfl, kC HC2 sC2⟩
 ·intro x z HC RC hz sC k
  exact ⟨_, rfl, k⟩
 intro ysG HG pg sG eG
 generalize hpG : (fun b : BarD => inV (.str p.nm) [.str b.one.nm, .str b.other.nm]) = pG at pg
 have pGt : ∀ b : BarD, pG b = true ↔ (b.one.nm = p.nm ∨ b.other.nm = p.nm) := fun b => by
  rw [← hpG]
  simp [inV, eqV]
 have lG : ysG.length = (bars.filter pG).length := Paired.length pg
 obtain ⟨kP, kW, kB0, RG, WG, nWG⟩ := ((R1.same s1B).same sG).ex
 have ndG : ((bars.filter pG).map (·.nm)).Nodup := ((List.filter_sublist).map _).nodup gb.nb
 have dG : D3 pP pW pB HG := ⟨⟨_, RG.pl⟩, ⟨_, RG.wy⟩, ⟨_, RG.br⟩⟩
 refine ⟨_, rfl, DG, rfl, ⟨_, SqL.of eG⟩, for_list (K := K) (a := DG) (xs := ysG) (fun i σ H' => ∃ (o10 : Option V) (kB : List (Key × V)), σ = [some (.ref a), some (.ref pA), some (.ref bA), some (.int c), some (.int (farI sc)), some (.str p.nm), some (.ref sa), some (.ref lw), some (.ref pn), some (.ref DG), o10, none, none, none] ∧ KSame pB HG H' ∧ FrR K H' C a dx pP pW pB (mpP pins) (mpB (bars.filter fun b => decide (b.nm ∉ ((bars.filter pG).take i).map (·.nm)))) kP kW kB) ⟨none, kB0, rfl, fun _ _ _ z => z, by rw [List.filter_eq_self.mpr (fun b _ => by simp)]; exact RG⟩ (fun i σ H' _ h => by
   obtain ⟨_, _, _, k, _⟩ := h
   exact SqL.of (k _ _ (dG.ne eG fun _ z => nomatch z).2.2 eG)) ?_ ?_⟩
 ·rintro i u σ H2 hu ⟨o10, kB2, rfl, k2, R2⟩
  obtain ⟨b, eb, hbr⟩ := paired_get pg hu
  have t2 : SameT HG H2 := ks_t k2 RG.br
  obtain ⟨ta', u1, u2, rfl, b1, _⟩ := hbr.same sG
  have mb := (List.mem_filter.mp (List.mem_of_getElem? eb)).1
  refine ⟨_, rfl, a, C, dx, _, _, _, rfl, R2.obj, rfl, MTb, _, rfl, ta', _, _, _, rfl, rfl, t2.seqT b1, rfl, ?_⟩
  refine ⟨a, dx, pP, pW, pB, _, _, kP, kW, kB2, b.nm, rfl, R2, ?_, fun H' kB' k' R' => ?_⟩
  ·rw [List.map_map]
   refine List.mem_map.mpr ⟨b, List.mem_filter.mpr ⟨mb, decide_eq_true fun z => ?_⟩, rfl⟩
   obtain ⟨b', h1, h2⟩ := List.mem_map.mp z
   exact take_new (nm := BarD.nm) ndG eb h1 h2
  ·refine ⟨_, kB', rfl, fun c o n z => k' c o n (k2 c o n z), ?_⟩
   rw [off_step] at R'
   rw [take_snoc eb, List.map_append]
   exact R'
 rintro σ H3 ⟨o10, kB3, rfl, k3, R3⟩
 rw [lG, List.take_length, gone_off gb.nb pG] at R3
 have W3 := wy_ks WG k3 RG.br
 have notG : ∀ b ∈ bars.filter (fun b => !pG b), b.one.nm ≠ p.nm ∧ b.other.nm ≠ p.nm := fun b hb' => by
  have h := (List.mem_filter.mp hb').2
  refine ⟨fun z => ?_, fun z => ?_⟩
  ·rw [(pGt b).mpr (.inl z)] at h
   cases h
  ·rw [(pGt b).mpr (.inr z)] at h
   cases h
 refine ⟨_, rfl, a, C, dx, _, _, _, rfl, R3.obj, rfl, MTp, _, rfl, a, dx, pP, pW, pB, _, _, kP, kW, kB3, mpW pins, p.nm, rfl, R3, W3, by rw [List.map_map, List.map_map]; rfl, ?_, ?_, fun H4 kP4 kW4 k4 R4 W4 sub4 => ?_⟩
 ·rw [List.map_map]
  exact List.mem_map.mpr ⟨p, mp, rfl⟩
 ·intro b hb'
  obtain ⟨b', h1, rfl⟩ := List.mem_map.mp hb'
  have := notG b' h1
  exact ⟨Ne.symm this.1, Ne.symm this.2⟩
 have rest_eq := erase_rest gp.np ep
 have fP : (mpP pins).filter (fun b => decide (b.1 ≠ p.nm)) = mpP (pins.eraseIdx k) := by
  rw [← rest_eq]
  unfold mpP
  rw [List.filter_map]
  rfl
 have fW : (mpW pins).filter (fun b => decide (b.1 ≠ p.nm)) = mpW (pins.eraseIdx k) := by
  rw [← rest_eq]
  unfold mpW
  rw [List.filter_map]
  rfl
 rw [fP] at R4
 rw [fW] at W4
 have kG4 : K3 pP pW pB HG H4 := fun b o n1 n2 n3 z => k4 b o n1 n2 (k3 b o n3 z)
 have mrest : ∀ q ∈ pins.eraseIdx k, q ∈ pins ∧ q.nm ≠ p.nm := fun q hq => by
  rw [← rest_eq] at hq
  obtain ⟨h1, h2⟩ := List.mem_filter.mp hq
  exact ⟨h1, of_decide_eq_true h2⟩
 have torest : ∀ q ∈ pins, q.nm ≠ p.nm → q ∈ pins.eraseIdx k := fun q hq n => by
  rw [← rest_eq]
  exact List.mem_filter.mpr ⟨hq, decide_eq_true n⟩
 have lrest : (pins.eraseIdx k).length = pins.length - 1 := by
  rw [List.length_eraseIdx, if_pos (by omega)]
 have pp4 : Paired (PinX K HG pA) (us.eraseIdx k) (pins.eraseIdx k) := Paired.mapP (paired_erase k pp1) fun _ _ z => (z.same s1B).same sG
 have n2m : p2.nm = p.nm := by rw [← hp2]
 have hpnG := hpn.same sG
 refine ⟨_, rfl, _, rfl, a, dx, pP, pW, pB, pA, pins.eraseIdx k, _, kP4, kW4, kB3, .ref pn, p2, rfl, R4, W4, hpnG.k3 kG4 dG, fun z => ?_, fun z => ?_, by omega, by rw [← hp2]; exact wk, fun H5 kP5 kW5 k5 R5 W5 l5 => ?_⟩
 ·obtain ⟨q', h1, h2⟩ := List.mem_map.mp z
  exact (mrest q' h1).2 (h2.trans n2m)
 ·obtain ⟨q', h1, h2⟩ := List.mem_map.mp z
  have e3 : p2.sp = (p.sp.1 + (farI sc : Rat), p.sp.2) := by rw [← hp2]
  rw [e3] at h2
  exact far_off (nr p mp).2.1 (nr q' (mrest q' h1).1).2.2 (congrArg Prod.fst h2).symm
 generalize hrest : pins.eraseIdx k = rest at *
 have kG5 : K3 pP pW pB HG H5 := fun b o n1 n2 n3 z => k5 b o n1 n2 (kG4 b o n1 n2 n3 z)
 have nW5 : ∀ kv ∈ kW5, kv.2 ≠ .ref pA := fun kv h => by
  obtain ⟨l, e1, e2⟩ := l5
  rw [e1] at h
  rcases List.mem_append.mp h with h | h
  ·exact nWG kv (sub4 kv h)
  ·rw [List.mem_singleton.mp h]
   intro z
   cases z
   rw [kG4.lst dG (sG _ _ (s1B _ _ hp1))] at e2
   cases e2
 have hpA5 := kG5.lst dG (sG _ _ (s1B _ _ hp1))
 have hb5 := kG5.lst dG (sG _ _ hbB)
 have eG5 := kG5.lst dG eG
 have pb5 : Paired (BarR K H5 pA) vs' bars := Paired.mapP pbB fun _ _ z => (z.same sG).k3 kG5 dG
 have pg5 : Paired (BarR K H5 pA) ysG (bars.filter pG) := Paired.mapP pg fun _ _ z => (z.same sG).k3 kG5 dG
 have pp5 : Paired (PinX K H5 pA) (us.eraseIdx k) rest := Paired.mapP pp4 fun _ _ z => z.k3 kG5 dG
 have hpn5 := hpnG.k3 kG5 dG
 refine ⟨_, rfl, bA, rfl, ⟨_, SqL.of hb5⟩, fun DK nK => ?_⟩
 refine comp_listF (K := K) (a := bA) (xs := vs') (zs := bars) (Rl := BarR K H5 pA) (cap := [some (.ref DG)]) (fun b => !pG b) pb5 nK (by rw [lv]; exact Nat.lt_of_le_of_lt (show bars.length ≤ 1000 by omega) (by decide)) (fun H2 s2 => SqL.of (s2 _ _ hb5)) ?_ ?_ ?_
 ·intro x z HC RC hz mz sC kC
  refine ⟨_, rfl, _, rfl, DG, ysG, (bars.filter pG).map barDa, z.nm, barR' z, pG z, rfl, SqL.of (sC _ _ eG5), bars_iss (Paired.mapP pg5 fun _ _ y => y.same sC), (hz.same sC).is, fun e he => ?_, ⟨fun h => ⟨barR' z, List.mem_map.mpr ⟨z, List.mem_filter.mpr ⟨mz, h⟩, rfl⟩⟩, fun ⟨r, h⟩ => ?_⟩, _, rfl, kC _ (Same.refl _)⟩
  ·obtain ⟨b', h1, rfl⟩ := List.mem_map.mp he
   refine ⟨b'.nm, barR' b', rfl, bar_alike _ _, bar_dep _, fun en => ?_⟩
   rw [nm_inj (nm := BarD.nm) gb.nb (List.mem_filter.mp h1).1 mz en]
   exact bar_eq _
  ·obtain ⟨b', h1, h2⟩ := List.mem_map.mp h
   unfold barDa at h2
   simp only [Da.t.injEq, List.cons.injEq, Da.v.injEq, V.str.injEq] at h2
   obtain ⟨h3, h4⟩ := List.mem_filter.mp h1
   rw [nm_inj (nm := BarD.nm) gb.nb h3 mz h2.1] at h4
   exact h4
 ·intro x z HC RC hz sC k
  exact ⟨_, rfl, k⟩
 intro ysK HK pk sK eK
 generalize hkp : bars.filter (fun b => !pG b) = kept at *
 have lK : ysK.length = kept.length := Paired.length pk
 have kl8 : kept.length + (bars.filter pG).length = bars.length := by
  rw [← hkp]
  exact filt_len pG bars
 have R5K := R5.same sK
 refine ⟨_, rfl, DG, rfl, ⟨_, SqL.of (sK _ _ eG5)⟩, for_list (K := K) (a := DG) (xs := ysG) (fun i σ H' => ∃ (o11 o12 o13 : Option V) (kB : List (Key × V)) (ws : List V) (news : List BarD), σ = [some (.ref a), some (.ref pA), some (.ref DK), some (.int c), some (.int (farI sc)), some (.str p.nm), some (.ref sa), some (.ref lw), some (.ref pn), some (.ref DG), o10, o11, o12, o13] ∧ KSame pB H5 H' ∧ FrR K H' C a dx pP pW pB (mpP (rest ++ [p2])) (mpB (kept ++ news)) kP5 kW5 kB ∧ H' DK = some (.lst ws) ∧
   Paired (fun v b => ∃ t v1 v2, v = .ref t ∧ SqT K H' t [.str b.nm, v1, v2] ∧ PinX K H5 pA v1 b.one ∧ PinX K H5 pA v2 b.other) ws (kept ++ news) ∧ news.map (·.nm) = ((bars.filter pG).take i).map (·.nm) ∧ ∀ b ∈ news, b.one ∈ rest ++ [p2] ∧ b.other ∈ rest ++ [p2] ∧ b.one.nm ≠ b.other.nm)
   ⟨none, none, none, kB3, ysK, [], rfl, fun b o _ z => sK _ _ z, by rw [List.append_nil]; exact R5K, eK, by rw [List.append_nil]; exact Paired.mapP pk (fun _ _ ⟨t, v1, v2, e1, h1, h2, h3⟩ => ⟨t, v1, v2, e1, Ty.Same.seqT sK h1, h2, h3⟩), rfl, fun b hb => nomatch hb⟩ (fun i σ H' _ h => by
   obtain ⟨_, _, _, _, _, _, _, k, _⟩ := h
   exact SqL.of (k _ _ (fun z => by rw [z, R5.br] at eG5; cases eG5) eG5)) ?_ ?_⟩
 ·rintro i u σ H6 hu ⟨o11, o12, o13, kB6, ws, news, rfl, k6, R6, hK6, pw6, nm6, en6⟩
  obtain ⟨b, eb, hbr⟩ := paired_get pg5 hu
  have t6 : SameT H5 H6 := ks_t k6 R5.br
  have lst6 : ∀ {e : Addr} {xs : List V}, H5 e = some (.lst xs) → H6 e = some (.lst xs) := fun {e xs} h => k6 _ _ (fun z => by rw [z, R5.br] at h; cases h) h
  obtain ⟨tb, u1, u2, rfl, b1, b2, b3⟩ := hbr
  have mb := (List.mem_filter.mp (List.mem_of_getElem? eb)).1
  obtain ⟨m1, m2, m3⟩ := gb.ends b mb
  have il : i < (bars.filter pG).length := (List.getElem?_eq_some_iff.mp eb).1
  refine ⟨tb, _, rfl, t6.seqT b1, rfl, _, _, rfl, _, _, rfl, _, _, rfl, rfl, ?_⟩
  dsimp only
  refine seq_rest (fun σ' H' => ∃ (v1 : V) (q1 : PinD), σ' = [some (.ref a), some (.ref pA), some (.ref DK), some (.int c), some (.int (farI sc)), some (.str p.nm), some (.ref sa), some (.ref lw), some (.ref pn), some (.ref DG), o10, some (.str b.nm), some v1, some u2] ∧ H' = H6 ∧ PinX K H5 pA v1 q1 ∧ q1 ∈ rest ++ [p2] ∧ q1.nm = b.one.nm) (fun Nx hNx => ?_) ?_
  ·obtain ⟨a1, l1, sv1, us1, e1, b11, _⟩ := id b2
   refine ⟨_, rfl, a1, _, _, _, e1, rfl, t6.seqT b11, rfl, _, rfl, rfl, _, rfl, ?_⟩
   refine ite2 (fun cc => ?_) (fun cc => ?_)
   ·have ee : b.one.nm = p.nm := by simpa [eqV] using cc
    exact ⟨_, rfl, hNx _ _ ⟨.ref pn, p2, rfl, rfl, hpn5, by simp, n2m.trans ee.symm⟩⟩
   ·have ee : b.one.nm ≠ p.nm := by simpa [eqV] using cc
    exact hNx _ _ ⟨u1, b.one, rfl, rfl, b2, List.mem_append_left _ (torest _ m1 ee), rfl⟩
  rintro σ' Hy ⟨v1, q1, rfl, rfl, x1', y1', z1'⟩
  refine seq_rest (fun σ' H' => ∃ (v2 : V) (q2 : PinD), σ' = [some (.ref a), some (.ref pA), some (.ref DK), some (.int c), some (.int (farI sc)), some (.str p.nm), some (.ref sa), some (.ref lw), some (.ref pn), some (.ref DG), o10, some (.str b.nm), some v1, some v2] ∧ H' = Hy ∧ PinX K H5 pA v2 q2 ∧ q2 ∈ rest ++ [p2] ∧ q2.nm = b.other.nm) (fun Nx hNx => ?_) ?_
  ·obtain ⟨a2, l2, sv2, us2, e2, b21, _⟩ := id b3
   refine ⟨_, rfl, a2, _, _, _, e2, rfl, t6.seqT b21, rfl, _, rfl, rfl, _, rfl, ?_⟩
   refine ite2 (fun cc => ?_) (fun cc => ?_)
   ·have ee : b.other.nm = p.nm := by simpa [eqV] using cc
    exact ⟨_, rfl, hNx _ _ ⟨.ref pn, p2, rfl, rfl, hpn5, by simp, n2m.trans ee.symm⟩⟩
   ·have ee : b.other.nm ≠ p.nm := by simpa [eqV] using cc
    exact hNx _ _ ⟨u2, b.other, rfl, rfl, b3, List.mem_append_left _ (torest _ m2 ee), rfl⟩
  rintro σ' Hz ⟨v2, q2, rfl, rfl, x2', y2', z2'⟩
  have nq : q1.nm ≠ q2.nm := by rw [z1', z2']; exact m3
  have lR : (us.eraseIdx k).length = rest.length := Paired.length pp5
  refine seq_rest (fun σ' H' => ∃ (w1 w2 : V) (r1 r2 : PinD), σ' = [some (.ref a), some (.ref pA), some (.ref DK), some (.int c), some (.int (farI sc)), some (.str p.nm), some (.ref sa), some (.ref lw), some (.ref pn), some (.ref DG), o10, some (.str b.nm), some w1, some w2] ∧ H' = Hz ∧ PinX K H5 pA w1 r1 ∧ PinX K H5 pA w2 r2 ∧ r1 ∈ rest ++ [p2] ∧ r2 ∈ rest ++ [p2] ∧ r1.nm ≠ r2.nm) (fun Nx hNx => ?_) ?_
  ·refine ⟨_, rfl, pA, _, rfl, .inl (SqL.of (lst6 hpA5)), _, _, rfl, rfl, _, rfl, ?_⟩
   refine ite2 (fun c1 => ?_) (fun c1 => ?_)
   ·have c1' : 1 < rest.length := by
     have := of_decide_eq_true c1
     omega
    obtain ⟨g0, eg0⟩ : ∃ g0, (bars.filter pG)[0]? = some g0 := ⟨_, gE (by omega)⟩
    obtain ⟨y0, ey0⟩ : ∃ y0, ysG[0]? = some y0 := ⟨_, gE (by omega)⟩
    obtain ⟨g1, eg1, tg, w1, w2, rfl, hg1, _⟩ := paired_get pg5 ey0
    refine ⟨_, rfl, _, rfl, DG, _, _, _, rfl, rfl, SqL.of (lst6 eG5), atI_nat (j := 0) ey0, tg, _, _, _, rfl, rfl, t6.seqT hg1, rfl, rfl, _, rfl, ?_⟩
    refine ite2 (fun c2 => ?_) (fun c2 => ?_)
    ·have d8 : CDivB c 8 := ⟨by decide, by decide +kernel⟩
     have mj := fmod_in (x := c.fdiv 8) (m := 2) (by decide)
     obtain ⟨j, ej⟩ : ∃ j : Nat, (c.fdiv 8).fmod 2 = (j : Int) := ⟨_, (Int.toNat_of_nonneg mj.1).symm⟩
     have j2 : j < 2 := by omega
     obtain ⟨f1, ef1⟩ : ∃ f1, (us.eraseIdx k)[j]? = some f1 := ⟨_, gE (by omega)⟩
     obtain ⟨f2, ef2⟩ : ∃ f2, (us.eraseIdx k)[1 - j]? = some f2 := ⟨_, gE (by omega)⟩
     obtain ⟨r1, er1, hr1⟩ := paired_get pp5 ef1
     obtain ⟨r2, er2, hr2⟩ := paired_get pp5 ef2
     have nrest : (rest.map (·.nm)).Nodup := by
      rw [← hrest]
      exact ((List.eraseIdx_sublist _ _).map _).nodup gp.np
     have e12 : (1 : Int) - (j : Int) = ((1 - j : Nat) : Int) := by omega
     refine ⟨_, rfl, _, rfl, _, _, rfl, rfl, d8, _, _, rfl, rfl, nz (by decide), pA, _, _, f1, rfl, rfl, SqL.of (lst6 hpA5), (by rw [ej]; exact atI_nat ef1), ?_⟩
     refine ⟨_, rfl, _, rfl, _, _, rfl, rfl, d8, _, _, rfl, rfl, nz (by decide), _, _, rfl, rfl, pA, _, _, f2, rfl, rfl, SqL.of (lst6 hpA5), (by rw [ej, e12]; exact atI_nat ef2), ?_⟩
     exact ⟨_, _, rfl, hNx _ _ ⟨f1, f2, r1, r2, rfl, rfl, hr1, hr2, List.mem_append_left _ (List.mem_of_getElem? er1), List.mem_append_left _ (List.mem_of_getElem? er2), names_new nrest er1 er2 (by omega)⟩⟩
    ·exact hNx _ _ ⟨v1, v2, q1, q2, rfl, rfl, x1', x2', y1', y2', nq⟩
   ·exact hNx _ _ ⟨v1, v2, q1, q2, rfl, rfl, x1', x2', y1', y2', nq⟩
  rintro σ' Hw ⟨w1, w2, r1, r2, rfl, rfl, hw1, hw2, hr1, hr2, nrr⟩
  obtain ⟨a1, l1, sv1, us1, e1, b11, _⟩ := id hw1
  obtain ⟨a2, l2, sv2, us2, e2, b21, _⟩ := id hw2
  have ln6 : news.length = i := by
   have := congrArg List.length nm6
   rw [List.length_map, List.length_map, List.length_take] at this
   omega
  refine ⟨_, rfl, a, C, dx, _, _, _, rfl, R6.obj, rfl, MPb, _, rfl, _, rfl, a1, _, _, _, e1, rfl, t6.seqT b11, rfl, _, rfl, a2, _, _, _, e2, rfl, t6.seqT b21, rfl, ?_⟩
  refine ⟨a, dx, pP, pW, pB, _, _, kP5, kW5, kB6, b.nm, r1.nm, r2.nm, rfl, R6, fun z => ?_, ?_, ?_, nrr, ?_, fun H7 kB7 k7 R7 => ?_⟩
  ·rw [List.map_map] at z
   obtain ⟨b', h1, h2⟩ := List.mem_map.mp z
   have h2' : b'.nm = b.nm := h2
   rcases List.mem_append.mp h1 with h1 | h1
   ·rw [← hkp] at h1
    obtain ⟨h3, h4⟩ := List.mem_filter.mp h1
    have := nm_inj (nm := BarD.nm) gb.nb h3 mb h2'
    rw [this, (List.mem_filter.mp (List.mem_of_getElem? eb)).2] at h4
    cases h4
   ·have h3 : b.nm ∈ ((bars.filter pG).take i).map (·.nm) := by
     rw [← nm6, ← h2']
     exact List.mem_map.mpr ⟨b', h1, rfl⟩
    obtain ⟨b'', h4, h5⟩ := List.mem_map.mp h3
    exact take_new (nm := BarD.nm) ndG eb h4 h5
  ·rw [List.map_map]
   exact List.mem_map.mpr ⟨_, hr1, rfl⟩
  ·rw [List.map_map]
   exact List.mem_map.mpr ⟨_, hr2, rfl⟩
  ·rw [List.length_map, List.length_append]
   omega
  ·have hK7 := k7 _ _ (fun z => by rw [z, R6.br] at hK6; cases hK6) hK6
   have lws : ws.length = kept.length + news.length := by rw [Paired.length pw6, List.length_append]
   refine ⟨_, rfl, .inl ⟨rfl, _, SqL.of hK7⟩, _, rfl, _, rfl, _, rfl, L3, ?_⟩
   intro p8 nq8; generalize eX : upd _ p8 _ = Hq8; have ⟨sq8, eq8⟩ := nw nq8 eX; clear eX
   have hK8 := sq8 _ _ hK7
   refine ⟨DK, _, _, rfl, rfl, hK8, Nat.lt_of_le_of_lt (show ws.length ≤ 1000 by omega) (by decide), ?_⟩
   have t8 : SameT Hq8 (upd Hq8 DK (.lst (ws ++ [.ref p8]))) := .list hK8
   have t68 : SameT Hw Hq8 := (ks_t k7 R6.br).trans (.of sq8)
   have R8 := R7.same sq8
   have nR : ∀ {e : Addr} {o : HO}, Hq8 e = some o → (∀ xs, o ≠ .lst xs) → e ≠ DK := fun {e o} h n z => by
    rw [z, hK8] at h
    cases h
    exact n _ rfl
   refine ⟨_, _, _, kB7, _, news ++ [⟨b.nm, r1, r2⟩], rfl, fun b' o n z => ?_, ?_, upd_same, ?_, ?_, fun b' hb' => ?_⟩
   ·have nK' : b' ≠ DK := fun y => by rw [y, nK] at z; cases z
    rw [upd_ne nK']
    exact sq8 _ _ (k7 _ _ n (k6 _ _ n z))
   ·rw [← List.append_assoc, mpB_app]
    exact R8.sameT_of t8 (upd_ne (nR R8.obj fun _ z => nomatch z)) (upd_ne (nR R8.pl fun _ z => nomatch z)) (upd_ne (nR R8.wy fun _ z => nomatch z)) (upd_ne (nR R8.br fun _ z => nomatch z))
   ·rw [← List.append_assoc]
    refine paired_snoc (Paired.mapP pw6 fun _ _ ⟨t, v1, v2, y1, y2, y3, y4⟩ => ⟨t, v1, v2, y1, t8.seqT (t68.seqT y2), y3, y4⟩) ⟨p8, w1, w2, rfl, t8.seqT (SqT.of eq8), hw1, hw2⟩
   ·rw [take_snoc eb, List.map_append, List.map_append, nm6]
    rfl
   ·rcases List.mem_append.mp hb' with h | h
    ·exact en6 b' h
    ·rw [List.mem_singleton.mp h]
     exact ⟨hr1, hr2, nrr⟩
 rintro σ H6 ⟨o11, o12, o13, kB6, ws, news, rfl, k6, R6, hK6, pw6, nm6, en6⟩
 rw [lG, List.take_length] at nm6
 have hpA6 := k6 _ _ (fun z => by rw [z, R5.br] at hpA5; cases hpA5) hpA5
 have lR : (us.eraseIdx k).length = rest.length := Paired.length pp5
 refine ⟨_, rfl, .inl ⟨rfl, _, SqL.of hpA6⟩, _, rfl, pA, _, _, rfl, rfl, hpA6, Nat.lt_of_le_of_lt (show (us.eraseIdx k).length ≤ 1000 by omega) (by decide), ?_⟩
 have t6 : SameT H5 H6 := ks_t k6 R5.br
 have W6 := wy_ks W5 k6 R5.br
 have F6 : FrB K H6 C a dx pP pW pB pA (rest ++ [p2]) (kept ++ news) := ⟨kP5, kW5, kB6, R6, W6, nW5⟩
 have t7 : SameT H6 (upd H6 pA (.lst (us.eraseIdx k ++ [.ref pn]))) := .list hpA6
 have px6 : ∀ {v : V} {q : PinD}, PinX K H5 pA v q → PinX K (upd H6 pA (.lst (us.eraseIdx k ++ [.ref pn]))) pA v q := fun z => (z.ks k6 R5.br).upd hpA6
 have nDK : DK ≠ pA := fun z => by rw [z, hpA5] at nK; cases nK
 refine ⟨_, rfl, q DK _ ws rest p2 (kept ++ news) _ (fun b o n1 n2 n3 n4 z => ?_) (F6.upd hpA6) upd_same (paired_snoc (Paired.mapP pp5 fun _ _ z => px6 z) (px6 hpn5)) (by rw [upd_ne nDK]; exact hK6) (Paired.mapP pw6 fun _ _ ⟨t, v1, v2, y1, y2, y3, y4⟩ => ⟨t, v1, v2, y1, t7.seqT y2, px6 y3, px6 y4⟩) ?_ (fun q' hq' => (mrest q' hq').1) (fun q' hq' => ?_)⟩
 ·rw [upd_ne n4]
  exact k6 _ _ n3 (kG5 b o n1 n2 n3 (sG _ _ (s1B _ _ (k1 b o n4 z))))
 ·have nrest : (rest.map (·.nm)).Nodup := by
   rw [← hrest]
   exact ((List.eraseIdx_sublist _ _).map _).nodup gp.np
  have ln6 : news.length = (bars.filter pG).length := by
   have := congrArg List.length nm6
   rw [List.length_map, List.length_map] at this
   exact this
  have wsk : ∀ q' ∈ rest ++ [p2], WaysOk q'.ws := fun q' hq' => by
   rcases List.mem_append.mp hq' with h | h
   ·exact gp.ws q' (mrest q' h).1
   ·rw [List.mem_singleton.mp h, ← hp2]
    exact wk
  refine ⟨?_, ?_, fun b hb' => ?_, fun q' hq' => ?_, by rw [List.length_append, List.length_singleton]; omega, by rw [List.length_append]; omega, fun q' hq' => (wsk q' hq').len⟩
  ·rw [List.map_append, List.nodup_append]
   refine ⟨nrest, by simp, fun x hx y hy e => ?_⟩
   have ey : y = p2.nm := by simpa using hy
   obtain ⟨q', h1, h2⟩ := List.mem_map.mp hx
   exact (mrest q' h1).2 (h2.trans (e.trans (ey.trans n2m)))
  ·rw [List.map_append, nm6, ← hkp]
   exact nodup_parts gb.nb pG
  ·rcases List.mem_append.mp hb' with h | h
   ·have h1 := notG b h
    rw [← hkp] at h
    obtain ⟨m1, m2, m3⟩ := gb.ends b (List.mem_filter.mp h).1
    exact ⟨List.mem_append_left _ (torest _ m1 h1.1), List.mem_append_left _ (torest _ m2 h1.2), m3⟩
   ·exact en6 b h
  ·refine ⟨?_, ?_, (wsk q' hq').sz⟩
   ·rcases List.mem_append.mp hq' with h | h
    ·exact (gp.sz q' (mrest q' h).1).1
    ·rw [List.mem_singleton.mp h, ← hp2]
     exact ((nr p mp).1.add (far_sz sc)).up (by decide)
   ·rcases List.mem_append.mp hq' with h | h
    ·exact (gp.sz q' (mrest q' h).1).2
    ·rw [List.mem_singleton.mp h, ← hp2]
     exact (gp.sz p mp).2
 ·rcases List.mem_append.mp hq' with h | h
  ·exact gp.ws q' (mrest q' h).1
  ·rw [List.mem_singleton.mp h, ← hp2]
   exact wk
def NmS (K : Frag) (H : Hp) (v : V) : Prop := ∃ r, NmR K H v r ∧ Sz 50 r
theorem NmS.t {K : Frag} {H H' : Hp} {v : V} (h : NmS K H v) (s : SameT H H') : NmS K H' v := by
 obtain ⟨r, h1, h2⟩ := h
 exact ⟨r, h1.sameT s, h2⟩
def LsS (K : Frag) (H : Hp) (n : Nat) (v : V) : Prop := ∃ (l : Addr) (us : List V) (rs : List Rat), v = .ref l ∧ H l = some (.lst us) ∧ Paired (NmR K H) us rs ∧ (∀ r ∈ rs, Sz 50 r) ∧ rs.length = n
theorem LsS.same {K : Frag} {H H' : Hp} {n : Nat} {v : V} (h : LsS K H n v) (s : Same H H') : LsS K H' n v := by
 obtain ⟨l, us, rs, e, h1, h2, h3⟩ := h
 exact ⟨l, us, rs, e, s _ _ h1, Paired.mapP h2 fun _ _ z => z.same s, h3⟩
def spPull (K : Frag) : Sp := fun vs H Q _ => ∃ c sc : Int, vs = [.int c, .int sc] ∧ intBits c ≤ 2000000 ∧ 0 ≤ sc ∧ sc ≤ 997 ∧ ∀ (v : V) (H' : Hp), Same H H' → (v ≠ .non → NmS K H' v) → Q v H'
theorem sc_bb : FnScope ["_law_cell", "_law_scale"] ["_law_cell", "_law_scale"] (defScope s_bb) := sq
theorem ok_bb (D : Def K mg "_law_pull" s_bb ["_law_cell", "_law_scale"]) (G_av : Fn P w K mg base (CXr P w) 34 "_law_drawn" ["_law_cell", "_law_scale"] spDrawn) : Fn P w K mg base (CXr P w) 35 "_law_pull" ["_law_cell", "_law_scale"] (spPull K) := by
 refine D.ok sc_bb (fun vs H Q E h => ?_) (fun f cdv A outer s H vs Q E hr h => ?_)
 ·obtain ⟨c, sc, rfl, _⟩ := h
  rfl
 obtain ⟨c, sc, rfl, bc, c0, c9, q⟩ := h
 have d5 : CDivB c 5 := ⟨by decide, by decide +kernel⟩
 have b5 := bits_fdiv (a := c) (m := 5) (by decide) bc
 refine ⟨_, (pss_cons (ps_if (pt_cmpR op_eq (pe_op op_modB (pv 0) pe_int) pe_int (nomark _)) (pss_one (ps_ret pe_non)) pss_nil)
  (pss_one (ps_ret (pe_fn G_av hr.mo pX (pac (pe_op op_fdivB (pv 0) pe_int) (pac (pv 1) pa_nil)))))), ?_⟩
 refine ⟨_, rfl, _, _, rfl, rfl, nz (by decide), rfl, _, rfl, ?_⟩
 refine ite2 (fun _ => q _ _ (Same.refl _) fun z => absurd rfl z) (fun _ => ?_)
 exact ⟨_, rfl, _, _, rfl, rfl, d5, _, rfl, _, _, rfl, b5, c0, c9, fun r z1 _ p1 H4 s4 e4 => q _ H4 s4 fun _ => ⟨r, nm_of e4, z1⟩⟩
theorem rel_list {α β : Type} {R : α → β → Prop} : ∀ {ys : List α}, (∀ (i : Nat) v, ys[i]? = some v → ∃ r, R v r) → ∃ rs, Paired R ys rs
 | [], _ => ⟨[], .nil⟩
 | y :: ys, h => by
  obtain ⟨r, hr⟩ := h 0 y rfl
  obtain ⟨rs, p⟩ := rel_list (ys := ys) fun i v e => h (i + 1) v (by simpa using e)
  exact ⟨r :: rs, .cons hr p⟩
theorem paired_and {α β : Type} {R : α → β → Prop} {Z : β → Prop} : ∀ {ys : List α} {rs : List β}, Paired (fun v r => Z r ∧ R v r) ys rs → Paired R ys rs ∧ ∀ r ∈ rs, Z r
 | _, _, .nil => ⟨.nil, by simp⟩
 | _, _, .cons h t => by
  obtain ⟨t1, t2⟩ := paired_and t
  refine ⟨.cons h.2 t1, fun r hr => ?_⟩
  rcases List.mem_cons.mp hr with e | e
  ·rw [e]
   exact h.1
  ·exact t2 r e
def spPushes (K : Frag) : Sp := fun vs H Q _ => ∃ (c sc : Int) (l : Addr) (us : List V), vs = [.int c, .int sc, .ref l] ∧ intBits c ≤ 2000000 ∧ 0 ≤ sc ∧ sc ≤ 997 ∧ H l = some (.lst us) ∧ us.length ≤ 2 ∧ ∀ (v : V) (H' : Hp), Same H H' → (v ≠ .non → LsS K H' us.length v) → (∀ l', v = .ref l' → H l' = none) → (v = .non → c.fmod 5 = 4) → Q v H'
theorem sc_al : FnScope ["_law_cell", "_law_scale", "_law_ways_here"] ["_law_cell", "_law_scale", "_law_ways_here"] (defScope s_al) := sq
theorem ok_al (D : Def K mg "_law_pushes" s_al ["_law_cell", "_law_scale", "_law_ways_here"]) (m_len : mg "len" = none) (m_range : mg "range" = none) (G_b6 : Fn P w K mg base (CXr P w) 1 "_law_part" ["_law_cell", "_law_k"] spPart) (G_av : Fn P w K mg base (CXr P w) 34 "_law_drawn" ["_law_cell", "_law_scale"] spDrawn) : Fn P w K mg base (CXr P w) 35 "_law_pushes" ["_law_cell", "_law_scale", "_law_ways_here"] (spPushes K) := by
 refine D.ok sc_al (fun vs H Q E h => ?_) (fun f cdv A outer s H vs Q E hr h => ?_)
 ·obtain ⟨c, sc, l, us, rfl, _⟩ := h
  rfl
 obtain ⟨c, sc, l, us, rfl, bc, c0, c9, hl, l2, q⟩ := h
 have d5 : CDivB c 5 := ⟨by decide, by decide +kernel⟩
 have b5 := bits_fdiv (a := c) (m := 5) (by decide) bc
 refine ⟨_, (pss_cons (ps_if (pt_cmpR op_eq (pe_op op_modB (pv 0) pe_int) pe_int (nomark _)) (pss_one (ps_ret pe_non)) pss_nil)
  (pss_one (ps_ret (pe_comp (tn := ["_law_k"]) (fr := ["_law_scale", "_law_cell"]) (caps := [1, 0]) rfl ⟨rfl, by decide +kernel, rfl, by decide +kernel, by decide +kernel, rfl, ⟨(by first | exact Or.inl rfl | exact Or.inr rfl), ⟨(by first | exact Or.inl rfl | exact Or.inr rfl), trivial⟩⟩, ⟨(by first | exact Or.inl rfl | exact Or.inr rfl), ⟨(by first | exact Or.inl rfl | exact Or.inr rfl), trivial⟩⟩⟩ (pi_range1 rfl m_range (pac (pe_callB call_len_seq rfl m_len b_len (pac (pv 2) pa_nil)) pa_nil)) (fun _ _ _ _ => (pg_name (i := 0) (show (["_law_k", "_law_scale", "_law_cell"] : List Str).Nodup from by decide +kernel) rfl (Or.inl rfl))) (fun _ _ _ _ => pf_nil) (fun _ _ _ _ => (pe_fn G_av hr.mo (passB (by first | assumption | exact CXr.mute) rfl) (pac (pe_fn G_b6 hr.mo (passB (by first | assumption | exact CXr.mute) rfl) (pac (pe_op op_fdivB (pv 2) pe_int) (pac (pv 0) pa_nil))) (pac (pv 1) pa_nil)))))))), ?_⟩
 refine ⟨_, rfl, _, _, rfl, rfl, nz (by decide), rfl, _, rfl, ?_⟩
 refine ite2 (fun cc => q _ _ (Same.refl _) (fun z => absurd rfl z) (fun _ z => nomatch z) fun _ => by simpa [eqV] using cc) (fun _ => ?_)
 refine ⟨_, rfl, l, _, rfl, .inl (SqL.of hl), ((us.length : Nat) : Int), rfl, by omega, by omega, fun D1 nD => ?_⟩
 refine comp_range (lo := 0) (n := us.length) (cap := [some (.int sc), some (.int c)]) (fun _ v H' => ∃ r, Sz 50 r ∧ NmR K H' v r) nD (Nat.lt_of_le_of_lt (show us.length ≤ 1000 by omega) (by decide)) (fun _ _ _ _ _ h0 ks h => by
   obtain ⟨r, z1, z2⟩ := h
   refine ⟨r, z1, z2.sameT fun b xs y => ?_⟩
   rcases y with y | ⟨o', y⟩
   ·exact .inl (ks _ _ (fun e => by rw [e, h0] at y; cases y) y)
   ·exact .inr ⟨o', ks _ _ (fun e => by rw [e, h0] at y; cases y) y⟩) ?_ ?_
 ·intro i H2 R hi s2 k
  have ei : (0 : Int) + (i : Int) = (i : Int) := Int.zero_add _
  rw [ei]
  refine ⟨_, rfl, _, _, rfl, rfl, d5, _, rfl, _, _, rfl, b5, by omega, by omega, fun c3 H3 h30 h31 s3 => ?_⟩
  have b3 : intBits c3 ≤ 2000000 := Nat.le_trans (intBits_le_64 (by omega) (by omega)) (by decide)
  exact ⟨_, rfl, _, _, rfl, b3, c0, c9, fun r z1 _ p1 H4 s4 e4 => k _ H4 (sm_tr s3 s4) ⟨r, z1, nm_of e4⟩⟩
 ·intro ys H2 hy hrel s2 hD
  obtain ⟨rs, prs⟩ := rel_list (R := fun v r => Sz 50 r ∧ NmR K H2 v r) hrel
  obtain ⟨p1, p2⟩ := paired_and prs
  exact q _ H2 s2 (fun _ => ⟨D1, ys, rs, rfl, hD, p1, p2, by rw [← Paired.length p1, hy]⟩) (fun l' z => by cases z; exact nD) fun z => nomatch z
structure RwG (K : Frag) (H : Hp) (us : List V) (rows : List (Str × V)) (nms : List Str) (P : Str → V → Prop) : Prop where
 rw : Paired (RowR K H) us rows
 nm : rows.map (·.1) = nms
 pr : ∀ r ∈ rows, r.2 ≠ V.non → P r.1 r.2
theorem RwG.len {K : Frag} {H : Hp} {us : List V} {rows : List (Str × V)} {nms : List Str} {P : Str → V → Prop} (h : RwG K H us rows nms P) : us.length = nms.length ∧ rows.length = nms.length := by
 have e1 := Paired.length h.rw
 have e2 := congrArg List.length h.nm
 rw [List.length_map] at e2
 exact ⟨by omega, e2⟩
theorem RwG.t {K : Frag} {H H' : Hp} {us : List V} {rows : List (Str × V)} {nms : List Str} {P P' : Str → V → Prop} (h : RwG K H us rows nms P) (s : SameT H H') (hp : ∀ x v, P x v → P' x v) : RwG K H' us rows nms P' :=
 ⟨Paired.mapP h.rw fun _ _ ⟨a, e, z⟩ => ⟨a, e, s.seqT z⟩, h.nm, fun r hr n => hp _ _ (h.pr r hr n)⟩
theorem RwG.snoc {K : Frag} {H : Hp} {us : List V} {rows : List (Str × V)} {nms : List Str} {P : Str → V → Prop} {x : Str} {v : V} {a : Addr} (h : RwG K H us rows nms P) (e : SqT K H a [.str x, v]) (hv : v ≠ V.non → P x v) : RwG K H (us ++ [.ref a]) (rows ++ [(x, v)]) (nms ++ [x]) P := by
 refine ⟨paired_snoc h.rw ⟨a, rfl, e⟩, by rw [List.map_append, h.nm]; rfl, fun r hr n => ?_⟩
 rcases List.mem_append.mp hr with z | z
 ·exact h.pr r z n
 ·rw [List.mem_singleton.mp z] at n ⊢
  exact hv n
def spAllPulls (K : Frag) : Sp := fun vs H Q _ => ∃ (sA bA pA : Addr) (ns : List Int) (vs' : List V) (bars : List BarD) (sc : Int), vs = [.ref sA, .ref bA, .int sc] ∧ SqL K H sA (ns.map V.int) ∧ (∀ i ∈ ns, intBits i ≤ 1048576) ∧ H bA = some (.lst vs') ∧ Paired (BarR K H pA) vs' bars ∧ bars.length ≤ 8 ∧ 0 ≤ sc ∧ sc ≤ 997 ∧
 ∀ (l : Addr) (us : List V) (rows : List (Str × V)) (H' : Hp), Same H H' → H l = none → H' l = some (.lst us) → RwG K H' us rows (bars.map (·.nm)) (fun _ v => NmS K H' v) → Q (.ref l) H'
theorem sc_a7 : FnScope ["_law_script", "_law_bars_here", "_law_scale", "_law_found", "_law_k"] ["_law_script", "_law_bars_here", "_law_scale"] (defScope s_a7) := sq
theorem ok_a7 (D : Def K mg "_law_all_pulls" s_a7 ["_law_script", "_law_bars_here", "_law_scale"]) (m_len : mg "len" = none) (m_range : mg "range" = none) (G_ad : Fn P w K mg base (CXr P w) 1 "_law_cell_at" ["_law_script", "_law_k"] (spCell K)) (G_bb : Fn P w K mg base (CXr P w) 35 "_law_pull" ["_law_cell", "_law_scale"] (spPull K)) :
  Fn P w K mg base (CXr P w) 36 "_law_all_pulls" ["_law_script", "_law_bars_here", "_law_scale"] (spAllPulls K) := by
 refine D.ok sc_a7 (fun vs H Q E h => ?_) (fun f cdv A outer s H vs Q E hr h => ?_)
 ·obtain ⟨sA, bA, pA, ns, vs', bars, sc, rfl, _⟩ := h
  rfl
 obtain ⟨sA, bA, pA, ns, vs', bars, sc, rfl, hS, hbi, hb, pb, lb, c0, c9, q⟩ := h
 have lv : vs'.length = bars.length := Paired.length pb
 refine ⟨_, (pss_cons (ps_set (i := 3) sc_a7.nd rfl (Or.inl rfl) (pe_lst pa_nil))
  (pss_cons (ps_for PassesOwn.never rfl (pi_range1 rfl m_range (pac (pe_callB call_len_seq rfl m_len b_len (pac (pv 1) pa_nil)) pa_nil)) (pg_name (i := 4) sc_a7.nd rfl (Or.inl rfl)) (pss_one (ps_expr (pe_bm PySem.F.plainAttrs_list PySem.F.slot_list_append PySem.F.type_list_append mt_append (pv 3) (pac (pe_tup (pac (pe_tx (pe_ix ix_list (pv 1) (pv 4) (fun _ _ => rfl))) (pac (pe_fn G_bb hr.mo pX (pac (pe_op op_add (pe_fn G_ad hr.mo pX (pac (pv 0) (pac (pe_op op_add pe_int (pv 4)) pa_nil))) (pe_op op_mulB (pe_op op_mulB pe_int (pv 4)) (pv 4))) (pac (pv 2) pa_nil))) pa_nil))) pa_nil)))))
  (pss_one (ps_ret (pv 3))))), ?_⟩
 refine ⟨(by show 0 ≤ sizeLine; decide), ?_⟩
 intro l0 n0; generalize eX : upd _ l0 _ = H0; have ⟨s0, e0⟩ := nw n0 eX; clear eX
 refine ⟨_, rfl, bA, _, rfl, .inl (SqL.of (s0 _ _ hb)), ((vs'.length : Nat) : Int), rfl, by omega, by omega, for_range (lo := 0) (n := vs'.length) (fun i σ H' => ∃ (o4 : Option V) (us : List V) (rows : List (Str × V)), σ = [some (.ref sA), some (.ref bA), some (.int sc), some (.ref l0), o4] ∧ Same H H' ∧ H' l0 = some (.lst us) ∧ RwG K H' us rows ((bars.take i).map (·.nm)) (fun _ v => NmS K H' v)) ⟨none, [], [], rfl, s0, e0, .nil, rfl, fun r h => nomatch h⟩ ?_ ?_⟩
 ·rintro i σ H1 hi ⟨o4, us, rows, rfl, s1, e1, rg⟩
  have ei : (0 : Int) + (i : Int) = (i : Int) := Int.zero_add _
  rw [ei]
  obtain ⟨b, eb, hbr⟩ := paired_get pb (gE hi)
  obtain ⟨ta, u1, u2, eta, h1, _⟩ := hbr
  obtain ⟨mm1, mm2⟩ := mul_small (m := 41) (k := i) (by decide) (by omega)
  have lg := rg.len.1
  rw [List.length_map, List.length_take] at lg
  refine ⟨_, rfl, .inl ⟨rfl, _, SqL.of e1⟩, _, rfl, _, rfl, bA, _, _, vs'[i], rfl, rfl, SqL.of (s1 _ _ hb), atI_nat (gE hi), ta, _, _, _, eta, rfl, Ty.Same.seqT s1 h1, rfl, ?_⟩
  refine ⟨_, rfl, _, rfl, _, _, rfl, rfl, sA, ns, _, rfl, s1.seq hS, hbi, by omega, by omega, fun c2 b2 => ?_⟩
  refine ⟨_, rfl, _, _, rfl, rfl, mm1, _, rfl, _, _, rfl, rfl, mm2, _, _, rfl, rfl, ?_⟩
  have bc := bits_cell (m := 41) (k := i) b2 (by omega) (by decide)
  refine ⟨_, rfl, _, _, rfl, bc, c0, c9, fun v2 H2 s2 hv => ⟨(by show 2 ≤ sizeLine; decide), ?_⟩⟩
  intro p3 n3; generalize eX : upd _ p3 _ = H3; have ⟨s3, e3⟩ := nw n3 eX; clear eX
  have s13 := sm_tr s2 s3
  have e13 := s13 _ _ e1
  refine ⟨l0, _, _, rfl, rfl, e13, Nat.lt_of_le_of_lt (show us.length ≤ 1000 by omega) (by decide), ?_⟩
  have t3 : SameT H3 (upd H3 l0 (.lst (us ++ [.ref p3]))) := .list e13
  refine ⟨_, _, rows ++ [(b.nm, v2)], rfl, fun c o z => ?_, upd_same, ?_⟩
  ·rw [upd_ne (ne_of_none z n0)]
   exact s13 _ _ (s1 _ _ z)
  ·rw [take_snoc eb, List.map_append]
   exact (rg.t (P' := fun _ v => NmS K (upd H3 l0 (.lst (us ++ [.ref p3]))) v) ((SameT.of s13).trans t3) fun _ _ z => (z.t (.of s13)).t t3).snoc (t3.seqT (SqT.of e3)) fun n => ((hv n).t (.of s3)).t t3
 ·rintro σ H1 ⟨o4, us, rows, rfl, s1, e1, rg⟩
  rw [lv, List.take_length] at rg
  exact ⟨_, rfl, q l0 us rows H1 s1 n0 e1 rg⟩
def PuS (K : Frag) (H : Hp) (pins : List PinD) (x : Str) (v : V) : Prop := ∃ p ∈ pins, p.nm = x ∧ LsS K H p.ws.length v
theorem PuS.same {K : Frag} {H H' : Hp} {pins : List PinD} {x : Str} {v : V} (h : PuS K H pins x v) (s : Same H H') : PuS K H' pins x v := by
 obtain ⟨p, hp, e, z⟩ := h
 exact ⟨p, hp, e, z.same s⟩
theorem LsS.upd {K : Frag} {H : Hp} {n : Nat} {v : V} {d : Addr} {xs : List V} {o : HO} (h : LsS K H n v) (nd : ∀ l, v = .ref l → l ≠ d) (e : H d = some (.lst xs)) : LsS K (L2.upd H d o) n v := by
 obtain ⟨l, us, rs, ev, h1, h2, h3⟩ := h
 exact ⟨l, us, rs, ev, by rw [upd_ne (nd l ev)]; exact h1, Paired.mapP h2 fun _ _ z => z.sameT (.list e), h3⟩
def spAllPushes (K : Frag) : Sp := fun vs H Q _ => ∃ (sA pA : Addr) (ns : List Int) (us' : List V) (pins : List PinD) (sc : Int), vs = [.ref sA, .ref pA, .int sc] ∧ SqL K H sA (ns.map V.int) ∧ (∀ i ∈ ns, intBits i ≤ 1048576) ∧ H pA = some (.lst us') ∧ Paired (PinX K H pA) us' pins ∧ pins.length ≤ 6 ∧ (∀ p ∈ pins, WaysOk p.ws) ∧ 0 ≤ sc ∧ sc ≤ 997 ∧
 ∀ (l : Addr) (us : List V) (rows : List (Str × V)) (H' : Hp), Same H H' → H l = none → H' l = some (.lst us) → RwG K H' us rows (pins.map (·.nm)) (fun x v => PuS K H' pins x v ∧ ∀ l, v = .ref l → H l = none) → Q (.ref l) H'
theorem sc_a4 : FnScope ["_law_script", "_law_pins_here", "_law_scale", "_law_found", "_law_k", "_law_cell"] ["_law_script", "_law_pins_here", "_law_scale"] (defScope s_a4) := sq
theorem ok_a4 (D : Def K mg "_law_all_pushes" s_a4 ["_law_script", "_law_pins_here", "_law_scale"]) (m_len : mg "len" = none) (m_range : mg "range" = none) (G_ad : Fn P w K mg base (CXr P w) 1 "_law_cell_at" ["_law_script", "_law_k"] (spCell K)) (G_al : Fn P w K mg base (CXr P w) 35 "_law_pushes" ["_law_cell", "_law_scale", "_law_ways_here"] (spPushes K)) :
  Fn P w K mg base (CXr P w) 36 "_law_all_pushes" ["_law_script", "_law_pins_here", "_law_scale"] (spAllPushes K) := by
 refine D.ok sc_a4 (fun vs H Q E h => ?_) (fun f cdv A outer s H vs Q E hr h => ?_)
 ·obtain ⟨sA, pA, ns, us', pins, sc, rfl, _⟩ := h
  rfl
 obtain ⟨sA, pA, ns, us', pins, sc, rfl, hS, hbi, hp, pp, lp, wk, c0, c9, q⟩ := h
 have lv : us'.length = pins.length := Paired.length pp
 refine ⟨_, (pss_cons (ps_set (i := 3) sc_a4.nd rfl (Or.inl rfl) (pe_lst pa_nil))
  (pss_cons (ps_for PassesOwn.never rfl (pi_range1 rfl m_range (pac (pe_callB call_len_seq rfl m_len b_len (pac (pv 1) pa_nil)) pa_nil)) (pg_name (i := 4) sc_a4.nd rfl (Or.inl rfl)) (pss_cons (ps_set (i := 5) sc_a4.nd rfl (Or.inl rfl) (pe_op op_add (pe_fn G_ad hr.mo pX (pac (pv 0) (pac (pe_op op_add pe_int (pv 4)) pa_nil))) (pe_op op_mulB (pe_op op_mulB pe_int (pv 4)) (pv 4))))
   (pss_one (ps_expr (pe_bm PySem.F.plainAttrs_list PySem.F.slot_list_append PySem.F.type_list_append mt_append (pv 3) (pac (pe_tup (pac (pe_tx (pe_ix ix_list (pv 1) (pv 4) (fun _ _ => rfl))) (pac (pe_fn G_al hr.mo pX (pac (pv 5) (pac (pv 2) (pac (pe_tx (pe_ix ix_list (pv 1) (pv 4) (fun _ _ => rfl))) pa_nil)))) pa_nil))) pa_nil))))))
  (pss_one (ps_ret (pv 3))))), ?_⟩
 refine ⟨(by show 0 ≤ sizeLine; decide), ?_⟩
 intro l0 n0; generalize eX : upd _ l0 _ = H0; have ⟨s0, e0⟩ := nw n0 eX; clear eX
 refine ⟨_, rfl, pA, _, rfl, .inl (SqL.of (s0 _ _ hp)), ((us'.length : Nat) : Int), rfl, by omega, by omega, for_range (lo := 0) (n := us'.length) (fun i σ H' => ∃ (o4 o5 : Option V) (us : List V) (rows : List (Str × V)), σ = [some (.ref sA), some (.ref pA), some (.int sc), some (.ref l0), o4, o5] ∧ Same H H' ∧ H' l0 = some (.lst us) ∧ RwG K H' us rows ((pins.take i).map (·.nm)) (fun x v => PuS K H' pins x v ∧ (∀ l, v = .ref l → l ≠ l0) ∧ ∀ l, v = .ref l → H l = none)) ⟨none, none, [], [], rfl, s0, e0, .nil, rfl, fun r h => nomatch h⟩ ?_ ?_⟩
 ·rintro i σ H1 hi ⟨o4, o5, us, rows, rfl, s1, e1, rg⟩
  have ei : (0 : Int) + (i : Int) = (i : Int) := Int.zero_add _
  rw [ei]
  obtain ⟨p, ep, hpr⟩ := paired_get pp (gE hi)
  have mp : p ∈ pins := List.mem_of_getElem? ep
  obtain ⟨ta, lw, sv, uw, eta, h1, h2, h3, h4, _⟩ := hpr
  have luw : uw.length = p.ws.length := Paired.length h4
  have lw2 := (wk p mp).len
  obtain ⟨mm1, mm2⟩ := mul_small (m := 43) (k := i) (by decide) (by omega)
  have lg := rg.len.1
  rw [List.length_map, List.length_take] at lg
  refine ⟨_, rfl, _, rfl, _, _, rfl, rfl, sA, ns, _, rfl, s1.seq hS, hbi, by omega, by omega, fun c2 b2 => ?_⟩
  refine ⟨_, rfl, _, _, rfl, rfl, mm1, _, rfl, _, _, rfl, rfl, mm2, _, _, rfl, rfl, ?_⟩
  have bc := bits_cell (m := 43) (k := i) b2 (by omega) (by decide)
  refine ⟨_, rfl, .inl ⟨rfl, _, SqL.of e1⟩, _, rfl, _, rfl, pA, _, _, us'[i], rfl, rfl, SqL.of (s1 _ _ hp), atI_nat (gE hi), ta, _, _, _, eta, rfl, Ty.Same.seqT s1 h1, rfl, ?_⟩
  refine ⟨_, rfl, _, rfl, _, rfl, _, rfl, pA, _, _, us'[i], rfl, rfl, SqL.of (s1 _ _ hp), atI_nat (gE hi), ta, _, _, _, eta, rfl, Ty.Same.seqT s1 h1, rfl, ?_⟩
  refine ⟨_, _, lw, uw, rfl, bc, c0, c9, s1 _ _ h3, by omega, fun v2 H2 s2 hv nv _ => ⟨(by show 2 ≤ sizeLine; decide), ?_⟩⟩
  intro p3 n3; generalize eX : upd _ p3 _ = H3; have ⟨s3, e3⟩ := nw n3 eX; clear eX
  have s13 := sm_tr s2 s3
  have e13 := s13 _ _ e1
  refine ⟨l0, _, _, rfl, rfl, e13, Nat.lt_of_le_of_lt (show us.length ≤ 1000 by omega) (by decide), ?_⟩
  have t3 : SameT H3 (upd H3 l0 (.lst (us ++ [.ref p3]))) := .list e13
  have nv0 : ∀ l, v2 = .ref l → l ≠ l0 := fun l e z => by
   have := nv l e
   rw [z, e1] at this
   cases this
  refine ⟨_, _, _, rows ++ [(p.nm, v2)], rfl, fun c o z => ?_, upd_same, ?_⟩
  ·rw [upd_ne (ne_of_none z n0)]
   exact s13 _ _ (s1 _ _ z)
  ·rw [take_snoc ep, List.map_append]
   refine (rg.t (P' := fun x v => PuS K (upd H3 l0 (.lst (us ++ [.ref p3]))) pins x v ∧ (∀ l, v = .ref l → l ≠ l0) ∧ ∀ l, v = .ref l → H l = none) ((SameT.of s13).trans t3) fun _ _ ⟨⟨q', y1, y2, y3⟩, y4, y5⟩ => ⟨⟨q', y1, y2, (y3.same s13).upd y4 e13⟩, y4, y5⟩).snoc (t3.seqT (SqT.of e3)) fun n => ⟨⟨p, mp, rfl, ?_⟩, nv0, fun l e => none_back s1 (nv l e)⟩
   have := (hv n).same s3
   rw [luw] at this
   exact this.upd nv0 e13
 ·rintro σ H1 ⟨o4, o5, us, rows, rfl, s1, e1, rg⟩
  rw [lv, List.take_length] at rg
  exact ⟨_, rfl, q l0 us rows H1 s1 n0 e1 (rg.t (fun _ _ z => z) fun _ _ z => ⟨z.1, z.2.2⟩)⟩
structure DueR (K : Frag) (H0 H : Hp) (e : Addr) (kd : List (Key × V)) (pins : List PinD) (F : PinD → Rat × Rat) : Prop where
 s : Same H0 H
 ne : H0 e = none
 at_ : H e = some (.dK kd)
 ks : kd.map (·.1) = pins.map (fun p => (Sum.inr p.nm : Key))
 vl : ∀ p ∈ pins, ∃ l v1 v2, valV kd (.inr p.nm) = some (.ref l) ∧ H0 l = none ∧ H l = some (.lst [v1, v2]) ∧ NmR K H v1 (F p).1 ∧ NmR K H v2 (F p).2
 inj : ∀ p ∈ pins, ∀ q ∈ pins, valV kd (.inr p.nm) = valV kd (.inr q.nm) → p.nm = q.nm
section
variable {K : Frag} {H0 H H' : Hp} {e : Addr} {kd : List (Key × V)} {pins : List PinD} {F G : PinD → Rat × Rat}
theorem DueR.same (h : DueR K H0 H e kd pins F) (s : Same H H') : DueR K H0 H' e kd pins F :=
 ⟨sm_tr h.s s, h.ne, s _ _ h.at_, h.ks, fun p hp => by
  obtain ⟨l, v1, v2, h1, h2, h3, h4, h5⟩ := h.vl p hp
  exact ⟨l, v1, v2, h1, h2, s _ _ h3, h4.same s, h5.same s⟩, h.inj⟩
theorem DueR.congr (h : DueR K H0 H e kd pins F) (c : ∀ p ∈ pins, F p = G p) : DueR K H0 H e kd pins G :=
 ⟨h.s, h.ne, h.at_, h.ks, fun p hp => by rw [← c p hp]; exact h.vl p hp, h.inj⟩
theorem DueR.set {p : PinD} {l : Addr} {v1 v2 v : V} {j : Nat} {r : Rat} (h : DueR K H0 H e kd pins F) (hp : p ∈ pins) (el : valV kd (.inr p.nm) = some (.ref l)) (hl : H l = some (.lst [v1, v2])) (n0 : H0 l = none) (hj : j < 2) (hv : NmR K H v r) :
  DueR K H0 (upd H l (.lst ([v1, v2].set j v))) e kd pins (fun q => if q.nm = p.nm then (if j = 0 then (r, (F q).2) else ((F q).1, r)) else F q) := by
 have t : SameT H (upd H l (.lst ([v1, v2].set j v))) := .list hl
 refine ⟨fun b o z => ?_, h.ne, ?_, h.ks, fun q hq => ?_, h.inj⟩
 ·rw [upd_ne (ne_of_none z n0)]
  exact h.s _ _ z
 ·rw [upd_ne (fun z => by have := h.at_; rw [z, hl] at this; cases this)]
  exact h.at_
 ·obtain ⟨l', w1, w2, h1, h2, h3, h4, h5⟩ := h.vl q hq
  by_cases c : q.nm = p.nm
  ·rw [c, el] at h1
   cases h1
   rw [hl] at h3
   cases h3
   match j, hj with
   | 0, _ => exact ⟨l, v, v2, by rw [c]; exact el, n0, upd_same, by rw [if_pos c]; exact hv.sameT t, by rw [if_pos c]; exact h5.sameT t⟩
   | 1, _ => exact ⟨l, v1, v, by rw [c]; exact el, n0, upd_same, by rw [if_pos c]; exact h4.sameT t, by rw [if_pos c]; exact hv.sameT t⟩
  ·refine ⟨l', w1, w2, h1, h2, ?_, by rw [if_neg c]; exact h4.sameT t, by rw [if_neg c]; exact h5.sameT t⟩
   rw [upd_ne (fun z => c (h.inj q hq p hp (by rw [h1, el, z])))]
   exact h3
theorem DueR.put {p : PinD} {l : Addr} {v1 v2 : V} {r : Rat × Rat} (h : DueR K H0 H e kd pins F) (np : p.nm ∉ pins.map (·.nm)) (hl : H l = some (.lst [v1, v2])) (n0 : H0 l = none) (nl : ∀ q ∈ pins, valV kd (.inr q.nm) ≠ some (.ref l)) (n1 : NmR K H v1 r.1) (n2 : NmR K H v2 r.2) :
  DueR K H0 (upd H e (.dK (putK kd (.inr p.nm) (.ref l)))) e (putK kd (.inr p.nm) (.ref l)) (pins ++ [p]) (fun q => if q.nm = p.nm then r else F q) := by
 have t : SameT H (upd H e (.dK (putK kd (.inr p.nm) (.ref l)))) := .dict h.at_
 have nq : ∀ q ∈ pins, q.nm ≠ p.nm := fun q hq z => np (List.mem_map.mpr ⟨q, hq, z⟩)
 have vq : ∀ q ∈ pins, valV (putK kd (.inr p.nm) (.ref l)) (.inr q.nm) = valV kd (.inr q.nm) := fun q hq => by
  rw [valV_put, if_neg (fun z => nq q hq (Sum.inr.inj z))]
 have vp : valV (putK kd (.inr p.nm) (.ref l)) (.inr p.nm) = some (.ref l) := by rw [valV_put, if_pos rfl]
 have lst : ∀ {b : Addr} {xs : List V}, H b = some (.lst xs) → (upd H e (.dK (putK kd (.inr p.nm) (.ref l)))) b = some (.lst xs) := fun {b xs} z => by
  rw [upd_ne (fun y => by rw [y, h.at_] at z; cases z)]
  exact z
 refine ⟨fun b o z => ?_, h.ne, upd_same, ?_, fun q hq => ?_, fun q hq q' hq' ev => ?_⟩
 ·rw [upd_ne (ne_of_none z h.ne)]
  exact h.s _ _ z
 ·rw [putK_new _ (valV_none fun z => ?_), List.map_append, h.ks, List.map_append]
  ·rfl
  ·rw [h.ks] at z
   obtain ⟨q, hq, y⟩ := List.mem_map.mp z
   exact nq q hq (Sum.inr.inj y)
 ·rcases List.mem_append.mp hq with hq | hq
  ·obtain ⟨l', w1, w2, h1, h2, h3, h4, h5⟩ := h.vl q hq
   exact ⟨l', w1, w2, by rw [vq q hq]; exact h1, h2, lst h3, by rw [if_neg (nq q hq)]; exact h4.sameT t, by rw [if_neg (nq q hq)]; exact h5.sameT t⟩
  ·rw [List.mem_singleton.mp hq]
   exact ⟨l, v1, v2, vp, n0, lst hl, by rw [if_pos rfl]; exact n1.sameT t, by rw [if_pos rfl]; exact n2.sameT t⟩
 ·rcases List.mem_append.mp hq with hq | hq <;> rcases List.mem_append.mp hq' with hq' | hq'
  ·rw [vq q hq, vq q' hq'] at ev
   exact h.inj q hq q' hq' ev
  ·rw [List.mem_singleton.mp hq'] at ev ⊢
   rw [vq q hq, vp] at ev
   exact absurd ev (nl q hq)
  ·rw [List.mem_singleton.mp hq] at ev ⊢
   rw [vq q' hq', vp] at ev
   exact absurd ev.symm (nl q' hq')
  ·rw [List.mem_singleton.mp hq, List.mem_singleton.mp hq']
end
def mx (t : Nat) (o n : Rat × Rat) : Rat × Rat := (if 0 < t then n.1 else o.1, if 1 < t then n.2 else o.2)
def ax (t : Nat) (x : Rat × Rat) : Rat := if t = 0 then x.1 else x.2
theorem mx_step {t : Nat} (ht : t < 2) {o n : Rat × Rat} : (if t = 0 then (ax t n, (mx t o n).2) else ((mx t o n).1, ax t n)) = mx (t + 1) o n := by
 match t, ht with
 | 0, _ => rfl
 | 1, _ => rfl
theorem mx_ax {t : Nat} (ht : t < 2) {o n : Rat × Rat} : ax t (mx t o n) = ax t o := by
 match t, ht with
 | 0, _ => rfl
 | 1, _ => rfl
theorem at_ax {H : Hp} {v1 v2 : V} {x : Rat × Rat} {t : Nat} (ht : t < 2) (h1 : NmR K H v1 x.1) (h2 : NmR K H v2 x.2) : ∃ v, atI [v1, v2] (t : Int) = some v ∧ NmR K H v (ax t x) := by
 match t, ht with
 | 0, _ => exact ⟨v1, rfl, h1⟩
 | 1, _ => exact ⟨v2, rfl, h2⟩
theorem ix_two {t : Nat} (ht : t < 2) {v1 v2 : V} : ixN [v1, v2].length (t : Int) = some t := by
 match t, ht with
 | 0, _ => rfl
 | 1, _ => rfl
theorem ax_sz {k t : Nat} {x : Rat × Rat} (h : Sz k x.1 ∧ Sz k x.2) : Sz k (ax t x) := by
 unfold ax
 split
 ·exact h.1
 ·exact h.2
theorem hfo_ax {ws : List (Rat × Rat)} {rs : List Rat} {k : Nat} (t : Nat) : ax t (hfo ws rs k) + rs.getD k 0 * ax t (ws.getD k (0, 0)) = ax t (hfo ws rs (k + 1)) := by
 have e : hfo ws rs (k + 1) = ((hfo ws rs k).1 + rs.getD k 0 * (ws.getD k (0, 0)).1, (hfo ws rs k).2 + rs.getD k 0 * (ws.getD k (0, 0)).2) := by rw [hfo]
 rw [e]
 unfold ax
 by_cases c : t = 0
 ·rw [if_pos c, if_pos c, if_pos c]
 ·rw [if_neg c, if_neg c, if_neg c]
theorem hfo_two {ws : List (Rat × Rat)} : ∀ k, hfo ws [0, 0] k = (0, 0)
 | 0 => rfl
 | k + 1 => by
  have e : ([0, 0] : List Rat).getD k 0 = 0 := by
   match k with
   | 0 => rfl
   | 1 => rfl
   | k + 2 => rfl
  unfold hfo
  rw [hfo_two k, e]
  show ((0 : Rat) + 0 * _, (0 : Rat) + 0 * _) = (0, 0)
  rw [Rat.zero_mul, Rat.zero_mul, Rat.add_zero]
theorem mx_same {t : Nat} {o : Rat × Rat} : mx t o o = o := by
 unfold mx
 refine Prod.ext ?_ ?_
 ·show (if 0 < t then o.1 else o.1) = o.1
  split <;> rfl
 ·show (if 1 < t then o.2 else o.2) = o.2
  split <;> rfl
theorem force_ax {T : Str → Option Rat} {U : Str → Option (List Rat)} {bars : List BarD} {b : BarD} {p : PinD} (t : Nat) : ax t (forceP T U (bars ++ [b]) p) = ax t (forceP T U bars p) + ax t (onPin T b p.nm) := by
 rw [forceP_snoc]
 unfold ax
 by_cases c : t = 0
 ·rw [if_pos c, if_pos c, if_pos c]
 ·rw [if_neg c, if_neg c, if_neg c]
theorem force_no {T : Str → Option Rat} {U : Str → Option (List Rat)} {bars : List BarD} {b : BarD} {p : PinD} (h1 : p.nm ≠ b.one.nm) (h2 : p.nm ≠ b.other.nm) : forceP T U (bars ++ [b]) p = forceP T U bars p := by
 rw [forceP_snoc]
 unfold onPin
 rw [if_neg h1, if_neg h2]
 refine Prod.ext ?_ ?_
 ·exact Rat.add_zero _
 ·exact Rat.add_zero _
theorem pull_ax {T : Str → Option Rat} {b : BarD} (t : Nat) : (T b.nm).getD 0 * (ax t b.other.sp + -(ax t b.one.sp)) = ax t (pullD T b) := by
 unfold pullD armP ax
 by_cases c : t = 0
 ·rw [if_pos c, if_pos c, if_pos c, ← Rat.sub_eq_add_neg]
 ·rw [if_neg c, if_neg c, if_neg c, ← Rat.sub_eq_add_neg]
def FitU (pins : List PinD) (U : Str → Option (List Rat)) : Prop := ∀ p ∈ pins, ∀ rs, U p.nm = some rs → rs.length = p.ws.length
theorem hold_hfo {pins : List PinD} {U : Str → Option (List Rat)} (fu : FitU pins U) {p : PinD} (hp : p ∈ pins) : hfo p.ws ((U p.nm).getD [0, 0]) p.ws.length = hold0 U p := by
 unfold hold0
 cases e : U p.nm with
 | none =>
  show hfo p.ws [0, 0] p.ws.length = hfo p.ws [] (min p.ws.length 0)
  rw [hfo_two, Nat.min_zero]
  rfl
 | some rs =>
  have := fu p hp rs e
  show hfo p.ws rs p.ws.length = hfo p.ws rs (min p.ws.length rs.length)
  rw [this, Nat.min_self]
theorem on_ax {T : Str → Option Rat} {b : BarD} (ne : b.one.nm ≠ b.other.nm) (t : Nat) : ax t (onPin T b b.one.nm) = ax t (pullD T b) ∧ ax t (onPin T b b.other.nm) = -(ax t (pullD T b)) := by
 unfold onPin
 rw [if_pos rfl, if_neg (Ne.symm ne), if_pos rfl]
 refine ⟨rfl, ?_⟩
 unfold ax
 split <;> rfl
def spDue (K : Frag) : Sp := fun vs H Q _ => ∃ (pA bA d m dP : Addr) (us vs' : List V) (pins : List PinD) (bars : List BarD) (kvs kus : List (Key × V)) (T : Str → Option Rat) (U : Str → Option (List Rat)), vs = [.ref pA, .ref bA, .ref d, .ref m] ∧ H pA = some (.lst us) ∧ Paired (PinX K H dP) us pins ∧ H bA = some (.lst vs') ∧ Paired (BarR K H dP) vs' bars ∧ GoodF pins bars ∧ H d = some (.dK kvs) ∧ RtD K H kvs T ∧ H m = some (.dK kus) ∧ LtD K H kus U ∧ FzOk T U ∧ FitU pins U ∧
 ∀ (e : Addr) (kd : List (Key × V)) (H' : Hp), DueR K H H' e kd pins (fun p => forceP T U bars p) → Q (.ref e) H'
theorem sc_be : FnScope ["_law_pins_here", "_law_bars_here", "_law_pulls", "_law_pushes_here", "_law_due_here", "_law_name", "_law_spot", "_law_ways_here", "_law_k", "_law_axis", "_law_push", "_law_one", "_law_other", "_law_pull_here", "_law_back", "_law_part_here"] ["_law_pins_here", "_law_bars_here", "_law_pulls", "_law_pushes_here"] (defScope s_be) := sq
theorem ok_be (D : Def K mg "_law_due" s_be ["_law_pins_here", "_law_bars_here", "_law_pulls", "_law_pushes_here"]) (m_len : mg "len" = none) (m_range : mg "range" = none) (G_b7 : Fn P w K mg base (CXr P w) 34 "_law_plus" ["_law_x", "_law_y"] (spBinR K fun a b => a + b)) (G_au : Fn P w K mg base (CXr P w) 34 "_law_times" ["_law_x", "_law_y"] (spBinR K fun a b => a * b)) :
  Fn P w K mg base (CXr P w) 35 "_law_due" ["_law_pins_here", "_law_bars_here", "_law_pulls", "_law_pushes_here"] (spDue K) := by
 refine D.ok sc_be (fun vs H Q E h => ?_) (fun f cdv A outer s H vs Q E hr h => ?_)
 ·obtain ⟨pA, bA, d, m, dP, us, vs', pins, bars, kvs, kus, T, U, rfl, _⟩ := h
  rfl
 obtain ⟨pA, bA, d, m, dP, us, vs', pins, bars, kvs, kus, T, U, rfl, hp, pp, hb, pb, g, hd, hT, hm, hU, fz, fu, q⟩ := h
 have L2 : 2 ≤ sizeLine := by decide
 have lu : us.length = pins.length := Paired.length pp
 have lv : vs'.length = bars.length := Paired.length pb
 have lp := g.lp
 have lb := g.lb
 refine ⟨_, (pss_cons (ps_set (i := 4) sc_be.nd rfl (Or.inl rfl) pe_dnewK)
  (pss_cons (ps_for PassesOwn.never rfl (pi_list (pv 0)) (pg_tup rfl (pgs_cons (pg_name (i := 5) sc_be.nd rfl (Or.inl rfl)) (pgs_cons (pg_name (i := 6) sc_be.nd rfl (Or.inl rfl)) (pgs_cons (pg_name (i := 7) sc_be.nd rfl (Or.inl rfl)) pgs_nil)))) (pss_cons (ps_dput (hu_of hr) (pv 4) (pv 5) (pe_lst (pac (pe_tup (pac pe_int (pac pe_int pa_nil))) (pac (pe_tup (pac pe_int (pac pe_int pa_nil))) pa_nil))) rfl)
   (pss_one (ps_for PassesOwn.never rfl (pi_range1 rfl m_range (pac (pe_callB call_len_seq rfl m_len b_len (pac (pv 7) pa_nil)) pa_nil)) (pg_name (i := 8) sc_be.nd rfl (Or.inl rfl)) (pss_one (ps_for PassesOwn.never rfl (pi_range1 rfl m_range (pac pe_int pa_nil)) (pg_name (i := 9) sc_be.nd rfl (Or.inl rfl)) (pss_cons (ps_set (i := 10) sc_be.nd rfl (Or.inl rfl) (pe_ix ix_list (pe_dget2 (hu_of hr) (pv 3) (pv 5) (pe_lst (pac (pe_tup (pac pe_int (pac pe_int pa_nil))) (pac (pe_tup (pac pe_int (pac pe_int pa_nil))) pa_nil))) ⟨rfl, rfl, rfl, rfl⟩) (pv 8) (fun _ _ => rfl)))
     (pss_one (ps_asg (pe_fn G_b7 hr.mo pX (pac (pe_ix ix_list (pe_dget (hu_of hr) (pv 4) (pv 5) (fun _ _ => rfl)) (pv 9) (fun _ _ => rfl)) (pac (pe_fn G_au hr.mo pX (pac (pv 10) (pac (pe_ix ix_tup (pe_ix ix_list (pv 7) (pv 8) (fun _ _ => rfl)) (pv 9) (fun _ _ => rfl)) pa_nil))) pa_nil))) (pg_sub (pe_dget (hu_of hr) (pv 4) (pv 5) (fun _ _ => rfl)) (pv 9) set_list))))))))))
  (pss_cons (ps_for PassesOwn.never rfl (pi_list (pv 1)) (pg_tup rfl (pgs_cons (pg_name (i := 5) sc_be.nd rfl (Or.inl rfl)) (pgs_cons (pg_name (i := 11) sc_be.nd rfl (Or.inl rfl)) (pgs_cons (pg_name (i := 12) sc_be.nd rfl (Or.inl rfl)) pgs_nil)))) (pss_cons (ps_set (i := 13) sc_be.nd rfl (Or.inl rfl) (pe_dget2 (hu_of hr) (pv 2) (pv 5) (pe_tup (pac pe_int (pac pe_int pa_nil))) ⟨rfl, rfl, rfl, rfl⟩))
   (pss_one (ps_for PassesOwn.never rfl (pi_range1 rfl m_range (pac pe_int pa_nil)) (pg_name (i := 9) sc_be.nd rfl (Or.inl rfl)) (pss_cons (ps_set (i := 14) sc_be.nd rfl (Or.inl rfl) (pe_tup (pac (pe_op op_sub pe_int (pe_tx (pe_ix ix_tup (pe_tx (pv 11)) (pv 9) (fun _ _ => rfl)))) (pac (pe_tx (pe_ix ix_tup (pe_tx (pv 11)) (pv 9) (fun _ _ => rfl))) pa_nil))))
    (pss_cons (ps_set (i := 15) sc_be.nd rfl (Or.inl rfl) (pe_fn G_au hr.mo pX (pac (pv 13) (pac (pe_fn G_b7 hr.mo pX (pac (pe_ix ix_tup (pe_tx (pv 12)) (pv 9) (fun _ _ => rfl)) (pac (pv 14) pa_nil))) pa_nil))))
    (pss_cons (ps_asg (pe_fn G_b7 hr.mo pX (pac (pe_ix ix_list (pe_dget (hu_of hr) (pv 4) (pe_tx (pv 11)) (fun _ _ => rfl)) (pv 9) (fun _ _ => rfl)) (pac (pv 15) pa_nil))) (pg_sub (pe_dget (hu_of hr) (pv 4) (pe_tx (pv 11)) (fun _ _ => rfl)) (pv 9) set_list))
    (pss_one (ps_asg (pe_fn G_b7 hr.mo pX (pac (pe_ix ix_list (pe_dget (hu_of hr) (pv 4) (pe_tx (pv 12)) (fun _ _ => rfl)) (pv 9) (fun _ _ => rfl)) (pac (pe_tup (pac (pe_op op_sub pe_int (pe_tx (pv 15))) (pac (pe_tx (pv 15)) pa_nil))) pa_nil))) (pg_sub (pe_dget (hu_of hr) (pv 4) (pe_tx (pv 12)) (fun _ _ => rfl)) (pv 9) set_list))))))))))
  (pss_one (ps_ret (pv 4)))))), ?_⟩
 intro e ne; generalize eX : upd _ e _ = H1; have ⟨s1, e1⟩ := nw ne eX; clear eX
 have D0 : DueR K H H1 e [] (pins.take 0) (hold0 U) := ⟨s1, ne, e1, rfl, fun p hp => by simp at hp, fun p hp => by simp at hp⟩
 refine ⟨_, rfl, pA, rfl, ⟨_, SqL.of (s1 _ _ hp)⟩, for_list (K := K) (a := pA) (xs := us) (fun i σ H' => ∃ (o5 o6 o7 o8 o9 o10 : Option V) (kd : List (Key × V)), σ = [some (.ref pA), some (.ref bA), some (.ref d), some (.ref m), some (.ref e), o5, o6, o7, o8, o9, o10, none, none, none, none, none] ∧ DueR K H H' e kd (pins.take i) (hold0 U)) ⟨none, none, none, none, none, none, [], rfl, D0⟩ (fun i σ H' _ h => by
   obtain ⟨_, _, _, _, _, _, _, _, D⟩ := h
   exact SqL.of (D.s _ _ hp)) ?_ ?_⟩
 ·rintro i u σ H2 hu ⟨o5, o6, o7, o8, o9, o10, kd, rfl, D2⟩
  obtain ⟨p, ep, hpr⟩ := paired_get pp hu
  have mp : p ∈ pins := List.mem_of_getElem? ep
  obtain ⟨ta, lw, sv, uw, rfl, h1, h2, h3, h4, _⟩ := hpr
  have tk := take_snoc ep
  have il : i < pins.length := (List.getElem?_eq_some_iff.mp ep).1
  refine ⟨ta, _, rfl, Ty.Same.seqT D2.s h1, rfl, _, _, rfl, _, _, rfl, _, _, rfl, rfl, ?_⟩
  refine ⟨L2, ?_⟩
  intro z1 nz1; generalize eX : upd _ z1 _ = H3; have ⟨sz1, ez1⟩ := nw nz1 eX; clear eX
  refine ⟨L2, ?_⟩
  intro z2 nz2; generalize eX : upd _ z2 _ = H4; have ⟨sz2, ez2⟩ := nw nz2 eX; clear eX
  refine ⟨L2, ?_⟩
  intro l5 n5; generalize eX : upd _ l5 _ = H5; have ⟨s5, e5⟩ := nw n5 eX; clear eX
  have s25 := sm_tr sz1 (sm_tr sz2 s5)
  have D5 := D2.same s25
  have lk : kd.length ≤ 6 := by
   have z := congrArg List.length D2.ks
   rw [List.length_map, List.length_map, List.length_take] at z
   omega
  refine ⟨_, rfl, _, rfl, e, _, rfl, DPut.k (k := .inr p.nm) D5.at_ (Nat.lt_of_le_of_lt (show kd.length ≤ 1000 by omega) (by decide)), ?_⟩
  have n2l : H2 l5 = none := none_back (sm_tr sz1 sz2) n5
  have D6 := D5.put (p := p) (r := (0, 0)) (fun z => by
   obtain ⟨p', hp', e'⟩ := List.mem_map.mp z
   exact take_new (nm := PinD.nm) g.np ep hp' e') e5 (none_back D2.s n2l) (fun q' hq' z => by
   obtain ⟨l', _, _, y1, _, y3, _⟩ := D2.vl q' hq'
   rw [z] at y1
   cases y1
   rw [n2l] at y3
   cases y3) (((nm_lit 0 ez1).same sz2).same s5) ((nm_lit 0 ez2).same s5)
  rw [← tk] at D6
  generalize upd H5 e (.dK (putK kd (.inr p.nm) (.ref l5))) = H6 at D6 ⊢
  generalize putK kd (.inr p.nm) (.ref l5) = kd6 at D6 ⊢
  have luw : uw.length = p.ws.length := Paired.length h4
  have lw2 := g.lw p mp
  have mp6 : p ∈ pins.take (i + 1) := by rw [tk]; simp
  obtain ⟨rs, hrs⟩ : ∃ rs, (U p.nm).getD [0, 0] = rs := ⟨_, rfl⟩
  have lrs : p.ws.length ≤ rs.length := by
   rw [← hrs]
   cases eU : U p.nm with
   | none => exact lw2
   | some r' => exact Nat.le_of_eq (fu p mp r' eU).symm
  have zrs : ∀ r ∈ rs, Sz 50 r := fun r hr' => by
   have hr2 : r ∈ (U p.nm).getD [0, 0] := by rw [hrs]; exact hr'
   cases eU : U p.nm with
   | none =>
    rw [eU] at hr2
    have : r = 0 := by simpa using hr2
    rw [this]
    exact sz_zero (by decide)
   | some r' =>
    have := fz.u p.nm r
    rw [eU] at this hr2
    exact this hr2
  have zh : ∀ k, k ≤ p.ws.length → Sz 1000 (hfo p.ws rs k).1 ∧ Sz 1000 (hfo p.ws rs k).2 := fun k hk => by
   have := hfo_sz (ws := p.ws) (rs := rs) (g.sz p mp).2.2 zrs k (by omega)
   exact ⟨this.1.up (by omega), this.2.up (by omega)⟩
  have D7 : DueR K H H6 e kd6 (pins.take (i + 1)) (fun q' => if q'.nm = p.nm then hfo p.ws rs 0 else hold0 U q') := D6
  refine ⟨_, rfl, lw, _, rfl, .inl (SqL.of (D6.s _ _ h3)), ((uw.length : Nat) : Int), rfl, by omega, by omega, for_range (lo := 0) (n := uw.length) (fun k σ H' => ∃ (o8 o9 o10 : Option V), σ = [some (.ref pA), some (.ref bA), some (.ref d), some (.ref m), some (.ref e), some (.str p.nm), some sv, some (.ref lw), o8, o9, o10, none, none, none, none, none] ∧ DueR K H H' e kd6 (pins.take (i + 1)) (fun q' => if q'.nm = p.nm then hfo p.ws rs k else hold0 U q')) ⟨_, _, _, rfl, D7⟩ ?_ ?_⟩
  ·rintro k σ H7 hk ⟨o8', o9', o10', rfl, D7⟩
   have ei : (0 : Int) + (k : Int) = (k : Int) := Int.zero_add _
   rw [ei]
   have kw : k < p.ws.length := by omega
   obtain ⟨y, hy⟩ : ∃ y, uw[k]? = some y := ⟨_, gE hk⟩
   obtain ⟨wy, ewy, hwy⟩ := paired_get h4 hy
   obtain ⟨wa, w1, w2, rfl, hsw, hw1, hw2⟩ := hwy
   have zw := (g.sz p mp).2.2 wy (List.mem_of_getElem? ewy)
   have krs : k < rs.length := by omega
   have ers : rs[k]? = some (rs.getD k 0) := by rw [gE krs, List.getD_eq_getElem?_getD, gE krs]; rfl
   have ews : p.ws.getD k (0, 0) = wy := by rw [List.getD_eq_getElem?_getD, ewy]; rfl
   refine ⟨2, rfl, by decide, by decide, for_range (lo := 0) (n := 2) (fun t σ H' => ∃ (o9 o10 : Option V), σ = [some (.ref pA), some (.ref bA), some (.ref d), some (.ref m), some (.ref e), some (.str p.nm), some sv, some (.ref lw), some (.int (k : Int)), o9, o10, none, none, none, none, none] ∧ DueR K H H' e kd6 (pins.take (i + 1)) (fun q' => if q'.nm = p.nm then mx t (hfo p.ws rs k) (hfo p.ws rs (k + 1)) else hold0 U q')) ⟨_, _, rfl, D7⟩ ?_ ?_⟩
   ·rintro t σ H8 ht ⟨o9'', o10'', rfl, D8⟩
    have ej : (0 : Int) + (t : Int) = (t : Int) := Int.zero_add _
    rw [ej]
    refine ⟨_, rfl, m, rfl, .inl ⟨_, .inl (D8.s _ _ hm)⟩, _, rfl, L2, ?_⟩
    intro a1 m1; generalize eX : upd _ a1 _ = H9; have ⟨t1, x1⟩ := nw m1 eX; clear eX
    refine ⟨L2, ?_⟩
    intro a2 m2; generalize eX : upd _ a2 _ = HA; have ⟨t2, x2⟩ := nw m2 eX; clear eX
    refine ⟨L2, ?_⟩
    intro a3 m3; generalize eX : upd _ a3 _ = HB; have ⟨t3, x3⟩ := nw m3 eX; clear eX
    have s8B := sm_tr t1 (sm_tr t2 t3)
    have D9 := D8.same s8B
    have mB := D9.s _ _ hm
    obtain ⟨lg, ug, vg, h1g, h2g, h3g⟩ : ∃ (lg : Addr) (ug : List V) (vg : V), (valV kus (.inr p.nm)).getD (.ref a3) = .ref lg ∧ HB lg = some (.lst ug) ∧ ug[k]? = some vg ∧ NmR K HB vg (rs.getD k 0) := by
     rcases hU p.nm with ⟨v0, u0⟩ | ⟨lg, ug, r', v0, u0, hlg, plg⟩
     ·refine ⟨a3, [.ref a1, .ref a2], ?_⟩
      have er : rs = [0, 0] := by rw [← hrs, u0]; rfl
      rw [v0, er]
      match k, (show k < 2 by omega) with
      | 0, _ => exact ⟨_, rfl, x3, rfl, ((nm_lit 0 x1).same t2).same t3⟩
      | 1, _ => exact ⟨_, rfl, x3, rfl, (nm_lit 0 x2).same t3⟩
     ·have er : rs = r' := by rw [← hrs, u0]; rfl
      have lug := Paired.length plg
      obtain ⟨vg, evg⟩ : ∃ vg, ug[k]? = some vg := ⟨_, gE (by rw [lug, ← er]; exact krs)⟩
      obtain ⟨rr, err, hrr⟩ := paired_get plg evg
      rw [← er, ers] at err
      cases err
      exact ⟨lg, ug, vg, by rw [v0]; rfl, D9.s _ _ hlg, evg, hrr.same D9.s⟩
    refine ⟨_, DGet.k (k := .inr p.nm) mB, ?_⟩
    rw [h1g]
    refine ⟨_, rfl, lg, _, _, vg, rfl, rfl, SqL.of h2g, atI_nat h3g.1, ?_⟩
    obtain ⟨lD, v1, v2, y1, y2, y3, y4, y5⟩ := D9.vl p mp6
    rw [if_pos rfl] at y4 y5
    obtain ⟨va, eva, hva⟩ := at_ax ht y4 y5
    rw [mx_ax ht] at hva
    have dg : DGet HB e (.str p.nm) (some (.ref lD)) := by
     have := DGet.k (k := .inr p.nm) D9.at_
     rw [y1] at this
     exact this
    obtain ⟨vw, evw, hvw⟩ := at_ax ht hw1 hw2
    refine ⟨_, rfl, _, rfl, e, _, rfl, dg, _, rfl, lD, _, _, va, rfl, rfl, SqL.of y3, eva, ?_⟩
    refine ⟨_, rfl, _, rfl, _, rfl, lw, _, _, _, rfl, rfl, SqL.of (D9.s _ _ h3), atI_nat hy, _, rfl, wa, _, _, vw, rfl, rfl, Ty.Same.seqT D9.s hsw, evw, ?_⟩
    have zr := zrs _ (List.mem_of_getElem? ers)
    refine ⟨vg, vw, _, _, rfl, h3g.2, hvw.same D9.s, zr.up (by decide), (ax_sz zw).up (by decide), fun pc HC sC eC => ?_⟩
    have zo := ax_sz (t := t) (zh k (by omega))
    refine ⟨va, .ref pc, _, _, rfl, hva.same sC, nm_of eC, zo.up (by decide), (zr.mul (ax_sz zw)).up (by decide), fun pd HD sD eD => ?_⟩
    have DD := (D9.same sC).same sD
    have dgD : DGet HD e (.str p.nm) (some (.ref lD)) := by
     have := DGet.k (k := .inr p.nm) DD.at_
     rw [y1] at this
     exact this
    have y3D := sD _ _ (sC _ _ y3)
    refine ⟨_, rfl, _, rfl, e, _, rfl, dgD, _, rfl, lD, _, _, t, rfl, rfl, y3D, ix_two ht, ?_⟩
    have en : ax t (hfo p.ws rs k) + rs.getD k 0 * ax t wy = ax t (hfo p.ws rs (k + 1)) := by rw [← ews]; exact hfo_ax t
    have nD : NmR K HD (.ref pd) (ax t (hfo p.ws rs (k + 1))) := by rw [← en]; exact nm_of eD
    have DE := (DD.set mp6 y1 y3D y2 ht nD).congr (G := fun q' => if q'.nm = p.nm then mx (t + 1) (hfo p.ws rs k) (hfo p.ws rs (k + 1)) else hold0 U q') fun q' _ => by
     by_cases c : q'.nm = p.nm
     ·rw [if_pos c, if_pos c, if_pos c, mx_step ht]
     ·rw [if_neg c, if_neg c, if_neg c]
    exact ⟨_, _, rfl, DE⟩
   ·rintro σ H8 ⟨o9'', o10'', rfl, D8⟩
    exact ⟨_, _, _, rfl, D8⟩
  ·rintro σ H7 ⟨o8', o9', o10', rfl, D7⟩
   refine ⟨_, _, _, _, _, _, kd6, rfl, D7.congr fun q' hq' => ?_⟩
   by_cases c : q'.nm = p.nm
   ·rw [if_pos c, nm_inj (nm := PinD.nm) g.np (List.mem_of_mem_take hq') mp c, luw, ← hrs]
    exact hold_hfo fu mp
   ·rw [if_neg c]
 rintro σ H2 ⟨o5, o6, o7, o8, o9, o10, kd, rfl, D2⟩
 rw [lu, List.take_length] at D2
 refine ⟨_, rfl, bA, rfl, ⟨_, SqL.of (D2.s _ _ hb)⟩, for_list (K := K) (a := bA) (xs := vs') (fun i σ H' => ∃ (o5 o9 o10 o11 o12 o13 o14 o15 : Option V), σ = [some (.ref pA), some (.ref bA), some (.ref d), some (.ref m), some (.ref e), o5, o6, o7, o8, o9, o10, o11, o12, o13, o14, o15] ∧ DueR K H H' e kd pins (fun p => forceP T U (bars.take i) p)) ⟨_, _, _, none, none, none, none, none, rfl, D2⟩ (fun i σ H' _ h => by
   obtain ⟨_, _, _, _, _, _, _, _, _, D⟩ := h
   exact SqL.of (D.s _ _ hb)) ?_ ?_⟩
 ·rintro i u σ H3 hu ⟨o5', o9', o10', o11, o12, o13, o14, o15, rfl, D3⟩
  obtain ⟨b, eb, hbr⟩ := paired_get pb hu
  have mb : b ∈ bars := List.mem_of_getElem? eb
  obtain ⟨m1, m2, m3⟩ := g.ends b mb
  have tk := take_snoc eb
  have il : i < bars.length := (List.getElem?_eq_some_iff.mp eb).1
  obtain ⟨tb, u1, u2, rfl, b1, ⟨a1, l1, sv1, us1, rfl, b11, ⟨sa1, x1, y1, rfl, q1, nx1, ny1⟩, _⟩, ⟨a2, l2, sv2, us2, rfl, b21, ⟨sa2, x2, y2, rfl, q2, nx2, ny2⟩, _⟩⟩ := hbr
  refine ⟨tb, _, rfl, Ty.Same.seqT D3.s b1, rfl, _, _, rfl, _, _, rfl, _, _, rfl, rfl, ?_⟩
  refine ⟨_, rfl, d, rfl, .inl ⟨_, .inl (D3.s _ _ hd)⟩, _, rfl, L2, ?_⟩
  intro z4 nz4; generalize eX : upd _ z4 _ = H4; have ⟨sz4, ez4⟩ := nw nz4 eX; clear eX
  have D4 := D3.same sz4
  refine ⟨_, DGet.k (k := .inr b.nm) (D4.s _ _ hd), ?_⟩
  have gp : NmR K H4 ((valV kvs (.inr b.nm)).getD (.ref z4)) ((T b.nm).getD 0) := (hT.same D4.s).dget (nm_lit 0 ez4)
  generalize (valV kvs (.inr b.nm)).getD (.ref z4) = vp at gp ⊢
  have zT := fz.t b.nm
  have w1 := g.sz _ m1
  have w2 := g.sz _ m2
  have D4' : DueR K H H4 e kd pins (fun q' => mx 0 (forceP T U (bars.take i) q') (forceP T U (bars.take (i + 1)) q')) := D4
  refine ⟨2, rfl, by decide, by decide, for_range (lo := 0) (n := 2) (fun t σ H' => ∃ (o9 o14 o15 : Option V), σ = [some (.ref pA), some (.ref bA), some (.ref d), some (.ref m), some (.ref e), some (.str b.nm), o6, o7, o8, o9, o10', some (.ref a1), some (.ref a2), some vp, o14, o15] ∧ SameT H4 H' ∧ DueR K H H' e kd pins (fun q' => mx t (forceP T U (bars.take i) q') (forceP T U (bars.take (i + 1)) q'))) ⟨_, _, _, rfl, fun _ _ z => z, D4'⟩ ?_ ?_⟩
  ·rintro t σ H5 ht ⟨o9'', o14', o15', rfl, t5, D5⟩
   have ej : (0 : Int) + (t : Int) = (t : Int) := Int.zero_add _
   rw [ej]
   obtain ⟨vA, evA, hvA⟩ := at_ax ht nx1 ny1
   obtain ⟨vB, evB, hvB⟩ := at_ax ht nx2 ny2
   obtain ⟨pa, rfl, hpa⟩ := id hvA
   refine ⟨_, rfl, a1, _, _, _, rfl, rfl, Ty.Same.seqT D5.s b11, rfl, _, rfl, sa1, _, _, _, rfl, rfl, Ty.Same.seqT D5.s q1, evA, pa, _, _, _, rfl, rfl, Ty.Same.seqT D5.s hpa, at0, _, _, rfl, rfl, ?_⟩
   refine ⟨_, rfl, a1, _, _, _, rfl, rfl, Ty.Same.seqT D5.s b11, rfl, _, rfl, sa1, _, _, _, rfl, rfl, Ty.Same.seqT D5.s q1, evA, pa, _, _, _, rfl, rfl, Ty.Same.seqT D5.s hpa, at1, L2, ?_⟩
   intro pb6 n6; generalize eX : upd _ pb6 _ = H6; have ⟨s6, e6⟩ := nw n6 eX; clear eX
   have D6 := D5.same s6
   have nb : NmR K H6 (.ref pb6) (-(ax t b.one.sp)) := by
    refine nm_of ?_
    rw [e6, qr_neg]
    show some (HO.tup [V.int (0 - (qr (ax t b.one.sp)).1), V.int (qr (ax t b.one.sp)).2]) = some (HO.tup [V.int (-(qr (ax t b.one.sp)).1), V.int (qr (ax t b.one.sp)).2])
    rw [Int.zero_sub]
   have zA : Sz 100 (ax t b.one.sp) := ax_sz ⟨w1.1, w1.2.1⟩
   have zB : Sz 100 (ax t b.other.sp) := ax_sz ⟨w2.1, w2.2.1⟩
   refine ⟨_, rfl, _, rfl, a2, _, _, _, rfl, rfl, Ty.Same.seqT D6.s b21, rfl, _, rfl, sa2, _, _, vB, rfl, rfl, Ty.Same.seqT D6.s q2, evB, _, rfl, vB, .ref pb6, _, _, rfl, hvB.same D6.s, nb, zB.up (by decide), zA.neg.up (by decide), fun pe HE sE eE => ?_⟩
   refine ⟨vp, .ref pe, _, _, rfl, (gp.sameT t5).same (sm_tr s6 sE), nm_of eE, zT.up (by decide), (zB.add zA.neg).up (by decide), fun pf HF sF eF => ?_⟩
   have nf : NmR K HF (.ref pf) (ax t (pullD T b)) := by
    rw [← pull_ax t]
    exact nm_of eF
   have zp : Sz 251 (ax t (pullD T b)) := ax_sz (pull_sz g fz mb)
   have DF := (D6.same sE).same sF
   have sub : ∀ b' ∈ bars.take i, b' ∈ bars := fun b' h => List.mem_of_mem_take h
   have zo : ∀ q' ∈ pins, Sz 10000 (ax t (forceP T U (bars.take i) q')) := fun q' hq' => by
    have := force_sz g fz hq' _ (bars.take i) rfl sub
    rw [List.length_take] at this
    exact ax_sz ⟨this.1.up (by omega), this.2.up (by omega)⟩
   obtain ⟨lD, v1, v2, y1, y2, y3, y4, y5⟩ := DF.vl b.one m1
   obtain ⟨va, eva, hva⟩ := at_ax ht y4 y5
   rw [mx_ax ht] at hva
   have dg : ∀ {H' : Hp} {x : Str} {l : Addr}, H' e = some (.dK kd) → valV kd (.inr x) = some (.ref l) → DGet H' e (.str x) (some (.ref l)) := fun {H' x l} h1 h2 => by
    have := DGet.k (k := .inr x) h1
    rw [h2] at this
    exact this
   refine ⟨_, rfl, _, rfl, a1, _, _, _, rfl, rfl, Ty.Same.seqT DF.s b11, rfl, e, _, rfl, dg DF.at_ y1, _, rfl, lD, _, _, va, rfl, rfl, SqL.of y3, eva, ?_⟩
   refine ⟨_, rfl, va, .ref pf, _, _, rfl, hva, nf, (zo _ m1).up (by decide), zp.up (by decide), fun pg HG sG eG => ?_⟩
   have DG := DF.same sG
   have y3G := sG _ _ y3
   refine ⟨_, rfl, _, rfl, a1, _, _, _, rfl, rfl, Ty.Same.seqT DG.s b11, rfl, e, _, rfl, dg DG.at_ y1, _, rfl, lD, _, _, t, rfl, rfl, y3G, ix_two ht, ?_⟩
   have on1 := on_ax (T := T) m3 t
   have n1 : NmR K HG (.ref pg) (ax t (forceP T U (bars.take (i + 1)) b.one)) := by
    rw [tk, force_ax t, on1.1]
    exact nm_of eG
   have DH := DG.set m1 y1 y3G y2 ht n1
   have tH : SameT HG (upd HG lD (.lst ([v1, v2].set t (.ref pg)))) := .list y3G
   generalize upd HG lD (.lst ([v1, v2].set t (.ref pg))) = HH at DH tH ⊢
   obtain ⟨lE, x1', x2', k1, k2, k3, k4, k5⟩ := DH.vl b.other m2
   rw [if_neg (Ne.symm m3)] at k4 k5
   obtain ⟨ve, eve, hve⟩ := at_ax ht k4 k5
   rw [mx_ax ht] at hve
   have nfH : NmR K HH (.ref pf) (ax t (pullD T b)) := (nf.same sG).sameT tH
   obtain ⟨pf', epf, hpf⟩ := id nfH
   cases epf
   refine ⟨_, rfl, _, rfl, a2, _, _, _, rfl, rfl, Ty.Same.seqT DH.s b21, rfl, e, _, rfl, dg DH.at_ k1, _, rfl, lE, _, _, ve, rfl, rfl, SqL.of k3, eve, ?_⟩
   refine ⟨_, rfl, pf, _, _, _, rfl, rfl, hpf, at0, _, _, rfl, rfl, _, rfl, pf, _, _, _, rfl, rfl, hpf, at1, L2, ?_⟩
   intro pk nk; generalize eX : upd _ pk _ = HK; have ⟨sk, ek⟩ := nw nk eX; clear eX
   have nk' : NmR K HK (.ref pk) (-(ax t (pullD T b))) := by
    refine nm_of ?_
    rw [ek, qr_neg]
    show some (HO.tup [V.int (0 - (qr (ax t (pullD T b))).1), V.int (qr (ax t (pullD T b))).2]) = some (HO.tup [V.int (-(qr (ax t (pullD T b))).1), V.int (qr (ax t (pullD T b))).2])
    rw [Int.zero_sub]
   refine ⟨ve, .ref pk, _, _, rfl, hve.same sk, nk', (zo _ m2).up (by decide), zp.neg.up (by decide), fun pl HL sL eL => ?_⟩
   have DL := (DH.same sk).same sL
   have k3L := sL _ _ (sk _ _ k3)
   refine ⟨_, rfl, _, rfl, a2, _, _, _, rfl, rfl, Ty.Same.seqT DL.s b21, rfl, e, _, rfl, dg DL.at_ k1, _, rfl, lE, _, _, t, rfl, rfl, k3L, ix_two ht, ?_⟩
   have n2 : NmR K HL (.ref pl) (ax t (forceP T U (bars.take (i + 1)) b.other)) := by
    rw [tk, force_ax t, on1.2]
    exact nm_of eL
   have DM := (DL.set m2 k1 k3L k2 ht n2).congr (G := fun q' => mx (t + 1) (forceP T U (bars.take i) q') (forceP T U (bars.take (i + 1)) q')) fun q' hq' => by
    by_cases c2 : q'.nm = b.other.nm
    ·have eq := nm_inj (nm := PinD.nm) g.np hq' m2 c2
     subst eq
     rw [if_pos rfl, if_neg (Ne.symm m3), mx_step ht]
    ·rw [if_neg c2]
     by_cases c1 : q'.nm = b.one.nm
     ·have eq := nm_inj (nm := PinD.nm) g.np hq' m1 c1
      subst eq
      rw [if_pos rfl, mx_step ht]
     ·rw [if_neg c1, tk, force_no c1 c2, mx_same, mx_same]
   have tM : SameT HL (upd HL lE (.lst ([x1', x2'].set t (.ref pl)))) := .list k3L
   refine ⟨_, _, _, rfl, ?_, DM⟩
   exact (t5.trans (.of (sm_tr s6 (sm_tr sE (sm_tr sF sG))))).trans (tH.trans ((SameT.of (sm_tr sk sL)).trans tM))
  ·rintro σ H5 ⟨o9'', o14', o15', rfl, t5, D5⟩
   exact ⟨_, _, _, _, _, _, _, _, rfl, D5⟩
 ·rintro σ H3 ⟨o5', o9', o10', o11, o12, o13, o14, o15, rfl, D3⟩
  rw [lv, List.take_length] at D3
  exact ⟨_, rfl, q e kd H3 D3⟩
theorem k_ii : PySem.W.kitOne K (.type "int") (.type "int") = some true := by unfold PySem.W.kitOne; rw [if_pos (by decide)]
theorem k_ib : PySem.W.kitOne K (.type "int") (.type "bool") = some false := kind_sub ⟨by decide, fun _ => ⟨by decide +kernel, by decide +kernel⟩⟩
theorem two_is {H : Hp} {l : Addr} {v1 v2 : V} {x : Rat × Rat} (h : H l = some (.lst [v1, v2])) (h1 : NmR K H v1 x.1) (h2 : NmR K H v2 x.2) : Is K H (.l (spotD (ptQ x))) (.ref l) := by
 unfold Is
 refine ⟨l, _, rfl, SqL.of h, ?_⟩
 unfold spotD Iss
 refine ⟨is_numF h1, ?_⟩
 unfold Iss
 exact ⟨is_numF h2, by unfold Iss; trivial⟩
structure DueS (K : Frag) (H : Hp) (e : Addr) (kd : List (Key × V)) (pins : List PinD) (F : PinD → Rat × Rat) : Prop where
 at_ : H e = some (.dK kd)
 vl : ∀ p ∈ pins, ∃ l v1 v2, valV kd (.inr p.nm) = some (.ref l) ∧ H l = some (.lst [v1, v2]) ∧ NmR K H v1 (F p).1 ∧ NmR K H v2 (F p).2
theorem DueR.st {K : Frag} {H0 H : Hp} {e : Addr} {kd : List (Key × V)} {pins : List PinD} {F : PinD → Rat × Rat} (h : DueR K H0 H e kd pins F) : DueS K H e kd pins F := ⟨h.at_, fun p hp => by
 obtain ⟨l, v1, v2, h1, _, h3⟩ := h.vl p hp
 exact ⟨l, v1, v2, h1, h3⟩⟩
theorem DueS.same {K : Frag} {H H' : Hp} {e : Addr} {kd : List (Key × V)} {pins : List PinD} {F : PinD → Rat × Rat} (h : DueS K H e kd pins F) (s : Same H H') : DueS K H' e kd pins F := ⟨s _ _ h.at_, fun p hp => by
 obtain ⟨l, v1, v2, h1, h3, h4, h5⟩ := h.vl p hp
 exact ⟨l, v1, v2, h1, s _ _ h3, h4.same s, h5.same s⟩⟩
def spSame (K : Frag) : Sp := fun vs H Q _ => ∃ (e pA m dP : Addr) (kv kd : List (Key × V)) (us : List V) (pins : List PinD) (F : PinD → Rat × Rat), vs = [.ref e, .ref pA, .ref m] ∧ m ≠ e ∧ H e = some (.dK kv) ∧ kv.map (·.1) = pins.map (fun b => (Sum.inr b.nm : Key)) ∧ (∀ p ∈ pins, ∃ v, valV kv (.inr p.nm) = some v ∧ PtR K H v (F p)) ∧
 H pA = some (.lst us) ∧ Paired (PinX K H dP) us pins ∧ (pins.map (·.nm)).Nodup ∧ pins.length ≤ 6 ∧ DueS K H m kd pins F ∧ ∀ H', Same H H' → Q (.bl true) H'
theorem sc_bc : FnScope ["_law_found", "_law_pins_here", "_law_due_here", "_law_name", "_law_forces", "_law_one"] ["_law_found", "_law_pins_here", "_law_due_here"] (defScope s_bc) := sq
theorem ok_bc (D : Def K mg "_law_same" s_bc ["_law_found", "_law_pins_here", "_law_due_here"]) (m_isinstance : mg "isinstance" = none) (m_dict : mg "dict" = none) (m_list : mg "list" = none) (m_tuple : mg "tuple" = none) (m_int : mg "int" = none) (m_bool : mg "bool" = none) (m_len : mg "len" = none) (m_all : mg "all" = none) (m_any : mg "any" = none) :
  Fn P w K mg base (CXr P w) 1 "_law_same" ["_law_found", "_law_pins_here", "_law_due_here"] (spSame K) := by
 refine D.ok sc_bc (fun vs H Q E h => ?_) (fun f cdv A outer s H vs Q E hr h => ?_)
 ·obtain ⟨e, pA, m, dP, kv, kd, us, pins, F, rfl, _⟩ := h
  rfl
 obtain ⟨e, pA, m, dP, kv, kd, us, pins, F, rfl, me, he, ks, tl, hp, pp, np, lp, du, q⟩ := h
 have L2 : 2 ≤ sizeLine := by decide
 refine ⟨_, (pss_cons (ps_if (PW.pt (pw_or (pt_not (pt_val (pe_callB call_isi rfl m_isinstance b_isinstance (pac (pv 0) (pac (pe_ty rfl m_dict b_dict) pa_nil))))) (pw_or1 (pt_cmpR (op_neDa hr.units) (pe_listKs rfl rfl m_list (pv 0)) (pe_comp (tn := ["_law_pin"]) (fr := []) (caps := []) rfl ⟨rfl, by decide +kernel, rfl, by decide +kernel, by decide +kernel, rfl, trivial, trivial⟩ (pi_list (pv 1)) (fun _ _ _ _ => (pg_name (i := 0) (show (["_law_pin"] : List Str).Nodup from by decide +kernel) rfl (Or.inl rfl))) (fun _ _ _ _ => pf_nil) (fun _ _ _ _ => (pe_ix (ix_tupK (K := K) rfl) (pv 0) pe_int (fun _ _ => rfl)))) (nomark _))))) (pss_one (ps_ret pe_bl)) pss_nil)
  (pss_cons (ps_thaw (ps_for PassesOwn.never rfl (pi_items (pv 0)) (pg_tup rfl (pgs_cons (pg_name (i := 3) sc_bc.nd rfl (Or.inl rfl)) (pgs_cons (pg_name (i := 4) sc_bc.nd rfl (Or.inl rfl)) pgs_nil))) (pss_cons (ps_if (PW.pt (pw_or (pt_not (pt_val (pe_callB call_isiT rfl m_isinstance b_isinstance (pac (pv 4) (pac (pe_ty rfl m_tuple b_tuple) pa_nil))))) (pw_or1 (pt_cmpR op_ne (pe_callB call_len_seq rfl m_len b_len (pac (pv 4) pa_nil)) pe_int (nomark _))))) (pss_one (ps_ret pe_bl)) pss_nil)
   (pss_cons (ps_for PassesOwn.never rfl (pi_tup (pv 4)) (pg_name (i := 5) sc_bc.nd rfl (Or.inl rfl)) (pss_cons (ps_if (PW.pt (pw_or (pt_not (pt_val (pe_callB call_isiT rfl m_isinstance b_isinstance (pac (pv 5) (pac (pe_ty rfl m_tuple b_tuple) pa_nil))))) (pw_or1 (pt_not (pt_val (pe_callB (call_allB rfl) rfl m_all b_all (pac (pe_comp (tn := ["_law_part_here"]) (fr := []) (caps := []) rfl ⟨rfl, by decide +kernel, rfl, by decide +kernel, by decide +kernel, rfl, trivial, trivial⟩ (pi_tup (pv 5)) (fun _ _ _ _ => (pg_name (i := 0) (show (["_law_part_here"] : List Str).Nodup from by decide +kernel) rfl (Or.inl rfl))) (fun _ _ _ _ => pf_nil) (fun _ _ _ _ => (pe_callB (call_isiK (K := K) rfl) rfl m_isinstance b_isinstance (pac (pv 0) (pac (pe_ty rfl m_int b_int) pa_nil))))) pa_nil))))))) (pss_one (ps_ret pe_bl)) pss_nil)
    (pss_one (ps_if (pt_val (pe_callB (call_anyB rfl) rfl m_any b_any (pac (pe_comp (tn := ["_law_part_here"]) (fr := []) (caps := []) rfl ⟨rfl, by decide +kernel, rfl, by decide +kernel, by decide +kernel, rfl, trivial, trivial⟩ (pi_tup (pv 5)) (fun _ _ _ _ => (pg_name (i := 0) (show (["_law_part_here"] : List Str).Nodup from by decide +kernel) rfl (Or.inl rfl))) (fun _ _ _ _ => pf_nil) (fun _ _ _ _ => (pe_callB (call_isiK (K := K) rfl) rfl m_isinstance b_isinstance (pac (pv 0) (pac (pe_ty rfl m_bool b_bool) pa_nil))))) pa_nil))) (pss_one (ps_ret pe_bl)) pss_nil))))
   (pss_one (ps_if (pt_cmpR (op_neDa hr.units) (pe_callTy call_list_of rfl m_list b_list (pac (pv 4) pa_nil)) (pe_dget (hu_of hr) (pv 2) (pv 3) (fun _ _ => rfl)) (nomark _)) (pss_one (ps_ret pe_bl)) pss_nil))))))
  (pss_one (ps_ret pe_bl)))), ?_⟩
 refine ⟨_, rfl, _, _, _, true, rfl, rfl, .dK he, k_dd, _, rfl, ?_⟩
 refine ite2 (fun c => nomatch c) (fun _ => ?_)
 refine ⟨_, rfl, e, kv, rfl, he, ?_⟩
 intro l4 n4; generalize eX : upd _ l4 _ = H4; have ⟨s4, e4⟩ := nw n4 eX; clear eX
 rw [keys_nms (nm := PinD.nm) ks] at e4
 refine nms_comp (nm := PinD.nm) (s4 _ _ hp) (Paired.mapP pp fun _ _ z => z.same s4) (fun _ _ z => z.nm) (by omega) fun D5 H5 s5 e5 => ?_
 refine ne_strs (s5 _ _ e4) e5 ?_
 refine ⟨_, rfl, ?_⟩
 refine ite2 (fun c => nomatch c) (fun _ => ?_)
 have s05 := sm_tr s4 s5
 have he5 := s05 _ _ he
 refine ⟨_, rfl, e, kv, rfl, he5, fun o => ?_⟩
 have k0 : KSame e H (upd H5 e (.frz o (.dK kv))) := fun b o' n z => by rw [upd_ne n]; exact s05 _ _ z
 have nk : (kv.map (·.1)).Nodup := by
  have e2 : kv.map (·.1) = (pins.map (·.nm)).map (fun x => (Sum.inr x : Key)) := by rw [ks, List.map_map]; rfl
  rw [e2]
  exact nodup_inr np
 refine for_items (d := e) (o := o) (kvs := kv) (fun t σ H' => ∃ (o3 o4 o5 : Option V), σ = [some (.ref e), some (.ref pA), some (.ref m), o3, o4, o5] ∧ KSame e H H' ∧ H' e = some (.frz o (.dK kv))) ⟨none, none, none, rfl, k0, upd_same⟩ (fun t σ H' _ h => by
   obtain ⟨_, _, _, _, _, h⟩ := h
   exact h) ?_ ?_
 ·rintro t k y σ H6 p7 ekv ⟨o3, o4, o5, rfl, k6, f6⟩ n7
  have ek : (kv.map (·.1))[t]? = some k := by rw [List.getElem?_map, ekv]; rfl
  rw [ks, List.getElem?_map] at ek
  obtain ⟨p, ep, rfl⟩ := Option.map_eq_some_iff.mp ek
  have mp : p ∈ pins := List.mem_of_getElem? ep
  obtain ⟨v, ev, hv⟩ := tl p mp
  rw [valV_at' nk ekv] at ev
  cases ev
  have t6 : SameT H H6 := ks_t k6 he
  have s7 := same_new n7 (.tup [kV (.inr p.nm), y])
  have e7 : (upd H6 p7 (.tup [kV (.inr p.nm), y])) p7 = some (.tup [kV (.inr p.nm), y]) := upd_same
  generalize upd H6 p7 (.tup [kV (.inr p.nm), y]) = H7 at s7 e7 ⊢
  refine ⟨p7, _, rfl, SqT.of e7, rfl, _, _, rfl, _, _, rfl, rfl, ?_⟩
  have hv7 := (hv.sameT t6).same s7
  obtain ⟨pt, w1, w2, rfl, hsq, hw1, hw2⟩ := hv7
  refine ⟨_, rfl, pt, _, rfl, hsq, _, rfl, ?_⟩
  refine ite2 (fun c => nomatch c) (fun _ => ?_)
  refine ⟨_, rfl, pt, _, rfl, .inr hsq, rfl, _, rfl, ?_⟩
  refine iteNS rfl ?_
  refine ⟨_, rfl, pt, rfl, ⟨_, hsq⟩, for_tup (K := K) (a := pt) (xs := [w1, w2]) (fun i σ H' => ∃ (o5 : Option V), σ = [some (.ref e), some (.ref pA), some (.ref m), some (.str p.nm), some (.ref pt), o5] ∧ Same H7 H') ⟨_, rfl, Same.refl _⟩ (fun i σ H' _ ⟨_, _, s⟩ => Ty.Same.seqT s hsq) ?_ ?_⟩
  ·rintro i z σ H8 hi ⟨o5', rfl, s8⟩
   obtain ⟨r, hz⟩ : ∃ r, NmR K H7 z r := by
    match i, hi with
    | 0, hi => cases hi; exact ⟨_, hw1⟩
    | 1, hi => cases hi; exact ⟨_, hw2⟩
   obtain ⟨pn, rfl, hn⟩ := hz.same s8
   refine ⟨_, rfl, pn, _, rfl, hn, _, rfl, ?_⟩
   refine ite2 (fun c => nomatch c) (fun _ => ?_)
   refine ⟨_, rfl, pn, rfl, ⟨_, hn⟩, fun D1 nD => ?_⟩
   refine comp_tup (cap := []) (K := K) (a := pn) (xs := [.int (qr r).1, .int (qr r).2]) (fun _ v _ => v = .bl true) nD (by show 2 < sizeLine; decide) (fun H2 s2 => Ty.Same.seqT s2 hn) (fun _ _ _ _ _ _ _ h => h) ?_ ?_
   ·intro j z H2 R hj s2 k
    obtain ⟨n, rfl⟩ : ∃ n, z = V.int n := by
     match j, hj with
     | 0, hi => exact ⟨_, (Option.some.inj hi).symm⟩
     | 1, hi => exact ⟨_, (Option.some.inj hi).symm⟩
    exact ⟨_, rfl, _, _, _, true, rfl, rfl, .int n, k_ii, k _ _ (Same.refl _) rfl⟩
   intro ys H9 hy hrel s9 hD
   obtain ⟨x1, x2, rfl⟩ : ∃ w1 w2, ys = [w1, w2] := by
    match ys, hy with
    | [w1, w2], _ => exact ⟨w1, w2, rfl⟩
   have e1 : x1 = .bl true := hrel 0 x1 rfl
   have e2 : x2 = .bl true := hrel 1 x2 rfl
   subst e1 e2
   refine ⟨D1, [true, true], rfl, SqL.of hD, _, rfl, ?_⟩
   refine ite2 (fun c => nomatch c) (fun _ => ?_)
   have hn9 := Ty.Same.seqT s9 hn
   refine ⟨_, rfl, pn, rfl, ⟨_, hn9⟩, fun D2 nD2 => ?_⟩
   refine comp_tup (cap := []) (K := K) (a := pn) (xs := [.int (qr r).1, .int (qr r).2]) (fun _ v _ => v = .bl false) nD2 (by show 2 < sizeLine; decide) (fun H2 s2 => Ty.Same.seqT s2 hn9) (fun _ _ _ _ _ _ _ h => h) ?_ ?_
   ·intro j z H2 R hj s2 k
    obtain ⟨n, rfl⟩ : ∃ n, z = V.int n := by
     match j, hj with
     | 0, hi => exact ⟨_, (Option.some.inj hi).symm⟩
     | 1, hi => exact ⟨_, (Option.some.inj hi).symm⟩
    exact ⟨_, rfl, _, _, _, false, rfl, rfl, .int n, k_ib, k _ _ (Same.refl _) rfl⟩
   intro ys H10 hy hrel s10 hD2
   obtain ⟨x1, x2, rfl⟩ : ∃ w1 w2, ys = [w1, w2] := by
    match ys, hy with
    | [w1, w2], _ => exact ⟨w1, w2, rfl⟩
   have e1 : x1 = .bl false := hrel 0 x1 rfl
   have e2 : x2 = .bl false := hrel 1 x2 rfl
   subst e1 e2
   refine ⟨D2, [false, false], rfl, SqL.of hD2, _, rfl, ?_⟩
   refine ite2 (fun c => nomatch c) (fun _ => ?_)
   exact ⟨_, rfl, sm_tr s8 (sm_tr s9 s10)⟩
  ·rintro σ H8 ⟨o5', rfl, s8⟩
   have hsq8 := Ty.Same.seqT s8 hsq
   refine ⟨_, rfl, pt, _, rfl, .inr hsq8, ?_⟩
   intro l9 n9; generalize eX : upd _ l9 _ = H9; have ⟨s9, e9⟩ := nw n9 eX; clear eX
   have s69 := sm_tr s7 (sm_tr s8 s9)
   obtain ⟨l, v1, v2, y1, y3, y4, y5⟩ := du.vl p mp
   have l6 : ∀ {b : Addr} {o : HO}, b ≠ e → H b = some o → H9 b = some o := fun n z => s69 _ _ (k6 _ _ n z)
   have dg : DGet H9 m (.str p.nm) (some (.ref l)) := by
    have := DGet.k (k := .inr p.nm) (l6 me du.at_)
    rw [y1] at this
    exact this
   have t69 : SameT H H9 := t6.trans (.of s69)
   have y3' := l6 (fun z => by rw [z, he] at y3; cases y3) y3
   refine ⟨_, rfl, _, rfl, m, _, rfl, dg, ?_⟩
   refine ⟨_, _, .inr ⟨two_is (x := F p) e9 ((hw1.same s8).same s9) ((hw2.same s8).same s9), two_is (x := F p) y3' (y4.sameT t69) (y5.sameT t69)⟩, alike_spots _ _, dep_spots _, _, rfl, ?_⟩
   rw [eq_spots, decide_eq_true rfl]
   refine ite2 (fun c => nomatch c) (fun _ => ?_)
   exact ⟨_, _, _, rfl, fun b o' n z => s69 _ _ (k6 b o' n z), s69 _ _ f6⟩
 ·rintro σ H6 ⟨o3, o4, o5, rfl, k6, f6⟩
  refine ⟨e, o, kv, f6, fun o' u' z => (by have z' : H e = some (.frz o' u') := z; rw [he] at z'; cases z'), ?_⟩
  refine q _ fun b o' z => ?_
  by_cases n : b = e
  ·subst n
   rw [he] at z
   rw [upd_same]
   exact z
  ·rw [upd_ne n]
   exact k6 b o' n z
structure W16 (K : Frag) (H : Hp) (C fA dx pP pW pB lP lB : Addr) (us vs : List V) (pins : List PinD) (bars : List BarD) : Prop where
 fr : FrB K H C fA dx pP pW pB lP pins bars
 hp : H lP = some (.lst us)
 pp : Paired (PinX K H lP) us pins
 hb : H lB = some (.lst vs)
 pb : Paired (BarR K H lP) vs bars
 g : GoodF pins bars
theorem W16.same {K : Frag} {H H' : Hp} {C fA dx pP pW pB lP lB : Addr} {us vs : List V} {pins : List PinD} {bars : List BarD} (h : W16 K H C fA dx pP pW pB lP lB us vs pins bars) (s : Same H H') : W16 K H' C fA dx pP pW pB lP lB us vs pins bars :=
 ⟨h.fr.same s, s _ _ h.hp, Paired.mapP h.pp fun _ _ z => z.same s, s _ _ h.hb, Paired.mapP h.pb fun _ _ z => z.same s, h.g⟩
def K4 (pP pW pB lP : Addr) (H H' : Hp) : Prop := ∀ b o, b ≠ pP → b ≠ pW → b ≠ pB → b ≠ lP → H b = some o → H' b = some o
theorem W16.d3 {K : Frag} {H : Hp} {C fA dx pP pW pB lP lB : Addr} {us vs : List V} {pins : List PinD} {bars : List BarD} (h : W16 K H C fA dx pP pW pB lP lB us vs pins bars) : D3 pP pW pB H := by
 obtain ⟨kP, kW, kB, R, _⟩ := h.fr.ex
 exact ⟨⟨_, R.pl⟩, ⟨_, R.wy⟩, ⟨_, R.br⟩⟩
theorem K4.get {pP pW pB lP : Addr} {H H' : Hp} {xs : List V} (k : K4 pP pW pB lP H H') (h : D3 pP pW pB H) (hp : H lP = some (.lst xs)) {b : Addr} {o : HO} (e : H b = some o) (n : ∀ kvs, o ≠ .dK kvs) (nl : b ≠ lP) : H' b = some o := by
 obtain ⟨n1, n2, n3⟩ := h.ne e n
 exact k b o n1 n2 n3 nl e
theorem K4.tup {pP pW pB lP : Addr} {H H' : Hp} {xs : List V} (k : K4 pP pW pB lP H H') (h : D3 pP pW pB H) (hp : H lP = some (.lst xs)) {b : Addr} {ys : List V} (e : H b = some (.tup ys)) : H' b = some (.tup ys) :=
 k.get h hp e (fun _ z => nomatch z) fun z => by rw [z, hp] at e; cases e
theorem K4.t {pP pW pB lP : Addr} {H H' : Hp} {xs : List V} (k : K4 pP pW pB lP H H') (h : D3 pP pW pB H) (hp : H lP = some (.lst xs)) : SameT H H' := fun b zs r => by
 rcases r with r | ⟨o', r⟩
 ·exact .inl (k.tup h hp r)
 ·exact .inr ⟨o', k.get h hp r (fun _ z => nomatch z) fun z => by rw [z, hp] at r; cases r⟩
theorem at_last {xs : List V} {x : V} : atI (xs ++ [x]) (-1) = some x := by
 have e : ixN (xs ++ [x]).length (-1) = some xs.length := by
  unfold ixN
  rw [if_neg (by decide), List.length_append, List.length_singleton, if_pos (by omega)]
  congr 1
  omega
 unfold atI
 rw [e]
 show (xs ++ [x])[xs.length]? = some x
 simp
theorem dict_funN {α : Type} {kvs : List (Key × V)} {R : Str → V → α → Prop} (h : ∀ nm v, valV kvs (.inr nm) = some v → ∃ r, R nm v r) : ∃ F : Str → Option α, ∀ nm, (valV kvs (.inr nm) = none ∧ F nm = none) ∨ ∃ v r, valV kvs (.inr nm) = some v ∧ F nm = some r ∧ R nm v r := by
 have key : ∀ nm, ∃ o : Option α, (valV kvs (.inr nm) = none ∧ o = none) ∨ ∃ v r, valV kvs (.inr nm) = some v ∧ o = some r ∧ R nm v r := fun nm => by
  cases e : valV kvs (.inr nm) with
  | none => exact ⟨none, .inl ⟨rfl, rfl⟩⟩
  | some v =>
   obtain ⟨r, hr⟩ := h nm v e
   exact ⟨some r, .inr ⟨v, r, rfl, rfl, hr⟩⟩
 exact ⟨fun nm => Classical.choose (key nm), fun nm => Classical.choose_spec (key nm)⟩
structure HndT (K : Frag) (H : Hp) (d : Addr) (kvs : List (Key × V)) (xs : List Str) (T : Str → Option Rat) : Prop where
 at_ : H d = some (.dK kvs)
 ks : kvs.map (·.1) = xs.map (fun x => (Sum.inr x : Key))
 nd : xs.Nodup
 len : xs.length ≤ 8
 pd : RtD K H kvs T
 sz : ∀ x, Sz 50 ((T x).getD 0)
structure HndU (K : Frag) (H : Hp) (d : Addr) (kvs : List (Key × V)) (xs : List Str) (U : Str → Option (List Rat)) : Prop where
 at_ : H d = some (.dK kvs)
 ks : kvs.map (·.1) = xs.map (fun x => (Sum.inr x : Key))
 nd : xs.Nodup
 len : xs.length ≤ 8
 pd : LtD K H kvs U
 sz : ∀ x, ∀ r ∈ (U x).getD [], Sz 50 r
section
variable {K : Frag} {H H' : Hp} {d : Addr} {kvs : List (Key × V)} {xs : List Str} {T : Str → Option Rat} {U : Str → Option (List Rat)}
theorem HndT.same (h : HndT K H d kvs xs T) (s : Same H H') : HndT K H' d kvs xs T := ⟨s _ _ h.at_, h.ks, h.nd, h.len, h.pd.same s, h.sz⟩
theorem HndU.same (h : HndU K H d kvs xs U) (s : Same H H') : HndU K H' d kvs xs U := ⟨s _ _ h.at_, h.ks, h.nd, h.len, h.pd.same s, h.sz⟩
theorem HndT.t (h : HndT K H d kvs xs T) (e : H' d = some (.dK kvs)) (s : SameT H H') : HndT K H' d kvs xs T := ⟨e, h.ks, h.nd, h.len, fun nm => by
 rcases h.pd nm with z | ⟨v, p, h1, h2, h3⟩
 ·exact .inl z
 ·exact .inr ⟨v, p, h1, h2, h3.sameT s⟩, h.sz⟩
theorem HndU.t (h : HndU K H d kvs xs U) (e : H' d = some (.dK kvs)) (s : SameT H H') (l : ∀ b us, (∃ x, valV kvs (.inr x) = some (.ref b)) → H b = some (.lst us) → H' b = some (.lst us)) : HndU K H' d kvs xs U := ⟨e, h.ks, h.nd, h.len, fun nm => by
 rcases h.pd nm with z | ⟨v, us, p, h1, h2, h3, h4⟩
 ·exact .inl z
 ·exact .inr ⟨v, us, p, h1, h2, l _ _ ⟨nm, h1⟩ h3, Paired.mapP h4 fun _ _ z => z.sameT s⟩, h.sz⟩
theorem fz_of {d' : Addr} {kus : List (Key × V)} {ys : List Str} {H' : Hp} (h : HndT K H d kvs xs T) (h' : HndU K H' d' kus ys U) : FzOk T U := ⟨h.sz, h'.sz⟩
end
theorem turn_mem {b : Bool} {rows : List (Str × V)} {r : Str × V} (h : r ∈ turnB b rows) : r ∈ rows := by
 unfold turnB at h
 cases b
 ·exact h
 ·rw [if_pos rfl] at h
  exact List.mem_reverse.mp h
theorem turn_nd {b : Bool} {rows : List (Str × V)} (nd : (rows.map (·.1)).Nodup) : ((turnB b rows).map (·.1)).Nodup := by
 unfold turnB
 cases b
 ·exact nd
 ·rw [if_pos rfl, List.map_reverse]
  exact (List.reverse_perm _).nodup_iff.mpr nd
theorem turn_len {b : Bool} {rows : List (Str × V)} : (turnB b rows).length = rows.length := by
 unfold turnB
 cases b
 ·rfl
 ·rw [if_pos rfl, List.length_reverse]
def hddN (rows : List (Str × V)) : List Str := (rows.filter fun r => !decide (r.2 = V.non)).map (·.1)
theorem hdd_ks {rows : List (Str × V)} : (hdd rows).map (·.1) = (hddN rows).map (fun x => (Sum.inr x : Key)) := by
 unfold hdd hddN
 rw [List.map_map, List.map_map]
 rfl
theorem hddN_nd {rows : List (Str × V)} (nd : (rows.map (·.1)).Nodup) : (hddN rows).Nodup := ((List.filter_sublist).map _).nodup nd
theorem hddN_len {rows : List (Str × V)} : (hddN rows).length ≤ rows.length := by
 unfold hddN
 rw [List.length_map]
 exact List.length_filter_le _ _
theorem hdd_at {rows : List (Str × V)} {x : Str} {v : V} (h : valV (hdd rows) (.inr x) = some v) : (x, v) ∈ rows ∧ v ≠ V.non := by
 have h1 := valV_mem h
 unfold hdd at h1
 obtain ⟨r, h2, h3⟩ := List.mem_map.mp h1
 obtain ⟨h4, h5⟩ := List.mem_filter.mp h2
 cases h3
 exact ⟨h4, by simpa using h5⟩
theorem hnd_T {K : Frag} {H : Hp} {d : Addr} {b : Bool} {us : List V} {rows : List (Str × V)} {nms : List Str} (e : H d = some (.dK (hdd (turnB b rows)))) (rg : RwG K H us rows nms (fun _ v => NmS K H v)) (nd : nms.Nodup) (len : nms.length ≤ 8) :
  ∃ (kvs : List (Key × V)) (xs : List Str) (T : Str → Option Rat), HndT K H d kvs xs T := by
 obtain ⟨T, hT⟩ := dict_funN (kvs := hdd (turnB b rows)) (R := fun _ v (r : Rat) => NmR K H v r ∧ Sz 50 r) fun nm v ev => by
  obtain ⟨h1, h2⟩ := hdd_at ev
  exact rg.pr _ (turn_mem h1) h2
 have ndr : (rows.map (·.1)).Nodup := by rw [rg.nm]; exact nd
 refine ⟨_, hddN (turnB b rows), T, e, hdd_ks, hddN_nd (turn_nd ndr), ?_, fun nm => ?_, fun x => ?_⟩
 ·have h1 := hddN_len (rows := turnB b rows)
  rw [turn_len, rg.len.2] at h1
  omega
 ·rcases hT nm with h | ⟨v, r, h1, h2, h3, _⟩
  ·exact .inl h
  ·exact .inr ⟨v, r, h1, h2, h3⟩
 ·rcases hT x with ⟨_, h⟩ | ⟨v, r, _, h2, _, h3⟩
  ·rw [h]
   exact sz_zero (by decide)
  ·rw [h2]
   exact h3
theorem hnd_U {K : Frag} {H : Hp} {d : Addr} {b : Bool} {us : List V} {rows : List (Str × V)} {pins : List PinD} (e : H d = some (.dK (hdd (turnB b rows)))) (rg : RwG K H us rows (pins.map (·.nm)) (PuS K H pins)) (np : (pins.map (·.nm)).Nodup) (len : pins.length ≤ 6) :
  ∃ (xs : List Str) (U : Str → Option (List Rat)), HndU K H d (hdd (turnB b rows)) xs U ∧ FitU pins U := by
 obtain ⟨U, hU⟩ := dict_funN (kvs := hdd (turnB b rows)) (R := fun nm v (rs : List Rat) => (∃ l us, v = .ref l ∧ H l = some (.lst us) ∧ Paired (NmR K H) us rs) ∧ (∀ r ∈ rs, Sz 50 r) ∧ ∃ p ∈ pins, p.nm = nm ∧ rs.length = p.ws.length) fun nm v ev => by
  obtain ⟨h1, h2⟩ := hdd_at ev
  obtain ⟨p, hp, ep, l, us, rs, h3, h4, h5, h6, h7⟩ := rg.pr _ (turn_mem h1) h2
  exact ⟨rs, ⟨l, us, h3, h4, h5⟩, h6, p, hp, ep, h7⟩
 have ndr : (rows.map (·.1)).Nodup := by rw [rg.nm]; exact np
 refine ⟨hddN (turnB b rows), U, ⟨e, hdd_ks, hddN_nd (turn_nd ndr), ?_, fun nm => ?_, fun x r hr => ?_⟩, fun p hp rs ers => ?_⟩
 ·have h1 := hddN_len (rows := turnB b rows)
  rw [turn_len, rg.len.2, List.length_map] at h1
  omega
 ·rcases hU nm with h | ⟨v, rs, h1, h2, ⟨l, us, h3, h4, h5⟩, _⟩
  ·exact .inl h
  ·exact .inr ⟨l, us, rs, by rw [h1, h3], h2, h4, h5⟩
 ·rcases hU x with ⟨_, h⟩ | ⟨v, rs, _, h2, _, h3, _⟩
  ·rw [h] at hr
   cases hr
  ·rw [h2] at hr
   exact h3 r hr
 ·rcases hU p.nm with ⟨_, h⟩ | ⟨v, rs', _, h2, _, _, q, hq, eq, el⟩
  ·rw [h] at ers
   cases ers
  ·rw [h2] at ers
   cases ers
   rw [el, nm_inj (nm := PinD.nm) np hq hp eq]
def nDa (r : Rat) : Da := .t [.v (.int (qr r).1), .v (.int (qr r).2)]
def itT (T : Str → Option Rat) (x : Str) : Da := .t [.v (.str x), nDa ((T x).getD 0)]
def itU (U : Str → Option (List Rat)) (x : Str) : Da := .t [.v (.str x), .l (((U x).getD []).map nDa)]
def ItT (K : Frag) (H : Hp) (us : List V) (xs : List Str) (T : Str → Option Rat) : Prop := Paired (fun u x => ∃ p v, u = .ref p ∧ H p = some (.tup [.str x, v]) ∧ NmR K H v ((T x).getD 0)) us xs
def ItU (K : Frag) (H : Hp) (us : List V) (xs : List Str) (U : Str → Option (List Rat)) : Prop := Paired (fun u x => ∃ p l us', u = .ref p ∧ H p = some (.tup [.str x, .ref l]) ∧ H l = some (.lst us') ∧ Paired (NmR K H) us' ((U x).getD [])) us xs
theorem ItT.same {K : Frag} {H H' : Hp} {us : List V} {xs : List Str} {T : Str → Option Rat} (h : ItT K H us xs T) (s : Same H H') : ItT K H' us xs T := Paired.mapP h fun _ _ ⟨p, v, e1, e2, e3⟩ => ⟨p, v, e1, s _ _ e2, e3.same s⟩
theorem ItU.same {K : Frag} {H H' : Hp} {us : List V} {xs : List Str} {U : Str → Option (List Rat)} (h : ItU K H us xs U) (s : Same H H') : ItU K H' us xs U := Paired.mapP h fun _ _ ⟨p, l, us', e1, e2, e3, e4⟩ => ⟨p, l, us', e1, s _ _ e2, s _ _ e3, Paired.mapP e4 fun _ _ z => z.same s⟩
theorem nums_iss {H : Hp} : ∀ {us : List V} {rs : List Rat}, Paired (NmR K H) us rs → Iss K H (rs.map nDa) us
 | _, _, .nil => by unfold Iss; trivial
 | _, _, .cons h t => by
  rw [List.map_cons]
  unfold Iss
  exact ⟨is_numF h, nums_iss t⟩
theorem itT_iss {H : Hp} {T : Str → Option Rat} : ∀ {us : List V} {xs : List Str}, ItT K H us xs T → Iss K H (xs.map (itT T)) us
 | _, _, .nil => by unfold Iss; trivial
 | _, _, .cons ⟨p, v, e1, e2, e3⟩ t => by
  rw [List.map_cons]
  unfold Iss
  refine ⟨?_, itT_iss t⟩
  unfold itT Is
  refine ⟨p, _, e1, SqT.of e2, ?_⟩
  unfold Iss
  refine ⟨by unfold Is; exact ⟨rfl, rfl⟩, ?_⟩
  unfold Iss
  exact ⟨is_numF e3, by unfold Iss; trivial⟩
theorem itU_iss {H : Hp} {U : Str → Option (List Rat)} : ∀ {us : List V} {xs : List Str}, ItU K H us xs U → Iss K H (xs.map (itU U)) us
 | _, _, .nil => by unfold Iss; trivial
 | _, _, .cons ⟨p, l, us', e1, e2, e3, e4⟩ t => by
  rw [List.map_cons]
  unfold Iss
  refine ⟨?_, itU_iss t⟩
  unfold itU Is
  refine ⟨p, _, e1, SqT.of e2, ?_⟩
  unfold Iss
  refine ⟨by unfold Is; exact ⟨rfl, rfl⟩, ?_⟩
  unfold Iss
  refine ⟨?_, by unfold Iss; trivial⟩
  unfold Is
  exact ⟨l, us', rfl, SqL.of e3, nums_iss e4⟩
theorem nDa_al (r s : Rat) : alike (nDa r) (nDa s) = true := by unfold nDa alike alikes alikes alikes; simp only [alike, Bool.and_self]
theorem nDa_eq (r : Rat) : eqDa (nDa r) (nDa r) = true := by unfold nDa eqDa eqDas eqDas eqDas; simp only [eqDa, eqV, decide_true, Bool.and_self, BEq.rfl]
theorem nDa_dep (r : Rat) : dep (nDa r) = 1 := by unfold nDa dep deps deps deps; simp only [dep]; rfl
theorem nums_al : ∀ rs : List Rat, alikes (rs.map nDa) (rs.map nDa) = true
 | [] => by simp [alikes]
 | r :: rs => by rw [List.map_cons]; unfold alikes; rw [nums_al rs, nDa_al]; rfl
theorem nums_eq : ∀ rs : List Rat, eqDas (rs.map nDa) (rs.map nDa) = true
 | [] => by simp [eqDas]
 | r :: rs => by rw [List.map_cons]; unfold eqDas; rw [nums_eq rs, nDa_eq]; rfl
theorem nums_dep : ∀ rs : List Rat, deps (rs.map nDa) ≤ 1
 | [] => by simp [deps]
 | r :: rs => by
  rw [List.map_cons]
  unfold deps
  have := nums_dep rs
  rw [nDa_dep]
  omega
theorem maps_al {f : Str → Da} (h : ∀ x, alike (f x) (f x) = true) : ∀ xs : List Str, alikes (xs.map f) (xs.map f) = true
 | [] => by simp [alikes]
 | x :: xs => by rw [List.map_cons]; unfold alikes; rw [maps_al h xs, h]; rfl
theorem maps_eq {f : Str → Da} (h : ∀ x, eqDa (f x) (f x) = true) : ∀ xs : List Str, eqDas (xs.map f) (xs.map f) = true
 | [] => by simp [eqDas]
 | x :: xs => by rw [List.map_cons]; unfold eqDas; rw [maps_eq h xs, h]; rfl
theorem maps_dep {f : Str → Da} (h : ∀ x, dep (f x) ≤ 9) : ∀ xs : List Str, deps (xs.map f) ≤ 9
 | [] => by simp [deps]
 | x :: xs => by
  rw [List.map_cons]
  unfold deps
  have h1 := maps_dep h xs
  have h2 := h x
  omega
def keptDa (T : Str → Option Rat) (U : Str → Option (List Rat)) (xs ys : List Str) : List Da := [.l (xs.map (itT T)), .l (ys.map (itU U))]
theorem kept_al {T : Str → Option Rat} {U : Str → Option (List Rat)} {xs ys : List Str} : alikes (keptDa T U xs ys) (keptDa T U xs ys) = true := by
 have h1 : alikes (xs.map (itT T)) (xs.map (itT T)) = true := maps_al (fun x => by unfold itT alike alikes alikes alikes; simp only [alike, nDa_al, Bool.and_self]) xs
 have h2 : alikes (ys.map (itU U)) (ys.map (itU U)) = true := maps_al (fun x => by unfold itU alike alikes alikes alikes; simp only [alike, nums_al, Bool.and_self]) ys
 unfold keptDa alikes alikes alikes
 simp only [alike, h1, h2, Bool.and_self]
theorem kept_eq {T : Str → Option Rat} {U : Str → Option (List Rat)} {xs ys : List Str} : eqDas (keptDa T U xs ys) (keptDa T U xs ys) = true := by
 have h1 : eqDas (xs.map (itT T)) (xs.map (itT T)) = true := maps_eq (fun x => by unfold itT eqDa eqDas eqDas eqDas; simp only [eqDa, eqV, nDa_eq, decide_true, Bool.and_self, BEq.rfl]) xs
 have h2 : eqDas (ys.map (itU U)) (ys.map (itU U)) = true := maps_eq (fun x => by unfold itU eqDa eqDas eqDas eqDas; simp only [eqDa, eqV, nums_eq, decide_true, Bool.and_self, BEq.rfl]) ys
 unfold keptDa eqDas eqDas eqDas
 simp only [eqDa, h1, h2, Bool.and_self]
theorem kept_dep {T : Str → Option Rat} {U : Str → Option (List Rat)} {xs ys : List Str} : deps (keptDa T U xs ys) ≤ 60 := by
 have h1 : deps (xs.map (itT T)) ≤ 9 := maps_dep (fun x => by unfold itT dep deps deps deps; rw [nDa_dep]; simp [dep]) xs
 have h2 : deps (ys.map (itU U)) ≤ 9 := maps_dep (fun x => by
  have := nums_dep ((U x).getD [])
  unfold itU dep deps deps deps
  simp only [dep]
  omega) ys
 unfold keptDa deps deps deps
 simp only [dep]
 omega
theorem kept_is {H : Hp} {T : Str → Option Rat} {U : Str → Option (List Rat)} {xs ys : List Str} {p l1 l2 : Addr} {u1 u2 : List V} (h : H p = some (.tup [.ref l1, .ref l2])) (h1 : H l1 = some (.lst u1)) (i1 : ItT K H u1 xs T) (h2 : H l2 = some (.lst u2)) (i2 : ItU K H u2 ys U) : Is K H (.t (keptDa T U xs ys)) (.ref p) := by
 unfold Is
 refine ⟨p, _, rfl, SqT.of h, ?_⟩
 unfold keptDa Iss
 refine ⟨by unfold Is; exact ⟨l1, u1, rfl, SqL.of h1, itT_iss i1⟩, ?_⟩
 unfold Iss
 exact ⟨by unfold Is; exact ⟨l2, u2, rfl, SqL.of h2, itU_iss i2⟩, by unfold Iss; trivial⟩
theorem itT_of {H : Hp} {kvs : List (Key × V)} {xs : List Str} {T : Str → Option Rat} {us : List V} (pd : RtD K H kvs T) (ks : kvs.map (·.1) = xs.map (fun x => (Sum.inr x : Key))) (nd : xs.Nodup) (pu : Paired (fun u (kv : Key × V) => ∃ p, u = .ref p ∧ H p = some (.tup [kV kv.1, kv.2])) us kvs) : ItT K H us xs T := by
 have nk : (kvs.map (·.1)).Nodup := by
  rw [ks]
  exact nodup_inr nd
 have lk : kvs.length = xs.length := by
  have z := congrArg List.length ks
  rw [List.length_map, List.length_map] at z
  exact z
 refine paired_of ((Paired.length pu).trans lk) fun i u x e1 e2 => ?_
 obtain ⟨kv, ekv, p, ep, hp⟩ := paired_get pu e1
 have ek : (kvs.map (·.1))[i]? = some kv.1 := by rw [List.getElem?_map, ekv]; rfl
 rw [ks, List.getElem?_map, e2] at ek
 have ek' : kv.1 = Sum.inr x := (Option.some.inj ek).symm
 have vx := valV_at' nk (t := i) (k := kv.1) (y := kv.2) ekv
 rw [ek'] at vx hp
 refine ⟨p, kv.2, ep, hp, ?_⟩
 rcases pd x with ⟨z, _⟩ | ⟨v, r, z1, z2, z3⟩
 ·rw [vx] at z
  cases z
 ·rw [vx] at z1
  cases z1
  rw [z2]
  exact z3
theorem W16.dict {K : Frag} {H : Hp} {C fA dx pP pW pB lP lB d : Addr} {us vs : List V} {pins : List PinD} {bars : List BarD} {kd : List (Key × V)} {o : HO} (h : W16 K H C fA dx pP pW pB lP lB us vs pins bars) (e : H d = some (.dK kd)) (n : d ≠ pP ∧ d ≠ pW ∧ d ≠ pB) : W16 K (upd H d o) C fA dx pP pW pB lP lB us vs pins bars := by
 have t : SameT H (upd H d o) := .dict e
 have ks : KSame d H (upd H d o) := fun b o' n z => by rw [upd_ne n]; exact z
 have nl : ∀ {b : Addr} {xs : List V}, H b = some (.lst xs) → b ≠ d := fun z y => by rw [y, e] at z; cases z
 have px : ∀ {v : V} {p : PinD}, PinX K H lP v p → PinX K (upd H d o) lP v p := fun z => z.ks ks e
 obtain ⟨kP, kW, kB, R, W, nw⟩ := h.fr.ex
 refine ⟨⟨kP, kW, kB, R.sameT_of t (upd_ne fun z => ?_) (upd_ne (Ne.symm n.1)) (upd_ne (Ne.symm n.2.1)) (upd_ne (Ne.symm n.2.2)), W.dict e, nw⟩, ks _ _ (nl h.hp) h.hp, Paired.mapP h.pp fun _ _ z => px z, ks _ _ (nl h.hb) h.hb, Paired.mapP h.pb fun _ _ ⟨a, u1, u2, e1, h1, h2, h3⟩ => ⟨a, u1, u2, e1, t.seqT h1, px h2, px h3⟩, h.g⟩
 have := R.obj
 rw [z, e] at this
 cases this
structure Nlt (d : Addr) (H : Hp) : Prop where
 l : ∀ xs, H d ≠ some (.lst xs)
 t : ∀ xs, H d ≠ some (.tup xs)
 f : ∀ o xs, H d ≠ some (.frz o (.tup xs))
theorem Nlt.dK {d : Addr} {H : Hp} {kvs : List (Key × V)} (e : H d = some (.dK kvs)) : Nlt d H := ⟨fun _ z => (by rw [e] at z; cases z), fun _ z => (by rw [e] at z; cases z), fun _ _ z => (by rw [e] at z; cases z)⟩
theorem Nlt.fz {d : Addr} {H : Hp} {kvs : List (Key × V)} {o : Obj} (e : H d = some (.frz o (.dK kvs))) : Nlt d H := ⟨fun _ z => (by rw [e] at z; cases z), fun _ z => (by rw [e] at z; cases z), fun _ _ z => (by rw [e] at z; cases z)⟩
structure K2 (d d' : Addr) (H H' : Hp) : Prop where
 k : ∀ b o, b ≠ d → b ≠ d' → H b = some o → H' b = some o
 n : Nlt d H
 n' : Nlt d' H
section
variable {d d' : Addr} {H H' : Hp}
theorem K2.lst (h : K2 d d' H H') {b : Addr} {xs : List V} (e : H b = some (.lst xs)) : H' b = some (.lst xs) := h.k _ _ (fun z => h.n.l xs (z ▸ e)) (fun z => h.n'.l xs (z ▸ e)) e
theorem K2.tup (h : K2 d d' H H') {b : Addr} {xs : List V} (e : H b = some (.tup xs)) : H' b = some (.tup xs) := h.k _ _ (fun z => h.n.t xs (z ▸ e)) (fun z => h.n'.t xs (z ▸ e)) e
theorem K2.t (h : K2 d d' H H') : SameT H H' := fun b xs r => by
 rcases r with r | ⟨o', r⟩
 ·exact .inl (h.tup r)
 ·exact .inr ⟨o', h.k _ _ (fun z => h.n.f o' xs (z ▸ r)) (fun z => h.n'.f o' xs (z ▸ r)) r⟩
end
structure KeptW (K : Frag) (H : Hp) (p : Addr) (xT : List Str) (T : Str → Option Rat) (xU : List Str) (U : Str → Option (List Rat)) : Prop where
 ex : ∃ l1 l2 u1 u2, H p = some (.tup [.ref l1, .ref l2]) ∧ H l1 = some (.lst u1) ∧ ItT K H u1 xT T ∧ H l2 = some (.lst u2) ∧ ItU K H u2 xU U
theorem KeptW.same {K : Frag} {H H' : Hp} {p : Addr} {xT xU : List Str} {T : Str → Option Rat} {U : Str → Option (List Rat)} (h : KeptW K H p xT T xU U) (s : Same H H') : KeptW K H' p xT T xU U := by
 obtain ⟨l1, l2, u1, u2, h1, h2, h3, h4, h5⟩ := h.ex
 exact ⟨l1, l2, u1, u2, s _ _ h1, s _ _ h2, h3.same s, s _ _ h4, h5.same s⟩
theorem KeptW.k2 {K : Frag} {H H' : Hp} {d d' p : Addr} {xT xU : List Str} {T : Str → Option Rat} {U : Str → Option (List Rat)} (h : KeptW K H p xT T xU U) (k : K2 d d' H H') : KeptW K H' p xT T xU U := by
 obtain ⟨l1, l2, u1, u2, h1, h2, h3, h4, h5⟩ := h.ex
 exact ⟨l1, l2, u1, u2, k.tup h1, k.lst h2, Paired.mapP h3 fun _ _ ⟨p, v, e1, e2, e3⟩ => ⟨p, v, e1, k.tup e2, e3.sameT k.t⟩, k.lst h4, Paired.mapP h5 fun _ _ ⟨p, l, us', e1, e2, e3, e4⟩ => ⟨p, l, us', e1, k.tup e2, k.lst e3, Paired.mapP e4 fun _ _ z => z.sameT k.t⟩⟩
theorem KeptW.is {H : Hp} {p : Addr} {xT xU : List Str} {T : Str → Option Rat} {U : Str → Option (List Rat)} (h : KeptW K H p xT T xU U) : Is K H (.t (keptDa T U xT xU)) (.ref p) := by
 obtain ⟨l1, l2, u1, u2, h1, h2, h3, h4, h5⟩ := h.ex
 exact kept_is h1 h2 h3 h4 h5
theorem rt_t {K : Frag} {H H' : Hp} {kvs : List (Key × V)} {T : Str → Option Rat} (h : RtD K H kvs T) (s : SameT H H') : RtD K H' kvs T := fun nm => by
 rcases h nm with z | ⟨v, p, h1, h2, h3⟩
 ·exact .inl z
 ·exact .inr ⟨v, p, h1, h2, h3.sameT s⟩
theorem key_name {kvs : List (Key × V)} {xs : List Str} {i : Nat} {k : Key} {y : V} (ks : kvs.map (·.1) = xs.map (fun x => (Sum.inr x : Key))) (e : kvs[i]? = some (k, y)) : ∃ x, xs[i]? = some x ∧ k = .inr x := by
 have ek : (kvs.map (·.1))[i]? = some k := by rw [List.getElem?_map, e]; rfl
 rw [ks, List.getElem?_map] at ek
 obtain ⟨x, ex, rfl⟩ := Option.map_eq_some_iff.mp ek
 exact ⟨x, ex, rfl⟩
theorem lt_at {K : Frag} {H : Hp} {kvs : List (Key × V)} {xs : List Str} {U : Str → Option (List Rat)} {i : Nat} {x : Str} {y : V} (pd : LtD K H kvs U) (ks : kvs.map (·.1) = xs.map (fun x => (Sum.inr x : Key))) (nd : xs.Nodup) (e : kvs[i]? = some (.inr x, y)) : ∃ l us, y = .ref l ∧ H l = some (.lst us) ∧ Paired (NmR K H) us ((U x).getD []) := by
 have nk : (kvs.map (·.1)).Nodup := by
  rw [ks]
  exact nodup_inr nd
 have vx := valV_at' nk e
 rcases pd x with ⟨z, _⟩ | ⟨l, us, rs, z1, z2, z3, z4⟩
 ·rw [vx] at z
  cases z
 ·rw [vx] at z1
  cases z1
  exact ⟨l, us, rfl, z3, by rw [z2]; exact z4⟩
theorem sc_law : FnScope ["_law_script", "_law_scale", "_law_names_here", "_law_pins_here", "_law_bars_here", "_law_frame_here", "_law_other", "_law_about", "_law_pulls", "_law_pushes_here", "_law_kept", "_law_due_here", "_law_found", "_law_cell"] ["_law_script"] (defScope s_law) := sq
theorem ok_law {f : Addr} {fd : FuncData} {C : Addr} (F : Fun K "law" "law" s_law f fd) (m_len : mg "len" = none) (m_list : mg "list" = none) (m_int : mg "int" = none)
  (G_ad : Fn P w K mg base (CXr P w) 1 "_law_cell_at" ["_law_script", "_law_k"] (spCell K)) (G_aw : Fn P w K mg base (CXr P w) 1 "_law_names" ["_law_cell", "_law_many"] spNames)
  (G_b9 : Fn P w K mg base (CXr P w) 35 "_law_pins" ["_law_script", "_law_names_here", "_law_scale"] (spPinsL K)) (G_ba : Fn P w K mg base (CXr P w) 2 "_law_bars" ["_law_script", "_law_names_here", "_law_pins_here"] (spBarsL K))
  (G_ax : Fn P w K mg base (CXr P w) 5 "_law_frame" ["_law_pins_here", "_law_bars_here"] (spFrameL K C)) (G_a7 : Fn P w K mg base (CXr P w) 36 "_law_all_pulls" ["_law_script", "_law_bars_here", "_law_scale"] (spAllPulls K)) (G_a4 : Fn P w K mg base (CXr P w) 36 "_law_all_pushes" ["_law_script", "_law_pins_here", "_law_scale"] (spAllPushes K)) (G_ak : Fn P w K mg base (CXr P w) 1 "_law_handed" ["_law_rows", "_law_about"] (spHanded K))
  (G_al : Fn P w K mg base (CXr P w) 35 "_law_pushes" ["_law_cell", "_law_scale", "_law_ways_here"] (spPushes K)) (G_be : Fn P w K mg base (CXr P w) 35 "_law_due" ["_law_pins_here", "_law_bars_here", "_law_pulls", "_law_pushes_here"] (spDue K)) (G_bc : Fn P w K mg base (CXr P w) 1 "_law_same" ["_law_found", "_law_pins_here", "_law_due_here"] (spSame K))
  (G_ab : Fn P w K mg base (CXr P w) 35 "_law_put_anew" ["_law_frame_here", "_law_pins_here", "_law_bars_here", "_law_cell", "_law_far"] (spAnew K C)) (G_az : Fn P w K mg base (CXr P w) 37 "forces_at" ["F", "pulls", "pushes"] (spForces K C)) :
  FnOk P w K mg base (CXr P w) 42 f fd ["_law_script"] (spLaw K) := by
 refine F.okG sc_law (fun vs H Q E h => ?_) (fun cdv A outer s H vs Q E hr h => ?_)
 ·obtain ⟨a, ns, rfl, _⟩ := h
  rfl
 obtain ⟨sA, ns, rfl, hS, hn, hb, q⟩ := h
 have L2 : 2 ≤ sizeLine := by decide
 have tail17 : ∃ t, PSs (cxOf (CXr P w) P w K mg base ["_law_script", "_law_scale", "_law_names_here", "_law_pins_here", "_law_bars_here", "_law_frame_here", "_law_other", "_law_about", "_law_pulls", "_law_pushes_here", "_law_kept", "_law_due_here", "_law_found", "_law_cell"] "law" (defScope s_law) f cdv A outer s H E).nox ((defBody s_law).drop 17) t ∧ ∀ (H0 : Hp) (fA dx pP pW pB lP lB dT dU : Addr) (us vs : List V) (pins : List PinD) (bars : List BarD) (kT kU : List (Key × V)) (xT xU : List Str) (T : Str → Option Rat) (U : Str → Option (List Rat)) (sc oth : Int) (o2 o7 o10 o11 o12 : Option V),
   Same H H0 → W16 K H0 C fA dx pP pW pB lP lB us vs pins bars → lB ≠ lP → GoodP pins → GoodB pins bars → Near sc pins → 0 ≤ sc → 0 ≤ oth → oth ≤ 997 → HndT K H0 dT kT xT T → HndU K H0 dU kU xU U → FitU pins U → dT ≠ dU → (dT ≠ pP ∧ dT ≠ pW ∧ dT ≠ pB) → (dU ≠ pP ∧ dU ≠ pW ∧ dU ≠ pB) → (∀ x l, valV kU (.inr x) = some (.ref l) → l ≠ lP) →
   t { nx := fun _ H' => Q .non H', rt := Q } [some (.ref sA), some (.int sc), o2, some (.ref lP), some (.ref lB), some (.ref fA), some (.int oth), o7, some (.ref dT), some (.ref dU), o10, o11, o12, none] H0 := by
  refine ⟨_, (pss_cons (ps_if (pt_cmpR op_eq (pe_callB call_len_seq rfl m_len b_len (pac (pv 3) pa_nil)) pe_int (nomark _)) (pss_one (ps_ret pe_bl)) pss_nil) (pss_cons (ps_set (i := 13) sc_law.nd rfl (Or.inl rfl) (pe_fn G_ad hr.mo pX (pac (pv 0) (pac pe_int pa_nil)))) (pss_cons (ps_set (i := 4) sc_law.nd rfl (Or.inl rfl) (pe_fn G_ab hr.mo pX (pac (pv 5) (pac (pv 3) (pac (pv 4) (pac (pv 13) (pac (pe_ix ix_list (pe_lst (pac pe_int (pac (pe_op op_mulB pe_int (pe_op op_pow pe_int pe_int)) pa_nil))) (pe_callTy call_int1 rfl m_int b_int (pac (pe_cmpR op_gt (pv 1) pe_int (nomark _)) pa_nil)) (fun _ _ => rfl)) pa_nil))))))) (pss_cons (ps_if (pt_cmp (pc_din (hu_of hr) (pe_tx (pe_ix ix_list (pv 3) (pe_un un_neg pe_int) (fun _ _ => rfl))) (pv 9))) (pss_one (ps_dput (hu_of hr) (pv 9) (pe_tx (pe_ix ix_list (pv 3) (pe_un un_neg pe_int) (fun _ _ => rfl))) (pe_fn G_al hr.mo pX (pac (pe_op op_mulB (pe_op op_fdivB (pv 13) pe_int) pe_int) (pac (pv 6) (pac (pe_tx (pe_ix ix_list (pv 3) (pe_un un_neg pe_int) (fun _ _ => rfl))) pa_nil)))) rfl)) pss_nil) (pss_one (ps_ret (pe_fn G_bc hr.mo pX (pac (pe_fn G_az hr.mo pX (pac (pv 5) (pac (pv 8) (pac (pv 9) pa_nil)))) (pac (pv 3) (pac (pe_fn G_be hr.mo pX (pac (pv 3) (pac (pv 4) (pac (pv 8) (pac (pv 9) pa_nil))))) pa_nil)))))))))), ?_⟩
  intro H0 fA dx pP pW pB lP lB dT dU us vs pins bars kT kU xT xU T U sc oth o2 o7 o10 o11 o12 s00 W0 nBP gp gb nr c0 t0 t9 hT hU fu dTU nT nU nL
  refine ⟨_, rfl, lP, _, rfl, .inl (SqL.of W0.hp), rfl, _, rfl, ?_⟩
  have lu : us.length = pins.length := Paired.length W0.pp
  refine ite2 (fun _ => q _) (fun cc => ?_)
  have l0 : 0 < pins.length := by
   have : ¬ us.length = 0 := by simpa using cc
   omega
  have e12 : (10 : Int) ^ (12 : Int).toNat = 1000000000000 := by decide +kernel
  refine ⟨_, rfl, sA, ns, 33, rfl, s00.seq hS, hb, by decide, by decide, fun c33 b33 => ?_⟩
  refine ⟨_, rfl, _, rfl, _, rfl, _, rfl, _, _, rfl, rfl, ⟨by decide, by decide, by decide⟩, _, _, rfl, rfl, ⟨by decide +kernel, by rw [e12]; decide +kernel⟩, L2, ?_⟩
  intro lf nf; generalize eX : upd _ lf _ = Hf; have ⟨sf, ef⟩ := nw nf eX; clear eX
  have Vf := W0.same sf
  have atf : atI [V.int 100, V.int (3 * 10 ^ (12 : Int).toNat)] (if decide (sc > 0) = true then 1 else 0) = some (.int (farI sc)) := by
   unfold farI
   by_cases z : sc = 0
   ·rw [if_pos z, if_neg (by simp; omega)]
    rfl
   ·rw [if_neg z, if_pos (by simp; omega), e12]
    rfl
  refine ⟨_, rfl, _, _, rfl, rfl, .inr ⟨_, rfl, lf, _, _, _, rfl, rfl, SqL.of ef, atf, ?_⟩⟩
  refine ⟨fA, dx, pP, pW, pB, lP, lB, us, vs, pins, bars, sc, c33, rfl, Vf.fr, Vf.hp, Vf.pp, nBP, Vf.hb, Vf.pb, gp, gb, nr, l0, Vf.g.lp, Vf.g.lb, b33, fun bA' us2 vs2 rest p2 bars2 H1 k' R' h1 h2 h3 h4 g' mr wk' => ?_⟩
  have k1 : K4 pP pW pB lP H0 H1 := fun b o n1 n2 n3 n4 z => k' b o n1 n2 n3 n4 (sf _ _ z)
  have V1 : W16 K H1 C fA dx pP pW pB lP bA' us2 vs2 (rest ++ [p2]) bars2 := ⟨R', h1, h2, h3, h4, g'⟩
  have d0 := W0.d3
  have t1 := k1.t d0 W0.hp
  have hT1 := hT.t (k1 _ _ nT.1 nT.2.1 nT.2.2 (fun z => by have := hT.at_; rw [z, W0.hp] at this; cases this) hT.at_) t1
  have hU1 := hU.t (k1 _ _ nU.1 nU.2.1 nU.2.2 (fun z => by have := hU.at_; rw [z, W0.hp] at this; cases this) hU.at_) t1 fun b ub ⟨x, ex⟩ hb' => k1.get d0 W0.hp hb' (fun _ y => nomatch y) (nL x b ex)
  have np2 : p2.nm ∉ rest.map (·.nm) := fun z => by
   have := g'.np
   rw [List.map_append, List.nodup_append] at this
   exact this.2.2 _ z _ (by simp) rfl
  have fur : ∀ U' : Str → Option (List Rat), (∀ x, x ≠ p2.nm → U' x = U x) → (∀ rs, U' p2.nm = some rs → rs.length = p2.ws.length) → FitU (rest ++ [p2]) U' := fun U' h1 h2 q' hq' rs e => by
   rcases List.mem_append.mp hq' with h | h
   ·rw [h1 _ (fun z => np2 (by rw [← z]; exact List.mem_map.mpr ⟨q', h, rfl⟩))] at e
    exact fu q' (mr q' h) rs e
   ·rw [List.mem_singleton.mp h] at e ⊢
    exact h2 rs e
  obtain ⟨ui, ul, rfl⟩ : ∃ ui ul, us2 = ui ++ [ul] := by
   have ne : us2 ≠ [] := fun z => by
    have := Paired.length h2
    rw [z, List.length_append, List.length_singleton] at this
    simp at this
   exact ⟨us2.dropLast, us2.getLast ne, (List.dropLast_concat_getLast ne).symm⟩
  have li : ui.length = rest.length := by
   have := Paired.length h2
   rw [List.length_append, List.length_append, List.length_singleton, List.length_singleton] at this
   omega
  obtain ⟨p2', ep2, hp2⟩ := paired_get h2 (i := ui.length) (a := ul) (by simp)
  have : p2' = p2 := by
   rw [li] at ep2
   simpa using ep2.symm
  subst this
  obtain ⟨ta, lw, sv, uw, rfl, y1, y2, y3, y4, y5⟩ := hp2
  have luw : uw.length = p2'.ws.length := Paired.length y4
  have lw2 : p2'.ws.length ≤ 2 := g'.lw p2' (by simp)
  dsimp only
  refine seq_rest (fun σ' H' => ∃ (kU' : List (Key × V)) (xU' : List Str) (U' : Str → Option (List Rat)), σ' = [some (.ref sA), some (.int sc), o2, some (.ref lP), some (.ref bA'), some (.ref fA), some (.int oth), o7, some (.ref dT), some (.ref dU), o10, o11, o12, some (.int c33)] ∧ W16 K H' C fA dx pP pW pB lP bA' (ui ++ [.ref ta]) vs2 (rest ++ [p2']) bars2 ∧ HndT K H' dT kT xT T ∧ HndU K H' dU kU' xU' U' ∧ FitU (rest ++ [p2']) U') (fun Nx hNx => ?_) ?_
  ·refine ⟨_, rfl, _, rfl, lP, _, _, _, rfl, rfl, SqL.of h1, at_last, ta, _, _, _, rfl, rfl, y1, rfl, _, rfl, dU, _, rfl, DGet.k (k := .inr p2'.nm) hU1.at_, _, rfl, ?_⟩
   rcases hU1.pd p2'.nm with ⟨v0, u0⟩ | ⟨l0', us0, rs0, v0, u0, _⟩
   ·rw [v0]
    refine ite2 (fun c => nomatch c) (fun _ => ?_)
    exact hNx _ _ ⟨kU, xU, U, rfl, V1, hT1, hU1, fur U (fun _ _ => rfl) fun rs e => by rw [u0] at e; cases e⟩
   ·rw [v0]
    refine ite2 (fun _ => ?_) (fun c => absurd rfl c)
    have d5 : CDivB c33 5 := ⟨by decide, by decide +kernel⟩
    have b5 := bits_fdiv (a := c33) (m := 5) (by decide) b33
    have m5 := fmod_in (x := c33) (m := 5) (by decide)
    have e5 : c33.fdiv 5 * 5 = c33 + -(c33.fmod 5) := by
     have := Int.mul_fdiv_add_fmod c33 5
     omega
    have bm : intBits (c33.fdiv 5 * 5) ≤ 2000000 := by
     rw [e5]
     exact Nat.le_trans (bits_addF b33 (Nat.le_trans (intBits_le_64 (by omega) (by omega)) (show 64 ≤ 1048576 by decide))) (by decide)
    have z5 : (c33.fdiv 5 * 5).fmod 5 = 0 := Int.mul_fmod_left _ _
    refine ⟨_, rfl, _, _, rfl, rfl, d5, _, _, rfl, rfl, ⟨Nat.le_trans b5 (by decide), by decide +kernel⟩, _, rfl, _, rfl, _, rfl, lP, _, _, _, rfl, rfl, SqL.of h1, at_last, ta, _, _, _, rfl, rfl, y1, rfl, ?_⟩
    refine ⟨_, oth, lw, uw, rfl, bm, t0, t9, y3, by omega, fun v H2 s2 hv nv hz => ?_⟩
    have vn : v ≠ .non := fun z => by
     have := hz z
     rw [z5] at this
     cases this
    obtain ⟨lq, uq, rq, rfl, hq1, hq2, hq3, hq4⟩ := hv vn
    have V2 := V1.same s2
    have hT2 := hT1.same s2
    have hU2 := hU1.same s2
    have lkU : kU.length ≤ 8 := by
     have z := congrArg List.length hU.ks
     rw [List.length_map, List.length_map] at z
     have := hU.len
     omega
    refine ⟨_, rfl, _, rfl, _, rfl, lP, _, _, _, rfl, rfl, SqL.of V2.hp, at_last, ta, _, _, _, rfl, rfl, Ty.Same.seqT s2 y1, rfl, dU, _, rfl, DPut.k (k := .inr p2'.nm) hU2.at_ (Nat.lt_of_le_of_lt (show kU.length ≤ 1000 by omega) (by decide)), ?_⟩
    have t3 : SameT H2 (upd H2 dU (.dK (putK kU (.inr p2'.nm) (.ref lq)))) := .dict hU2.at_
    have nlq : lq ≠ dU := fun z => by rw [z, hU2.at_] at hq1; cases hq1
    refine hNx _ _ ⟨putK kU (.inr p2'.nm) (.ref lq), xU, fun x => if x = p2'.nm then some rq else U x, rfl, V2.dict hU2.at_ nU, hT2.t (by rw [upd_ne dTU]; exact hT2.at_) t3, ⟨upd_same, ?_, hU.nd, hU.len, fun nm => ?_, fun x r hr => ?_⟩, fur _ (fun x n => if_neg n) fun rs e => ?_⟩
    ·rw [(putK_there (kvs := kU) (k := (Sum.inr p2'.nm : Key)) (v := .ref lq) (by rw [v0]; rfl)).1]
     exact hU.ks
    ·by_cases c : nm = p2'.nm
     ·refine .inr ⟨lq, uq, rq, by rw [valV_put, if_pos (by rw [c])], if_pos c, by rw [upd_ne nlq]; exact hq1, Paired.mapP hq2 fun _ _ z => z.sameT t3⟩
     ·rcases hU2.pd nm with ⟨g1, g2⟩ | ⟨l', us', rs', g1, g2, g3, g4⟩
      ·exact .inl ⟨by rw [valV_put, if_neg (fun z => c (Sum.inr.inj z))]; exact g1, by rw [if_neg c]; exact g2⟩
      ·exact .inr ⟨l', us', rs', by rw [valV_put, if_neg (fun z => c (Sum.inr.inj z))]; exact g1, by rw [if_neg c]; exact g2, by rw [upd_ne (fun z => by rw [z, hU2.at_] at g3; cases g3)]; exact g3, Paired.mapP g4 fun _ _ z => z.sameT t3⟩
    ·by_cases c : x = p2'.nm
     ·rw [if_pos c] at hr
      exact hq3 r hr
     ·rw [if_neg c] at hr
      exact hU.sz x r hr
    ·rw [if_pos rfl] at e
     cases e
     omega
  rintro σ' H2 ⟨kU', xU', U', rfl, V2, hT2, hU2, fu2⟩
  have fz := fz_of hT2 hU2
  refine ⟨_, rfl, _, rfl, _, rfl, fA, dT, dU, rest ++ [p2'], bars2, kT, kU', T, U', rfl, V2.fr.fr, V2.g, hT2.at_, hT2.pd, hU2.at_, hU2.pd, fz, fun e kv H3 s3 ne he ks tl => ?_⟩
  have V3 := V2.same s3
  have hT3 := hT2.same s3
  have hU3 := hU2.same s3
  refine ⟨_, rfl, _, rfl, _, rfl, _, rfl, _, rfl, lP, bA', dT, dU, lP, _, vs2, rest ++ [p2'], bars2, kT, kU', T, U', rfl, V3.hp, V3.pp, V3.hb, V3.pb, V3.g, hT3.at_, hT3.pd, hU3.at_, hU3.pd, fz, fu2, fun m kd H4 D4 => ?_⟩
  have V4 := V3.same D4.s
  refine ⟨e, lP, m, lP, kv, kd, _, rest ++ [p2'], _, rfl, (fun z => by have := D4.ne; rw [z, he] at this; cases this), D4.s _ _ he, ks, fun p hp => ?_, V4.hp, V4.pp, V4.g.np, V4.g.lp, D4.st, fun H5 s5 => q _⟩
  obtain ⟨v, z1, z2⟩ := tl p hp
  exact ⟨v, z1, z2.same D4.s⟩
 obtain ⟨t17, p17, q17⟩ := tail17
 have tail9 : ∃ t, PSs (cxOf (CXr P w) P w K mg base ["_law_script", "_law_scale", "_law_names_here", "_law_pins_here", "_law_bars_here", "_law_frame_here", "_law_other", "_law_about", "_law_pulls", "_law_pushes_here", "_law_kept", "_law_due_here", "_law_found", "_law_cell"] "law" (defScope s_law) f cdv A outer s H E).nox ((defBody s_law).drop 9) t ∧ ∀ (H0 : Hp) (fA dx pP pW pB lP lB dT dU : Addr) (us vs : List V) (pins : List PinD) (bars : List BarD) (kT kU : List (Key × V)) (xT xU : List Str) (T : Str → Option Rat) (U : Str → Option (List Rat)) (sc oth : Int) (o2 o7 : Option V),
   Same H H0 → W16 K H0 C fA dx pP pW pB lP lB us vs pins bars → lB ≠ lP → GoodP pins → GoodB pins bars → Near sc pins → 0 ≤ sc → 0 ≤ oth → oth ≤ 997 → HndT K H0 dT kT xT T → HndU K H0 dU kU xU U → FitU pins U → dT ≠ dU → (dT ≠ pP ∧ dT ≠ pW ∧ dT ≠ pB) → (dU ≠ pP ∧ dU ≠ pW ∧ dU ≠ pB) → (∀ x l, valV kU (.inr x) = some (.ref l) → l ≠ lP) → H dT = none → H dU = none →
   t { nx := fun _ H' => Q .non H', rt := Q } [some (.ref sA), some (.int sc), o2, some (.ref lP), some (.ref lB), some (.ref fA), some (.int oth), o7, some (.ref dT), some (.ref dU), none, none, none, none] H0 := by
  refine ⟨_, (pss_cons (ps_thaw (ps_thaw (ps_set (i := 10) sc_law.nd rfl (Or.inl rfl) (pe_tup (pac (pe_comp (tn := ["_law_one"]) (fr := []) (caps := []) rfl ⟨rfl, by decide +kernel, rfl, by decide +kernel, by decide +kernel, rfl, trivial, trivial⟩ (pi_itemsN (pv 8)) (fun _ _ _ _ => (pg_name (i := 0) (show (["_law_one"] : List Str).Nodup from by decide +kernel) rfl (Or.inl rfl))) (fun _ _ _ _ => pf_nil) (fun _ _ _ _ => (pv 0))) (pac (pe_comp (tn := ["_law_name", "_law_some"]) (fr := []) (caps := []) rfl ⟨rfl, by decide +kernel, rfl, by decide +kernel, by decide +kernel, rfl, trivial, trivial⟩ (pi_items (pv 9)) (fun _ _ _ _ => (pg_tupK (K := K) (n := 2) rfl rfl (pgs_cons (pg_name (i := 0) (show (["_law_name", "_law_some"] : List Str).Nodup from by decide +kernel) rfl (Or.inl rfl)) (pgs_cons (pg_name (i := 1) (show (["_law_name", "_law_some"] : List Str).Nodup from by decide +kernel) rfl (Or.inl rfl)) pgs_nil)))) (fun _ _ _ _ => pf_nil) (fun _ _ _ _ => (pe_tup (pac (pv 0) (pac (pe_callTy (call_listLK (K := K) rfl) rfl m_list b_list (pac (pv 1) pa_nil)) pa_nil))))) pa_nil)))))) (pss_cons (ps_set (i := 11) sc_law.nd rfl (Or.inl rfl) (pe_fn G_be hr.mo pX (pac (pv 3) (pac (pv 4) (pac (pv 8) (pac (pv 9) pa_nil)))))) (pss_cons (ps_set (i := 12) sc_law.nd rfl (Or.inl rfl) (pe_fn G_az hr.mo pX (pac (pv 5) (pac (pv 8) (pac (pv 9) pa_nil))))) (pss_cons (ps_if (pt_not (pt_val (pe_fn G_bc hr.mo pX (pac (pv 12) (pac (pv 3) (pac (pv 11) pa_nil)))))) (pss_one (ps_ret pe_bl)) pss_nil) (pss_cons (ps_dput (hu_of hr) (pv 12) pe_str pe_int rfl) (pss_cons (ps_if (pt_not (pt_val (pe_fn G_bc hr.mo pX (pac (pe_fn G_az hr.mo pX (pac (pv 5) (pac pe_dnewK (pac pe_dnewK pa_nil)))) (pac (pv 3) (pac (pe_fn G_be hr.mo pX (pac (pv 3) (pac (pv 4) (pac pe_dnewK (pac pe_dnewK pa_nil))))) pa_nil)))))) (pss_one (ps_ret pe_bl)) pss_nil) (pss_cons (ps_thaw (ps_thaw (ps_if (pt_cmpR (op_neDa hr.units) (pv 10) (pe_tup (pac (pe_comp (tn := ["_law_one"]) (fr := []) (caps := []) rfl ⟨rfl, by decide +kernel, rfl, by decide +kernel, by decide +kernel, rfl, trivial, trivial⟩ (pi_itemsN (pv 8)) (fun _ _ _ _ => (pg_name (i := 0) (show (["_law_one"] : List Str).Nodup from by decide +kernel) rfl (Or.inl rfl))) (fun _ _ _ _ => pf_nil) (fun _ _ _ _ => (pv 0))) (pac (pe_comp (tn := ["_law_name", "_law_some"]) (fr := []) (caps := []) rfl ⟨rfl, by decide +kernel, rfl, by decide +kernel, by decide +kernel, rfl, trivial, trivial⟩ (pi_items (pv 9)) (fun _ _ _ _ => (pg_tupK (K := K) (n := 2) rfl rfl (pgs_cons (pg_name (i := 0) (show (["_law_name", "_law_some"] : List Str).Nodup from by decide +kernel) rfl (Or.inl rfl)) (pgs_cons (pg_name (i := 1) (show (["_law_name", "_law_some"] : List Str).Nodup from by decide +kernel) rfl (Or.inl rfl)) pgs_nil)))) (fun _ _ _ _ => pf_nil) (fun _ _ _ _ => (pe_tup (pac (pv 0) (pac (pv 1) pa_nil))))) pa_nil))) (nomark _)) (pss_one (ps_ret pe_bl)) pss_nil))) (pss_cons (ps_if (pt_not (pt_val (pe_fn G_bc hr.mo pX (pac (pe_fn G_az hr.mo pX (pac (pv 5) (pac (pv 8) (pac (pv 9) pa_nil)))) (pac (pv 3) (pac (pv 11) pa_nil)))))) (pss_one (ps_ret pe_bl)) pss_nil) p17)))))))), ?_⟩
  intro H0 fA dx pP pW pB lP lB dT dU us vs pins bars kT kU xT xU T U sc oth o2 o7 s00 W0 nBP gp gb nr c0 t0 t9 hT hU fu dTU nT nU nL nHT0 nHU0
  have nHT : ∀ o' u', H dT ≠ some (.frz o' u') := fun _ _ z => by rw [nHT0] at z; cases z
  have nHU : ∀ o' u', H dU ≠ some (.frz o' u') := fun _ _ z => by rw [nHU0] at z; cases z
  have l8 : kT.length < sizeLine := by
   have z := congrArg List.length hT.ks
   rw [List.length_map, List.length_map] at z
   have := hT.len
   exact Nat.lt_of_le_of_lt (show kT.length ≤ 1000 by omega) (by decide)
  have l9 : kU.length < sizeLine := by
   have z := congrArg List.length hU.ks
   rw [List.length_map, List.length_map] at z
   have := hU.len
   exact Nat.lt_of_le_of_lt (show kU.length ≤ 1000 by omega) (by decide)
  refine ⟨_, rfl, dT, kT, rfl, hT.at_, fun oT D1 nD1 => ?_⟩
  refine comp_itemsN nD1 l8 upd_same fun u1 H1 s1 e1 p1 => ?_
  have dU1 : H1 dU = some (.dK kU) := s1 _ _ (by rw [upd_ne (Ne.symm dTU)]; exact hU.at_)
  have dT1 : H1 dT = some (.frz oT (.dK kT)) := s1 _ _ upd_same
  have kA : ∀ b o, b ≠ dT → H0 b = some o → H1 b = some o := fun b o n z => s1 _ _ (by rw [upd_ne n]; exact z)
  refine ⟨_, rfl, dU, kU, rfl, dU1, fun oU D2 nD2 => ?_⟩
  have kB0 : ∀ b o, b ≠ dU → H1 b = some o → (upd H1 dU (.frz oU (.dK kU))) b = some o := fun b o n z => by rw [upd_ne n]; exact z
  have dUf : (upd H1 dU (.frz oU (.dK kU))) dU = some (.frz oU (.dK kU)) := upd_same
  generalize upd H1 dU (.frz oU (.dK kU)) = HF at kB0 dUf nD2 ⊢
  have kF : K2 dT dU H0 HF := ⟨fun b o n1 n2 z => kB0 b o n2 (kA b o n1 z), Nlt.dK hT.at_, Nlt.dK hU.at_⟩
  refine comp_itemsD (K := K) (d := dU) (o := oU) (kvs := kU) (cap := []) (fun i v H' => ∃ x, xU[i]? = some x ∧ ∃ p l us', v = .ref p ∧ H' p = some (.tup [.str x, .ref l]) ∧ H' l = some (.lst us') ∧ Paired (NmR K H') us' ((U x).getD []) ∧ l ≠ D2) nD2 l9 dUf (fun i v Ha Hb ys e0 ks' ⟨x, ex, p, l, us', z1, z2, z3, z4, z5⟩ => ⟨x, ex, p, l, us', z1, ks' _ _ (fun y => by rw [y, e0] at z2; cases z2) z2, ks' _ _ z5 z3, Paired.mapP z4 fun _ _ z => z.sameT fun b xs y => by
    rcases y with y | ⟨o', y⟩
    ·exact .inl (ks' _ _ (fun e => by rw [e, e0] at y; cases y) y)
    ·exact .inr ⟨o', ks' _ _ (fun e => by rw [e, e0] at y; cases y) y⟩, z5⟩) ?_ ?_
  ·intro i k y Ha R ek sa ⟨zD, hzD⟩ kk
   obtain ⟨x, ex, rfl⟩ := key_name hU.ks ek
   obtain ⟨l, us', rfl, y2, y3⟩ := lt_at hU.pd hU.ks hU.nd ek
   have y2F := kF.lst y2
   refine ⟨_, rfl, _, rfl, l, us', rfl, SqL.of (sa _ _ y2F), ?_⟩
   intro ln nn; generalize eX : upd _ ln _ = Hn; have ⟨sn, en⟩ := nw nn eX; clear eX
   refine ⟨L2, ?_⟩
   intro pn np; generalize eX : upd _ pn _ = Hp2; have ⟨sp, ep⟩ := nw np eX; clear eX
   have sap := sm_tr sa (sm_tr sn sp)
   refine kk _ _ (sm_tr sn sp) ⟨x, ex, pn, ln, us', rfl, ep, sp _ _ en, Paired.mapP y3 fun _ _ z => (z.sameT kF.t).same sap, fun z => by rw [z, hzD] at nn; cases nn⟩
  intro u2 H2 l2' r2 s2 e2
  have dT2 : H2 dT = some (.frz oT (.dK kT)) := s2 _ _ (kB0 _ _ dTU dT1)
  have dU2 : H2 dU = some (.frz oU (.dK kU)) := s2 _ _ dUf
  refine ⟨L2, ?_⟩
  intro pk nk; generalize eX : upd _ pk _ = HK; have ⟨sk, ek⟩ := nw nk eX; clear eX
  have kK : K2 dT dU H0 HK := ⟨fun b o n1 n2 z => sk _ _ (s2 _ _ (kF.k b o n1 n2 z)), Nlt.dK hT.at_, Nlt.dK hU.at_⟩
  have up1 : ∀ {b : Addr} {o : HO}, b ≠ dU → H1 b = some o → HK b = some o := fun n z => sk _ _ (s2 _ _ (kB0 _ _ n z))
  have lxU : u2.length = xU.length := by
   have z := congrArg List.length hU.ks
   rw [List.length_map, List.length_map] at z
   omega
  have kp : KeptW K HK pk xT T xU U := by
   refine ⟨D1, D2, u1, u2, ek, up1 (fun z => by rw [z, dU1] at e1; cases e1) e1, itT_of (rt_t hT.pd kK.t) hT.ks hT.nd (Paired.mapP p1 fun _ _ ⟨p, z1, z2⟩ => ⟨p, z1, up1 (fun z => by rw [z, dU1] at z2; cases z2) z2⟩), sk _ _ e2, paired_of lxU fun i u x g1 g2 => ?_⟩
   obtain ⟨x', ex, p, l, us', z1, z2, z3, z4, _⟩ := r2 i u g1
   rw [g2] at ex
   cases ex
   exact ⟨p, l, us', z1, sk _ _ z2, sk _ _ z3, Paired.mapP z4 fun _ _ z => z.same sk⟩
  have dTK := sk _ _ dT2
  have dUK := sk _ _ dU2
  have HYk : ∀ b o, b ≠ dT → b ≠ dU → HK b = some o → (upd (upd HK dT (.dK kT)) dU (.dK kU)) b = some o := fun b o n1 n2 z => by rw [upd_ne n2, upd_ne n1]; exact z
  have sY : Same H0 (upd (upd HK dT (.dK kT)) dU (.dK kU)) := fun b o z => by
   by_cases c1 : b = dU
   ·subst c1
    rw [hU.at_] at z
    rw [upd_same]
    exact z
   ·by_cases c2 : b = dT
    ·subst c2
     rw [hT.at_] at z
     rw [upd_ne c1, upd_same]
     exact z
    ·exact HYk b o c2 c1 (kK.k b o c2 c1 z)
  have kY : K2 dT dU HK (upd (upd HK dT (.dK kT)) dU (.dK kU)) := ⟨HYk, Nlt.fz dTK, Nlt.fz dUK⟩
  refine ⟨dT, oT, kT, dTK, fun o' u' z => nHT o' u' z, dU, oU, kU, (by rw [upd_ne (Ne.symm dTU)]; exact dUK), fun o' u' z => nHU o' u' z, ?_⟩
  have kpY := kp.k2 kY
  generalize upd (upd HK dT (.dK kT)) dU (.dK kU) = HY at sY kpY ⊢
  clear kY HYk dTK dUK kp up1 kK e2 s2 r2 dT2 dU2 kF dUf kB0 kA dU1 dT1 p1 e1 s1
  have sY0 := sY
  have VY := W0.same sY
  have hTY := hT.same sY
  have hUY := hU.same sY
  have fz := fz_of hT hU
  refine ⟨_, rfl, _, rfl, _, rfl, _, rfl, lP, lB, dT, dU, lP, us, vs, pins, bars, kT, kU, T, U, rfl, VY.hp, VY.pp, VY.hb, VY.pb, VY.g, hTY.at_, hTY.pd, hUY.at_, hUY.pd, fz, fu, fun m kd H4 D4 => ?_⟩
  have V4 := VY.same D4.s
  have hT4 := hTY.same D4.s
  have hU4 := hUY.same D4.s
  refine ⟨_, rfl, _, rfl, _, rfl, fA, dT, dU, pins, bars, kT, kU, T, U, rfl, V4.fr.fr, V4.g, hT4.at_, hT4.pd, hU4.at_, hU4.pd, fz, fun e kv H5 s5 ne he ks tl => ?_⟩
  have V5 := V4.same s5
  have du4 := D4.st
  refine ⟨_, rfl, _, rfl, _, rfl, e, lP, m, lP, kv, kd, us, pins, _, rfl, (fun z => by rw [← z, du4.at_] at ne; cases ne), he, ks, tl, V5.hp, V5.pp, V5.g.np, V5.g.lp, du4.same s5, fun H6 s6 => ?_⟩
  refine ⟨_, rfl, ?_⟩
  refine ite2 (fun c => nomatch c) (fun _ => ?_)
  have lk : kv.length ≤ 6 := by
   have z := congrArg List.length ks
   rw [List.length_map, List.length_map] at z
   have := W0.g.lp
   omega
  refine ⟨_, rfl, e, _, rfl, DPut.k (k := .inr "other") (s6 _ _ he) (Nat.lt_of_le_of_lt (show kv.length ≤ 1000 by omega) (by decide)), ?_⟩
  have s47 : Same H4 (upd H6 e (.dK (putK kv (.inr "other") (.int 7)))) := fun b o z => by
   rw [upd_ne (ne_of_none z ne)]
   exact s6 _ _ (s5 _ _ z)
  generalize upd H6 e (.dK (putK kv (.inr "other") (.int 7))) = H7 at s47 ⊢
  have RN : ∀ Hx : Hp, RtD K Hx [] (fun _ => none) := fun _ nm => .inl ⟨rfl, rfl⟩
  have LN : ∀ Hx : Hp, LtD K Hx [] (fun _ => none) := fun _ nm => .inl ⟨rfl, rfl⟩
  have fzN : FzOk (fun _ => none) (fun _ => none) := ⟨fun _ => sz_zero (by decide), fun _ r h => nomatch h⟩
  refine ⟨_, rfl, ?_⟩
  intro d8 n8; generalize eX : upd _ d8 _ = H8; have ⟨s8, e8⟩ := nw n8 eX; clear eX
  intro d9 n9; generalize eX : upd _ d9 _ = H9; have ⟨s9, e9⟩ := nw n9 eX; clear eX
  have s49 := sm_tr s47 (sm_tr s8 s9)
  have V9 := V4.same s49
  refine ⟨fA, d8, d9, pins, bars, [], [], _, _, rfl, V9.fr.fr, V9.g, s9 _ _ e8, RN _, e9, LN _, fzN, fun ee kv2 HA sA' neA heA ksA tlA => ?_⟩
  refine ⟨_, rfl, _, rfl, _, rfl, ?_⟩
  intro d10 n10; generalize eX : upd _ d10 _ = H10; have ⟨s10, e10⟩ := nw n10 eX; clear eX
  intro d11 n11; generalize eX : upd _ d11 _ = H11; have ⟨s11, e11⟩ := nw n11 eX; clear eX
  have s4B := sm_tr s49 (sm_tr sA' (sm_tr s10 s11))
  have sAB := sm_tr s10 s11
  have VB := V4.same s4B
  refine ⟨lP, lB, d10, d11, lP, us, vs, pins, bars, [], [], _, _, rfl, VB.hp, VB.pp, VB.hb, VB.pb, VB.g, s11 _ _ e10, RN _, e11, LN _, fzN, (fun p _ rs h => nomatch h), fun m2 kd2 HB DB => ?_⟩
  have VB2 := VB.same DB.s
  refine ⟨ee, lP, m2, lP, kv2, kd2, us, pins, _, rfl, (fun z => by have := DB.ne; rw [z, sAB _ _ heA] at this; cases this), DB.s _ _ (sAB _ _ heA), ksA, fun p hp => ?_, VB2.hp, VB2.pp, VB2.g.np, VB2.g.lp, DB.st, fun HC sC => ?_⟩
  ·obtain ⟨v, z1, z2⟩ := tlA p hp
   exact ⟨v, z1, (z2.same sAB).same DB.s⟩
  refine ⟨_, rfl, ?_⟩
  refine ite2 (fun c => nomatch c) (fun _ => ?_)
  have s4C := sm_tr s4B (sm_tr DB.s sC)
  have hTC := hT4.same s4C
  have hUC := hU4.same s4C
  have kpC := (kpY.same D4.s).same s4C
  clear D1 nD1 D2 nD2 nk sk ek u1 u2 H1 H2 HF HK oT oU lxU l2'
  refine ⟨_, rfl, _, rfl, dT, kT, rfl, hTC.at_, fun oT D1 nD1 => ?_⟩
  refine comp_itemsN nD1 l8 upd_same fun u1 H1 s1 e1 p1 => ?_
  have dU1 : H1 dU = some (.dK kU) := s1 _ _ (by rw [upd_ne (Ne.symm dTU)]; exact hUC.at_)
  have dT1 : H1 dT = some (.frz oT (.dK kT)) := s1 _ _ upd_same
  have kA : ∀ b o, b ≠ dT → HC b = some o → H1 b = some o := fun b o n z => s1 _ _ (by rw [upd_ne n]; exact z)
  refine ⟨_, rfl, dU, kU, rfl, dU1, fun oU D2 nD2 => ?_⟩
  have kB0 : ∀ b o, b ≠ dU → H1 b = some o → (upd H1 dU (.frz oU (.dK kU))) b = some o := fun b o n z => by rw [upd_ne n]; exact z
  have dUf : (upd H1 dU (.frz oU (.dK kU))) dU = some (.frz oU (.dK kU)) := upd_same
  generalize upd H1 dU (.frz oU (.dK kU)) = HF at kB0 dUf nD2 ⊢
  have kF : K2 dT dU HC HF := ⟨fun b o n1 n2 z => kB0 b o n2 (kA b o n1 z), Nlt.dK hTC.at_, Nlt.dK hUC.at_⟩
  refine comp_itemsD (K := K) (d := dU) (o := oU) (kvs := kU) (cap := []) (fun i v H' => ∃ x, xU[i]? = some x ∧ ∃ p l us', v = .ref p ∧ H' p = some (.tup [.str x, .ref l]) ∧ H' l = some (.lst us') ∧ Paired (NmR K H') us' ((U x).getD []) ∧ l ≠ D2) nD2 l9 dUf (fun i v Ha Hb ys e0 ks' ⟨x, ex, p, l, us', z1, z2, z3, z4, z5⟩ => ⟨x, ex, p, l, us', z1, ks' _ _ (fun y => by rw [y, e0] at z2; cases z2) z2, ks' _ _ z5 z3, Paired.mapP z4 fun _ _ z => z.sameT fun b xs y => by
    rcases y with y | ⟨o', y⟩
    ·exact .inl (ks' _ _ (fun e => by rw [e, e0] at y; cases y) y)
    ·exact .inr ⟨o', ks' _ _ (fun e => by rw [e, e0] at y; cases y) y⟩, z5⟩) ?_ ?_
  ·intro i k y Ha R eky sa ⟨zD, hzD⟩ kk
   obtain ⟨x, ex, rfl⟩ := key_name hUC.ks eky
   obtain ⟨l, us', rfl, y2, y3⟩ := lt_at hUC.pd hUC.ks hUC.nd eky
   have y2F := kF.lst y2
   refine ⟨_, rfl, _, rfl, L2, ?_⟩
   intro pn np; generalize eX : upd _ pn _ = Hp2; have ⟨sp, ep⟩ := nw np eX; clear eX
   refine kk _ _ sp ⟨x, ex, pn, l, us', rfl, ep, sp _ _ (sa _ _ y2F), Paired.mapP y3 fun _ _ z => ((z.sameT kF.t).same sa).same sp, fun z => by rw [z, nD2] at y2F; cases y2F⟩
  intro u2 H2 l2' r2 s2 e2
  have dT2 : H2 dT = some (.frz oT (.dK kT)) := s2 _ _ (kB0 _ _ dTU dT1)
  have dU2 : H2 dU = some (.frz oU (.dK kU)) := s2 _ _ dUf
  refine ⟨L2, ?_⟩
  intro pj nj; generalize eX : upd _ pj _ = HK; have ⟨sj, ej⟩ := nw nj eX; clear eX
  have kK : K2 dT dU HC HK := ⟨fun b o n1 n2 z => sj _ _ (s2 _ _ (kF.k b o n1 n2 z)), Nlt.dK hTC.at_, Nlt.dK hUC.at_⟩
  have up1 : ∀ {b : Addr} {o : HO}, b ≠ dU → H1 b = some o → HK b = some o := fun n z => sj _ _ (s2 _ _ (kB0 _ _ n z))
  have lxU : u2.length = xU.length := by
   have z := congrArg List.length hUC.ks
   rw [List.length_map, List.length_map] at z
   omega
  have kp : KeptW K HK pj xT T xU U := by
   refine ⟨D1, D2, u1, u2, ej, up1 (fun z => by rw [z, dU1] at e1; cases e1) e1, itT_of (rt_t hTC.pd kK.t) hTC.ks hTC.nd (Paired.mapP p1 fun _ _ ⟨p, z1, z2⟩ => ⟨p, z1, up1 (fun z => by rw [z, dU1] at z2; cases z2) z2⟩), sj _ _ e2, paired_of lxU fun i u x g1 g2 => ?_⟩
   obtain ⟨x', ex, p, l, us', z1, z2, z3, z4, _⟩ := r2 i u g1
   rw [g2] at ex
   cases ex
   exact ⟨p, l, us', z1, sj _ _ z2, sj _ _ z3, Paired.mapP z4 fun _ _ z => z.same sj⟩
  have dTK := sj _ _ dT2
  have dUK := sj _ _ dU2
  have kpK := kpC.k2 kK
  refine ⟨_, _, .inl ⟨kpK.is, kp.is⟩, kept_al, kept_dep, _, rfl, ?_⟩
  rw [kept_eq]
  refine ite2 (fun c => nomatch c) (fun _ => ?_)
  have HYk : ∀ b o, b ≠ dT → b ≠ dU → HK b = some o → (upd (upd HK dT (.dK kT)) dU (.dK kU)) b = some o := fun b o n1 n2 z => by rw [upd_ne n2, upd_ne n1]; exact z
  have sY : Same HC (upd (upd HK dT (.dK kT)) dU (.dK kU)) := fun b o z => by
   by_cases c1 : b = dU
   ·subst c1
    rw [hUC.at_] at z
    rw [upd_same]
    exact z
   ·by_cases c2 : b = dT
    ·subst c2
     rw [hTC.at_] at z
     rw [upd_ne c1, upd_same]
     exact z
    ·exact HYk b o c2 c1 (kK.k b o c2 c1 z)
  have kY : K2 dT dU HK (upd (upd HK dT (.dK kT)) dU (.dK kU)) := ⟨HYk, Nlt.fz dTK, Nlt.fz dUK⟩
  refine ⟨dT, oT, kT, dTK, fun o' u' z => nHT o' u' z, dU, oU, kU, (by rw [upd_ne (Ne.symm dTU)]; exact dUK), fun o' u' z => nHU o' u' z, ?_⟩
  generalize upd (upd HK dT (.dK kT)) dU (.dK kU) = HY2 at sY ⊢
  have s4Y := sm_tr s4C sY
  have VY2 := V4.same s4Y
  have hTZ := hT4.same s4Y
  have hUZ := hU4.same s4Y
  refine ⟨_, rfl, _, rfl, _, rfl, fA, dT, dU, pins, bars, kT, kU, T, U, rfl, VY2.fr.fr, VY2.g, hTZ.at_, hTZ.pd, hUZ.at_, hUZ.pd, fz, fun e3 kv3 HD sD neD heD ksD tlD => ?_⟩
  have VD := VY2.same sD
  refine ⟨_, rfl, _, rfl, e3, lP, m, lP, kv3, kd, us, pins, _, rfl, (fun z => by rw [← z, s4Y _ _ du4.at_] at neD; cases neD), heD, ksD, tlD, VD.hp, VD.pp, VD.g.np, VD.g.lp, (du4.same s4Y).same sD, fun HE sE => ?_⟩
  refine ⟨_, rfl, ?_⟩
  refine ite2 (fun c => nomatch c) (fun _ => ?_)
  have s4E := sm_tr s4Y (sm_tr sD sE)
  have sYE := sm_tr D4.s s4E
  exact q17 HE fA dx pP pW pB lP lB dT dU us vs pins bars kT kU xT xU T U sc oth _ _ _ _ _ (sm_tr (sm_tr s00 sY0) sYE) (V4.same s4E) nBP gp gb nr c0 t0 t9 (hT4.same s4E) (hU4.same s4E) fu dTU nT nU nL
 obtain ⟨t9, p9, q9⟩ := tail9
 refine ⟨_, (pss_cons (ps_set (i := 1) sc_law.nd rfl (Or.inl rfl) (pe_op op_mulB (pe_op op_add pe_int (pe_op op_modB (pe_op op_fdivB (pe_fn G_ad hr.mo pX (pac (pv 0) (pac pe_int pa_nil))) pe_int) pe_int)) (pe_op op_modB (pe_fn G_ad hr.mo pX (pac (pv 0) (pac pe_int pa_nil))) pe_int))) (pss_cons (ps_set (i := 2) sc_law.nd rfl (Or.inl rfl) (pe_fn G_aw hr.mo pX (pac (pe_op op_fdivB (pe_fn G_ad hr.mo pX (pac (pv 0) (pac pe_int pa_nil))) pe_int) (pac pe_int pa_nil)))) (pss_cons (ps_set (i := 3) sc_law.nd rfl (Or.inl rfl) (pe_fn G_b9 hr.mo pX (pac (pv 0) (pac (pv 2) (pac (pv 1) pa_nil))))) (pss_cons (ps_set (i := 4) sc_law.nd rfl (Or.inl rfl) (pe_fn G_ba hr.mo pX (pac (pv 0) (pac (pv 2) (pac (pv 3) pa_nil))))) (pss_cons (ps_set (i := 5) sc_law.nd rfl (Or.inl rfl) (pe_fn G_ax hr.mo pX (pac (pv 3) (pac (pv 4) pa_nil)))) (pss_cons (ps_set (i := 6) sc_law.nd rfl (Or.inl rfl) (pe_op op_modB (pe_op op_mulB (pv 1) (pe_op op_add pe_int (pe_op op_modB (pe_fn G_ad hr.mo pX (pac (pv 0) (pac pe_int pa_nil))) pe_int))) pe_int)) (pss_cons (ps_set (i := 7) sc_law.nd rfl (Or.inl rfl) (pe_cmpR op_eq (pe_op op_modB (pe_fn G_ad hr.mo pX (pac (pv 0) (pac pe_int pa_nil))) pe_int) pe_int (nomark _))) (pss_cons (ps_set (i := 8) sc_law.nd rfl (Or.inl rfl) (pe_fn G_ak hr.mo pX (pac (pe_fn G_a7 hr.mo pX (pac (pv 0) (pac (pv 4) (pac (pv 6) pa_nil)))) (pac (pv 7) pa_nil)))) (pss_cons (ps_set (i := 9) sc_law.nd rfl (Or.inl rfl) (pe_fn G_ak hr.mo pX (pac (pe_fn G_a4 hr.mo pX (pac (pv 0) (pac (pv 3) (pac (pv 6) pa_nil)))) (pac (pv 7) pa_nil)))) p9))))))))), ?_⟩
 have sm : ∀ {z : Int}, -9000000000000000000 < z → z < 9000000000000000000 → intBits z ≤ 33554432 := fun h1 h2 => Nat.le_trans (intBits_le_64 (by omega) (by omega)) (by decide)
 refine ⟨_, rfl, sA, ns, 0, rfl, hS, hb, by decide, by decide, fun c1 b1 => ?_⟩
 have m1 := fmod_in (x := c1.fdiv 2) (m := 997) (by decide)
 refine ⟨_, _, rfl, rfl, ⟨by decide, by decide +kernel⟩, _, _, rfl, rfl, nz (by decide), _, _, rfl, rfl, ?_⟩
 refine ⟨_, rfl, sA, ns, 0, rfl, hS, hb, by decide, by decide, fun c2 b2 => ?_⟩
 have m2 := fmod_in (x := c2) (m := 2) (by decide)
 refine ⟨_, _, rfl, rfl, nz (by decide), _, _, rfl, rfl, ⟨sm (by omega) (by omega), sm (by omega) (by omega)⟩, ?_⟩
 obtain ⟨sc, esc, c0, c9⟩ : ∃ sc : Int, (1 + (c1.fdiv 2).fmod 997) * c2.fmod 2 = sc ∧ 0 ≤ sc ∧ sc ≤ 997 := by
  refine ⟨_, rfl, ?_⟩
  have h : c2.fmod 2 = 0 ∨ c2.fmod 2 = 1 := by omega
  rcases h with h | h <;> rw [h] <;> omega
 dsimp only
 rw [esc]
 refine ⟨_, rfl, sA, ns, 0, rfl, hS, hb, by decide, by decide, fun c3 b3 => ?_⟩
 refine ⟨_, _, rfl, rfl, ⟨by decide, by decide +kernel⟩, _, rfl, fun nA xs H1 lx nx s1 nn en => ?_⟩
 refine ⟨_, rfl, _, rfl, _, rfl, sA, nA, ns, xs, sc, rfl, s1.seq hS, hb, en, lx, nx, c0, c9, fun lP us pins H2 s2 nP eP pp gp nr lp => ?_⟩
 have s12 := sm_tr s1 s2
 refine ⟨_, rfl, _, rfl, _, rfl, sA, nA, lP, ns, xs, us, pins, rfl, s12.seq hS, hb, s2 _ _ en, lx, nx, eP, pp, gp.np, lp, fun lB vs bars H3 s3 nB eB pb gb lb => ?_⟩
 have s13 := sm_tr s12 s3
 have pp3 : Paired (PinX K H3 lP) us pins := Paired.mapP pp fun _ _ z => z.same s3
 refine ⟨_, rfl, _, rfl, lP, lB, us, vs, pins, bars, rfl, s3 _ _ eP, pp3, eB, pb, gp, gb, lp, lb, fun fA dx pP pW pB H4 s4 R => ?_⟩
 have s14 := sm_tr s13 s4
 have nBP : lB ≠ lP := fun z => by rw [z, eP] at nB; cases nB
 have g := goodF gp gb lp lb
 have W4 : W16 K H4 C fA dx pP pW pB lP lB us vs pins bars := ⟨R, s4 _ _ (s3 _ _ eP), Paired.mapP pp3 fun _ _ z => z.same s4, s4 _ _ eB, Paired.mapP pb fun _ _ z => z.same s4, g⟩
 refine ⟨_, rfl, _, rfl, sA, ns, 18, rfl, s14.seq hS, hb, by decide, by decide, fun c6 b6 => ?_⟩
 have m6 := fmod_in (x := c6) (m := 997) (by decide)
 refine ⟨_, _, rfl, rfl, nz (by decide), _, _, rfl, rfl, _, _, rfl, rfl, ⟨sm (by omega) (by omega), sm (by omega) (by omega)⟩, _, _, rfl, rfl, nz (by decide), ?_⟩
 have m7 := fmod_in (x := sc * (1 + c6.fmod 997)) (m := 997) (by decide)
 obtain ⟨oth, eo⟩ : ∃ oth : Int, (sc * (1 + c6.fmod 997)).fmod 997 = oth := ⟨_, rfl⟩
 rw [eo] at m7
 dsimp only
 rw [eo]
 refine ⟨_, rfl, sA, ns, 18, rfl, s14.seq hS, hb, by decide, by decide, fun c8 b8 => ?_⟩
 refine ⟨_, _, rfl, rfl, nz (by decide), rfl, ?_⟩
 generalize decide (V.int (c8.fmod 2) = V.int 1) = ab
 refine ⟨_, rfl, _, rfl, _, rfl, sA, lB, lP, ns, vs, bars, oth, rfl, s14.seq hS, hb, W4.hb, W4.pb, lb, m7.1, by omega, fun lT uT rT H5 s5 nT5 eT5 gT => ?_⟩
 refine ⟨_, rfl, lT, ab, uT, rT, rfl, eT5, gT.rw, by rw [gT.nm]; exact g.nb, by rw [gT.len.2, List.length_map]; exact lb, fun dT H6 s6 nT6 hT6 => ?_⟩
 have s46 := sm_tr s5 s6
 have W6 := W4.same s46
 refine ⟨_, rfl, _, rfl, _, rfl, sA, lP, ns, us, pins, oth, rfl, (sm_tr s14 s46).seq hS, hb, W6.hp, W6.pp, lp, gp.ws, m7.1, by omega, fun lU uU rU H7 s7 nU7 eU7 gU => ?_⟩
 refine ⟨_, rfl, lU, ab, uU, rU, rfl, eU7, gU.rw, by rw [gU.nm]; exact g.np, by rw [gU.len.2, List.length_map]; omega, fun dU H8 s8 nU8 hU8 => ?_⟩
 have s68 := sm_tr s7 s8
 have s48 := sm_tr s46 s68
 have s58 := sm_tr s6 s68
 obtain ⟨kT, xT, T, hT⟩ := hnd_T (s68 _ _ hT6) (gT.t (P' := fun _ v => NmS K H8 v) (.of s58) fun _ _ z => z.t (.of s58)) g.nb (by rw [List.length_map]; exact lb)
 obtain ⟨xU, U, hU, fu⟩ := hnd_U hU8 (gU.t (P' := PuS K H8 pins) (.of s8) fun _ _ z => z.1.same s8) g.np lp
 obtain ⟨kP, kW, kB, R5, _, _⟩ := (R.same s5).ex
 have dnT : ∀ {b : Addr} {o : HO}, H5 b = some o → dT ≠ b := fun z y => by rw [y, z] at nT6; cases nT6
 have dnU : ∀ {b : Addr} {o : HO}, H7 b = some o → dU ≠ b := fun z y => by rw [y, z] at nU8; cases nU8
 have s57 := sm_tr s6 s7
 exact q9 H8 fA dx pP pW pB lP lB dT dU us vs pins bars kT _ xT xU T U sc oth _ _ (sm_tr s14 s48) (W4.same s48) nBP gp gb nr c0 m7.1 (by omega) hT hU fu (fun z => dnU (s7 _ _ hT6) z.symm) ⟨dnT R5.pl, dnT R5.wy, dnT R5.br⟩ ⟨dnU (s57 _ _ R5.pl), dnU (s57 _ _ R5.wy), dnU (s57 _ _ R5.br)⟩ (fun x l ev z => by
  obtain ⟨z1, z2⟩ := hdd_at ev
  have := (gU.pr _ (turn_mem z1) z2).2 l rfl
  rw [z, W6.hp] at this
  cases this) (none_back (sm_tr s14 s5) nT6) (none_back (sm_tr s14 (sm_tr s46 s7)) nU8)
end
theorem all_mk {l : PySem.W.OpenLaw} {w : World} {K : Frag} {h : Heap} {mg : Str → Option Value} {fa : Addr} (X : K.In h) (G : h.Ns mainGlobals mg) (hfa : mg "law" = some (.ref fa))
  (a_bg : nsIn K mainGlobals "sum_of" = some (some (.ref f_bg))) (l_bg : K.lookup f_bg = some ⟨oc_bg, od_bg, .func (fnOf "sum_of" "sum_of" (defArgs s_bg) (defBody s_bg) (defScope s_bg) .none kV_bg dc_bg pm_bg an_bg cd_bg ct_bg), sl_bg⟩) (c_bg : codeIn K cd_bg "sum_of" = true) (k_bg : keepIn K (.ref f_bg) = true) (a_a8 : nsIn K mainGlobals "difference_of" = some (some (.ref f_a8))) (l_a8 : K.lookup f_a8 = some ⟨oc_a8, od_a8, .func (fnOf "difference_of" "difference_of" (defArgs s_a8) (defBody s_a8) (defScope s_a8) .none kV_a8 dc_a8 pm_a8 an_a8 cd_a8 ct_a8), sl_a8⟩) (c_a8 : codeIn K cd_a8 "difference_of" = true) (k_a8 : keepIn K (.ref f_a8) = true) (a_am : nsIn K mainGlobals "product_of" = some (some (.ref f_am))) (l_am : K.lookup f_am = some ⟨oc_am, od_am, .func (fnOf "product_of" "product_of" (defArgs s_am) (defBody s_am) (defScope s_am) .none kV_am dc_am pm_am an_am cd_am ct_am), sl_am⟩) (c_am : codeIn K cd_am "product_of" = true) (k_am : keepIn K (.ref f_am) = true) (a_ac : nsIn K mainGlobals "lowest_terms" = some (some (.ref f_ac))) (l_ac : K.lookup f_ac = some ⟨oc_ac, od_ac, .func (fnOf "lowest_terms" "lowest_terms" (defArgs s_ac) (defBody s_ac) (defScope s_ac) .none kV_ac dc_ac pm_ac an_ac cd_ac ct_ac), sl_ac⟩) (c_ac : codeIn K cd_ac "lowest_terms" = true) (k_ac : keepIn K (.ref f_ac) = true) (a_a0 : nsIn K mainGlobals "greatest_shared" = some (some (.ref f_a0))) (l_a0 : K.lookup f_a0 = some ⟨oc_a0, od_a0, .func (fnOf "greatest_shared" "greatest_shared" (defArgs s_a0) (defBody s_a0) (defScope s_a0) .none kV_a0 dc_a0 pm_a0 an_a0 cd_a0 ct_a0), sl_a0⟩) (c_a0 : codeIn K cd_a0 "greatest_shared" = true) (k_a0 : keepIn K (.ref f_a0) = true) (a_az : nsIn K mainGlobals "forces_at" = some (some (.ref f_az))) (l_az : K.lookup f_az = some ⟨oc_az, od_az, .func (fnOf "forces_at" "forces_at" (defArgs s_az) (defBody s_az) (defScope s_az) .none kV_az dc_az pm_az an_az cd_az ct_az), sl_az⟩) (c_az : codeIn K cd_az "forces_at" = true) (k_az : keepIn K (.ref f_az) = true) (a_an : nsIn K mainGlobals "hold_force" = some (some (.ref f_an))) (l_an : K.lookup f_an = some ⟨oc_an, od_an, .func (fnOf "hold_force" "hold_force" (defArgs s_an) (defBody s_an) (defScope s_an) .none kV_an dc_an pm_an an_an cd_an ct_an), sl_an⟩) (c_an : codeIn K cd_an "hold_force" = true) (k_an : keepIn K (.ref f_an) = true) (a_af : nsIn K mainGlobals "arm_between" = some (some (.ref f_af))) (l_af : K.lookup f_af = some ⟨oc_af, od_af, .func (fnOf "arm_between" "arm_between" (defArgs s_af) (defBody s_af) (defScope s_af) .none kV_af dc_af pm_af an_af cd_af ct_af), sl_af⟩) (c_af : codeIn K cd_af "arm_between" = true) (k_af : keepIn K (.ref f_af) = true) (a_bd : nsIn K mainGlobals "pair_sum" = some (some (.ref f_bd))) (l_bd : K.lookup f_bd = some ⟨oc_bd, od_bd, .func (fnOf "pair_sum" "pair_sum" (defArgs s_bd) (defBody s_bd) (defScope s_bd) .none kV_bd dc_bd pm_bd an_bd cd_bd ct_bd), sl_bd⟩) (c_bd : codeIn K cd_bd "pair_sum" = true) (k_bd : keepIn K (.ref f_bd) = true) (a_a1 : nsIn K mainGlobals "pair_difference" = some (some (.ref f_a1))) (l_a1 : K.lookup f_a1 = some ⟨oc_a1, od_a1, .func (fnOf "pair_difference" "pair_difference" (defArgs s_a1) (defBody s_a1) (defScope s_a1) .none kV_a1 dc_a1 pm_a1 an_a1 cd_a1 ct_a1), sl_a1⟩) (c_a1 : codeIn K cd_a1 "pair_difference" = true) (k_a1 : keepIn K (.ref f_a1) = true) (a_ay : nsIn K mainGlobals "stretched" = some (some (.ref f_ay))) (l_ay : K.lookup f_ay = some ⟨oc_ay, od_ay, .func (fnOf "stretched" "stretched" (defArgs s_ay) (defBody s_ay) (defScope s_ay) .none kV_ay dc_ay pm_ay an_ay cd_ay ct_ay), sl_ay⟩) (c_ay : codeIn K cd_ay "stretched" = true) (k_ay : keepIn K (.ref f_ay) = true) (a_ad : nsIn K mainGlobals "_law_cell_at" = some (some (.ref f_ad))) (l_ad : K.lookup f_ad = some ⟨oc_ad, od_ad, .func (fnOf "_law_cell_at" "_law_cell_at" (defArgs s_ad) (defBody s_ad) (defScope s_ad) .none kV_ad dc_ad pm_ad an_ad cd_ad ct_ad), sl_ad⟩) (c_ad : codeIn K cd_ad "_law_cell_at" = true) (k_ad : keepIn K (.ref f_ad) = true) (a_b6 : nsIn K mainGlobals "_law_part" = some (some (.ref f_b6))) (l_b6 : K.lookup f_b6 = some ⟨oc_b6, od_b6, .func (fnOf "_law_part" "_law_part" (defArgs s_b6) (defBody s_b6) (defScope s_b6) .none kV_b6 dc_b6 pm_b6 an_b6 cd_b6 ct_b6), sl_b6⟩) (c_b6 : codeIn K cd_b6 "_law_part" = true) (k_b6 : keepIn K (.ref f_b6) = true) (a_aj : nsIn K mainGlobals "_law_lowest" = some (some (.ref f_aj))) (l_aj : K.lookup f_aj = some ⟨oc_aj, od_aj, .func (fnOf "_law_lowest" "_law_lowest" (defArgs s_aj) (defBody s_aj) (defScope s_aj) .none kV_aj dc_aj pm_aj an_aj cd_aj ct_aj), sl_aj⟩) (c_aj : codeIn K cd_aj "_law_lowest" = true) (k_aj : keepIn K (.ref f_aj) = true) (a_b7 : nsIn K mainGlobals "_law_plus" = some (some (.ref f_b7))) (l_b7 : K.lookup f_b7 = some ⟨oc_b7, od_b7, .func (fnOf "_law_plus" "_law_plus" (defArgs s_b7) (defBody s_b7) (defScope s_b7) .none kV_b7 dc_b7 pm_b7 an_b7 cd_b7 ct_b7), sl_b7⟩) (c_b7 : codeIn K cd_b7 "_law_plus" = true) (k_b7 : keepIn K (.ref f_b7) = true) (a_au : nsIn K mainGlobals "_law_times" = some (some (.ref f_au))) (l_au : K.lookup f_au = some ⟨oc_au, od_au, .func (fnOf "_law_times" "_law_times" (defArgs s_au) (defBody s_au) (defScope s_au) .none kV_au dc_au pm_au an_au cd_au ct_au), sl_au⟩) (c_au : codeIn K cd_au "_law_times" = true) (k_au : keepIn K (.ref f_au) = true) (a_av : nsIn K mainGlobals "_law_drawn" = some (some (.ref f_av))) (l_av : K.lookup f_av = some ⟨oc_av, od_av, .func (fnOf "_law_drawn" "_law_drawn" (defArgs s_av) (defBody s_av) (defScope s_av) .none kV_av dc_av pm_av an_av cd_av ct_av), sl_av⟩) (c_av : codeIn K cd_av "_law_drawn" = true) (k_av : keepIn K (.ref f_av) = true) (a_aw : nsIn K mainGlobals "_law_names" = some (some (.ref f_aw))) (l_aw : K.lookup f_aw = some ⟨oc_aw, od_aw, .func (fnOf "_law_names" "_law_names" (defArgs s_aw) (defBody s_aw) (defScope s_aw) .none kV_aw dc_aw pm_aw an_aw cd_aw ct_aw), sl_aw⟩) (c_aw : codeIn K cd_aw "_law_names" = true) (k_aw : keepIn K (.ref f_aw) = true) (a_b8 : nsIn K mainGlobals "_law_ways" = some (some (.ref f_b8))) (l_b8 : K.lookup f_b8 = some ⟨oc_b8, od_b8, .func (fnOf "_law_ways" "_law_ways" (defArgs s_b8) (defBody s_b8) (defScope s_b8) .none kV_b8 dc_b8 pm_b8 an_b8 cd_b8 ct_b8), sl_b8⟩) (c_b8 : codeIn K cd_b8 "_law_ways" = true) (k_b8 : keepIn K (.ref f_b8) = true) (a_b9 : nsIn K mainGlobals "_law_pins" = some (some (.ref f_b9))) (l_b9 : K.lookup f_b9 = some ⟨oc_b9, od_b9, .func (fnOf "_law_pins" "_law_pins" (defArgs s_b9) (defBody s_b9) (defScope s_b9) .none kV_b9 dc_b9 pm_b9 an_b9 cd_b9 ct_b9), sl_b9⟩) (c_b9 : codeIn K cd_b9 "_law_pins" = true) (k_b9 : keepIn K (.ref f_b9) = true) (a_ba : nsIn K mainGlobals "_law_bars" = some (some (.ref f_ba))) (l_ba : K.lookup f_ba = some ⟨oc_ba, od_ba, .func (fnOf "_law_bars" "_law_bars" (defArgs s_ba) (defBody s_ba) (defScope s_ba) .none kV_ba dc_ba pm_ba an_ba cd_ba ct_ba), sl_ba⟩) (c_ba : codeIn K cd_ba "_law_bars" = true) (k_ba : keepIn K (.ref f_ba) = true) (a_ae : nsIn K mainGlobals "_law_put_pin" = some (some (.ref f_ae))) (l_ae : K.lookup f_ae = some ⟨oc_ae, od_ae, .func (fnOf "_law_put_pin" "_law_put_pin" (defArgs s_ae) (defBody s_ae) (defScope s_ae) .none kV_ae dc_ae pm_ae an_ae cd_ae ct_ae), sl_ae⟩) (c_ae : codeIn K cd_ae "_law_put_pin" = true) (k_ae : keepIn K (.ref f_ae) = true) (a_ax : nsIn K mainGlobals "_law_frame" = some (some (.ref f_ax))) (l_ax : K.lookup f_ax = some ⟨oc_ax, od_ax, .func (fnOf "_law_frame" "_law_frame" (defArgs s_ax) (defBody s_ax) (defScope s_ax) .none kV_ax dc_ax pm_ax an_ax cd_ax ct_ax), sl_ax⟩) (c_ax : codeIn K cd_ax "_law_frame" = true) (k_ax : keepIn K (.ref f_ax) = true) (a_ab : nsIn K mainGlobals "_law_put_anew" = some (some (.ref f_ab))) (l_ab : K.lookup f_ab = some ⟨oc_ab, od_ab, .func (fnOf "_law_put_anew" "_law_put_anew" (defArgs s_ab) (defBody s_ab) (defScope s_ab) .none kV_ab dc_ab pm_ab an_ab cd_ab ct_ab), sl_ab⟩) (c_ab : codeIn K cd_ab "_law_put_anew" = true) (k_ab : keepIn K (.ref f_ab) = true) (a_ak : nsIn K mainGlobals "_law_handed" = some (some (.ref f_ak))) (l_ak : K.lookup f_ak = some ⟨oc_ak, od_ak, .func (fnOf "_law_handed" "_law_handed" (defArgs s_ak) (defBody s_ak) (defScope s_ak) .none kV_ak dc_ak pm_ak an_ak cd_ak ct_ak), sl_ak⟩) (c_ak : codeIn K cd_ak "_law_handed" = true) (k_ak : keepIn K (.ref f_ak) = true) (a_bb : nsIn K mainGlobals "_law_pull" = some (some (.ref f_bb))) (l_bb : K.lookup f_bb = some ⟨oc_bb, od_bb, .func (fnOf "_law_pull" "_law_pull" (defArgs s_bb) (defBody s_bb) (defScope s_bb) .none kV_bb dc_bb pm_bb an_bb cd_bb ct_bb), sl_bb⟩) (c_bb : codeIn K cd_bb "_law_pull" = true) (k_bb : keepIn K (.ref f_bb) = true) (a_al : nsIn K mainGlobals "_law_pushes" = some (some (.ref f_al))) (l_al : K.lookup f_al = some ⟨oc_al, od_al, .func (fnOf "_law_pushes" "_law_pushes" (defArgs s_al) (defBody s_al) (defScope s_al) .none kV_al dc_al pm_al an_al cd_al ct_al), sl_al⟩) (c_al : codeIn K cd_al "_law_pushes" = true) (k_al : keepIn K (.ref f_al) = true) (a_a7 : nsIn K mainGlobals "_law_all_pulls" = some (some (.ref f_a7))) (l_a7 : K.lookup f_a7 = some ⟨oc_a7, od_a7, .func (fnOf "_law_all_pulls" "_law_all_pulls" (defArgs s_a7) (defBody s_a7) (defScope s_a7) .none kV_a7 dc_a7 pm_a7 an_a7 cd_a7 ct_a7), sl_a7⟩) (c_a7 : codeIn K cd_a7 "_law_all_pulls" = true) (k_a7 : keepIn K (.ref f_a7) = true) (a_a4 : nsIn K mainGlobals "_law_all_pushes" = some (some (.ref f_a4))) (l_a4 : K.lookup f_a4 = some ⟨oc_a4, od_a4, .func (fnOf "_law_all_pushes" "_law_all_pushes" (defArgs s_a4) (defBody s_a4) (defScope s_a4) .none kV_a4 dc_a4 pm_a4 an_a4 cd_a4 ct_a4), sl_a4⟩) (c_a4 : codeIn K cd_a4 "_law_all_pushes" = true) (k_a4 : keepIn K (.ref f_a4) = true) (a_be : nsIn K mainGlobals "_law_due" = some (some (.ref f_be))) (l_be : K.lookup f_be = some ⟨oc_be, od_be, .func (fnOf "_law_due" "_law_due" (defArgs s_be) (defBody s_be) (defScope s_be) .none kV_be dc_be pm_be an_be cd_be ct_be), sl_be⟩) (c_be : codeIn K cd_be "_law_due" = true) (k_be : keepIn K (.ref f_be) = true) (a_bc : nsIn K mainGlobals "_law_same" = some (some (.ref f_bc))) (l_bc : K.lookup f_bc = some ⟨oc_bc, od_bc, .func (fnOf "_law_same" "_law_same" (defArgs s_bc) (defBody s_bc) (defScope s_bc) .none kV_bc dc_bc pm_bc an_bc cd_bc ct_bc), sl_bc⟩) (c_bc : codeIn K cd_bc "_law_same" = true) (k_bc : keepIn K (.ref f_bc) = true) (a_law : nsIn K mainGlobals "law" = some (some (.ref f_law))) (l_law : K.lookup f_law = some ⟨oc_law, od_law, .func (fnOf "law" "law" (defArgs s_law) (defBody s_law) (defScope s_law) .none kV_law dc_law pm_law an_law cd_law ct_law), sl_law⟩) (c_law : codeIn K cd_law "law" = true) (k_law : keepIn K (.ref f_law) = true) (a_b3 : nsIn K mainGlobals "MOST_PINS" = some (some (.int 24 tk_b3))) (a_b4 : nsIn K mainGlobals "MOST_BARS" = some (some (.int 60 tk_b4))) (a_bh : nsIn K mainGlobals "NOUGHT" = some (some (.ref c_bh))) (t_bh : K.lookup c_bh = some ⟨.type "tuple", cd_bh, .seq #[.int 0 ck0_bh, .int 1 ck1_bh] cn_bh, cs_bh⟩) (a_bf : nsIn K mainGlobals "NO_MOVE" = some (some (.ref c_bf))) (t_bf : K.lookup c_bf = some ⟨.type "tuple", cd_bf, .seq #[.ref c_b1, .ref c_b2] cn_bf, cs_bf⟩) (t_b1 : K.lookup c_b1 = some ⟨.type "tuple", cd_b1, .seq #[.int 0 ck0_b1, .int 1 ck1_b1] cn_b1, cs_b1⟩) (t_b2 : K.lookup c_b2 = some ⟨.type "tuple", cd_b2, .seq #[.int 0 ck0_b2, .int 1 ck1_b2] cn_b2, cs_b2⟩) (z_ValueError : nsIn K mainGlobals "ValueError" = some none) (z_abs : nsIn K mainGlobals "abs" = some none) (z_all : nsIn K mainGlobals "all" = some none) (z_any : nsIn K mainGlobals "any" = some none) (z_bool : nsIn K mainGlobals "bool" = some none) (z_dict : nsIn K mainGlobals "dict" = some none) (z_int : nsIn K mainGlobals "int" = some none) (z_isinstance : nsIn K mainGlobals "isinstance" = some none) (z_len : nsIn K mainGlobals "len" = some none) (z_list : nsIn K mainGlobals "list" = some none) (z_range : nsIn K mainGlobals "range" = some none) (z_tuple : nsIn K mainGlobals "tuple" = some none) (z_zip : nsIn K mainGlobals "zip" = some none) (a_b5 : nsIn K mainGlobals "YardError" = some (some (.ref C_b5))) (a_bi : nsIn K mainGlobals "NoWay" = some (some (.ref C_bi))) (a_PinThere : nsIn K mainGlobals "PinThere" = some (some (.ref C_PinThere))) (a_SpotTaken : nsIn K mainGlobals "SpotTaken" = some (some (.ref C_SpotTaken))) (a_NoPin : nsIn K mainGlobals "NoPin" = some (some (.ref C_NoPin))) (a_PinBusy : nsIn K mainGlobals "PinBusy" = some (some (.ref C_PinBusy))) (a_BarThere : nsIn K mainGlobals "BarThere" = some (some (.ref C_BarThere))) (a_NoBar : nsIn K mainGlobals "NoBar" = some (some (.ref C_NoBar))) (a_NoLength : nsIn K mainGlobals "NoLength" = some (some (.ref C_NoLength))) (a_TooMany : nsIn K mainGlobals "TooMany" = some (some (.ref C_TooMany))) (a_Frame : nsIn K mainGlobals "Frame" = some (some (.ref C_Frame))) (a_Hold : nsIn K mainGlobals "Hold" = some (some (.ref C_Hold))) (a_Roller : nsIn K mainGlobals "Roller" = some (some (.ref C_Roller))) (a_Fixed : nsIn K mainGlobals "Fixed" = some (some (.ref C_Fixed))) (pg_Frame : PySem.W.plainGet K C_Frame Str.empty = true) (hd_Frame : PySem.W.hasDictIn K C_Frame = true) (po_Frame : PySem.W.plainOver K C_Frame = true) (sa_Frame : PySem.W.findIn K (.ref C_Frame) "__setattr__" = some (some (.builtin "object.__setattr__"))) (mk_Frame : PySem.W.makesIn K C_Frame = true) (kc_Frame : keepIn K (.ref C_Frame) = true) (a_ao : PySem.W.findIn K (.ref C_Frame) "__init__" = some (some (.ref f_ao))) (i_ao : PySem.W.isFn K (.ref f_ao) = true) (l_ao : K.lookup f_ao = some ⟨oc_ao, od_ao, .func (fnOf "__init__" "Frame.__init__" (defArgs s_ao) (defBody s_ao) (defScope s_ao) .none kV_ao dc_ao pm_ao an_ao cd_ao ct_ao), sl_ao⟩) (c_ao : codeIn K cd_ao "Frame.__init__" = true) (k_ao : keepIn K (.ref f_ao) = true) (a_a9 : PySem.W.findIn K (.ref C_Frame) "put_pin" = some (some (.ref f_a9))) (i_a9 : PySem.W.isFn K (.ref f_a9) = true) (l_a9 : K.lookup f_a9 = some ⟨oc_a9, od_a9, .func (fnOf "put_pin" "Frame.put_pin" (defArgs s_a9) (defBody s_a9) (defScope s_a9) (.ref td_a9) kV_a9 dc_a9 pm_a9 an_a9 cd_a9 ct_a9), sl_a9⟩) (t_a9 : K.lookup td_a9 = some ⟨tc_a9, tdd_a9, .seq #[.none] tn_a9, tsl_a9⟩) (c_a9 : codeIn K cd_a9 "Frame.put_pin" = true) (k_a9 : keepIn K (.ref f_a9) = true) (a_aa : PySem.W.findIn K (.ref C_Frame) "put_bar" = some (some (.ref f_aa))) (i_aa : PySem.W.isFn K (.ref f_aa) = true) (l_aa : K.lookup f_aa = some ⟨oc_aa, od_aa, .func (fnOf "put_bar" "Frame.put_bar" (defArgs s_aa) (defBody s_aa) (defScope s_aa) .none kV_aa dc_aa pm_aa an_aa cd_aa ct_aa), sl_aa⟩) (c_aa : codeIn K cd_aa "Frame.put_bar" = true) (k_aa : keepIn K (.ref f_aa) = true) (a_a3 : PySem.W.findIn K (.ref C_Frame) "check_bar" = some (some (.ref f_a3))) (i_a3 : PySem.W.isFn K (.ref f_a3) = true) (l_a3 : K.lookup f_a3 = some ⟨oc_a3, od_a3, .func (fnOf "check_bar" "Frame.check_bar" (defArgs s_a3) (defBody s_a3) (defScope s_a3) .none kV_a3 dc_a3 pm_a3 an_a3 cd_a3 ct_a3), sl_a3⟩) (c_a3 : codeIn K cd_a3 "Frame.check_bar" = true) (k_a3 : keepIn K (.ref f_a3) = true) (a_a2 : PySem.W.findIn K (.ref C_Frame) "check_pin" = some (some (.ref f_a2))) (i_a2 : PySem.W.isFn K (.ref f_a2) = true) (l_a2 : K.lookup f_a2 = some ⟨oc_a2, od_a2, .func (fnOf "check_pin" "Frame.check_pin" (defArgs s_a2) (defBody s_a2) (defScope s_a2) .none kV_a2 dc_a2 pm_a2 an_a2 cd_a2 ct_a2), sl_a2⟩) (c_a2 : codeIn K cd_a2 "Frame.check_pin" = true) (k_a2 : keepIn K (.ref f_a2) = true) (a_a5 : PySem.W.findIn K (.ref C_Frame) "take_bar" = some (some (.ref f_a5))) (i_a5 : PySem.W.isFn K (.ref f_a5) = true) (l_a5 : K.lookup f_a5 = some ⟨oc_a5, od_a5, .func (fnOf "take_bar" "Frame.take_bar" (defArgs s_a5) (defBody s_a5) (defScope s_a5) .none kV_a5 dc_a5 pm_a5 an_a5 cd_a5 ct_a5), sl_a5⟩) (c_a5 : codeIn K cd_a5 "Frame.take_bar" = true) (k_a5 : keepIn K (.ref f_a5) = true) (a_a6 : PySem.W.findIn K (.ref C_Frame) "take_pin" = some (some (.ref f_a6))) (i_a6 : PySem.W.isFn K (.ref f_a6) = true) (l_a6 : K.lookup f_a6 = some ⟨oc_a6, od_a6, .func (fnOf "take_pin" "Frame.take_pin" (defArgs s_a6) (defBody s_a6) (defScope s_a6) .none kV_a6 dc_a6 pm_a6 an_a6 cd_a6 ct_a6), sl_a6⟩) (c_a6 : codeIn K cd_a6 "Frame.take_pin" = true) (k_a6 : keepIn K (.ref f_a6) = true) (a_ap : PySem.W.findIn K (.ref C_Frame) "pins" = some (some (.ref f_ap))) (i_ap : PySem.W.isFn K (.ref f_ap) = true) (l_ap : K.lookup f_ap = some ⟨oc_ap, od_ap, .func (fnOf "pins" "Frame.pins" (defArgs s_ap) (defBody s_ap) (defScope s_ap) .none kV_ap dc_ap pm_ap an_ap cd_ap ct_ap), sl_ap⟩) (c_ap : codeIn K cd_ap "Frame.pins" = true) (k_ap : keepIn K (.ref f_ap) = true) (a_aq : PySem.W.findIn K (.ref C_Frame) "bars" = some (some (.ref f_aq))) (i_aq : PySem.W.isFn K (.ref f_aq) = true) (l_aq : K.lookup f_aq = some ⟨oc_aq, od_aq, .func (fnOf "bars" "Frame.bars" (defArgs s_aq) (defBody s_aq) (defScope s_aq) .none kV_aq dc_aq pm_aq an_aq cd_aq ct_aq), sl_aq⟩) (c_aq : codeIn K cd_aq "Frame.bars" = true) (k_aq : keepIn K (.ref f_aq) = true) (a_ag : PySem.W.findIn K (.ref C_Frame) "place" = some (some (.ref f_ag))) (i_ag : PySem.W.isFn K (.ref f_ag) = true) (l_ag : K.lookup f_ag = some ⟨oc_ag, od_ag, .func (fnOf "place" "Frame.place" (defArgs s_ag) (defBody s_ag) (defScope s_ag) .none kV_ag dc_ag pm_ag an_ag cd_ag ct_ag), sl_ag⟩) (c_ag : codeIn K cd_ag "Frame.place" = true) (k_ag : keepIn K (.ref f_ag) = true) (a_ar : PySem.W.findIn K (.ref C_Frame) "ways" = some (some (.ref f_ar))) (i_ar : PySem.W.isFn K (.ref f_ar) = true) (l_ar : K.lookup f_ar = some ⟨oc_ar, od_ar, .func (fnOf "ways" "Frame.ways" (defArgs s_ar) (defBody s_ar) (defScope s_ar) .none kV_ar dc_ar pm_ar an_ar cd_ar ct_ar), sl_ar⟩) (c_ar : codeIn K cd_ar "Frame.ways" = true) (k_ar : keepIn K (.ref f_ar) = true) (a_as : PySem.W.findIn K (.ref C_Frame) "ends" = some (some (.ref f_as))) (i_as : PySem.W.isFn K (.ref f_as) = true) (l_as : K.lookup f_as = some ⟨oc_as, od_as, .func (fnOf "ends" "Frame.ends" (defArgs s_as) (defBody s_as) (defScope s_as) .none kV_as dc_as pm_as an_as cd_as ct_as), sl_as⟩) (c_as : codeIn K cd_as "Frame.ends" = true) (k_as : keepIn K (.ref f_as) = true) (pg_Hold : PySem.W.plainGet K C_Hold Str.empty = true) (hd_Hold : PySem.W.hasDictIn K C_Hold = true) (po_Hold : PySem.W.plainOver K C_Hold = true) (sa_Hold : PySem.W.findIn K (.ref C_Hold) "__setattr__" = some (some (.builtin "object.__setattr__"))) (mk_Hold : PySem.W.makesIn K C_Hold = true) (kc_Hold : keepIn K (.ref C_Hold) = true) (oi_Hold : PySem.W.findIn K (.ref C_Hold) "__init__" = some (some (.builtin "object.__init__"))) (a_b0 : PySem.W.findIn K (.ref C_Hold) "ways" = some (some (.ref f_b0))) (i_b0 : PySem.W.isFn K (.ref f_b0) = true) (l_b0 : K.lookup f_b0 = some ⟨oc_b0, od_b0, .func (fnOf "ways" "Hold.ways" (defArgs s_b0) (defBody s_b0) (defScope s_b0) .none kV_b0 dc_b0 pm_b0 an_b0 cd_b0 ct_b0), sl_b0⟩) (c_b0 : codeIn K cd_b0 "Hold.ways" = true) (k_b0 : keepIn K (.ref f_b0) = true) (pg_Roller : PySem.W.plainGet K C_Roller Str.empty = true) (hd_Roller : PySem.W.hasDictIn K C_Roller = true) (po_Roller : PySem.W.plainOver K C_Roller = true) (sa_Roller : PySem.W.findIn K (.ref C_Roller) "__setattr__" = some (some (.builtin "object.__setattr__"))) (mk_Roller : PySem.W.makesIn K C_Roller = true) (kc_Roller : keepIn K (.ref C_Roller) = true) (a_ah : PySem.W.findIn K (.ref C_Roller) "__init__" = some (some (.ref f_ah))) (i_ah : PySem.W.isFn K (.ref f_ah) = true) (l_ah : K.lookup f_ah = some ⟨oc_ah, od_ah, .func (fnOf "__init__" "Roller.__init__" (defArgs s_ah) (defBody s_ah) (defScope s_ah) .none kV_ah dc_ah pm_ah an_ah cd_ah ct_ah), sl_ah⟩) (c_ah : codeIn K cd_ah "Roller.__init__" = true) (k_ah : keepIn K (.ref f_ah) = true) (a_ai : PySem.W.findIn K (.ref C_Roller) "ways" = some (some (.ref f_ai))) (i_ai : PySem.W.isFn K (.ref f_ai) = true) (l_ai : K.lookup f_ai = some ⟨oc_ai, od_ai, .func (fnOf "ways" "Roller.ways" (defArgs s_ai) (defBody s_ai) (defScope s_ai) .none kV_ai dc_ai pm_ai an_ai cd_ai ct_ai), sl_ai⟩) (c_ai : codeIn K cd_ai "Roller.ways" = true) (k_ai : keepIn K (.ref f_ai) = true) (pg_Fixed : PySem.W.plainGet K C_Fixed Str.empty = true) (hd_Fixed : PySem.W.hasDictIn K C_Fixed = true) (po_Fixed : PySem.W.plainOver K C_Fixed = true) (sa_Fixed : PySem.W.findIn K (.ref C_Fixed) "__setattr__" = some (some (.builtin "object.__setattr__"))) (mk_Fixed : PySem.W.makesIn K C_Fixed = true) (kc_Fixed : keepIn K (.ref C_Fixed) = true) (oi_Fixed : PySem.W.findIn K (.ref C_Fixed) "__init__" = some (some (.builtin "object.__init__"))) (a_at : PySem.W.findIn K (.ref C_Fixed) "ways" = some (some (.ref f_at))) (i_at : PySem.W.isFn K (.ref f_at) = true) (l_at : K.lookup f_at = some ⟨oc_at, od_at, .func (fnOf "ways" "Fixed.ways" (defArgs s_at) (defBody s_at) (defScope s_at) .none kV_at dc_at pm_at an_at cd_at ct_at), sl_at⟩) (c_at : codeIn K cd_at "Fixed.ways" = true) (k_at : keepIn K (.ref f_at) = true) (n_places : PySem.W.findIn K (.ref C_Frame) "pin_places" = some none) (n_ways : PySem.W.findIn K (.ref C_Frame) "pin_ways" = some none) (n_ends : PySem.W.findIn K (.ref C_Frame) "bar_ends" = some none) (n_way : PySem.W.findIn K (.ref C_Roller) "way" = some none) (ht : l.prog.given.tree = none) :
  ∃ fd : FuncData, (∀ (s : Shared) (v : Value), BindsTo s fd ⟨[v], []⟩ [("_law_script", v)]) ∧ ∀ base : Heap, K.In base → base.Ns mainGlobals mg → FnOk l.prog w K mg base (CXr l.prog w) 42 fa fd ["_law_script"] (spLaw K) := by
 have e := hfa.symm.trans (mg_of X G a_law)
 cases e
 have D_bg : Def K mg "sum_of" s_bg ["one", "other"] := dof X G l_bg c_bg k_bg a_bg
 have D_a8 : Def K mg "difference_of" s_a8 ["one", "other"] := dof X G l_a8 c_a8 k_a8 a_a8
 have D_am : Def K mg "product_of" s_am ["one", "other"] := dof X G l_am c_am k_am a_am
 have D_ac : Def K mg "lowest_terms" s_ac ["top", "bottom"] := dof X G l_ac c_ac k_ac a_ac
 have D_a0 : Def K mg "greatest_shared" s_a0 ["one", "other"] := dof X G l_a0 c_a0 k_a0 a_a0
 have D_az : Def K mg "forces_at" s_az ["F", "pulls", "pushes"] := dof X G l_az c_az k_az a_az
 have D_an : Def K mg "hold_force" s_an ["ways", "pushes"] := dof X G l_an c_an k_an a_an
 have D_af : Def K mg "arm_between" s_af ["F", "one", "other"] := dof X G l_af c_af k_af a_af
 have D_bd : Def K mg "pair_sum" s_bd ["one", "other"] := dof X G l_bd c_bd k_bd a_bd
 have D_a1 : Def K mg "pair_difference" s_a1 ["one", "other"] := dof X G l_a1 c_a1 k_a1 a_a1
 have D_ay : Def K mg "stretched" s_ay ["number", "pair"] := dof X G l_ay c_ay k_ay a_ay
 have D_ad : Def K mg "_law_cell_at" s_ad ["_law_script", "_law_k"] := dof X G l_ad c_ad k_ad a_ad
 have D_b6 : Def K mg "_law_part" s_b6 ["_law_cell", "_law_k"] := dof X G l_b6 c_b6 k_b6 a_b6
 have D_aj : Def K mg "_law_lowest" s_aj ["_law_top", "_law_bottom"] := dof X G l_aj c_aj k_aj a_aj
 have D_b7 : Def K mg "_law_plus" s_b7 ["_law_x", "_law_y"] := dof X G l_b7 c_b7 k_b7 a_b7
 have D_au : Def K mg "_law_times" s_au ["_law_x", "_law_y"] := dof X G l_au c_au k_au a_au
 have D_av : Def K mg "_law_drawn" s_av ["_law_cell", "_law_scale"] := dof X G l_av c_av k_av a_av
 have D_aw : Def K mg "_law_names" s_aw ["_law_cell", "_law_many"] := dof X G l_aw c_aw k_aw a_aw
 have D_b8 : Def K mg "_law_ways" s_b8 ["_law_cell"] := dof X G l_b8 c_b8 k_b8 a_b8
 have D_b9 : Def K mg "_law_pins" s_b9 ["_law_script", "_law_names_here", "_law_scale"] := dof X G l_b9 c_b9 k_b9 a_b9
 have D_ba : Def K mg "_law_bars" s_ba ["_law_script", "_law_names_here", "_law_pins_here"] := dof X G l_ba c_ba k_ba a_ba
 have D_ae : Def K mg "_law_put_pin" s_ae ["_law_frame_here", "_law_pin"] := dof X G l_ae c_ae k_ae a_ae
 have D_ax : Def K mg "_law_frame" s_ax ["_law_pins_here", "_law_bars_here"] := dof X G l_ax c_ax k_ax a_ax
 have D_ab : Def K mg "_law_put_anew" s_ab ["_law_frame_here", "_law_pins_here", "_law_bars_here", "_law_cell", "_law_far"] := dof X G l_ab c_ab k_ab a_ab
 have D_ak : Def K mg "_law_handed" s_ak ["_law_rows", "_law_about"] := dof X G l_ak c_ak k_ak a_ak
 have D_bb : Def K mg "_law_pull" s_bb ["_law_cell", "_law_scale"] := dof X G l_bb c_bb k_bb a_bb
 have D_al : Def K mg "_law_pushes" s_al ["_law_cell", "_law_scale", "_law_ways_here"] := dof X G l_al c_al k_al a_al
 have D_a7 : Def K mg "_law_all_pulls" s_a7 ["_law_script", "_law_bars_here", "_law_scale"] := dof X G l_a7 c_a7 k_a7 a_a7
 have D_a4 : Def K mg "_law_all_pushes" s_a4 ["_law_script", "_law_pins_here", "_law_scale"] := dof X G l_a4 c_a4 k_a4 a_a4
 have D_be : Def K mg "_law_due" s_be ["_law_pins_here", "_law_bars_here", "_law_pulls", "_law_pushes_here"] := dof X G l_be c_be k_be a_be
 have D_bc : Def K mg "_law_same" s_bc ["_law_found", "_law_pins_here", "_law_due_here"] := dof X G l_bc c_bc k_bc a_bc
 have cls_Frame : Cls K C_Frame := ⟨pg_Frame, hd_Frame, po_Frame, sa_Frame⟩
 have M_Frame : Mk K C_Frame f_ao := ⟨mk_Frame, a_ao, i_ao, kc_Frame⟩
 have F_ao := fun_mk (st := s_ao) l_ao c_ao k_ao
 have b_ao := F_ao.bnd (ps := ["self"])
 have m_ao : Meth K C_Frame "__init__" f_ao := ⟨a_ao, i_ao, k_ao⟩
 have F_a9 := fun_mkD (st := s_a9) l_a9 c_a9 k_a9
 have b_a9 : Binds K (fnOf "put_pin" "Frame.put_pin" (defArgs s_a9) (defBody s_a9) (defScope s_a9) (.ref td_a9) kV_a9 dc_a9 pm_a9 an_a9 cd_a9 ct_a9) ["self", "name", "x", "y", "hold"] [] := fun s us X hl => match us, hl with | [_, _, _, _, _], _ => BindsTo.of_defaults rfl (X _ _ t_a9) rfl rfl rfl
 have bd_a9 : Binds K (fnOf "put_pin" "Frame.put_pin" (defArgs s_a9) (defBody s_a9) (defScope s_a9) (.ref td_a9) kV_a9 dc_a9 pm_a9 an_a9 cd_a9 ct_a9) ["self", "name", "x", "y", "hold"] [.none] := fun s us X hl => match us, (show us.length = 4 by simpa using hl) with | [_, _, _, _], _ => BindsTo.of_defaults rfl (X _ _ t_a9) rfl rfl rfl
 have m_a9 : Meth K C_Frame "put_pin" f_a9 := ⟨a_a9, i_a9, k_a9⟩
 have F_aa := fun_mk (st := s_aa) l_aa c_aa k_aa
 have b_aa := F_aa.bnd (ps := ["self", "name", "one", "other"])
 have m_aa : Meth K C_Frame "put_bar" f_aa := ⟨a_aa, i_aa, k_aa⟩
 have F_a3 := fun_mk (st := s_a3) l_a3 c_a3 k_a3
 have b_a3 := F_a3.bnd (ps := ["self", "name", "one", "other"])
 have m_a3 : Meth K C_Frame "check_bar" f_a3 := ⟨a_a3, i_a3, k_a3⟩
 have F_a2 := fun_mk (st := s_a2) l_a2 c_a2 k_a2
 have b_a2 := F_a2.bnd (ps := ["self", "pin"])
 have m_a2 : Meth K C_Frame "check_pin" f_a2 := ⟨a_a2, i_a2, k_a2⟩
 have F_a5 := fun_mk (st := s_a5) l_a5 c_a5 k_a5
 have b_a5 := F_a5.bnd (ps := ["self", "name"])
 have m_a5 : Meth K C_Frame "take_bar" f_a5 := ⟨a_a5, i_a5, k_a5⟩
 have F_a6 := fun_mk (st := s_a6) l_a6 c_a6 k_a6
 have b_a6 := F_a6.bnd (ps := ["self", "name"])
 have m_a6 : Meth K C_Frame "take_pin" f_a6 := ⟨a_a6, i_a6, k_a6⟩
 have F_ap := fun_mk (st := s_ap) l_ap c_ap k_ap
 have b_ap := F_ap.bnd (ps := ["self"])
 have m_ap : Meth K C_Frame "pins" f_ap := ⟨a_ap, i_ap, k_ap⟩
 have F_aq := fun_mk (st := s_aq) l_aq c_aq k_aq
 have b_aq := F_aq.bnd (ps := ["self"])
 have m_aq : Meth K C_Frame "bars" f_aq := ⟨a_aq, i_aq, k_aq⟩
 have F_ag := fun_mk (st := s_ag) l_ag c_ag k_ag
 have b_ag := F_ag.bnd (ps := ["self", "pin"])
 have m_ag : Meth K C_Frame "place" f_ag := ⟨a_ag, i_ag, k_ag⟩
 have F_ar := fun_mk (st := s_ar) l_ar c_ar k_ar
 have b_ar := F_ar.bnd (ps := ["self", "pin"])
 have m_ar : Meth K C_Frame "ways" f_ar := ⟨a_ar, i_ar, k_ar⟩
 have F_as := fun_mk (st := s_as) l_as c_as k_as
 have b_as := F_as.bnd (ps := ["self", "bar"])
 have m_as : Meth K C_Frame "ends" f_as := ⟨a_as, i_as, k_as⟩
 have cls_Hold : Cls K C_Hold := ⟨pg_Hold, hd_Hold, po_Hold, sa_Hold⟩
 have M_Hold : Mk0 K C_Hold := ⟨mk_Hold, oi_Hold, kc_Hold⟩
 have F_b0 := fun_mk (st := s_b0) l_b0 c_b0 k_b0
 have b_b0 := F_b0.bnd (ps := ["self"])
 have m_b0 : Meth K C_Hold "ways" f_b0 := ⟨a_b0, i_b0, k_b0⟩
 have cls_Roller : Cls K C_Roller := ⟨pg_Roller, hd_Roller, po_Roller, sa_Roller⟩
 have M_Roller : Mk K C_Roller f_ah := ⟨mk_Roller, a_ah, i_ah, kc_Roller⟩
 have F_ah := fun_mk (st := s_ah) l_ah c_ah k_ah
 have b_ah := F_ah.bnd (ps := ["self", "x", "y"])
 have m_ah : Meth K C_Roller "__init__" f_ah := ⟨a_ah, i_ah, k_ah⟩
 have F_ai := fun_mk (st := s_ai) l_ai c_ai k_ai
 have b_ai := F_ai.bnd (ps := ["self"])
 have m_ai : Meth K C_Roller "ways" f_ai := ⟨a_ai, i_ai, k_ai⟩
 have cls_Fixed : Cls K C_Fixed := ⟨pg_Fixed, hd_Fixed, po_Fixed, sa_Fixed⟩
 have M_Fixed : Mk0 K C_Fixed := ⟨mk_Fixed, oi_Fixed, kc_Fixed⟩
 have F_at := fun_mk (st := s_at) l_at c_at k_at
 have b_at := F_at.bnd (ps := ["self"])
 have m_at : Meth K C_Fixed "ways" f_at := ⟨a_at, i_at, k_at⟩
 have m_b3 := mg_of X G a_b3
 have m_b4 := mg_of X G a_b4
 have m_bh : mg "NOUGHT" = some (.ref c_bh) := mg_of X G a_bh
 have m_bf : mg "NO_MOVE" = some (.ref c_bf) := mg_of X G a_bf
 have m_b5 : mg "YardError" = some (.ref C_b5) := mg_of X G a_b5
 have m_bi : mg "NoWay" = some (.ref C_bi) := mg_of X G a_bi
 have m_PinThere : mg "PinThere" = some (.ref C_PinThere) := mg_of X G a_PinThere
 have m_SpotTaken : mg "SpotTaken" = some (.ref C_SpotTaken) := mg_of X G a_SpotTaken
 have m_NoPin : mg "NoPin" = some (.ref C_NoPin) := mg_of X G a_NoPin
 have m_PinBusy : mg "PinBusy" = some (.ref C_PinBusy) := mg_of X G a_PinBusy
 have m_BarThere : mg "BarThere" = some (.ref C_BarThere) := mg_of X G a_BarThere
 have m_NoBar : mg "NoBar" = some (.ref C_NoBar) := mg_of X G a_NoBar
 have m_NoLength : mg "NoLength" = some (.ref C_NoLength) := mg_of X G a_NoLength
 have m_TooMany : mg "TooMany" = some (.ref C_TooMany) := mg_of X G a_TooMany
 have m_Frame : mg "Frame" = some (.ref C_Frame) := mg_of X G a_Frame
 have m_Hold : mg "Hold" = some (.ref C_Hold) := mg_of X G a_Hold
 have m_Roller : mg "Roller" = some (.ref C_Roller) := mg_of X G a_Roller
 have m_Fixed : mg "Fixed" = some (.ref C_Fixed) := mg_of X G a_Fixed
 have m_ValueError : mg "ValueError" = none := mg_none_of X G z_ValueError
 have m_abs : mg "abs" = none := mg_none_of X G z_abs
 have m_all : mg "all" = none := mg_none_of X G z_all
 have m_any : mg "any" = none := mg_none_of X G z_any
 have m_bool : mg "bool" = none := mg_none_of X G z_bool
 have m_dict : mg "dict" = none := mg_none_of X G z_dict
 have m_int : mg "int" = none := mg_none_of X G z_int
 have m_isinstance : mg "isinstance" = none := mg_none_of X G z_isinstance
 have m_len : mg "len" = none := mg_none_of X G z_len
 have m_list : mg "list" = none := mg_none_of X G z_list
 have m_range : mg "range" = none := mg_none_of X G z_range
 have m_tuple : mg "tuple" = none := mg_none_of X G z_tuple
 have m_zip : mg "zip" = none := mg_none_of X G z_zip
 have F := fun_mk (st := s_law) l_law c_law k_law
 refine ⟨fnOf "law" "law" (defArgs s_law) (defBody s_law) (defScope s_law) .none kV_law dc_law pm_law an_law cd_law ct_law, fun s v => .of_eq rfl, fun base _ _ => ?_⟩
 have hM : Mute (CXr l.prog w) := CXr.mute
 have nm : ∀ {c : Addr} {o : Option Addr} {k0 k1 : Tok} {n : Nat} {sl : Array (Option Value)}, K.lookup c = some ⟨.type "tuple", o, .seq #[.int 0 k0, .int 1 k1] n, sl⟩ → ∀ H : Hp, NmR K H (.ref c) 0 := fun t H => ⟨_, rfl, by rw [qr_nought]; exact .inr ⟨_, _, _, t, rfl, rfl, (by show 2 ≤ sizeLine; decide), .cons ⟨_, rfl⟩ (.cons ⟨_, rfl⟩ .nil)⟩⟩
 have hN : ∀ H : Hp, NmR K H (.ref c_bh) 0 := nm t_bh
 have hMo : ∀ H : Hp, PtR K H (.ref c_bf) (0, 0) := fun H => ⟨_, .ref c_b1, .ref c_b2, rfl, .inr ⟨_, _, _, t_bf, rfl, rfl, (by show 2 ≤ sizeLine; decide), .cons rfl (.cons rfl .nil)⟩, nm t_b1 H, nm t_b2 H⟩
 have fc : FrC K C_Frame := ⟨cls_Frame, n_places, n_ways, n_ends⟩
 have G1 := ok_a0 (P := l.prog) (w := w) (base := base) (CX := CXr l.prog w) D_a0 m_abs
 have G2 := ok_ac ht D_ac G1
 have GS := fn_add (ok_bg hM D_bg G2)
 have GD := fn_sub (ok_a8 hM D_a8 G2)
 have GP := fn_mul (ok_am hM D_am G2)
 have GPS := ok_bd hM D_bd GS
 have GPD := ok_a1 hM D_a1 GD
 have GSt := ok_ay hM D_ay GP
 have GI := ok_ao (P := l.prog) (w := w) (mg := mg) (base := base) F_ao fc
 have MBs : MtdOk l.prog w K mg base (CXr l.prog w) 1 C_Frame "bars" ["self"] (spBars K C_Frame) := ⟨_, _, cls_Frame, m_aq, ok_aq F_aq fc m_list, b_aq⟩
 have MPn : MtdOk l.prog w K mg base (CXr l.prog w) 1 C_Frame "pins" ["self"] (spPins K C_Frame) := ⟨_, _, cls_Frame, m_ap, ok_ap F_ap fc m_list, b_ap⟩
 have MCp : MtdOk l.prog w K mg base (CXr l.prog w) 1 C_Frame "check_pin" ["self", "pin"] (spCheckPin K C_Frame) := ⟨_, _, cls_Frame, m_a2, ok_a2 F_a2 fc, b_a2⟩
 have MCb : MtdOk l.prog w K mg base (CXr l.prog w) 2 C_Frame "check_bar" ["self", "name", "one", "other"] (spCheckBar K C_Frame) := ⟨_, _, cls_Frame, m_a3, ok_a3 F_a3 fc m_b4 m_len MCp, b_a3⟩
 have MPb : MtdOk l.prog w K mg base (CXr l.prog w) 3 C_Frame "put_bar" ["self", "name", "one", "other"] (spPutBar K C_Frame) := ⟨_, _, cls_Frame, m_aa, ok_aa F_aa fc MCb, b_aa⟩
 have MPp : MtdOk l.prog w K mg base (CXr l.prog w) 3 C_Frame "put_pin" ["self", "name", "x", "y", "hold"] (spPutPinW l.prog w K mg base C_Frame) := ⟨_, _, cls_Frame, m_a9, ok_a9 F_a9 fc m_b3 m_len m_list, b_a9⟩
 have MTb : MtdOk l.prog w K mg base (CXr l.prog w) 1 C_Frame "take_bar" ["self", "name"] (spTakeBar K C_Frame) := ⟨_, _, cls_Frame, m_a5, ok_a5 F_a5 fc, b_a5⟩
 have MTp : MtdOk l.prog w K mg base (CXr l.prog w) 2 C_Frame "take_pin" ["self", "name"] (spTakePinW K C_Frame) := ⟨_, _, cls_Frame, m_a6, ok_a6 F_a6 fc MCp, b_a6⟩
 have MPl : MtdOk l.prog w K mg base (CXr l.prog w) 2 C_Frame "place" ["self", "pin"] (spPlace K C_Frame) := ⟨_, _, cls_Frame, m_ag, ok_ag F_ag fc MCp, b_ag⟩
 have ME : MtdOk l.prog w K mg base (CXr l.prog w) 1 C_Frame "ends" ["self", "bar"] (spEnds K C_Frame) := ⟨_, _, cls_Frame, m_as, ok_as F_as fc, b_as⟩
 have MW : MtdOk l.prog w K mg base (CXr l.prog w) 2 C_Frame "ways" ["self", "pin"] (spWays K C_Frame) := ⟨_, _, cls_Frame, m_ar, ok_ar F_ar fc m_list MCp, b_ar⟩
 have wH : MtdOk l.prog w K mg base (CXr l.prog w) 1 C_Hold "ways" ["self"] (spHold K) := ⟨_, _, cls_Hold, m_b0, ok_b0 F_b0, b_b0⟩
 have wR : MtdOk l.prog w K mg base (CXr l.prog w) 1 C_Roller "ways" ["self"] (spRWays K C_Roller) := ⟨_, _, cls_Roller, m_ai, ok_ai F_ai cls_Roller n_way, b_ai⟩
 have wF : MtdOk l.prog w K mg base (CXr l.prog w) 1 C_Fixed "ways" ["self"] (spFixed K) := ⟨_, _, cls_Fixed, m_at, ok_at F_at, b_at⟩
 have GRI := ok_ah (P := l.prog) (w := w) (mg := mg) (base := base) F_ah cls_Roller n_way
 have GA := ok_af D_af MPl GPD
 have GH := ok_an hMo m_bf m_zip D_an GPS GSt
 have GF := ok_az hN m_bh D_az MPn MW MBs ME GH GA GSt GPS GPD
 have GC := ok_ad (P := l.prog) (w := w) (base := base) (CX := CXr l.prog w) D_ad m_len
 have GPt := ok_b6 (P := l.prog) (w := w) (base := base) (CX := CXr l.prog w) D_b6 m_range
 have GLw := ok_aj (w := w) (base := base) ht D_aj m_abs
 have GPl := fn_add (ok_b7 hM D_b7 GLw)
 have GTi := fn_mul (ok_au hM D_au GLw)
 have GDr := ok_av D_av GLw
 have GNa := ok_aw (P := l.prog) (w := w) (base := base) (CX := CXr l.prog w) D_aw m_range m_len
 have GWy := ok_b8 D_b8 GLw
 have GPi := ok_b9 D_b9 m_range GC GPt GDr GWy
 have GBa := ok_ba D_ba m_range m_len GC
 have GPn := ok_ae D_ae m_len m_Hold m_Roller m_Fixed M_Hold M_Fixed M_Roller GRI b_ah (wH.mono (by decide)) (wR.mono (by decide)) (wF.mono (by decide)) MPp
 have GFr := ok_ax D_ax M_Frame m_Frame GI b_ao GPn MPb
 have GPu := ok_bb D_bb GDr
 have GPh := ok_al D_al m_len m_range GPt GDr
 exact ok_law F m_len m_list m_int GC GNa GPi GBa GFr (ok_a7 D_a7 m_len m_range GC GPu) (ok_a4 D_a4 m_len m_range GC GPh) (ok_ak D_ak) GPh (ok_be D_be m_len m_range GPl GTi) (ok_bc (P := l.prog) (w := w) (base := base) D_bc m_isinstance m_dict m_list m_tuple m_int m_bool m_len m_all m_any) (ok_ab D_ab m_len GPl GPt GWy GPn MPb MTb MTp) GF
end T_k15
open PySem PySem.W PyProof.Rows
set_option maxRecDepth 100000 in
set_option maxHeartbeats 0 in
theorem PySem.Challenge.cw_trussyard_k15_forces_at_pins_holds : PySem.Challenge.rw_trussyard_k15_forces_at_pins.Holds := by
 w_on; o_law; k_head; (case hw => w_witness2)
 k_fill
 refine Ty.walk (l := PySem.Challenge.rw_trussyard_k15_forces_at_pins) (x := "_law_script") (k := 42) (CX := fun w => Ty.CXr (PySem.Challenge.rw_trussyard_k15_forces_at_pins).prog w) rfl rfl (by first | rfl | decide +kernel) ⟨rfl, by decide, by decide⟩ (fun w h Y => PySem.W.kIn_of Y) (fun w => Ty.CXr.mute) ?F
 case F =>
  intro w mg fa h KX G hmg
  refine' T_k15.all_mk KX G hmg ?A0 ?A1 ?A2 ?A3 ?A4 ?A5 ?A6 ?A7 ?A8 ?A9 ?Aa ?Ab ?Ac ?Ad ?Ae ?Af ?Ag ?Ah ?Ai ?Aj ?Ak ?Al ?Am ?An ?Ao ?Ap ?Aq ?Ar ?As ?At ?Au ?Av ?Aw ?Ax ?Ay ?Az ?B0 ?B1 ?B2 ?B3 ?B4 ?B5 ?B6 ?B7 ?B8 ?B9 ?Ba ?Bb ?Bc ?Bd ?Be ?Bf ?Bg ?Bh ?Bi ?Bj ?Bk ?Bl ?Bm ?Bn ?Bo ?Bp ?Bq ?Br ?Bs ?Bt ?Bu ?Bv ?Bw ?Bx ?By ?Bz ?C0 ?C1 ?C2 ?C3 ?C4 ?C5 ?C6 ?C7 ?C8 ?C9 ?Ca ?Cb ?Cc ?Cd ?Ce ?Cf ?Cg ?Ch ?Ci ?Cj ?Ck ?Cl ?Cm ?Cn ?Co ?Cp ?Cq ?Cr ?Cs ?Ct ?Cu ?Cv ?Cw ?Cx ?Cy ?Cz ?D0 ?D1 ?D2 ?D3 ?D4 ?D5 ?D6 ?D7 ?D8 ?D9 ?Da ?Db ?Dc ?Dd ?De ?Df ?Dg ?Dh ?Di ?Dj ?Dk ?Dl ?Dm ?Dn ?Do ?Dp ?Dq ?Dr ?Ds ?Dt ?Du ?Dv ?Dw ?Dx ?Dy ?Dz ?E0 ?E1 ?E2 ?E3 ?E4 ?E5 ?E6 ?E7 ?E8 ?E9 ?Ea ?Eb ?Ec ?Ed ?Ee ?Ef ?Eg ?Eh ?Ei ?Ej ?Ek ?El ?Em ?En ?Eo ?Ep ?Eq ?Er ?Es ?Et ?Eu ?Ev ?Ew ?Ex ?Ey ?Ez ?F0 ?F1 ?F2 ?F3 ?F4 ?F5 ?F6 ?F7 ?F8 ?F9 ?Fa ?Fb ?Fc ?Fd ?Fe ?Ff ?Fg ?Fh ?Fi ?Fj ?Fk ?Fl ?Fm ?Fn ?Fo ?Fp ?Fq ?Fr ?Fs ?Ft ?Fu ?Fv ?Fw ?Fx ?Fy ?Fz ?G0 ?G1 ?G2 ?G3 ?G4 ?G5 ?G6 ?G7 ?G8 ?G9 ?Ga ?Gb ?Gc ?Gd ?Ge ?Gf ?Gg ?Gh ?Gi ?Gj ?Gk ?Gl ?Gm ?Gn ?Go ?Gp ?Gq ?Gr ?Gs ?Gt ?Gu ?Gv ?Gw ?Gx ?Gy ?Gz ?H0 ?H1 ?H2 ?H3 ?H4 ?H5 ?H6 ?H7 ?H8 ?H9 ?Ha ?Hb ?Hc ?Hd ?He ?Hf ?Hg ?Hh ?Hi ?Hj ?Hk ?Hl ?Hm
  (case A0=>k_is);(case A1=>k_is);(case A2=>k_is);(case A3=>k_is);(case A4=>k_is);(case A5=>k_is);(case A6=>k_is);(case A7=>k_is);(case A8=>k_is);(case A9=>k_is);(case Aa=>k_is);(case Ab=>k_is);(case Ac=>k_is);(case Ad=>k_is);(case Ae=>k_is);(case Af=>k_is);(case Ag=>k_is);(case Ah=>k_is);(case Ai=>k_is);(case Aj=>k_is);(case Ak=>k_is);(case Al=>k_is);(case Am=>k_is);(case An=>k_is);(case Ao=>k_is);(case Ap=>k_is);(case Aq=>k_is);(case Ar=>k_is);(case As=>k_is);(case At=>k_is);(case Au=>k_is);(case Av=>k_is);(case Aw=>k_is);(case Ax=>k_is);(case Ay=>k_is);(case Az=>k_is);(case B0=>k_is);(case B1=>k_is);(case B2=>k_is);(case B3=>k_is);(case B4=>k_is);(case B5=>k_is);(case B6=>k_is);(case B7=>k_is);(case B8=>k_is);(case B9=>k_is);(case Ba=>k_is);(case Bb=>k_is);(case Bc=>k_is);(case Bd=>k_is);(case Be=>k_is);(case Bf=>k_is);(case Bg=>k_is);(case Bh=>k_is);(case Bi=>k_is);(case Bj=>k_is);(case Bk=>k_is);(case Bl=>k_is);(case Bm=>k_is);(case Bn=>k_is);(case Bo=>k_is);(case Bp=>k_is);(case Bq=>k_is);(case Br=>k_is);(case Bs=>k_is);(case Bt=>k_is);(case Bu=>k_is);(case Bv=>k_is);(case Bw=>k_is);(case Bx=>k_is);(case By=>k_is);(case Bz=>k_is);(case C0=>k_is);(case C1=>k_is);(case C2=>k_is);(case C3=>k_is);(case C4=>k_is);(case C5=>k_is);(case C6=>k_is);(case C7=>k_is);(case C8=>k_is);(case C9=>k_is);(case Ca=>k_is);(case Cb=>k_is);(case Cc=>k_is);(case Cd=>k_is);(case Ce=>k_is);(case Cf=>k_is);(case Cg=>k_is);(case Ch=>k_is);(case Ci=>k_is);(case Cj=>k_is);(case Ck=>k_is);(case Cl=>k_is);(case Cm=>k_is);(case Cn=>k_is);(case Co=>k_is);(case Cp=>k_is);(case Cq=>k_is);(case Cr=>k_is);(case Cs=>k_is);(case Ct=>k_is);(case Cu=>k_is);(case Cv=>k_is);(case Cw=>k_is);(case Cx=>k_is);(case Cy=>k_is);(case Cz=>k_is);(case D0=>k_is);(case D1=>k_is);(case D2=>k_is);(case D3=>k_is);(case D4=>k_is);(case D5=>k_is);(case D6=>k_is);(case D7=>k_is);(case D8=>k_is);(case D9=>k_is);(case Da=>k_is);(case Db=>k_is);(case Dc=>k_is);(case Dd=>k_is);(case De=>k_is);(case Df=>k_is);(case Dg=>k_is);(case Dh=>k_is);(case Di=>k_is);(case Dj=>k_is);(case Dk=>k_is);(case Dl=>k_is);(case Dm=>k_is);(case Dn=>k_is);(case Do=>k_is);(case Dp=>k_is);(case Dq=>k_is);(case Dr=>k_is);(case Ds=>k_is);(case Dt=>k_is);(case Du=>k_is);(case Dv=>k_is);(case Dw=>k_is);(case Dx=>k_is);(case Dy=>k_is);(case Dz=>k_is);(case E0=>k_is);(case E1=>k_is);(case E2=>k_is);(case E3=>k_is);(case E4=>k_is);(case E5=>k_is);(case E6=>k_is);(case E7=>k_is);(case E8=>k_is);(case E9=>k_is);(case Ea=>k_is);(case Eb=>k_is);(case Ec=>k_is);(case Ed=>k_is);(case Ee=>k_is);(case Ef=>k_is);(case Eg=>k_is);(case Eh=>k_is);(case Ei=>k_is);(case Ej=>k_is);(case Ek=>k_is);(case El=>k_is);(case Em=>k_is);(case En=>k_is);(case Eo=>k_is);(case Ep=>k_is);(case Eq=>k_is);(case Er=>k_is);(case Es=>k_is);(case Et=>k_is);(case Eu=>k_is);(case Ev=>k_is);(case Ew=>k_is);(case Ex=>k_is);(case Ey=>k_is);(case Ez=>k_is);(case F0=>k_is);(case F1=>k_is);(case F2=>k_is);(case F3=>k_is);(case F4=>k_is);(case F5=>k_is);(case F6=>k_is);(case F7=>k_is);(case F8=>k_is);(case F9=>k_is);(case Fa=>k_is);(case Fb=>k_is);(case Fc=>k_is);(case Fd=>k_is);(case Fe=>k_is);(case Ff=>k_is);(case Fg=>k_is);(case Fh=>k_is);(case Fi=>k_is);(case Fj=>k_is);(case Fk=>k_is);(case Fl=>k_is);(case Fm=>k_is);(case Fn=>k_is);(case Fo=>k_is);(case Fp=>k_is);(case Fq=>k_is);(case Fr=>k_is);(case Fs=>k_is);(case Ft=>k_is);(case Fu=>k_is);(case Fv=>k_is);(case Fw=>k_is);(case Fx=>k_is);(case Fy=>k_is);(case Fz=>k_is);(case G0=>k_is);(case G1=>k_is);(case G2=>k_is);(case G3=>k_is);(case G4=>k_is);(case G5=>k_is);(case G6=>k_is);(case G7=>k_is);(case G8=>k_is);(case G9=>k_is);(case Ga=>k_is);(case Gb=>k_is);(case Gc=>k_is);(case Gd=>k_is);(case Ge=>k_is);(case Gf=>k_is);(case Gg=>k_is);(case Gh=>k_is);(case Gi=>k_is);(case Gj=>k_is);(case Gk=>k_is);(case Gl=>k_is);(case Gm=>k_is);(case Gn=>k_is);(case Go=>k_is);(case Gp=>k_is);(case Gq=>k_is);(case Gr=>k_is);(case Gs=>k_is);(case Gt=>k_is);(case Gu=>k_is);(case Gv=>k_is);(case Gw=>k_is);(case Gx=>k_is);(case Gy=>k_is);(case Gz=>k_is);(case H0=>k_is);(case H1=>k_is);(case H2=>k_is);(case H3=>k_is);(case H4=>k_is);(case H5=>k_is);(case H6=>k_is);(case H7=>k_is);(case H8=>k_is);(case H9=>k_is);(case Ha=>k_is);(case Hb=>k_is);(case Hc=>k_is);(case Hd=>k_is);(case He=>k_is);(case Hf=>k_is);(case Hg=>k_is);(case Hh=>k_is);(case Hi=>k_is);(case Hj=>k_is);(case Hk=>k_is);(case Hl=>k_is);(case Hm=>rfl)
#print axioms PySem.Challenge.cw_trussyard_k15_forces_at_pins_holds
